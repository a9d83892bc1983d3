import PyProof.Rows.All
import Wide.All
import OpenK.AllK
import Wide.FinOn
import Lean
import PyProof.EqAt
import PyProof.EqKinds
import PyProof.TupleCall
import PyProof.NeKinds
import PyProof.ZipIter
import KE.KTryMore
import KE.KIsAll
import PyProof.Rows.CountFlat
import PyProof.Rows.FStr
import PyProof.EnumMake
import PyProof.EnumStmt
import KE.KDictLaws
import PyProof.DictWalks
import PyProof.Rows.SetFrom
import KE.KItemsList
import PySem.Challenge.RW_fewdistances_k32_boards_filled_and_great
set_option Elab.async false
set_option linter.all false
set_option maxRecDepth 100000
set_option maxHeartbeats 0
set_option tactic.hygienic false
set_option bootstrap.genMatcherCode false
set_option genSizeOf false
set_option compiler.extract_closed false
theorem kd {p : Prop} [Decidable p] (h : p:=by decide +kernel) : p:=h
theorem au1 (h : 0 = 0:=by first | exact .inl rfl | exact .inr rfl | assumption) (k : 0 = 0) : 0 = 0:=k
theorem au2 (h : 0 = 0:=by decide) : 0 = 0:=h
theorem au3 (h : 0 = 0:=by rfl) : 0 = 0:=h
theorem au4 (h : 0 = 0:=by intro _; rfl) (k : 0 = 0) : 0 = 0:=k
theorem au5 (h : 0 = 0:=by first | exact qMI _ | with_unfolding_all rfl) (k : 0 = 0) : 0 = 0:=k
theorem au6 (h : 0 = 0:=by intro _ _; rfl) (k : 0 = 0) : 0 = 0:=k
theorem au7 (h : 0 = 0:=by with_unfolding_all rfl) : 0 = 0:=h
theorem au8 (h : 0 = 0:=by first | exact Or.inl rfl | exact Or.inr rfl) (k : 0 = 0) : 0 = 0:=k
section
namespace _L
open PySem PySem.Spec PyProof.Rows
abbrev Key:=Sum Int Str
noncomputable def qKc : Key → Value → Bool
 | .inl k,v => Value.isInt k v
 | .inr x,v => Value.isStrOf x v
noncomputable def qaT (w : World) : Key → Int
 | .inl k => hashInt k
 | .inr x => hashStr w x
theorem qBt : ∀ {k : Key} {v : Value},qKc k v = true → (∃ i t,k = Sum.inl i ∧ v = Value.int i t) ∨ (∃ x t,k = Sum.inr x ∧ v = Value.str x t)
 | .inl i,v,h => by
  obtain ⟨t,e⟩:=Value.isInt_shape (k:=i) (v:=v) h
  exact .inl ⟨i,t,rfl,e⟩
 | .inr x,v,h => by
  obtain ⟨t,e⟩:=Value.isStrOf_shape (x:=x) (v:=v) h
  exact .inr ⟨x,t,rfl,e⟩
theorem qST (i : Int) (t : Tok) : qKc (.inl i) (.int i t) = true:=by simp [qKc,Value.isInt]
theorem qSU (x : Str) (t : Tok) : qKc (.inr x) (.str x t) = true:=by simp [qKc,Value.isStrOf]
theorem qXr (a b : Int) : decide ((Sum.inl a : Key) = Sum.inl b) = (a == b):=by
 by_cases e : a = b
 ·subst e; simp
 ·have h : ¬ (Sum.inl a : Key) = Sum.inl b:=fun q => e (Sum.inl.inj q)
  rw [decide_eq_false h]
  exact (beq_eq_false_iff_ne.mpr e).symm
theorem qXu (a b : Str) : decide ((Sum.inr a : Key) = Sum.inr b) = decide (a = b):=by
 by_cases e : a = b
 ·subst e; simp
 ·have h : ¬ (Sum.inr a : Key) = Sum.inr b:=fun q => e (Sum.inr.inj q)
  rw [decide_eq_false h,decide_eq_false e]
theorem qXs (a : Int) (b : Str) : decide ((Sum.inl a : Key) = Sum.inr b) = false:=decide_eq_false (fun q => nomatch q)
theorem qXt (a : Str) (b : Int) : decide ((Sum.inr a : Key) = Sum.inl b) = false:=decide_eq_false (fun q => nomatch q)
noncomputable def qBP (prog : Program) (w : World) : PySem.KeyKind prog w Key where
 is:=qKc
 hash:=qaT w
 inj:=fun v a b ha hb => by
  rcases qBt ha with ⟨i,t,rfl,rfl⟩ | ⟨x,t,rfl,rfl⟩
  ·rcases qBt hb with ⟨j,u,rfl,e⟩ | ⟨y,u,rfl,e⟩
   ·injection e with e1 _; rw [e1]
   ·exact nomatch e
  ·rcases qBt hb with ⟨j,u,rfl,e⟩ | ⟨y,u,rfl,e⟩
   ·exact nomatch e
   ·injection e with e1 _; rw [e1]
 byValue:=fun k v h => by
  rcases qBt h with ⟨i,t,rfl,rfl⟩ | ⟨x,t,rfl,rfl⟩ <;> rfl
 pyHash:=fun hv h => by
  rcases qBt hv with ⟨i,t,rfl,rfl⟩ | ⟨x,t,rfl,rfl⟩
  ·exact wpAny_pyHash_int h
  ·exact wpAny_pyHash_str h
 eqBool:=fun hu hv h => by
  rcases qBt hu with ⟨i,t,rfl,rfl⟩ | ⟨x,t,rfl,rfl⟩
  ·rcases qBt hv with ⟨j,u,rfl,rfl⟩ | ⟨y,u,rfl,rfl⟩
   ·rw [qXr] at h; exact wpAny_eqBool_int h
   ·rw [qXs] at h; exact SeqAt.EqAt.int_str i t y u _ _ _ _ h
  ·rcases qBt hv with ⟨j,u,rfl,rfl⟩ | ⟨y,u,rfl,rfl⟩
   ·rw [qXt] at h; exact SeqAt.EqAt.str_int x t j u _ _ _ _ h
   ·rw [qXu] at h; exact wpAny_eqBool_str h
 «strs»:=fun k x t v h => by
  rcases qBt h with ⟨i,u,rfl,e⟩ | ⟨y,u,rfl,e⟩
  ·exact nomatch e
  ·injection e with e1 _
   subst e1
   cases v <;> rfl
theorem qQG (prog : Program) (w : World) (i : Int) (t : Tok) : (qBP prog w).is (.inl i) (.int i t) = true:=qST i t
theorem qQH (prog : Program) (w : World) (x : Str) (t : Tok) : (qBP prog w).is (.inr x) (.str x t) = true:=qSU x t
end _L
namespace _L
open PySem PySem.Spec PyProof.Rows
inductive V where
 | non | bl (b : Bool) | int (i : Int) | str (x : Str) | byt (b : Array UInt8) | flt (b : UInt64) | ref (a : Addr) | ty (n : String)
 deriving DecidableEq
noncomputable def qAY : V → Value → Prop
 | .non,u => u = Value.none
 | .bl b,u => u = Value.bool b
 | .int i,u => ∃ t,u = Value.int i t
 | .str x,u => ∃ t,u = Value.str x t
 | .byt b,u => ∃ t,u = Value.bytes b t
 | .flt b,u => ∃ t,u = Value.float b t
 | .ref a,u => u = Value.ref a
 | .ty n,u => u = Value.type n
abbrev qAZ : List V → List Value → Prop:=Paired qAY
theorem qAZ.length {xs : List V} {us : List Value} (r : qAZ xs us) : xs.length = us.length:=Paired.length r
theorem qAZ.get : ∀ {xs : List V} {us : List Value} {i : Nat} {x : V},qAZ xs us → xs[i]? = some x → ∃ u,us[i]? = some u ∧ qAY x u
 | _,_,_,_,.nil,e => by simp at e
 | _,_,0,_,.cons r _,e => by simp at e; subst e; exact ⟨_,rfl,r⟩
 | _,_,i + 1,x,.cons _ t,e => by
  obtain ⟨u,h1,h2⟩:=qAZ.get (i:=i) (x:=x) t (by simpa using e)
  exact ⟨u,by simpa using h1,h2⟩
theorem qAZ.set {x : V} {u : Value} (r : qAY x u) : ∀ {xs : List V} {us : List Value} (i : Nat),qAZ xs us → qAZ (xs.set i x) (us.set i u)
 | _,_,_,.nil => .nil
 | _,_,0,.cons _ t => .cons r t
 | _,_,i + 1,.cons q t => .cons q (qAZ.set r i t)
theorem qAZ.append {xs ys : List V} {us ws : List Value} (h : qAZ xs us) (s : qAZ ys ws) : qAZ (xs ++ ys) (us ++ ws):=by
 induction h with
 | nil => exact s
 | cons r t ih => exact .cons r ih
theorem qAZ.take : ∀ {xs : List V} {us : List Value} (n : Nat),qAZ xs us → qAZ (xs.take n) (us.take n)
 | _,_,0,_ => .nil
 | _,_,_ + 1,.nil => .nil
 | _,_,n + 1,.cons r t => .cons r (qAZ.take n t)
theorem qAZ.drop : ∀ {xs : List V} {us : List Value} (n : Nat),qAZ xs us → qAZ (xs.drop n) (us.drop n)
 | _,_,0,r => r
 | _,_,_ + 1,.nil => .nil
 | _,_,n + 1,.cons _ t => qAZ.drop n t
noncomputable def qK7 : Option V → Option Value → Prop
 | some v,some u => qAY v u
 | none,none => True
 | _,_ => False
noncomputable def KV {κ : Type} : List (κ × V) → List (κ × Value) → Prop:=Paired fun (p : κ × V) (q : κ × Value) => p.1 = q.1 ∧ qAY p.2 q.2
noncomputable def kV : Key → V
 | .inl i => .int i
 | .inr x => .str x
set_option genInjectivity false in
inductive HO where
  | lst (xs : List V)
  | tup (xs : List V)
  | dK (kvs : List (Key × V)) | dT (kvs : List (List Key × V))
  | set (S : Int → Bool) (n : Nat)
  | ins (C dx : Addr) (fs : List (Str × V))
  | own (x : Addr)
  | xd (fs : List (Str × V))
  | met (f x : Addr)
  | rng (lo hi : Int)
  | frz (o : Obj) (u : HO)
  | tbl (ps : Array Value)
  | ext (φ : Heap → Prop)
abbrev Hp:=Addr → Option HO
noncomputable def upd (H : Hp) (a : Addr) (o : HO) : Hp:=fun b => if b = a then some o else H b
theorem qAz {H : Hp} {a : Addr} {o : HO} : upd H a o a = some o:=by unfold upd; rw [if_pos rfl]
theorem qAb {H : Hp} {a b : Addr} {o : HO} (h : b ≠ a) : upd H a o b = H b:=by unfold upd; rw [if_neg h]
theorem qZa {H : Hp} {a b : Addr} {o u : HO} (h : H a = some o) (h' : H b = some u) (d : o ≠ u) : a ≠ b:=by
 intro e; subst e; rw [h] at h'; exact d (Option.some.inj h')
theorem qAv {H : Hp} {a b : Addr} {o : HO} (h : H a = some o) (h' : H b = none) : a ≠ b:=by
 intro e; subst e; rw [h] at h'; cases h'
section
variable (P : Program) (w : World)
noncomputable def qBG (H : Hp) (h : Heap) (a : Addr) : HO → Prop
 | .lst xs => xs.length ≤ sizeLine ∧ ∃ (its : List Value) (n : Nat),qAZ xs its ∧ h.get? a = some { cls:=.type "list",data:=.seq its.toArray n }
 | .tup xs => xs.length ≤ sizeLine ∧ ∃ its : List Value,qAZ xs its ∧ IsTup h a its.toArray
 | .dK kvs => kvs.length ≤ sizeLine ∧ (a == sysModules) = false ∧ ∃ vs,KV kvs vs ∧ h.DictOf (qBP P w) a vs
 | .dT kvs => kvs.length ≤ sizeLine ∧ (a == sysModules) = false ∧ ∃ xs : List (List Key × Addr × Value),
   Paired (fun (p : List Key × V) (q : List Key × Addr × Value) => p.1 = q.1 ∧ H q.2.1 = some (.tup (p.1.map kV)) ∧ qAY p.2 q.2.2) kvs xs ∧
   ∃ o es ep,h.get? a = some o ∧ o.ExactDict ∧ o.data = .dict es ep ∧ es.toList = xs.map (entryOfKey (tupleKind (qBP P w))) ∧ (xs.map (·.1)).Nodup
 | .set S n => h.SetOf (intKind P w) a S n
 | .ins C dx fs => H dx = some (.own a) ∧ fs.length ≤ 1000 ∧ dx ≠ a ∧ h.get? a = some (PySem.W.instObj C dx) ∧
   ∃ mA,h.Ns1 dx mA ∧ (∀ f,qK7 (fs.lookup f) (mA f)) ∧ PySem.Within mA (fs.map (·.1))
 | .own _ => ∃ o,h.get? a = some o
 | .xd fs => ∃ mA,h.Ns1 a mA ∧ ∀ f,qK7 (fs.lookup f) (mA f)
 | .rng lo hi => ∃ t u v,h.get? a = some { cls:=.type "range",data:=.fields #[.int lo t,.int hi u,.int 1 v] }
 | .frz o u => h.get? a = some o ∧ qBG H h a u
 | .tbl ps => h.get? a = some { cls:=.none,data:=.fields ps }
 | .met f x => h.get? a = some (PySem.W.methodObj (.ref f) (.ref x))
 | .ext φ => φ h ∧ (∃ o,h.get? a = some o) ∧ ∀ h1 h2 : Heap,φ h1 → (∀ o,h1.get? a = some o → h2.get? a = some o) → φ h2
noncomputable def HOk (H : Hp) (h : Heap) : Prop:=∀ a o,H a = some o → qBG P w H h a o
end
section
variable {P : Program} {w : World} {H H' : Hp} {h h' : Heap} {a : Addr} {o : HO}
theorem qBG.lt (x : qBG P w H h a o) : a < h.objs.size:=by
 cases o with
 | lst xs => obtain ⟨_,_,_,_,e⟩:=x; exact Heap.lt_size e
 | tup xs => obtain ⟨_,_,_,p⟩:=x; exact p.lt
 | dK kvs => obtain ⟨_,_,_,_,o,_,_,e,_⟩:=x; exact Heap.lt_size e
 | dT kvs => obtain ⟨_,_,_,_,o,_,_,e,_⟩:=x; exact Heap.lt_size e
 | set S n => obtain ⟨o,_,_,_,e,_⟩:=x; exact Heap.lt_size e
 | ins C dx fs => obtain ⟨_,_,_,e,_⟩:=x; exact Heap.lt_size e
 | own y => obtain ⟨_,e⟩:=x; exact Heap.lt_size e
 | xd fs => obtain ⟨_,⟨_,_,_,e,_⟩,_⟩:=x; exact Heap.lt_size e
 | rng lo hi => obtain ⟨_,_,_,e⟩:=x; exact Heap.lt_size e
 | frz ob u => obtain ⟨e,_⟩:=x; exact Heap.lt_size e
 | tbl ps => exact Heap.lt_size (show h.get? a = some _ from x)
 | met f y => exact Heap.lt_size (show h.get? a = some _ from x)
 | ext φ => obtain ⟨_,⟨_,e⟩,_⟩:=x; exact Heap.lt_size e
theorem Paired.mapP {α β : Type} {F G : α → β → Prop} {l₁ : List α} {l₂ : List β} (h : Paired F l₁ l₂) (f : ∀ a b,F a b → G a b) : Paired G l₁ l₂:=by
 induction h with
 | nil => exact .nil
 | cons r t ih => exact .cons (f _ _ r) ih
theorem qBG.stay (x : qBG P w H h a o) (k : ∀ b u,(b = a ∨ H b = some (.own a)) → h.get? b = some u → h'.get? b = some u)
  (ho : ∀ b,H b = some (.own a) → H' b = some (.own a)) (ht : ∀ b xs,H b = some (.tup xs) → H' b = some (.tup xs)) : qBG P w H' h' a o:=by
 induction o with
 | lst xs => obtain ⟨z,its,n,r,e⟩:=x; exact ⟨z,its,n,r,k _ _ (.inl rfl) e⟩
 | tup xs => obtain ⟨z,its,r,ob,e,c⟩:=x; exact ⟨z,its,r,ob,k _ _ (.inl rfl) e,c⟩
 | dK kvs => obtain ⟨z,y,vs,r,ob,es,ep,e,c⟩:=x; exact ⟨z,y,vs,r,ob,es,ep,k _ _ (.inl rfl) e,c⟩
 | dT kvs =>
  obtain ⟨z,y,xs,r,ob,es,ep,e,c⟩:=x
  exact ⟨z,y,xs,Paired.mapP r fun p q z => ⟨z.1,ht _ _ z.2.1,z.2.2⟩,ob,es,ep,k _ _ (.inl rfl) e,c⟩
 | set S n => obtain ⟨ob,es,ep,t,e,c⟩:=x; exact ⟨ob,es,ep,t,k _ _ (.inl rfl) e,c⟩
 | ins C dx fs =>
  obtain ⟨d,z,ne,e,mA,⟨od,es,ep,e2,c⟩,r⟩:=x
  exact ⟨ho _ d,z,ne,k _ _ (.inl rfl) e,mA,⟨od,es,ep,k _ _ (.inr d) e2,c⟩,r⟩
 | own y => obtain ⟨ob,e⟩:=x; exact ⟨ob,k _ _ (.inl rfl) e⟩
 | xd fs => obtain ⟨mA,⟨od,es,ep,e,c⟩,r⟩:=x; exact ⟨mA,⟨od,es,ep,k _ _ (.inl rfl) e,c⟩,r⟩
 | rng lo hi => obtain ⟨t,u,v,e⟩:=x; exact ⟨t,u,v,k _ _ (.inl rfl) e⟩
 | frz ob u ih => obtain ⟨e,q⟩:=x; exact ⟨k _ _ (.inl rfl) e,ih q⟩
 | tbl ps =>
  have e : h.get? a = some { cls:=.none,data:=.fields ps }:=x
  show h'.get? a = some { cls:=.none,data:=.fields ps }
  exact k a _ (.inl rfl) e
 | met f y =>
  have e : h.get? a = some (PySem.W.methodObj (.ref f) (.ref y)):=x
  show h'.get? a = some (PySem.W.methodObj (.ref f) (.ref y))
  exact k a _ (.inl rfl) e
 | ext φ => obtain ⟨p,⟨o,e⟩,st⟩:=x; exact ⟨st _ _ p fun o q => k _ _ (.inl rfl) q,⟨o,k _ _ (.inl rfl) e⟩,st⟩
theorem HOk.lt (x : HOk P w H h) (e : H a = some o) : a < h.objs.size:=(x a o e).lt
theorem HOk.fresh (x : HOk P w H h) (e : h.objs.size ≤ a) : H a = none:=by
 cases q : H a with
 | none => rfl
 | some u => exact absurd (Nat.lt_of_lt_of_le (x.lt q) e) (Nat.lt_irrefl _)
theorem HOk.kept (x : HOk P w H h) (k : ∀ b u,h.get? b = some u → h'.get? b = some u) : HOk P w H h':=fun a o e =>
 (x a o e).stay (fun b u _ q => k b u q) (fun _ q => q) fun _ _ q => q
theorem HOk.laid (x : HOk P w H h) (k : ∀ b u,h.get? b = some u → h'.get? b = some u) (hp : h.objs.size ≤ a) (new : qBG P w (upd H a o) h' a o) : HOk P w (upd H a o) h':=fun b u e => by
 have hn:=x.fresh hp
 by_cases hb : b = a
 ·subst hb; rw [qAz] at e; cases e; exact new
 ·rw [qAb hb] at e
  exact (x b u e).stay (fun c v _ q => k c v q) (fun c q => by rw [qAb (qAv q hn)]; exact q) fun c xs q => by rw [qAb (qAv q hn)]; exact q
end
noncomputable def Rd (H : Hp) (a : Addr) (u : HO) : Prop:=H a = some u ∨ ∃ o,H a = some (.frz o u)
theorem Rd.ok {P : Program} {w : World} {H : Hp} {h : Heap} {a : Addr} {u : HO} (r : Rd H a u) (x : HOk P w H h) : qBG P w H h a u:=by
 rcases r with r | ⟨o,r⟩
 ·exact x a u r
 ·obtain ⟨_,q⟩:=x a _ r
  exact q
noncomputable def Mut : Option HO → Prop
 | some (.lst _) => True
 | some (.dK _) => True
 | some (.dT _) => True
 | some (.set _ _) => True
 | some (.ins _ _ _) => True
 | some (.ext _) => True
 | _ => False
section
variable {P : Program} {w : World} {H : Hp} {h h' : Heap} {x e : Addr} {o' : HO}
theorem HOk.write (ok : HOk P w H h) (mu : Mut (H x)) (he : e = x ∨ H e = some (.own x)) (k : ∀ b u,b ≠ e → h.get? b = some u → h'.get? b = some u) (heo : ∃ u,h'.get? e = some u)
  (new : qBG P w (upd H x o') h' x o') : HOk P w (upd H x o') h':=fun b u q => by
 have nown : ∀ c y,H c = some (.own y) → c ≠ x:=fun c y r z => by subst z; rw [r] at mu; exact mu
 have ntup : ∀ c xs,H c = some (.tup xs) → c ≠ x:=fun c xs r z => by subst z; rw [r] at mu; exact mu
 by_cases hb : b = x
 ·subst hb; rw [qAz] at q; cases q; exact new
 ·rw [qAb hb] at q
  by_cases hbe : b = e
  ·have q' : H b = some (.own x):=by
    rcases he with z | z
    ·exact absurd (hbe.trans z) hb
    ·rw [hbe]; exact z
   rw [q] at q'; cases q'
   obtain ⟨v,hv⟩:=heo
   exact ⟨v,by rw [hbe]; exact hv⟩
  ·refine (ok b u q).stay (fun c v hc r => k c v ?_ r) (fun c r => by rw [qAb (nown c b r)]; exact r) fun c xs r => by rw [qAb (ntup c xs r)]; exact r
   rcases hc with rfl | hc
   ·exact hbe
   ·rintro rfl
    rcases he with z | z
    ·exact nown c b hc z
    ·rw [hc] at z; cases z; exact hb rfl
end
structure Un (fs ex : List Addr) (H H' : Hp) (h h' : Heap) : Prop where
 keep : ∀ b o,h.get? b = some o → H b = none → b ∉ fs → b ∉ ex → h'.get? b = some o
 slot : ∀ b o,h.get? b = some o → H b = none → b ∈ fs → b ∉ ex → ∃ sl,h'.get? b = some { o with slots:=sl }
 free : ∀ b o,h.get? b = some o → H b = none → b ∉ ex → H' b = none
 there : ∀ b o,h.get? b = some o → b ∉ ex → ∃ o',h'.get? b = some o'
 tups : ∀ b xs,H b = some (.tup xs) → H' b = some (.tup xs)
 frzs : ∀ b o u,H b = some (.frz o u) → H' b = some (.frz o u)
 tbls : ∀ b ps,H b = some (.tbl ps) → ∃ more,H' b = some (.tbl (ps ++ more))
section
variable {fs fs' ex ex' : List Addr} {H H1 H2 : Hp} {h h1 h2 h' : Heap} {a x e : Addr} {o : HO}
theorem Un.any (u : Un fs ex H H1 h h1) {b : Addr} {ob : Obj} (q : h.get? b = some ob) (n : H b = none) (hx : b ∉ ex) : ∃ sl,h1.get? b = some { ob with slots:=sl }:=by
 by_cases hb : b ∈ fs
 ·exact u.slot b ob q n hb hx
 ·exact ⟨ob.slots,u.keep b ob q n hb hx⟩
theorem Un.kept (k : ∀ b u,h.get? b = some u → h'.get? b = some u) : Un fs ex H H h h' :=
 ⟨fun b ob q _ _ _ => k b ob q,fun b ob q _ _ _ => ⟨ob.slots,k b ob q⟩,fun _ _ _ n _ => n,fun b ob q _ => ⟨ob,k b ob q⟩,fun _ _ q => q,fun _ _ _ q => q,fun _ ps q => ⟨#[],by rw [q]; simp⟩⟩
theorem Un.refl : Un fs ex H H h h:=Un.kept fun _ _ q => q
theorem Un.laid (k : ∀ b u,h.get? b = some u → h'.get? b = some u) (hp : h.objs.size ≤ a) (hn : H a = none) : Un fs ex H (upd H a o) h h' where
 keep:=fun b u q _ _ _ => k b u q
 slot:=fun b u q _ _ _ => ⟨u.slots,k b u q⟩
 free:=fun b u q n _ => by rw [qAb (Nat.ne_of_lt (Nat.lt_of_lt_of_le (Heap.lt_size q) hp))]; exact n
 there:=fun b u q _ => ⟨u,k b u q⟩
 tups:=fun b xs q => by rw [qAb (qAv q hn)]; exact q
 frzs:=fun b u xs q => by rw [qAb (qAv q hn)]; exact q
 tbls:=fun b ps q => ⟨#[],by rw [qAb (qAv q hn),q]; simp⟩
theorem Un.write (mu : Mut (H x)) (he : e = x ∨ H e = some (.own x)) (k : ∀ b u,b ≠ e → h.get? b = some u → h'.get? b = some u) (heo : ∃ u,h'.get? e = some u) : Un fs ex H (upd H x o) h h':=by
 have hx : ∀ b,H b = none → b ≠ x:=fun b n z => by subst z; rw [n] at mu; exact mu
 have hb : ∀ b,H b = none → b ≠ e:=fun b n z => by
  subst z
  rcases he with r | r
  ·exact hx b n r
  ·rw [n] at r; cases r
 have hm : ∀ b u,H b = some u → ¬ Mut (some u) → b ≠ x:=fun b u q nm z => by subst z; rw [q] at mu; exact nm mu
 refine ⟨fun b u q n _ _ => k b u (hb b n) q,fun b u q n _ _ => ⟨u.slots,k b u (hb b n) q⟩,fun b u q n _ => by rw [qAb (hx b n)]; exact n,fun b u q _ => ?_,
  fun b xs q => by rw [qAb (hm b _ q fun z => z)]; exact q,fun b u xs q => by rw [qAb (hm b _ q fun z => z)]; exact q,fun b ps q => ⟨#[],by rw [qAb (hm b _ q fun z => z),q]; simp⟩⟩
 by_cases hbe : b = e
 ·subst hbe; exact heo
 ·exact ⟨u,k b u hbe q⟩
end
noncomputable def trk (h : Heap) (H : Hp) : List Addr:=(List.range h.objs.size).filter fun a => (H a).isSome
noncomputable def qJN (h : Heap) (H : Hp) : Heap:=PySem.W.hideAll h (trk h H)
theorem qSI (h : Heap) (H : Hp) : (qJN h H).objs.size = h.objs.size:=PySem.W.hideAll_size _ _
theorem qTv {h : Heap} {H : Hp} {b : Addr} {o : Obj} (e : h.get? b = some o) (n : H b = none) : (qJN h H).get? b = some o :=
 PySem.W.hideAll_get _ e fun hm => by
  have q : (H b).isSome = true:=(List.mem_filter.mp hm).2
  rw [n] at q; simp at q
theorem qV8 {h : Heap} {H : Hp} {b : Addr} {o : Obj} (e : (qJN h H).get? b = some o) : h.get? b = some o ∧ H b = none:=by
 have e' : h.get? b = some o:=PySem.W.of_hideAll (trk h H) e
 refine ⟨e',?_⟩
 cases q : H b with
 | none => rfl
 | some x =>
  have hm : b ∈ trk h H:=List.mem_filter.mpr ⟨List.mem_range.mpr (Heap.lt_size e'),by simp [q]⟩
  have z : (qJN h H).get? b = none:=PySem.W.hideAll_none (trk h H) hm
  rw [z] at e; cases e
end _L
namespace _L
open PySem PySem.Spec PyProof.Rows
structure Mod (K : PySem.W.Frag) (mg : Str → Option Value) (base : Heap) : Prop where
 kin : K.In base
 glob : base.Ns mainGlobals mg
 blt : ∃ mb,base.Ns builtinsNs mb ∧ ∀ x : Str,x ≠ "__name__" → mb x = bootBuiltins x
 nolimit : base.NoLimit
set_option genInjectivity false in
structure Cx where
 prog : Program
 w : World
 K : PySem.W.Frag
 mg : Str → Option Value
 base : Heap
 A : Around
 N : List Str
 s₀ : Shared
 H₀ : Hp
 env : Env
 outer : List Env
 stack : List Env
 ex : List Addr
 fn : Str → Bool
 calm : Bool
 pn : List (Addr × Obj)
 xe : Value → Shared → Prop
noncomputable def frs (l : List Env) : List Addr:=l.filterMap (·.frame)
noncomputable abbrev Cx.fs (X : Cx) : List Addr:=frs X.outer
noncomputable def Vis (sc : Scope) (x : Str) : Prop:=sc.names.lookup x = some .local ∨ sc.names.lookup x = some .cell ∨ sc.names.lookup x = some .free
noncomputable def Loc (sc : Scope) (x : Str) : Prop:=sc.names.lookup x = some .local ∨ sc.names.lookup x = some .cell
noncomputable def qWn (env : Env) (h : Heap) (m : Str → Option Value) (x : Str) (u : Value) : Prop :=
 (env.kindOf x = some .local ∧ m x = some u) ∨ ((env.kindOf x = some .cell ∨ env.kindOf x = some .free) ∧ ∃ c,env.cells.lookup x = some c ∧ h.IsCell c (some u))
set_option genInjectivity false in
structure Cx.Ok (X : Cx) : Prop where
 mod : Mod X.K X.mg X.base
 kind : X.env.scope.kind = .function
 glob : X.env.globals = mainGlobals
 blt : X.env.builtins = builtinsNs
 above : X.s₀.heap.objs.size ≤ X.env.locals
 inj : ∀ x y c,X.env.cells.lookup x = some c → X.env.cells.lookup y = some c → x = y
 has : ∀ x,(X.env.kindOf x = some .cell ∨ X.env.kindOf x = some .free) → ∃ c,X.env.cells.lookup x = some c
 cab : ∀ x c,X.fn x = true → X.env.cells.lookup x = some c → X.s₀.heap.objs.size ≤ c
 hd : X.calm = true → X.A.handled = none
 frames : X.A.frames = some X.stack
 stk : X.stack = X.outer ∨ (X.stack = X.env :: X.outer ∧ X.env.frame = some X.env.locals)
 exf : ∀ b ∈ X.ex,b ≠ X.env.locals ∧ ∀ x c,X.env.cells.lookup x = some c → c ≠ b
 bs : ∀ b o,X.base.get? b = some o → X.s₀.heap.get? b = some o ∧ X.H₀ b = none
 bsz : X.base.objs.size ≤ X.s₀.heap.objs.size
 noex : ∀ b o,X.base.get? b = some o → b ∉ X.ex
 exfs : ∀ b ∈ X.ex,b ∉ X.fs
 funs : X.s₀.heap.FunFrames X.base X.outer
 frf : ∀ b ∈ X.fs,X.H₀ b = none
structure Inv (X : Cx) (pins : List (Addr × Obj)) (σ : List (Option V)) (H : Hp) (s : Shared) : Prop where
 ok : X.Ok
 os : s.os = X.s₀.os
 bare : AllBare s.gens
 base : Un X.fs X.ex X.H₀ H X.s₀.heap s.heap
 loc : ∃ m,s.heap.Ns X.env.locals m ∧ ∀ (i : Nat) (x : Str) (v : V),X.N[i]? = some x → σ[i]? = some (some v) → Vis X.env.scope x → ∃ u,qAY v u ∧ qWn X.env s.heap m x u
 cell : ∀ x c,X.env.cells.lookup x = some c → ∃ v,s.heap.IsCell c v
 free : H X.env.locals = none
 freeC : ∀ x c,X.env.cells.lookup x = some c → H c = none
 pin : ∀ p ∈ X.pn ++ pins,s.heap.get? p.1 = some p.2 ∧ H p.1 = none ∧ p.1 ≠ X.env.locals ∧ p.1 ∉ X.fs ∧ ∀ v,p.2.data ≠ .cell v
 hok : HOk X.prog X.w H s.heap
 len : σ.length = X.N.length
section
variable {X : Cx} {pins : List (Addr × Obj)} {σ : List (Option V)} {H H' : Hp} {s : Shared} {h' : Heap}
theorem Cx.Ok.nofr (ok : X.Ok) {b : Addr} {o : Obj} (e : X.base.get? b = some o) : b ∉ X.fs:=fun hb => by
 have:=(ok.funs.mem hb).1
 rw [e] at this; cases this
theorem Inv.bs (I : Inv X pins σ H s) : ∀ b o,X.base.get? b = some o → s.heap.get? b = some o ∧ H b = none:=fun b o e =>
 ⟨I.base.keep b o (I.ok.bs b o e).1 (I.ok.bs b o e).2 (I.ok.nofr e) (I.ok.noex b o e),I.base.free b o (I.ok.bs b o e).1 (I.ok.bs b o e).2 (I.ok.noex b o e)⟩
theorem Inv.bk (I : Inv X pins σ H s) : ∀ b o,X.base.get? b = some o → s.heap.get? b = some o:=fun b o e => (I.bs b o e).1
theorem Inv.mod (I : Inv X pins σ H s) : Mod X.K X.mg X.base:=I.ok.mod
theorem Inv.kIn (I : Inv X pins σ H s) : X.K.In s.heap:=I.ok.mod.kin.keeps I.bk
theorem Inv.lt (I : Inv X pins σ H s) : X.env.locals < s.heap.objs.size:=let ⟨_,hn,_⟩:=I.loc; hn.lt
theorem Inv.sz (I : Inv X pins σ H s) : X.s₀.heap.objs.size ≤ s.heap.objs.size:=Nat.le_trans I.ok.above (Nat.le_of_lt I.lt)
theorem Inv.nofs (I : Inv X pins σ H s) {a : Addr} (h : s.heap.objs.size ≤ a) : a ∉ X.fs:=fun hb => by
 obtain ⟨_,o,ho,_⟩:=I.ok.funs.mem hb
 exact absurd (Nat.lt_of_lt_of_le (Heap.lt_size ho) (Nat.le_trans I.sz h)) (Nat.lt_irrefl _)
theorem Inv.cne (I : Inv X pins σ H s) : ∀ x c,X.env.cells.lookup x = some c → c ≠ X.env.locals:=fun x c e z => by
 obtain ⟨v,o,ho,hd⟩:=I.cell x c e
 obtain ⟨m,⟨o',es,ep,ho',hd',_⟩,_⟩:=I.loc
 rw [z,ho'] at ho; cases ho; rw [hd'] at hd; cases hd
theorem Inv.funs (I : Inv X pins σ H s) : s.heap.FunFrames X.base X.outer:=by
 have all : ∀ (l : List Env),(∀ b ∈ frs l,b ∈ X.fs) → X.s₀.heap.FunFrames X.base l → s.heap.FunFrames X.base l:=by
  intro l
  induction l with
  | nil => intro _ _; trivial
  | cons env r ih =>
   intro hs hl
   obtain ⟨hk,⟨L,o,hf,hn,ho,hd⟩,hr⟩:=hl
   have hL : L ∈ X.fs:=hs L (by unfold frs; rw [List.filterMap_cons,hf]; exact List.mem_cons_self)
   obtain ⟨sl,e⟩:=I.base.slot L o ho (I.ok.frf L hL) hL fun z => I.ok.exfs L z hL
   exact ⟨hk,⟨L,_,hf,hn,e,hd⟩,ih (fun b hb => hs b (by unfold frs; rw [List.filterMap_cons,hf]; exact List.mem_cons_of_mem _ hb)) hr⟩
 exact all X.outer (fun _ hb => hb) I.ok.funs
theorem Inv.stack (I : Inv X pins σ H s) : s.heap.FunFrames X.base X.stack:=by
 rcases I.ok.stk with e | ⟨e,hf⟩
 ·rw [e]; exact I.funs
 ·rw [e]
  obtain ⟨m,hn,_⟩:=I.loc
  refine .cons (by rw [I.ok.kind]; decide) hf hn ?_ I.funs
  exact Heap.get?_none_of_le (Nat.le_trans I.ok.bsz I.ok.above)
theorem Inv.stkSub (I : Inv X pins σ H s) : ∀ b ∈ frs X.stack,b ∈ X.env.locals :: X.fs:=fun b hb => by
 rcases I.ok.stk with e | ⟨e,hf⟩
 ·rw [e] at hb; exact List.mem_cons_of_mem _ hb
 ·rw [e] at hb
  unfold frs at hb
  rw [List.filterMap_cons,hf] at hb
  exact hb
theorem Inv.stkFree (I : Inv X pins σ H s) : ∀ b ∈ frs X.stack,H b = none:=fun b hb => by
 rcases List.mem_cons.mp (I.stkSub b hb) with e | hb
 ·rw [e]; exact I.free
 ·obtain ⟨_,o,ho,_⟩:=I.ok.funs.mem hb
  exact I.base.free b o ho (I.ok.frf b hb) fun z => I.ok.exfs b z hb
theorem Inv.step {g' : Array GenState} {t' : Nat} {d' : Drawn} {ch : List Addr} (I : Inv X pins σ H s)
  (hch : ∀ b ∈ ch,(b ∈ X.ex ∨ X.s₀.heap.objs.size ≤ b) ∧ b ≠ X.env.locals ∧ (∀ x c,X.env.cells.lookup x = some c → c ≠ b) ∧ ∀ p ∈ X.pn ++ pins,p.1 ≠ b)
  (keep : ∀ b o,b ≠ X.env.locals → b ∉ X.fs → b ∉ ch → s.heap.get? b = some o → H b = none → h'.get? b = some o)
  (slot : ∀ b o,b ≠ X.env.locals → b ∈ X.fs → b ∉ ch → s.heap.get? b = some o → H b = none → ∃ sl,h'.get? b = some { o with slots:=sl }) (free : ∀ b o,b ∉ ch → s.heap.get? b = some o → H b = none → H' b = none)
  (there : ∀ b o,b ∉ ch → s.heap.get? b = some o → ∃ o',h'.get? b = some o')
  (tups : ∀ b xs,H b = some (.tup xs) → H' b = some (.tup xs)) (frzs : ∀ b o u,H b = some (.frz o u) → H' b = some (.frz o u)) (tbls : ∀ b ps,H b = some (.tbl ps) → ∃ more,H' b = some (.tbl (ps ++ more)))
  (ns : ∀ m,s.heap.Ns X.env.locals m → h'.Ns X.env.locals m) (hok : HOk X.prog X.w H' h') (hg : AllBare g') :
  Inv X pins σ H' { s with heap:=h',gens:=g',drawn:=d',toks:=t' }:=by
 have neL : ∀ b o,X.s₀.heap.get? b = some o → b ≠ X.env.locals:=fun b o e => Nat.ne_of_lt (Nat.lt_of_lt_of_le (Heap.lt_size e) I.ok.above)
 have neC : ∀ b o,X.s₀.heap.get? b = some o → b ∉ X.ex → b ∉ ch:=fun b o e hx hb => by
  rcases (hch b hb).1 with z | z
  ·exact hx z
  ·exact absurd (Nat.lt_of_lt_of_le (Heap.lt_size e) z) (Nat.lt_irrefl _)
 have cellK : ∀ x c,X.env.cells.lookup x = some c → ∀ v,s.heap.IsCell c v → h'.IsCell c v:=fun x c e v ⟨o,ho,hd⟩ => by
  have nch : c ∉ ch:=fun z => (hch c z).2.2.1 x c e rfl
  by_cases hc : c ∈ X.fs
  ·obtain ⟨sl,q⟩:=slot c o (I.cne x c e) hc nch ho (I.freeC x c e)
   exact ⟨_,q,hd⟩
  ·exact ⟨o,keep c o (I.cne x c e) hc nch ho (I.freeC x c e),hd⟩
 refine ⟨I.ok,I.os,hg,⟨fun b o e n hb hx => ?_,fun b o e n hb hx => ?_,fun b o e n hx => ?_,fun b o e hx => ?_,fun b xs e => tups b xs (I.base.tups b xs e),fun b o xs e => frzs b o xs (I.base.frzs b o xs e),fun b ps e => ?_⟩,?_,fun x c e => ?_,?_,fun x c e => ?_,fun p hp => ?_,hok,I.len⟩
 ·exact keep b o (neL b o e) hb (neC b o e hx) (I.base.keep b o e n hb hx) (I.base.free b o e n hx)
 ·obtain ⟨sl,e1⟩:=I.base.slot b o e n hb hx
  obtain ⟨sl',e2⟩:=slot b _ (neL b o e) hb (neC b o e hx) e1 (I.base.free b o e n hx)
  exact ⟨sl',e2⟩
 ·obtain ⟨o',e1⟩:=I.base.there b o e hx
  exact free b o' (neC b o e hx) e1 (I.base.free b o e n hx)
 ·obtain ⟨o',e1⟩:=I.base.there b o e hx
  exact there b o' (neC b o e hx) e1
 ·obtain ⟨m1,e1⟩:=I.base.tbls b ps e
  obtain ⟨m2,e2⟩:=tbls b _ e1
  exact ⟨m1 ++ m2,by rw [e2,Array.append_assoc]⟩
 ·obtain ⟨m,hn,hl⟩:=I.loc
  refine ⟨m,ns m hn,fun i x v e1 e2 e3 => ?_⟩
  obtain ⟨u,r,l⟩:=hl i x v e1 e2 e3
  refine ⟨u,r,?_⟩
  rcases l with l | ⟨k,c,e,z⟩
  ·exact .inl l
  ·exact .inr ⟨k,c,e,cellK x c e _ z⟩
 ·obtain ⟨v,z⟩:=I.cell x c e
  exact ⟨v,cellK x c e v z⟩
 ·obtain ⟨m,⟨o,_,_,ho,_⟩,_⟩:=I.loc
  exact free _ o (fun z => (hch _ z).2.1 rfl) ho I.free
 ·obtain ⟨v,o,ho,hd⟩:=I.cell x c e
  exact free c o (fun z => (hch c z).2.2.1 x c e rfl) ho (I.freeC x c e)
 ·obtain ⟨e,n,ne,nf,d⟩:=I.pin p hp
  have nch : p.1 ∉ ch:=fun z => (hch p.1 z).2.2.2 p hp rfl
  exact ⟨keep p.1 p.2 ne nf nch e n,free p.1 p.2 nch e n,ne,nf,d⟩
theorem Inv.un {t' : Nat} (I : Inv X pins σ H s) (u : Un X.fs [] H H' s.heap h') (hok : HOk X.prog X.w H' h') : Inv X pins σ H' { s with heap:=h',toks:=t' }:=by
 obtain ⟨m,⟨o,es,ep,ho,r⟩,_⟩:=id I.loc
 obtain ⟨sl,hL⟩:=u.any ho I.free (by simp)
 exact I.step (g':=s.gens) (d':=s.drawn) (ch:=[]) (fun _ z => nomatch z) (fun b o _ hb _ e n => u.keep b o e n hb (by simp)) (fun b o _ hb _ e n => u.slot b o e n hb (by simp)) (fun b o _ e n => u.free b o e n (by simp)) (fun b o _ e => u.there b o e (by simp)) u.tups u.frzs u.tbls (fun m' hm => by
  obtain ⟨o',es',ep',ho',r'⟩:=hm
  rw [ho] at ho'; cases ho'
  exact ⟨_,es',ep',hL,r'⟩) hok I.bare
theorem Inv.call {g' : Array GenState} {t' : Nat} {d' : Drawn} {ch : List Addr} (I : Inv X pins σ H s) (u : Un (frs X.stack) ch H H' s.heap h') (hok : HOk X.prog X.w H' h') (hg : AllBare g')
  (hch : ∀ b ∈ ch,(b ∈ X.ex ∨ X.s₀.heap.objs.size ≤ b) ∧ b ≠ X.env.locals ∧ (∀ x c,X.env.cells.lookup x = some c → c ≠ b) ∧ ∀ p ∈ X.pn ++ pins,p.1 ≠ b) :
  Inv X pins σ H' { s with heap:=h',gens:=g',drawn:=d',toks:=t' }:=by
 obtain ⟨m,⟨o,es,ep,ho,r⟩,_⟩:=id I.loc
 obtain ⟨sl,hL⟩:=u.any ho I.free fun z => (hch _ z).2.1 rfl
 exact I.step (ch:=ch) hch (fun b o hL hb hc e n => u.keep b o e n (fun z => (List.mem_cons.mp (I.stkSub b z)).elim hL hb) hc) (fun b o _ _ hc e n => u.any e n hc) (fun b o hc e n => u.free b o e n hc) (fun b o hc e => u.there b o e hc) u.tups u.frzs u.tbls (fun m' hm => by
  obtain ⟨o',es',ep',ho',r'⟩:=hm
  rw [ho] at ho'; cases ho'
  exact ⟨_,es',ep',hL,r'⟩) hok hg
theorem Inv.turned {t' : Nat} {it : Addr} (I : Inv X pins σ H s) (k : ∀ b o,b ≠ it → s.heap.get? b = some o → h'.get? b = some o) (hn : H it = none) (hL : it ≠ X.env.locals)
  (h1 : it ∈ X.ex ∨ X.s₀.heap.objs.size ≤ it) (h2 : ∀ x c,X.env.cells.lookup x = some c → c ≠ it) (h3 : ∀ p ∈ X.pn ++ pins,p.1 ≠ it) : Inv X pins σ H { s with heap:=h',toks:=t' }:=by
 have nit : ∀ b u,H b = some u → b ≠ it:=fun b u e z => by rw [z,hn] at e; cases e
 refine I.step (g':=s.gens) (d':=s.drawn) (ch:=[it]) (fun b hb => ?_) (fun b o _ _ hc e _ => k b o (fun z => hc (by simp [z])) e) (fun b o _ _ hc e _ => ⟨o.slots,k b o (fun z => hc (by simp [z])) e⟩) (fun _ _ _ _ n => n)
  (fun b o hc e => ⟨o,k b o (fun z => hc (by simp [z])) e⟩) (fun _ _ e => e) (fun _ _ _ e => e) (fun b ps e => ⟨#[],by rw [e]; simp⟩) (fun m hm => ?_) (fun b u e => ?_) I.bare
 ·have e : b = it:=by simpa using hb
  subst e
  exact ⟨h1,hL,h2,h3⟩
 ·obtain ⟨o,es,ep,ho,r⟩:=hm
  exact ⟨o,es,ep,k _ o (Ne.symm hL) ho,r⟩
 ·refine (I.hok b u e).stay (fun c v hc q => k c v ?_ q) (fun _ q => q) fun _ _ q => q
  rcases hc with z | z
  ·rw [z]; exact nit b u e
  ·exact nit c _ z
theorem Inv.tok (I : Inv X pins σ H s) (t : Nat) : Inv X pins σ H { s with toks:=t }:=I.un (h':=s.heap) (t':=t) Un.refl I.hok
theorem Inv.kept {t' : Nat} (I : Inv X pins σ H s) (k : ∀ b u,s.heap.get? b = some u → h'.get? b = some u) : Inv X pins σ H { s with heap:=h',toks:=t' }:=I.un (Un.kept k) (I.hok.kept k)
theorem Inv.laid {a : Addr} {o : HO} {t' : Nat} (I : Inv X pins σ H s) (k : ∀ b u,s.heap.get? b = some u → h'.get? b = some u) (hp : s.heap.objs.size ≤ a) (new : qBG X.prog X.w (upd H a o) h' a o) :
  Inv X pins σ (upd H a o) { s with heap:=h',toks:=t' }:=I.un (Un.laid k hp (I.hok.fresh hp)) (I.hok.laid k hp new)
theorem Inv.write {x e : Addr} {o : HO} {t' : Nat} (I : Inv X pins σ H s) (mu : Mut (H x)) (he : e = x ∨ H e = some (.own x)) (k : ∀ b u,b ≠ e → s.heap.get? b = some u → h'.get? b = some u) (heo : ∃ u,h'.get? e = some u)
  (new : qBG X.prog X.w (upd H x o) h' x o) : Inv X pins σ (upd H x o) { s with heap:=h',toks:=t' }:=I.un (Un.write mu he k heo) (I.hok.write mu he k heo new)
theorem Inv.pins_of {pins' : List (Addr × Obj)} (I : Inv X pins σ H s) (h : ∀ p ∈ pins',s.heap.get? p.1 = some p.2 ∧ H p.1 = none ∧ p.1 ≠ X.env.locals ∧ p.1 ∉ X.fs ∧ ∀ v,p.2.data ≠ .cell v) : Inv X pins' σ H s :=
 ⟨I.ok,I.os,I.bare,I.base,I.loc,I.cell,I.free,I.freeC,fun p hp => (List.mem_append.mp hp).elim (fun z => I.pin p (List.mem_append_left _ z)) (h p),I.hok,I.len⟩
theorem qLa {N : List Str} (hN : N.Nodup) {i j : Nat} {x : Str} (a : N[i]? = some x) (b : N[j]? = some x) : i = j:=by
 obtain ⟨h1,e1⟩:=List.getElem?_eq_some_iff.mp a
 obtain ⟨h2,e2⟩:=List.getElem?_eq_some_iff.mp b
 exact (List.getElem_inj hN).mp (e1.trans e2.symm)
theorem qN8 {M : Model} {A : Around} {E : Value → Shared → Prop} {i : Nat} {x : Str} {v : V} {u : Value} {Q : Unit → Shared → Prop} (I : Inv X pins σ H s) (hN : X.N.Nodup) (hi : X.N[i]? = some x) (hx : Loc X.env.scope x) (r : qAY v u)
  (h : ∀ s',Inv X pins (σ.set i (some v)) H s' → (∃ a,Heap.SameBut a s.heap s'.heap ∧ (a = X.env.locals ∨ X.env.cells.lookup x = some a)) → Q () s') (hf : autoParam (X.fn x = true ∨ X.env.scope.names.lookup x = some .local) au1._auto_1) : wpAny M A (storeName X.env x u) Q E s:=by
 obtain ⟨m,hn,hl⟩:=id I.loc
 have hcls : (X.env.scope.kind == .class || (X.env.scope.kind == .module && X.env.locals != X.env.globals)) = false:=by rw [I.ok.kind]; rfl
 have hiσ : i < σ.length:=by rw [I.len]; exact (List.getElem?_eq_some_iff.mp hi).1
 have cne:=I.cne
 have tracked : ∀ {a : Addr} {h' : Heap},(∃ o,s.heap.get? a = some o ∧ H a = none) → Heap.SameBut a s.heap h' → HOk X.prog X.w H h':=fun {a h'} ha hs b ob e => by
  obtain ⟨_,_,hfree⟩:=ha
  refine (I.hok b ob e).stay (fun c w' hc q => (hs.2 c ?_).trans q) (fun _ q => q) fun _ _ q => q
  rintro rfl
  rcases hc with rfl | hc
  ·rw [hfree] at e; cases e
  ·rw [hfree] at hc; cases hc
 rcases hx with hk | hk
 ·refine wpAny_storeName_local hk hn (fun h' hn' hs => ?_) hcls
  obtain ⟨oL,_,_,hoL,_⟩:=id hn
  refine h _ ⟨I.ok,I.os,I.bare,⟨fun b o e n hb hx => ?_,fun b o e n hb hx => ?_,I.base.free,fun b o e hx => ?_,I.base.tups,I.base.frzs,I.base.tbls⟩,⟨_,hn',fun j y v' e1 e2 e3 => ?_⟩,fun y c e => ?_,I.free,I.freeC,fun p hp => ?_,tracked ⟨oL,hoL,I.free⟩ hs,by simpa using I.len⟩ ⟨_,hs,.inl rfl⟩
  ·exact (hs.2 b (Nat.ne_of_lt (Nat.lt_of_lt_of_le (Heap.lt_size e) I.ok.above))).trans (I.base.keep b o e n hb hx)
  ·obtain ⟨sl,e1⟩:=I.base.slot b o e n hb hx
   exact ⟨sl,(hs.2 b (Nat.ne_of_lt (Nat.lt_of_lt_of_le (Heap.lt_size e) I.ok.above))).trans e1⟩
  ·obtain ⟨o',e1⟩:=I.base.there b o e hx
   exact ⟨o',(hs.2 b (Nat.ne_of_lt (Nat.lt_of_lt_of_le (Heap.lt_size e) I.ok.above))).trans e1⟩
  ·by_cases hj : j = i
   ·subst hj
    rw [hi] at e1; cases e1
    rw [List.getElem?_set_self hiσ] at e2
    cases e2
    exact ⟨u,r,.inl ⟨hk,by simp⟩⟩
   ·rw [List.getElem?_set_ne (Ne.symm hj)] at e2
    obtain ⟨u',r',q⟩:=hl j y v' e1 e2 e3
    refine ⟨u',r',?_⟩
    rcases q with ⟨k,e⟩ | ⟨k,c,e,z⟩
    ·refine .inl ⟨k,?_⟩
     have : y ≠ x:=fun e => hj (qLa hN e1 (e ▸ hi))
     simp [this,e]
    ·exact .inr ⟨k,c,e,z.sameBut hs (cne y c e)⟩
  ·obtain ⟨w',z⟩:=I.cell y c e
   exact ⟨w',z.sameBut hs (cne y c e)⟩
  ·obtain ⟨e,n,ne,nf,d⟩:=I.pin p hp
   exact ⟨(hs.2 p.1 ne).trans e,n,ne,nf,d⟩
 ·have hfn : X.fn x = true:=by
   rcases hf with z | z
   ·exact z
   ·rw [z] at hk; cases hk
  obtain ⟨c,hc⟩:=I.ok.has x (.inl hk)
  obtain ⟨w',z⟩:=I.cell x c hc
  refine wpAny_storeName_cell I.ok.kind hk hc z (fun h' hc' hs => ?_)
  obtain ⟨oc,hoc,hocd⟩:=id z
  refine h { s with heap:=h' } ⟨I.ok,I.os,I.bare,⟨fun b o e n hb hx => ?_,fun b o e n hb hx => ?_,I.base.free,fun b o e hx => ?_,I.base.tups,I.base.frzs,I.base.tbls⟩,⟨m,hn.sameBut hs (Ne.symm (cne x c hc)),fun j y v' e1 e2 e3 => ?_⟩,fun y c' e => ?_,I.free,I.freeC,fun p hp => ?_,tracked ⟨oc,hoc,I.freeC x c hc⟩ hs,by simpa using I.len⟩ ⟨c,hs,.inr hc⟩
  ·exact (hs.2 b (Nat.ne_of_lt (Nat.lt_of_lt_of_le (Heap.lt_size e) (I.ok.cab x c hfn hc)))).trans (I.base.keep b o e n hb hx)
  ·obtain ⟨sl,e1⟩:=I.base.slot b o e n hb hx
   exact ⟨sl,(hs.2 b (Nat.ne_of_lt (Nat.lt_of_lt_of_le (Heap.lt_size e) (I.ok.cab x c hfn hc)))).trans e1⟩
  ·obtain ⟨o',e1⟩:=I.base.there b o e hx
   exact ⟨o',(hs.2 b (Nat.ne_of_lt (Nat.lt_of_lt_of_le (Heap.lt_size e) (I.ok.cab x c hfn hc)))).trans e1⟩
  ·by_cases hj : j = i
   ·subst hj
    rw [hi] at e1; cases e1
    rw [List.getElem?_set_self hiσ] at e2
    cases e2
    exact ⟨u,r,.inr ⟨.inl hk,c,hc,hc'⟩⟩
   ·rw [List.getElem?_set_ne (Ne.symm hj)] at e2
    obtain ⟨u',r',q⟩:=hl j y v' e1 e2 e3
    refine ⟨u',r',?_⟩
    rcases q with q | ⟨k,c',e,z'⟩
    ·exact .inl q
    ·refine .inr ⟨k,c',e,z'.sameBut hs ?_⟩
     rintro rfl
     exact hj (qLa hN e1 (I.ok.inj _ _ _ e hc ▸ hi))
  ·by_cases hcc : c' = c
   ·subst hcc; exact ⟨_,hc'⟩
   ·obtain ⟨w2,z2⟩:=I.cell y c' e
    exact ⟨w2,z2.sameBut hs hcc⟩
  ·obtain ⟨e,n,ne,nf,d⟩:=I.pin p hp
   refine ⟨(hs.2 p.1 ?_).trans e,n,ne,nf,d⟩
   intro q
   rw [q,hoc] at e
   have q' : oc = p.2:=Option.some.inj e
   exact d w' (by rw [← q']; exact hocd)
theorem qFY {M : Model} {A : Around} {E : Value → Shared → Prop} {i : Nat} {x : Str} {v : V} {u : Value} {Q : Unit → Shared → Prop} (I : Inv X pins σ H s) (hN : X.N.Nodup) (hi : X.N[i]? = some x) (hx : Loc X.env.scope x) (r : qAY v u)
  (h : ∀ s',Inv X pins (σ.set i (some v)) H s' → Q () s') (hf : autoParam (X.fn x = true ∨ X.env.scope.names.lookup x = some .local) au1._auto_1) : wpAny M A (storeName X.env x u) Q E s :=
 qN8 I hN hi hx r (fun s' I' _ => h s' I') hf
theorem Inv.call' {s' : Shared} {ch : List Addr} (I : Inv X pins σ H s) (ho : s'.os = s.os) (u : Un (frs X.stack) ch H H' s.heap s'.heap) (hok : HOk X.prog X.w H' s'.heap) (hg : AllBare s'.gens)
  (hch : ∀ b ∈ ch,(b ∈ X.ex ∨ X.s₀.heap.objs.size ≤ b) ∧ b ≠ X.env.locals ∧ (∀ x c,X.env.cells.lookup x = some c → c ≠ b) ∧ ∀ p ∈ X.pn ++ pins,p.1 ≠ b) : Inv X pins σ H' s':=by
 obtain ⟨h',g',d',t',o'⟩:=s'
 have e : o' = s.os:=ho
 subst e
 exact I.call (g':=g') (t':=t') (d':=d') u hok hg hch
end
abbrev XK:=Value → Option Addr → Hp → Prop
abbrev St:=List (Option V)
abbrev VK:=V → Hp → Prop
abbrev TE:=St → Hp → VK → Prop
abbrev TT:=St → Hp → (Bool → Hp → Prop) → Prop
abbrev TA:=St → Hp → (List V → Hp → Prop) → Prop
set_option genInjectivity false in
structure Ends where
 nx : St → Hp → Prop
 rt : VK
 bk : St → Hp → Prop:=fun _ _ => False
 ct : St → Hp → Prop:=fun _ _ => False
abbrev TS:=Ends → St → Hp → Prop
inductive EP (X : Cx) (pins : List (Addr × Obj)) (σ : St) (Q : VK) (u : Value) (s' : Shared) : Prop
 | mk (v : V) (H' : Hp) (I : Inv X pins σ H' s') (r : qAY v u) (q : Q v H') : EP X pins σ Q u s'
inductive TP (X : Cx) (pins : List (Addr × Obj)) (σ : St) (Q : Bool → Hp → Prop) (b : Bool) (s' : Shared) : Prop
 | mk (H' : Hp) (I : Inv X pins σ H' s') (q : Q b H') : TP X pins σ Q b s'
inductive AP (X : Cx) (pins : List (Addr × Obj)) (σ : St) (Q : List V → Hp → Prop) (us : List Value) (s' : Shared) : Prop
 | mk (vs : List V) (H' : Hp) (I : Inv X pins σ H' s') (r : qAZ vs us) (q : Q vs H') : AP X pins σ Q us s'
noncomputable def SP (X : Cx) (pins : List (Addr × Obj)) (D : Ends) (f : Flow) (s' : Shared) : Prop :=
 match f with
 | .next => ∃ σ' H',Inv X pins σ' H' s' ∧ D.nx σ' H'
 | .brk => ∃ σ' H',Inv X pins σ' H' s' ∧ D.bk σ' H'
 | .cont => ∃ σ' H',Inv X pins σ' H' s' ∧ D.ct σ' H'
 | .ret u => ∃ v σ' H',Inv X pins σ' H' s' ∧ qAY v u ∧ D.rt v H'
noncomputable def PE (X : Cx) (e : Expr) (t : TE) : Prop :=
 ∀ (pins : List (Addr × Obj)) (s : Shared) (σ : St) (H : Hp) (Q : VK),Inv X pins σ H s → t σ H Q → wpAny (model X.prog X.w) X.A (eval e X.env) (EP X pins σ Q) X.xe s
noncomputable def PT (X : Cx) (e : Expr) (t : TT) : Prop :=
 ∀ (pins : List (Addr × Obj)) (s : Shared) (σ : St) (H : Hp) (Q : Bool → Hp → Prop),Inv X pins σ H s → t σ H Q → wpAny (model X.prog X.w) X.A (isTrue e X.env (eval e X.env)) (TP X pins σ Q) X.xe s
noncomputable def PW (X : Cx) (e : Expr) (t : TT) : Prop :=
 ∀ (whole : Sem Value) (pins : List (Addr × Obj)) (s : Shared) (σ : St) (H : Hp) (Q : Bool → Hp → Prop),Inv X pins σ H s → t σ H Q → wpAny (model X.prog X.w) X.A (isTrue e X.env whole) (TP X pins σ Q) X.xe s
noncomputable def PA (X : Cx) (es : List Expr) (t : TA) : Prop :=
 ∀ (pos : Pos) (pins : List (Addr × Obj)) (s : Shared) (σ : St) (H : Hp) (Q : List V → Hp → Prop),Inv X pins σ H s → t σ H Q → wpAny (model X.prog X.w) X.A (spliced (backTo pos (starEach es X.env))) (AP X pins σ Q) X.xe s
noncomputable def PS (X : Cx) (st : Stmt) (t : TS) : Prop :=
 ∀ (pins : List (Addr × Obj)) (s : Shared) (σ : St) (H : Hp) (D : Ends),Inv X pins σ H s → t D σ H → wpAny (model X.prog X.w) X.A (exec st X.env) (SP X pins D) X.xe s
noncomputable def PSs (X : Cx) (st : List Stmt) (t : TS) : Prop :=
 ∀ (pins : List (Addr × Obj)) (s : Shared) (σ : St) (H : Hp) (D : Ends),Inv X pins σ H s → t D σ H → wpAny (model X.prog X.w) X.A (execs st X.env) (SP X pins D) X.xe s
theorem thn {α : Type} {t : Sem α} {Q Q' : α → Shared → Prop} {M : Model} {A : Around} {E : Value → Shared → Prop} {s : Shared} (h : wpAny M A t Q E s) (hQ : ∀ a s,Q a s → Q' a s) : wpAny M A t Q' E s:=wpAny_mono h hQ fun _ _ x => x
end _L
namespace _L
open PySem PySem.Spec PyProof.Rows
section
variable {X : Cx}
noncomputable def qYy (i : Nat) : TE:=fun σ H Q => ∃ v,σ[i]? = some (some v) ∧ Q v H
noncomputable def tC (v : V) : TE:=fun _ H Q => Q v H
theorem qYX {i : Nat} {x : Str} {pos : Pos} (hN : X.N[i]? = some x) (hv : Vis X.env.scope x) (hd : autoParam ((x == ("__debug__" : Str)) = false) au2._auto_1) (hcd : autoParam ((x == ("__classdict__" : Str)) = false) au2._auto_1) : PE X (.Name x pos) (qYy i):=by
 intro pins s σ H Q I h
 obtain ⟨v,e,h⟩:=h
 obtain ⟨m,hn,hl⟩:=I.loc
 obtain ⟨u,r,l⟩:=hl i x v hN e hv
 have fin : EP X pins σ Q u s:=⟨v,H,I,r,h⟩
 rcases l with ⟨hk,hm⟩ | ⟨hk,c,hc,hcell⟩
 ·exact wpAny_Name (wpAny_loadName_local I.ok.kind hk hn hm fin) hd
 ·rcases hk with hk | hk
  ·exact wpAny_Name (wpAny_loadName_cell I.ok.kind hk hc hcell fin) hd
  ·exact wpAny_Name (wpAny_loadName_free I.ok.kind hk hc hcell fin hcd) hd
theorem qYS {i j pos} : PE X (.Constant (.int i) j pos) (tC (.int i)):=fun _ _ _ H _ I h => wpAny_Constant_int ⟨.int i,H,I.tok _,⟨_,rfl⟩,h⟩
theorem qZo {b j pos} : PE X (.Constant (.bool b) j pos) (tC (.bl b)):=fun _ _ _ H _ I h => Constant_bool ⟨.bl b,H,I,rfl,h⟩
theorem qYT {j pos} : PE X (.Constant .none j pos) (tC .non):=fun _ _ _ H _ I h => Constant_none ⟨.non,H,I,rfl,h⟩
theorem qYV {x j pos} : PE X (.Constant (.str x) j pos) (tC (.str x)):=fun _ _ _ H _ I h => Calls.Constant_str ⟨.str x,H,I.tok _,⟨_,rfl⟩,h⟩
noncomputable def Gl (X : Cx) (x : Str) : Prop:=X.env.kindOf x = some .globalImplicit
theorem qGm {E : Value → Shared → Prop} {pins : List (Addr × Obj)} {s : Shared} {σ : St} {H : Hp} {x : Str} {u : Value} {pos : Pos} {Q : Value → Shared → Prop} (I : Inv X pins σ H s) (hg : Gl X x) (hm : X.mg x = some u) (h : Q u s)
  (hd : autoParam ((x == ("__debug__" : Str)) = false) au2._auto_1) : wpAny (model X.prog X.w) X.A (eval (.Name x pos) X.env) Q E s :=
 Calls.Name_function_global I.ok.kind hg (Calls.loadGlobal_global (by rw [I.ok.glob]; exact I.mod.glob.keeps I.bk) hm h) hd
theorem qF0 {E : Value → Shared → Prop} {pins : List (Addr × Obj)} {s : Shared} {σ : St} {H : Hp} {x : Str} {u : Value} {pos : Pos} {Q : Value → Shared → Prop} (I : Inv X pins σ H s) (hg : Gl X x) (hm : X.mg x = none) (hv : bootBuiltins x = some u) (h : Q u s)
  (hn : autoParam (x ≠ "__name__") au2._auto_1) (hd : autoParam ((x == ("__debug__" : Str)) = false) au2._auto_1) : wpAny (model X.prog X.w) X.A (eval (.Name x pos) X.env) Q E s:=by
 obtain ⟨mb,h1,h2⟩:=I.mod.blt
 exact Calls.Name_function_global I.ok.kind hg (Calls.loadGlobal_builtin (by rw [I.ok.glob]; exact I.mod.glob.keeps I.bk) hm (by rw [I.ok.blt]; exact h1.keeps I.bk) ((h2 x hn).trans hv) h) hd
theorem qWE {x : Str} {v : V} {u : Value} {pos : Pos} (hg : Gl X x) (hm : X.mg x = some u) (r : qAY v u) (hd : autoParam ((x == ("__debug__" : Str)) = false) au2._auto_1) : PE X (.Name x pos) (tC v) :=
 fun _ _ _ H _ I h => qGm I hg hm ⟨v,H,I,r,h⟩ hd
theorem qWD {x : Str} {v : V} {u : Value} {pos : Pos} (hg : Gl X x) (hm : X.mg x = none) (hv : bootBuiltins x = some u) (r : qAY v u) (hn : autoParam (x ≠ "__name__") au2._auto_1) (hd : autoParam ((x == ("__debug__" : Str)) = false) au2._auto_1) : PE X (.Name x pos) (tC v) :=
 fun _ _ _ H _ I h => qF0 I hg hm hv ⟨v,H,I,r,h⟩ hn hd
variable {a b : Expr} {ta tb : TE} {pos : Pos}
variable {tA tB' : TT} {rest : List Expr}
theorem qYi (ha : PT X a tA) : PW X (.BoolOp .Or [a] pos) tA:=by
 intro wh pins s σ H Q I h
 refine isTrue_or (thn (ha pins s σ H Q I h) fun c s1 e => ?_)
 cases c with
 | false => exact isTrue_or_nil e
 | true => exact e
theorem qYU {op} {t : TE} (h : PE X a t) : PE X (.BoolOp op [a] pos) t:=fun pins s σ H Q I hw => BoolOp_one (h pins s σ H Q I hw)
end
end _L
namespace _L
open PySem PySem.Spec PyProof.Rows
noncomputable def SqL (K : PySem.W.Frag) (H : Hp) (a : Addr) (xs : List V) : Prop :=
 Rd H a (.lst xs) ∨
  ∃ (o : Obj) (its : Array Value) (n : Nat),K.lookup a = some o ∧ o.cls = .type "list" ∧ o.dict = none ∧ o.data = .seq its n ∧ its.size ≤ sizeLine ∧ qAZ xs its.toList
noncomputable def SqT (K : PySem.W.Frag) (H : Hp) (a : Addr) (xs : List V) : Prop :=
 Rd H a (.tup xs) ∨
  ∃ (o : Obj) (its : Array Value) (n : Nat),K.lookup a = some o ∧ o.cls = .type "tuple" ∧ o.data = .seq its n ∧ its.size ≤ sizeLine ∧ qAZ xs its.toList
noncomputable def qaC : Value → Option V
 | .none => some .non
 | .bool b => some (.bl b)
 | .int i _ => some (.int i)
 | .str x _ => some (.str x)
 | .bytes b _ => some (.byt b)
 | .float b _ => some (.flt b)
 | .ref a => some (.ref a)
 | .type n => some (.ty n)
 | _ => none
theorem qAY.abs {x : V} {u : Value} (r : qAY x u) : qaC u = some x:=by
 cases x with
 | non => cases r; rfl
 | bl _ => cases r; rfl
 | int _ => obtain ⟨t,rfl⟩:=r; rfl
 | str _ => obtain ⟨t,rfl⟩:=r; rfl
 | byt _ => obtain ⟨t,rfl⟩:=r; rfl
 | flt _ => obtain ⟨t,rfl⟩:=r; rfl
 | ref _ => cases r; rfl
 | ty _ => cases r; rfl
theorem qAY.inj {x y : V} {u : Value} (r : qAY x u) (q : qAY y u) : x = y:=Option.some.inj (r.abs.symm.trans q.abs)
theorem qAZ.inj {xs ys : List V} {us : List Value} (h : qAZ xs us) (k : qAZ ys us) : xs = ys:=by
 induction h generalizing ys with
 | nil => cases k; rfl
 | cons r t ih =>
  cases k with
  | cons r' t' => rw [r.inj r',ih t']
section
variable {X : Cx} {pins : List (Addr × Obj)} {σ : St} {H : Hp} {s : Shared} {a : Addr} {xs ys : List V}
theorem SqL.of {K : PySem.W.Frag} (h : H a = some (.lst xs)) : SqL K H a xs:=.inl (.inl h)
theorem SqT.of {K : PySem.W.Frag} (h : H a = some (.tup xs)) : SqT K H a xs:=.inl (.inl h)
theorem Inv.list (I : Inv X pins σ H s) (h : SqL X.K H a xs) : ∃ its : List Value,qAZ xs its ∧ PlainL s.heap a its.toArray ∧ xs.length ≤ sizeLine:=by
 rcases h with h | ⟨o,its,n,hk,hc,hd,hs,hz,r⟩
 ·obtain ⟨z,its,n,r,e⟩:=h.ok I.hok
  exact ⟨its,r,⟨_,n,e,rfl,rfl,rfl⟩,z⟩
 ·refine ⟨its.toList,r,⟨o,n,I.kIn a o hk,hc,hd,by simpa using hs⟩,?_⟩
  have e:=r.length
  simp only [Array.length_toList] at e
  omega
theorem Inv.tuple (I : Inv X pins σ H s) (h : SqT X.K H a xs) : ∃ its : List Value,qAZ xs its ∧ IsTup s.heap a its.toArray ∧ xs.length ≤ sizeLine:=by
 rcases h with h | ⟨o,its,n,hk,hc,hs,hz,r⟩
 ·obtain ⟨z,its,r,p⟩:=h.ok I.hok
  exact ⟨its,r,p,z⟩
 ·refine ⟨its.toList,r,⟨o,I.kIn a o hk,hc,n,by simpa using hs⟩,?_⟩
  have e:=r.length
  simp only [Array.length_toList] at e
  omega
theorem Inv.list_inj (I : Inv X pins σ H s) (h : SqL X.K H a xs) (h' : SqL X.K H a ys) : xs = ys:=by
 obtain ⟨its,r,⟨o,n,e,_,_,d⟩,_⟩:=I.list h
 obtain ⟨its',r',⟨o',n',e',_,_,d'⟩,_⟩:=I.list h'
 rw [e] at e'; cases e'
 rw [d] at d'
 injection d' with d1 _
 have : its = its':=by simpa using congrArg Array.toList d1
 subst this
 exact r.inj r'
theorem Inv.tuple_inj (I : Inv X pins σ H s) (h : SqT X.K H a xs) (h' : SqT X.K H a ys) : xs = ys:=by
 obtain ⟨its,r,⟨o,e,_,n,d⟩,_⟩:=I.tuple h
 obtain ⟨its',r',⟨o',e',_,n',d'⟩,_⟩:=I.tuple h'
 rw [e] at e'; cases e'
 rw [d] at d'
 injection d' with d1 _
 have : its = its':=by simpa using congrArg Array.toList d1
 subst this
 exact r.inj r'
end
abbrev Cx.wish (X : Cx) (E : Value → Shared → Prop) : Cx:={ X with xe:=E }
abbrev Cx.nox (X : Cx) : Cx:=X.wish fun _ _ => False
section
variable {X : Cx} {st : Stmt} {rest : List Stmt} {t u : TS} {e : Expr} {te : TE} {pos : Pos}
noncomputable def qZ3 : TS:=fun D σ H => D.nx σ H
noncomputable def qaj (t u : TS) : TS:=fun D σ H => t { D with nx:=u D } σ H
theorem qWL : PSs X [] qZ3:=fun _ _ σ H _ I h => wpAny_execs_nil ⟨σ,H,I,h⟩
theorem qUH (h1 : PS X st t) (h2 : PSs X rest u) : PSs X (st :: rest) (qaj t u):=by
 intro pins s σ H D I h
 refine wpAny_execs_cons (thn (h1 pins s σ H { D with nx:=u D } I h) fun f s1 q => ?_)
 cases f with
 | next =>
  obtain ⟨σ',H',I',q⟩:=q
  exact h2 pins s1 σ' H' D I' q
 | ret v => exact q
 | brk => exact q
 | cont => exact q
theorem qWM (h1 : PS X st t) : PSs X [st] t:=by
 intro pins s σ H D I h
 refine wpAny_execs_cons (thn (h1 pins s σ H D I h) fun f s1 q => ?_)
 cases f with
 | next => exact wpAny_execs_nil q
 | ret v => exact q
 | brk => exact q
 | cont => exact q
theorem Inv.quiet {pins : List (Addr × Obj)} {σ : St} {H : Hp} {s : Shared} (I : Inv X pins σ H s) : interactive X.env = false:=by simp [interactive,I.ok.kind]
end
abbrev TG:=V → St → Hp → (St → Hp → Prop) → Prop
abbrev TGs:=List V → St → Hp → (St → Hp → Prop) → Prop
noncomputable def PG (X : Cx) (target : Expr) (t : TG) : Prop :=
 ∀ (pins : List (Addr × Obj)) (s : Shared) (σ : St) (H : Hp) (v : V) (u : Value) (Q : St → Hp → Prop),Inv X pins σ H s → qAY v u → t v σ H Q →
  wpAny (model X.prog X.w) X.A (assign target X.env u) (fun _ s' => ∃ σ' H',Inv X pins σ' H' s' ∧ Q σ' H') X.xe s
noncomputable def PGs (X : Cx) (ts : List Expr) (t : TGs) : Prop :=
 ∀ (pins : List (Addr × Obj)) (s : Shared) (σ : St) (H : Hp) (vs : List V) (us : List Value) (Q : St → Hp → Prop),Inv X pins σ H s → qAZ vs us → t vs σ H Q →
  wpAny (model X.prog X.w) X.A (assignInOrder ((assignEach ts X.env).map (·.2)) us) (fun _ s' => ∃ σ' H',Inv X pins σ' H' s' ∧ Q σ' H') X.xe s
abbrev qTF:=V → V → V → Hp → (Hp → Prop) → Prop
noncomputable def qOh (X : Cx) (t : qTF) : Prop :=
 ∀ (pins : List (Addr × Obj)) (s : Shared) (σ : St) (H : Hp) (o i v : V) (ov iv u : Value) (Q : Hp → Prop),Inv X pins σ H s → qAY o ov → qAY i iv → qAY v u → t o i v H Q →
  wpAny (model X.prog X.w) X.A (setItem ov iv u) (fun _ s' => ∃ H',Inv X pins σ H' s' ∧ Q H') X.xe s
abbrev TIp:=V → V → Hp → VK → Prop
noncomputable def PIp (X : Cx) (op : Operator) (t : TIp) : Prop :=
 ∀ (pins : List (Addr × Obj)) (s : Shared) (σ : St) (H : Hp) (x y : V) (v u : Value) (Q : VK),Inv X pins σ H s → qAY x v → qAY y u → t x y H Q →
  wpAny (model X.prog X.w) X.A (inplaceOp op v u) (EP X pins σ Q) X.xe s
section
variable {X : Cx} {pos : Pos}
noncomputable def qZU (i : Nat) : TG:=fun v σ H Q => Q (σ.set i (some v)) H
theorem qWF {i : Nat} {x : Str} (hN : X.N.Nodup) (hi : X.N[i]? = some x) (hx : Loc X.env.scope x) (hf : autoParam (X.fn x = true ∨ X.env.scope.names.lookup x = some .local) au1._auto_1) : PG X (.Name x pos) (qZU i):=by
 intro pins s σ H v u Q I r h
 exact wpAny_assign_Name (qFY I hN hi hx r (fun s' I' => ⟨_,H,I',h⟩) hf)
noncomputable def qaM : TGs:=fun vs σ H Q => vs = [] ∧ Q σ H
noncomputable def qZT (t : TG) (u : TGs) : TGs:=fun vs σ H Q => ∃ v r,vs = v :: r ∧ t v σ H fun σ' H' => u r σ' H' Q
theorem qWG : PGs X [] qaM:=by
 intro pins s σ H vs us Q I r h
 obtain ⟨e,h⟩:=h
 subst e
 cases r
 exact assignInOrder_nil ⟨σ,H,I,h⟩
theorem qUE {e : Expr} {es : List Expr} {t : TG} {u : TGs} (h1 : PG X e t) (h2 : PGs X es u)
  (hs : autoParam ((assignEach (e :: es) X.env).map (·.2) = assign e X.env :: (assignEach es X.env).map (·.2)) au3._auto_1) : PGs X (e :: es) (qZT t u):=by
 intro pins s σ H vs us Q I r h
 obtain ⟨v,vr,e1,h⟩:=h
 subst e1
 cases r with
 | cons r rr =>
  rw [hs]
  refine assignInOrder_cons (thn (h1 pins s σ H _ _ _ I r h) fun _ s1 ⟨σ1,H1,I1,q1⟩ => ?_)
  exact h2 pins s1 σ1 H1 _ _ Q I1 rr q1
noncomputable def qaN (K : PySem.W.Frag) (n : Nat) (t : TGs) : TG:=fun v σ H Q => ∃ a xs,v = .ref a ∧ SqT K H a xs ∧ xs.length = n ∧ t xs σ H Q
theorem qYZ {es : List Expr} {k : Nat} {t : TGs} {n : Nat} (hc : X.calm = true) (h : PGs X es t)
  (hn : autoParam ((assignEach es X.env).length = n) au3._auto_1) (hst : autoParam ((assignEach es X.env).findIdx? (·.1) = none) au3._auto_1) : PG X (.Tuple es k pos) (qaN X.K n t):=by
 intro pins s σ H v u Q I r hw
 obtain ⟨a,xs,e1,hq,hl,hw⟩:=hw
 subst e1
 cases r
 obtain ⟨its,rv,ht,hz⟩:=I.tuple hq
 refine assign_Tuple_tuple (I.ok.hd hc) ht (by simp [hn,← hl,rv.length]) hst fun h' hx => ?_
 have I1 : Inv X pins σ H { s with heap:=h' }:=I.kept (t':=s.toks) fun b o e => hx b o (Nat.ne_of_lt (Heap.lt_size e)) e
 exact h pins _ σ H xs _ Q I1 (by simpa using rv) hw
noncomputable def qEb (to ti : TE) (t : qTF) : TG:=fun v σ H Q => to σ H fun o H1 => ti σ H1 fun i H2 => t o i v H2 fun H3 => Q σ H3
noncomputable def qai (i j : Nat) (ta : TA) : TS:=fun D σ H => ta σ H fun vs H1 => ∃ v w,vs = [v,w] ∧ D.nx ((σ.set i (some v)).set j (some w)) H1
theorem qYg {i j : Nat} {x y : Str} {a b : Expr} {ta : TA} {px py pt : Pos} {kt k2 pt2} (hc : X.calm = true) (hN : X.N.Nodup) (hi : X.N[i]? = some x) (hj : X.N[j]? = some y) (hij : i ≠ j)
  (hx : X.env.scope.names.lookup x = some .local) (hy : X.env.scope.names.lookup y = some .local) (ha : PA X [a,b] ta)
  (hw : swappedStores [.Tuple [.Name x px,.Name y py] kt pt] (.Tuple [a,b] k2 pt2) X.env = pure (some [x,y]))
  (hs : autoParam (swapsWithSole [.Tuple [.Name x px,.Name y py] kt pt] (.Tuple [a,b] k2 pt2) pos.line X.env = pure false) au3._auto_1) :
  PS X (.Assign [.Tuple [.Name x px,.Name y py] kt pt] (.Tuple [a,b] k2 pt2) pos) (qai i j ta):=by
 intro pins s σ H D I h
 rw [exec_Assign_arm]
 refine wpAny_bind (wpAny_standAt ?_)
 rw [hs]
 refine wpAny_bind (wpAny_pure ?_)
 rw [if_neg (by decide)]
 refine wpAny_bind (Tuple_ (thn (ha _ pins s σ H _ I h) fun us s1 ⟨vs,H1,I1,r1,q1⟩ => ?_))
 obtain ⟨v,w,e1,q1⟩:=q1
 subst e1
 obtain ⟨u1,u2,rfl,rv,rw'⟩ : ∃ u1 u2,us = [u1,u2] ∧ qAY v u1 ∧ qAY w u2:=by
  cases r1 with
  | cons p q =>
   cases q with
   | cons p' q' =>
    cases q'
    exact ⟨_,_,rfl,p,p'⟩
 refine wpAny_newObj_type ?_ (by show 2 ≤ sizeLine; decide)
 have I2 : Inv X pins σ H1 { s1 with heap:=s1.heap.push { cls:=.type "tuple",data:=.seq [u1,u2].toArray } }:=I1.kept (t':=s1.toks) fun b o e => Heap.get?_push_of_some _ e
 rw [hw]
 refine wpAny_bind (wpAny_pure ?_)
 show wpAny (model X.prog X.w) X.A (do rule "assign.swapped-stores"; let items ← unpackItems (.ref s1.heap.objs.size) 2 none; assignInOrder [fun v => bindName X.env y v,fun v => bindName X.env x v] items.reverse; pure Flow.next) _ _ _
 refine wpAny_bind (wpAny_rule (wpAny_bind (unpackItems_tuple (items:=#[u1,u2]) (I.ok.hd hc) (IsTup.new s1.heap _) fun h' hx' => ?_)))
 have I3:=I2.kept (h':=h') (t':=s1.toks) fun b o e => hx' b o (Nat.ne_of_lt (Heap.lt_size e)) e
 show wpAny _ _ (assignInOrder [fun v => bindName X.env y v,fun v => bindName X.env x v] [u2,u1] >>= fun _ => pure Flow.next) _ _ _
 refine wpAny_bind (assignInOrder_cons (wpAny_bindName (qFY I3 hN hj (.inl hy) rw' (fun s2 I4 => ?_) (.inr hy))))
 refine assignInOrder_cons (wpAny_bindName (qFY I4 hN hi (.inl hx) rv (fun s3 I5 => assignInOrder_nil (wpAny_pure ?_)) (.inr hx)))
 rw [List.set_comm _ _ (Ne.symm hij)] at I5
 exact ⟨_,H1,I5,q1⟩
noncomputable def qad (i : Nat) (te : TE) (ti : TIp) : TS:=fun D σ H => ∃ x,σ[i]? = some (some x) ∧ te σ H fun y H1 => ti x y H1 fun z H2 => D.nx (σ.set i (some z)) H2
theorem qYf {i : Nat} {x : Str} {e : Expr} {te : TE} {op : Operator} {ti : TIp} {pos' : Pos} (hN : X.N.Nodup) (hi : X.N[i]? = some x) (hx : Loc X.env.scope x) (he : PE X e te) (ho : PIp X op ti) (hf : autoParam (X.fn x = true ∨ X.env.scope.names.lookup x = some .local) au1._auto_1) :
  PS X (.AugAssign (.Name x pos') op e pos) (qad i te ti):=by
 intro pins s σ H D I h
 obtain ⟨v,e1,h⟩:=h
 obtain ⟨m,hn,hl⟩:=I.loc
 have vis : Vis X.env.scope x:=by rcases hx with k | k; exact .inl k; exact .inr (.inl k)
 obtain ⟨u,r,l⟩:=hl i x v hi e1 vis
 refine wpAny_AugAssign_Name ?_
 have go : wpAny (model X.prog X.w) X.A (eval e X.env) (fun w s₂ => wpAny (model X.prog X.w) X.A (inplaceOp op u w) (fun r s₃ => wpAny (model X.prog X.w) X.A (storeName X.env x r) (fun _ => SP X pins D .next) X.xe s₃) X.xe s₂) X.xe s:=by
  refine thn (he pins s σ H _ I h) fun w s1 ⟨y,H1,I1,r1,q1⟩ => ?_
  refine thn (ho pins s1 σ H1 v y u w _ I1 r r1 q1) fun z s2 ⟨zv,H2,I2,r2,q2⟩ => ?_
  exact qFY I2 hN hi hx r2 (fun s3 I3 => ⟨_,H2,I3,q2⟩) hf
 rcases l with ⟨hk,hm⟩ | ⟨hk,c,hc,hcell⟩
 ·exact wpAny_loadName_local I.ok.kind hk hn hm go
 ·rcases hk with hk | hk
  ·exact wpAny_loadName_cell I.ok.kind hk hc hcell go
  ·rcases hx with k | k
   ·have : X.env.scope.names.lookup x = some .free:=hk
    rw [k] at this; cases this
   ·have : X.env.scope.names.lookup x = some .free:=hk
    rw [k] at this; cases this
noncomputable def ipI (f : Int → Int → Int) : TIp:=fun x y H Q => ∃ i j,x = .int i ∧ y = .int j ∧ Q (.int (f i j)) H
theorem qXm : PIp X .Add (ipI fun i j => i + j):=by
 intro pins s σ H x y v u Q I r1 r2 h
 obtain ⟨i,j,e1,e2,q⟩:=h
 subst e1; subst e2
 obtain ⟨t,rfl⟩:=r1
 obtain ⟨t',rfl⟩:=r2
 exact iadd_int ⟨.int _,H,I.tok _,⟨_,rfl⟩,q⟩
end
section
variable {X : Cx} {pos : Pos}
noncomputable def qYz (c : TT) (tb : TS) : TS:=fun D σ H => ∃ W : Nat → St → Hp → Prop,(∃ m,W m σ H) ∧ ∀ m σ H,W m σ H →
 c σ H fun b H1 => if b = true then ∃ N : St → Hp → Prop,(∀ σ' H',N σ' H' → ∃ m',m' < m ∧ W m' σ' H') ∧ tb { D with nx:=N,ct:=N,bk:=D.nx } σ H1 else D.nx σ H1
theorem qUG {c : Expr} {body : List Stmt} {tc : TT} {tb : TS} (hp : PassesOwn (model X.prog X.w) X.A X.env X.xe) (hc : PT X c tc) (hb : PSs X body tb) : PS X (.While c body [] pos) (qYz tc tb):=by
 intro pins s σ H D I h
 obtain ⟨W,⟨m0,w0⟩,turn⟩:=h
 refine wpAny_While (codeAny_whileLoop (fun n s' => ∃ σ' H',Inv X pins σ' H' s' ∧ W n σ' H') ?_ m0 ⟨σ,H,I,w0⟩)
 rintro n s1 ⟨σ1,H1,I1,w1⟩
 refine wpAny_passesOwn hp (thn (hc pins s1 σ1 H1 _ I1 (turn n σ1 H1 w1)) fun b s2 ⟨H2,I2,q2⟩ => ?_)
 cases b with
 | true =>
  obtain ⟨N,hN,q2⟩:=q2
  rw [if_pos rfl]
  refine wpAny_passesOwn hp (thn (hb pins s2 σ1 H2 _ I2 q2) fun f s3 q3 => ?_)
  cases f with
  | next =>
   obtain ⟨σ3,H3,I3,n3⟩:=q3
   obtain ⟨m',hm,w3⟩:=hN σ3 H3 n3
   exact ⟨m',hm,σ3,H3,I3,w3⟩
  | cont =>
   obtain ⟨σ3,H3,I3,n3⟩:=q3
   obtain ⟨m',hm,w3⟩:=hN σ3 H3 n3
   exact ⟨m',hm,σ3,H3,I3,w3⟩
  | brk => exact q3
  | ret v => exact q3
 | false =>
  rw [if_neg Bool.false_ne_true]
  exact wpAny_execs_nil ⟨σ1,H2,I2,q2⟩
end
set_option genInjectivity false in
structure It where
 go : Nat → Hp → Prop
 yld : Nat → Hp → V → Hp → Prop
 stop : Nat → Hp → Prop
noncomputable def qB4 (X : Cx) (pins : List (Addr × Obj)) (H : Hp) (b : Addr) : Prop :=
 H b = none ∧ b ≠ X.env.locals ∧ b ∉ X.fs ∧ (b ∈ X.ex ∨ X.s₀.heap.objs.size ≤ b) ∧ (∀ x c,X.env.cells.lookup x = some c → c ≠ b) ∧ ∀ p ∈ X.pn ++ pins,p.1 ≠ b
theorem Inv.fpOk {X : Cx} {pins : List (Addr × Obj)} {σ : St} {H H' : Hp} {s : Shared} {b : Addr} (I : Inv X pins σ H s) (hb : s.heap.objs.size ≤ b) (hn : H' b = none) : qB4 X pins H' b:=by
 refine ⟨hn,Nat.ne_of_gt (Nat.lt_of_lt_of_le I.lt hb),I.nofs hb,.inr (Nat.le_trans I.sz hb),fun x c e z => ?_,fun p hp z => ?_⟩
 ·obtain ⟨v,q⟩:=I.cell x c e
  exact absurd (Nat.lt_of_lt_of_le q.lt (by rw [z]; exact hb)) (Nat.lt_irrefl _)
 ·exact absurd (Nat.lt_of_lt_of_le (Heap.lt_size (I.pin p hp).1) (by rw [z]; exact hb)) (Nat.lt_irrefl _)
structure Turn (P : Program) (w : World) (K : PySem.W.Frag) (tg : Expr) (J : It) (fp : List Addr) (it : Addr) (tn : Nat → Heap → Prop) : Prop where
 mem : it ∈ fp
 obj : ∀ i h,tn i h → ∀ b ∈ fp,∃ o,h.get? b = some o ∧ ∀ v,o.data ≠ .cell v
 keep : ∀ i h h',tn i h → (∀ b ∈ fp,∀ o,h.get? b = some o → h'.get? b = some o) → tn i h'
 item : ∀ (X : Cx),X.prog = P → X.w = w → X.K = K → X.calm = true → ∀ (i : Nat) (pins : List (Addr × Obj)) (s : Shared) (σ : St) (H : Hp) (E : Value → Shared → Prop),Inv X pins σ H s → (∀ b ∈ fp,qB4 X pins H b) → tn i s.heap → J.go i H →
  wpAny (model P w) X.A (pyNext (.ref it)) (fun r s1 => ∃ u,r = some u ∧
   wpAny (model P w) X.A (letOwnedTupleGo tg (.ref it) u) (fun _ s2 => ∃ x H',Inv X pins σ H' s2 ∧ qAY x u ∧ J.yld i H x H' ∧ tn (i + 1) s2.heap ∧ ∀ b ∈ fp,H' b = none) E s1) E s
 done : ∀ (X : Cx),X.prog = P → X.w = w → X.K = K → X.calm = true → ∀ (i : Nat) (pins : List (Addr × Obj)) (s : Shared) (σ : St) (H : Hp) (E : Value → Shared → Prop),Inv X pins σ H s → (∀ b ∈ fp,qB4 X pins H b) → tn i s.heap → J.stop i H →
  wpAny (model P w) X.A (pyNext (.ref it)) (fun r s1 => r = none ∧ Inv X pins σ H s1) E s
 self : ∀ (A : Around) (i : Nat) (s : Shared) (Q : Value → Shared → Prop) (E : Value → Shared → Prop),tn i s.heap → Q (.ref it) s → wpAny (model P w) A (pyIter (.ref it)) Q E s
abbrev TI:=St → Hp → (It → Hp → Prop) → Prop
inductive PIE (X : Cx) (pins : List (Addr × Obj)) (σ : St) (tg : Expr) (R : It → Hp → Prop) (itv : Value) (s2 : Shared) : Prop
 | mk (it : Addr) (fp : List Addr) (tn : Nat → Heap → Prop) (J : It) (H' : Hp) (e : itv = .ref it) (I : Inv X pins σ H' s2) (t : Turn X.prog X.w X.K tg J fp it tn) (z : tn 0 s2.heap) (f : ∀ b ∈ fp,qB4 X pins H' b) (q : R J H') : PIE X pins σ tg R itv s2
noncomputable def PI (X : Cx) (tg iter : Expr) (wi : TI) : Prop :=
 ∀ (pins : List (Addr × Obj)) (s : Shared) (σ : St) (H : Hp) (R : It → Hp → Prop),Inv X pins σ H s → wi σ H R →
  wpAny (model X.prog X.w) X.A (eval iter X.env) (fun v s1 => wpAny (model X.prog X.w) X.A (pyIter v) (PIE X pins σ tg R) X.xe s1) X.xe s
theorem qOX {M : Model} {A : Around} {E : Value → Shared → Prop} {s : Shared} {tg : Expr} {it : Addr} {u : Value} {o : Obj} {n : String} {vs : Array Value} {Q : Unit → Shared → Prop} (ho : s.heap.get? it = some o) (hc : o.cls = .type n) (hd : o.data = .fields vs)
    (hn : ["enumerate","zip","dict_itemiterator","dict_reverseitemiterator","odict_iterator","itertools.zip_longest","itertools.pairwise"].contains n = false) (hQ : Q () s) : wpAny M A (letOwnedTupleGo tg (.ref it) u) Q E s:=by
  unfold letOwnedTupleGo
  cases tg <;> first
    | exact wpAny_pure hQ
    | (cases u <;> first
        | exact wpAny_pure hQ
        | (refine wpAny_bind (wpAny_load ho ?_)
           rw [hc,hd]
           show wpAny M A (if (["enumerate","zip","dict_itemiterator","dict_reverseitemiterator","odict_iterator","itertools.zip_longest","itertools.pairwise"].contains n && vs[0]? == some (rawInt _)) = true then _ else _) Q E s
           rw [if_neg (by intro h; rw [hn,Bool.false_and] at h; cases h)]
           exact wpAny_pure hQ))
noncomputable def Itl (K : PySem.W.Frag) (a : Addr) : It :=
 ⟨fun i H => ∃ xs x,SqL K H a xs ∧ xs[i]? = some x,fun i H x H' => H' = H ∧ ∀ xs,SqL K H a xs → xs[i]? = some x,fun i H => ∃ xs,SqL K H a xs ∧ xs.length ≤ i⟩
noncomputable def Itt (K : PySem.W.Frag) (a : Addr) : It :=
 ⟨fun i H => ∃ xs x,SqT K H a xs ∧ xs[i]? = some x,fun i H x H' => H' = H ∧ ∀ xs,SqT K H a xs → xs[i]? = some x,fun i H => ∃ xs,SqT K H a xs ∧ xs.length ≤ i⟩
noncomputable def Itr (lo : Int) (n : Nat) : It:=⟨fun i _ => i < n,fun i H x H' => H' = H ∧ x = .int (lo + i),fun i _ => n ≤ i⟩
theorem qN9 {P : Program} {w : World} {K : PySem.W.Frag} {tg : Expr} (a it : Addr) : Turn P w K tg (Itl K a) [it] it (fun i h => h.IsListIter it a i) where
 mem:=by simp
 obj:=fun i h st b hb => by
  have e : b = it:=by simpa using hb
  subst e
  obtain ⟨o,e,c,d⟩:=st
  exact ⟨o,e,fun v z => by rw [d] at z; cases z⟩
 keep:=fun i h h' st k => st.at fun o e => k it (by simp) o e
 item:=by
  intro X hP hw hK hc i pins s σ H E I hf st hg
  subst hP hw hK
  obtain ⟨xs,x,hq,hx⟩:=hg
  obtain ⟨its,rv,p,hz⟩:=I.list hq
  obtain ⟨u,hu,ru⟩:=rv.get hx
  obtain ⟨f0,f1,f2,f3,f4,f5⟩:=hf it (by simp)
  refine wpAny_pyNext_list_item st p.isList (x:=u) (by simpa using hu) fun h' st' sb => ?_
  have I1 : Inv X pins σ H { s with heap:=h' }:=I.turned (t':=s.toks) (fun b o hb e => (sb.2 b hb).trans e) f0 f1 f3 f4 f5
  obtain ⟨o,e,c,d⟩:=id st'
  exact ⟨u,rfl,qOX (s:={ s with heap:=h' }) e c d (by decide) ⟨x,H,I1,ru,⟨rfl,fun ys hy => by rw [I.list_inj hy hq]; exact hx⟩,st',fun b hb => (hf b hb).1⟩⟩
 done:=by
  intro X hP hw hK hc i pins s σ H E I hf st hg
  subst hP hw hK
  obtain ⟨xs,hq,hx⟩:=hg
  obtain ⟨its,rv,p,hz⟩:=I.list hq
  obtain ⟨f0,f1,f2,f3,f4,f5⟩:=hf it (by simp)
  have hl:=rv.length
  exact wpAny_pyNext_list_end (I.ok.hd hc) st p.isList (by simp; omega) fun h' eb => ⟨rfl,I.turned (t':=s.toks) (fun b o hb e => eb b o hb e) f0 f1 f3 f4 f5⟩
 self:=fun _ _ _ _ _ st h => wpAny_pyIter_listiter st h
theorem qRc {P : Program} {w : World} {K : PySem.W.Frag} {tg : Expr} (a it : Addr) : Turn P w K tg (Itt K a) [it] it (fun i h => h.IsTupleIter it a i) where
 mem:=by simp
 obj:=fun i h st b hb => by
  have e : b = it:=by simpa using hb
  subst e
  obtain ⟨o,e,c,d⟩:=st
  exact ⟨o,e,fun v z => by rw [d] at z; cases z⟩
 keep:=fun i h h' st k => st.at fun o e => k it (by simp) o e
 item:=by
  intro X hP hw hK hc i pins s σ H E I hf st hg
  subst hP hw hK
  obtain ⟨xs,x,hq,hx⟩:=hg
  obtain ⟨its,rv,p,hz⟩:=I.tuple hq
  obtain ⟨u,hu,ru⟩:=rv.get hx
  obtain ⟨f0,f1,f2,f3,f4,f5⟩:=hf it (by simp)
  refine wpAny_pyNext_tuple_item st (show s.heap.IsTuple a its.toArray from p) (x:=u) (by simpa using hu) fun h' st' sb => ?_
  have I1 : Inv X pins σ H { s with heap:=h' }:=I.turned (t':=s.toks) (fun b o hb e => (sb.2 b hb).trans e) f0 f1 f3 f4 f5
  obtain ⟨o,e,c,d⟩:=id st'
  exact ⟨u,rfl,qOX (s:={ s with heap:=h' }) e c d (by decide) ⟨x,H,I1,ru,⟨rfl,fun ys hy => by rw [I.tuple_inj hy hq]; exact hx⟩,st',fun b hb => (hf b hb).1⟩⟩
 done:=by
  intro X hP hw hK hc i pins s σ H E I hf st hg
  subst hP hw hK
  obtain ⟨xs,hq,hx⟩:=hg
  obtain ⟨its,rv,p,hz⟩:=I.tuple hq
  obtain ⟨f0,f1,f2,f3,f4,f5⟩:=hf it (by simp)
  have hl:=rv.length
  exact wpAny_pyNext_tuple_end (I.ok.hd hc) st (show s.heap.IsTuple a its.toArray from p) (by simp; omega) fun h' eb => ⟨rfl,I.turned (t':=s.toks) (fun b o hb e => eb b o hb e) f0 f1 f3 f4 f5⟩
 self:=fun _ _ _ _ _ st h => wpAny_pyIter_tupleiter st h
theorem qRb {P : Program} {w : World} {K : PySem.W.Frag} {tg : Expr} (it : Addr) (lo : Int) (n : Nat) : Turn P w K tg (Itr lo n) [it] it (fun i h => IsRangeIter h it (lo + (i : Nat) * 1) ((n : Int) - (i : Nat)) 1) where
 mem:=by simp
 obj:=fun i h st b hb => by
  have e : b = it:=by simpa using hb
  subst e
  exact ⟨_,st,fun v z => by
   have z' : Data.fields _ = Data.cell v:=z
   cases z'⟩
 keep:=fun i h h' st k => k it (by simp) _ st
 item:=by
  intro X hP hw hK hc i pins s σ H E I hf st hg
  subst hP hw hK
  obtain ⟨f0,f1,f2,f3,f4,f5⟩:=hf it (by simp)
  have W:=Walks.range (prog:=X.prog) (w:=X.w) (I.ok.hd hc) it lo 1 n
  refine W.item i s _ _ hg st fun v h' tk hv st' kk => ?_
  obtain ⟨t,rfl⟩:=hv
  have I1 : Inv X pins σ H { s with heap:=h',toks:=tk }:=I.turned (fun b o hb e => kk b o (by simpa using hb) e) f0 f1 f3 f4 f5
  refine ⟨_,rfl,qOX (s:={ s with heap:=h',toks:=tk }) (n:="range_iterator") st' rfl rfl (by decide) ⟨.int (lo + i),H,I1,⟨t,?_⟩,⟨rfl,rfl⟩,st',fun b hb => (hf b hb).1⟩⟩
  rw [Int.mul_one]
 done:=by
  intro X hP hw hK hc i pins s σ H E I hf st hg
  subst hP hw hK
  obtain ⟨f0,f1,f2,f3,f4,f5⟩:=hf it (by simp)
  exact wpAny_pyNext_range_end (I.ok.hd hc) st (by have : n ≤ i:=hg; omega) fun h' eb => ⟨rfl,I.turned (t':=s.toks) (fun b o hb e => eb b o hb e) f0 f1 f3 f4 f5⟩
 self:=fun _ _ _ _ _ st h => wpAny_pyIter_rangeiter st h
end _L
namespace _L
open PySem PySem.Spec PyProof.Rows
section
variable {X : Cx} {tg : Expr}
theorem qPq {pins : List (Addr × Obj)} {σ : St} {H : Hp} {s : Shared} {R : It → Hp → Prop} {E : Value → Shared → Prop} {lo hi : Int} {t u v : Tok} {tk : Nat} (I : Inv X pins σ H s) (h1 : -(2 ^ 62) ≤ lo) (h2 : lo < 2 ^ 62) (h3 : -(2 ^ 62) ≤ hi) (h4 : hi < 2 ^ 62)
  (q : R (Itr lo (hi - lo).toNat) H) : wpAny (model X.prog X.w) X.A (pyIter (.ref s.heap.objs.size)) (PIE X pins σ tg R) E { s with heap:=s.heap.push { cls:=.type "range",data:=.fields #[.int lo t,.int hi u,.int 1 v] },toks:=tk }:=by
 refine wpAny_pyIter_range (IsRange.new ..) (small_one h1 h2 h3 h4) ?_
 have I1 : Inv X pins σ H { s with heap:=s.heap.push { cls:=.type "range",data:=.fields #[.int lo t,.int hi u,.int 1 v] },toks:=tk }:=I.kept fun b o e => Heap.get?_push_of_some _ e
 refine ⟨(s.heap.push { cls:=.type "range",data:=.fields #[.int lo t,.int hi u,.int 1 v] }).objs.size,[(s.heap.push { cls:=.type "range",data:=.fields #[.int lo t,.int hi u,.int 1 v] }).objs.size],_,_,H,rfl,
  I1.kept (t':=tk) fun b o e => Heap.get?_push_of_some _ e,qRb _ lo (hi - lo).toNat,?_,fun b hb => ?_,q⟩
 ·have e1 : lo + ((0 : Nat) : Int) * 1 = lo:=by simp
  have e2 : (((hi - lo).toNat : Nat) : Int) - ((0 : Nat) : Int) = Builtin.Range.rangeSize lo hi 1:=by rw [rangeSize_one]; split <;> omega
  show IsRangeIter _ _ (lo + ((0 : Nat) : Int) * 1) ((((hi - lo).toNat : Nat) : Int) - ((0 : Nat) : Int)) 1
  rw [e1,e2]
  exact Heap.get?_push_size _ rfl
 ·have e : b = (s.heap.push { cls:=.type "range",data:=.fields #[.int lo t,.int hi u,.int 1 v] }).objs.size:=by simpa using hb
  subst e
  exact I1.fpOk (Nat.le_refl _) (I1.hok.fresh (Nat.le_refl _))
noncomputable def qae (wi : TI) (g : TG) (tb : TS) : TS:=fun D σ H => wi σ H fun J H1 => ∃ W : Nat → Nat → St → Hp → Prop,(∃ m,W 0 m σ H1) ∧ ∀ i m σ H,W i m σ H →
 (J.stop i H ∧ D.nx σ H) ∨ (J.go i H ∧ ∃ N : St → Hp → Prop,(∀ σ' H',N σ' H' → ∃ m',m' < m ∧ W (i + 1) m' σ' H') ∧ ∀ x H',J.yld i H x H' → g x σ H' fun σ2 H2 => tb { D with nx:=N,ct:=N,bk:=D.nx } σ2 H2)
noncomputable def qE6 (fp : List Addr) (h : Heap) : List (Addr × Obj):=fp.filterMap fun b => (h.get? b).map fun o => (b,o)
theorem qGh {fp : List Addr} {h : Heap} {b : Addr} {o : Obj} (hb : b ∈ fp) (e : h.get? b = some o) : (b,o) ∈ qE6 fp h:=List.mem_filterMap.mpr ⟨b,hb,by rw [e]; rfl⟩
theorem qN2 {fp : List Addr} {h : Heap} {p : Addr × Obj} (hp : p ∈ qE6 fp h) : p.1 ∈ fp ∧ h.get? p.1 = some p.2:=by
 obtain ⟨b,hb,e⟩:=List.mem_filterMap.mp hp
 cases q : h.get? b with
 | none => rw [q] at e; cases e
 | some o =>
  rw [q] at e
  have e' : (b,o) = p:=Option.some.inj e
  subst e'
  exact ⟨hb,q⟩
theorem Inv.pinned {pins : List (Addr × Obj)} {σ : St} {H : Hp} {s : Shared} {fp : List Addr} (I : Inv X pins σ H s) (hf : ∀ b ∈ fp,qB4 X pins H b) (ho : ∀ b ∈ fp,∃ o,s.heap.get? b = some o ∧ ∀ v,o.data ≠ .cell v) : Inv X (pins ++ qE6 fp s.heap) σ H s :=
 I.pins_of fun p hp => (List.mem_append.mp hp).elim (fun z => I.pin p (List.mem_append_right _ z)) fun z => by
  obtain ⟨hb,e⟩:=qN2 z
  obtain ⟨f0,f1,f2,_⟩:=hf p.1 hb
  obtain ⟨o,e',d⟩:=ho p.1 hb
  rw [e] at e'; cases e'
  exact ⟨e,f0,f1,f2,d⟩
theorem Inv.unpinned {pins pl : List (Addr × Obj)} {σ : St} {H : Hp} {s : Shared} (I : Inv X (pins ++ pl) σ H s) : Inv X pins σ H s:=I.pins_of fun p hp => I.pin p (List.mem_append_right _ (List.mem_append_left _ hp))
inductive ForI (X : Cx) (pins : List (Addr × Obj)) (fp : List Addr) (tn : Nat → Heap → Prop) (W : Nat → Nat → St → Hp → Prop) (n : Nat) (s' : Shared) : Prop
 | mk (i : Nat) (σ' : St) (H' : Hp) (I : Inv X pins σ' H' s') (t : tn i s'.heap) (f : ∀ b ∈ fp,H' b = none) (w : W i n σ' H') : ForI X pins fp tn W n s'
theorem qSp {iter : Expr} {body : List Stmt} {wi : TI} {g : TG} {tb : TS} {pos : Pos} (hp : PassesOwn (model X.prog X.w) X.A X.env X.xe) (hc : X.calm = true) (hi : PI X tg iter wi) (hg : PG X tg g) (hb : PSs X body tb)
  (hs : autoParam (∀ x,foldedSetIterable iter X.env x = pure x) au4._auto_1) : PS X (.For tg iter body [] pos) (qae wi g tb):=by
 intro pins s σ H D I h
 refine wpAny_For (thn (hi pins s σ H _ I h) fun v s1 h1 => thn h1 fun itv s2 h2 => ?_) hs
 obtain ⟨it,fp,tn,J,H2,e,I2,T,st2,f2,W,⟨m0,w0⟩,turn⟩:=h2
 subst e
 have stat : ∀ {H' : Hp},(∀ b ∈ fp,H' b = none) → ∀ b ∈ fp,qB4 X pins H' b:=fun hn b hb => ⟨hn b hb,(f2 b hb).2⟩
 refine codeAny_forLoop_any (ForI X pins fp tn W) ?_ m0 ⟨0,σ,H2,I2,st2,fun b hb => (f2 b hb).1,w0⟩
 rintro n s3 ⟨i,σ3,H3,I3,st3,fr3,w3⟩
 rcases turn i n σ3 H3 w3 with ⟨stop,qn⟩ | ⟨go,N,hN,step⟩
 ·refine wpAny_passesOwn hp (thn (T.done X rfl rfl rfl hc i pins s3 σ3 H3 X.xe I3 (stat fr3) st3 stop) fun r s4 ⟨hr,I4⟩ => ?_)
  subst hr
  exact wpAny_execs_nil ⟨σ3,H3,I4,qn⟩
 ·refine wpAny_passesOwn hp (thn (T.item X rfl rfl rfl hc i pins s3 σ3 H3 X.xe I3 (stat fr3) st3 go) fun r s4 ⟨u,hr,h4⟩ => ?_)
  subst hr
  refine wpAny_passesOwn hp (thn h4 fun _ s5 ⟨x,H5,I5,r5,y5,st5,fr5⟩ => ?_)
  have I5':=I5.pinned (stat fr5) (T.obj _ _ st5)
  refine wpAny_passesOwn hp (thn (hg _ s5 σ3 H5 x u _ I5' r5 (step x H5 y5)) fun _ s6 ⟨σ6,H6,I6,q6⟩ => ?_)
  refine wpAny_passesOwn hp (thn (hb _ s6 σ6 H6 _ I6 q6) fun f s7 q7 => ?_)
  have again : ∀ {σ7 : St} {H7 : Hp},Inv X (pins ++ qE6 fp s5.heap) σ7 H7 s7 → N σ7 H7 → ∃ m,m < n ∧ ForI X pins fp tn W m s7:=fun {σ7 H7} I7 n7 => by
   obtain ⟨m',hm,w7⟩:=hN σ7 H7 n7
   refine ⟨m',hm,i + 1,σ7,H7,I7.unpinned,T.keep _ _ _ st5 fun b hb o e => (I7.pin (b,o) (List.mem_append_right _ (List.mem_append_right _ (qGh hb e)))).1,fun b hb => ?_,w7⟩
   obtain ⟨o,e,d⟩:=T.obj _ _ st5 b hb
   exact (I7.pin (b,o) (List.mem_append_right _ (List.mem_append_right _ (qGh hb e)))).2.1
  cases f with
  | next => obtain ⟨σ7,H7,I7,n7⟩:=q7; exact again I7 n7
  | cont => obtain ⟨σ7,H7,I7,n7⟩:=q7; exact again I7 n7
  | brk => obtain ⟨σ7,H7,I7,q7⟩:=q7; exact ⟨σ7,H7,I7.unpinned,q7⟩
  | ret v => obtain ⟨x7,σ7,H7,I7,r7,q7⟩:=q7; exact ⟨x7,σ7,H7,I7.unpinned,r7,q7⟩
end
end _L
namespace _L
open PySem PySem.Spec PyProof.Rows
abbrev R2:=V → V → Hp → VK → Prop
noncomputable def OpR (X : Cx) (f : Value → Value → Sem Value) (r : R2) : Prop :=
 ∀ (pins : List (Addr × Obj)) (s : Shared) (σ : St) (H : Hp) (x y : V) (v u : Value) (Q : VK),Inv X pins σ H s → qAY x v → qAY y u → r x y H Q →
  wpAny (model X.prog X.w) X.A (f v u) (EP X pins σ Q) X.xe s
noncomputable def UnR (X : Cx) (f : Value → Sem Value) (r : V → Hp → VK → Prop) : Prop :=
 ∀ (pins : List (Addr × Obj)) (s : Shared) (σ : St) (H : Hp) (x : V) (v : Value) (Q : VK),Inv X pins σ H s → qAY x v → r x H Q →
  wpAny (model X.prog X.w) X.A (f v) (EP X pins σ Q) X.xe s
noncomputable def qQ7 (X : Cx) (f : Value) (r : List V → Hp → VK → Prop) : Prop :=
 ∀ (pins : List (Addr × Obj)) (s : Shared) (σ : St) (H : Hp) (xs : List V) (us : List Value) (Q : VK),Inv X pins σ H s → qAZ xs us → r xs H Q →
  wpAny (model X.prog X.w) X.A (call f us) (EP X pins σ Q) X.xe s
noncomputable def qaB (X : Cx) (r : V → Hp → (Bool → Hp → Prop) → Prop) : Prop :=
 ∀ (pins : List (Addr × Obj)) (s : Shared) (σ : St) (H : Hp) (x : V) (v : Value) (Q : Bool → Hp → Prop),Inv X pins σ H s → qAY x v → r x H Q →
  wpAny (model X.prog X.w) X.A (truthy v) (TP X pins σ Q) X.xe s
noncomputable def tOp (r : R2) (ta tb : TE) : TE:=fun σ H Q => ta σ H fun x H1 => tb σ H1 fun y H2 => r x y H2 Q
noncomputable def rI (C : Int → Int → Prop) (g : Int → Int → V) : R2:=fun x y H Q => ∃ i j,x = .int i ∧ y = .int j ∧ C i j ∧ Q (g i j) H
noncomputable def rI0 (g : Int → Int → V) : R2:=fun x y H Q => ∃ i j,x = .int i ∧ y = .int j ∧ Q (g i j) H
noncomputable def rU (g : Int → V) : V → Hp → VK → Prop:=fun x H Q => ∃ i,x = .int i ∧ Q (g i) H
section
variable {X : Cx} {a b c : Expr} {ta tb tc : TE} {pos : Pos}
theorem qaE (ha : PE X a ta) (hb : PE X b tb) {pins : List (Addr × Obj)} {s : Shared} {σ : St} {H : Hp} {R : V → V → Hp → Prop} (I : Inv X pins σ H s)
  (h : ta σ H fun x H1 => tb σ H1 fun y H2 => R x y H2) {Q : Value → Shared → Prop} {f : Value → Value → Sem Value}
  (hf : ∀ v u s2 x y H2,Inv X pins σ H2 s2 → qAY x v → qAY y u → R x y H2 → wpAny (model X.prog X.w) X.A (f v u) Q X.xe s2) :
  wpAny (model X.prog X.w) X.A (eval a X.env) (fun v s₁ => wpAny (model X.prog X.w) X.A (eval b X.env) (fun u s₂ => wpAny (model X.prog X.w) X.A (f v u) Q X.xe s₂) X.xe s₁) X.xe s:=by
 refine thn (ha pins s σ H _ I h) fun v s1 ⟨x,H1,I1,r1,q1⟩ => ?_
 refine thn (hb pins s1 σ H1 _ I1 q1) fun u s2 ⟨y,H2,I2,r2,q2⟩ => ?_
 exact hf v u s2 x y H2 I2 r1 r2 q2
theorem opI {f : Value → Value → Sem Value} {C : Int → Int → Prop} {g : Int → Int → Int}
  (rule : ∀ (i j : Int) (t u : Tok) (s : Shared) (Q : Value → Shared → Prop) (E : Value → Shared → Prop),C i j → Q (.int (g i j) s.toks) { s with toks:=s.toks + 1 } → wpAny (model X.prog X.w) X.A (f (.int i t) (.int j u)) Q E s) :
  OpR X f (rI C fun i j => .int (g i j)):=by
 intro pins s σ H x y v u Q I rx ry h
 obtain ⟨i,j,rfl,rfl,hc,q⟩:=h
 obtain ⟨t,rfl⟩:=rx
 obtain ⟨t',rfl⟩:=ry
 exact rule i j t t' s _ _ hc ⟨.int (g i j),H,I.tok _,⟨_,rfl⟩,q⟩
theorem qYJ {f : Value → Value → Sem Value} {g : Int → Int → Int}
  (rule : ∀ (i j : Int) (t u : Tok) (s : Shared) (Q : Value → Shared → Prop) (E : Value → Shared → Prop),Q (.int (g i j) s.toks) { s with toks:=s.toks + 1 } → wpAny (model X.prog X.w) X.A (f (.int i t) (.int j u)) Q E s) :
  OpR X f (rI0 fun i j => .int (g i j)):=by
 intro pins s σ H x y v u Q I rx ry h
 obtain ⟨i,j,rfl,rfl,q⟩:=h
 obtain ⟨t,rfl⟩:=rx
 obtain ⟨t',rfl⟩:=ry
 exact rule i j t t' s _ _ ⟨.int (g i j),H,I.tok _,⟨_,rfl⟩,q⟩
theorem qRV {f : Value → Value → Sem Value} {g : Int → Int → Bool}
  (rule : ∀ (i j : Int) (t u : Tok) (s : Shared) (Q : Value → Shared → Prop) (E : Value → Shared → Prop),Q (.bool (g i j)) s → wpAny (model X.prog X.w) X.A (f (.int i t) (.int j u)) Q E s) :
  OpR X f (rI0 fun i j => .bl (g i j)):=by
 intro pins s σ H x y v u Q I rx ry h
 obtain ⟨i,j,rfl,rfl,q⟩:=h
 obtain ⟨t,rfl⟩:=rx
 obtain ⟨t',rfl⟩:=ry
 exact rule i j t t' s _ _ ⟨.bl (g i j),H,I,rfl,q⟩
noncomputable def qZ9 (i j : Int) : Prop:=0 < j ∧ j < 1073741824
noncomputable def qaA (i j : Int) : Prop:=0 ≤ j ∧ j ≤ 1000000 ∧ i.natAbs < 2 ^ 64
noncomputable def qTC (i j : Int) : Prop:=(-(2 ^ 64) < i ∧ i < 2 ^ 64) ∨ (-(2 ^ 64) < j ∧ j < 2 ^ 64)
theorem qTC.ok {i j : Int} (h : qTC i j) : IntMulOk i j:=by
 rcases h with ⟨h1,h2⟩ | ⟨h1,h2⟩
 ·exact .of_left (intBits_le_64 h1 h2)
 ·exact .of_right (intBits_le_64 h1 h2)
theorem qYL : OpR X (binaryOp .Add) (rI0 fun i j => .int (i + j)):=qYJ fun _ _ _ _ _ _ _ q => add_int q
theorem qYQ : OpR X (binaryOp .Sub) (rI0 fun i j => .int (i - j)):=qYJ fun _ _ _ _ _ _ _ q => sub_int q
theorem qYO : OpR X (binaryOp .Mult) (rI qTC fun i j => .int (i * j)):=opI fun _ _ _ _ _ _ _ hc q => mul_int q hc.ok
theorem qWA : OpR X (binaryOp .FloorDiv) (rI qZ9 fun i j => .int (i / j)):=opI fun i j _ _ _ _ _ hc q => by
 have h1 : (0 : Int) < j:=hc.1
 have h2 : j < 1073741824:=hc.2
 exact floordiv_int (by omega) (by rw [Int.fdiv_eq_ediv_of_nonneg i (by omega)]; exact q) (.inl (PyProof.noPylong_small (by omega)))
theorem qYN : OpR X (binaryOp .Mod) (rI (fun _ j => 0 < j) fun i j => .int (i % j)):=opI fun i j _ _ _ _ _ hc q => by
 have h1 : (0 : Int) < j:=hc
 exact mod_int' (by omega) (by rw [Int.fmod_eq_emod_of_nonneg i (by omega)]; exact q)
theorem qYP : OpR X (binaryOp .Pow) (rI qaA fun i j => .int (i ^ j.toNat)):=opI fun _ _ _ _ _ _ _ hc q => pow_int_small hc.1 hc.2.1 hc.2.2 q
theorem unI {f : Value → Sem Value} {g : Int → Int}
  (rule : ∀ (i : Int) (t : Tok) (s : Shared) (Q : Value → Shared → Prop) (E : Value → Shared → Prop),Q (.int (g i) s.toks) { s with toks:=s.toks + 1 } → wpAny (model X.prog X.w) X.A (f (.int i t)) Q E s) :
  UnR X f (rU fun i => .int (g i)):=by
 intro pins s σ H x v Q I rx h
 obtain ⟨i,rfl,q⟩:=h
 obtain ⟨t,rfl⟩:=rx
 exact rule i t s _ _ ⟨.int (g i),H,I.tok _,⟨_,rfl⟩,q⟩
theorem qY7 : UnR X (unaryOp .USub) (rU fun i => .int (-i)):=unI fun _ _ _ _ _ q => neg_int q
end
section
variable {X : Cx} {a b c : Expr} {ta tb tc : TE} {pos : Pos}
theorem qXg {pins : List (Addr × Obj)} {σ : St} {H : Hp} {s : Shared} {Q : VK} {k k' : Bool} (I : Inv X pins σ H s) (q : Q (.bl k) H) (e : k = k') : EP X pins σ Q (.bool k') s:=by
 subst e
 exact ⟨.bl k,H,I,rfl,q⟩
theorem qZm : OpR X (compareOp .Lt) (rI0 fun i j => .bl (decide (i < j))):=qRV fun _ _ _ _ _ _ _ q => lt_int q
theorem qZl : OpR X (compareOp .LtE) (rI0 fun i j => .bl (decide (i ≤ j))):=qRV fun _ _ _ _ _ _ _ q => le_int q
theorem qZk : OpR X (compareOp .Gt) (rI0 fun i j => .bl (decide (j < i))):=qRV fun _ _ _ _ _ _ _ q => gt_int q
theorem qZj : OpR X (compareOp .GtE) (rI0 fun i j => .bl (decide (j ≤ i))):=qRV fun _ _ _ _ _ _ _ q => ge_int q
theorem qYM : OpR X (compareOp .Is) (fun x y H Q => y = .non ∧ Q (.bl (decide (x = .non))) H):=by
 intro pins s σ H x y v u Q I rx ry h
 obtain ⟨rfl,q⟩:=h
 cases ry
 refine is_none_gen (qXg I q ?_)
 cases x <;> first
  | (cases rx; rfl)
  | (obtain ⟨t,rfl⟩:=rx; rfl)
theorem qMI (b : Expr) {op : CmpOp} (h : autoParam (op ≠ .In) au2._auto_1) (h2 : autoParam (op ≠ .NotIn) au2._auto_1) : behindInMarks op b = false:=by
 have e1 : (op == CmpOp.In) = false:=by cases op <;> first | rfl | exact absurd rfl h
 have e2 : (op == CmpOp.NotIn) = false:=by cases op <;> first | rfl | exact absurd rfl h2
 cases b <;> simp [behindInMarks,e1,e2]
noncomputable def qQ9 (K : PySem.W.Frag) (x : V) (H : Hp) (k : Bool) : Prop :=
 match x with
 | .non => k = false
 | .bl b => k = b
 | .int i => k = (i != 0)
 | .str y => y.length ≤ sizeLine ∧ k = ((y.length : Int) != 0)
 | .byt y => y.size ≤ sizeLine ∧ k = ((y.size : Int) != 0)
 | .ref p => (∃ xs,SqL K H p xs ∧ k = !xs.isEmpty) ∨ (∃ xs,SqT K H p xs ∧ k = !xs.isEmpty) ∨ ∃ kvs,H p = some (.dK kvs) ∧ k = !kvs.isEmpty
 | _ => False
theorem qRO {κ : Type} {kvs : List (κ × V)} {vs : List (κ × Value)} (r : KV kvs vs) : (!vs.isEmpty) = !kvs.isEmpty:=by
 cases r <;> rfl
theorem qMA {xs : List V} {its : List Value} (r : qAZ xs its) : (!its.toArray.isEmpty) = !xs.isEmpty:=by
 cases r <;> simp
theorem qKL : (sizeLine : Nat) < 2 ^ 63:=by rw [sizeLine_eq]; decide
theorem qMX : qaB X (fun x H Q => ∃ k,qQ9 X.K x H k ∧ Q k H):=by
 intro pins s σ H x v Q I rx h
 obtain ⟨k,e,q⟩:=h
 have hl:=qKL
 have hs : sizeLine = 16777216:=sizeLine_eq
 cases x with
 | non =>
  cases rx
  have e' : k = false:=e
  subst e'
  exact truthy_none ⟨H,I,q⟩
 | bl b =>
  cases rx
  have e' : k = b:=e
  subst e'
  exact wpAny_truthy_bool ⟨H,I,q⟩
 | int i =>
  obtain ⟨t,rfl⟩:=rx
  have e' : k = (i != 0):=e
  subst e'
  exact PySem.P.truthy_int ⟨H,I,q⟩
 | str y =>
  obtain ⟨t,rfl⟩:=rx
  obtain ⟨hy,e'⟩ : y.length ≤ sizeLine ∧ k = ((y.length : Int) != 0):=e
  subst e'
  exact PySem.P.truthy_str (by omega) ⟨H,I.tok _,q⟩
 | byt y =>
  obtain ⟨t,rfl⟩:=rx
  obtain ⟨hy,e'⟩ : y.size ≤ sizeLine ∧ k = ((y.size : Int) != 0):=e
  subst e'
  exact PySem.W.truthy_bytes (by omega) ⟨H,I.tok _,q⟩
 | ref p =>
  cases rx
  have e' : (∃ xs,SqL X.K H p xs ∧ k = !xs.isEmpty) ∨ (∃ xs,SqT X.K H p xs ∧ k = !xs.isEmpty) ∨ ∃ kvs,H p = some (.dK kvs) ∧ k = !kvs.isEmpty:=e
  rcases e' with ⟨xs,hx,e'⟩ | ⟨xs,hx,e'⟩ | ⟨kvs,hx,e'⟩
  ·subst e'
   obtain ⟨its,r,pl,hz⟩:=I.list hx
   have hlen:=r.length
   exact wpAny_truthy_list pl.isList (by simp only [List.size_toArray]; omega) ⟨H,I.tok _,by rw [qMA r]; exact q⟩
  ·subst e'
   obtain ⟨its,r,pl,hz⟩:=I.tuple hx
   have hlen:=r.length
   exact truthy_tuple pl (by simp only [List.size_toArray]; omega) ⟨H,I.tok _,by rw [qMA r]; exact q⟩
  ·subst e'
   obtain ⟨hz,hS,vs,r,m⟩ : kvs.length ≤ sizeLine ∧ (p == sysModules) = false ∧ ∃ vs,KV kvs vs ∧ s.heap.DictOf (qBP X.prog X.w) p vs:=I.hok p _ hx
   have hlen : kvs.length = vs.length:=Paired.length r
   exact wpAny_truthy_dict hS m (by omega) ⟨H,I.tok _,by rw [qRO r]; exact q⟩
 | _ => exact (show False from e).elim
theorem qRW : OpR X (binaryOp .Add) (fun x y H Q => ∃ i j,x = .str i ∧ y = .str j ∧ i.length + j.length ≤ sizeLine ∧ Q (.str (i ++ j)) H):=by
 intro pins s σ H x y v u Q I rx ry h
 obtain ⟨i,j,rfl,rfl,hz,q⟩:=h
 obtain ⟨t,rfl⟩:=rx
 obtain ⟨t',rfl⟩:=ry
 exact add_str (fun t' tk => ⟨.str (i ++ j),H,I.tok _,⟨_,rfl⟩,q⟩) hz
theorem qJd {x : V} {us : List Value} (r : qAZ [x] us) : ∃ u,us = [u] ∧ qAY x u:=by
 cases r with
 | cons r1 r2 => cases r2; exact ⟨_,rfl,r1⟩
theorem qU2 {x y : V} {us : List Value} (r : qAZ [x,y] us) : ∃ u w',us = [u,w'] ∧ qAY x u ∧ qAY y w':=by
 cases r with
 | cons r1 r2 =>
  cases r2 with
  | cons r3 r4 => cases r4; exact ⟨_,_,rfl,r1,r3⟩
theorem qNj : qQ7 X (.type "int") (fun xs H Q => (∃ i,xs = [.int i] ∧ Q (.int i) H) ∨ ∃ k,xs = [.bl k] ∧ Q (.int (if k then 1 else 0)) H):=by
 intro pins s σ H xs us Q I r h
 rcases h with ⟨i,rfl,q⟩ | ⟨k,rfl,q⟩
 ·obtain ⟨u,rfl,t,rfl⟩:=qJd r
  exact call_int_int ⟨.int i,H,I,⟨_,rfl⟩,q⟩
 ·obtain ⟨u,rfl,r1⟩:=qJd r
  cases r1
  exact call_int_bool ⟨.int (if k then 1 else 0),H,I.tok _,⟨_,rfl⟩,q⟩
noncomputable def qWm (K : PySem.W.Frag) (x : V) (H : Hp) (n : Nat) : Prop :=
 match x with
 | .str y => y.length ≤ sizeLine ∧ n = y.length
 | .byt y => y.size ≤ sizeLine ∧ n = y.size
 | .ref p => (∃ xs,SqL K H p xs ∧ n = xs.length) ∨ ∃ xs,SqT K H p xs ∧ n = xs.length
 | _ => False
theorem qTK : qQ7 X (.builtin "len") (fun xs H Q => ∃ x n,xs = [x] ∧ qWm X.K x H n ∧ Q (.int n) H):=by
 intro pins s σ H xs us Q I r h
 obtain ⟨x,n,rfl,e,q⟩:=h
 obtain ⟨u,rfl,rx⟩:=qJd r
 have hl:=qKL
 have hs : sizeLine = 16777216:=sizeLine_eq
 cases x with
 | str y =>
  obtain ⟨t,rfl⟩:=rx
  obtain ⟨hy,e'⟩ : y.length ≤ sizeLine ∧ n = y.length:=e
  subst e'
  exact len_str (by omega) ⟨.int _,H,I.tok _,⟨_,rfl⟩,q⟩
 | byt y =>
  obtain ⟨t,rfl⟩:=rx
  obtain ⟨hy,e'⟩ : y.size ≤ sizeLine ∧ n = y.size:=e
  subst e'
  exact PySem.W.len_bytes (by omega) ⟨.int _,H,I.tok _,⟨_,rfl⟩,q⟩
 | ref p =>
  cases rx
  have e' : (∃ xs,SqL X.K H p xs ∧ n = xs.length) ∨ ∃ xs,SqT X.K H p xs ∧ n = xs.length:=e
  rcases e' with ⟨xs,hx,e'⟩ | ⟨xs,hx,e'⟩
  ·subst e'
   obtain ⟨its,r',pl,hz⟩:=I.list hx
   have hlen:=r'.length
   exact Calls.call_len_list pl.isList (by simp only [List.size_toArray]; omega) ⟨.int xs.length,H,I.tok _,⟨_,by simp only [List.size_toArray]; rw [hlen]⟩,q⟩
  ·subst e'
   obtain ⟨its,r',pl,hz⟩:=I.tuple hx
   have hlen:=r'.length
   exact len_tuple pl (by simp only [List.size_toArray]; omega) ⟨.int xs.length,H,I.tok _,⟨_,by simp only [List.size_toArray]; rw [hlen]⟩,q⟩
 | _ => exact (show False from e).elim
end
end _L
namespace _L
open PySem PySem.Spec PyProof.Rows
structure ObjM (h : Heap) (x dx C : Addr) (mA : Str → Option Value) : Prop where
 obj : h.get? x = some (PySem.W.instObj C dx)
 ns : h.Ns1 dx mA
 ne : dx ≠ x
set_option tactic.hygienic true in
theorem qSY {h : Heap} {dx : Addr} {mA : Str → Option Value} (n : h.Ns1 dx mA) : ∃ od,h.get? dx = some od ∧ ∀ name,PySem.W.lookIn name od = some (mA name):=by
 obtain ⟨o,es,ep,ho,hd,hk,_,hm⟩:=n
 refine ⟨o,ho,fun name => ?_⟩
 have e:=hm name
 unfold nsFind findBy at e
 rw [← Array.find?_toList] at e
 unfold PySem.W.lookIn
 rw [hd]
 dsimp only
 split
 ·rename_i y q
  rw [q] at e
  exact congrArg some e
 ·rename_i q
  rw [q] at e
  have a : es.toList.any (·.refKey) = false:=by
   rw [List.any_eq_false]
   intro y hy
   obtain ⟨z,t,hkey⟩:=hk y (Array.mem_toList_iff.mp hy)
   simp [DictEntry.refKey,hkey]
  have a' : ¬ es.toList.any (·.refKey) = true:=by rw [a]; exact Bool.false_ne_true
  rw [if_neg a']
  exact congrArg some e
theorem ObjM.look {h : Heap} {x dx C : Addr} {mA : Str → Option Value} (I : ObjM h x dx C mA) : ∃ od,PySem.W.InstAt h x (PySem.W.instObj C dx) C (some od) ∧ ∀ name,PySem.W.lookIn name od = some (mA name) :=
 let ⟨od,ho,hl⟩:=qSY I.ns
 ⟨od,⟨I.obj,rfl,rfl,ho⟩,hl⟩
section
variable {P : Program} {w : World} {H H' : Hp} {h h' : Heap} {a C dx : Addr} {fs fs' : List (Str × V)}
theorem qVm (hok : HOk P w H h) (e : H a = some (.ins C dx fs)) : ∃ mA,ObjM h a dx C mA ∧ (∀ f,qK7 (fs.lookup f) (mA f)) ∧ PySem.Within mA (fs.map (·.1)) ∧ fs.length ≤ 1000 ∧ H dx = some (.own a):=by
 obtain ⟨d,z,ne,ob,mA,n,r,q⟩:=(show qBG P w H h a (.ins C dx fs) from hok a _ e)
 exact ⟨mA,⟨ob,n,ne⟩,r,q,z,d⟩
end
structure Cls (K : PySem.W.Frag) (C : Addr) : Prop where
 pg : PySem.W.plainGet K C Str.empty = true
 hd : PySem.W.hasDictIn K C = true
 po : PySem.W.plainOver K C = true
 sa : PySem.W.findIn K (.ref C) "__setattr__" = some (some (.builtin "object.__setattr__"))
theorem Cls.get {K : PySem.W.Frag} {C : Addr} (c : Cls K C) (f : Str) : PySem.W.plainGet K C f = true:=c.pg
section
variable {X : Cx} {pins : List (Addr × Obj)} {σ : St} {H : Hp} {s : Shared} {A : Around} {E : Value → Shared → Prop} {Q : Value → Shared → Prop} {c : Value} {b : Bool}
inductive TyOf (K : PySem.W.Frag) (H : Hp) : V → Value → Prop where
 | non : TyOf K H .non (.type "NoneType")
 | bl (x : Bool) : TyOf K H (.bl x) (.type "bool")
 | int (i : Int) : TyOf K H (.int i) (.type "int")
 | str (x : Str) : TyOf K H (.str x) (.type "str")
 | flt (x : UInt64) : TyOf K H (.flt x) (.type "float")
 | lst {a : Addr} {xs : List V} (e : H a = some (.lst xs)) : TyOf K H (.ref a) (.type "list")
 | frz {a : Addr} {o : Obj} {xs : List V} (e : H a = some (.frz o (.lst xs))) : TyOf K H (.ref a) (.type "list")
 | tup {a : Addr} {xs : List V} (e : H a = some (.tup xs)) : TyOf K H (.ref a) (.type "tuple")
 | dK {a : Addr} {kvs : List (Key × V)} (e : H a = some (.dK kvs)) : TyOf K H (.ref a) (.type "dict")
 | dT {a : Addr} {kvs : List (List Key × V)} (e : H a = some (.dT kvs)) : TyOf K H (.ref a) (.type "dict")
 | ins {a C dx : Addr} {fs : List (Str × V)} (e : H a = some (.ins C dx fs)) (cl : Cls K C) (ha : PySem.W.findIn K (.ref C) "__class__" = some (some (.builtin "object.__class__")))
   (hn : PySem.W.specialIn K (.builtin "object.__class__") "__get__" = some (some (.builtin "getset_descriptor.__get__"))) (htk : PySem.W.takesIn K (.builtin "object.__class__") = some true)
   (hm : PySem.W.mroIn K C (.type "object") = some true) : TyOf K H (.ref a) (.ref C)
theorem qSO {x : V} {u t : Value} (I : Inv X pins σ H s) (rx : qAY x u) (ty : TyOf X.K H x t) (e : PySem.W.kitOne X.K t c = some b) (h : ∀ tk,Q (.bool b) { s with toks:=tk }) :
  wpAny (model X.prog X.w) A (call (.builtin "isinstance") [u,c]) Q E s:=by
 cases ty with
 | non => cases (show u = Value.none from rx); exact PySem.W.kia_one PySem.W.kitx_none I.kIn True.intro e (fun z => nomatch z) h
 | bl y => cases (show u = Value.bool y from rx); exact PySem.W.kia_one PySem.W.kitx_bool I.kIn True.intro e (fun z => nomatch z) h
 | int i => obtain ⟨t,q⟩:=(show ∃ t,u = Value.int i t from rx); cases q; exact PySem.W.kia_one PySem.W.kitx_int I.kIn True.intro e (fun z => nomatch z) h
 | str y => obtain ⟨t,q⟩:=(show ∃ t,u = Value.str y t from rx); cases q; exact PySem.W.kia_one PySem.W.kitx_str I.kIn True.intro e (fun z => nomatch z) h
 | flt y => obtain ⟨t,q⟩:=(show ∃ t,u = Value.float y t from rx); cases q; exact PySem.W.kia_one PySem.W.kitx_float I.kIn True.intro e (fun z => nomatch z) h
 | @lst a xs ea =>
  cases (show u = Value.ref a from rx)
  obtain ⟨_,_,n,_,h1⟩:=(show qBG X.prog X.w H s.heap a (.lst xs) from I.hok a _ ea)
  exact PySem.W.kia_one PySem.W.kitx_list I.kIn ⟨_,h1,rfl⟩ e (fun z => nomatch z) h
 | @frz a ob xs ea =>
  cases (show u = Value.ref a from rx)
  obtain ⟨_,_,_,n,_,h1⟩:=(show qBG X.prog X.w H s.heap a (.frz ob (.lst xs)) from I.hok a _ ea)
  exact PySem.W.kia_one PySem.W.kitx_list I.kIn ⟨_,h1,rfl⟩ e (fun z => nomatch z) h
 | @tup a xs ea =>
  cases (show u = Value.ref a from rx)
  obtain ⟨_,_,_,p⟩:=(show qBG X.prog X.w H s.heap a (.tup xs) from I.hok a _ ea)
  obtain ⟨o,h1,h2,_⟩:=p
  exact PySem.W.kia_one PySem.W.kitx_tuple I.kIn ⟨o,h1,h2⟩ e (fun z => nomatch z) h
 | @dK a kvs ea =>
  cases (show u = Value.ref a from rx)
  obtain ⟨_,_,vs,_,p⟩:=(show qBG X.prog X.w H s.heap a (.dK kvs) from I.hok a _ ea)
  obtain ⟨o,es,ep,h1,h2,_⟩:=p
  exact PySem.W.kia_one PySem.W.kitx_dict I.kIn ⟨o,h1,h2.1⟩ e (fun z => nomatch z) h
 | @dT a kvs ea =>
  cases (show u = Value.ref a from rx)
  obtain ⟨_,_,xs,_,o,es,ep,h1,h2,_⟩:=(show qBG X.prog X.w H s.heap a (.dT kvs) from I.hok a _ ea)
  exact PySem.W.kia_one PySem.W.kitx_dict I.kIn ⟨o,h1,h2.1⟩ e (fun z => nomatch z) h
 | @ins a C dx fs ea cl ha hn htk hm =>
  cases (show u = Value.ref a from rx)
  obtain ⟨mA,O,_⟩:=qVm I.hok ea
  obtain ⟨od,J,_⟩:=O.look
  exact PySem.W.kia_one (PySem.W.kitx_own (cl.get _) cl.hd ha hn htk hm) I.kIn J e (fun z => nomatch z) h
end
end _L
namespace _L
open PySem PySem.Spec PyProof.Rows
structure Room (k : Nat) (A : Around) : Prop where
 hd : A.handled = none
 dp : A.depth + 3 * k + 5 < recursionLimit
 un : A.units + 16 * k + 200 < cLine
noncomputable def qah : TA:=fun _ H Q => Q [] H
section
variable {X : Cx} {e : Expr} {es : List Expr} {te : TE} {t : TA} {pos : Pos}
theorem qYR : PA X [] qah:=fun _ _ _ _ H Q I h => Calls.spliced_nil ⟨[],H,I,.nil,h⟩
noncomputable def qak (t : TA) : TE:=fun σ H Q => t σ H fun xs H1 => xs.length ≤ sizeLine ∧ ∀ p,H1 p = none → Q (.ref p) (upd H1 p (.tup xs))
noncomputable def qag (t : TA) : TE:=fun σ H Q => t σ H fun xs H1 => xs.length ≤ sizeLine ∧ ∀ p,H1 p = none → Q (.ref p) (upd H1 p (.lst xs))
theorem qYW {x1} (h : PA X es t) : PE X (.Tuple es x1 pos) (qak t):=by
 intro pins s σ H Q I hq
 refine wpAny_Tuple_spliced (thn (h pos pins s σ H _ I hq) fun us s1 ⟨xs,H1,I1,r,z,q⟩ => ⟨by rw [← r.length]; exact z,?_⟩)
 have hf : H1 s1.heap.objs.size = none:=I1.hok.fresh (Nat.le_refl _)
 refine ⟨.ref s1.heap.objs.size,upd H1 s1.heap.objs.size (.tup xs),I1.laid (t':=s1.toks) (fun b u e => Heap.get?_push_of_some _ e) (Nat.le_refl _) ?_,rfl,q _ hf⟩
 exact ⟨z,us,r,⟨_,Heap.get?_push_size _ rfl,rfl,_,rfl⟩⟩
theorem qSl (h : PA X es t) : PE X (.List es pos) (qag t):=by
 intro pins s σ H Q I hq
 refine wpAny_List_spliced (thn (h pos pins s σ H _ I hq) fun us s1 ⟨xs,H1,I1,r,z,q⟩ => ⟨by rw [← r.length]; exact z,?_⟩)
 have hf : H1 s1.heap.objs.size = none:=I1.hok.fresh (Nat.le_refl _)
 refine ⟨.ref s1.heap.objs.size,upd H1 s1.heap.objs.size (.lst xs),I1.laid (t':=s1.toks) (fun b u e => Heap.get?_push_of_some _ e) (Nat.le_refl _) ?_,rfl,q _ hf⟩
 exact ⟨z,us,0,r,Heap.get?_push_size _ rfl⟩
end
abbrev Sp:=List V → Hp → VK → XK → Prop
abbrev CXT:=List Env → Hp → Shared → XK → Value → Shared → Prop
structure Env0 (P : Program) (w : World) (K : PySem.W.Frag) (mg : Str → Option Value) (base : Heap) (A : Around) (outer : List Env) (s : Shared) (H : Hp) : Prop where
 frames : A.frames = some outer
 mod : Mod K mg base
 bs : ∀ b o,base.get? b = some o → s.heap.get? b = some o ∧ H b = none
 bsz : base.objs.size ≤ s.heap.objs.size
 funs : s.heap.FunFrames base outer
 frf : ∀ b ∈ frs outer,H b = none
 hok : HOk P w H s.heap
 bare : AllBare s.gens
noncomputable def CE (outer : List Env) (P : Program) (w : World) (H : Hp) (s : Shared) (Q : VK) (u : Value) (s' : Shared) : Prop :=
 ∃ v H',s'.os = s.os ∧ AllBare s'.gens ∧ Un (frs outer) [] H H' s.heap s'.heap ∧ HOk P w H' s'.heap ∧ qAY v u ∧ Q v H'
noncomputable def CR (CX : CXT) (outer : List Env) (P : Program) (w : World) (H : Hp) (s : Shared) (Q : VK) (E : XK) (r : Result) (s' : Shared) : Prop :=
 match r with
 | .ok (.ret u) => CE outer P w H s Q u s'
 | .ok _ => False
 | .error e => CX outer H s E e s'
structure FnOk (P : Program) (w : World) (K : PySem.W.Frag) (mg : Str → Option Value) (base : Heap) (CX : CXT) (k : Nat) (f : Addr) (fd : FuncData) (ps : List Str) (sp : Sp) : Prop where
 len : ∀ vs H Q E,sp vs H Q E → vs.length = ps.length
 run : ∀ (A : Around) (outer : List Env) (s : Shared) (H : Hp) (args : Args) (us : List Value) (vs : List V) (Q : VK) (E : XK),Room k A → Env0 P w K mg base A outer s H → BindsTo s fd args (ps.zip us) → qAZ vs us → sp vs H Q E →
  codeAny (model P w) A (.call (.ref f) args) (CR CX outer P w H s Q E) s
section
variable {X : Cx} {pins : List (Addr × Obj)} {σ : St} {H : Hp} {s s' : Shared}
theorem Inv.env0 (I : Inv X pins σ H s) : Env0 X.prog X.w X.K X.mg X.base X.A X.stack s H :=
 ⟨I.ok.frames,I.ok.mod,I.bs,Nat.le_trans I.ok.bsz I.sz,I.stack,I.stkFree,I.hok,I.bare⟩
theorem Inv.after {Q : VK} {u : Value} (I : Inv X pins σ H s) (h : CE X.stack X.prog X.w H s Q u s') : EP X pins σ Q u s':=by
 obtain ⟨v,H',os,bare,un,hok,r,q⟩:=h
 obtain ⟨hh,g,d,t,os'⟩:=s'
 obtain rfl : os' = s.os:=os
 exact ⟨v,H',I.call (h':=hh) (g':=g) (d':=d) (t':=t) (ch:=[]) un hok bare (fun b z => absurd z (by simp)),r,q⟩
end
noncomputable def qEt (K : PySem.W.Frag) (fd : FuncData) (ps : List Str) (ds : List Value) : Prop :=
 ∀ (s : Shared) (us : List Value),K.In s.heap → (us ++ ds).length = ps.length → BindsTo s fd ⟨us,[]⟩ (ps.zip (us ++ ds))
theorem qEt.all {K : PySem.W.Frag} {fd : FuncData} {ps : List Str} (h : ∀ us : List Value,us.length = ps.length → bindArgs fd ⟨us,[]⟩ = pure (ps.zip us)) : qEt K fd ps []:=fun s us _ hl => by
 rw [List.append_nil] at hl ⊢
 exact .of_eq (h us hl)
structure FnScope (N P : List Str) (sc : Scope) : Prop where
 kind : sc.kind = .function
 co : sc.isCoroutine = false
 gen : sc.isGenerator = false
 nd : N.Nodup
 pre : N.take P.length = P
 par : ∀ x ∈ P,sc.names.lookup x = some .local ∨ sc.names.lookup x = some .cell
 nofree : ∀ y ∈ sc.names,y.2 ≠ .free
theorem qNg {kindOf : Str → Option NameKind} {x : Str} : ∀ {binds : List (Str × Value)} {m : Str → Option Value},(∀ v,(x,v) ∉ binds) → bindL kindOf binds m x = m x
 | [],_,_ => rfl
 | (n,v) :: r,m,h => by
  unfold bindL
  rw [qNg fun w hw => h w (List.mem_cons_of_mem _ hw)]
  split
  ·have : x ≠ n:=by rintro rfl; exact h v List.mem_cons_self
   simp [this]
  ·rfl
theorem qNe {kindOf : Str → Option NameKind} {x : Str} : ∀ {binds : List (Str × Value)} {m : Str → Option Value},(∀ v,(x,v) ∉ binds) → bindC kindOf binds m x = m x
 | [],_,_ => rfl
 | (n,v) :: r,m,h => by
  unfold bindC
  rw [qNe fun w hw => h w (List.mem_cons_of_mem _ hw)]
  split
  ·rfl
  ·have : x ≠ n:=by rintro rfl; exact h v List.mem_cons_self
   simp [this]
theorem qNf {kindOf : Str → Option NameKind} {x : Str} {v : Value} : ∀ {P : List Str} {vs : List Value} {i : Nat} {m : Str → Option Value},P.Nodup → P[i]? = some x → vs[i]? = some v → kindOf x = some .local →
  bindL kindOf (P.zip vs) m x = some v
 | [],_,_,_,_,h,_,_ => by simp at h
 | _ :: _,[],_,_,_,_,h,_ => by simp at h
 | p :: P,w :: vs,0,m,nd,h1,h2,hk => by
  simp at h1 h2; subst h1; subst h2
  show bindL kindOf ((p,w) :: P.zip vs) m p = _
  unfold bindL
  rw [qNg fun v hv => (List.nodup_cons.mp nd).1 (List.of_mem_zip hv).1,if_pos hk]
  simp
 | p :: P,w :: vs,i + 1,m,nd,h1,h2,hk => by
  show bindL kindOf ((p,w) :: P.zip vs) m x = _
  unfold bindL
  exact qNf (i:=i) (List.nodup_cons.mp nd).2 (by simpa using h1) (by simpa using h2) hk
theorem qNd {kindOf : Str → Option NameKind} {x : Str} {v : Value} : ∀ {P : List Str} {vs : List Value} {i : Nat} {m : Str → Option Value},P.Nodup → P[i]? = some x → vs[i]? = some v → kindOf x ≠ some .local →
  bindC kindOf (P.zip vs) m x = some v
 | [],_,_,_,_,h,_,_ => by simp at h
 | _ :: _,[],_,_,_,_,h,_ => by simp at h
 | p :: P,w :: vs,0,m,nd,h1,h2,hk => by
  simp at h1 h2; subst h1; subst h2
  show bindC kindOf ((p,w) :: P.zip vs) m p = _
  unfold bindC
  rw [qNe fun v hv => (List.nodup_cons.mp nd).1 (List.of_mem_zip hv).1,if_neg hk]
  simp
 | p :: P,w :: vs,i + 1,m,nd,h1,h2,hk => by
  show bindC kindOf ((p,w) :: P.zip vs) m x = _
  unfold bindC
  exact qNd (i:=i) (List.nodup_cons.mp nd).2 (by simpa using h1) (by simpa using h2) hk
noncomputable def qE8 (N : List Str) (vs : List V) : St:=vs.map some ++ List.replicate (N.length - vs.length) none
noncomputable def qW5 (CX : CXT) (P : Program) (w : World) (K : PySem.W.Frag) (mg : Str → Option Value) (base : Heap) (N : List Str) (qual : Str) (scope : Scope) (f : Addr) (cd : Value) (A : Around) (outer : List Env) (s : Shared) (H : Hp) (E : XK) : Cx where
 prog:=P
 w:=w
 K:=K
 mg:=mg
 base:=base
 A:=A.deeper (envOfC qual scope s.heap.objs.size f cd)
 N:=N
 s₀:=s
 H₀:=H
 env:=envOfC qual scope s.heap.objs.size f cd
 outer:=outer
 stack:=envOfC qual scope s.heap.objs.size f cd :: outer
 ex:=[]
 calm:=true
 fn:=fun _ => true
 pn:=[]
 xe:=fun e s' => wpAny (model P w) (A.deeper (envOfC qual scope s.heap.objs.size f cd)) (leaving (envOfC qual scope s.heap.objs.size f cd) e) (fun _ s'' => CX outer H s E e s'') (fun e' s'' => CX outer H s E e' s'') s'
theorem qOy {sc : Scope} {n : Nat} {x : Str} (h : sc.names.lookup x = some .cell) : ∃ c,(cellsFrom n sc.names []).lookup x = some c:=by
 have q:=PySem.W.cellsFrom_some sc.names n [] (.inl h)
 exact Option.isSome_iff_exists.mp q
theorem qSM {CX : CXT} {P : Program} {w : World} {K : PySem.W.Frag} {mg : Str → Option Value} {base : Heap} {N ps : List Str} {qual : Str} {scope : Scope} {f : Addr} {cd : Value} {A : Around} {outer : List Env} {s s1 : Shared} {H : Hp} {E : XK} {us : List Value} {vs : List V}
  (S : FnScope N ps scope) (hd : A.handled = none) (e0 : Env0 P w K mg base A outer s H) (hl : vs.length = ps.length) (r : qAZ vs us)
  (x : InCallC s s.heap.objs.size (bindL (envOfC qual scope s.heap.objs.size f cd).kindOf (ps.zip us) fun _ => none) (cellsFrom (s.heap.objs.size + 1) scope.names []) (bindC (envOfC qual scope s.heap.objs.size f cd).kindOf (ps.zip us) fun _ => none) s1) :
  Inv (qW5 CX P w K mg base N qual scope f cd A outer s H E) [] (qE8 N vs) H s1:=by
 have hpl : ps.length ≤ N.length:=by have:=congrArg List.length S.pre; rw [List.length_take] at this; omega
 obtain ⟨h1,tk,rfl,hk⟩:=x.done
 have noA : ∀ b : Addr,b ∉ (qW5 CX P w K mg base N qual scope f cd A outer s H E).ex:=fun b z => absurd (show b ∈ ([] : List Addr) from z) (by simp)
 refine ⟨⟨e0.mod,S.kind,rfl,rfl,Nat.le_refl _,fun y z c h1 h2 => ?_,fun y hy => ?_,fun y c _ h => ?_,fun _ => hd,Around.frames_deeper e0.frames,.inr ⟨rfl,rfl⟩,fun b z => absurd z (noA b),e0.bs,e0.bsz,fun b _ _ => noA b,fun b z => absurd z (noA b),e0.funs,e0.frf⟩,
  rfl,e0.bare,Un.kept hk,⟨_,x.toInCall.ns,fun i y v h1 h2 h3 => ?_⟩,fun y c h => ⟨_,x.cell y c h⟩,e0.hok.fresh (Nat.le_refl _),fun y c h => ?_,fun p hp => absurd (show p ∈ ([] : List (Addr × Obj)) from hp) (by simp),e0.hok.kept hk,?_⟩
 ·exact name_of_addr x.apart (PySem.mem_of_lookup h1) (PySem.mem_of_lookup h2)
 ·have hy : scope.names.lookup y = some .cell ∨ scope.names.lookup y = some .free:=hy
  rcases hy with hy | hy
  ·exact qOy hy
  ·exact absurd rfl (S.nofree _ (PySem.mem_of_lookup hy))
 ·exact Nat.le_of_lt (x.above y c (PySem.mem_of_lookup h))
 ·have hi : i < vs.length:=by
   unfold qE8 at h2
   by_cases hi : i < vs.length
   ·exact hi
   ·rw [List.getElem?_append_right (by simpa using hi)] at h2
    rw [List.getElem?_replicate] at h2
    split at h2 <;> cases h2
  have ha : vs[i]? = some v:=by
   unfold qE8 at h2
   rw [List.getElem?_append_left (by simpa using hi),List.getElem?_map] at h2
   cases e : vs[i]? with
   | none => rw [e] at h2; cases h2
   | some a => rw [e] at h2; cases h2; rfl
  obtain ⟨u,hu,rv⟩:=r.get ha
  have hp : ps[i]? = some y:=by
   rw [← S.pre,List.getElem?_take_of_lt (by omega)]; exact h1
  have ndP : ps.Nodup:=by rw [← S.pre]; exact S.nd.sublist (List.take_sublist _ _)
  refine ⟨u,rv,?_⟩
  rcases S.par y (List.mem_of_getElem? hp) with k | k
  ·exact .inl ⟨k,qNf ndP hp hu k⟩
  ·obtain ⟨c,e⟩:=qOy (n:=s.heap.objs.size + 1) k
   refine .inr ⟨.inl k,c,e,?_⟩
   have q:=x.cell y c e
   rw [qNd ndP hp hu (by show scope.names.lookup y ≠ _; rw [k]; decide)] at q
   exact q
 ·exact e0.hok.fresh (Nat.le_of_lt (x.above y c (PySem.mem_of_lookup h)))
 ·unfold qE8
  show _ = N.length
  rw [List.length_append,List.length_map,List.length_replicate]
  omega
end _L
namespace _H
open PySem PyProof.Rows
noncomputable def lexLt : List Int → List Int → Bool
 | [],[] => false
 | [],_ :: _ => true
 | _ :: _,[] => false
 | x :: xs,y :: ys => if x = y then lexLt xs ys else decide (x < y)
theorem lexLt_cons (x y : Int) (xs ys : List Int) : lexLt (x :: xs) (y :: ys) = if x = y then lexLt xs ys else decide (x < y):=rfl
theorem lexLt_nil_nil : lexLt [] [] = false:=rfl
theorem lexLt_nil_cons (y : Int) (ys : List Int) : lexLt [] (y :: ys) = true:=rfl
theorem lexLt_cons_nil (x : Int) (xs : List Int) : lexLt (x :: xs) [] = false:=rfl
theorem eqAt_int (A : Around) (s : Shared) (a : Int) (t : Tok) (c : Int) (u : Tok) : ∃ e,SeqAt.EqAt A s (.int a t) (.int c u) e ∧ (e = true ↔ a = c) :=
 ⟨(a == c),SeqAt.EqAt.int_int a t c u,by simp⟩
section
variable {prog : Program} {w : World} {A : Around} {E : Value → Shared → Prop} {s : Shared}
theorem cat_tup {t b : Addr} {vs ws : List Value} {Q : Value → Shared → Prop} (ht : IsTup s.heap t vs.toArray) (hb : IsTup s.heap b ws.toArray) (hv : vs ≠ [])
  (h1 : ws = [] → Q (.ref t) s) (h2 : ws ≠ [] → Q (.ref s.heap.objs.size) { s with heap:=s.heap.push { cls:=.type "tuple",data:=.seq (vs ++ ws).toArray } })
  (hsz : vs.length + ws.length ≤ sizeLine) : wpAny (model prog w) A (binaryOp .Add (.ref t) (.ref b)) Q E s:=by
 obtain ⟨⟨cls,dd,data,sl⟩,ho,hc,n,hd⟩:=id ht
 obtain ⟨⟨cls2,dd2,data2,sl2⟩,ho2,hc2,n2,hd2⟩:=id hb
 simp only at hc hd hc2 hd2
 subst hc hd hc2 hd2
 have e : vs.toArray ++ ws.toArray = (vs ++ ws).toArray:=by simp
 by_cases hw : ws = []
 ·exact concat_meets ⟨_,ho,rfl⟩ ⟨_,ho2,rfl⟩ noFill_tuple_add seq_tuple_add PySem.F.slot_tuple_add PySem.F.entry_tuple_add (PySem.F.args_tuple_add_2 _ _)
   (tuple_addW1 t b vs.toArray ws.toArray n n2 dd dd2 sl sl2 (by simpa using hv) (by simp [hw])) ⟨ho,ho2,h1 hw⟩
 ·refine concat_meets ⟨_,ho,rfl⟩ ⟨_,ho2,rfl⟩ noFill_tuple_add seq_tuple_add PySem.F.slot_tuple_add PySem.F.entry_tuple_add (PySem.F.args_tuple_add_2 _ _)
   (tuple_addW2 t b vs.toArray ws.toArray n n2 dd dd2 sl sl2 (by simpa using hv) (by simpa using hw) (by rw [List.size_toArray,List.size_toArray]; exact hsz)) ⟨ho,ho2,?_⟩
  rw [e]
  exact h2 hw
noncomputable def sIx (n d : Nat) : Option Int → Nat
 | none => d
 | some v => if v < 0 then (v + (n : Int)).toNat else min v.toNat n
theorem sIx_none (n d : Nat) : sIx n d none = d:=rfl
theorem sIx_nat (n d k : Nat) : sIx n d (some (k : Int)) = min k n:=by
 show (if (k : Int) < 0 then ((k : Int) + (n : Int)).toNat else min (k : Int).toNat n) = min k n
 rw [if_neg (by omega),Int.toNat_natCast]
theorem qYt (n d : Nat) (hd : d ≤ n) (o : Option Int) : sIx n d o ≤ n:=by
 cases o with
 | none => exact hd
 | some v =>
  show (if v < 0 then (v + (n : Int)).toNat else min v.toNat n) ≤ n
  by_cases hv : v < 0
  ·rw [if_pos hv]; omega
  ·rw [if_neg hv]; exact Nat.min_le_right _ _
theorem qQS (v : Int) (n d : Nat) : (if v < 0 then max (v + (n : Int)) 0 else min v (n : Int)) = ((sIx n d (some v) : Nat) : Int):=by
 show (if v < 0 then max (v + (n : Int)) 0 else min v (n : Int)) = (((if v < 0 then (v + (n : Int)).toNat else min v.toNat n) : Nat) : Int)
 by_cases hv : v < 0
 ·simp only [if_pos hv]; omega
 ·simp only [if_neg hv]; omega
theorem qRB (lo hi : Option Int) (n : Nat) : Builtin.Slice.sliceAdjust lo hi 1 (n : Int) = (((sIx n 0 lo : Nat) : Int),((sIx n n hi : Nat) : Int)):=by
 have h1 : ¬ ((1 : Int) < 0):=by omega
 unfold Builtin.Slice.sliceAdjust
 simp only [h1,if_false]
 refine Prod.ext ?_ ?_
 ·cases lo with
  | none => rfl
  | some v => exact qQS v n 0
 ·cases hi with
  | none => rfl
  | some v => exact qQS v n n
theorem qRY (i j : Nat) : Builtin.Slice.slicePlaces (i : Int) (j : Int) 1 = j - i:=by
 unfold Builtin.Slice.slicePlaces
 have h1 : (1 : Int) > 0:=by omega
 simp only [h1,if_true,Int.ediv_one]
 split <;> omega
theorem qMW {v : Value} {o : Option Int} {Q : Option Int → Shared → Prop} (p : IsPart v o) (h : Q o s) : wpAny (model prog w) A (Builtin.Slice.slicePartIndex v) Q E s:=by
 cases p with
 | none => exact slicePart_none h
 | int i t => exact slicePart_int h
theorem qHf {sl : Addr} {vl vu : Value} {lo hi : Option Int} {n : Nat} {Q : Int × Int × Nat → Shared → Prop} (hs : s.heap.IsSliceOf sl vl vu .none) (pl : IsPart vl lo) (pu : IsPart vu hi)
  (h : Q (((sIx n 0 lo : Nat) : Int),1,sIx n n hi - sIx n 0 lo) s) : wpAny (model prog w) A (Builtin.Slice.sliceApplied (.ref sl) (pure (n : Int))) Q E s:=by
 obtain ⟨os,hos,hcs,hds⟩:=id hs
 unfold Builtin.Slice.sliceApplied Builtin.Slice.sliceFields
 refine wpAny_bind (wpAny_bind (wpAny_field hos hds (x:=vl) rfl (wpAny_bind (wpAny_field hos hds (x:=vu) rfl (wpAny_bind (wpAny_field hos hds (x:=.none) rfl (wpAny_pure ?_)))))))
 refine wpAny_bind (slicePart_none ?_)
 show wpAny _ _ (if ((1 : Int) == 0) = true then _ else _) _ _ s
 rw [if_neg (by decide)]
 refine wpAny_bind (qMW pl (wpAny_bind (qMW pu (wpAny_bind (wpAny_pure ?_)))))
 show wpAny _ _ (match Builtin.Slice.sliceAdjust lo hi 1 (n : Int) with | (lo,hi) => pure (lo,(1 : Int),Builtin.Slice.slicePlaces lo hi 1)) _ _ s
 rw [qRB lo hi n]
 show wpAny _ _ (pure (((sIx n 0 lo : Nat) : Int),(1 : Int),Builtin.Slice.slicePlaces ((sIx n 0 lo : Nat) : Int) ((sIx n n hi : Nat) : Int) 1)) _ _ s
 rw [qRY]
 exact wpAny_pure h
theorem qUF (xs : Array Value) (i k : Nat) : ((List.range k).filterMap fun (m : Nat) => xs[((i : Int) + (m : Int) * 1).toNat]?).toArray = ((xs.toList.drop i).take k).toArray:=by
 have e : (fun (m : Nat) => xs[((i : Int) + (m : Int) * 1).toNat]?) = fun m => xs[i + m]?:=by
  funext m
  have : ((i : Int) + (m : Int) * 1).toNat = i + m:=by omega
  rw [this]
 rw [e]
 have:=pick_run xs i k
 rw [List.filterMap_map] at this
 have e2 : ((fun x => xs[x]?) ∘ fun x => i + x) = fun m => xs[i + m]?:=rfl
 rw [e2] at this
 rw [this]
theorem getItem_tuple_cut {t sl : Addr} {items : Array Value} {vl vu : Value} {lo hi : Option Int} {Q : Value → Shared → Prop} (ht : IsTup s.heap t items) (hs : s.heap.IsSliceOf sl vl vu .none) (pl : IsPart vl lo) (pu : IsPart vu hi)
  (hw : ¬ (sIx items.size 0 lo = 0 ∧ sIx items.size items.size hi = items.size))
  (h : Q (.ref s.heap.objs.size) { s with heap:=s.heap.push { cls:=.type "tuple",data:=.seq ((items.toList.drop (sIx items.size 0 lo)).take (sIx items.size items.size hi - sIx items.size 0 lo)).toArray } })
  (hsz : items.size ≤ sizeLine) : wpAny (model prog w) A (getItem (.ref t) (.ref sl)) Q E s:=by
 have htake : sizeOk (.seq ((items.toList.drop (sIx items.size 0 lo)).take (sIx items.size items.size hi - sIx items.size 0 lo)).toArray):=by
  show ((items.toList.drop (sIx items.size 0 lo)).take (sIx items.size items.size hi - sIx items.size 0 lo)).toArray.size ≤ sizeLine
  rw [List.size_toArray,List.length_take,List.length_drop,Array.length_toList]
  omega
 have hj : sIx items.size items.size hi ≤ items.size:=qYt _ _ (Nat.le_refl _) hi
 obtain ⟨os,hos,hcs,hds⟩:=id hs
 have hTs : s.TypeIs (.ref sl) "slice":=⟨os,hos,hcs⟩
 unfold getItem
 try with_reducible refine wpAny_holding ?_
 first | refine wpAny_bind (wpAny_pure ?_) | skip
 refine wpAny_bind (wpAny_sequenceKey ht.typeIs (by decide) ?_)
 refine wpAny_bind (wpAny_callSpecial?_slot (name:=Str.ofString "__getitem__") ht.typeIs PyProof.Rows.slot_tuple_getitem
  (wpAny_call_entry PyProof.Rows.slot_tuple_getitem ht.typeIs entry_tuple_getitem ?_ (args_tuple_getitem _ _)))
 show wpAny _ _ (Builtin.Tuple.tupleItemsOf (.ref t) >>= _) _ _ s
 refine wpAny_bind (tupleItemsOf_ ht ?_)
 refine wpAny_bind (wpAny_typeOf hTs ?_)
 rw [if_pos (by decide)]
 refine wpAny_bind (qHf hs pl pu ?_)
 have hno : ¬ ((((sIx items.size 0 lo : Nat) : Int) == 0 && (1 : Int) == 1 && (sIx items.size items.size hi - sIx items.size 0 lo) == items.size) = true):=by
  intro q
  rw [Bool.and_eq_true,Bool.and_eq_true] at q
  have q1 : ((sIx items.size 0 lo : Nat) : Int) = 0:=eq_of_beq q.1.1
  have q2 : sIx items.size items.size hi - sIx items.size 0 lo = items.size:=eq_of_beq q.2
  exact hw ⟨by omega,by omega⟩
 show wpAny _ _ (if (((sIx items.size 0 lo : Nat) : Int) == 0 && (1 : Int) == 1 && (sIx items.size items.size hi - sIx items.size 0 lo) == items.size) = true then _ else _) _ _ s
 rw [if_neg hno,qUF]
 first
  | exact wpAny_bind (m:=Builtin.Tuple.tupleExact _) (wpAny_newObj_type (wpAny_pure ⟨_,rfl,wpAny_pure h⟩) htake)
  | exact wpAny_bind (m:=Builtin.Tuple.tupleExact _) (wpAny_newObj_type (wpAny_bind (wpAny_pure (wpAny_pure ⟨_,rfl,wpAny_pure h⟩))) htake)
  | exact wpAny_bind (wpAny_bind (m:=Builtin.Tuple.tupleExact _) (wpAny_newObj_type (wpAny_pure (wpAny_pure ⟨_,rfl,wpAny_pure h⟩)) htake))
  | exact wpAny_bind (wpAny_bind (m:=Builtin.Tuple.tupleExact _) (wpAny_newObj_type (wpAny_pure ⟨_,rfl,wpAny_pure h⟩) htake))
end
end _H
namespace _L
open PySem PySem.Spec PyProof.Rows
abbrev TO:=St → Hp → (Option Int → Hp → Prop) → Prop
noncomputable def PO (X : Cx) (e : Option Expr) (t : TO) : Prop :=
 ∀ (pins : List (Addr × Obj)) (s : Shared) (σ : St) (H : Hp) (Q : Option Int → Hp → Prop),Inv X pins σ H s → t σ H Q →
  wpAny (model X.prog X.w) X.A (evalPart e X.env) (fun u s' => ∃ o H',Inv X pins σ H' s' ∧ IsPart u o ∧ Q o H') X.xe s
noncomputable def qWc : TO:=fun _ H Q => Q none H
noncomputable def qZ4 (t : TE) : TO:=fun σ H Q => t σ H fun x H1 => ∃ i,x = .int i ∧ Q (some i) H1
theorem qL8 {ns : List Int} : ∀ {us : List Value},qAZ (ns.map V.int) us → IntsAre us ns:=by
 induction ns with
 | nil => intro us r; rw [List.map_nil] at r; cases r; exact .nil
 | cons n ns ih =>
  intro us r
  rw [List.map_cons] at r
  cases r with
  | cons r1 r2 =>
   obtain ⟨t,e⟩:=r1
   subst e
   exact .cons n t (ih r2)
section
variable {X : Cx} {e : Expr} {te : TE} {lo hi : Option Expr} {tl th : TO} {pos p2 : Pos}
theorem qWJ : PO X none qWc:=by
 intro pins s σ H Q I h
 rw [evalPart_none]
 exact wpAny_pure ⟨none,H,I,.none,h⟩
theorem qWK (h : PE X e te) : PO X (some e) (qZ4 te):=by
 intro pins s σ H Q I hw
 rw [evalPart_some]
 refine thn (h pins s σ H _ I hw) fun u s1 ⟨x,H1,I1,r1,q1⟩ => ?_
 obtain ⟨i,rfl,q⟩:=q1
 obtain ⟨t,rfl⟩:=r1
 exact ⟨some i,H1,I1,.int i t,q⟩
noncomputable def SlR (X : Cx) (r : V → Option Int → Option Int → Hp → VK → Prop) : Prop :=
 ∀ (pins : List (Addr × Obj)) (s : Shared) (σ : St) (H : Hp) (x : V) (v vl vu : Value) (lo hi : Option Int) (sl : Addr) (Q : VK),Inv X pins σ H s → qAY x v → s.heap.IsSliceOf sl vl vu .none → IsPart vl lo → IsPart vu hi → r x lo hi H Q →
  ∃ T id,typeLookup (.type T) "__getitem__" = pure (some (.builtin id)) ∧ s.TypeIs v T ∧ wpAny (model X.prog X.w) X.A (getItem v (.ref sl)) (EP X pins σ Q) X.xe s
noncomputable def tSl (r : V → Option Int → Option Int → Hp → VK → Prop) (te : TE) (tl th : TO) : TE:=fun σ H Q => te σ H fun x H1 => tl σ H1 fun l H2 => th σ H2 fun u H3 => r x l u H3 Q
theorem qUD {r : V → Option Int → Option Int → Hp → VK → Prop} (hr : SlR X r) (he : PE X e te) (hl : PO X lo tl) (hu : PO X hi th) : PE X (.Subscript e (.Slice lo hi none p2) pos) (tSl r te tl th):=by
 intro pins s σ H Q I h
 refine Subscript_ (thn (he pins s σ H _ I h) fun v s1 ⟨x,H1,I1,r1,q1⟩ => ?_)
 refine wpAny_Slice (thn (hl pins s1 σ H1 _ I1 q1) fun vl s2 ⟨l,H2,I2,pl,q2⟩ => thn (hu pins s2 σ H2 _ I2 q2) fun vu s3 ⟨u,H3,I3,pu,q3⟩ => ?_)
 rw [evalPart_none]
 refine wpAny_pure ?_
 have I4 : Inv X pins σ H3 { s3 with heap:=s3.heap.push { cls:=.type "slice",data:=.fields #[vl,vu,.none] } }:=I3.kept (t':=s3.toks) fun b ob q => Heap.get?_push_of_some _ q
 obtain ⟨T,id,hT,ht,hg⟩:=hr pins { s3 with heap:=s3.heap.push { cls:=.type "slice",data:=.fields #[vl,vu,.none] } } σ H3 x v vl vu l u s3.heap.objs.size Q I4 r1 (Heap.IsSliceOf.new ..) pl pu q3
 show wpAny (model X.prog X.w) X.A (subscriptTail e (.Slice lo hi none p2) v (.ref s3.heap.objs.size)) (EP X pins σ Q) X.xe { s3 with heap:=s3.heap.push { cls:=.type "slice",data:=.fields #[vl,vu,.none] } }
 exact tail_any (ops:=[.ref s3.heap.objs.size,v]) ht hT hg (by with_unfolding_all rfl)
noncomputable def qJ8 (xs : List V) (lo hi : Option Int) : List V:=(xs.drop (_H.sIx xs.length 0 lo)).take (_H.sIx xs.length xs.length hi - _H.sIx xs.length 0 lo)
theorem qK0 (xs : List V) (lo hi : Option Int) : (qJ8 xs lo hi).length ≤ xs.length:=by
 unfold qJ8
 rw [List.length_take,List.length_drop]
 omega
noncomputable def qab (K : PySem.W.Frag) : V → Option Int → Option Int → Hp → VK → Prop:=fun x lo hi H Q => ∃ a xs,x = .ref a ∧ SqT K H a xs ∧
 ¬ (_H.sIx xs.length 0 lo = 0 ∧ _H.sIx xs.length xs.length hi = xs.length) ∧ ∀ p,H p = none → Q (.ref p) (upd H p (.tup (qJ8 xs lo hi)))
theorem qYw : SlR X (qab X.K):=by
 intro pins s σ H x v vl vu lo hi sl Q I rx hs pl pu h
 obtain ⟨a,xs,rfl,hx,hw,q⟩:=h
 cases rx
 obtain ⟨its,r,ht,hz⟩:=I.tuple hx
 have hlen : its.toArray.size = xs.length:=by rw [List.size_toArray]; exact r.length.symm
 refine ⟨"tuple",_,PyProof.Rows.slot_tuple_getitem.lookup,ht.typeIs,?_⟩
 refine _H.getItem_tuple_cut ht hs pl pu (by rw [hlen]; exact hw) ?_ (by rw [hlen]; exact hz)
 rw [hlen]
 refine ⟨.ref s.heap.objs.size,_,I.laid (t':=s.toks) (o:=.tup (qJ8 xs lo hi)) (fun b ob q => Heap.get?_push_of_some _ q) (Nat.le_refl _) ?_,rfl,q _ (I.hok.fresh (Nat.le_refl _))⟩
 exact ⟨Nat.le_trans (qK0 xs lo hi) hz,_,(r.drop (_H.sIx xs.length 0 lo)).take (_H.sIx xs.length xs.length hi - _H.sIx xs.length 0 lo),IsTup.new _ _⟩
end
end _L
namespace _L
open PySem PySem.Spec PyProof.Rows
noncomputable def ixN (n : Nat) (i : Int) : Option Nat:=if 0 ≤ i then (if i < n then some i.toNat else none) else if -(n : Int) ≤ i then some (i + n).toNat else none
noncomputable def atI {α : Type} (xs : List α) (i : Int) : Option α:=(ixN xs.length i).bind fun j => xs[j]?
theorem qQe {n : Nat} {i : Int} {j : Nat} (h : ixN n i = some j) : seqIndex? i n = some j ∧ j < n ∧ -(n : Int) ≤ i ∧ i < n:=by
 unfold ixN at h
 by_cases h0 : 0 ≤ i
 ·rw [if_pos h0] at h
  by_cases h1 : i < n
  ·rw [if_pos h1] at h
   have e : i.toNat = j:=Option.some.inj h
   exact ⟨by rw [seqIndex_of h0 h1,e],by omega,by omega,h1⟩
  ·rw [if_neg h1] at h; cases h
 ·rw [if_neg h0] at h
  by_cases h1 : -(n : Int) ≤ i
  ·rw [if_pos h1] at h
   have e : (i + n).toNat = j:=Option.some.inj h
   exact ⟨by rw [seqIndex_neg (by omega) h1,e],by omega,h1,by omega⟩
  ·rw [if_neg h1] at h; cases h
theorem qQR {α : Type} {xs : List α} {i : Int} {v : α} (h : atI xs i = some v) : ∃ j,seqIndex? i xs.length = some j ∧ xs[j]? = some v ∧ j < xs.length ∧ -(xs.length : Int) ≤ i ∧ i < xs.length:=by
 unfold atI at h
 cases e : ixN xs.length i with
 | none => rw [e] at h; cases h
 | some j =>
  rw [e] at h
  obtain ⟨h1,h2,h3,h4⟩:=qQe e
  exact ⟨j,h1,h,h2,h3,h4⟩
noncomputable def qIS (b : Expr) : Prop:=∀ o i,subscripted b false o i = operate [o,i] (getItem o i)
noncomputable def IxR (X : Cx) (r : R2) : Prop :=
 ∀ (value slice : Expr) (pins : List (Addr × Obj)) (s : Shared) (σ : St) (H : Hp) (x y : V) (v u : Value) (Q : VK),Inv X pins σ H s → qAY x v → qAY y u → r x y H Q →
  subscripted slice false v u = operate [v,u] (getItem v u) → wpAny (model X.prog X.w) X.A (subscriptTail value slice v u) (EP X pins σ Q) X.xe s
noncomputable def MtR (X : Cx) (id : String) (r : V → List V → Hp → VK → Prop) : Prop :=
 ∀ (pins : List (Addr × Obj)) (s : Shared) (σ : St) (H : Hp) (x : V) (xs : List V) (v : Value) (us : List Value) (Q : VK),Inv X pins σ H s → qAY x v → qAZ xs us → r x xs H Q →
  wpAny (model X.prog X.w) X.A (call (.builtin id) (v :: us)) (EP X pins σ Q) X.xe s
section
variable {X : Cx} {a b : Expr} {ta tb : TE} {pos : Pos}
theorem qZp {r : R2} (hr : IxR X r) (ha : PE X a ta) (hb : PE X b tb) (hs : qIS b) : PE X (.Subscript a b pos) (tOp r ta tb):=by
 intro pins s σ H Q I h
 exact Subscript_ (qaE ha hb I h fun v u s2 x y H2 I2 rx ry q => hr a b pins s2 σ H2 x y v u Q I2 rx ry q (hs _ _))
noncomputable def qaX (K : PySem.W.Frag) : R2:=fun x y H Q => ∃ p xs i v,x = .ref p ∧ y = .int i ∧ SqL K H p xs ∧ atI xs i = some v ∧ Q v H
noncomputable def qaY (K : PySem.W.Frag) : R2:=fun x y H Q => ∃ p xs i v,x = .ref p ∧ y = .int i ∧ SqT K H p xs ∧ atI xs i = some v ∧ Q v H
theorem qQg : IxR X (qaX X.K):=by
 intro value slice pins s σ H x y v u Q I rx ry h hs
 obtain ⟨p,xs,i,z,rfl,rfl,hq,he,q⟩:=h
 cases rx
 obtain ⟨t,rfl⟩:=ry
 obtain ⟨its,r,pl,hz⟩:=I.list hq
 obtain ⟨j,h1,h2,h3,h4,h5⟩:=qQR he
 obtain ⟨w,ew,rw'⟩:=r.get h2
 have hl:=r.length
 have hn:=qKL
 have fin : EP X pins σ Q w s:=⟨z,H,I,rw',q⟩
 by_cases h0 : 0 ≤ i
 ·have hj : i.toNat = j:=by
   rw [seqIndex_of h0 h5] at h1
   exact Option.some.inj h1
  exact item_listR pl.isList h0 (by omega) (by rw [hj]; simpa using ew) fin hs
 ·have hj : (i + (its.toArray.size : Int)).toNat = j:=by
   rw [seqIndex_neg (by omega) h4] at h1
   rw [List.size_toArray,← hl]
   exact Option.some.inj h1
  exact subscriptTail_builtinR (x:=w) pl.isList.typeIs slot_list_getitem.lookup
   (wpAny_getItem_list_neg (Q:=fun r s' => r = w ∧ EP X pins σ Q r s') pl.isList (by omega) (by rw [List.size_toArray] <;> omega) (by omega) (by rw [hj]; simpa using ew) ⟨rfl,fin⟩) hs
theorem qXp : IxR X (qaY X.K):=by
 intro value slice pins s σ H x y v u Q I rx ry h hs
 obtain ⟨p,xs,i,z,rfl,rfl,hq,he,q⟩:=h
 cases rx
 obtain ⟨t,rfl⟩:=ry
 obtain ⟨its,r,pl,hz⟩:=I.tuple hq
 obtain ⟨j,h1,h2,h3,h4,h5⟩:=qQR he
 obtain ⟨w,ew,rw'⟩:=r.get h2
 have hl:=r.length
 have hn:=qKL
 have fin : EP X pins σ Q w s:=⟨z,H,I,rw',q⟩
 exact subscriptTail_builtinR (x:=w) pl.typeIs slot_tuple_getitem.lookup
  (getItem_tuple (j:=j) (Q:=fun r s' => r = w ∧ EP X pins σ Q r s') pl (by omega) (by omega) (by rw [List.size_toArray,← hl]; exact h1) (by simpa using ew) ⟨rfl,fin⟩) hs
theorem qRU (its : List Value) (n j : Nat) (u : Value) : Obj.mapSeq (·.setIfInBounds j u) { cls:=.type "list",data:=.seq its.toArray n } = { cls:=.type "list",data:=.seq (its.set j u).toArray n }:=by
 simp [Obj.mapSeq]
theorem Inv.lst {pins : List (Addr × Obj)} {σ : St} {H : Hp} {s : Shared} {p : Addr} {xs : List V} (I : Inv X pins σ H s) (h : H p = some (.lst xs)) :
  ∃ (its : List Value) (n : Nat),qAZ xs its ∧ s.heap.get? p = some { cls:=.type "list",data:=.seq its.toArray n } ∧ xs.length ≤ sizeLine:=by
 obtain ⟨z,its,n,r,e⟩:=I.hok p _ h
 exact ⟨its,n,r,e,z⟩
theorem Inv.lstUpd {pins : List (Addr × Obj)} {σ : St} {H : Hp} {s : Shared} {p : Addr} {xs ys : List V} {its its' : List Value} {n n' : Nat} {f : Obj → Obj} (I : Inv X pins σ H s) (h : H p = some (.lst xs))
  (ho : s.heap.get? p = some { cls:=.type "list",data:=.seq its.toArray n }) (hf : f { cls:=.type "list",data:=.seq its.toArray n } = { cls:=.type "list",data:=.seq its'.toArray n' }) (r : qAZ ys its') (hz : ys.length ≤ sizeLine) (t : Nat) :
  Inv X pins σ (upd H p (.lst ys)) { s with heap:=s.heap.update p f,toks:=t }:=by
 have e : (s.heap.update p f).get? p = some { cls:=.type "list",data:=.seq its'.toArray n' }:=by
  rw [Heap.get?_update_self f ho (by rw [hf] <;> rfl),hf]
 refine I.write (x:=p) (e:=p) (by rw [h]; trivial) (.inl rfl) (fun b u hb q => (Heap.get?_update_other _ _ (Ne.symm hb)).trans q) ⟨_,e⟩ ?_
 exact ⟨hz,its',n',r,e⟩
noncomputable def qZu : V → V → V → Hp → (Hp → Prop) → Prop:=fun o i v H Q => ∃ p xs k j,o = .ref p ∧ i = .int k ∧ H p = some (.lst xs) ∧ ixN xs.length k = some j ∧ Q (upd H p (.lst (xs.set j v)))
theorem qUQ : qOh X qZu:=by
 intro pins s σ H o i v ov iv u Q I ro ri rv h
 obtain ⟨p,xs,k,j,rfl,rfl,hp,hj,q⟩:=h
 cases ro
 obtain ⟨t,rfl⟩:=ri
 obtain ⟨its,n,r,ho,hz⟩:=I.lst hp
 obtain ⟨h1,h2,h3,h4⟩:=qQe hj
 have hl:=r.length
 have hn:=qKL
 have I' : Inv X pins σ (upd H p (.lst (xs.set j v))) { s with heap:=s.heap.update p (Obj.mapSeq (·.setIfInBounds j u)) } :=
  I.lstUpd hp ho (qRU its n j u) (r.set rv j) (by rw [List.length_set]; exact hz) s.toks
 by_cases h0 : 0 ≤ k
 ·have hk : k.toNat = j:=by
   rw [seqIndex_of h0 h4] at h1
   exact Option.some.inj h1
  exact PySem.W.ki_setAt ho h0 (by omega) (by rw [List.size_toArray,← hl]; exact h4) (by rw [hk]; exact ⟨_,I',q⟩)
 ·have hk : (k + (its.toArray.size : Int)).toNat = j:=by
   rw [seqIndex_neg (by omega) h3] at h1
   rw [List.size_toArray,← hl]
   exact Option.some.inj h1
  exact PySem.W.ki_setBack ho (by omega) (by rw [List.size_toArray,← hl]; exact h3) (by omega) (by rw [hk]; exact ⟨_,I',q⟩)
theorem qP0 (lo hi : Option Int) (n : Nat) : (sliceBounds lo hi none n).1 = ((_H.sIx n 0 lo : Nat) : Int) ∧ (sliceBounds lo hi none n).2.1 = ((_H.sIx n n hi : Nat) : Int) ∧ (sliceBounds lo hi none n).2.2 = 1:=by
 refine ⟨?_,?_,rfl⟩
 ·cases lo with
  | none => simp [sliceBounds,_H.sIx]
  | some i =>
   simp only [sliceBounds,_H.sIx,Option.getD_none,show (1 : Int) > 0 by decide,if_true]
   by_cases h : i < 0
   ·simp only [h,if_true] <;> omega
   ·simp only [h,if_false] <;> omega
 ·cases hi with
  | none => simp [sliceBounds,_H.sIx]
  | some i =>
   simp only [sliceBounds,_H.sIx,Option.getD_none,show (1 : Int) > 0 by decide,if_true]
   by_cases h : i < 0
   ·simp only [h,if_true] <;> omega
   ·simp only [h,if_false] <;> omega
theorem qOR (its : List Value) (lo hi : Option Int) : slicePick its.toArray lo hi none = ((its.drop (_H.sIx its.length 0 lo)).take (_H.sIx its.length its.length hi - _H.sIx its.length 0 lo)).toArray:=by
 obtain ⟨h1,h2,h3⟩:=qP0 lo hi its.toArray.size
 unfold slicePick
 rw [h1,h2,h3]
 simp only [sliceRange_one,pick_run,List.size_toArray] <;> rfl
noncomputable def qaa (K : PySem.W.Frag) : V → Option Int → Option Int → Hp → VK → Prop:=fun x lo hi H Q => ∃ a xs,x = .ref a ∧ SqL K H a xs ∧ ∀ p,H p = none → Q (.ref p) (upd H p (.lst (qJ8 xs lo hi)))
theorem qQ2 : SlR X (qaa X.K):=by
 intro pins s σ H x v vl vu lo hi sl Q I rx hs pl pu h
 obtain ⟨a,xs,rfl,hx,q⟩:=h
 cases rx
 obtain ⟨its,r,ht,hz⟩:=I.list hx
 have hlen:=r.length
 refine ⟨"list",_,slot_list_getitem.lookup,ht.isList.typeIs,?_⟩
 refine wpAny_getItem_list_slice ht.isList hs pl pu .none (by simp) ?_ (by rw [List.size_toArray] <;> omega)
 rw [qOR,← hlen]
 refine ⟨.ref s.heap.objs.size,_,I.laid (t':=s.toks) (o:=.lst (qJ8 xs lo hi)) (fun b ob q => Heap.get?_push_of_some _ q) (Nat.le_refl _) ?_,rfl,q _ (I.hok.fresh (Nat.le_refl _))⟩
 exact ⟨Nat.le_trans (qK0 xs lo hi) hz,_,0,(r.drop (_H.sIx xs.length 0 lo)).take (_H.sIx xs.length xs.length hi - _H.sIx xs.length 0 lo),Heap.get?_push_size _ rfl⟩
theorem qF6 : qQ7 X (.type "tuple") (fun xs H Q => ∃ p ys,xs = [.ref p] ∧ ((SqL X.K H p ys ∧ ∀ l,H l = none → Q (.ref l) (upd H l (.tup ys))) ∨ (SqT X.K H p ys ∧ Q (.ref p) H))):=by
 intro pins s σ H xs us Q I r h
 obtain ⟨p,ys,rfl,h⟩:=h
 obtain ⟨u,rfl,rx⟩:=qJd r
 cases rx
 rcases h with ⟨hq,q⟩ | ⟨hq,q⟩
 ·obtain ⟨its,r',pl,hz⟩:=I.list hq
  have hlen:=r'.length
  refine call_tuple_list pl.isList (fun h' kp => ?_) (by simp only [List.size_toArray] <;> omega)
  have I1 : Inv X pins σ H { s with heap:=h' }:=I.kept (t':=s.toks) kp
  have I2 : Inv X pins σ (upd H h'.objs.size (.tup ys)) { s with heap:=h'.push { cls:=.type "tuple",data:=.seq its.toArray } } :=
   I1.laid (t':=s.toks) (fun b o e => Heap.get?_push_of_some _ e) (Nat.le_refl _) (show qBG X.prog X.w _ _ _ (.tup ys) from ⟨hz,its,r',IsTup.new _ _⟩)
  exact ⟨.ref h'.objs.size,_,I2,rfl,q _ (I1.hok.fresh (Nat.le_refl _))⟩
 ·obtain ⟨its,r',pl,hz⟩:=I.tuple hq
  exact call_tuple_same pl ⟨.ref p,H,I,rfl,q⟩
noncomputable def tyV (K : PySem.W.Frag) (T : String) (x : V) (H : Hp) : Prop:=match x with
 | .str _ => T = "str"
 | .int _ => T = "int"
 | .ref p => (T = "list" ∧ ∃ xs,SqL K H p xs) ∨ (T = "tuple" ∧ ∃ o,K.lookup p = some o ∧ o.cls = .type "tuple" ∧ o.dict = none) ∨
   (T = "dict" ∧ ((∃ kvs,H p = some (.dK kvs)) ∨ ∃ kvs,H p = some (.dT kvs))) ∨ (T = "set" ∧ ∃ S n,H p = some (.set S n))
 | _ => False
theorem qS7 {pins : List (Addr × Obj)} {σ : St} {H : Hp} {s : Shared} {T : String} {x : V} {v : Value} (I : Inv X pins σ H s) (r : qAY x v) (ty : tyV X.K T x H) :
  s.TypeIs v T ∧ ∀ a,v = .ref a → ∃ ob,s.heap.get? a = some ob ∧ ob.dict = none:=by
 cases x with
 | str z =>
  obtain ⟨t,rfl⟩:=r
  cases (show T = "str" from ty)
  exact ⟨typeIs_str s z t,fun _ e => nomatch e⟩
 | int i =>
  obtain ⟨t,rfl⟩:=r
  cases (show T = "int" from ty)
  exact ⟨typeIs_int s i t,fun _ e => nomatch e⟩
 | ref p =>
  cases r
  rcases ty with ⟨rfl,xs,hq⟩ | ⟨rfl,o,hk,hc,hd⟩ | ⟨rfl,hk⟩ | ⟨rfl,S,n,hk⟩
  ·obtain ⟨its,_,pl,_⟩:=I.list hq
   refine ⟨pl.isList.typeIs,fun a e => ?_⟩
   cases e
   obtain ⟨o,n,e,c,hd,_⟩:=pl
   exact ⟨o,e,hd⟩
  ·refine ⟨⟨o,I.kIn p o hk,hc⟩,fun a e => ?_⟩
   cases e
   exact ⟨o,I.kIn _ o hk,hd⟩
  ·have z : ∃ o,s.heap.get? p = some o ∧ o.ExactDict:=by
    rcases hk with ⟨kvs,hk⟩ | ⟨kvs,hk⟩
    ·obtain ⟨_,_,_,_,o,_,_,e,ex,_⟩:=I.hok p _ hk
     exact ⟨o,e,ex⟩
    ·obtain ⟨_,_,_,_,o,_,_,e,ex,_⟩:=I.hok p _ hk
     exact ⟨o,e,ex⟩
   obtain ⟨o,e,ex⟩:=z
   refine ⟨⟨o,e,ex.1⟩,fun a e2 => ?_⟩
   cases e2
   exact ⟨o,e,ex.2.1⟩
  ·obtain ⟨o,_,_,_,e,ex,_⟩:=I.hok p _ hk
   refine ⟨⟨o,e,ex.1⟩,fun a e2 => ?_⟩
   cases e2
   exact ⟨o,e,ex.2.1⟩
 | _ => exact False.elim ty
variable {o e : Expr} {es : List Expr} {to : TE} {t : TA} {name : Str} {apos cpos : Pos} {T id : String} {r : V → List V → Hp → VK → Prop}
/- xs.append(e),list.index on a module's tuple .. are MtR facts of 06m -/
end
end _L
namespace _L
open PySem PySem.Spec PyProof.Rows
noncomputable def MtM (X : Cx) (id : String) (r : V → List V → Hp → VK → Prop) : Prop :=
 ∀ (pins : List (Addr × Obj)) (s : Shared) (σ : St) (H : Hp) (x : V) (xs : List V) (v : Value) (us : List Value) (Q : VK),Inv X pins σ H s → qAY x v → qAZ xs us → r x xs H Q →
  wpAny (model X.prog X.w) X.A (call (.builtin id) (v :: us)) (EP X pins σ Q) X.xe s
theorem qAZ.one {x : V} {us : List Value} (h : qAZ [x] us) : ∃ u,us = [u] ∧ qAY x u:=qJd h
theorem qAZ.rep {xs : List V} {us : List Value} (h : qAZ xs us) : ∀ k : Nat,qAZ (List.replicate k xs).flatten (List.replicate k us).flatten
 | 0 => .nil
 | k + 1 => by
  rw [List.replicate_succ,List.replicate_succ,List.flatten_cons,List.flatten_cons]
  exact qAZ.append h (qAZ.rep h k)
theorem qNu (its : List Value) : ∀ (k : Nat) (acc : List Value),
  List.foldl (fun x1 x2 => x1 ++ x2) acc.toArray (List.replicate k its.toArray) = (acc ++ (List.replicate k its).flatten).toArray
 | 0,acc => by simp
 | k + 1,acc => by
  have e : acc.toArray ++ its.toArray = (acc ++ its).toArray:=by simp
  have e2 : (acc ++ its) ++ (List.replicate k its).flatten = acc ++ (List.replicate (k + 1) its).flatten:=by
   rw [List.replicate_succ,List.flatten_cons,List.append_assoc]
  rw [← e2,← qNu its k (acc ++ its),← e,List.replicate_succ,List.foldl_cons]
section
variable {X : Cx} {pins : List (Addr × Obj)} {σ : St} {H : Hp} {s : Shared} {l b : Addr} {xs ys zs : List V}
theorem Inv.lset {its its' : List Value} {n : Nat} {f : Array Value → Array Value} {t' : Nat} (I : Inv X pins σ H s) (hH : H l = some (.lst xs))
  (e : s.heap.get? l = some { cls:=.type "list",data:=.seq its.toArray n }) (hf : f its.toArray = its'.toArray) (hv : qAZ ys its') (hz : ys.length ≤ sizeLine) :
  Inv X pins σ (upd H l (.lst ys)) { s with heap:=s.heap.update l (Obj.mapSeq f),toks:=t' }:=by
 have q:=PySem.IsL.update e f
 rw [hf] at q
 refine I.write (x:=l) (e:=l) (by rw [hH]; exact trivial) (.inl rfl) (fun b' u hb hu => (Heap.get?_update_other s.heap (Obj.mapSeq f) (Ne.symm hb)).trans hu) ⟨_,q⟩ ?_
 exact ⟨hz,its',_,hv,q⟩
theorem Inv.lstM (I : Inv X pins σ H s) (hH : H l = some (.lst xs)) : xs.length ≤ sizeLine ∧ ∃ (its : List Value) (n : Nat),qAZ xs its ∧ xs.length = its.length ∧ s.heap.get? l = some { cls:=.type "list",data:=.seq its.toArray n }:=by
 obtain ⟨z,its,n,r,e⟩:=I.hok l _ hH
 exact ⟨z,its,n,r,r.length,e⟩
theorem qT8 {n : Nat} (h : n ≤ sizeLine) : Builtin.List.listTooLong n = false:=by
 unfold Builtin.List.listTooLong
 exact decide_eq_false (by omega)
end
section
variable {X : Cx}
noncomputable def qWR : V → List V → Hp → VK → Prop:=fun x vs H Q => ∃ l xs y,x = .ref l ∧ vs = [y] ∧ H l = some (.lst xs) ∧ xs.length < sizeLine ∧ Q .non (upd H l (.lst (xs ++ [y])))
theorem qSd : MtM X "list.append" qWR:=by
 intro pins s σ H x vs v us Q I rx rv h
 obtain ⟨l,xs,y,rfl,rfl,hH,hz,q⟩:=h
 cases rx
 obtain ⟨u,rfl,ru⟩:=rv.one
 obtain ⟨z,its,n,r,hl,e⟩:=I.lstM hH
 refine call_meets F.slot_list_append ⟨_,e,rfl⟩ F.entry_list_append (F.args_list_append_2 _ _) (PySem.list_append l its.toArray n u (by rw [List.size_toArray]; omega)) ⟨e,?_⟩
 refine ⟨.non,_,I.lset (its':=its ++ [u]) hH e (by simp) (r.append (.cons ru .nil)) ?_,rfl,q⟩
 rw [List.length_append,List.length_singleton]
 omega
theorem qV2 {α : Type} (xs : List α) (k : Nat) : (List.replicate k xs).flatten.length = k * xs.length:=by
 induction k with
 | zero => simp
 | succ k ih => rw [List.replicate_succ,List.flatten_cons,List.length_append,ih,Nat.succ_mul,Nat.add_comm]
end
end _L
namespace _L
open PySem PySem.Spec PyProof.Rows
section
variable {κ : Type} [DecidableEq κ]
noncomputable def qFZ (kvs : List (κ × V)) (k : κ) : Option V:=(kvs.find? fun kv => decide (kv.1 = k)).map (·.2)
noncomputable def qE7 (kvs : List (κ × V)) (k : κ) (v : V) : List (κ × V) :=
 if (kvs.any fun kv => decide (kv.1 = k)) = true then kvs.map (fun kv => if kv.1 = k then (kv.1,v) else kv) else kvs ++ [(k,v)]
theorem qLg {p : κ × V} {r : List (κ × V)} {k : κ} (e : p.1 = k) : qFZ (p :: r) k = some p.2:=by simp [qFZ,List.find?_cons,e]
theorem qLf {p : κ × V} {r : List (κ × V)} {k : κ} (e : ¬ p.1 = k) : qFZ (p :: r) k = qFZ r k:=by simp [qFZ,List.find?_cons,e]
theorem qP5 (k : κ) : ∀ kvs : List (κ × V),(kvs.any fun kv => decide (kv.1 = k)) = (qFZ kvs k).isSome
 | [] => rfl
 | p :: r => by
  rw [List.any_cons]
  by_cases e : p.1 = k
  ·simp only [qLg e,decide_eq_true e,Bool.true_or,Option.isSome_some]
  ·rw [qLf e,decide_eq_false e,Bool.false_or]; exact qP5 k r
theorem qIO (kvs : List (κ × V)) (k : κ) (v : V) : (qE7 kvs k v).length ≤ kvs.length + 1:=by
 unfold qE7
 split
 ·rw [List.length_map]; omega
 ·rw [List.length_append,List.length_cons,List.length_nil]; omega
theorem qK7.isSome_eq {o : Option V} {u : Option Value} (r : qK7 o u) : o.isSome = u.isSome:=by
 cases o with
 | none => cases u with
  | none => rfl
  | some _ => exact (show False from r).elim
 | some _ => cases u with
  | none => exact (show False from r).elim
  | some _ => rfl
theorem KV.val {kvs : List (κ × V)} {vs : List (κ × Value)} (r : KV kvs vs) (k : κ) : qK7 (qFZ kvs k) (valueAt vs k):=by
 unfold KV at r
 induction r with
 | nil => exact True.intro
 | @cons p q ps qs h t ih =>
  obtain ⟨h1,h2⟩:=h
  by_cases e : p.1 = k
  ·have e' : q.1 = k:=h1.symm.trans e
   have b : valueAt (q :: qs) k = some q.2:=by simp [valueAt,List.find?_cons,e']
   rw [qLg e,b]; exact h2
  ·have e' : ¬ q.1 = k:=fun z => e (h1.trans z)
   have b : valueAt (q :: qs) k = valueAt qs k:=by simp [valueAt,List.find?_cons,e']
   rw [qLf e,b]; exact ih
theorem KV.any {kvs : List (κ × V)} {vs : List (κ × Value)} (r : KV kvs vs) (k : κ) : (kvs.any fun kv => decide (kv.1 = k)) = vs.any fun kv => decide (kv.1 = k):=by
 unfold KV at r
 induction r with
 | nil => rfl
 | cons h t ih => rw [List.any_cons,List.any_cons,ih,h.1]
theorem KV.repl {kvs : List (κ × V)} {vs : List (κ × Value)} (r : KV kvs vs) (k : κ) {y : V} {u : Value} (ry : qAY y u) :
  KV (kvs.map fun kv => if kv.1 = k then (kv.1,y) else kv) (vs.map fun kv => if kv.1 = k then (kv.1,u) else kv):=by
 unfold KV at r ⊢
 induction r with
 | nil => exact .nil
 | @cons p q ps qs h t ih =>
  rw [List.map_cons,List.map_cons]
  refine .cons ?_ ih
  obtain ⟨h1,h2⟩:=h
  by_cases e : p.1 = k
  ·rw [if_pos e,if_pos (h1.symm.trans e)]; exact ⟨h1,ry⟩
  ·rw [if_neg e,if_neg (fun z => e (h1.trans z))]; exact ⟨h1,h2⟩
theorem KV.put {kvs : List (κ × V)} {vs : List (κ × Value)} (r : KV kvs vs) (k : κ) {y : V} {u : Value} (ry : qAY y u) : KV (qE7 kvs k y) (stored vs k u):=by
 unfold qE7 stored
 rw [r.any k]
 by_cases e : (vs.any fun kv => decide (kv.1 = k)) = true
 ·rw [if_pos e,if_pos e]; exact r.repl k ry
 ·rw [if_neg e,if_neg e]; exact Paired.snoc r ⟨rfl,ry⟩
theorem KV.length {kvs : List (κ × V)} {vs : List (κ × Value)} (r : KV kvs vs) : kvs.length = vs.length:=Paired.length r
end
theorem qRP {P : Program} {w : World} {k : Key} {u : Value} (r : qAY (kV k) u) : (qBP P w).is k u = true:=by
 cases k with
 | inl i => obtain ⟨t,e⟩:=(show ∃ t,u = Value.int i t from r); subst e; exact qQG P w i t
 | inr x => obtain ⟨t,e⟩:=(show ∃ t,u = Value.str x t from r); subst e; exact qQH P w x t
theorem qNw {P : Program} {w : World} : ∀ {ks : List Key} {us : List Value},qAZ (ks.map kV) us → ItemsAre (qBP P w) ks us
 | [],_,r => by rw [List.map_nil] at r; cases r; exact .nil
 | k :: ks,_,r => by
  rw [List.map_cons] at r
  cases r with
  | cons h t => exact .cons (qRP h) (qNw t)
abbrev KT (H : Hp) : List (List Key × V) → List (List Key × Addr × Value) → Prop:=Paired fun p q => p.1 = q.1 ∧ H q.2.1 = some (.tup (p.1.map kV)) ∧ qAY p.2 q.2.2
theorem KT.val {H : Hp} {kvs : List (List Key × V)} {xs : List (List Key × Addr × Value)} (r : KT H kvs xs) (k : List Key) : qK7 (qFZ kvs k) ((atKey xs k).map (·.2)):=by
 induction r with
 | nil => exact True.intro
 | @cons p q ps qs h t ih =>
  obtain ⟨h1,_,h2⟩:=h
  by_cases e : p.1 = k
  ·have e' : q.1 = k:=h1.symm.trans e
   have b : atKey (q :: qs) k = some q.2:=by simp [atKey,List.find?_cons,e']
   rw [qLg e,b]; exact h2
  ·have e' : ¬ q.1 = k:=fun z => e (h1.trans z)
   have b : atKey (q :: qs) k = atKey qs k:=by simp [atKey,List.find?_cons,e']
   rw [qLf e,b]; exact ih
theorem KT.repl {H : Hp} {kvs : List (List Key × V)} {xs : List (List Key × Addr × Value)} (r : KT H kvs xs) (k : List Key) {y : V} {u : Value} (ry : qAY y u) :
  KT H (kvs.map fun kv => if kv.1 = k then (kv.1,y) else kv) (xs.map (putAt k u)):=by
 induction r with
 | nil => exact .nil
 | @cons p q ps qs h t ih =>
  rw [List.map_cons,List.map_cons]
  refine .cons ?_ ih
  obtain ⟨h1,h2,h3⟩:=h
  unfold putAt
  by_cases e : p.1 = k
  ·rw [if_pos e,if_pos (h1.symm.trans e)]; exact ⟨h1,h2,ry⟩
  ·rw [if_neg e,if_neg (fun z => e (h1.trans z))]; exact ⟨h1,h2,h3⟩
theorem KT.put {H : Hp} {kvs : List (List Key × V)} {xs : List (List Key × Addr × Value)} (r : KT H kvs xs) (k : List Key) {b : Addr} {y : V} {u : Value} (hb : H b = some (.tup (k.map kV))) (ry : qAY y u) :
  KT H (qE7 kvs k y) (storedH xs k b u):=by
 have e : (kvs.any fun kv => decide (kv.1 = k)) = (atKey xs k).isSome:=by
  rw [qP5,(r.val k).isSome_eq,Option.isSome_map]
 unfold qE7 storedH
 rw [e]
 by_cases q : (atKey xs k).isSome = true
 ·rw [if_pos q,if_pos q]; exact r.repl k ry
 ·rw [if_neg q,if_neg q]; exact Paired.snoc r ⟨rfl,hb,ry⟩
theorem KT.keeps {H H' : Hp} {kvs : List (List Key × V)} {xs : List (List Key × Addr × Value)} (r : KT H kvs xs) (ht : ∀ b ys,H b = some (.tup ys) → H' b = some (.tup ys)) : KT H' kvs xs :=
 Paired.mapP r fun _ _ z => ⟨z.1,ht _ _ z.2.1,z.2.2⟩
section
variable {P : Program} {w : World} {H : Hp} {h : Heap} {a : Addr}
theorem qUz {u : HO} (ok : HOk P w H h) (e : Rd H a u) : qBG P w H h a u:=e.ok ok
theorem qZL {kvs : List (Key × V)} (ok : HOk P w H h) (e : Rd H a (.dK kvs)) : kvs.length ≤ sizeLine ∧ (a == sysModules) = false ∧ ∃ vs,KV kvs vs ∧ h.DictOf (qBP P w) a vs :=
 show qBG P w H h a (.dK kvs) from qUz ok e
theorem qRI {kvs : List (Key × V)} (ok : HOk P w H h) (e : H a = some (.dK kvs)) : kvs.length ≤ sizeLine ∧ (a == sysModules) = false ∧ ∃ vs,KV kvs vs ∧ h.DictOf (qBP P w) a vs:=qZL ok (.inl e)
theorem qSV {ks : List Key} (ok : HOk P w H h) (e : H a = some (.tup (ks.map kV))) : (tupleKind (qBP P w)).is h ks a:=by
 obtain ⟨_,its,r,o,h1,h2,n,h3⟩:=(show qBG P w H h a (.tup (ks.map kV)) from ok a _ e)
 exact ⟨o,its.toArray,n,h1,h2,h3,by simpa using qNw r⟩
theorem qZO {kvs : List (List Key × V)} (ok : HOk P w H h) (e : Rd H a (.dT kvs)) : kvs.length ≤ sizeLine ∧ (a == sysModules) = false ∧
  ∃ xs,KT H kvs xs ∧ h.DictOfH (tupleKind (qBP P w)) a xs:=by
 obtain ⟨z,y,xs,r,o,es,ep,h1,h2,h3,h4,h5⟩:=(show qBG P w H h a (.dT kvs) from qUz ok e)
 refine ⟨z,y,xs,r,o,es,ep,h1,h2,h3,h4,fun x hx => ?_,h5⟩
 have all : ∀ {l : List (List Key × V)} {m : List (List Key × Addr × Value)},KT H l m → ∀ x ∈ m,(tupleKind (qBP P w)).is h x.1 x.2.1:=by
  intro l m q
  induction q with
  | nil => intro x hx; exact nomatch hx
  | @cons p q ps qs hq t ih =>
   intro x hx
   rcases List.mem_cons.mp hx with e | hx
   ·subst e
    exact qSV ok (by rw [← hq.1]; exact hq.2.1)
   ·exact ih x hx
 exact all r x hx
theorem qZN {kvs : List (List Key × V)} (ok : HOk P w H h) (e : H a = some (.dT kvs)) : kvs.length ≤ sizeLine ∧ (a == sysModules) = false ∧
  ∃ xs,KT H kvs xs ∧ h.DictOfH (tupleKind (qBP P w)) a xs:=qZO ok (.inl e)
end
noncomputable def qaz (H : Hp) (a : Addr) (y : V) (r : Option V) : Prop :=
 (∃ kvs k,Rd H a (.dK kvs) ∧ y = kV k ∧ r = qFZ kvs k) ∨ ∃ kvs k b,Rd H a (.dT kvs) ∧ y = .ref b ∧ H b = some (.tup (k.map kV)) ∧ r = qFZ kvs k
noncomputable def qQ8 (H : Hp) (a : Addr) (y v : V) (H' : Hp) : Prop :=
 (∃ kvs k,H a = some (.dK kvs) ∧ y = kV k ∧ kvs.length < sizeLine ∧ H' = upd H a (.dK (qE7 kvs k v))) ∨
 ∃ kvs k b,H a = some (.dT kvs) ∧ y = .ref b ∧ H b = some (.tup (k.map kV)) ∧ kvs.length < sizeLine ∧ H' = upd H a (.dT (qE7 kvs k v))
theorem qQ8.k {H : Hp} {a : Addr} {kvs : List (Key × V)} {k : Key} {v : V} (e : H a = some (.dK kvs)) (hl : kvs.length < sizeLine) : qQ8 H a (kV k) v (upd H a (.dK (qE7 kvs k v))):=.inl ⟨kvs,k,e,rfl,hl,rfl⟩
section
variable {X : Cx} {pins : List (Addr × Obj)} {σ : St} {H : Hp} {s : Shared} {a : Addr} {y v : V} {u r : Value} {o : Option V} {A : Around} {E : Value → Shared → Prop}
theorem Inv.big (I : Inv X pins σ H s) : sysModules < s.heap.objs.size:=by
 have h : mainGlobals < s.heap.objs.size:=(I.mod.glob.keeps I.bk).lt
 exact Nat.lt_trans (by decide) h
theorem qMv {h' : Heap} {t' : Nat} {ob : HO} (I : Inv X pins σ H s) (mu : Mut (H a)) (hs : Heap.SameBut a s.heap h') (he : ∃ q,h'.get? a = some q) (new : qBG X.prog X.w (upd H a ob) h' a ob) :
  Inv X pins σ (upd H a ob) { s with heap:=h',toks:=t' } :=
 I.write (x:=a) (e:=a) mu (.inl rfl) (fun b q hb z => (hs.2 b hb).trans z) he new
theorem qR7 {P : Program} {w : World} {H' : Hp} {h' : Heap} {kvs : List (Key × V)} {vs : List (Key × Value)} (z : kvs.length ≤ sizeLine) (hd : (a == sysModules) = false) (rel : KV kvs vs) (dd : h'.DictOf (qBP P w) a vs) :
  qBG P w H' h' a (.dK kvs):=⟨z,hd,vs,rel,dd⟩
theorem qRu {H' : Hp} {Q : Unit → Shared → Prop} (hu : A.units + 1 < cLine) (I : Inv X pins σ H s) (g : qQ8 H a y v H') (ry : qAY y u) (rv : qAY v r) (h : ∀ s',Inv X pins σ H' s' → Q () s') :
  wpAny (model X.prog X.w) A (setItem (.ref a) u r) Q E s:=by
 rcases g with ⟨kvs,k,e,ey,l,eH⟩ | ⟨kvs,k,b,e,ey,eb,l,eH⟩
 ·subst ey eH
  obtain ⟨z,hd,vs,rel,dd⟩:=qRI I.hok e
  have hz : vs.length ≤ sizeLine:=by rw [← rel.length]; exact z
  have hl : (qE7 kvs k v).length ≤ sizeLine:=by have:=qIO kvs k v; omega
  refine wpAny_setItem_pairs (hsz:=hz) (qRP ry) dd fun h' dd' hs => h _ ?_
  have he : ∃ q,h'.get? a = some q:=let ⟨q,_,_,hq,_⟩:=dd'; ⟨q,hq⟩
  exact qMv I (by rw [e]; exact True.intro) hs he (qR7 hl hd (rel.put k rv) dd')
 ·subst ey eH
  cases (show u = Value.ref b from ry)
  obtain ⟨z,hd,xs,rel,dd⟩:=qZN I.hok e
  have hz : xs.length ≤ sizeLine:=by rw [← Paired.length rel]; exact z
  have hl : (qE7 kvs k v).length ≤ sizeLine:=by have:=qIO kvs k v; omega
  refine wpAny_setItem_heap (hsz:=hz) (tupleKind_room_in1 hu) (qSV I.hok eb) dd fun h' dd' hs => h _ ?_
  obtain ⟨q,es,ep,hq,h2,h3,h4,_,h5⟩:=dd'
  refine qMv I (by rw [e]; exact True.intro) hs ⟨q,hq⟩ ⟨hl,hd,_,(rel.put k eb rv).keeps fun c ys ec => ?_,q,es,ep,hq,h2,h3,h4,h5⟩
  rw [qAb (qZa ec e (fun z => nomatch z))]
  exact ec
end
theorem qTg {P : Program} {w : World} {H : Hp} (h : Heap) (hb : sysModules < h.objs.size) : qBG P w H (h.push { cls:=.type "dict",data:=.dict #[] }) h.objs.size (.dK []) :=
 ⟨Nat.zero_le _,beq_eq_false_iff_ne.mpr (Ne.symm (Nat.ne_of_lt hb)),[],.nil,Heap.DictOf.new h⟩
noncomputable def qYx : TE:=fun _ H Q => ∀ p,H p = none → Q (.ref p) (upd H p (.dK []))
section
variable {X : Cx} {pos : Pos}
theorem qUC : PE X (.Dict [] [] pos) qYx:=fun pins s σ H Q I h =>
 wpAny_Dict_empty ⟨.ref s.heap.objs.size,_,I.laid (a:=s.heap.objs.size) (o:=.dK []) (t':=s.toks) (fun _ _ q => Heap.get?_push_of_some _ q) (Nat.le_refl _) (qTg s.heap I.big),rfl,h _ (I.hok.fresh (Nat.le_refl _))⟩
end
end _L
namespace _A
open PySem PySem.W PySem.Calls PyProof.Rows
theorem qL9 {P : Params} {h : Heap} : ∀ (ns : List Int) (vs : List Value),WellAll P h vs (ns.map WData.int) → IntsAre vs ns:=by
 intro ns
 induction ns with
 | nil =>
  intro vs w
  rw [List.map_nil] at w
  cases w
  exact .nil
 | cons n ns ih =>
  intro vs w
  rw [List.map_cons] at w
  cases w with
  | cons a b =>
   cases a
   exact .cons _ _ (ih _ b)
theorem qS3 {l : OpenLaw} {n : Nat} (hn : l.most = some n) {P : Params} {h : Heap} {args : List WData} {vals : List Value}
  (hpre : l.row.toRowW.claim.pre args = true) (hwl : WellAll P h vals args) :
  ∃ a vs ns,vals = [Value.ref a] ∧ args = [WData.list (ns.map WData.int)] ∧ h.get? a = some { cls:=.type "list",data:=.seq vs.toArray } ∧ IntsAre vs ns ∧ ns.length ≤ n:=by
 have hsh : WShape.hasAll [] args [.list .int] = true:=(pre_splitW hpre).1
 have hc : l.pre.holds [] { args:=args } = true:=(pre_splitW hpre).2
 obtain ⟨d,r,rfl,h1,h2⟩:=hasAllW_cons hsh
 obtain rfl:=hasAllW_nil h2
 obtain ⟨xs,rfl,h3⟩:=hasW_list h1
 obtain ⟨ns,rfl⟩:=items_int h3
 have hlen : ns.length ≤ n:=by
  unfold OpenLaw.pre at hc
  have h4 : (WTm.not (.lt (.lit (.int (n : Int))) (.len (.arg 0)))).holds [] { args:=[.list (ns.map .int)] } = true:=by
   have h4:=(holds_andW hc).1
   rw [hn] at h4
   exact h4
  have h5:=condW_of h4 (w_not (w_lt w_lit (w_len_list (w_arg rfl))))
  rw [List.length_map] at h5
  refine Nat.le_of_not_lt fun q => ?_
  have q' : (n : Int) < ((ns.length : Nat) : Int):=by omega
  first
   | (rw [decide_eq_true q'] at h5; exact absurd h5 (by decide))
   | (simp at h5; omega)
 cases hwl with
 | cons w1 w2 =>
  cases w2
  cases w1 with
  | list ho hall => exact ⟨_,_,ns,rfl,rfl,ho,qL9 ns _ hall,hlen⟩
theorem qSn (l : OpenLaw) (args : List WData) : l.row.toRowW.claim.post args (.bool true) args = true :=
 postW_of (r:=l.row.toRowW) (X:=(true == true))
  (show WShape.has [] (.bool true) .bool = true by first | rfl | decide | simp [WShape.has,WShape.arms,WShape.armsAll])
  (show (WTm.eq .res (.lit (.bool true))).value [] { args:=args,res:=some (.bool true),after:=args } = some (.bool (true == true)) from w_eq_bool (w_res rfl) w_lit) rfl
theorem attach_call {l : OpenLaw} {n : Nat} {q : Program} {loose : List Str} {XP : (Str → Option Value) → Heap → Prop} {YP : World → Heap → Prop} {d : DefRec}
  (hn : l.most = some n) (hdf : d.params.defaults = [])
  (call : ∀ (w : World) (s₀ s₁ : Shared) (mg mb : Str → Option Value) (fa : Addr) (o : Obj) (pm cd doc : Value) (a : Addr) (vs : List Value) (ns : List Int),
   Ground q loose [] XP w s₀ mg mb s₁.heap → YP w s₁.heap →
   s₁.heap.get? fa = some o → o.data = .func (docDef d.name d.params d.body d.scope pm cd doc) → s₁.heap.CodeRec cd d.name → mg d.name = some (.ref fa) →
   s₁.heap.get? a = some { cls:=.type "list",data:=.seq vs.toArray } → IntsAre vs ns → ns.length ≤ n → s₁.gens = #[] →
   codeAny (model l.prog w) callerA (.call (.ref fa) ⟨[.ref a],[]⟩) (fun r s' => r = .ok (.ret (.bool true)) ∧ OldK s₁.heap s'.heap ∧ s'.os = s₁.os ∧ AllBare s'.gens) s₁) :
  WalkO q loose XP YP l.row.toRowW d [] (fun f vs => PySem.call f vs):=by
 intro w s₀ s₁ mg mb G Y fa o pm cd doc dV kV ho hd hcd hD hmg hg args vals as hpre hlay hrd hwl hlo
 obtain rfl : dV = .none:=Dflts.none hD hdf
 obtain rfl : kV = .none:=Dflts.noKw hD
 obtain ⟨a,vs,ns,rfl,rfl,hobj,hints,hlen⟩:=qS3 hn hpre hwl
 refine enter_call (codeAny_mono (call w s₀ s₁ mg mb fa o pm cd doc a vs ns G Y ho (fd_plain hd) hcd hmg hobj hints hlen hg) fun r s' hq => ?_)
 obtain ⟨rfl,h2,h3,h4⟩:=hq
 exact ⟨.inl ⟨.bool true,.bool true,[],rfl,fun _ => rfl,.bool true,qSn l _,fun _ => ⟨List.Pairwise.nil,fun _ hm => (nomatch hm)⟩⟩,h2,h3,h4⟩
end _A
namespace _L
open PySem PySem.Spec PyProof.Rows
theorem qTA {vs : List Value} {ns : List Int} (h : IntsAre vs ns) : qAZ (ns.map V.int) vs:=by
 induction h with
 | nil => exact .nil
 | cons n t h ih => exact .cons ⟨t,rfl⟩ ih
noncomputable def SqX (K : PySem.W.Frag) (H : Hp) (a : Addr) (xs : List V) : Prop :=
 Rd H a (.lst xs) ∨ ∃ (its : List Value) (n : Nat),K.lookup a = some { cls:=.type "list",data:=.seq its.toArray n } ∧ xs.length ≤ sizeLine ∧ qAZ xs its
theorem SqX.l {K : PySem.W.Frag} {H : Hp} {a : Addr} {xs : List V} (h : SqX K H a xs) : SqL K H a xs:=by
 rcases h with h | ⟨its,n,e,l,v⟩
 ·exact .inl h
 ·exact .inr ⟨_,its.toArray,n,e,rfl,rfl,rfl,by rw [List.size_toArray,← v.length]; exact l,by simpa using v⟩
noncomputable def qTE (H : Hp) : Prop:=∀ b,H b = none ∨ ∃ o xs,H b = some (.frz o (.lst xs))
theorem qT1 {P : Program} {w : World} {K : PySem.W.Frag} {mg mb : Str → Option Value} {CX : CXT} {k : Nat} {fa a : Addr} {fd : FuncData} {x : Str} {sp : Sp} {s₁ : Shared} {vs : List Value} {ns : List Int}
  (KX : K.In s₁.heap) (hns : s₁.heap.Ns mainGlobals mg) (hb : s₁.heap.Ns builtinsNs mb) (hbb : ∀ x : Str,x ≠ "__name__" → mb x = bootBuiltins x) (hlim : s₁.heap.NoLimit) (hg : s₁.gens = #[])
  (ha : s₁.heap.get? a = some { cls:=.type "list",data:=.seq vs.toArray }) (hi : IntsAre vs ns) (hl : ns.length ≤ sizeLine) (hr : Room k callerA)
  (F : ∀ base : Heap,K.In base → base.Ns mainGlobals mg → FnOk P w K mg base CX k fa fd [x] sp) (hbind : ∀ (s : Shared) (u : Value),BindsTo s fd ⟨[u],[]⟩ [(x,u)])
  (hsp : ∀ H : Hp,qTE H → SqX K H a (ns.map V.int) → sp [.ref a] H (fun v _ => v = .bl true) fun _ _ _ => False)
  (hCX : ∀ H e s',CX [] H s₁ (fun _ _ _ => False) e s' → False) :
  codeAny (model P w) callerA (.call (.ref fa) ⟨[.ref a],[]⟩) (fun r s' => r = .ok (.ret (.bool true)) ∧ OldK s₁.heap s'.heap ∧ s'.os = s₁.os ∧ AllBare s'.gens) s₁:=by
 have rv:=qTA hi
 have lenV:=hi.length
 have core : ∀ H : Hp,qTE H → SqX K H a (ns.map V.int) → HOk P w H s₁.heap → (∀ b,H b ≠ none → b = a) → (H a ≠ none → K.lookup a = none) →
   codeAny (model P w) callerA (.call (.ref fa) ⟨[.ref a],[]⟩) (fun r s' => r = .ok (.ret (.bool true)) ∧ OldK s₁.heap s'.heap ∧ s'.os = s₁.os ∧ AllBare s'.gens) s₁:=by
  intro H hO hS hok hA hK
  have base_of : ∀ {b : Addr} {o : Obj},s₁.heap.get? b = some o → H b = none → (qJN s₁.heap H).get? b = some o:=fun e n => qTv e n
  have noA : ∀ {b : Addr} {o : Obj} {es : Array DictEntry} {ep : Nat},s₁.heap.get? b = some o → o.data = .dict es ep → H b = none:=fun {b o es ep} e d => by
   cases q : H b with
   | none => rfl
   | some u =>
    have e' : b = a:=hA b (by rw [q]; simp)
    subst e'
    rw [ha] at e; cases e
    have d' : Data.seq vs.toArray _ = Data.dict es ep:=d
    cases d'
  have nsK : ∀ {b : Addr} {m : Str → Option Value},s₁.heap.Ns b m → (qJN s₁.heap H).Ns b m:=fun {b m} ⟨o,es,ep,e,d,r⟩ => ⟨o,es,ep,base_of e (noA e d),d,r⟩
  have hKb : K.In (qJN s₁.heap H):=fun b o e => base_of (KX b o e) (by
   cases q : H b with
   | none => rfl
   | some u =>
    have e' : b = a:=hA b (by rw [q]; simp)
    subst e'
    rw [hK (by rw [q]; simp)] at e; cases e)
  have hM : Mod K mg (qJN s₁.heap H):=⟨hKb,nsK hns,⟨mb,nsK hb,hbb⟩,let ⟨mc,h1,h2⟩:=hlim; ⟨mc,nsK h1,h2⟩⟩
  have e0 : Env0 P w K mg (qJN s₁.heap H) callerA [] s₁ H:=⟨rfl,hM,fun b o e => qV8 e,Nat.le_of_eq (qSI _ _),trivial,fun b hb => absurd (show b ∈ ([] : List Addr) from hb) (by simp),hok,.of_eq hg⟩
  refine codeAny_mono ((F _ hKb (nsK hns)).run callerA [] s₁ H ⟨[.ref a],[]⟩ [.ref a] [.ref a] _ _ hr e0 (hbind s₁ (.ref a)) (.cons rfl .nil) (hsp H hO hS)) fun r s' h => ?_
  cases r with
  | error e => exact (hCX H e s' h).elim
  | ok fl =>
   cases fl with
   | next => exact False.elim h
   | brk => exact False.elim h
   | cont => exact False.elim h
   | ret u =>
    obtain ⟨v,H',os,bare,un,hok',r',q⟩:=h
    have q' : v = .bl true:=q
    subst q'
    obtain rfl : u = Value.bool true:=r'
    refine ⟨rfl,OldK.of_keep fun b o e => ?_,os,bare⟩
    cases q : H b with
    | none => exact un.keep b o e q (by intro z; exact absurd (show b ∈ ([] : List Addr) from z) (by simp)) (by simp)
    | some u =>
     rcases hO b with z | ⟨ob,xs,z⟩
     ·rw [q] at z; cases z
     ·have z2:=un.frzs b ob _ z
      obtain ⟨e1,_⟩:=hok b _ z
      obtain ⟨e2,_⟩:=hok' b _ z2
      rw [e] at e1; cases e1
      exact e2
 cases hk : K.lookup a with
 | some o =>
  have e:=KX a o hk
  rw [ha] at e
  cases e
  refine core (fun _ => none) (fun _ => .inl rfl) (.inr ⟨vs,_,hk,by rw [List.length_map]; exact hl,rv⟩) (fun b u z => by have z' : (none : Option HO) = some u:=z; cases z') (fun b z => absurd rfl z) fun z => absurd rfl z
 | none =>
  refine core (fun b => if b = a then some (.frz { cls:=.type "list",data:=.seq vs.toArray } (.lst (ns.map V.int))) else none) (fun b => ?_) (.inl (.inr ⟨{ cls:=.type "list",data:=.seq vs.toArray },if_pos rfl⟩)) (fun b u z => ?_) (fun b z => ?_) fun _ => hk
  ·by_cases hb : b = a
   ·exact .inr ⟨_,_,if_pos hb⟩
   ·exact .inl (if_neg hb)
  ·by_cases hb : b = a
   ·have z':=(if_pos hb).symm.trans z
    cases z'
    subst hb
    exact ⟨ha,by rw [List.length_map]; exact hl,vs,_,rv,ha⟩
   ·have z':=(if_neg hb).symm.trans z
    cases z'
  ·by_cases hb : b = a
   ·exact hb
   ·exact absurd (if_neg hb) z
end _L
namespace _L
open PySem PySem.Spec PyProof.Rows
theorem qWg {l : PySem.W.OpenLaw} {n k : Nat} {q : Program} {loose : List Str} {XP : (Str → Option Value) → Heap → Prop} {YP : World → Heap → Prop} {d : DefRec} {K : Params → PySem.W.Frag} {CX : World → CXT} {sp : World → Sp} {x : Str}
  (hn : l.most = some n) (hn2 : n ≤ sizeLine) (hdf : d.params.defaults = []) (hr : Room k callerA)
  (hY : ∀ (w : World) (h : Heap),YP w h → (K w.params).In h)
  (F : ∀ (w : World) (mg : Str → Option Value) (fa : Addr) (h : Heap),(K w.params).In h → h.Ns mainGlobals mg → mg d.name = some (.ref fa) →
   ∃ fd : FuncData,(∀ (s : Shared) (u : Value),BindsTo s fd ⟨[u],[]⟩ [(x,u)]) ∧
    ∀ base : Heap,(K w.params).In base → base.Ns mainGlobals mg → FnOk l.prog w (K w.params) mg base (CX w) k fa fd [x] (sp w))
  (hsp : ∀ (w : World) (H : Hp) (a : Addr) (ns : List Int),ns.length ≤ n → qTE H → SqX (K w.params) H a (ns.map V.int) → sp w [.ref a] H (fun v _ => v = .bl true) fun _ _ _ => False)
  (hCX : ∀ (w : World) (H : Hp) (s : Shared) (e : Value) (s' : Shared),CX w [] H s (fun _ _ _ => False) e s' → False) :
  PySem.W.WalkO q loose XP YP l.row.toRowW d [] (fun f vs => PySem.call f vs):=by
 refine _A.attach_call hn hdf fun w s₀ s₁ mg mb fa o pm cd doc a vs ns G Y ho hd hcd hmg hobj hints hlen hg => ?_
 have KX:=hY w _ Y
 obtain ⟨fd,hb,hF⟩:=F w mg fa _ KX G.T.g hmg
 exact qT1 KX G.T.g G.T.b G.T.builtins G.T.nolimit hg hobj hints (Nat.le_trans hlen hn2) hr hF hb (fun H hO hS => hsp w H a ns hlen hO hS) fun H e s' => hCX w H s₁ e s'
end _L
namespace _L
open PySem PySem.Spec PyProof.Rows
noncomputable def qAP (s : Stmt) : Arguments:=match s with
 | .FunctionDef _ a _ _ _ _ _ _ _ _ => a
 | _ => { posonlyargs:=[],args:=[],vararg:=none,kwonlyargs:=[],kw_defaults:=[],kwarg:=none,defaults:=[] }
noncomputable def qAN (s : Stmt) : List Stmt:=match s with
 | .FunctionDef _ _ b _ _ _ _ _ _ _ => b
 | _ => []
noncomputable def qAB (s : Stmt) : Scope:=match s with
 | .FunctionDef _ _ _ _ _ _ sc _ _ _ => sc
 | _ => { kind:=.function,names:=[],isGenerator:=false,isCoroutine:=false }
abbrev CX0 : CXT:=fun _ _ _ _ _ _ => False
structure Fun (K : PySem.W.Frag) (x qual : Str) (st : Stmt) (f : Addr) (fd : FuncData) : Prop where
 ex : ∃ (oc : Value) (od : Option Addr) (kV doc pm : Value) (an : Option Addr) (cdv ct : Value) (osl : Array (Option Value)),
  fd = PySem.W.fnOf x qual (qAP st) (qAN st) (qAB st) .none kV doc pm an cdv ct ∧ K.lookup f = some ⟨oc,od,.func fd,osl⟩ ∧ PySem.W.codeIn K cdv qual = true
 kp : PySem.W.keepIn K (.ref f) = true
section
variable {P : Program} {w : World} {K : PySem.W.Frag} {mg : Str → Option Value} {base : Heap}
theorem Fun.binds {x qual : Str} {st : Stmt} {f : Addr} {fd : FuncData} {ps : List Str} (F : Fun K x qual st f fd)
  (h : ∀ (kV doc pm : Value) (an : Option Addr) (cdv ct : Value) (us : List Value),us.length = ps.length → bindArgs (PySem.W.fnOf x qual (qAP st) (qAN st) (qAB st) .none kV doc pm an cdv ct) ⟨us,[]⟩ = pure (ps.zip us)) : qEt K fd ps []:=by
 obtain ⟨oc,od,kV,doc,pm,an,cdv,ct,osl,rfl,lk,hcd⟩:=F.ex
 exact .all (h kV doc pm an cdv ct)
theorem qXk {x qual : Str} {st : Stmt} {f : Addr} {oc : Value} {od an : Option Addr} {osl : Array (Option Value)} {kV doc pm cdv ct : Value} (l : K.lookup f = some ⟨oc,od,.func (PySem.W.fnOf x qual (qAP st) (qAN st) (qAB st) .none kV doc pm an cdv ct),osl⟩)
  (c : PySem.W.codeIn K cdv qual = true) (k : PySem.W.keepIn K (.ref f) = true) : Fun K x qual st f (PySem.W.fnOf x qual (qAP st) (qAN st) (qAB st) .none kV doc pm an cdv ct):=⟨⟨oc,od,kV,doc,pm,an,cdv,ct,osl,rfl,l,c⟩,k⟩
end
noncomputable def qAK (H H' : Hp) : Prop:=∀ b o,H b = some o → H' b = some o
theorem qAK.refl (H : Hp) : qAK H H:=fun _ _ h => h
theorem qAK.trans {H H1 H2 : Hp} (a : qAK H H1) (b : qAK H1 H2) : qAK H H2:=fun c o h => b c o (a c o h)
theorem qAK.seq {K : PySem.W.Frag} {H H' : Hp} {a : Addr} {xs : List V} (e : qAK H H') (h : SqL K H a xs) : SqL K H' a xs:=by
 rcases h with (h | ⟨o,h⟩) | h
 ·exact .inl (.inl (e _ _ h))
 ·exact .inl (.inr ⟨o,e _ _ h⟩)
 ·exact .inr h
end _L
end
section
namespace _D
open PySem PySem.Spec PyProof.Rows _L
inductive D where
 | non | bl (b : Bool) | int (i : Int) | str (x : Str) | ty (n : String) | obj (a : Addr) | tup (xs : List D) | lst (xs : List D) | dct0 | loc (i : Nat) | exn (c : Value) | fd (ks : List Key) (ds : List D)
noncomputable def qPE (a : Addr) (c : Value) : HO:=.ext fun h => ∃ ob,h.get? a = some ob ∧ ob.cls = c
set_option genInjectivity false in
inductive MO where
 | dead | lst (xs : List D) | dct (kvs : List (Key × D)) | ins (C : Addr) (fs : List (Str × D))
abbrev Sto:=List MO
set_option genInjectivity false in
inductive Res (β : Type) where
 | ok (d : β) (S : Sto) | ex (c : Value) (x : D) (S : Sto) | bad
noncomputable def Res.bind {β γ : Type} (r : Res β) (f : β → Sto → Res γ) : Res γ :=
 match r with
 | .ok d S => f d S
 | .ex c x S => .ex c x S
 | .bad => .bad
theorem Res.bind_ok {β γ : Type} (d : β) (S : Sto) (f : β → Sto → Res γ) : (Res.ok d S).bind f = f d S:=rfl
section
variable (K : PySem.W.Frag) (P : Hp) (α : List Addr)
mutual
noncomputable def Rep : D → V → Prop
 | .non,v => v = .non
 | .bl b,v => v = .bl b
 | .int i,v => v = .int i
 | .str x,v => v = .str x
 | .ty n,v => v = .ty n
 | .obj a,v => v = .ref a ∧ PySem.W.keepIn K (.ref a) = true
 | .tup ds,v => ∃ a vs,v = .ref a ∧ SqT K P a vs ∧ qAL ds vs
 | .lst ds,v => ∃ a vs,v = .ref a ∧ SqX K P a vs ∧ qAL ds vs
 | .dct0,v => ∃ a,v = .ref a ∧ P a = some (.dK [])
 | .loc i,v => ∃ a,v = .ref a ∧ α[i]? = some a
 | .exn c,v => ∃ a,v = .ref a ∧ P a = some (qPE a c)
 | .fd ks ds,v => ∃ a o vs,v = .ref a ∧ P a = some (.frz o (.dK (ks.zip vs))) ∧ ks.length = vs.length ∧ qAL ds vs
noncomputable def qAL : List D → List V → Prop
 | [],vs => vs = []
 | d :: ds,vs => ∃ w ws,vs = w :: ws ∧ Rep d w ∧ qAL ds ws
end
end
section
variable {K : PySem.W.Frag} {P P' : Hp} {α α' : List Addr}
theorem qEi (e : qAK P P') {a : Addr} {xs : List V} (h : SqT K P a xs) : SqT K P' a xs:=by
 rcases h with (h | ⟨o,h⟩) | h
 ·exact .inl (.inl (e _ _ h))
 ·exact .inl (.inr ⟨o,e _ _ h⟩)
 ·exact .inr h
theorem qQy (e : qAK P P') {a : Addr} {u : HO} (h : Rd P a u) : Rd P' a u:=by
 rcases h with h | ⟨o,h⟩
 ·exact .inl (e _ _ h)
 ·exact .inr ⟨o,e _ _ h⟩
theorem qCO (e : qAK P P') {a : Addr} {xs : List V} (h : SqX K P a xs) : SqX K P' a xs:=by
 rcases h with h | h
 ·exact .inl (qQy e h)
 ·exact .inr h
theorem qKe {i : Nat} {a : Addr} (h : α <+: α') (e : α[i]? = some a) : α'[i]? = some a:=by
 obtain ⟨r,rfl⟩:=h
 rw [List.getElem?_append_left (List.getElem?_eq_some_iff.mp e).1]
 exact e
mutual
theorem Rep.mono (e : qAK P P') (h : α <+: α') : ∀ (d : D) (v : V),Rep K P α d v → Rep K P' α' d v
 | .non,_,r => by simpa only [Rep] using r
 | .bl _,_,r => by simpa only [Rep] using r
 | .int _,_,r => by simpa only [Rep] using r
 | .str _,_,r => by simpa only [Rep] using r
 | .ty _,_,r => by simpa only [Rep] using r
 | .obj _,_,r => by simpa only [Rep] using r
 | .tup ds,v,r => by
  simp only [Rep] at r ⊢
  obtain ⟨a,vs,rfl,q,t⟩:=r
  exact ⟨a,vs,rfl,qEi e q,qAL.mono e h ds vs t⟩
 | .lst ds,v,r => by
  simp only [Rep] at r ⊢
  obtain ⟨a,vs,rfl,q,t⟩:=r
  exact ⟨a,vs,rfl,qCO e q,qAL.mono e h ds vs t⟩
 | .dct0,v,r => by
  simp only [Rep] at r ⊢
  obtain ⟨a,rfl,q⟩:=r
  exact ⟨a,rfl,e _ _ q⟩
 | .loc i,v,r => by
  simp only [Rep] at r ⊢
  obtain ⟨a,rfl,q⟩:=r
  exact ⟨a,rfl,qKe h q⟩
 | .exn c,v,r => by
  simp only [Rep] at r ⊢
  obtain ⟨a,rfl,q⟩:=r
  exact ⟨a,rfl,e _ _ q⟩
 | .fd ks ds,v,r => by
  simp only [Rep] at r ⊢
  obtain ⟨a,o,vs,rfl,q,hl,t⟩:=r
  exact ⟨a,o,vs,rfl,e _ _ q,hl,qAL.mono e h ds vs t⟩
theorem qAL.mono (e : qAK P P') (h : α <+: α') : ∀ (ds : List D) (vs : List V),qAL K P α ds vs → qAL K P' α' ds vs
 | [],vs,r => by simpa only [qAL] using r
 | d :: ds,vs,r => by
  simp only [qAL] at r ⊢
  obtain ⟨w,ws,rfl,r1,r2⟩:=r
  exact ⟨w,ws,rfl,Rep.mono e h d w r1,qAL.mono e h ds ws r2⟩
end
theorem qAL.nil : qAL K P α [] []:=by simp only [qAL]
theorem qAL.cons {d : D} {v : V} {ds : List D} {vs : List V} (r : Rep K P α d v) (t : qAL K P α ds vs) : qAL K P α (d :: ds) (v :: vs):=by
 simp only [qAL]; exact ⟨v,vs,rfl,r,t⟩
theorem qAL.nil_inv {vs : List V} (r : qAL K P α [] vs) : vs = []:=by simpa only [qAL] using r
theorem qAL.cons_inv {d : D} {ds : List D} {vs : List V} (r : qAL K P α (d :: ds) vs) : ∃ w ws,vs = w :: ws ∧ Rep K P α d w ∧ qAL K P α ds ws:=by simpa only [qAL] using r
theorem qAL.length : ∀ {ds : List D} {vs : List V},qAL K P α ds vs → ds.length = vs.length
 | [],vs,r => by rw [r.nil_inv]; rfl
 | d :: ds,vs,r => by
  obtain ⟨w,ws,rfl,_,t⟩:=r.cons_inv
  rw [List.length_cons,List.length_cons,t.length]
theorem qAL.append : ∀ {ds es : List D} {vs ws : List V},qAL K P α ds vs → qAL K P α es ws → qAL K P α (ds ++ es) (vs ++ ws)
 | [],es,vs,ws,r,t => by rw [r.nil_inv]; exact t
 | d :: ds,es,vs,ws,r,t => by
  obtain ⟨w,us,rfl,r1,r2⟩:=r.cons_inv
  exact .cons r1 (r2.append t)
theorem qAL.get : ∀ {ds : List D} {vs : List V} {i : Nat} {d : D},qAL K P α ds vs → ds[i]? = some d → ∃ v,vs[i]? = some v ∧ Rep K P α d v
 | [],_,_,_,_,e => by simp at e
 | d :: ds,vs,i,d',r,e => by
  obtain ⟨w,ws,rfl,r1,r2⟩:=r.cons_inv
  cases i with
  | zero => simp at e; subst e; exact ⟨w,rfl,r1⟩
  | succ i =>
   obtain ⟨v,h1,h2⟩:=r2.get (i:=i) (d:=d') (by simpa using e)
   exact ⟨v,by simpa using h1,h2⟩
theorem qAL.drop : ∀ {ds : List D} {vs : List V} (n : Nat),qAL K P α ds vs → qAL K P α (ds.drop n) (vs.drop n)
 | ds,vs,0,r => by simpa using r
 | [],vs,n + 1,r => by rw [r.nil_inv]; exact .nil
 | d :: ds,vs,n + 1,r => by
  obtain ⟨w,ws,rfl,_,r2⟩:=r.cons_inv
  simpa using r2.drop n
theorem qAL.take : ∀ {ds : List D} {vs : List V} (n : Nat),qAL K P α ds vs → qAL K P α (ds.take n) (vs.take n)
 | ds,vs,0,r => by simpa using qAL.nil
 | [],vs,n + 1,r => by rw [r.nil_inv]; exact .nil
 | d :: ds,vs,n + 1,r => by
  obtain ⟨w,ws,rfl,r1,r2⟩:=r.cons_inv
  simpa using qAL.cons r1 (r2.take n)
theorem qAL.set {d : D} {v : V} (q : Rep K P α d v) : ∀ {ds : List D} {vs : List V} (n : Nat),qAL K P α ds vs → qAL K P α (ds.set n d) (vs.set n v)
 | [],vs,n,r => by rw [r.nil_inv]; exact .nil
 | e :: ds,vs,0,r => by
  obtain ⟨w,ws,rfl,r1,r2⟩:=r.cons_inv
  exact .cons q r2
 | e :: ds,vs,n + 1,r => by
  obtain ⟨w,ws,rfl,r1,r2⟩:=r.cons_inv
  exact .cons r1 (r2.set q n)
end
abbrev qAH:=List (Option D)
noncomputable def qAt (K : PySem.W.Frag) (P : Hp) (α : List Addr) (σ : _L.St) (env : qAH) : Prop:=env.length = σ.length ∧ ∀ (i : Nat) (d : D),env[i]? = some (some d) → ∃ v,σ[i]? = some (some v) ∧ Rep K P α d v
noncomputable def KVs (K : PySem.W.Frag) (P : Hp) (α : List Addr) {κ : Type} : List (κ × D) → List (κ × V) → Prop:=Paired fun (p : κ × D) (q : κ × V) => p.1 = q.1 ∧ Rep K P α p.2 q.2
noncomputable def MOk (K : PySem.W.Frag) (H P : Hp) (α : List Addr) (a : Addr) : MO → Prop
 | .dead => True
 | .lst ds => ∃ vs,H a = some (.lst vs) ∧ qAL K P α ds vs
 | .dct kvs => ∃ vs,H a = some (.dK vs) ∧ KVs K P α kvs vs
 | .ins C fs => ∃ dx vs,H a = some (.ins C dx vs) ∧ KVs K P α fs vs
structure Rel (K : PySem.W.Frag) (H P : Hp) (α : List Addr) (S : Sto) : Prop where
 sub : qAK P H
 len : α.length = S.length
 nd : α.Nodup
 sep : ∀ (i : Nat) (a : Addr) (o : MO),α[i]? = some a → S[i]? = some o → o ≠ .dead → P a = none
 at' : ∀ (i : Nat) (a : Addr) (o : MO),α[i]? = some a → S[i]? = some o → MOk K H P α a o
 own : ∀ (i : Nat) (a : Addr),α[i]? = some a → H a ≠ none
section
variable {K : PySem.W.Frag} {H P P' : Hp} {α α' : List Addr} {S : Sto}
theorem qAt.mono {σ : _L.St} {env : qAH} (e : qAK P P') (h : α <+: α') (r : qAt K P α σ env) : qAt K P' α' σ env :=
 ⟨r.1,fun i d q => let ⟨v,h1,h2⟩:=r.2 i d q; ⟨v,h1,Rep.mono e h d v h2⟩⟩
theorem KVs.mono {κ : Type} (e : qAK P P') (h : α <+: α') {kvs : List (κ × D)} {vs : List (κ × V)} (r : KVs K P α kvs vs) : KVs K P' α' kvs vs:=by
 refine Paired.mapP r fun p q z => ⟨z.1,Rep.mono e h _ _ z.2⟩
theorem MOk.mono {a : Addr} (e : qAK P P') (h : α <+: α') : ∀ {o : MO},MOk K H P α a o → MOk K H P' α' a o
 | .dead,_ => trivial
 | .lst _,⟨vs,q,r⟩ => ⟨vs,q,qAL.mono e h _ _ r⟩
 | .dct _,⟨vs,q,r⟩ => ⟨vs,q,r.mono e h⟩
 | .ins _ _,⟨dx,vs,q,r⟩ => ⟨dx,vs,q,r.mono e h⟩
theorem Rel.grow {H' : Hp} (r : Rel K H P α S) (e : qAK H H') : Rel K H' P α S where
 sub:=r.sub.trans e
 len:=r.len
 nd:=r.nd
 sep:=r.sep
 at':=fun i a o q1 q2 => by
  have m:=r.at' i a o q1 q2
  cases o with
  | dead => trivial
  | lst ds => obtain ⟨vs,q,t⟩:=m; exact ⟨vs,e _ _ q,t⟩
  | dct kvs => obtain ⟨vs,q,t⟩:=m; exact ⟨vs,e _ _ q,t⟩
  | ins C fs => obtain ⟨dx,vs,q,t⟩:=m; exact ⟨dx,vs,e _ _ q,t⟩
 own:=fun i a q => by
  have m:=r.own i a q
  cases z : H a with
  | none => exact absurd z m
  | some o => rw [e _ _ z]; intro w; cases w
theorem qJb {H : Hp} {a : Addr} {o : HO} (h : H a = none) : qAK H (upd H a o):=fun b u e => by rw [qAb (qAv e h)]; exact e
theorem Rel.pure {a : Addr} {o : HO} (r : Rel K H P α S) (h : H a = none) : Rel K (upd H a o) (upd P a o) α S ∧ qAK P (upd P a o):=by
 have hP : P a = none:=by
  cases z : P a with
  | none => rfl
  | some u => rw [r.sub _ _ z] at h; cases h
 have sP : qAK P (upd P a o):=qJb hP
 have r1:=r.grow (qJb (o:=o) h)
 refine ⟨⟨fun b u e => ?_,r.len,r.nd,fun i b u q1 q2 q3 => ?_,fun i b u q1 q2 => (r1.at' i b u q1 q2).mono sP (List.prefix_refl _),r1.own⟩,sP⟩
 ·by_cases hb : b = a
  ·subst hb; rw [qAz] at e ⊢; exact e
  ·rw [qAb hb] at e ⊢; exact r.sub _ _ e
 ·have hb : b ≠ a:=by rintro rfl; exact r.own i b q1 h
  rw [qAb hb]
  exact r.sep i b u q1 q2 q3
theorem Rel.new {a : Addr} {o : HO} {m : MO} (r : Rel K H P α S) (h : H a = none) (hm : MOk K (upd H a o) P (α ++ [a]) a m) : Rel K (upd H a o) P (α ++ [a]) (S ++ [m]):=by
 have hP : P a = none:=by
  cases z : P a with
  | none => rfl
  | some u => rw [r.sub _ _ z] at h; cases h
 have r1:=r.grow (qJb (o:=o) h)
 have hp : α <+: α ++ [a]:=List.prefix_append _ _
 have split : ∀ (i : Nat) (b : Addr),(α ++ [a])[i]? = some b → (i < α.length ∧ α[i]? = some b) ∨ (i = α.length ∧ b = a):=fun i b q => by
  by_cases hi : i < α.length
  ·rw [List.getElem?_append_left hi] at q; exact .inl ⟨hi,q⟩
  ·rw [List.getElem?_append_right (by omega)] at q
   cases hk : i - α.length with
   | zero => rw [hk] at q; simp at q; exact .inr ⟨by omega,q.symm⟩
   | succ k => rw [hk] at q; simp at q
 refine ⟨r1.sub,by simp [r.len],?_,fun i b u q1 q2 q3 => ?_,fun i b u q1 q2 => ?_,fun i b q => ?_⟩
 ·rw [List.nodup_append]
  refine ⟨r.nd,by simp,fun b hb c hc e => ?_⟩
  simp at hc; subst hc; subst e
  obtain ⟨i,hi,e⟩:=List.mem_iff_getElem.mp hb
  exact r.own i b (by rw [List.getElem?_eq_getElem hi,e]) h
 ·rcases split i b q1 with ⟨hi,z⟩ | ⟨hi,rfl⟩
  ·rw [List.getElem?_append_left (by rw [← r.len]; exact hi)] at q2
   exact r.sep i b u z q2 q3
  ·exact hP
 ·rcases split i b q1 with ⟨hi,z⟩ | ⟨hi,rfl⟩
  ·rw [List.getElem?_append_left (by rw [← r.len]; exact hi)] at q2
   exact (r1.at' i b u z q2).mono (qAK.refl _) hp
  ·rw [hi,r.len,List.getElem?_append_right (Nat.le_refl _)] at q2
   simp at q2; subst q2
   exact hm
 ·rcases split i b q with ⟨_,z⟩ | ⟨_,rfl⟩
  ·exact r1.own i b z
  ·rw [qAz]; intro z; cases z
theorem qN0 {N : List Addr} (hN : N.Nodup) {i j : Nat} {x : Addr} (a : N[i]? = some x) (b : N[j]? = some x) : i = j:=by
 obtain ⟨h1,e1⟩:=List.getElem?_eq_some_iff.mp a
 obtain ⟨h2,e2⟩:=List.getElem?_eq_some_iff.mp b
 exact (List.getElem_inj hN).mp (e1.trans e2.symm)
theorem Rel.put {a : Addr} {i : Nat} {o : HO} {m m' : MO} (r : Rel K H P α S) (ha : α[i]? = some a) (hs : S[i]? = some m) (hd : m ≠ .dead) (hm : MOk K (upd H a o) P α a m') : Rel K (upd H a o) P α (S.set i m'):=by
 have hP:=r.sep i a m ha hs hd
 have hi : i < S.length:=(List.getElem?_eq_some_iff.mp hs).1
 refine ⟨fun b u e => ?_,by simp [r.len],r.nd,fun j b u q1 q2 q3 => ?_,fun j b u q1 q2 => ?_,fun j b q => ?_⟩
 ·have hb : b ≠ a:=by rintro rfl; rw [hP] at e; cases e
  rw [qAb hb]; exact r.sub _ _ e
 ·by_cases hj : j = i
  ·subst hj; rw [ha] at q1; cases q1; exact hP
  ·rw [List.getElem?_set_ne (Ne.symm hj)] at q2; exact r.sep j b u q1 q2 q3
 ·by_cases hj : j = i
  ·subst hj; rw [ha] at q1; cases q1
   rw [List.getElem?_set_self hi] at q2; cases q2
   exact hm
  ·rw [List.getElem?_set_ne (Ne.symm hj)] at q2
   have hb : b ≠ a:=by rintro rfl; exact hj (qN0 r.nd q1 ha)
   have z:=r.at' j b u q1 q2
   cases u with
   | dead => trivial
   | lst ds => obtain ⟨vs,q,t⟩:=z; exact ⟨vs,by rw [qAb hb]; exact q,t⟩
   | dct kvs => obtain ⟨vs,q,t⟩:=z; exact ⟨vs,by rw [qAb hb]; exact q,t⟩
   | ins C fs => obtain ⟨dx,vs,q,t⟩:=z; exact ⟨dx,vs,by rw [qAb hb]; exact q,t⟩
 ·by_cases hb : b = a
  ·subst hb; rw [qAz]; intro z; cases z
  ·rw [qAb hb]; exact r.own j b q
end
theorem nn {β : Type} {a : β} {p : Prop} (h : (none : Option β) = some a) : p:=by cases h
theorem qJO {β : Type} {c : Prop} [Decidable c] {a b : β} (h : (if c then some a else none) = some b) : c ∧ a = b:=by
 by_cases z : c
 ·rw [if_pos z] at h; exact ⟨z,Option.some.inj h⟩
 ·rw [if_neg z] at h; exact nn h
end _D
end
section
namespace _D
open PySem PySem.Spec PyProof.Rows _L
abbrev DE:=qAH → Sto → Res D
abbrev DT:=qAH → Sto → Res Bool
abbrev DA:=qAH → Sto → Res (List D)
set_option genInjectivity false in
inductive Out where
 | nx (env : qAH) (S : Sto) | rt (d : D) (S : Sto) | bk (env : qAH) (S : Sto) | ct (env : qAH) (S : Sto) | ex (c : Value) (x : D) (env : qAH) (S : Sto) | bad
abbrev DS:=qAH → Sto → Out
noncomputable def Old (X : Cx) (pins : List (Addr × Obj)) (H : Hp) (b : Addr) : Prop :=
 (∃ o,X.s₀.heap.get? b = some o) ∨ H b ≠ none ∨ (∃ p ∈ X.pn ++ pins,p.1 = b) ∨ ∃ x,X.env.cells.lookup x = some b
noncomputable def Cv (X : Cx) (pins : List (Addr × Obj)) (H : Hp) (B h : Heap) : Prop:=∀ b o,h.get? b = some o → Old X pins H b → b ∉ frs X.stack → B.get? b = some o
inductive FlyX (X : Cx) (pins : List (Addr × Obj)) (H : Hp) (c : Value) (e : Addr) (h : Heap) : Prop where
 | new (g : Heap) (args : List Value) : Heap.MadeExcOf g h e c args → g.FunFrames X.base X.stack → (∀ b o,h.get? b = some o → Old X pins H b → g.get? b = some o) → FlyX X pins H c e h
 | fly (B : Heap) (a0 : Value) : Heap.FlyingW B X.stack e c a0 h → Cv X pins H B h → FlyX X pins H c e h
inductive XOk (X : Cx) (P : Hp) (α : List Addr) (c : Value) (x : D) (S : Sto) (u : Value) (s : Shared) : Prop
 | mk (e : Addr) (pins : List (Addr × Obj)) (σ : _L.St) (H : Hp) (P' : Hp) (α' : List Addr) (e1 : u = .ref e) (I : Inv X pins σ H s) (r : Rel X.K H P' α' S) (q1 : qAK P P') (q2 : α <+: α') (q3 : X.ex = [] ∧ X.stack = X.env :: X.outer ∧ X.env.frame = some X.env.locals) (q4 : FlyX X pins H c e s.heap) : XOk X P α c x S u s
theorem XOk.base {X : Cx} {P P1 : Hp} {α α1 : List Addr} {c : Value} {x : D} {S : Sto} {u : Value} {s : Shared} (e : qAK P P1) (h : α <+: α1) (k : XOk X P1 α1 c x S u s) : XOk X P α c x S u s:=by
 obtain ⟨a,pins,σ,H,P',α',e1,I,r,q1,q2,q3,q4⟩:=k
 exact ⟨a,pins,σ,H,P',α',e1,I,r,e.trans q1,h.trans q2,q3,q4⟩
section
variable (X : Cx)
noncomputable def qAR {β : Type} (P : Hp) (α : List Addr) (r : Res β) (Ok : β → Sto → Prop) : Prop :=
 match r with
 | .ok d S' => Ok d S'
 | .ex c x S' => ∀ u s',XOk X P α c x S' u s' → X.xe u s'
 | .bad => False
noncomputable def OkV (P : Hp) (α : List Addr) (Q : VK) (d : D) (S' : Sto) : Prop:=∀ v H' P' α',Rel X.K H' P' α' S' → qAK P P' → α <+: α' → Rep X.K P' α' d v → Q v H'
noncomputable def OkT (P : Hp) (α : List Addr) (Q : Bool → Hp → Prop) (b : Bool) (S' : Sto) : Prop:=∀ H' P' α',Rel X.K H' P' α' S' → qAK P P' → α <+: α' → Q b H'
noncomputable def OkA (P : Hp) (α : List Addr) (Q : List V → Hp → Prop) (ds : List D) (S' : Sto) : Prop:=∀ vs H' P' α',Rel X.K H' P' α' S' → qAK P P' → α <+: α' → qAL X.K P' α' ds vs → Q vs H'
abbrev qAr (P : Hp) (α : List Addr) (r : Res D) (Q : VK) : Prop:=qAR X P α r (OkV X P α Q)
abbrev qIR (P : Hp) (α : List Addr) (r : Res Bool) (Q : Bool → Hp → Prop) : Prop:=qAR X P α r (OkT X P α Q)
abbrev qJ2 (P : Hp) (α : List Addr) (r : Res (List D)) (Q : List V → Hp → Prop) : Prop:=qAR X P α r (OkA X P α Q)
noncomputable def qAf (P : Hp) (α : List Addr) (r : Out) (D : Ends) : Prop :=
 match r with
 | .nx env' S' => ∀ σ' H' P' α',Rel X.K H' P' α' S' → qAt X.K P' α' σ' env' → qAK P P' → α <+: α' → D.nx σ' H'
 | .bk env' S' => ∀ σ' H' P' α',Rel X.K H' P' α' S' → qAt X.K P' α' σ' env' → qAK P P' → α <+: α' → D.bk σ' H'
 | .ct env' S' => ∀ σ' H' P' α',Rel X.K H' P' α' S' → qAt X.K P' α' σ' env' → qAK P P' → α <+: α' → D.ct σ' H'
 | .rt d S' => ∀ v H' P' α',Rel X.K H' P' α' S' → qAK P P' → α <+: α' → Rep X.K P' α' d v → D.rt v H'
 | .ex c x _ S' => ∀ u s',XOk X P α c x S' u s' → X.xe u s'
 | .bad => False
inductive tD (f : DE) (σ : _L.St) (H : Hp) (Q : VK) : Prop
 | mk (P : Hp) (α : List Addr) (env : qAH) (S : Sto) (r : Rel X.K H P α S) (re : qAt X.K P α σ env) (af : qAr X P α (f env S) Q) : tD f σ H Q
inductive tDT (f : DT) (σ : _L.St) (H : Hp) (Q : Bool → Hp → Prop) : Prop
 | mk (P : Hp) (α : List Addr) (env : qAH) (S : Sto) (r : Rel X.K H P α S) (re : qAt X.K P α σ env) (af : qIR X P α (f env S) Q) : tDT f σ H Q
inductive tDA (f : DA) (σ : _L.St) (H : Hp) (Q : List V → Hp → Prop) : Prop
 | mk (P : Hp) (α : List Addr) (env : qAH) (S : Sto) (r : Rel X.K H P α S) (re : qAt X.K P α σ env) (af : qJ2 X P α (f env S) Q) : tDA f σ H Q
inductive tDS (f : DS) (D : Ends) (σ : _L.St) (H : Hp) : Prop
 | mk (P : Hp) (α : List Addr) (env : qAH) (S : Sto) (r : Rel X.K H P α S) (re : qAt X.K P α σ env) (af : qAf X P α (f env S) D) : tDS f D σ H
end
section
variable {X : Cx} {P P1 : Hp} {α α1 : List Addr}
theorem qAr.base {r : Res D} {Q : VK} (e : qAK P P1) (h : α <+: α1) (k : qAr X P α r Q) : qAr X P1 α1 r Q:=by
 cases r with
 | ok d S => exact fun v H' P' α' r q1 q2 q3 => k v H' P' α' r (e.trans q1) (h.trans q2) q3
 | ex c x S => exact fun u s' q => k u s' (q.base e h)
 | bad => exact k
theorem qIR.base {r : Res Bool} {Q : Bool → Hp → Prop} (e : qAK P P1) (h : α <+: α1) (k : qIR X P α r Q) : qIR X P1 α1 r Q:=by
 cases r with
 | ok d S => exact fun H' P' α' r q1 q2 => k H' P' α' r (e.trans q1) (h.trans q2)
 | ex c x S => exact fun u s' q => k u s' (q.base e h)
 | bad => exact k
theorem qJ2.base {r : Res (List D)} {Q : List V → Hp → Prop} (e : qAK P P1) (h : α <+: α1) (k : qJ2 X P α r Q) : qJ2 X P1 α1 r Q:=by
 cases r with
 | ok d S => exact fun v H' P' α' r q1 q2 q3 => k v H' P' α' r (e.trans q1) (h.trans q2) q3
 | ex c x S => exact fun u s' q => k u s' (q.base e h)
 | bad => exact k
theorem qAf.base {r : Out} {D : Ends} (e : qAK P P1) (h : α <+: α1) (k : qAf X P α r D) : qAf X P1 α1 r D:=by
 cases r with
 | nx env S => exact fun v H' P' α' r q0 q1 q2 => k v H' P' α' r q0 (e.trans q1) (h.trans q2)
 | bk env S => exact fun v H' P' α' r q0 q1 q2 => k v H' P' α' r q0 (e.trans q1) (h.trans q2)
 | ct env S => exact fun v H' P' α' r q0 q1 q2 => k v H' P' α' r q0 (e.trans q1) (h.trans q2)
 | rt d S => exact fun v H' P' α' r q1 q2 q3 => k v H' P' α' r (e.trans q1) (h.trans q2) q3
 | ex c x env S => exact fun u s' q => k u s' (q.base e h)
 | bad => exact k
theorem xr {Q : VK} {v : V} {H : Hp} {d : D} {S : Sto} (k : OkV X P α Q d S) (r : Rel X.K H P α S) (q : Rep X.K P α d v) : Q v H:=k v H P α r (qAK.refl _) (List.prefix_refl _) q
end
section
variable {X : Cx} {a b e : Expr} {pos : Pos}
theorem peW {t t' : TE} (h : PE X e t) (w : ∀ σ H Q,t' σ H Q → t σ H Q) : PE X e t':=fun pins s σ H Q I q => h pins s σ H Q I (w σ H Q q)
theorem psW {st : Stmt} {t t' : TS} (h : PS X st t) (w : ∀ D σ H,t' D σ H → t D σ H) : PS X st t':=fun pins s σ H D I q => h pins s σ H D I (w D σ H q)
theorem qYh {st : List Stmt} {t t' : TS} (h : PSs X st t) (w : ∀ D σ H,t' D σ H → t D σ H) : PSs X st t':=fun pins s σ H D I q => h pins s σ H D I (w D σ H q)
theorem paW {es : List Expr} {t t' : TA} (h : PA X es t) (w : ∀ σ H Q,t' σ H Q → t σ H Q) : PA X es t':=fun pos pins s σ H Q I q => h pos pins s σ H Q I (w σ H Q q)
structure Got (X : Cx) (pins : List (Addr × Obj)) (σ : _L.St) (env : qAH) (P : Hp) (α : List Addr) (u : Value) (s1 : Shared) (v : V) (H1 P1 : Hp) (α1 : List Addr) (d : D) (S1 : Sto) : Prop where
 inv : Inv X pins σ H1 s1
 val : qAY v u
 rel : Rel X.K H1 P1 α1 S1
 env : qAt X.K P1 α1 σ env
 rep : Rep X.K P1 α1 d v
 same : qAK P P1
 pre : α <+: α1
inductive GotG (X : Cx) (pins : List (Addr × Obj)) (σ : _L.St) (env : qAH) (P : Hp) (α : List Addr) (u : Value) (s1 : Shared) {γ : Type} (g : D → Sto → Res γ) (Ok : γ → Sto → Prop) : Prop
 | mk (v : V) (H1 P1 : Hp) (α1 : List Addr) (d : D) (S1 : Sto) (G : Got X pins σ env P α u s1 v H1 P1 α1 d S1) (q : qAR X P α (g d S1) Ok) : GotG X pins σ env P α u s1 g Ok
inductive GotAG (X : Cx) (pins : List (Addr × Obj)) (σ : _L.St) (env : qAH) (P : Hp) (α : List Addr) (us : List Value) (s1 : Shared) {γ : Type} (g : List D → Sto → Res γ) (Ok : γ → Sto → Prop) : Prop
 | mk (vs : List V) (H1 P1 : Hp) (α1 : List Addr) (ds : List D) (S1 : Sto) (I : Inv X pins σ H1 s1) (rv : qAZ vs us) (r : Rel X.K H1 P1 α1 S1) (re : qAt X.K P1 α1 σ env) (rp : qAL X.K P1 α1 ds vs) (e1 : qAK P P1) (e2 : α <+: α1) (q : qAR X P α (g ds S1) Ok) : GotAG X pins σ env P α us s1 g Ok
inductive GotT (X : Cx) (pins : List (Addr × Obj)) (σ : _L.St) (env : qAH) (P : Hp) (α : List Addr) (b : Bool) (s1 : Shared) {γ : Type} (g : Bool → Sto → Res γ) (Ok : γ → Sto → Prop) : Prop
 | mk (H1 P1 : Hp) (α1 : List Addr) (S1 : Sto) (I : Inv X pins σ H1 s1) (r : Rel X.K H1 P1 α1 S1) (re : qAt X.K P1 α1 σ env) (e1 : qAK P P1) (e2 : α <+: α1) (q : qAR X P α (g b S1) Ok) : GotT X pins σ env P α b s1 g Ok
theorem qBr {γ : Type} {f : DE} {g : D → Sto → Res γ} {Ok : γ → Sto → Prop} {pins : List (Addr × Obj)} {s : Shared} {σ : _L.St} {H P : Hp} {α : List Addr} {env : qAH} {S : Sto} (he : PE X e (tD X f)) (I : Inv X pins σ H s) (r : Rel X.K H P α S)
  (re : qAt X.K P α σ env) (af : qAR X P α ((f env S).bind g) Ok) :
  wpAny (model X.prog X.w) X.A (eval e X.env) (fun u s1 => GotG X pins σ env P α u s1 g Ok) X.xe s:=by
 refine thn (he pins s σ H (fun v H1 => ∃ P1 α1 d S1,Rel X.K H1 P1 α1 S1 ∧ qAt X.K P1 α1 σ env ∧ Rep X.K P1 α1 d v ∧ qAK P P1 ∧ α <+: α1 ∧ qAR X P α (g d S1) Ok) I ⟨P,α,env,S,r,re,?_⟩) fun u s1 ⟨v,H1,I1,rv,P1,α1,d,S1,q1,q2,q3,q4,q5,q6⟩ => ⟨v,H1,P1,α1,d,S1,⟨I1,rv,q1,q2,q3,q4,q5⟩,q6⟩
 cases q : f env S with
 | bad => rw [q] at af; exact af
 | ex c x S' => rw [q] at af; exact af
 | ok d S' =>
  rw [q] at af
  exact fun v H' P' α' r' e1 e2 rp => ⟨P',α',d,S',r',re.mono e1 e2,rp,e1,e2,af⟩
theorem qDL {γ : Type} {es : List Expr} {f : DA} {g : List D → Sto → Res γ} {Ok : γ → Sto → Prop} {pins : List (Addr × Obj)} {s : Shared} {σ : _L.St} {H P : Hp} {α : List Addr} {env : qAH} {S : Sto} (he : PA X es (tDA X f)) (I : Inv X pins σ H s) (r : Rel X.K H P α S)
  (re : qAt X.K P α σ env) (af : qAR X P α ((f env S).bind g) Ok) (pos : Pos) :
  wpAny (model X.prog X.w) X.A (spliced (backTo pos (starEach es X.env))) (fun us s1 => GotAG X pins σ env P α us s1 g Ok) X.xe s:=by
 refine thn (he pos pins s σ H (fun vs H1 => ∃ P1 α1 ds S1,Rel X.K H1 P1 α1 S1 ∧ qAt X.K P1 α1 σ env ∧ qAL X.K P1 α1 ds vs ∧ qAK P P1 ∧ α <+: α1 ∧ qAR X P α (g ds S1) Ok) I ⟨P,α,env,S,r,re,?_⟩) fun u s1 ⟨v,H1,I1,rv,P1,α1,d,S1,q1,q2,q3,q4,q5,q6⟩ => ⟨v,H1,P1,α1,d,S1,I1,rv,q1,q2,q3,q4,q5,q6⟩
 cases q : f env S with
 | bad => rw [q] at af; exact af
 | ex c x S' => rw [q] at af; exact af
 | ok d S' =>
  rw [q] at af
  exact fun v H' P' α' r' e1 e2 rp => ⟨P',α',d,S',r',re.mono e1 e2,rp,e1,e2,af⟩
theorem qLs {γ : Type} {f : DT} {g : Bool → Sto → Res γ} {Ok : γ → Sto → Prop} {pins : List (Addr × Obj)} {s : Shared} {σ : _L.St} {H P : Hp} {α : List Addr} {env : qAH} {S : Sto} {m : Sem Bool}
  (he : ∀ (Q : Bool → Hp → Prop),tDT X f σ H Q → wpAny (model X.prog X.w) X.A m (TP X pins σ Q) X.xe s) (r : Rel X.K H P α S) (re : qAt X.K P α σ env) (af : qAR X P α ((f env S).bind g) Ok) :
  wpAny (model X.prog X.w) X.A m (fun b s1 => GotT X pins σ env P α b s1 g Ok) X.xe s:=by
 refine thn (he (fun b H1 => ∃ P1 α1 S1,Rel X.K H1 P1 α1 S1 ∧ qAt X.K P1 α1 σ env ∧ qAK P P1 ∧ α <+: α1 ∧ qAR X P α (g b S1) Ok) ⟨P,α,env,S,r,re,?_⟩) fun b s1 ⟨H1,I1,P1,α1,S1,q1,q2,q4,q5,q6⟩ => ⟨H1,P1,α1,S1,I1,q1,q2,q4,q5,q6⟩
 cases q : f env S with
 | bad => rw [q] at af; exact af
 | ex c x S' => rw [q] at af; exact af
 | ok d S' =>
  rw [q] at af
  exact fun H' P' α' r' e1 e2 => ⟨P',α',S',r',re.mono e1 e2,e1,e2,af⟩
noncomputable def dC (d : D) : DE:=fun _ S => .ok d S
noncomputable def qAD (i : Nat) : DE:=fun env S => match env[i]? with
 | some (some d) => .ok d S
 | _ => .bad
theorem qXD {i j} : PE X (.Constant (.int i) j pos) (tD X (dC (.int i))):=peW qYS fun σ H Q ⟨P,α,env,S,r,re,af⟩ => xr af r (by simp only [Rep])
theorem qZF {i j} : PE X (.Constant (.bool i) j pos) (tD X (dC (.bl i))):=peW qZo fun σ H Q ⟨P,α,env,S,r,re,af⟩ => xr af r (by simp only [Rep])
theorem qXH {i j} : PE X (.Constant (.str i) j pos) (tD X (dC (.str i))):=peW qYV fun σ H Q ⟨P,α,env,S,r,re,af⟩ => xr af r (by simp only [Rep])
theorem qXE {j} : PE X (.Constant .none j pos) (tD X (dC .non)):=peW qYT fun σ H Q ⟨P,α,env,S,r,re,af⟩ => xr af r (by simp only [Rep])
set_option tactic.hygienic true in
theorem qWd {i : Nat} {σ : _L.St} {H : Hp} {Q : VK} (h : tD X (qAD i) σ H Q) : qYy i σ H Q:=by
 obtain ⟨P,α,env,S,r,re,af⟩:=h
 unfold qAD at af
 split at af
 ·rename_i d q
  obtain ⟨v,h1,h2⟩:=re.2 i d q
  exact ⟨v,h1,xr af r h2⟩
 ·exact False.elim af
theorem dv (i : Nat) {x : Str} (hN : autoParam (X.N[i]? = some x) au3._auto_1) (hv : Vis X.env.scope x:=by first | exact Or.inl rfl | exact Or.inr (Or.inl rfl) | exact Or.inr (Or.inr rfl)) (hd : (x == ("__debug__" : Str)) = false:=by decide)
  (hcd : autoParam ((x == ("__classdict__" : Str)) = false) au2._auto_1) : PE X (.Name x pos) (tD X (qAD i)):=peW (qYX hN hv hd hcd) fun σ H Q h => qWd h
theorem qQV {x : Str} {d : D} {v : V} {u : Value} (hg : Gl X x) (hm : X.mg x = some u) (r : qAY v u) (q : ∀ P α,Rep X.K P α d v) (hd : autoParam ((x == ("__debug__" : Str)) = false) au2._auto_1) : PE X (.Name x pos) (tD X (dC d)) :=
 peW (qWE hg hm r hd) fun σ H Q ⟨P,α,env,S,r,re,af⟩ => xr af r (q _ _)
theorem qVJ {x : Str} {n : String} (hg : Gl X x) (hm : X.mg x = none) (hv : bootBuiltins x = some (.type n)) (hn : autoParam (x ≠ "__name__") au2._auto_1) (hd : autoParam ((x == ("__debug__" : Str)) = false) au2._auto_1) : PE X (.Name x pos) (tD X (dC (.ty n))) :=
 peW (qWD (v:=.ty n) hg hm hv rfl hn hd) fun σ H Q ⟨P,α,env,S,r,re,af⟩ => xr af r (by simp only [Rep])
abbrev G2:=D → D → Sto → Res D
noncomputable def OpD (X : Cx) (f : Value → Value → Sem Value) (g : G2) : Prop :=
 ∀ (pins : List (Addr × Obj)) (σ : _L.St) (H : Hp) (s : Shared) (P : Hp) (α : List Addr) (S : Sto) (v u : V) (vv uu : Value) (a b : D) (Q : VK),Inv X pins σ H s → Rel X.K H P α S → qAY v vv → qAY u uu → Rep X.K P α a v → Rep X.K P α b u → qAr X P α (g a b S) Q →
  wpAny (model X.prog X.w) X.A (f vv uu) (EP X pins σ Q) X.xe s
theorem OpD.of {f : Value → Value → Sem Value} {r : R2} {g : G2} (h : OpR X f r) (w : ∀ H P α S v u a b Q,Rel X.K H P α S → Rep X.K P α a v → Rep X.K P α b u → qAr X P α (g a b S) Q → r v u H Q) : OpD X f g :=
 fun pins σ H s P α S v u vv uu a b Q I rl r1 r2 p1 p2 af => h pins s σ H v u vv uu Q I r1 r2 (w H P α S v u a b Q rl p1 p2 af)
noncomputable def UnD (X : Cx) (f : Value → Sem Value) (g : D → Sto → Res D) : Prop :=
 ∀ (pins : List (Addr × Obj)) (σ : _L.St) (H : Hp) (s : Shared) (P : Hp) (α : List Addr) (S : Sto) (v : V) (vv : Value) (a : D) (Q : VK),Inv X pins σ H s → Rel X.K H P α S → qAY v vv → Rep X.K P α a v → qAr X P α (g a S) Q →
  wpAny (model X.prog X.w) X.A (f vv) (EP X pins σ Q) X.xe s
noncomputable def IxD (X : Cx) (g : G2) : Prop :=
 ∀ (value slice : Expr) (pins : List (Addr × Obj)) (σ : _L.St) (H : Hp) (s : Shared) (P : Hp) (α : List Addr) (S : Sto) (v u : V) (vv uu : Value) (a b : D) (Q : VK),Inv X pins σ H s → Rel X.K H P α S → qAY v vv → qAY u uu → Rep X.K P α a v → Rep X.K P α b u → qAr X P α (g a b S) Q →
  subscripted slice false vv uu = operate [vv,uu] (getItem vv uu) → wpAny (model X.prog X.w) X.A (subscriptTail value slice vv uu) (EP X pins σ Q) X.xe s
noncomputable def qEN (X : Cx) (f : Value) (g : List D → Sto → Res D) : Prop :=
 ∀ (pins : List (Addr × Obj)) (σ : _L.St) (H : Hp) (s : Shared) (P : Hp) (α : List Addr) (S : Sto) (vs : List V) (us : List Value) (ds : List D) (Q : VK),Inv X pins σ H s → Rel X.K H P α S → qAZ vs us → qAL X.K P α ds vs → qAr X P α (g ds S) Q →
  wpAny (model X.prog X.w) X.A (call f us) (EP X pins σ Q) X.xe s
noncomputable def d2 (g : G2) (fa fb : DE) : DE:=fun env S => (fa env S).bind fun x S1 => (fb env S1).bind fun y S2 => g x y S2
noncomputable def d1 (g : D → Sto → Res D) (fa : DE) : DE:=fun env S => (fa env S).bind g
variable {fa fb : DE}
theorem qO3 {g : G2} {f : Value → Value → Sem Value} {pins : List (Addr × Obj)} {s : Shared} {σ : _L.St} {H : Hp} {Q : VK} (ho : OpD X f g) (ha : PE X a (tD X fa)) (hb : PE X b (tD X fb)) (I : Inv X pins σ H s) (h : tD X (d2 g fa fb) σ H Q) :
  wpAny (model X.prog X.w) X.A (eval a X.env) (fun v s₁ => wpAny (model X.prog X.w) X.A (eval b X.env) (fun u s₂ => wpAny (model X.prog X.w) X.A (f v u) (EP X pins σ Q) X.xe s₂) X.xe s₁) X.xe s:=by
 obtain ⟨P,α,env,S,r,re,af⟩:=h
 refine thn (qBr ha I r re af) fun vv s1 ⟨v,H1,P1,α1,d,S1,G1,af1⟩ => ?_
 refine thn (qBr hb G1.inv G1.rel G1.env (P:=P1) (α:=α1) (Ok:=OkV X P1 α1 Q) (g:=fun y S2 => g d y S2) ?_) fun uu s2 ⟨u,H2,P2,α2,d',S2,G2,af2⟩ => ?_
 ·exact qAr.base G1.same G1.pre af1
 ·exact ho pins σ H2 s2 P2 α2 S2 v u vv uu d d' Q G2.inv G2.rel G1.val G2.val (Rep.mono G2.same G2.pre _ _ G1.rep) G2.rep (qAr.base G2.same G2.pre af2)
theorem qZH {op : Operator} {g : G2} (ho : OpD X (binaryOp op) g) (ha : PE X a (tD X fa)) (hb : PE X b (tD X fb)) : PE X (.BinOp a op b pos) (tD X (d2 g fa fb)) :=
 fun pins s σ H Q I h => wpAny_BinOp (qO3 ho ha hb I h)
theorem qXA {op : CmpOp} {g : G2} (ho : OpD X (compareOp op) g) (ha : PE X a (tD X fa)) (hb : PE X b (tD X fb)) (hm : autoParam (behindInMarks op b = false) au5._auto_1) : PE X (.Compare a [op] [b] pos) (tD X (d2 g fa fb)) :=
 fun pins s σ H Q I h => wpAny_Compare1 (qO3 ho ha hb I h) hm
theorem qZI {op : UnaryOp} {g : D → Sto → Res D} (ho : UnD X (unaryOp op) g) (ha : PE X a (tD X fa)) : PE X (.UnaryOp op a pos) (tD X (d1 g fa)):=by
 intro pins s σ H Q I h
 obtain ⟨P,α,env,S,r,re,af⟩:=h
 exact UnaryOp_ (thn (qBr ha I r re af) fun vv s1 ⟨v,H1,P1,α1,d,S1,G1,af1⟩ => ho pins σ H1 s1 P1 α1 S1 v vv d Q G1.inv G1.rel G1.val G1.rep (qAr.base G1.same G1.pre af1))
theorem qUl {g : G2} (ho : IxD X g) (ha : PE X a (tD X fa)) (hb : PE X b (tD X fb)) (hs : autoParam (qIS b) au6._auto_1) : PE X (.Subscript a b pos) (tD X (d2 g fa fb)):=by
 intro pins s σ H Q I h
 obtain ⟨P,α,env,S,r,re,af⟩:=h
 have IxR' : IxR X (fun x y H Q => ∃ P α S a b,Rel X.K H P α S ∧ Rep X.K P α a x ∧ Rep X.K P α b y ∧ qAr X P α (g a b S) Q):=fun value slice pins s σ H x y v u Q I rx ry ⟨P,α,S,a,b,r,p1,p2,af⟩ hsl =>
  ho value slice pins σ H s P α S x y v u a b Q I r rx ry p1 p2 af hsl
 refine peW (qZp IxR' ha hb hs) (t':=tD X (d2 g fa fb)) (fun σ H Q h => ?_) pins s σ H Q I ⟨P,α,env,S,r,re,af⟩
 obtain ⟨P,α,env,S,r,re,af⟩:=h
 refine ⟨P,α,env,S,r,re,?_⟩
 unfold d2 at af
 cases q : fa env S with
 | bad => rw [q] at af; exact af
 | ex c x S' => rw [q] at af; exact af
 | ok d S1 =>
  rw [q] at af
  intro v H1 P1 α1 r1 e1 e2 rp
  refine ⟨P1,α1,env,S1,r1,re.mono e1 e2,?_⟩
  have af' : qAr X P α ((fb env S1).bind fun y S2 => g d y S2) Q:=af
  cases q2 : fb env S1 with
  | bad => rw [q2] at af'; exact af'
  | ex c x S' => rw [q2] at af'; exact fun u s' z => af' u s' (z.base e1 e2)
  | ok d' S2 =>
   rw [q2] at af'
   intro u H2 P2 α2 r2 e3 e4 rp2
   exact ⟨P2,α2,S2,d,d',r2,Rep.mono e3 e4 _ _ rp,rp2,qAr.base (e1.trans e3) (e2.trans e4) af'⟩
noncomputable def qAF : DA:=fun _ S => .ok [] S
noncomputable def qAA (f : DE) (g : DA) : DA:=fun env S => (f env S).bind fun x S1 => (g env S1).bind fun xs S2 => .ok (x :: xs) S2
theorem qRv : PA X [] (tDA X qAF):=paW qYR fun σ H Q ⟨P,α,env,S,r,re,af⟩ => af [] H P α r (qAK.refl _) (List.prefix_refl _) .nil
theorem qQU {es : List Expr} {g : DA} (ha : PE X e (tD X fa)) (hr : PA X es (tDA X g)) (hs : autoParam (starEach (e :: es) X.env = (false,eval e X.env) :: starEach es X.env) au3._auto_1) : PA X (e :: es) (tDA X (qAA fa g)):=by
 intro pos pins s σ H Q I h
 obtain ⟨P,α,env,S,r,re,af⟩:=h
 rw [hs]
 show wpAny _ _ (spliced ((false,eval e X.env) :: backTo pos (starEach es X.env))) _ _ s
 refine Calls.spliced_cons (thn (qBr ha I r re af) fun u s1 ⟨x,H1,P1,α1,d,S1,G1,af1⟩ => ?_)
 refine thn (qDL hr G1.inv G1.rel G1.env (P:=P1) (α:=α1) (Ok:=OkA X P1 α1 Q) (qJ2.base G1.same G1.pre af1) pos) fun us s2 ⟨xs,H2,P2,α2,ds,S2,I2,rv,r2,re2,rp2,e1,e2,af2⟩ => ?_
 exact ⟨x :: xs,H2,I2,.cons G1.val rv,af2 _ _ _ _ r2 e1 e2 (.cons (Rep.mono e1 e2 _ _ G1.rep) rp2)⟩
noncomputable def lim : Nat:=16777216
theorem qBR : lim = sizeLine:=sizeLine_eq.symm
noncomputable def qAu (f : DA) : DE:=fun env S => (f env S).bind fun xs S1 => if xs.length ≤ lim then .ok (.tup xs) S1 else .bad
noncomputable def qBK (f : DA) : DE:=fun env S => (f env S).bind fun xs S1 => if xs.length ≤ lim then .ok (.lst xs) S1 else .bad
noncomputable def qKY (f : DA) : DE:=fun env S => (f env S).bind fun xs S1 => if xs.length ≤ lim then .ok (.loc S1.length) (S1 ++ [.lst xs]) else .bad
theorem qNU {K : PySem.W.Frag} {P : Hp} {α : List Addr} {a : Addr} {ds : List D} {vs : List V} (h : SqT K P a vs) (r : qAL K P α ds vs) : Rep K P α (.tup ds) (.ref a):=by simp only [Rep]; exact ⟨a,vs,rfl,h,r⟩
theorem qNT {K : PySem.W.Frag} {P : Hp} {α : List Addr} {a : Addr} {ds : List D} {vs : List V} (h : SqX K P a vs) (r : qAL K P α ds vs) : Rep K P α (.lst ds) (.ref a):=by simp only [Rep]; exact ⟨a,vs,rfl,h,r⟩
theorem qHb {H P : Hp} {α : List Addr} {S : Sto} {p : Addr} {ds : List D} {vs : List V} {Q : VK} (r : Rel X.K H P α S) (hp : H p = none) (rp : qAL X.K P α ds vs) (af : OkV X P α Q (.tup ds) S) : Q (.ref p) (upd H p (.tup vs)):=by
 obtain ⟨r1,e1⟩:=r.pure (o:=.tup vs) hp
 exact af _ _ _ α r1 e1 (List.prefix_refl _) (qNU (.of qAz) (qAL.mono e1 (List.prefix_refl _) _ _ rp))
theorem qHa {H P : Hp} {α : List Addr} {S : Sto} {p : Addr} {ds : List D} {vs : List V} {Q : VK} (r : Rel X.K H P α S) (hp : H p = none) (rp : qAL X.K P α ds vs) (af : OkV X P α Q (.lst ds) S) : Q (.ref p) (upd H p (.lst vs)):=by
 obtain ⟨r1,e1⟩:=r.pure (o:=.lst vs) hp
 exact af _ _ _ α r1 e1 (List.prefix_refl _) (qNT (.inl (.inl qAz)) (qAL.mono e1 (List.prefix_refl _) _ _ rp))
theorem qQo {H P : Hp} {α : List Addr} {S : Sto} {p : Addr} {ds : List D} {vs : List V} {Q : VK} (r : Rel X.K H P α S) (hp : H p = none) (rp : qAL X.K P α ds vs) (af : OkV X P α Q (.loc S.length) (S ++ [.lst ds])) : Q (.ref p) (upd H p (.lst vs)):=by
 have hpre : α <+: α ++ [p]:=List.prefix_append _ _
 have r1:=r.new (o:=.lst vs) (m:=.lst ds) hp ⟨vs,qAz,qAL.mono (qAK.refl _) hpre _ _ rp⟩
 refine af _ _ _ _ r1 (qAK.refl _) hpre ?_
 simp only [Rep]
 exact ⟨p,rfl,by rw [← r.len]; simp⟩
theorem qM5 {f : DA} {σ : _L.St} {H : Hp} {Q : VK} {G : List D → Sto → Res D} {mk : List V → HO} (h : tD X (fun env S => (f env S).bind fun xs S1 => if xs.length ≤ lim then G xs S1 else .bad) σ H Q)
  (k : ∀ H1 P1 α1 S1 ds vs p,Rel X.K H1 P1 α1 S1 → H1 p = none → qAL X.K P1 α1 ds vs → qAr X P1 α1 (G ds S1) Q → Q (.ref p) (upd H1 p (mk vs))) :
  tDA X f σ H fun vs H1 => vs.length ≤ sizeLine ∧ ∀ p,H1 p = none → Q (.ref p) (upd H1 p (mk vs)):=by
 obtain ⟨P,α,env,S,r,re,af⟩:=h
 refine ⟨P,α,env,S,r,re,?_⟩
 have af' : qAr X P α ((f env S).bind fun xs S1 => if xs.length ≤ lim then G xs S1 else .bad) Q:=af
 cases q : f env S with
 | bad => rw [q] at af'; exact af'
 | ex c x S' => rw [q] at af'; exact af'
 | ok ds S1 =>
  rw [q] at af'
  intro vs H1 P1 α1 r1 e1 e2 rp
  have af2 : qAr X P α (if ds.length ≤ lim then G ds S1 else .bad) Q:=af'
  by_cases hl : ds.length ≤ lim
  ·rw [if_pos hl] at af2
   exact ⟨by rw [← rp.length,← qBR]; exact hl,fun p hp => k H1 P1 α1 S1 ds vs p r1 hp rp (qAr.base e1 e2 af2)⟩
  ·rw [if_neg hl] at af2; exact False.elim af2
theorem qXJ {es : List Expr} {f : DA} {x1} (h : PA X es (tDA X f)) : PE X (.Tuple es x1 pos) (tD X (qAu f)) :=
 peW (qYW h) fun σ H Q q => qM5 (G:=fun xs S1 => .ok (.tup xs) S1) (mk:=.tup) q fun H1 P1 α1 S1 ds vs p r hp rp af => qHb r hp rp af
theorem qR5 {es : List Expr} {f : DA} (h : PA X es (tDA X f)) : PE X (.List es pos) (tD X (qBK f)) :=
 peW (qSl h) fun σ H Q q => qM5 (G:=fun xs S1 => .ok (.lst xs) S1) (mk:=.lst) q fun H1 P1 α1 S1 ds vs p r hp rp af => qHa r hp rp af
theorem qVM {es : List Expr} {f : DA} (h : PA X es (tDA X f)) : PE X (.List es pos) (tD X (qKY f)) :=
 peW (qSl h) fun σ H Q q => qM5 (G:=fun xs S1 => .ok (.loc S1.length) (S1 ++ [MO.lst xs])) (mk:=.lst) q fun H1 P1 α1 S1 ds vs p r hp rp af => qQo r hp rp af
end
end _D
end
section
namespace _D
open PySem PySem.Spec PyProof.Rows _L
section
variable {X : Cx} {a b c e : Expr} {pos : Pos} {fa fb fc : DE} {ta tb : DT}
noncomputable def qDV : D → Sto → Option Bool
 | .non,_ => some false
 | .bl b,_ => some b
 | .int i,_ => some (i != 0)
 | .str x,_ => if x.length ≤ lim then some ((x.length : Int) != 0) else none
 | .tup xs,_ => some (!xs.isEmpty)
 | .lst xs,_ => some (!xs.isEmpty)
 | .dct0,_ => some false
 | .loc i,S => match S[i]? with
  | some (.lst xs) => some (!xs.isEmpty)
  | some (.dct kvs) => some (!kvs.isEmpty)
  | _ => none
 | _,_ => none
theorem qAL.isEmpty {K : PySem.W.Frag} {P : Hp} {α : List Addr} {ds : List D} {vs : List V} (r : qAL K P α ds vs) : (!ds.isEmpty) = !vs.isEmpty:=by
 cases ds with
 | nil => rw [r.nil_inv]; rfl
 | cons d ds => obtain ⟨w,ws,rfl,_,_⟩:=r.cons_inv; rfl
theorem qC0 {K : PySem.W.Frag} {H P : Hp} (e : qAK P H) {a : Addr} {xs : List V} (h : SqT K P a xs) : SqT K H a xs:=qEi e h
theorem qI3 {H P : Hp} {α : List Addr} {S : Sto} {v : V} {d : D} {k : Bool} (r : Rel X.K H P α S) (p : Rep X.K P α d v) (h : qDV d S = some k) : qQ9 X.K v H k:=by
 cases d with
 | non => simp only [Rep] at p; subst p; cases h; rfl
 | bl b => simp only [Rep] at p; subst p; cases h; rfl
 | int i => simp only [Rep] at p; subst p; cases h; rfl
 | str x =>
  simp only [Rep] at p; subst p
  obtain ⟨hl,rfl⟩:=qJO h
  exact ⟨by rw [← qBR]; exact hl,rfl⟩
 | tup xs =>
  simp only [Rep] at p
  obtain ⟨a,vs,rfl,q,t⟩:=p
  cases h
  exact .inr (.inl ⟨vs,qC0 r.sub q,t.isEmpty⟩)
 | lst xs =>
  simp only [Rep] at p
  obtain ⟨a,vs,rfl,q,t⟩:=p
  cases h
  exact .inl ⟨vs,(qCO r.sub q).l,t.isEmpty⟩
 | dct0 =>
  simp only [Rep] at p
  obtain ⟨a,rfl,q⟩:=p
  cases h
  exact .inr (.inr ⟨[],r.sub _ _ q,rfl⟩)
 | loc i =>
  simp only [Rep] at p
  obtain ⟨a,rfl,q⟩:=p
  have h : (match S[i]? with | some (.lst xs) => some (!xs.isEmpty) | some (.dct kvs) => some (!kvs.isEmpty) | _ => none) = some k:=h
  cases hs : S[i]? with
  | none => rw [hs] at h; exact nn h
  | some m =>
   rw [hs] at h
   cases m with
   | lst xs =>
    cases h
    obtain ⟨vs,z,t⟩:=r.at' i a _ q hs
    exact .inl ⟨vs,.of z,t.isEmpty⟩
   | dct kvs =>
    cases h
    obtain ⟨vs,z,t⟩:=r.at' i a _ q hs
    refine .inr (.inr ⟨vs,z,?_⟩)
    cases t <;> rfl
   | _ => exact nn h
 | ty n => exact nn h
 | obj a => exact nn h
 | exn c => exact nn h
 | fd ks ds => exact nn h
theorem qZ5 {pins : List (Addr × Obj)} {s : Shared} {σ : _L.St} {H P : Hp} {α : List Addr} {S : Sto} {v : V} {vv : Value} {d : D} {k : Bool} {Q : Bool → Hp → Prop} (I : Inv X pins σ H s) (r : Rel X.K H P α S) (rv : qAY v vv) (p : Rep X.K P α d v) (h : qDV d S = some k) (q : Q k H) :
  wpAny (model X.prog X.w) X.A (truthy vv) (TP X pins σ Q) X.xe s:=qMX pins s σ H v vv Q I rv ⟨k,qI3 r p h,q⟩
noncomputable def qGJ (o : Option Bool) (S : Sto) : Res Bool:=match o with
 | some b => .ok b S
 | none => .bad
noncomputable def dTr (f : DE) : DT:=fun env S => (f env S).bind fun d S1 => qGJ (qDV d S1) S1
theorem qQz {o : Option Bool} {S : Sto} {P : Hp} {α : List Addr} {Ok : Bool → Sto → Prop} (h : qAR X P α (qGJ o S) Ok) : ∃ b,o = some b ∧ Ok b S:=by
 cases o with
 | none => exact False.elim h
 | some b => exact ⟨b,rfl,h⟩
theorem qXa (ha : PE X a (tD X fa)) (he : autoParam (∀ whole,isTrue a X.env whole = (do let v ← whole; standAt a.pos; holding [v] (truthy v))) au4._auto_1) : PT X a (tDT X (dTr fa)):=by
 intro pins s σ H Q I h
 obtain ⟨P,α,env,S,r,re,af⟩:=h
 refine isTrue_plain (thn (qBr ha I r re af) fun vv s1 ⟨v,H1,P1,α1,d,S1,G1,af1⟩ => ?_) (he _)
 obtain ⟨k,e1,q⟩:=qQz af1
 exact qZ5 G1.inv G1.rel G1.val G1.rep e1 (q H1 P1 α1 G1.rel G1.same G1.pre)
theorem qXY {op : CmpOp} {g : G2} (ho : OpD X (compareOp op) g) (ha : PE X a (tD X fa)) (hb : PE X b (tD X fb)) (hm : autoParam (behindInMarks op b = false) au5._auto_1) : PT X (.Compare a [op] [b] pos) (tDT X (dTr (d2 g fa fb))):=by
 intro pins s σ H Q I h
 obtain ⟨P,α,env,S,r,re,af⟩:=h
 refine wpAny_isTrue_Compare1 ?_ hm
 have key : tD X (d2 g fa fb) σ H (fun v H1 => ∃ k,qQ9 X.K v H1 k ∧ Q k H1):=by
  refine ⟨P,α,env,S,r,re,?_⟩
  have af' : qAR X P α ((d2 g fa fb env S).bind fun d S1 => qGJ (qDV d S1) S1) (OkT X P α Q):=af
  cases q : d2 g fa fb env S with
  | bad => rw [q] at af'; exact af'
  | ex c x S' => rw [q] at af'; exact af'
  | ok d S1 =>
   rw [q] at af'
   obtain ⟨k,e1,qk⟩:=qQz (X:=X) af'
   exact fun v H1 P1 α1 r1 e3 e4 rp => ⟨k,qI3 r1 rp e1,qk H1 P1 α1 r1 e3 e4⟩
 exact thn (qO3 ho ha hb I key) fun v s1 h1 => thn h1 fun u s2 h2 => thn h2 fun x s3 ⟨y,H3,I3,r3,k,tk,qk⟩ => qMX pins s3 σ H3 y x Q I3 r3 ⟨k,tk,qk⟩
noncomputable def qO4 (g g' : G2) (fa fb fc : DE) : DE:=fun env S => (fa env S).bind fun x S1 => (fb env S1).bind fun y S2 => (g x y S2).bind fun z S3 =>
 match qDV z S3 with
 | some true => (fc env S3).bind fun w S4 => g' y w S4
 | some false => .ok z S3
 | none => .bad
inductive GotO (X : Cx) (pins : List (Addr × Obj)) (σ : _L.St) (P : Hp) (α : List Addr) (w : Value) (s1 : Shared) {γ : Type} (k : D → Sto → Res γ) (Ok : γ → Sto → Prop) : Prop
 | mk (y : V) (H1 P1 : Hp) (α1 : List Addr) (d : D) (S1 : Sto) (I : Inv X pins σ H1 s1) (rv : qAY y w) (r : Rel X.K H1 P1 α1 S1) (rp : Rep X.K P1 α1 d y) (e1 : qAK P P1) (e2 : α <+: α1) (q : qAR X P α (k d S1) Ok) : GotO X pins σ P α w s1 k Ok
theorem qYK {γ : Type} {f : Value → Value → Sem Value} {g : G2} {k : D → Sto → Res γ} {Ok : γ → Sto → Prop} {pins : List (Addr × Obj)} {σ : _L.St} {H : Hp} {s : Shared} {P : Hp} {α : List Addr} {S : Sto} {v u : V} {vv uu : Value} {a b : D} (ho : OpD X f g) (I : Inv X pins σ H s) (r : Rel X.K H P α S)
  (rv : qAY v vv) (ru : qAY u uu) (pa : Rep X.K P α a v) (pb : Rep X.K P α b u) (af : qAR X P α ((g a b S).bind k) Ok) :
  wpAny (model X.prog X.w) X.A (f vv uu) (fun w s1 => GotO X pins σ P α w s1 k Ok) X.xe s:=by
 refine thn (ho pins σ H s P α S v u vv uu a b (fun y H1 => ∃ P1 α1 d S1,Rel X.K H1 P1 α1 S1 ∧ Rep X.K P1 α1 d y ∧ qAK P P1 ∧ α <+: α1 ∧ qAR X P α (k d S1) Ok) I r rv ru pa pb ?_) fun w s1 ⟨y,H1,I1,r1,P1,α1,d,S1,q1,q2,q3,q4,q5⟩ => ⟨y,H1,P1,α1,d,S1,I1,r1,q1,q2,q3,q4,q5⟩
 cases q : g a b S with
 | bad => rw [q] at af; exact af
 | ex c x S' => rw [q] at af; exact af
 | ok d S' =>
  rw [q] at af
  exact fun v H' P' α' r' e1 e2 rp => ⟨P',α',d,S',r',rp,e1,e2,af⟩
theorem qAR.base' {β : Type} {P P1 : Hp} {α α1 : List Addr} {r : Res β} {Ok Ok1 : β → Sto → Prop} (e : qAK P P1) (h : α <+: α1) (ho : ∀ d S,Ok d S → Ok1 d S) (k : qAR X P α r Ok) : qAR X P1 α1 r Ok1:=by
 cases r with
 | ok d S => exact ho d S k
 | ex c x S => exact fun u s' q => k u s' (q.base e h)
 | bad => exact k
theorem qTb {op op' : CmpOp} {g g' : G2} (ho : OpD X (compareOp op) g) (ho' : OpD X (compareOp op') g') (ha : PE X a (tD X fa)) (hb : PE X b (tD X fb)) (hc : PE X c (tD X fc))
  (hm : autoParam (lastMarks [op,op'] [b,c] = false) au7._auto_1) : PE X (.Compare a [op,op'] [b,c] pos) (tD X (qO4 g g' fa fb fc)):=by
 intro pins s σ H Q I h
 obtain ⟨P,α,env,S,r,re,af⟩:=h
 refine Compare_chain (thn (qBr ha I r re af) fun vv s1 ⟨v,H1,P1,α1,d,S1,G1,af1⟩ => chain_link (thn (qBr hb G1.inv G1.rel G1.env (qAr.base G1.same G1.pre af1)) fun uu s2 ⟨u,H2,P2,α2,d',S2,G2,af2⟩ =>
  thn (qYK ho G2.inv G2.rel G1.val G2.val (Rep.mono G2.same G2.pre _ _ G1.rep) G2.rep (qAr.base G2.same G2.pre af2)) fun w s3 ⟨y,H3,P3,α3,z,S3,I3,r3,rl3,rp3,e3,e4,af3⟩ => ?_)) hm
 cases ht : qDV z S3 with
 | none => simp only [ht] at af3; exact False.elim af3
 | some k =>
  simp only [ht] at af3
  have tv:=qI3 rl3 rp3 ht
  refine thn (qMX pins s3 σ H3 y w (fun k' H' => k' = k ∧ H' = H3) I3 r3 ⟨k,tv,rfl,rfl⟩) fun k' s4 ⟨H4,I4,hk,hH⟩ => ?_
  subst hk; subst hH
  cases k' with
  | false => exact ite_ff ⟨y,H4,I4,r3,af3 y H4 P3 α3 rl3 e3 e4 rp3⟩
  | true =>
   refine ite_tt (chain_last (thn (qBr hc I4 rl3 (G2.env.mono e3 e4) (qAr.base e3 e4 af3)) fun ww s5 ⟨w',H5,P5,α5,d5,S5,G5,af5⟩ => ?_))
   exact ho' pins σ H5 s5 P5 α5 S5 u w' uu ww d' d5 Q G5.inv G5.rel G2.val G5.val (Rep.mono (e3.trans G5.same) (e4.trans G5.pre) _ _ G2.rep) G5.rep (qAr.base G5.same G5.pre af5)
noncomputable def qDt (t : DT) : DT:=fun env S => (t env S).bind fun b S1 => .ok (!b) S1
noncomputable def qE1 (t u : DT) : DT:=fun env S => (t env S).bind fun b S1 => if b then u env S1 else .ok false S1
noncomputable def qF9 (t u : DT) : DT:=fun env S => (t env S).bind fun b S1 => if b then .ok true S1 else u env S1
theorem qXZ (ha : PT X a (tDT X ta)) : PT X (.UnaryOp .Not a pos) (tDT X (qDt ta)):=by
 intro pins s σ H Q I h
 obtain ⟨P,α,env,S,r,re,af⟩:=h
 refine isTrue_not (thn (qLs (fun Q' q => ha pins s σ H Q' I q) r re af) fun b s1 ⟨H1,P1,α1,S1,I1,r1,re1,e1,e2,af1⟩ => ⟨H1,I1,af1 H1 P1 α1 r1 e1 e2⟩)
noncomputable def PWD (X : Cx) (e : Expr) (t : DT) : Prop:=PW X e (tDT X t)
theorem PWD.pt {t : DT} (h : PWD X e t) : PT X e (tDT X t):=h _
theorem qXb (ha : PT X a (tDT X ta)) : PWD X (.BoolOp .Or [a] pos) ta:=qYi ha
theorem qZP {rest : List Expr} (ha : PT X a (tDT X ta)) (hb : PWD X (.BoolOp .Or (b :: rest) pos) tb) : PWD X (.BoolOp .Or (a :: b :: rest) pos) (qF9 ta tb):=by
 intro wh pins s σ H Q I h
 obtain ⟨P,α,env,S,r,re,af⟩:=h
 refine isTrue_or (thn (qLs (fun Q' q => ha pins s σ H Q' I q) r re af) fun k s1 ⟨H1,P1,α1,S1,I1,r1,re1,e1,e2,af1⟩ => ?_)
 cases k with
 | true => exact ⟨H1,I1,af1 H1 P1 α1 r1 e1 e2⟩
 | false => exact hb wh pins s1 σ H1 Q I1 ⟨P1,α1,env,S1,r1,re1,qIR.base e1 e2 af1⟩
noncomputable def qIE (f g : DE) : DE:=fun env S => (f env S).bind fun x S1 => match qDV x S1 with
 | some true => g env S1
 | some false => .ok x S1
 | none => .bad
noncomputable def qTV (f : DE) : DE:=fun env S => (f env S).bind fun x S1 => match qDV x S1 with
 | some b => .ok (.bl (!b)) S1
 | none => .bad
theorem qXG {op} (h : PE X a (tD X fa)) : PE X (.BoolOp op [a] pos) (tD X fa):=qYU h
theorem qY3 {pins : List (Addr × Obj)} {s : Shared} {σ : _L.St} {H : Hp} {v : V} {vv : Value} {k : Bool} {R : Bool → Shared → Prop} (I : Inv X pins σ H s) (rv : qAY v vv) (t : qQ9 X.K v H k) (h : ∀ s',Inv X pins σ H s' → R k s') :
  wpAny (model X.prog X.w) X.A (truthy vv) R X.xe s:=thn (qMX pins s σ H v vv (fun k' H' => k' = k ∧ H' = H) I rv ⟨k,t,rfl,rfl⟩) fun k' s4 ⟨H4,I4,hk,hH⟩ => by subst hk; subst hH; exact h s4 I4
theorem qW8 {rest : List Expr} (ha : PE X a (tD X fa)) (hb : PE X (.BoolOp .And (b :: rest) pos) (tD X fb)) : PE X (.BoolOp .And (a :: b :: rest) pos) (tD X (qIE fa fb)):=by
 intro pins s σ H Q I h
 obtain ⟨P,α,env,S,r,re,af⟩:=h
 refine BoolOp_and (thn (qBr ha I r re af) fun vv s1 ⟨v,H1,P1,α1,d,S1,G1,af1⟩ => ?_)
 cases ht : qDV d S1 with
 | none => simp only [ht] at af1; exact False.elim af1
 | some k =>
  simp only [ht] at af1
  refine qY3 G1.inv G1.val (qI3 G1.rel G1.rep ht) fun s2 I2 => ?_
  cases k with
  | true => exact hb pins s2 σ H1 Q I2 ⟨P1,α1,env,S1,G1.rel,G1.env,qAr.base G1.same G1.pre af1⟩
  | false => exact ⟨v,H1,I2,G1.val,af1 v H1 P1 α1 G1.rel G1.same G1.pre G1.rep⟩
theorem qXF (ha : PE X a (tD X fa)) : PE X (.UnaryOp .Not a pos) (tD X (qTV fa)):=by
 intro pins s σ H Q I h
 obtain ⟨P,α,env,S,r,re,af⟩:=h
 refine UnaryOp_ (thn (qBr ha I r re af) fun vv s1 ⟨v,H1,P1,α1,d,S1,G1,af1⟩ => ?_)
 cases ht : qDV d S1 with
 | none => simp only [ht] at af1; exact False.elim af1
 | some k =>
  simp only [ht] at af1
  exact not_of (qY3 G1.inv G1.val (qI3 G1.rel G1.rep ht) fun s2 I2 => ⟨.bl (!k),H1,I2,rfl,af1 (.bl (!k)) H1 P1 α1 G1.rel G1.same G1.pre (by simp only [Rep])⟩)
end
end _D
end
section
namespace _D
open PySem PySem.Spec PyProof.Rows _L
noncomputable def Res.toS {β : Type} (env : qAH) (r : Res β) (k : β → Sto → Out) : Out :=
 match r with
 | .ok d S => k d S
 | .ex c x S => .ex c x env S
 | .bad => .bad
section
variable {X : Cx} {a b c e : Expr} {pos : Pos} {fa fb fc : DE} {ta tb : DT} {f g : DS} {st : Stmt} {rest : List Stmt}
noncomputable def qBQ : DS:=fun env S => .nx env S
noncomputable def qAc (f g : DS) : DS:=fun env S => match f env S with
 | .nx env1 S1 => g env1 S1
 | o => o
theorem qXS : PSs X [] (tDS X qBQ):=qYh qWL fun D σ H ⟨P,α,env,S,r,re,af⟩ => af σ H P α r re (qAK.refl _) (List.prefix_refl _)
theorem qVW (h1 : PS X st (tDS X f)) (h2 : PSs X rest (tDS X g)) : PSs X (st :: rest) (tDS X (qAc f g)):=qYh (qUH h1 h2) fun D σ H ⟨P,α,env,S,r,re,af⟩ => by
 refine ⟨P,α,env,S,r,re,?_⟩
 unfold qAc at af
 cases q : f env S with
 | nx env1 S1 =>
  rw [q] at af
  exact fun σ' H' P' α' r' re' e1 e2 => ⟨P',α',env1,S1,r',re',qAf.base e1 e2 af⟩
 | rt d S1 => rw [q] at af; exact af
 | bk env1 S1 => rw [q] at af; exact af
 | ct env1 S1 => rw [q] at af; exact af
 | ex c x env1 S1 => rw [q] at af; exact af
 | bad => rw [q] at af; exact af
theorem qXT (h1 : PS X st (tDS X f)) : PSs X [st] (tDS X f):=qWM h1
theorem qBk {β : Type} {P : Hp} {α : List Addr} {env : qAH} {r : Res β} {k : β → Sto → Out} {D : Ends} (h : qAf X P α (r.toS env k) D) : qAR X P α r fun d S => qAf X P α (k d S) D:=by
 cases r with
 | ok d S => exact h
 | ex c x S => exact h
 | bad => exact h
inductive GotS (X : Cx) (pins : List (Addr × Obj)) (σ : _L.St) (env : qAH) (P : Hp) (α : List Addr) (u : Value) (s1 : Shared) (k : D → Sto → Out) (E : Ends) : Prop
 | mk (v : V) (H1 P1 : Hp) (α1 : List Addr) (d : D) (S1 : Sto) (G : Got X pins σ env P α u s1 v H1 P1 α1 d S1) (q : qAf X P1 α1 (k d S1) E) : GotS X pins σ env P α u s1 k E
theorem qLr {k : D → Sto → Out} {pins : List (Addr × Obj)} {s : Shared} {σ : _L.St} {H P : Hp} {α : List Addr} {env : qAH} {S : Sto} {D : Ends} (he : PE X e (tD X fa)) (I : Inv X pins σ H s) (r : Rel X.K H P α S)
  (re : qAt X.K P α σ env) (af : qAf X P α ((fa env S).toS env k) D) :
  wpAny (model X.prog X.w) X.A (eval e X.env) (fun u s1 => GotS X pins σ env P α u s1 k D) X.xe s:=by
 have af1 : qAR X P α ((fa env S).bind fun d S => .ok d S) fun d S => qAf X P α (k d S) D:=by
  have:=qBk af
  cases q : fa env S <;> rw [q] at this <;> exact this
 exact thn (qBr he I r re af1) fun u s1 ⟨v,H1,P1,α1,d,S1,G,q⟩ => ⟨v,H1,P1,α1,d,S1,G,qAf.base G.same G.pre q⟩
noncomputable def qB3 (f : DE) : DS:=fun env S => (f env S).toS env fun _ S1 => .nx env S1
theorem qVX (he : PE X e (tD X fa)) (hs : autoParam (swapsWith e none pos.line X.env = pure false) au3._auto_1) : PS X (.Expr e pos) (tDS X (qB3 fa)):=by
 intro pins s σ H D I h
 obtain ⟨P,α,env,S,r,re,af⟩:=h
 exact wpAny_Expr_any (thn (qLr he I r re af) fun v s1 ⟨x,H1,P1,α1,d,S1,G,q⟩ => ⟨σ,H1,G.inv,q σ H1 P1 α1 G.rel G.env (qAK.refl _) (List.prefix_refl _)⟩) I.quiet hs
noncomputable def qAs (f : DE) : DS:=fun env S => (f env S).toS env fun d S1 => .rt d S1
theorem qXV (he : PE X e (tD X fa)) : PS X (.Return (some e) pos) (tDS X (qAs fa)):=by
 intro pins s σ H D I h
 obtain ⟨P,α,env,S,r,re,af⟩:=h
 exact wpAny_Return_some (thn (qLr he I r re af) fun v s1 ⟨x,H1,P1,α1,d,S1,G,q⟩ => ⟨x,σ,H1,G.inv,G.val,q x H1 P1 α1 G.rel (qAK.refl _) (List.prefix_refl _) G.rep⟩)
noncomputable def sIf (t : DT) (f g : DS) : DS:=fun env S => (t env S).toS env fun b S1 => if b then f env S1 else g env S1
theorem qZM {c : Expr} {as bs : List Stmt} (hc : PT X c (tDT X ta)) (ha : PSs X as (tDS X f)) (hb : PSs X bs (tDS X g)) : PS X (.If c as bs pos) (tDS X (sIf ta f g)):=by
 intro pins s σ H D I h
 obtain ⟨P,α,env,S,r,re,af⟩:=h
 have af1 : qAR X P α ((ta env S).bind fun d S => .ok d S) fun b S => qAf X P α (if b then f env S else g env S) D:=by
  have:=qBk af
  cases q : ta env S <;> rw [q] at this <;> exact this
 refine wpAny_If (thn (qLs (fun Q' q => hc pins s σ H Q' I q) r re af1) fun k s1 ⟨H1,P1,α1,S1,I1,r1,re1,e1,e2,af2⟩ => ?_)
 cases k with
 | true => exact ha pins s1 σ H1 D I1 ⟨P1,α1,env,S1,r1,re1,qAf.base e1 e2 af2⟩
 | false => exact hb pins s1 σ H1 D I1 ⟨P1,α1,env,S1,r1,re1,qAf.base e1 e2 af2⟩
abbrev DG:=D → qAH → Sto → Res qAH
abbrev DGs:=List D → qAH → Sto → Res qAH
noncomputable def OkE (X : Cx) (P : Hp) (α : List Addr) (Q : _L.St → Hp → Prop) (env' : qAH) (S' : Sto) : Prop:=∀ σ' H' P' α',Rel X.K H' P' α' S' → qAt X.K P' α' σ' env' → qAK P P' → α <+: α' → Q σ' H'
noncomputable def tDG (X : Cx) (g : DG) : TG:=fun v σ H Q => ∃ P α env S d,Rel X.K H P α S ∧ qAt X.K P α σ env ∧ Rep X.K P α d v ∧ qAR X P α (g d env S) (OkE X P α Q)
noncomputable def qP3 (X : Cx) (g : DGs) : TGs:=fun vs σ H Q => ∃ P α env S ds,Rel X.K H P α S ∧ qAt X.K P α σ env ∧ qAL X.K P α ds vs ∧ qAR X P α (g ds env S) (OkE X P α Q)
theorem qAt.set {K : PySem.W.Frag} {P : Hp} {α : List Addr} {σ : _L.St} {env : qAH} {d : D} {v : V} (re : qAt K P α σ env) (i : Nat) (rp : Rep K P α d v) : qAt K P α (σ.set i (some v)) (env.set i (some d)):=by
 refine ⟨by simp [re.1],fun j d' e => ?_⟩
 by_cases hj : i = j
 ·subst hj
  by_cases hi : i < env.length
  ·rw [List.getElem?_set_self hi] at e
   cases e
   exact ⟨v,by rw [List.getElem?_set_self (by rw [← re.1]; exact hi)],rp⟩
  ·rw [List.getElem?_eq_none (by simp; omega)] at e; cases e
 ·rw [List.getElem?_set_ne hj] at e ⊢
  exact re.2 j d' e
noncomputable def gNm (i : Nat) : DG:=fun d env S => .ok (env.set i (some d)) S
theorem qVP {i : Nat} {x : Str} (hN : X.N.Nodup) (hi : autoParam (X.N[i]? = some x) au3._auto_1) (hx : autoParam (Loc X.env.scope x) au8._auto_1) (hf : X.fn x = true ∨ X.env.scope.names.lookup x = some .local:=by first | exact .inl rfl | exact .inr rfl | assumption) : PG X (.Name x pos) (tDG X (gNm i)):=by
 intro pins s σ H v u Q I rv h
 obtain ⟨P,α,env,S,d,r,re,rp,af⟩:=h
 exact qWF hN hi hx hf pins s σ H v u Q I rv (af _ H P α r (re.set i rp) (qAK.refl _) (List.prefix_refl _))
noncomputable def qDw : DGs:=fun ds env S => match ds with
 | [] => .ok env S
 | _ => .bad
noncomputable def qBC (g : DG) (gs : DGs) : DGs:=fun ds env S => match ds with
 | d :: r => (g d env S).bind fun env1 S1 => gs r env1 S1
 | [] => .bad
theorem qVQ : PGs X [] (qP3 X qDw):=by
 intro pins s σ H vs us Q I rv h
 obtain ⟨P,α,env,S,ds,r,re,rp,af⟩:=h
 cases ds with
 | nil => exact qWG pins s σ H vs us Q I rv ⟨rp.nil_inv,af σ H P α r re (qAK.refl _) (List.prefix_refl _)⟩
 | cons d ds => exact False.elim af
theorem qTe {es : List Expr} {g : DG} {gs : DGs} (h1 : PG X e (tDG X g)) (h2 : PGs X es (qP3 X gs)) (hs : autoParam ((assignEach (e :: es) X.env).map (·.2) = assign e X.env :: (assignEach es X.env).map (·.2)) au3._auto_1) : PGs X (e :: es) (qP3 X (qBC g gs)):=by
 intro pins s σ H vs us Q I rv h
 obtain ⟨P,α,env,S,ds,r,re,rp,af⟩:=h
 cases ds with
 | nil => exact False.elim af
 | cons d ds =>
  obtain ⟨w,ws,rfl,p1,p2⟩:=rp.cons_inv
  refine qUE h1 h2 hs pins s σ H _ us Q I rv ⟨w,ws,rfl,P,α,env,S,d,r,re,p1,?_⟩
  have af' : qAR X P α ((g d env S).bind fun env1 S1 => gs ds env1 S1) (OkE X P α Q):=af
  cases q : g d env S with
  | bad => rw [q] at af'; exact af'
  | ex c x S' => rw [q] at af'; exact af'
  | ok env1 S1 =>
   rw [q] at af'
   intro σ' H' P' α' r' re' e1 e2
   refine ⟨P',α',env1,S1,ds,r',re',qAL.mono e1 e2 _ _ p2,qAR.base' e1 e2 (fun env' S' ok σ2 H2 P2 α2 r2 re2 e3 e4 => ok σ2 H2 P2 α2 r2 re2 (e1.trans e3) (e2.trans e4)) af'⟩
noncomputable def gTp (n : Nat) (gs : DGs) : DG:=fun d env S => match d with
 | .tup xs => if xs.length = n then gs xs env S else .bad
 | _ => .bad
set_option tactic.hygienic true in
theorem qXM {es : List Expr} {k : Nat} {gs : DGs} {n : Nat} (hc : X.calm = true) (h : PGs X es (qP3 X gs)) (hn : autoParam ((assignEach es X.env).length = n) au3._auto_1) (hst : autoParam ((assignEach es X.env).findIdx? (·.1) = none) au3._auto_1) : PG X (.Tuple es k pos) (tDG X (gTp n gs)):=by
 intro pins s σ H v u Q I rv hw
 obtain ⟨P,α,env,S,d,r,re,rp,af⟩:=hw
 cases d with
 | tup xs =>
  simp only [Rep] at rp
  obtain ⟨a,vs,rfl,q,t⟩:=rp
  simp only [gTp] at af
  split at af
  ·rename_i hl
   exact qYZ hc h hn hst pins s σ H _ u Q I rv ⟨a,vs,rfl,qC0 r.sub q,by rw [← t.length]; exact hl,P,α,env,S,xs,r,re,t,af⟩
  ·exact False.elim af
 | _ => exact False.elim af
abbrev G3:=D → D → D → Sto → Res Unit
noncomputable def OkU (X : Cx) (P : Hp) (α : List Addr) (Q : Hp → Prop) (_ : Unit) (S' : Sto) : Prop:=∀ H' P' α',Rel X.K H' P' α' S' → qAK P P' → α <+: α' → Q H'
noncomputable def qOe (X : Cx) (g : G3) : qTF:=fun o i v H Q => ∃ P α S a b d,Rel X.K H P α S ∧ Rep X.K P α a o ∧ Rep X.K P α b i ∧ Rep X.K P α d v ∧ qAR X P α (g a b d S) (OkU X P α Q)
noncomputable def gSb (fo fi : DE) (g : G3) : DG:=fun d env S => (fo env S).bind fun o S1 => (fi env S1).bind fun i S2 => (g o i d S2).bind fun _ S3 => .ok env S3
theorem qXL {o i : Expr} {fo fi : DE} {g : G3} (ho : PE X o (tD X fo)) (hi : PE X i (tD X fi)) (hs : qOh X (qOe X g))
  (ha : autoParam (∀ v,assign (.Subscript o i pos) X.env v = (do
   let ov ← holding [v] (eval o X.env)
   let iv ← holding [v,ov] (eval i X.env)
   standAt pos
   holding [v,ov,iv] (setItem ov iv v)
   release [v,ov,iv] [])) au4._auto_1) : PG X (.Subscript o i pos) (tDG X (gSb fo fi g)):=by
 intro pins s σ H v u Q I rv h
 obtain ⟨P,α,env,S,d,r,re,rp,af⟩:=h
 rw [ha]
 refine wpAny_bind (wpAny_holding (thn (qBr ho I r re af) fun ov s1 ⟨x,H1,P1,α1,d1,S1,G1,af1⟩ => ?_))
 refine wpAny_bind (wpAny_holding (thn (qBr hi G1.inv G1.rel G1.env (P:=P1) (α:=α1) (Ok:=OkE X P1 α1 Q) (qAR.base' G1.same G1.pre (fun env' S' ok σ2 H2 P2 α2 r2 re2 e3 e4 => ok σ2 H2 P2 α2 r2 re2 (G1.same.trans e3) (G1.pre.trans e4)) af1)) fun iv s2 ⟨y,H2,P2,α2,d2,S2,G2,af2⟩ => ?_))
 refine wpAny_bind (wpAny_standAt (wpAny_bind (wpAny_holding (thn (hs pins s2 σ H2 x y v ov iv u (fun H3 => Q σ H3) G2.inv G1.val G2.val rv ⟨P2,α2,S2,d1,d2,d,G2.rel,Rep.mono G2.same G2.pre _ _ G1.rep,G2.rep,Rep.mono (G1.same.trans G2.same) (G1.pre.trans G2.pre) _ _ rp,?_⟩) fun _ s3 ⟨H3,I3,q3⟩ => ?_))))
 ·cases q : g d1 d2 d S2 with
  | bad => rw [q] at af2; exact af2
  | ex c x S' => rw [q] at af2; exact fun u s' z => af2 u s' (z.base G2.same G2.pre)
  | ok w S3 =>
   rw [q] at af2
   exact fun H' P' α' r' e1 e2 => af2 σ H' P' α' r' (G2.env.mono e1 e2) (G2.same.trans e1) (G2.pre.trans e2)
 ·exact wpAny_release ⟨σ,H3,I3,q3⟩
noncomputable def qBE (f : DE) (g : DG) : DS:=fun env S => (f env S).toS env fun d S1 => (g d env S1).toS env fun env' S2 => .nx env' S2
theorem qRh {g : DG} {d : D} {env : qAH} {S : Sto} {P : Hp} {α : List Addr} {D' : Ends} (h : qAf X P α ((g d env S).toS env fun env' S2 => .nx env' S2) D') : qAR X P α (g d env S) (OkE X P α D'.nx):=by
 cases q : g d env S with
 | bad => rw [q] at h; exact h
 | ex c x S' => rw [q] at h; exact h
 | ok env1 S1 => rw [q] at h; exact h
theorem qXP {tg e : Expr} {g : DG} (he : PE X e (tD X fa)) (hg : PG X tg (tDG X g)) (hs : autoParam (swapsWithSole [tg] e pos.line X.env = pure false) au3._auto_1) (hw : autoParam (swappedStores [tg] e X.env = pure none) au3._auto_1)
  (h1 : autoParam ((assignEach [tg] X.env).map (·.2) = [assign tg X.env]) au3._auto_1) : PS X (.Assign [tg] e pos) (tDS X (qBE fa g)):=by
 intro pins s σ H D I h
 obtain ⟨P,α,env,S,r,re,af⟩:=h
 refine wpAny_Assign_stores (thn (qLr he I r re af) fun v s1 ⟨x,H1,P1,α1,d,S1,G,q⟩ => ?_) hs hw
 rw [h1]
 exact thn (hg pins s1 σ H1 x v _ G.inv G.val ⟨P1,α1,env,S1,d,G.rel,G.env,G.rep,qRh q⟩) fun _ s2 q => q
theorem qXW {i : Nat} {x : Str} {e : Expr} {pos' : Pos} (hN : X.N.Nodup) (he : PE X e (tD X fa)) (hi : autoParam (X.N[i]? = some x) au3._auto_1) (hx : autoParam (Loc X.env.scope x) au8._auto_1) (hs : swapsWith e (some (.Name x pos')) pos.line X.env = pure false:=by rfl)
  (hf : autoParam (X.fn x = true ∨ X.env.scope.names.lookup x = some .local) au1._auto_1) : PS X (.Assign [.Name x pos'] e pos) (tDS X (qBE fa (gNm i))):=by
 intro pins s σ H D I h
 obtain ⟨P,α,env,S,r,re,af⟩:=h
 refine wpAny_Assign_Name (thn (qLr he I r re af) fun v s1 ⟨y,H1,P1,α1,d,S1,G,q⟩ => ?_) hs
 exact qFY G.inv hN hi hx G.val (fun s2 I2 => ⟨_,H1,I2,q _ H1 P1 α1 G.rel (G.env.set i G.rep) (qAK.refl _) (List.prefix_refl _)⟩) hf
noncomputable def qPh (i j : Nat) (env : qAH) (S1 : Sto) : List D → Out
 | [x,y] => .nx ((env.set i (some x)).set j (some y)) S1
 | _ => .bad
noncomputable def qNY (i j : Nat) (f : DA) : DS:=fun env S => (f env S).toS env fun ds S1 => qPh i j env S1 ds
theorem qXU {i j : Nat} {x y : Str} {a b : Expr} {f : DA} {px py pt : Pos} {kt k2 pt2} (hc : X.calm = true) (hN : X.N.Nodup) (ha : PA X [a,b] (tDA X f)) (hi : autoParam (X.N[i]? = some x) au3._auto_1) (hj : autoParam (X.N[j]? = some y) au3._auto_1) (hij : autoParam (i ≠ j) au2._auto_1)
  (hx : autoParam (X.env.scope.names.lookup x = some .local) au3._auto_1) (hy : autoParam (X.env.scope.names.lookup y = some .local) au3._auto_1)
  (hw : autoParam (swappedStores [.Tuple [.Name x px,.Name y py] kt pt] (.Tuple [a,b] k2 pt2) X.env = pure (some [x,y])) au3._auto_1)
  (hs : autoParam (swapsWithSole [.Tuple [.Name x px,.Name y py] kt pt] (.Tuple [a,b] k2 pt2) pos.line X.env = pure false) au3._auto_1) :
  PS X (.Assign [.Tuple [.Name x px,.Name y py] kt pt] (.Tuple [a,b] k2 pt2) pos) (tDS X (qNY i j f)):=psW (qYg hc hN hi hj hij hx hy ha hw hs) fun D σ H ⟨P,α,env,S,r,re,af⟩ => by
 refine ⟨P,α,env,S,r,re,?_⟩
 have af1:=qBk af
 cases q : f env S with
 | bad => rw [q] at af1; exact af1
 | ex c x S' => rw [q] at af1; exact af1
 | ok ds S1 =>
  rw [q] at af1
  intro vs H' P' α' r' e1 e2 rp
  have af2 : qAf X P α (qPh i j env S1 ds) D:=af1
  cases ds with
  | nil => exact False.elim af2
  | cons d ds => cases ds with
   | nil => exact False.elim af2
   | cons d' ds => cases ds with
    | cons _ _ => exact False.elim af2
    | nil =>
     obtain ⟨w,ws,rfl,p1,t⟩:=rp.cons_inv
     obtain ⟨w',ws',rfl,p2,t⟩:=t.cons_inv
     rw [t.nil_inv]
     exact ⟨w,w',rfl,af2 _ _ P' α' r' (((re.mono e1 e2).set i p1).set j p2) e1 e2⟩
end
end _D
end
section
namespace _D
open PySem PySem.Spec PyProof.Rows _L
structure ItD (K : PySem.W.Frag) (J : It) (P : Hp) (α : List Addr) (ds : List D) : Prop where
 go : ∀ i H P1 α1 S,i < ds.length → Rel K H P1 α1 S → qAK P P1 → α <+: α1 → J.go i H
 yld : ∀ i H x H' P1 α1 S,i < ds.length → Rel K H P1 α1 S → qAK P P1 → α <+: α1 → J.yld i H x H' → ∃ P2 d,ds[i]? = some d ∧ Rel K H' P2 α1 S ∧ qAK P1 P2 ∧ Rep K P2 α1 d x
 stop : ∀ i H P1 α1 S,ds.length ≤ i → Rel K H P1 α1 S → qAK P P1 → α <+: α1 → J.stop i H
abbrev DI:=qAH → Sto → Res (List D)
noncomputable def OkI (X : Cx) (P : Hp) (α : List Addr) (R : It → Hp → Prop) (ds : List D) (S' : Sto) : Prop:=∀ J H' P' α',Rel X.K H' P' α' S' → qAK P P' → α <+: α' → ItD X.K J P' α' ds → R J H'
inductive tDI (X : Cx) (f : DI) (σ : _L.St) (H : Hp) (R : It → Hp → Prop) : Prop
 | mk (P : Hp) (α : List Addr) (env : qAH) (S : Sto) (r : Rel X.K H P α S) (re : qAt X.K P α σ env) (af : qAR X P α (f env S) (OkI X P α R)) : tDI X f σ H R
noncomputable def qDn {β : Type} (o : Option β) (S : Sto) : Res β:=match o with
 | some b => .ok b S
 | none => .bad
theorem qFW {X : Cx} {β : Type} {o : Option β} {S : Sto} {P : Hp} {α : List Addr} {Ok : β → Sto → Prop} (h : qAR X P α (qDn o S) Ok) : ∃ b,o = some b ∧ Ok b S:=by
 cases o with
 | none => exact False.elim h
 | some b => exact ⟨b,rfl,h⟩
theorem qEI {X : Cx} {β : Type} {c : Prop} [Decidable c] {r : Res β} {P : Hp} {α : List Addr} {Ok : β → Sto → Prop} (h : qAR X P α (if c then r else .bad) Ok) : c ∧ qAR X P α r Ok:=by
 by_cases z : c
 ·rw [if_pos z] at h; exact ⟨z,h⟩
 ·rw [if_neg z] at h; exact False.elim h
theorem qSk {X : Cx} {β : Type} {ds : List D} {g : D → Res β} {P : Hp} {α : List Addr} {Ok : β → Sto → Prop} (h : qAR X P α (match ds with | [d] => g d | _ => .bad) Ok) : ∃ d,ds = [d] ∧ qAR X P α (g d) Ok:=by
 cases ds with
 | nil => exact False.elim h
 | cons d ds =>
  cases ds with
  | nil => exact ⟨d,rfl,h⟩
  | cons _ _ => exact False.elim h
theorem qNJ {β : Type} {S : Sto} {i : Nat} {f : List D → Option β} {g : List (Key × D) → Option β} {b : β} (h : (match S[i]? with | some (.lst xs) => f xs | some (.dct kvs) => g kvs | _ => none) = some b) : (∃ xs,S[i]? = some (.lst xs) ∧ f xs = some b) ∨ ∃ kvs,S[i]? = some (.dct kvs) ∧ g kvs = some b:=by
 cases e : S[i]? with
 | none => rw [e] at h; exact nn h
 | some m =>
  rw [e] at h
  cases m with
  | lst xs => exact .inl ⟨xs,rfl,h⟩
  | dct kvs => exact .inr ⟨kvs,rfl,h⟩
  | _ => exact nn h
theorem qX0 {β : Type} {S : Sto} {i : Nat} {f : List D → Option β} {b : β} (h : (match S[i]? with | some (.lst xs) => f xs | _ => none) = some b) : ∃ xs,S[i]? = some (.lst xs) ∧ f xs = some b:=by
 cases e : S[i]? with
 | none => rw [e] at h; exact nn h
 | some m =>
  rw [e] at h
  cases m with
  | lst xs => exact ⟨xs,rfl,h⟩
  | _ => exact nn h
inductive ItV (d : D) (xs : List D) : Prop
 | tup (e : d = .tup xs)
 | lst (e : d = .lst xs)
noncomputable def qUv {β : Type} (S : Sto) (n : Nat) (f : List D → Res β) : Res β:=match S[n]? with
 | some (.lst xs) => f xs
 | _ => .bad
theorem qHZ {X : Cx} {β : Type} {S : Sto} {n : Nat} {f : List D → Res β} {P : Hp} {α : List Addr} {Ok : β → Sto → Prop} (h : qAR X P α (qUv S n f) Ok) : ∃ xs,S[n]? = some (.lst xs) ∧ qAR X P α (f xs) Ok:=by
 unfold qUv at h
 cases e : S[n]? with
 | none => rw [e] at h; exact False.elim h
 | some m =>
  rw [e] at h
  cases m with
  | lst xs => exact ⟨xs,rfl,h⟩
  | _ => exact False.elim h
noncomputable def qCu : D → Option (List D)
 | .tup xs => some xs
 | .lst xs => some xs
 | _ => none
theorem itV {d : D} {xs : List D} (h : qCu d = some xs) : ItV d xs:=by
 cases d with
 | tup ys => exact .tup (congrArg D.tup (Option.some.inj h))
 | lst ys => exact .lst (congrArg D.lst (Option.some.inj h))
 | _ => exact nn h
noncomputable def qCr (f : DE) : DI:=fun env S => (f env S).bind fun d S1 => qDn (qCu d) S1
section
variable {X : Cx} {K : PySem.W.Frag} {tg e : Expr} {fa : DE} {pos : Pos}
theorem qTz {P : Hp} {α : List Addr} {a : Addr} {ds : List D} {vs : List V} (q : SqL K P a vs) (t : qAL K P α ds vs) : ItD K (Itl K a) P α ds where
 go:=fun i H P1 α1 S hi r e _ => ⟨vs,vs[i]'(by rw [← t.length]; exact hi),(e.trans r.sub).seq q,by simp⟩
 yld:=fun i H x H' P1 α1 S hi r e e2 y => by
  obtain ⟨rfl,y⟩:=y
  have hx:=y vs ((e.trans r.sub).seq q)
  obtain ⟨v,h1,h2⟩:=t.get (List.getElem?_eq_getElem hi)
  rw [hx] at h1; cases h1
  exact ⟨P1,_,List.getElem?_eq_getElem hi,r,qAK.refl _,Rep.mono e e2 _ _ h2⟩
 stop:=fun i H P1 α1 S hi r e _ => ⟨vs,(e.trans r.sub).seq q,by rw [← t.length]; exact hi⟩
theorem qVs {P : Hp} {α : List Addr} {a : Addr} {ds : List D} {vs : List V} (q : SqT K P a vs) (t : qAL K P α ds vs) : ItD K (Itt K a) P α ds where
 go:=fun i H P1 α1 S hi r e _ => ⟨vs,vs[i]'(by rw [← t.length]; exact hi),qEi (e.trans r.sub) q,by simp⟩
 yld:=fun i H x H' P1 α1 S hi r e e2 y => by
  obtain ⟨rfl,y⟩:=y
  have hx:=y vs (qEi (e.trans r.sub) q)
  obtain ⟨v,h1,h2⟩:=t.get (List.getElem?_eq_getElem hi)
  rw [hx] at h1; cases h1
  exact ⟨P1,_,List.getElem?_eq_getElem hi,r,qAK.refl _,Rep.mono e e2 _ _ h2⟩
 stop:=fun i H P1 α1 S hi r e _ => ⟨vs,qEi (e.trans r.sub) q,by rw [← t.length]; exact hi⟩
theorem qPP {pins : List (Addr × Obj)} {σ : _L.St} {H P : Hp} {α : List Addr} {S : Sto} {s : Shared} {v : V} {vv : Value} {d : D} {ds : List D} {R : It → Hp → Prop} (I : Inv X pins σ H s) (r : Rel X.K H P α S) (rv : qAY v vv) (rp : Rep X.K P α d v) (hd : qCu d = some ds)
  (q : OkI X P α R ds S) : wpAny (model X.prog X.w) X.A (pyIter vv) (PIE X pins σ tg R) X.xe s:=by
 cases d with
 | tup xs =>
  cases hd
  simp only [Rep] at rp
  obtain ⟨a,vs,rfl,sq,t⟩:=rp
  cases rv
  obtain ⟨its,rv,p,hz⟩:=I.tuple (qC0 r.sub sq)
  refine wpAny_pyIter_tuple (show s.heap.IsTuple a its.toArray from p) ?_
  refine ⟨s.heap.objs.size,[s.heap.objs.size],_,_,H,rfl,I.kept (t':=s.toks) fun b o e => Heap.get?_push_of_some _ e,qRc a _,⟨_,Heap.get?_push_size _ rfl,rfl,rfl⟩,fun b hb => ?_,q _ _ P α r (qAK.refl _) (List.prefix_refl _) (qVs sq t)⟩
  have e : b = s.heap.objs.size:=by simpa using hb
  subst e
  exact I.fpOk (Nat.le_refl _) (I.hok.fresh (Nat.le_refl _))
 | lst xs =>
  cases hd
  simp only [Rep] at rp
  obtain ⟨a,vs,rfl,sq,t⟩:=rp
  cases rv
  obtain ⟨its,rv,p,hz⟩:=I.list ((qCO r.sub sq).l)
  refine wpAny_pyIter_list p.isList ?_
  refine ⟨s.heap.objs.size,[s.heap.objs.size],_,_,H,rfl,I.kept (t':=s.toks) fun b o e => Heap.get?_push_of_some _ e,qN9 a _,⟨_,Heap.get?_push_size _ rfl,rfl,rfl⟩,fun b hb => ?_,q _ _ P α r (qAK.refl _) (List.prefix_refl _) (qTz sq.l t)⟩
  have e : b = s.heap.objs.size:=by simpa using hb
  subst e
  exact I.fpOk (Nat.le_refl _) (I.hok.fresh (Nat.le_refl _))
 | _ => cases hd
theorem OkI.base {P P1 : Hp} {α α1 : List Addr} {R : It → Hp → Prop} {ds : List D} {S : Sto} (e : qAK P P1) (h : α <+: α1) (k : OkI X P α R ds S) : OkI X P1 α1 R ds S:=fun J H' P' α' r q1 q2 q3 => k J H' P' α' r (e.trans q1) (h.trans q2) q3
theorem qXN (ha : PE X e (tD X fa)) : PI X tg e (tDI X (qCr fa)):=by
 intro pins s σ H R I h
 obtain ⟨P,α,env,S,r,re,af⟩:=h
 refine thn (qBr ha I r re af) fun vv s1 ⟨v,H1,P1,α1,d,S1,G1,af1⟩ => ?_
 obtain ⟨ds,e1,q⟩:=qFW af1
 exact qPP G1.inv G1.rel G1.val G1.rep e1 (q.base G1.same G1.pre)
noncomputable def qCy (lo : Int) (n : Nat) : List D:=(List.range n).map fun (i : Nat) => D.int (lo + (i : Int))
theorem qJZ (lo : Int) (n : Nat) : (qCy lo n).length = n:=by simp [qCy]
theorem qNv {P : Hp} {α : List Addr} {lo : Int} {n : Nat} : ItD K (Itr lo n) P α (qCy lo n) where
 go:=fun i H P1 α1 S hi r e _ => by rw [qJZ] at hi; exact hi
 yld:=fun i H x H' P1 α1 S hi r e e2 y => by
  obtain ⟨rfl,rfl⟩:=y
  rw [qJZ] at hi
  exact ⟨P1,.int (lo + i),by simp [qCy,hi],r,qAK.refl _,by simp only [Rep]⟩
 stop:=fun i H P1 α1 S hi r e _ => by rw [qJZ] at hi; exact hi
noncomputable def qJa (ds : List D) : Option (List D):=match ds with
 | [.int j] => if -(2 ^ 62) ≤ j ∧ j < 2 ^ 62 then some (qCy 0 j.toNat) else none
 | [.int i,.int j] => if -(2 ^ 62) ≤ i ∧ i < 2 ^ 62 ∧ -(2 ^ 62) ≤ j ∧ j < 2 ^ 62 then some (qCy i (j - i).toNat) else none
 | _ => none
noncomputable def qEa (f : DA) : DI:=fun env S => (f env S).bind fun ds S1 => qDn (qJa ds) S1
noncomputable def asI : D → Option Int
 | .int i => some i
 | _ => none
theorem qLA {d : D} {i : Int} (h : asI d = some i) : d = .int i:=by
 cases d with
 | int k => exact congrArg D.int (Option.some.inj h)
 | _ => exact nn h
inductive RngV : List D → List D → Prop
 | one (j : Int) (h : -(2 ^ 62) ≤ j ∧ j < 2 ^ 62) : RngV [.int j] (qCy 0 j.toNat)
 | two (i j : Int) (h : -(2 ^ 62) ≤ i ∧ i < 2 ^ 62 ∧ -(2 ^ 62) ≤ j ∧ j < 2 ^ 62) : RngV [.int i,.int j] (qCy i (j - i).toNat)
theorem qZx (d : D) : qJa [d] = (asI d).bind fun j => if -(2 ^ 62) ≤ j ∧ j < 2 ^ 62 then some (qCy 0 j.toNat) else none:=by cases d <;> rfl
theorem qZy (d d' : D) : qJa [d,d'] = (asI d).bind fun i => (asI d').bind fun j => if -(2 ^ 62) ≤ i ∧ i < 2 ^ 62 ∧ -(2 ^ 62) ≤ j ∧ j < 2 ^ 62 then some (qCy i (j - i).toNat) else none:=by
 cases d with
 | int i => cases d' <;> rfl
 | _ => rfl
theorem qWV {ds its : List D} (h : qJa ds = some its) : RngV ds its:=by
 cases ds with
 | nil => exact nn h
 | cons d ds =>
  cases ds with
  | nil =>
   obtain ⟨j,e,h⟩:=Option.bind_eq_some_iff.mp ((qZx d).symm.trans h)
   obtain ⟨c,rfl⟩:=qJO h
   rw [qLA e]
   exact .one j c
  | cons d' ds =>
   cases ds with
   | nil =>
    obtain ⟨i,e,h⟩:=Option.bind_eq_some_iff.mp ((qZy d d').symm.trans h)
    obtain ⟨j,e',h⟩:=Option.bind_eq_some_iff.mp h
    obtain ⟨c,rfl⟩:=qJO h
    rw [qLA e,qLA e']
    exact .two i j c
   | cons _ _ =>
    have h0 : ∀ d'' t,qJa (d :: d' :: d'' :: t) = none:=fun d'' t => by cases d <;> first | rfl | (cases d' <;> rfl)
    exact nn ((h0 _ _).symm.trans h)
theorem qNV {K : PySem.W.Frag} {P : Hp} {α : List Addr} {i : Int} {vs : List V} {ds : List D} (r : qAL K P α (.int i :: ds) vs) : ∃ ws,vs = .int i :: ws ∧ qAL K P α ds ws:=by
 obtain ⟨w,ws,rfl,p,t⟩:=r.cons_inv
 exact ⟨ws,congrArg (· :: ws) (by simpa only [Rep] using p),t⟩
theorem PI.weak {iter : Expr} {t t' : TI} (h : PI X tg iter t) (w : ∀ σ H R,t' σ H R → t σ H R) : PI X tg iter t':=fun pins s σ H R I q => h pins s σ H R I (w σ H R q)
end
section
variable {X : Cx} {tg a b : Expr} {f : DA} {p pos : Pos}
theorem qTf {e : Expr} {es : List Expr} (hg : Gl X "range") (hm : X.mg "range" = none) (ha : PA X (e :: es) (tDA X f)) (hs : autoParam (starEach (e :: es) X.env = (false,eval e X.env) :: starEach es X.env) au3._auto_1) (hpl : autoParam ((backTo pos (starEach es X.env)).any (·.1) = false) au3._auto_1) :
  PI X tg (.Call (.Name "range" p) (e :: es) [] pos) (tDI X (qEa f)):=by
 intro pins s σ H R I h
 obtain ⟨P,α,env,S,r,re,af⟩:=h
 refine Call_ (qF0 I hg hm boot_range (PyProof.Rows.callWith_type1 (thn (qDL ha I r re af pos) fun us s1 ⟨vs,H1,P1,α1,ds,S1,I1,rv,r1,re1,rp,e1,e2,af1⟩ => ?_) hs hpl))
 obtain ⟨its,hi,q⟩:=qFW af1
 cases qWV hi with
 | one j c =>
  obtain ⟨ws,rfl,t1⟩:=qNV rp
  cases t1.nil_inv
  obtain ⟨u,rfl,t,rfl⟩:=qJd rv
  refine call_range_1 (qPq I1 (by omega) (by omega) c.1 c.2 ?_)
  have z:=q (Itr 0 j.toNat) H1 P1 α1 r1 e1 e2 qNv
  rw [Int.sub_zero]
  exact z
 | two i j c =>
  obtain ⟨ws,rfl,t1⟩:=qNV rp
  obtain ⟨ws2,rfl,t2⟩:=qNV t1
  cases t2.nil_inv
  obtain ⟨u,u',rfl,⟨t,rfl⟩,t',rfl⟩:=qU2 rv
  exact call_range_2 (qPq I1 c.1 c.2.1 c.2.2.1 c.2.2.2 (q (Itr i (j - i).toNat) H1 P1 α1 r1 e1 e2 qNv))
noncomputable def qFk (g : DG) (f : DS) : List D → qAH → Sto → Out
 | [],env,S => .nx env S
 | d :: ds,env,S => (g d env S).toS env fun env1 S1 => match f env1 S1 with
  | .nx env2 S2 => qFk g f ds env2 S2
  | .ct env2 S2 => qFk g f ds env2 S2
  | .bk env2 S2 => .nx env2 S2
  | o => o
noncomputable def qEh (fi : DI) (g : DG) (f : DS) : DS:=fun env S => (fi env S).toS env fun ds S1 => qFk g f ds env S1
inductive LoopW (X : Cx) (P1 : Hp) (α1 : List Addr) (g : DG) (f : DS) (ds : List D) (D : Ends) (i m : Nat) (σ : _L.St) (H : Hp) : Prop
 | mk (hi : i ≤ ds.length) (hm : m = ds.length - i) (P2 : Hp) (α2 : List Addr) (env2 : qAH) (S2 : Sto) (r : Rel X.K H P2 α2 S2) (re : qAt X.K P2 α2 σ env2) (e1 : qAK P1 P2) (e2 : α1 <+: α2) (af : qAf X P2 α2 (qFk g f (ds.drop i) env2 S2) D) : LoopW X P1 α1 g f ds D i m σ H
theorem qXR {iter : Expr} {body : List Stmt} {fi : DI} {g : DG} {f : DS} (hp : PassesOwn (model X.prog X.w) X.A X.env X.xe) (hc : X.calm = true) (hi : PI X tg iter (tDI X fi)) (hg : PG X tg (tDG X g)) (hb : PSs X body (tDS X f))
  (hs : autoParam (∀ x,foldedSetIterable iter X.env x = pure x) au4._auto_1) : PS X (.For tg iter body [] pos) (tDS X (qEh fi g f)):=psW (qSp hp hc hi hg hb hs) fun D σ H ⟨P,α,env,S,r,re,af⟩ => by
 refine ⟨P,α,env,S,r,re,?_⟩
 have af1:=qBk af
 cases q : fi env S with
 | bad => rw [q] at af1; exact af1
 | ex c x S' => rw [q] at af1; exact af1
 | ok ds S1 =>
  rw [q] at af1
  have af2 : qAf X P α (qFk g f ds env S1) D:=af1
  intro J H1 P1 α1 r1 e1 e2 it
  refine ⟨LoopW X P1 α1 g f ds D,
   ⟨ds.length,Nat.zero_le _,rfl,P1,α1,env,S1,r1,re.mono e1 e2,qAK.refl _,List.prefix_refl _,qAf.base e1 e2 af2⟩,?_⟩
  rintro i m σ2 H2 ⟨hi,rfl,P2,α2,env2,S2,r2,re2,e3,e4,af3⟩
  by_cases hlt : i < ds.length
  ·refine .inr ⟨it.go i H2 P2 α2 S2 hlt r2 e3 e4,LoopW X P1 α1 g f ds D (i + 1) (ds.length - (i + 1)),fun σ' H' w => ⟨_,?_,w⟩,fun x H3 y => ?_⟩
   ·omega
   ·obtain ⟨P3,d,hd,r3,e5,rp⟩:=it.yld i H2 x H3 P2 α2 S2 hlt r2 e3 e4 y
    have hdr : ds.drop i = d :: ds.drop (i + 1):=by
     rw [List.drop_eq_getElem_cons hlt]
     rw [List.getElem?_eq_getElem hlt] at hd
     rw [Option.some.inj hd]
    rw [hdr] at af3
    have af4:=qBk (qAf.base e5 (List.prefix_refl _) af3)
    refine ⟨P3,α2,env2,S2,d,r3,re2.mono e5 (List.prefix_refl _),rp,?_⟩
    cases q2 : g d env2 S2 with
    | bad => rw [q2] at af4; exact af4
    | ex c x S' => rw [q2] at af4; exact af4
    | ok env3 S3 =>
     rw [q2] at af4
     intro σ4 H4 P4 α4 r4 re4 e6 e7
     refine ⟨P4,α4,env3,S3,r4,re4,?_⟩
     have af5:=qAf.base e6 e7 af4
     cases q3 : f env3 S3 with
     | bad => simp only [q3] at af5; exact af5
     | ex c x env4 S4 => simp only [q3] at af5; exact af5
     | rt d4 S4 => simp only [q3] at af5; exact af5
     | bk env4 S4 => simp only [q3] at af5; exact af5
     | nx env4 S4 =>
      simp only [q3] at af5
      exact fun σ5 H5 P5 α5 r5 re5 e8 e9 => ⟨hlt,rfl,P5,α5,env4,S4,r5,re5,((e3.trans e5).trans e6).trans e8,(e4.trans e7).trans e9,qAf.base e8 e9 af5⟩
     | ct env4 S4 =>
      simp only [q3] at af5
      exact fun σ5 H5 P5 α5 r5 re5 e8 e9 => ⟨hlt,rfl,P5,α5,env4,S4,r5,re5,((e3.trans e5).trans e6).trans e8,(e4.trans e7).trans e9,qAf.base e8 e9 af5⟩
  ·have hdr : ds.drop i = []:=List.drop_eq_nil_of_le (by omega)
   rw [hdr] at af3
   exact .inl ⟨it.stop i H2 P2 α2 S2 (by omega) r2 e3 e4,af3 σ2 H2 P2 α2 r2 re2 (qAK.refl _) (List.prefix_refl _)⟩
end
end _D
end
section
namespace _D
open PySem PySem.Spec PyProof.Rows _L
abbrev DF:=List D → Sto → Res D
section
variable {X : Cx} {x : Str} {p pos : Pos} {e : Expr} {es : List Expr} {F : DF} {fa : DA}
noncomputable def qAM (F : DF) (fa : DA) : DE:=fun env S => (fa env S).bind fun ds S1 => F ds S1
theorem qNi {F : DF} {u : Value} {pins : List (Addr × Obj)} {s1 : Shared} {σ : _L.St} {H1 P P1 : Hp} {α α1 : List Addr} {vs : List V} {us : List Value} {ds : List D} {S1 : Sto} {Q : VK} (hc : qEN X u F) (I1 : Inv X pins σ H1 s1) (r1 : Rel X.K H1 P1 α1 S1) (rv : qAZ vs us)
  (rp : qAL X.K P1 α1 ds vs) (e1 : qAK P P1) (e2 : α <+: α1) (af : qAR X P α (F ds S1) (OkV X P α Q)) : wpAny (model X.prog X.w) X.A (call u us) (EP X pins σ Q) X.xe s1:=hc pins σ H1 s1 P1 α1 S1 vs us ds Q I1 r1 rv rp (qAr.base e1 e2 af)
theorem qTZ {id : String} (hc : qEN X (.builtin id) F) (hg : Gl X x) (hm : X.mg x = none) (hv : bootBuiltins x = some (.builtin id)) (ha : PA X (e :: es) (tDA X fa)) (hn : autoParam (x ≠ "__name__") au2._auto_1) (hdb : autoParam ((x == ("__debug__" : Str)) = false) au2._auto_1)
  (he : autoParam (starEach (e :: es) X.env = (false,eval e X.env) :: starEach es X.env) au3._auto_1) (hpl : autoParam ((backTo pos (starEach es X.env)).any (·.1) = false) au3._auto_1) : PE X (.Call (.Name x p) (e :: es) [] pos) (tD X (qAM F fa)):=by
 intro pins s σ H Q I h
 obtain ⟨P,α,env,S,r,re,af⟩:=h
 refine wpAny_Call_Name_kw (qF0 I hg hm hv ?_ hn hdb)
 exact PyProof.Rows.callWith_builtin1 (thn (qDL ha I r re af pos) fun us s1 ⟨vs,H1,P1,α1,ds,S1,I1,rv,r1,re1,rp,e1,e2,af1⟩ => qNi hc I1 r1 rv rp e1 e2 af1) he hpl
theorem qR2 {T : String} (hc : qEN X (.type T) F) (hg : Gl X x) (hm : X.mg x = none) (hv : bootBuiltins x = some (.type T)) (ha : PA X (e :: es) (tDA X fa)) (hn : autoParam (x ≠ "__name__") au2._auto_1) (hdb : autoParam ((x == ("__debug__" : Str)) = false) au2._auto_1)
  (he : autoParam (starEach (e :: es) X.env = (false,eval e X.env) :: starEach es X.env) au3._auto_1) (hpl : autoParam ((backTo pos (starEach es X.env)).any (·.1) = false) au3._auto_1) : PE X (.Call (.Name x p) (e :: es) [] pos) (tD X (qAM F fa)):=by
 intro pins s σ H Q I h
 obtain ⟨P,α,env,S,r,re,af⟩:=h
 refine wpAny_Call_Name_kw (qF0 I hg hm hv ?_ hn hdb)
 exact PyProof.Rows.callWith_type1 (thn (qDL ha I r re af pos) fun us s1 ⟨vs,H1,P1,α1,ds,S1,I1,rv,r1,re1,rp,e1,e2,af1⟩ => qNi hc I1 r1 rv rp e1 e2 af1) he hpl
end
end _D
end
section
namespace _D
open PySem PySem.Spec PyProof.Rows _L
theorem qJc {α : Type} {t : Sem α} {Q Q' : α → Shared → Prop} {M : Model} {A : Around} {E : Value → Shared → Prop} {s : Shared} (h : wpAny M A t Q (fun _ _ => False) s) (hQ : ∀ a s,Q a s → Q' a s) : wpAny M A t Q' E s:=wpAny_mono h hQ fun _ _ x => x.elim
noncomputable def qHg (ifs : List Expr) (env : Env) : Sem Bool:=forIn ifs true fun c r => if r = true then do let ok ← PySem.isTrue c env (eval c env); pure (ForInStep.yield ok) else pure (ForInStep.yield r)
noncomputable def PTs (X : Cx) (ifs : List Expr) (t : DT) : Prop :=
 ∀ (pins : List (Addr × Obj)) (s : Shared) (σ : _L.St) (H : Hp) (Q : Bool → Hp → Prop),Inv X pins σ H s → tDT X t σ H Q → wpAny (model X.prog X.w) X.A (qHg ifs X.env) (TP X pins σ Q) X.xe s
noncomputable def qBN : DT:=fun _ S => .ok true S
section
variable {X : Cx}
theorem qK6 {prog : Program} {w : World} {A : Around} {E : Value → Shared → Prop} {env : Env} {Q : Bool → Shared → Prop} : ∀ (ifs : List Expr) {s : Shared},Q false s →
  wpAny (model prog w) A (forIn ifs false fun c r => if r = true then do let ok ← PySem.isTrue c env (eval c env); pure (ForInStep.yield ok) else pure (ForInStep.yield r)) Q E s
 | [],s,h => by rw [List.forIn_nil]; exact wpAny_pure h
 | c :: cs,s,h => by
  rw [List.forIn_cons]
  rw [if_neg (by simp)]
  refine wpAny_bind (wpAny_pure ?_)
  exact qK6 cs h
theorem qVZ : PTs X [] qBN:=fun pins s σ H Q I ⟨P,α,env,S,r,re,af⟩ => by
 unfold qHg
 rw [List.forIn_nil]
 exact wpAny_pure ⟨H,I,af H P α r (qAK.refl _) (List.prefix_refl _)⟩
theorem qTk {c : Expr} {cs : List Expr} {t u : DT} (h1 : PT X c (tDT X t)) (h2 : PTs X cs u) : PTs X (c :: cs) (qE1 t u):=fun pins s σ H Q I ⟨P,α,env,S,r,re,af⟩ => by
 unfold qHg
 rw [List.forIn_cons,if_pos rfl]
 refine wpAny_bind (wpAny_bind (thn (qLs (fun Q' q => h1 pins s σ H Q' I q) r re af) fun b s1 ⟨H1,P1,α1,S1,I1,r1,re1,e1,e2,af1⟩ => wpAny_pure ?_))
 cases b with
 | true => exact h2 pins s1 σ H1 Q I1 ⟨P1,α1,env,S1,r1,re1,qIR.base e1 e2 af1⟩
 | false => exact qK6 cs ⟨H1,I1,af1 H1 P1 α1 r1 e1 e2⟩
theorem qaV {e : Expr} {f : DE} {pins : List (Addr × Obj)} {s : Shared} {σ : _L.St} {H P : Hp} {α : List Addr} {env : qAH} {S : Sto} {d : D} {S1 : Sto} (he : PE X e (tD X f)) (I : Inv X pins σ H s) (r : Rel X.K H P α S) (re : qAt X.K P α σ env) (q : f env S = .ok d S1) :
  wpAny (model X.prog X.w) X.A (eval e X.env) (fun u s1 => ∃ v H1 P1 α1,Got X pins σ env P α u s1 v H1 P1 α1 d S1) X.xe s:=by
 refine thn (qBr (g:=fun d S => Res.ok d S) (Ok:=fun d' S' => d' = d ∧ S' = S1) he I r re (by rw [q]; exact ⟨rfl,rfl⟩)) fun u s1 ⟨v,H1,P1,α1,d',S',G,h1,h2⟩ => ?_
 have e1 : d' = d:=h1
 have e2 : S' = S1:=h2
 subst e1; subst e2
 exact ⟨v,H1,P1,α1,G⟩
theorem qZt {ifs : List Expr} {t : DT} {pins : List (Addr × Obj)} {s : Shared} {σ : _L.St} {H P : Hp} {α : List Addr} {env : qAH} {S : Sto} {b : Bool} {S1 : Sto} (he : PTs X ifs t) (I : Inv X pins σ H s) (r : Rel X.K H P α S) (re : qAt X.K P α σ env) (q : t env S = .ok b S1) :
  wpAny (model X.prog X.w) X.A (qHg ifs X.env) (fun b' s1 => b' = b ∧ ∃ H1 P1 α1,Inv X pins σ H1 s1 ∧ Rel X.K H1 P1 α1 S1 ∧ qAt X.K P1 α1 σ env ∧ qAK P P1 ∧ α <+: α1) X.xe s:=by
 refine thn (he pins s σ H (fun b' H1 => b' = b ∧ ∃ P1 α1,Rel X.K H1 P1 α1 S1 ∧ qAt X.K P1 α1 σ env ∧ qAK P P1 ∧ α <+: α1) I ⟨P,α,env,S,r,re,?_⟩) fun b' s1 ⟨H1,I1,e,P1,α1,q1,q2,q3,q4⟩ => ⟨e,H1,P1,α1,I1,q1,q2,q3,q4⟩
 rw [q]
 exact fun H' P' α' r' e1 e2 => ⟨rfl,P',α',r',re.mono e1 e2,e1,e2⟩
theorem qaW {tg : Expr} {g : DG} {pins : List (Addr × Obj)} {s : Shared} {σ : _L.St} {H P : Hp} {α : List Addr} {env env1 : qAH} {S : Sto} {d : D} {v : V} {u : Value} {S1 : Sto} (hg : PG X tg (tDG X g)) (I : Inv X pins σ H s) (r : Rel X.K H P α S) (re : qAt X.K P α σ env) (rv : qAY v u)
  (rp : Rep X.K P α d v) (q : g d env S = .ok env1 S1) :
  wpAny (model X.prog X.w) X.A (assign tg X.env u) (fun _ s1 => ∃ σ1 H1 P1 α1,Inv X pins σ1 H1 s1 ∧ Rel X.K H1 P1 α1 S1 ∧ qAt X.K P1 α1 σ1 env1 ∧ qAK P P1 ∧ α <+: α1) X.xe s:=by
 refine thn (hg pins s σ H v u (fun σ1 H1 => ∃ P1 α1,Rel X.K H1 P1 α1 S1 ∧ qAt X.K P1 α1 σ1 env1 ∧ qAK P P1 ∧ α <+: α1) I rv ⟨P,α,env,S,d,r,re,rp,?_⟩) fun _ s1 ⟨σ1,H1,I1,P1,α1,q1,q2,q3,q4⟩ => ⟨σ1,H1,P1,α1,I1,q1,q2,q3,q4⟩
 rw [q]
 exact fun σ' H' P' α' r' re' e1 e2 => ⟨P',α',r',re',e1,e2⟩
noncomputable def qMc (K : PySem.W.Frag) (P : Hp) (α : List Addr) (ds : List D) (o : Obj) : Prop:=∃ (its : List Value) (n : Nat) (vs : List V),o = { cls:=.type "list",data:=.seq its.toArray n } ∧ qAZ vs its ∧ qAL K P α ds vs ∧ ds.length ≤ lim
theorem qMc.mono {K : PySem.W.Frag} {P P1 : Hp} {α α1 : List Addr} {ds : List D} {o : Obj} (e : qAK P P1) (h : α <+: α1) (a : qMc K P α ds o) : qMc K P1 α1 ds o:=by
 obtain ⟨its,n,vs,q1,q2,q3,q4⟩:=a
 exact ⟨its,n,vs,q1,q2,qAL.mono e h _ _ q3,q4⟩
theorem qMc.cell {K : PySem.W.Frag} {P : Hp} {α : List Addr} {ds : List D} {o : Obj} (a : qMc K P α ds o) : ∀ v,o.data ≠ .cell v:=by
 obtain ⟨its,n,vs,rfl,_⟩:=a
 intro v z; cases z
theorem Inv.pin1 {pins : List (Addr × Obj)} {σ : _L.St} {H : Hp} {s : Shared} {a : Addr} {o : Obj} (I : Inv X pins σ H s) (f : qB4 X pins H a) (e : s.heap.get? a = some o) (d : ∀ v,o.data ≠ .cell v) : Inv X (pins ++ [(a,o)]) σ H s :=
 I.pins_of fun p hp => (List.mem_append.mp hp).elim (fun z => I.pin p (List.mem_append_right _ z)) fun z => by
  have e' : p = (a,o):=by simpa using z
  subst e'
  exact ⟨e,f.1,f.2.1,f.2.2.1,d⟩
theorem Inv.pinned1 {pins : List (Addr × Obj)} {σ : _L.St} {H : Hp} {s : Shared} {a : Addr} {o : Obj} (I : Inv X (pins ++ [(a,o)]) σ H s) : s.heap.get? a = some o ∧ H a = none:=by
 have:=I.pin (a,o) (List.mem_append_right _ (List.mem_append_right _ (by simp)))
 exact ⟨this.1,this.2.1⟩
end
end _D
end
section
namespace _D
open PySem PySem.Spec PyProof.Rows _L
structure TurnSt (Y : Cx) (pins : List (Addr × Obj)) (P1 : Hp) (α1 : List Addr) (fp : List Addr) (acc : Addr) (env : qAH) (S : Sto) (ds : List D) (s : Shared) (σ : _L.St) (H P : Hp) (α : List Addr) (o : Obj) : Prop where
 inv : Inv Y pins σ H s
 rel : Rel Y.K H P α S
 env : qAt Y.K P α σ env
 same : qAK P1 P
 pre : α1 <+: α
 fpn : ∀ b ∈ fp,H b = none
 acn : H acc = none
 at' : s.heap.get? acc = some o
 acc : qMc Y.K P α ds o
end _D
end
section
namespace _D
open PySem PySem.Spec PyProof.Rows _L
noncomputable def qC4 (cells : List (Str × Addr)) : List (Str × NameKind) → List (Str × Addr) → List (Str × Addr)
 | [],cs => cs
 | (n,k) :: r,cs => qC4 cells r (if k == .free then (n,(cells.lookup n).getD 0) :: cs else cs)
theorem qOF {env : Env} {scope : Scope} (h : ∀ y ∈ scope.names,y.2 = .free → ∃ c,env.cells.lookup y.1 = some c) : closureFor scope env = pure (qC4 env.cells scope.names []):=by
 have go : ∀ (l : List (Str × NameKind)) (cs : List (Str × Addr)),(∀ y ∈ l,y.2 = .free → ∃ c,env.cells.lookup y.1 = some c) →
   (forIn l cs fun x cs => match x with | (name,kind) => if (kind == NameKind.free) = true then do let a ← cellOf env name; pure (ForInStep.yield ((name,a) :: cs)) else pure (ForInStep.yield cs) : Sem (List (Str × Addr))) = pure (qC4 env.cells l cs):=by
  intro l
  induction l with
  | nil => intro cs _; rfl
  | cons y r ih =>
   intro cs hl
   obtain ⟨n,k⟩:=y
   rw [List.forIn_cons]
   by_cases hk : k = .free
   ·subst hk
    obtain ⟨c,hc⟩:=hl (n,.free) List.mem_cons_self rfl
    have hc' : env.cells.lookup n = some c:=hc
    have e : cellOf env n = pure c:=by unfold cellOf; rw [hc']
    simp only [beq_self_eq_true,if_true,e,pure_bind]
    rw [ih _ fun z hz => hl z (List.mem_cons_of_mem _ hz)]
    simp only [qC4,beq_self_eq_true,if_true,hc',Option.getD_some]
   ·have hb : (k == NameKind.free) = false:=by simpa using hk
    simp only [hb,Bool.false_eq_true,if_false,pure_bind]
    rw [ih _ fun z hz => hl z (List.mem_cons_of_mem _ hz)]
    simp only [qC4,hb,Bool.false_eq_true,if_false]
 unfold closureFor
 have:=go scope.names [] h
 simp only [bind_pure]
 exact this
theorem qKy {cells : List (Str × Addr)} {x : Str} {c : Addr} : ∀ (l : List (Str × NameKind)) (cs : List (Str × Addr)),(qC4 cells l cs).lookup x = some c → cs.lookup x = some c ∨ ((x,NameKind.free) ∈ l ∧ c = (cells.lookup x).getD 0)
 | [],cs,h => .inl h
 | (n,k) :: r,cs,h => by
  rcases qKy r _ h with h | ⟨h1,h2⟩
  ·by_cases hk : k = .free
   ·subst hk
    simp only [beq_self_eq_true,if_true,List.lookup_cons] at h
    cases hb : x == n with
    | true =>
     rw [hb] at h
     have e : x = n:=by simpa using hb
     subst e
     exact .inr ⟨List.mem_cons_self,(Option.some.inj h).symm⟩
    | false => rw [hb] at h; exact .inl h
   ·have hb : (k == NameKind.free) = false:=by simpa using hk
    simp only [hb,Bool.false_eq_true,if_false] at h
    exact .inl h
  ·exact .inr ⟨List.mem_cons_of_mem _ h1,h2⟩
theorem qJ7 {cells : List (Str × Addr)} {x : Str} : ∀ (l : List (Str × NameKind)) (cs : List (Str × Addr)),((x,NameKind.free) ∈ l ∨ ∃ c,cs.lookup x = some c) → ∃ c,(qC4 cells l cs).lookup x = some c
 | [],cs,h => by
  rcases h with h | h
  ·cases h
  ·exact h
 | (n,k) :: r,cs,h => by
  refine qJ7 r _ ?_
  rcases h with h | ⟨c,h⟩
  ·rcases List.mem_cons.mp h with e | h
   ·cases e
    exact .inr ⟨(cells.lookup x).getD 0,by simp only [beq_self_eq_true,if_true,List.lookup_cons]⟩
   ·exact .inl h
  ·by_cases hk : k = .free
   ·subst hk
    simp only [beq_self_eq_true,if_true,List.lookup_cons]
    cases hb : x == n with
    | true => exact .inr ⟨_,rfl⟩
    | false => exact .inr ⟨c,h⟩
   ·have hb : (k == NameKind.free) = false:=by simpa using hk
    simp only [hb,Bool.false_eq_true,if_false]
    exact .inr ⟨c,h⟩
structure CompSc (scX : Scope) (NX : List Str) (scope : Scope) (N' : List Str) (cap : List (Option Nat)) : Prop where
 kind : scope.kind = .function
 names : ∀ y ∈ scope.names,y.2 = .local → scope.names.lookup y.1 = some .local
 nocell : ∀ y ∈ scope.names,y.2 ≠ .cell
 free : ∀ y ∈ scope.names,y.2 = .free → scX.names.lookup y.1 = some .cell ∨ scX.names.lookup y.1 = some .free
 fr2 : ∀ y ∈ scope.names,y.2 = .free → scope.names.lookup y.1 = some .free
 len : cap.length = N'.length
 caps : ((cap.zip N').all fun p => match p.1 with | none => true | some i => NX[i]? == some p.2 && scope.names.lookup p.2 == some .free) = true
 nd : N'.Nodup
noncomputable def qE9 (cap : List (Option Nat)) (σ : _L.St) : _L.St:=cap.map fun o => match o with
 | none => none
 | some i => (σ[i]?).join
noncomputable def qBT (cap : List (Option Nat)) (env : qAH) : qAH:=cap.map fun o => match o with
 | none => none
 | some i => (env[i]?).join
theorem qSv {K : PySem.W.Frag} {P : Hp} {α : List Addr} {σ : _L.St} {env : qAH} (re : qAt K P α σ env) (cap : List (Option Nat)) : qAt K P α (qE9 cap σ) (qBT cap env):=by
 refine ⟨by simp [qE9,qBT],fun j d e => ?_⟩
 unfold qBT at e
 unfold qE9
 rw [List.getElem?_map] at e ⊢
 cases q : cap[j]? with
 | none => rw [q] at e; cases e
 | some o =>
  rw [q] at e
  cases o with
  | none => cases e
  | some i =>
   have e' : (env[i]?).join = some d:=by simpa using e
   cases z : env[i]? with
   | none => rw [z] at e'; cases e'
   | some w =>
    rw [z] at e'
    have e'' : w = some d:=e'
    subst e''
    obtain ⟨v,h1,h2⟩:=re.2 i d z
    exact ⟨v,by simp [h1],h2⟩
noncomputable def qAw (X : Cx) (N' : List Str) (scope : Scope) (cl : List (Str × Addr)) (C : Addr) (ex : List Addr) (s₀ : Shared) (H₀ : Hp) : Cx :=
 { X with N:=N',s₀:=s₀,H₀:=H₀,env:=compEnvC scope cl C X.env,outer:=X.stack,stack:=X.stack,ex:=ex,fn:=fun _ => false,pn:=[],xe:=fun _ _ => False }
theorem qHd {scope : Scope} {env : Env} : ∀ {names : List (Str × NameKind)} {x : Str} {k : NameKind},
  (names.map fun (n,k) => if (k == NameKind.free && env.scope.kind == .function && env.kindOf n == some .cell) then (n,NameKind.cell) else (n,k)).lookup x = some k →
  names.lookup x = some k ∨ (k = .cell ∧ names.lookup x = some .free)
 | [],_,_,h => by simp at h
 | (n,k0) :: r,x,k,h => by
  rw [List.map_cons,List.lookup_cons] at h
  rw [List.lookup_cons]
  dsimp only at h
  cases hb : (k0 == NameKind.free && env.scope.kind == .function && env.kindOf n == some .cell) with
  | true =>
   rw [hb] at h
   simp only [if_true] at h
   cases hx : x == n with
   | true =>
    rw [hx] at h
    have e : NameKind.cell = k:=Option.some.inj h
    have hk : k0 = .free:=by
     have:=(Bool.and_eq_true _ _).mp hb
     have:=(Bool.and_eq_true _ _).mp this.1
     simpa using this.1
    subst hk
    exact .inr ⟨e.symm,rfl⟩
   | false => rw [hx] at h; exact qHd (scope:=scope) h
  | false =>
   rw [hb] at h
   simp only [Bool.false_eq_true,if_false] at h
   cases hx : x == n with
   | true => rw [hx] at h; exact .inl h
   | false => rw [hx] at h; exact qHd (scope:=scope) h
section
variable {X : Cx} {scope : Scope} {N' : List Str} {cap : List (Option Nat)} {pins : List (Addr × Obj)} {σ : _L.St} {H2 : Hp} {s2 : Shared} {fp : List Addr}
theorem qJB (S : CompSc X.env.scope X.N scope N' cap) {x : Str} {k : NameKind} (h : (relabel scope X.env).names.lookup x = some k) : scope.names.lookup x = some k ∨ (k = .cell ∧ scope.names.lookup x = some .free):=qHd (scope:=scope) h
theorem qCX (S : CompSc X.env.scope X.N scope N' cap) (ok : X.Ok) {x : Str} {c : Addr} (h : (qC4 X.env.cells scope.names []).lookup x = some c) : X.env.cells.lookup x = some c:=by
 rcases qKy _ _ h with h | ⟨hm,hc⟩
 ·cases h
 ·have:=S.free _ hm rfl
  obtain ⟨c',hc'⟩:=ok.has x this
  rw [hc',Option.getD_some] at hc
  rw [hc',hc]
theorem qVG {C : Addr} (S : CompSc X.env.scope X.N scope N' cap) (I2 : Inv X pins σ H2 s2) (hf : ∀ b ∈ fp,qB4 X pins H2 b) (hlt : ∀ b ∈ fp,b < s2.heap.objs.size) (hC : s2.heap.objs.size ≤ C) :
  (qAw X N' scope (qC4 X.env.cells scope.names []) C fp s2 H2).Ok where
 mod:=I2.ok.mod
 kind:=S.kind
 glob:=I2.ok.glob
 blt:=I2.ok.blt
 above:=hC
 inj:=fun x y c h1 h2 => I2.ok.inj x y c (qCX S I2.ok h1) (qCX S I2.ok h2)
 has:=fun x hx => by
  have hx' : (relabel scope X.env).names.lookup x = some .cell ∨ (relabel scope X.env).names.lookup x = some .free:=hx
  have hf : scope.names.lookup x = some .free:=by
   rcases hx' with h | h
   ·rcases qJB S h with h | ⟨_,h⟩
    ·exact absurd rfl (S.nocell _ (PySem.mem_of_lookup h))
    ·exact h
   ·rcases qJB S h with h | ⟨z,_⟩
    ·exact h
    ·cases z
  exact qJ7 _ _ (.inl (PySem.mem_of_lookup hf))
 cab:=fun x c h _ => by cases h
 hd:=I2.ok.hd
 frames:=I2.ok.frames
 stk:=.inl rfl
 exf:=fun b hb => ⟨Nat.ne_of_lt (Nat.lt_of_lt_of_le (hlt b hb) hC),fun x c h => (hf b hb).2.2.2.2.1 x c (qCX S I2.ok h)⟩
 bs:=I2.bs
 bsz:=Nat.le_trans I2.ok.bsz I2.sz
 noex:=fun b o e hb => by
  obtain ⟨_,_,_,h,_⟩:=hf b hb
  rcases h with h | h
  ·exact I2.ok.noex b o e h
  ·exact absurd (Nat.lt_of_lt_of_le (Heap.lt_size e) (Nat.le_trans I2.ok.bsz h)) (Nat.lt_irrefl _)
 exfs:=fun b hb hb2 => by
  obtain ⟨_,h1,h2,_⟩:=hf b hb
  rcases List.mem_cons.mp (I2.stkSub b hb2) with z | z
  ·exact h1 z
  ·exact h2 z
 funs:=I2.stack
 frf:=I2.stkFree
theorem qTS {s4 : Shared} {C : Addr} {m : Str → Option Value} (S : CompSc X.env.scope X.N scope N' cap) (I2 : Inv X pins σ H2 s2) (hf : ∀ b ∈ fp,qB4 X pins H2 b) (hlt : ∀ b ∈ fp,b < s2.heap.objs.size) (hC : s2.heap.objs.size ≤ C)
  (hn : s4.heap.Ns C m) (os : s4.os = s2.os) (gens : s4.gens = s2.gens) (keep : ∀ b o,s2.heap.get? b = some o → s4.heap.get? b = some o) :
  Inv (qAw X N' scope (qC4 X.env.cells scope.names []) C fp s2 H2) [] (qE9 cap σ) H2 s4 where
 ok:=qVG S I2 hf hlt hC
 os:=os
 bare:=gens ▸ I2.bare
 base:=Un.kept keep
 loc:=by
  refine ⟨m,hn,fun j x v h1 h2 h3 => ?_⟩
  have h1' : N'[j]? = some x:=h1
  unfold qE9 at h2
  rw [List.getElem?_map] at h2
  cases q : cap[j]? with
  | none => rw [q] at h2; cases h2
  | some o =>
   rw [q] at h2
   cases o with
   | none => cases h2
   | some i =>
    have e' : (σ[i]?).join = some v:=by simpa using h2
    have hσ : σ[i]? = some (some v):=by
     cases z : σ[i]? with
     | none => rw [z] at e'; cases e'
     | some w => rw [z] at e'; have : w = some v:=e'; rw [this]
    have hz : (some i,x) ∈ cap.zip N':=by
     refine List.mem_iff_getElem?.mpr ⟨j,?_⟩
     rw [List.getElem?_zip_eq_some]
     exact ⟨q,h1'⟩
    have hc:=List.all_eq_true.mp S.caps _ hz
    simp only [Bool.and_eq_true,beq_iff_eq] at hc
    obtain ⟨hN,hfr⟩:=hc
    have hk:=S.free _ (PySem.mem_of_lookup hfr) rfl
    obtain ⟨mo,hmo,hl⟩:=I2.loc
    have vis : Vis X.env.scope x:=by
     rcases hk with k | k
     ·exact .inr (.inl k)
     ·exact .inr (.inr k)
    obtain ⟨u,ru,lk⟩:=hl i x v hN hσ vis
    refine ⟨u,ru,?_⟩
    rcases lk with ⟨kl,_⟩ | ⟨_,c,hcl,hcell⟩
    ·have kl' : X.env.scope.names.lookup x = some .local:=kl
     rcases hk with k | k
     ·have k' : X.env.scope.names.lookup x = some .cell:=k
      rw [kl'] at k'; cases k'
     ·have k' : X.env.scope.names.lookup x = some .free:=k
      rw [kl'] at k'; cases k'
    ·obtain ⟨c',hc'⟩:=qJ7 (cells:=X.env.cells) scope.names [] (.inl (PySem.mem_of_lookup hfr))
     have e2:=qCX S I2.ok hc'
     rw [hcl] at e2; cases e2
     refine .inr ⟨?_,c,hc',?_⟩
     ·have h3' : Vis (relabel scope X.env) x:=h3
      rcases h3' with h | h | h
      ·rcases qJB S h with h | ⟨z,_⟩
       ·rw [hfr] at h; cases h
       ·cases z
      ·exact .inl h
      ·exact .inr h
     ·obtain ⟨ob,hob,hd⟩:=hcell
      exact ⟨ob,keep c ob hob,hd⟩
 cell:=fun x c h => by
  obtain ⟨v,ob,hob,hd⟩:=I2.cell x c (qCX S I2.ok h)
  exact ⟨v,ob,keep c ob hob,hd⟩
 free:=I2.hok.fresh hC
 freeC:=fun x c h => I2.freeC x c (qCX S I2.ok h)
 pin:=fun p hp => absurd (show p ∈ ([] : List (Addr × Obj)) from hp) (by simp)
 hok:=I2.hok.kept keep
 len:=by
  show (qE9 cap σ).length = N'.length
  simp [qE9,S.len]
end
end _D
end
section
namespace _D
open PySem PySem.Spec PyProof.Rows _L
theorem qSK {P : Program} {w : World} {H : Hp} {h : Heap} {a : Addr} {o : HO} (x : HOk P w H h) (hn : H a = none) (new : qBG P w (upd H a o) h a o) : HOk P w (upd H a o) h:=fun b u e => by
 by_cases hb : b = a
 ·subst hb; rw [qAz] at e; cases e; exact new
 ·rw [qAb hb] at e
  exact (x b u e).stay (fun c v _ q => q) (fun c q => by rw [qAb (qAv q hn)]; exact q) fun c xs q => by rw [qAb (qAv q hn)]; exact q
theorem qSJ {P : Program} {w : World} {H : Hp} {h h' : Heap} {C : Addr} (x : HOk P w H h) (hn : H C = none) (k : ∀ b o,b ≠ C → h.get? b = some o → h'.get? b = some o) : HOk P w H h':=fun b u e =>
 (x b u e).stay (fun c v hc q => k c v (by
  rintro rfl
  rcases hc with z | z
  ·subst z; rw [hn] at e; cases e
  ·rw [hn] at z; cases z) q) (fun _ q => q) fun _ _ q => q
section
variable {X : Cx} {elt tg iter : Expr} {ifs : List Expr} {scope : Scope} {pos : Pos} {N' : List Str} {cap : List (Option Nat)} {fi : DI} {g : DG} {t : DT} {fe : DE}
noncomputable def qKW (X : Cx) (pins : List (Addr × Obj)) (σ : _L.St) (P1 : Hp) (α1 : List Addr) (ds : List D) (SF : Sto) (acc C : Addr) (s : Shared) : Prop :=
 ∃ (H' P' : Hp) (α' : List Addr) (vs : List V),Inv X pins σ (upd H' acc (.lst vs)) s ∧ Rel X.K H' P' α' SF ∧ H' acc = none ∧ qAK P1 P' ∧ α1 <+: α' ∧ qAL X.K P' α' ds vs ∧ H' C = none
theorem qTR {Y : Cx} {pins : List (Addr × Obj)} {σ σ' : _L.St} {H2 : Hp} {s2 s' : Shared} {fp : List Addr} {acc C : Addr} {P1 : Hp} {α1 : List Addr} {H' P' : Hp} {α' : List Addr} {envF : qAH} {SF : Sto} {ds : List D} {o : Obj} {cl : List (Str × Addr)} (I2 : Inv X pins σ H2 s2)
  (hf : ∀ b ∈ fp,qB4 X pins H2 b) (hY : Y = qAw X N' scope cl C fp s2 H2) (hC : s2.heap.objs.size ≤ C) (hA : s2.heap.objs.size ≤ acc) (hne : acc ≠ C) (st : TurnSt Y [] P1 α1 fp acc envF SF ds s' σ' H' P' α' o)
  {h' : Heap} (sb : Heap.SameBut C s'.heap h') : qKW X pins σ P1 α1 ds SF acc C { s' with heap:=h' }:=by
 subst hY
 obtain ⟨its,n,vs,rfl,rv,rp,hz⟩:=st.acc
 have kC : ∀ b o,b ≠ C → s'.heap.get? b = some o → h'.get? b = some o:=fun b o hb e => (sb.2 b hb).trans e
 have nC : ∀ b o,s2.heap.get? b = some o → b ≠ C:=fun b o e => Nat.ne_of_lt (Nat.lt_of_lt_of_le (Heap.lt_size e) hC)
 have nA : ∀ b o,s2.heap.get? b = some o → b ≠ acc:=fun b o e => Nat.ne_of_lt (Nat.lt_of_lt_of_le (Heap.lt_size e) hA)
 have base : Un (frs X.stack) fp H2 H' s2.heap s'.heap:=st.inv.base
 have nt : ∀ b u,H' b = some u → b ≠ acc:=fun b u e => qAv e st.acn
 have un : Un (frs X.stack) fp H2 (upd H' acc (.lst vs)) s2.heap h':=by
  refine ⟨fun b ob q hn hb hx => kC b ob (nC b ob q) (base.keep b ob q hn hb hx),fun b ob q hn hb hx => ?_,fun b ob q hn hx => ?_,fun b ob q hx => ?_,fun b xs q => ?_,fun b ob u q => ?_,fun b ps q => ?_⟩
  ·obtain ⟨sl,e⟩:=base.slot b ob q hn hb hx
   exact ⟨sl,kC b _ (nC b ob q) e⟩
  ·rw [qAb (nA b ob q)]; exact base.free b ob q hn hx
  ·obtain ⟨o',e⟩:=base.there b ob q hx
   exact ⟨o',kC b o' (nC b ob q) e⟩
  ·have:=base.tups b xs q; rw [qAb (nt _ _ this)]; exact this
  ·have:=base.frzs b ob u q; rw [qAb (nt _ _ this)]; exact this
  ·obtain ⟨more,e⟩:=base.tbls b ps q
   exact ⟨more,by rw [qAb (nt _ _ e)]; exact e⟩
 have hok' : HOk X.prog X.w H' h':=qSJ st.inv.hok st.inv.free kC
 have hat : h'.get? acc = some { cls:=.type "list",data:=.seq its.toArray n }:=kC acc _ hne st.at'
 have hok : HOk X.prog X.w (upd H' acc (.lst vs)) h':=qSK hok' st.acn ⟨by rw [← rp.length,← qBR]; exact hz,its,n,rv,hat⟩
 refine ⟨H',P',α',vs,?_,st.rel,st.acn,st.same,st.pre,rp,st.inv.free⟩
 exact I2.call' (s':={ s' with heap:=h' }) (ch:=fp) (st.inv.os) un hok st.inv.bare fun b hb => by
  obtain ⟨_,h1,h2,h3,h4,h5⟩:=hf b hb
  exact ⟨h3,h1,h4,h5⟩
theorem qQT (S : CompSc X.env.scope X.N scope N' cap) (ok : X.Ok) : closureFor scope X.env = pure (qC4 X.env.cells scope.names []):=qOF fun y hy hk => ok.has y.1 (S.free y hy hk)
theorem qVa {pins : List (Addr × Obj)} {σ : _L.St} {P1 : Hp} {α1 : List Addr} {ds : List D} {SF : Sto} {acc C : Addr} {s : Shared} {Q : VK} (c : qKW X pins σ P1 α1 ds SF acc C s) (ok : OkV X P1 α1 Q (.lst ds) SF) : EP X pins σ Q (.ref acc) s:=by
 obtain ⟨H',P',α',vs,I,r,hn,e1,e2,rp,_⟩:=c
 exact ⟨.ref acc,_,I,rfl,qHa r hn rp fun v H2 P2 α2 r2 q1 q2 q3 => ok v H2 P2 α2 r2 (e1.trans q1) (e2.trans q2) q3⟩
end
end _D
end
section
namespace _D
open PySem PySem.Spec PyProof.Rows _L PySem.SeqAt
noncomputable def b01 (b : Bool) : Int:=if b then 1 else 0
mutual
noncomputable def eqD : D → D → Bool
 | .non,.non => true
 | .bl a,.bl b => a == b
 | .bl a,.int b => b01 a == b
 | .int a,.bl b => a == b01 b
 | .int a,.int b => a == b
 | .str a,.str b => a == b
 | .tup xs,.tup ys => qDT xs ys
 | .lst xs,.lst ys => qDT xs ys
 | _,_ => false
noncomputable def qDT : List D → List D → Bool
 | [],[] => true
 | x :: xs,y :: ys => eqD x y && qDT xs ys
 | _,_ => false
end
noncomputable def pl : Nat → D → Bool
 | _,.non => true
 | _,.bl _ => true
 | _,.int _ => true
 | _,.str _ => true
 | n + 1,.tup xs => xs.all (pl n)
 | n + 1,.lst xs => xs.all (pl n)
 | _,_ => false
theorem qSB (x y : D) (xs ys : List D) : qDT (x :: xs) (y :: ys) = (eqD x y && qDT xs ys):=rfl
theorem qHE : ∀ (xs ys : List D),qDT xs ys = ((List.range (min xs.length ys.length)).all (fun j => eqD (xs.getD j .non) (ys.getD j .non)) && xs.length == ys.length)
 | [],[] => rfl
 | [],y :: ys => rfl
 | x :: xs,[] => rfl
 | x :: xs,y :: ys => by
  have ih:=qHE xs ys
  rw [qSB,ih,List.length_cons,List.length_cons,Nat.succ_min_succ,List.range_succ_eq_map,List.all_cons,List.all_map,Bool.and_assoc]
  have e : (xs.length + 1 == ys.length + 1) = (xs.length == ys.length):=by simp
  rw [e]
  rfl
theorem qTp {xs ys : List D} (h : xs.length ≠ ys.length) : qDT xs ys = false:=by
 rw [qHE]
 simp [h]
theorem qM7 (xs ys : List D) : eqD (.tup xs) (.tup ys) = qDT xs ys:=rfl
theorem qM6 (xs ys : List D) : eqD (.lst xs) (.lst ys) = qDT xs ys:=rfl
section
variable {X : Cx} {pins : List (Addr × Obj)} {σ : _L.St} {H P : Hp} {α : List Addr} {S : Sto} {s : Shared}
inductive Kd (X : Cx) (P : Hp) (α : List Addr) (s : Shared) : D → Value → Prop where
 | non : Kd X P α s .non .none
 | bl (b : Bool) : Kd X P α s (.bl b) (.bool b)
 | int (i : Int) (t : Tok) : Kd X P α s (.int i) (.int i t)
 | str (x : Str) (t : Tok) : Kd X P α s (.str x) (.str x t)
 | tup (a : Addr) (xs : List D) (its : List Value) (vs : List V) (rp : qAL X.K P α xs vs) (rv : qAZ vs its) (h : s.heap.IsTuple a its.toArray) (q : SqT X.K P a vs) : Kd X P α s (.tup xs) (.ref a)
 | lst (a : Addr) (xs : List D) (its : List Value) (vs : List V) (rp : qAL X.K P α xs vs) (rv : qAZ vs its) (h : s.heap.IsList a its.toArray) (q : SqX X.K P a vs) : Kd X P α s (.lst xs) (.ref a)
theorem qH4 (I : Inv X pins σ H s) (r : Rel X.K H P α S) {n : Nat} {d : D} {v : V} {u : Value} (h : pl n d = true) (p : Rep X.K P α d v) (rv : qAY v u) : Kd X P α s d u:=by
 cases d with
 | non => simp only [Rep] at p; subst p; cases rv; exact .non
 | bl b => simp only [Rep] at p; subst p; cases rv; exact .bl b
 | int i => simp only [Rep] at p; subst p; obtain ⟨t,rfl⟩:=rv; exact .int i t
 | str x => simp only [Rep] at p; subst p; obtain ⟨t,rfl⟩:=rv; exact .str x t
 | tup xs =>
  simp only [Rep] at p
  obtain ⟨a,vs,rfl,q,t⟩:=p
  cases rv
  obtain ⟨its,r1,p1,_⟩:=I.tuple (qC0 r.sub q)
  exact .tup a xs its vs t r1 p1 q
 | lst xs =>
  simp only [Rep] at p
  obtain ⟨a,vs,rfl,q,t⟩:=p
  cases rv
  obtain ⟨its,r1,p1,_⟩:=I.list ((qCO r.sub q).l)
  exact .lst a xs its vs t r1 p1.isList q
 | _ => cases n <;> exact Bool.noConfusion h
theorem qFQ {ds : List D} {vs : List V} {its : List Value} (rp : qAL X.K P α ds vs) (rv : qAZ vs its) {j : Nat} (h : j < its.toArray.size) : ∃ v,Rep X.K P α (ds.getD j .non) v ∧ qAY v its.toArray[j] ∧ ds.getD j .non ∈ ds:=by
 have l1:=rp.length
 have l2:=rv.length
 have hj : j < its.length:=by simpa using h
 have hd : j < ds.length:=by omega
 obtain ⟨v,e1,p⟩:=rp.get (List.getElem?_eq_getElem hd)
 obtain ⟨u,e2,q⟩:=rv.get e1
 have e3 : its.toArray[j] = u:=by
  have : its[j]? = some its[j]:=List.getElem?_eq_getElem hj
  rw [this] at e2
  simpa using Option.some.inj e2
 have e4 : ds.getD j .non = ds[j]:=by simp [List.getD,hd]
 rw [e3,e4]
 exact ⟨v,p,q,List.getElem_mem hd⟩
theorem qH8 {n : Nat} {ds : List D} (h : ds.all (pl n) = true) {d : D} (hd : d ∈ ds) : pl n d = true:=List.all_eq_true.mp h d hd
theorem qVp {h : Heap} {a : Addr} {xs ys : Array Value} (h1 : h.IsTuple a xs) (h2 : h.IsTuple a ys) : xs = ys:=by
 obtain ⟨o,e,_,n,d⟩:=h1
 obtain ⟨o',e',_,n',d'⟩:=h2
 cases e.symm.trans e'
 cases d.symm.trans d'
 rfl
theorem qVo {h : Heap} {a : Addr} {xs ys : Array Value} (h1 : h.IsList a xs) (h2 : h.IsList a ys) : xs = ys:=by
 obtain ⟨o,e,_,n,d⟩:=h1
 obtain ⟨o',e',_,n',d'⟩:=h2
 cases e.symm.trans e'
 cases d.symm.trans d'
 rfl
theorem qXn {h : Heap} {a : Addr} {xs ys : Array Value} (h1 : h.IsTuple a xs) (h2 : h.IsList a ys) : False:=by
 obtain ⟨o,e,c,_⟩:=h1
 obtain ⟨o',e',c',_⟩:=h2
 cases e.symm.trans e'
 exact absurd (c.symm.trans c') (by decide)
inductive Seqs (X : Cx) (P : Hp) (α : List Addr) (xs ys : List D) (its its2 : List Value) : Prop
 | mk (vs ws : List V) (rp : qAL X.K P α xs vs) (rv : qAZ vs its) (rp2 : qAL X.K P α ys ws) (rv2 : qAZ ws its2) : Seqs X P α xs ys its its2
theorem Seqs.len1 {xs ys : List D} {its its2 : List Value} (q : Seqs X P α xs ys its its2) : xs.length = its.length:=by
 obtain ⟨vs,ws,rp,rv,_,_⟩:=q
 exact rp.length.trans rv.length
theorem Seqs.len2 {xs ys : List D} {its its2 : List Value} (q : Seqs X P α xs ys its its2) : ys.length = its2.length:=by
 obtain ⟨vs,ws,_,_,rp,rv⟩:=q
 exact rp.length.trans rv.length
inductive SameR (X : Cx) (P : Hp) (α : List Addr) : D → D → Prop
 | eq {d d' : D} (h : eqD d d' = true) : SameR X P α d d'
 | tt (xs ys : List D) (its : List Value) (q : Seqs X P α xs ys its its) : SameR X P α (.tup xs) (.tup ys)
 | ll (xs ys : List D) (its : List Value) (q : Seqs X P α xs ys its its) : SameR X P α (.lst xs) (.lst ys)
theorem qQ1 {d d' : D} {u : Value} (k1 : Kd X P α s d u) (k2 : Kd X P α s d' u) : SameR X P α d d':=by
 cases k1 with
 | non => cases k2; exact .eq rfl
 | bl b => cases k2; exact .eq (beq_self_eq_true _)
 | int i t => cases k2; exact .eq (beq_self_eq_true _)
 | str x t => cases k2; exact .eq (beq_self_eq_true _)
 | tup a xs its vs rp rv h q =>
  cases k2 with
  | tup _ ys its2 ws rp2 rv2 h2 q2 =>
   cases qVp h h2
   exact .tt xs ys its ⟨vs,ws,rp,rv,rp2,rv2⟩
  | lst _ ys its2 ws rp2 rv2 h2 q2 => exact (qXn h h2).elim
 | lst a xs its vs rp rv h q =>
  cases k2 with
  | lst _ ys its2 ws rp2 rv2 h2 q2 =>
   cases qVo h h2
   exact .ll xs ys its ⟨vs,ws,rp,rv,rp2,rv2⟩
  | tup _ ys its2 ws rp2 rv2 h2 q2 => exact (qXn h2 h).elim
theorem qNs (I : Inv X pins σ H s) (r : Rel X.K H P α S) {m : Nat} (ih : ∀ (d d' : D) (u : Value),pl m d = true → pl m d' = true → Kd X P α s d u → Kd X P α s d' u → eqD d d' = true) {xs ys : List D} {its : List Value} (h1 : xs.all (pl m) = true) (h2 : ys.all (pl m) = true) (q : Seqs X P α xs ys its its) : qDT xs ys = true:=by
 obtain ⟨vs,ws,rp,rv,rp2,rv2⟩:=q
 have l1:=rp.length.trans rv.length
 have l2:=rp2.length.trans rv2.length
 rw [qHE,l1,l2,Nat.min_self,Bool.and_eq_true]
 refine ⟨List.all_eq_true.mpr fun j hj => ?_,BEq.rfl⟩
 have hj : j < its.toArray.size:=List.mem_range.mp hj
 obtain ⟨w1,y1,z1,m1⟩:=qFQ rp rv hj
 obtain ⟨w2,y2,z2,m2⟩:=qFQ rp2 rv2 hj
 exact ih _ _ _ (qH8 h1 m1) (qH8 h2 m2) (qH4 I r (qH8 h1 m1) y1 z1) (qH4 I r (qH8 h2 m2) y2 z2)
theorem qQX (I : Inv X pins σ H s) (r : Rel X.K H P α S) : ∀ (n : Nat) (d d' : D) (u : Value),pl n d = true → pl n d' = true → Kd X P α s d u → Kd X P α s d' u → eqD d d' = true:=by
 intro n
 induction n with
 | zero =>
  intro d d' u h1 h2 k1 k2
  cases qQ1 k1 k2 with
  | eq h => exact h
  | tt => exact Bool.noConfusion h1
  | ll => exact Bool.noConfusion h1
 | succ m ih =>
  intro d d' u h1 h2 k1 k2
  cases qQ1 k1 k2 with
  | eq h => exact h
  | tt xs ys its q => exact (qM7 xs ys).trans (qNs I r ih h1 h2 q)
  | ll xs ys its q => exact (qM6 xs ys).trans (qNs I r ih h1 h2 q)
structure E3 (A : Around) (s : Shared) (u u' : Value) (b : Bool) : Prop where
 eq : EqAt A s u u' b
 rc : RcAt A s u u' b
 ne : RcNeAt A s u u' (!b)
inductive EqR (X : Cx) (P : Hp) (α : List Addr) (A : Around) (s : Shared) : D → D → Value → Value → Prop
 | of {d d' : D} {u u' : Value} (b : Bool) (e : eqD d d' = b) (h : E3 A s u u' b) : EqR X P α A s d d' u u'
 | tt (a b : Addr) (xs ys : List D) (its its2 : List Value) (ha : s.heap.IsTuple a its.toArray) (hb : s.heap.IsTuple b its2.toArray) (q : Seqs X P α xs ys its its2) : EqR X P α A s (.tup xs) (.tup ys) (.ref a) (.ref b)
 | ll (a b : Addr) (xs ys : List D) (its its2 : List Value) (ha : s.heap.IsList a its.toArray) (hb : s.heap.IsList b its2.toArray) (q : Seqs X P α xs ys its its2) : EqR X P α A s (.lst xs) (.lst ys) (.ref a) (.ref b)
theorem qUn {A : Around} {d d' : D} {u u' : Value} (hu : A.units < cLine) (k1 : Kd X P α s d u) (k2 : Kd X P α s d' u') : EqR X P α A s d d' u u':=by
 cases k1 with
 | non  =>
  cases k2 with
  | non  => exact .of _ rfl ⟨EqAt.same _,RcAt.none_none,RcNeAt.none_none⟩
  | bl b => exact .of _ rfl ⟨EqAt.none_bool b,RcAt.none_bool b,RcNeAt.none_bool b⟩
  | int b tb => exact .of _ rfl ⟨EqAt.none_int b tb,RcAt.none_int b tb,RcNeAt.none_int b tb⟩
  | str b tb => exact .of _ rfl ⟨EqAt.none_str b tb,RcAt.none_str b tb,RcNeAt.none_str b tb⟩
  | tup b ys its2 ws rp2 rv2 hb qb => exact .of _ rfl ⟨EqAt.none_tuple hb hu,RcAt.none_tuple hb hu,RcNeAt.none_tuple hb hu⟩
  | lst b ys its2 ws rp2 rv2 hb qb => exact .of _ rfl ⟨EqAt.none_list hb hu,RcAt.none_list hb hu,RcNeAt.none_list hb hu⟩
 | bl a =>
  cases k2 with
  | non  => exact .of _ rfl ⟨EqAt.bool_none a,RcAt.bool_none a,RcNeAt.bool_none a⟩
  | bl b => exact .of _ rfl ⟨EqAt.bool_bool a b,RcAt.bool_bool a b,RcNeAt.bool_bool a b⟩
  | int b tb => exact .of _ rfl ⟨EqAt.bool_int a b tb,RcAt.bool_int a b tb,RcNeAt.bool_int a b tb⟩
  | str b tb => exact .of _ rfl ⟨EqAt.bool_str a b tb,RcAt.bool_str a b tb,RcNeAt.bool_str a b tb⟩
  | tup b ys its2 ws rp2 rv2 hb qb => exact .of _ rfl ⟨EqAt.bool_tuple a hb hu,RcAt.bool_tuple a hb hu,RcNeAt.bool_tuple a hb hu⟩
  | lst b ys its2 ws rp2 rv2 hb qb => exact .of _ rfl ⟨EqAt.bool_list a hb hu,RcAt.bool_list a hb hu,RcNeAt.bool_list a hb hu⟩
 | int a ta =>
  cases k2 with
  | non  => exact .of _ rfl ⟨EqAt.int_none a ta,RcAt.int_none a ta,RcNeAt.int_none a ta⟩
  | bl b => exact .of _ rfl ⟨EqAt.int_bool a ta b,RcAt.int_bool a ta b,RcNeAt.int_bool a ta b⟩
  | int b tb => exact .of _ rfl ⟨EqAt.int_int a ta b tb,RcAt.int_int a ta b tb,RcNeAt.int_int a ta b tb⟩
  | str b tb => exact .of _ rfl ⟨EqAt.int_str a ta b tb,RcAt.int_str a ta b tb,RcNeAt.int_str a ta b tb⟩
  | tup b ys its2 ws rp2 rv2 hb qb => exact .of _ rfl ⟨EqAt.int_tuple a ta hb hu,RcAt.int_tuple a ta hb hu,RcNeAt.int_tuple a ta hb hu⟩
  | lst b ys its2 ws rp2 rv2 hb qb => exact .of _ rfl ⟨EqAt.int_list a ta hb hu,RcAt.int_list a ta hb hu,RcNeAt.int_list a ta hb hu⟩
 | str a ta =>
  cases k2 with
  | non  => exact .of _ rfl ⟨EqAt.str_none a ta,RcAt.str_none a ta,RcNeAt.str_none a ta⟩
  | bl b => exact .of _ rfl ⟨EqAt.str_bool a ta b,RcAt.str_bool a ta b,RcNeAt.str_bool a ta b⟩
  | int b tb => exact .of _ rfl ⟨EqAt.str_int a ta b tb,RcAt.str_int a ta b tb,RcNeAt.str_int a ta b tb⟩
  | str b tb => exact .of _ rfl ⟨EqAt.str_str a ta b tb,RcAt.str_str a ta b tb,RcNeAt.str_str a ta b tb⟩
  | tup b ys its2 ws rp2 rv2 hb qb => exact .of _ rfl ⟨EqAt.str_tuple a ta hb hu,RcAt.str_tuple a ta hb hu,RcNeAt.str_tuple a ta hb hu⟩
  | lst b ys its2 ws rp2 rv2 hb qb => exact .of _ rfl ⟨EqAt.str_list a ta hb hu,RcAt.str_list a ta hb hu,RcNeAt.str_list a ta hb hu⟩
 | tup a xs its vs rp rv ha qa =>
  cases k2 with
  | non  => exact .of _ rfl ⟨EqAt.tuple_none ha hu,RcAt.tuple_none ha hu,RcNeAt.tuple_none ha hu⟩
  | bl b => exact .of _ rfl ⟨EqAt.tuple_bool b ha hu,RcAt.tuple_bool b ha hu,RcNeAt.tuple_bool b ha hu⟩
  | int b tb => exact .of _ rfl ⟨EqAt.tuple_int b tb ha hu,RcAt.tuple_int b tb ha hu,RcNeAt.tuple_int b tb ha hu⟩
  | str b tb => exact .of _ rfl ⟨EqAt.tuple_str b tb ha hu,RcAt.tuple_str b tb ha hu,RcNeAt.tuple_str b tb ha hu⟩
  | tup b ys its2 ws rp2 rv2 hb qb => exact .tt a b xs ys its its2 ha hb ⟨vs,ws,rp,rv,rp2,rv2⟩
  | lst b ys its2 ws rp2 rv2 hb qb => exact .of _ rfl ⟨EqAt.tuple_list ha hb hu,RcAt.tuple_list ha hb hu,RcNeAt.tuple_list ha hb hu⟩
 | lst a xs its vs rp rv ha qa =>
  cases k2 with
  | non  => exact .of _ rfl ⟨EqAt.list_none ha hu,RcAt.list_none ha hu,RcNeAt.list_none ha hu⟩
  | bl b => exact .of _ rfl ⟨EqAt.list_bool b ha hu,RcAt.list_bool b ha hu,RcNeAt.list_bool b ha hu⟩
  | int b tb => exact .of _ rfl ⟨EqAt.list_int b tb ha hu,RcAt.list_int b tb ha hu,RcNeAt.list_int b tb ha hu⟩
  | str b tb => exact .of _ rfl ⟨EqAt.list_str b tb ha hu,RcAt.list_str b tb ha hu,RcNeAt.list_str b tb ha hu⟩
  | tup b ys its2 ws rp2 rv2 hb qb => exact .of _ rfl ⟨EqAt.list_tuple ha hb hu,RcAt.list_tuple ha hb hu,RcNeAt.list_tuple ha hb hu⟩
  | lst b ys its2 ws rp2 rv2 hb qb => exact .ll a b xs ys its its2 ha hb ⟨vs,ws,rp,rv,rp2,rv2⟩
theorem E3.cast {A : Around} {u u' : Value} {b c : Bool} (e : c = b) (h : E3 A s u u' b) : E3 A s u u' c:=e ▸ h
theorem qZR {A : Around} {a b : Addr} {xs ys : List D} {its its2 : List Value} (hu : A.units < cLine) (ha : s.heap.IsTuple a its.toArray) (hb : s.heap.IsTuple b its2.toArray) (l1 : xs.length = its.length) (l2 : ys.length = its2.length)
  (sub : ∀ j (h1 : j < its.toArray.size) (h2 : j < its2.toArray.size),EqAt A.in1 s its.toArray[j] its2.toArray[j] (eqD (xs.getD j .non) (ys.getD j .non))) (same : a = b → qDT xs ys = true) : E3 A s (.ref a) (.ref b) (qDT xs ys):=by
 have e : qDT xs ys = ((List.range (min its.toArray.size its2.toArray.size)).all (fun j => eqD (xs.getD j .non) (ys.getD j .non)) && its.toArray.size == its2.toArray.size):=by rw [qHE,l1,l2]; rfl
 have R1:=RcAt.tuples ha hb hu sub
 have R2:=RcNeAt.tuples ha hb hu sub
 rw [← e] at R1 R2
 refine ⟨?_,R1,R2⟩
 by_cases hab : a = b
 ·rw [same hab,hab]
  exact EqAt.same _
 ·exact EqAt.of_refs hab R1
theorem qZQ {A : Around} {a b : Addr} {xs ys : List D} {its its2 : List Value} (hu : A.units < cLine) (ha : s.heap.IsList a its.toArray) (hb : s.heap.IsList b its2.toArray) (l1 : xs.length = its.length) (l2 : ys.length = its2.length)
  (sub : ∀ j (h1 : j < its.toArray.size) (h2 : j < its2.toArray.size),EqAt A.in1 s its.toArray[j] its2.toArray[j] (eqD (xs.getD j .non) (ys.getD j .non))) (same : a = b → qDT xs ys = true) : E3 A s (.ref a) (.ref b) (qDT xs ys):=by
 have R : RcAt A s (.ref a) (.ref b) (qDT xs ys) ∧ RcNeAt A s (.ref a) (.ref b) (!qDT xs ys):=by
  by_cases hl : its.length = its2.length
  ·have e : qDT xs ys = (List.range its.toArray.size).all (fun j => eqD (xs.getD j .non) (ys.getD j .non)):=by rw [qHE,l1,l2,← hl,Nat.min_self,BEq.rfl,Bool.and_true]; rfl
   rw [e]
   exact ⟨RcAt.lists ha hb hl hu sub,RcNeAt.lists ha hb hl hu sub⟩
  ·rw [qTp (by rw [l1,l2]; exact hl)]
   have hn : (its.toArray.size != its2.toArray.size) = true:=bne_iff_ne.mpr hl
   exact ⟨RcAt.lists_lengths ha hb hn hu,RcNeAt.lists_lengths ha hb hn hu⟩
 refine ⟨?_,R.1,R.2⟩
 by_cases hab : a = b
 ·rw [same hab,hab]
  exact EqAt.same _
 ·exact EqAt.of_refs hab R.1
theorem qSA (I : Inv X pins σ H s) (r : Rel X.K H P α S) : ∀ (n : Nat) (A : Around) (d d' : D) (u u' : Value),A.units + n < cLine → pl n d = true → pl n d' = true → Kd X P α s d u → Kd X P α s d' u' → E3 A s u u' (eqD d d'):=by
 intro n
 induction n with
 | zero =>
  intro A d d' u u' hu h1 h2 k1 k2
  cases qUn hu k1 k2 with
  | of b e h => exact h.cast e
  | tt => exact Bool.noConfusion h1
  | ll => exact Bool.noConfusion h1
 | succ m ih =>
  intro A d d' u u' hu h1 h2 k1 k2
  have hu0 : A.units < cLine:=Nat.lt_of_le_of_lt (Nat.le_add_right _ _) hu
  have hu1 : A.in1.units + m < cLine:=by show A.units + 1 + m < cLine; omega
  have sub : ∀ {xs ys : List D} {its its2 : List Value},xs.all (pl m) = true → ys.all (pl m) = true → Seqs X P α xs ys its its2 →
    ∀ j (h1 : j < its.toArray.size) (h2 : j < its2.toArray.size),EqAt A.in1 s its.toArray[j] its2.toArray[j] (eqD (xs.getD j .non) (ys.getD j .non)):=fun {xs ys its its2} a1 a2 ⟨vs,ws,b1,b2,c1,c2⟩ j g1 g2 => by
   obtain ⟨w1,y1,z1,m1⟩:=qFQ b1 b2 g1
   obtain ⟨w2,y2,z2,m2⟩:=qFQ c1 c2 g2
   exact (ih A.in1 _ _ _ _ hu1 (qH8 a1 m1) (qH8 a2 m2) (qH4 I r (qH8 a1 m1) y1 z1) (qH4 I r (qH8 a2 m2) y2 z2)).eq
  cases qUn hu0 k1 k2 with
  | of b e h => exact h.cast e
  | tt a b xs ys its its2 ha hb q => exact (qZR hu0 ha hb q.len1 q.len2 (sub h1 h2 q) fun e => by subst e; exact (qM7 xs ys).symm.trans (qQX I r (m + 1) _ _ _ h1 h2 k1 k2)).cast (qM7 xs ys)
  | ll a b xs ys its its2 ha hb q => exact (qZQ hu0 ha hb q.len1 q.len2 (sub h1 h2 q) fun e => by subst e; exact (qM6 xs ys).symm.trans (qQX I r (m + 1) _ _ _ h1 h2 k1 k2)).cast (qM6 xs ys)
noncomputable def qDf : Nat:=30
noncomputable def gEq : G2:=fun a b S => if pl qDf a && pl qDf b then .ok (.bl (eqD a b)) S else .bad
noncomputable def gNe : G2:=fun a b S => if pl qDf a && pl qDf b then .ok (.bl (!eqD a b)) S else .bad
set_option tactic.hygienic true in
theorem qZc (hu : X.A.units + 64 < cLine) : OpD X (compareOp .Eq) gEq:=by
 intro pins σ H s P α S v u vv uu a b Q I r rv ru pa pb af
 unfold gEq at af
 split at af
 ·rename_i h
  rw [Bool.and_eq_true] at h
  exact (qSA I r qDf X.A a b vv uu (by unfold qDf; omega) h.1 h.2 (qH4 I r h.1 pa rv) (qH4 I r h.2 pb ru)).rc _ _ _ _ ⟨.bl _,H,I,rfl,xr af r (by simp only [Rep])⟩
 ·exact False.elim af
set_option tactic.hygienic true in
theorem qUu (hu : X.A.units + 64 < cLine) : OpD X (compareOp .NotEq) gNe:=by
 intro pins σ H s P α S v u vv uu a b Q I r rv ru pa pb af
 unfold gNe at af
 split at af
 ·rename_i h
  rw [Bool.and_eq_true] at h
  exact (qSA I r qDf X.A a b vv uu (by unfold qDf; omega) h.1 h.2 (qH4 I r h.1 pa rv) (qH4 I r h.2 pb ru)).ne _ _ _ _ ⟨.bl _,H,I,rfl,xr af r (by simp only [Rep])⟩
 ·exact False.elim af
end
end _D
end
section
namespace _D
open PySem PySem.Spec PyProof.Rows _L
section
variable {X : Cx}
noncomputable def i2 (C : Int → Int → Bool) (f : Int → Int → D) : G2:=fun a b S => match a,b with
 | .int i,.int j => if C i j then .ok (f i j) S else .bad
 | _,_ => .bad
theorem qRM {C : Int → Int → Bool} {f : Int → Int → D} {a b : D} {S : Sto} {P : Hp} {α : List Addr} {Ok : D → Sto → Prop} (h : qAR X P α (i2 C f a b S) Ok) : ∃ i j,a = .int i ∧ b = .int j ∧ C i j = true ∧ Ok (f i j) S:=by
 cases a with
 | int i =>
  cases b with
  | int j =>
   obtain ⟨hc,h⟩:=qEI (X:=X) h
   exact ⟨i,j,rfl,rfl,hc,h⟩
  | _ => exact False.elim h
 | _ => exact False.elim h
theorem qB2 {P : Hp} {α : List Addr} {i : Int} {v : V} (r : Rep X.K P α (.int i) v) : v = .int i:=by simpa only [Rep] using r
theorem qMO {f : Value → Value → Sem Value} {C' : Int → Int → Prop} {v : Int → Int → V} {C : Int → Int → Bool} {d : Int → Int → D} (h : OpR X f (rI C' v)) (hC : ∀ i j,C i j = true → C' i j) (hv : ∀ P α i j,Rep X.K P α (d i j) (v i j)) : OpD X f (i2 C d) :=
 OpD.of h fun H P α S x y a b Q r p1 p2 af => by
  obtain ⟨i,j,rfl,rfl,hc,ok⟩:=qRM af
  exact ⟨i,j,qB2 p1,qB2 p2,hC i j hc,xr ok r (hv P α i j)⟩
theorem qKN {f : Value → Value → Sem Value} {v : Int → Int → V} {d : Int → Int → D} (h : OpR X f (rI0 v)) (hv : ∀ P α i j,Rep X.K P α (d i j) (v i j)) : OpD X f (i2 (fun _ _ => true) d) :=
 OpD.of h fun H P α S x y a b Q r p1 p2 af => by
  obtain ⟨i,j,rfl,rfl,_,ok⟩:=qRM af
  exact ⟨i,j,qB2 p1,qB2 p2,xr ok r (hv P α i j)⟩
noncomputable def qEb : G2:=i2 (fun _ _ => true) fun i j => .int (i - j)
theorem qYE : OpD X (binaryOp .Sub) qEb:=qKN qYQ fun P α i j => by simp only [Rep]
noncomputable def qOt (i j : Int) : Bool:=decide (-(2 ^ 64) < i ∧ i < 2 ^ 64) || decide (-(2 ^ 64) < j ∧ j < 2 ^ 64)
theorem qV6 : OpD X (binaryOp .Mult) (i2 qOt fun i j => .int (i * j)):=qMO qYO (fun i j h => by
 unfold qOt at h
 rw [Bool.or_eq_true] at h
 rcases h with h | h
 ·exact .inl (of_decide_eq_true h)
 ·exact .inr (of_decide_eq_true h)) fun P α i j => by simp only [Rep]
noncomputable def qWv (i j : Int) : Bool:=decide (0 < j ∧ j < 1073741824)
noncomputable def qGD : G2:=i2 qWv fun i j => .int (i / j)
theorem qYA : OpD X (binaryOp .FloorDiv) qGD:=qMO qWA (fun i j h => (of_decide_eq_true h : 0 < j ∧ j < 1073741824)) fun P α i j => by simp only [Rep]
noncomputable def qGE : G2:=i2 (fun _ j => decide (0 < j)) fun i j => .int (i % j)
theorem qYC : OpD X (binaryOp .Mod) qGE:=qMO qYN (fun i j h => of_decide_eq_true h) fun P α i j => by simp only [Rep]
noncomputable def qWw (i j : Int) : Bool:=decide (0 ≤ j ∧ j ≤ 1000000 ∧ i.natAbs < 2 ^ 64)
noncomputable def qHG : G2:=i2 qWw fun i j => .int (i ^ j.toNat)
theorem qYD : OpD X (binaryOp .Pow) qHG:=qMO qYP (fun i j h => (of_decide_eq_true h : 0 ≤ j ∧ j ≤ 1000000 ∧ i.natAbs < 2 ^ 64)) fun P α i j => by simp only [Rep]
noncomputable def gLt : G2:=i2 (fun _ _ => true) fun i j => .bl (decide (i < j))
noncomputable def gLe : G2:=i2 (fun _ _ => true) fun i j => .bl (decide (i ≤ j))
noncomputable def gGt : G2:=i2 (fun _ _ => true) fun i j => .bl (decide (j < i))
noncomputable def gGe : G2:=i2 (fun _ _ => true) fun i j => .bl (decide (j ≤ i))
theorem qZh : OpD X (compareOp .Lt) gLt:=qKN qZm fun P α i j => by simp only [Rep]
theorem qZg : OpD X (compareOp .LtE) gLe:=qKN qZl fun P α i j => by simp only [Rep]
theorem qZe : OpD X (compareOp .Gt) gGt:=qKN qZk fun P α i j => by simp only [Rep]
theorem qZd : OpD X (compareOp .GtE) gGe:=qKN qZj fun P α i j => by simp only [Rep]
noncomputable def qLL : D → Sto → Res D:=fun a S => match a with
 | .int i => .ok (.int (-i)) S
 | _ => .bad
theorem qY6 : UnD X (unaryOp .USub) qLL:=by
 intro pins σ H s P α S v vv a Q I r rv p af
 cases a with
 | int i => exact qY7 pins s σ H v vv Q I rv ⟨i,qB2 p,xr af r (by simp only [Rep])⟩
 | _ => exact False.elim af
noncomputable def gIs : G2:=fun a b S => match b with
 | .non => match a with
  | .non => .ok (.bl true) S
  | _ => .ok (.bl false) S
 | _ => .bad
theorem qV4 {P : Hp} {α : List Addr} {d : D} {v : V} (r : Rep X.K P α d v) : decide (v = .non) = (match d with | .non => true | _ => false):=by
 cases d <;> simp only [Rep] at r
 case non => subst r; rfl
 case bl => subst r; rfl
 case int => subst r; rfl
 case str => subst r; rfl
 case ty => subst r; rfl
 case obj => obtain ⟨rfl,_⟩:=r; rfl
 case tup => obtain ⟨a,vs,rfl,_⟩:=r; rfl
 case lst => obtain ⟨a,vs,rfl,_⟩:=r; rfl
 case dct0 => obtain ⟨a,rfl,_⟩:=r; rfl
 case loc => obtain ⟨a,rfl,_⟩:=r; rfl
 case exn => obtain ⟨a,rfl,_⟩:=r; rfl
 case fd => obtain ⟨a,o,vs,rfl,_⟩:=r; rfl
theorem qZf : OpD X (compareOp .Is) gIs:=OpD.of qYM fun H P α S x y a b Q r p1 p2 af => by
 cases b with
 | non =>
  simp only [Rep] at p2
  refine ⟨p2,?_⟩
  rw [qV4 p1]
  cases a <;> exact xr af r (by simp only [Rep])
 | _ => exact False.elim af
noncomputable def qA4 : G2:=fun a b S => match a,b with
 | .int i,.int j => .ok (.int (i + j)) S
 | .str x,.str y => if x.length + y.length ≤ lim then .ok (.str (x ++ y)) S else .bad
 | .tup xs,.tup ys => if xs.length + ys.length ≤ lim then .ok (.tup (xs ++ ys)) S else .bad
 | .lst xs,.lst ys => if xs.length + ys.length ≤ lim then .ok (.lst (xs ++ ys)) S else .bad
 | _,_ => .bad
theorem qI4 {pins : List (Addr × Obj)} {σ : _L.St} {H P : Hp} {α : List Addr} {S : Sto} {s : Shared} {xs : List D} {v : V} (I : Inv X pins σ H s) (r : Rel X.K H P α S) (p : Rep X.K P α (.tup xs) v) :
  ∃ a vs its,v = .ref a ∧ SqT X.K P a vs ∧ qAL X.K P α xs vs ∧ qAZ vs its ∧ IsTup s.heap a its.toArray ∧ xs.length = its.length ∧ xs.length ≤ lim:=by
 simp only [Rep] at p
 obtain ⟨a,vs,rfl,q,t⟩:=p
 obtain ⟨its,rv,p1,z⟩:=I.tuple (qC0 r.sub q)
 exact ⟨a,vs,its,rfl,q,t,rv,p1,by rw [t.length,rv.length],by rw [t.length,qBR]; exact z⟩
theorem qHX {pins : List (Addr × Obj)} {σ : _L.St} {H P : Hp} {α : List Addr} {S : Sto} {s : Shared} {xs : List D} {v : V} (I : Inv X pins σ H s) (r : Rel X.K H P α S) (p : Rep X.K P α (.lst xs) v) :
  ∃ a vs its n,v = .ref a ∧ SqX X.K P a vs ∧ qAL X.K P α xs vs ∧ qAZ vs its ∧ s.heap.get? a = some { cls:=.type "list",data:=.seq its.toArray n } ∧ xs.length = its.length ∧ xs.length ≤ lim:=by
 simp only [Rep] at p
 obtain ⟨a,vs,rfl,q,t⟩:=p
 have : ∃ its n,qAZ vs its ∧ s.heap.get? a = some { cls:=.type "list",data:=.seq its.toArray n } ∧ vs.length ≤ sizeLine:=by
  rcases q with q | ⟨its,n,e,z,rv⟩
  ·obtain ⟨z,its,n,rv,e⟩:=(qQy r.sub q).ok I.hok
   exact ⟨its,n,rv,e,z⟩
  ·exact ⟨its,n,rv,I.kIn _ _ e,z⟩
 obtain ⟨its,n,rv,e,z⟩:=this
 exact ⟨a,vs,its,n,rfl,q,t,rv,e,by rw [t.length,rv.length],by rw [t.length,qBR]; exact z⟩
theorem qPS {pins : List (Addr × Obj)} {σ : _L.St} {H P : Hp} {α : List Addr} {S : Sto} {s : Shared} {xs : List D} {vs : List V} {its : List Value} {Q : VK} (I : Inv X pins σ H s) (r : Rel X.K H P α S) (t : qAL X.K P α xs vs) (rv : qAZ vs its) (hz : xs.length ≤ lim)
  (ok : OkV X P α Q (.tup xs) S) : EP X pins σ Q (.ref s.heap.objs.size) { s with heap:=s.heap.push { cls:=.type "tuple",data:=.seq its.toArray } }:=by
 refine ⟨.ref s.heap.objs.size,_,I.laid (t':=s.toks) (o:=.tup vs) (fun b ob q => Heap.get?_push_of_some _ q) (Nat.le_refl _) ⟨by rw [← t.length,← qBR]; exact hz,its,rv,IsTup.new _ _⟩,rfl,qHb r (I.hok.fresh (Nat.le_refl _)) t ok⟩
theorem qPR {pins : List (Addr × Obj)} {σ : _L.St} {H P : Hp} {α : List Addr} {S : Sto} {s : Shared} {xs : List D} {vs : List V} {its : List Value} {Q : VK} (I : Inv X pins σ H s) (r : Rel X.K H P α S) (t : qAL X.K P α xs vs) (rv : qAZ vs its) (hz : xs.length ≤ lim)
  (ok : OkV X P α Q (.lst xs) S) : EP X pins σ Q (.ref s.heap.objs.size) { s with heap:=s.heap.push { cls:=.type "list",data:=.seq its.toArray } }:=by
 refine ⟨.ref s.heap.objs.size,_,I.laid (t':=s.toks) (o:=.lst vs) (fun b ob q => Heap.get?_push_of_some _ q) (Nat.le_refl _) ⟨by rw [← t.length,← qBR]; exact hz,its,0,rv,Heap.get?_push_size _ rfl⟩,rfl,qHa r (I.hok.fresh (Nat.le_refl _)) t ok⟩
theorem qWp {pins : List (Addr × Obj)} {σ : _L.St} {H P : Hp} {α : List Addr} {S : Sto} {s : Shared} {xs ys : List D} {v u : V} {vv uu : Value} {Q : VK} (I : Inv X pins σ H s) (r : Rel X.K H P α S) (rv : qAY v vv) (ru : qAY u uu) (pa : Rep X.K P α (.tup xs) v) (pb : Rep X.K P α (.tup ys) u) (hl : xs.length + ys.length ≤ lim) (af : OkV X P α Q (.tup (xs ++ ys)) S) :
  wpAny (model X.prog X.w) X.A (binaryOp .Add vv uu) (EP X pins σ Q) X.xe s:=by
 obtain ⟨a,vs,its,rfl,q1,t1,rv1,h1,l1,_⟩:=qI4 I r pa
 obtain ⟨b,ws,its2,rfl,q2,t2,rv2,h2,l2,_⟩:=qI4 I r pb
 cases rv
 cases ru
 by_cases hx : its = []
 ·obtain ⟨⟨cls,dd,data,sl⟩,ho,hc,n,hd⟩:=id h1
  obtain ⟨⟨cls2,dd2,data2,sl2⟩,ho2,hc2,n2,hd2⟩:=id h2
  simp only at hc hd hc2 hd2
  subst hc hd hc2 hd2
  have hxs : xs = []:=List.length_eq_zero_iff.mp (by rw [l1,hx]; rfl)
  subst hxs
  exact concat_meets ⟨_,ho,rfl⟩ ⟨_,ho2,rfl⟩ noFill_tuple_add seq_tuple_add PySem.F.slot_tuple_add PySem.F.entry_tuple_add (PySem.F.args_tuple_add_2 _ _) (tuple_addW0 a b its.toArray its2.toArray n n2 dd dd2 sl sl2 (by simp [hx]))
   ⟨ho,ho2,⟨.ref b,H,I,rfl,xr af r pb⟩⟩
 ·refine _H.cat_tup h1 h2 hx (fun z => ⟨.ref a,H,I,rfl,xr af r ?_⟩) (fun z => ?_) (by rw [← l1,← l2,← qBR]; exact hl)
  ·have hys : ys = []:=List.length_eq_zero_iff.mp (by rw [l2,z]; rfl)
   rw [hys,List.append_nil]; exact pa
  ·exact qPS I r (t1.append t2) (rv1.append rv2) (by rw [List.length_append]; exact hl) af
theorem qWo {pins : List (Addr × Obj)} {σ : _L.St} {H P : Hp} {α : List Addr} {S : Sto} {s : Shared} {xs ys : List D} {v u : V} {vv uu : Value} {Q : VK} (I : Inv X pins σ H s) (r : Rel X.K H P α S) (rv : qAY v vv) (ru : qAY u uu) (pa : Rep X.K P α (.lst xs) v) (pb : Rep X.K P α (.lst ys) u) (hl : xs.length + ys.length ≤ lim) (af : OkV X P α Q (.lst (xs ++ ys)) S) :
  wpAny (model X.prog X.w) X.A (binaryOp .Add vv uu) (EP X pins σ Q) X.xe s:=by
 obtain ⟨a,vs,its,n,rfl,q1,t1,rv1,h1,l1,_⟩:=qHX I r pa
 obtain ⟨b,ws,its2,n2,rfl,q2,t2,rv2,h2,l2,_⟩:=qHX I r pb
 cases rv
 cases ru
 refine PySem.P.add_list h1 h2 ?_ (by rw [List.size_toArray,List.size_toArray,← l1,← l2,← qBR]; exact hl)
 rw [List.append_toArray]
 exact qPR I r (t1.append t2) (rv1.append rv2) (by rw [List.length_append]; exact hl) af
inductive AddV (a b : D) (S : Sto) : Prop
 | bad (e : qA4 a b S = .bad)
 | int (i j : Int) (ea : a = .int i) (eb : b = .int j)
 | str (x y : Str) (ea : a = .str x) (eb : b = .str y)
 | tup (x y : List D) (ea : a = .tup x) (eb : b = .tup y)
 | lst (x y : List D) (ea : a = .lst x) (eb : b = .lst y)
theorem qaD (a b : D) (S : Sto) : AddV a b S:=by
 cases a with
 | int i => cases b with
  | int j => exact .int i j rfl rfl
  | _ => exact .bad rfl
 | str i => cases b with
  | str j => exact .str i j rfl rfl
  | _ => exact .bad rfl
 | tup i => cases b with
  | tup j => exact .tup i j rfl rfl
  | _ => exact .bad rfl
 | lst i => cases b with
  | lst j => exact .lst i j rfl rfl
  | _ => exact .bad rfl
 | _ => exact .bad rfl
theorem qX9 : OpD X (binaryOp .Add) qA4:=by
 intro pins σ H s P α S v u vv uu a b Q I r rv ru pa pb af
 cases qaD a b S with
 | bad e => rw [e] at af; exact False.elim af
 | int i j ea eb =>
  subst ea eb
  exact qYL pins s σ H v u vv uu Q I rv ru ⟨i,j,qB2 pa,qB2 pb,xr af r (by simp only [Rep])⟩
 | str x y ea eb =>
  subst ea eb
  obtain ⟨hl,af⟩:=qEI (X:=X) af
  simp only [Rep] at pa pb
  exact qRW pins s σ H v u vv uu Q I rv ru ⟨x,y,pa,pb,by rw [← qBR]; exact hl,xr af r (by simp only [Rep])⟩
 | tup xs ys ea eb =>
  subst ea eb
  obtain ⟨hl,af⟩:=qEI (X:=X) af
  exact qWp I r rv ru pa pb hl af
 | lst xs ys ea eb =>
  subst ea eb
  obtain ⟨hl,af⟩:=qEI (X:=X) af
  exact qWo I r rv ru pa pb hl af
noncomputable def gIx : G2:=fun a b S => match b with
 | .int k => match a with
  | .tup xs => qDn (atI xs k) S
  | .lst xs => qDn (atI xs k) S
  | .loc i => match S[i]? with
   | some (.lst xs) => qDn (atI xs k) S
   | _ => .bad
  | _ => .bad
 | _ => .bad
theorem qMd {P : Hp} {α : List Addr} {ds : List D} {vs : List V} {k : Int} {d : D} (rp : qAL X.K P α ds vs) (h : atI ds k = some d) : ∃ v,atI vs k = some v ∧ Rep X.K P α d v:=by
 unfold atI at h ⊢
 rw [← rp.length]
 cases q : ixN ds.length k with
 | none => rw [q] at h; cases h
 | some j =>
  rw [q] at h
  obtain ⟨v,h1,h2⟩:=rp.get (show ds[j]? = some d from h)
  exact ⟨v,h1,h2⟩
theorem qXo : IxD X gIx:=by
 intro value slice pins σ H s P α S v u vv uu a b Q I r rv ru pa pb af hs
 cases b with
 | int k =>
  have hk:=qB2 pb
  cases a with
  | tup xs =>
   obtain ⟨d,e,ok⟩:=qFW (X:=X) af
   simp only [Rep] at pa
   obtain ⟨p,vs,rfl,q,t⟩:=pa
   obtain ⟨w,e1,rw'⟩:=qMd t e
   exact qXp value slice pins s σ H _ u vv uu Q I rv ru ⟨p,vs,k,w,rfl,hk,qC0 r.sub q,e1,xr ok r rw'⟩ hs
  | lst xs =>
   obtain ⟨d,e,ok⟩:=qFW (X:=X) af
   simp only [Rep] at pa
   obtain ⟨p,vs,rfl,q,t⟩:=pa
   obtain ⟨w,e1,rw'⟩:=qMd t e
   exact qQg value slice pins s σ H _ u vv uu Q I rv ru ⟨p,vs,k,w,rfl,hk,(qCO r.sub q).l,e1,xr ok r rw'⟩ hs
  | loc i =>
   obtain ⟨xs,hS,af⟩:=qHZ (X:=X) (f:=fun xs => qDn (atI xs k) S) af
   obtain ⟨d,e,ok⟩:=qFW (X:=X) af
   simp only [Rep] at pa
   obtain ⟨p,rfl,q⟩:=pa
   obtain ⟨vs,z,t⟩:=r.at' i p _ q hS
   obtain ⟨w,e1,rw'⟩:=qMd t e
   exact qQg value slice pins s σ H _ u vv uu Q I rv ru ⟨p,vs,k,w,rfl,hk,.of z,e1,xr ok r rw'⟩ hs
  | _ => exact False.elim af
 | _ => exact False.elim af
noncomputable def qNA : G3:=fun o i d S => match o,i with
 | .loc n,.int k => match S[n]? with
  | some (.lst xs) => match ixN xs.length k with
   | some j => .ok () (S.set n (.lst (xs.set j d)))
   | none => .bad
  | _ => .bad
 | _,_ => .bad
theorem qZ2 : qOh X (qOe X qNA):=by
 intro pins s σ H o i v ov iv u Q I ro ri rv h
 obtain ⟨P,α,S,a,b,d,r,pa,pb,pd,af⟩:=h
 cases a with
 | loc n =>
  cases b with
  | int k =>
   obtain ⟨xs,hS,af⟩:=qHZ (X:=X) (f:=fun xs => match ixN xs.length k with | some j => .ok () (S.set n (.lst (xs.set j d))) | none => .bad) af
   cases hj : ixN xs.length k with
   | none => rw [hj] at af; exact False.elim af
   | some j =>
    rw [hj] at af
    simp only [Rep] at pa
    obtain ⟨p,rfl,q⟩:=pa
    obtain ⟨vs,z,t⟩:=r.at' n p _ q hS
    refine qUQ pins s σ H _ i v ov iv u Q I ro ri rv ⟨p,vs,k,j,rfl,qB2 pb,z,by rw [← t.length]; exact hj,?_⟩
    refine af _ P α (r.put (m':=.lst (xs.set j d)) q hS (by intro z; cases z) ⟨vs.set j v,qAz,t.set pd j⟩) (qAK.refl _) (List.prefix_refl _)
  | _ => exact False.elim af
 | _ => exact False.elim af
noncomputable def qXx : D → Sto → Option Nat
 | .tup xs,_ => some xs.length
 | .lst xs,_ => some xs.length
 | .str x,_ => if x.length ≤ lim then some x.length else none
 | .dct0,_ => some 0
 | .loc i,S => match S[i]? with
  | some (.lst xs) => some xs.length
  | _ => none
 | _,_ => none
noncomputable def qPG : DF:=fun ds S => match ds with
 | [d] => match qXx d S with
  | some n => .ok (.int n) S
  | none => .bad
 | _ => .bad
end
end _D
end
section
namespace _D
open PySem PySem.Spec PyProof.Rows _L
section
variable {X : Cx}
theorem qFl {P : Hp} {α : List Addr} {d : D} {vs : List V} {us : List Value} (rp : qAL X.K P α [d] vs) (rv : qAZ vs us) : ∃ v u,vs = [v] ∧ us = [u] ∧ Rep X.K P α d v ∧ qAY v u:=by
 obtain ⟨v,ws,rfl,p,t⟩:=rp.cons_inv
 have:=t.nil_inv; subst this
 obtain ⟨u,rfl,q⟩:=qJd rv
 exact ⟨v,u,rfl,rfl,p,q⟩
theorem qKi {P : Hp} {α : List Addr} {d e : D} {vs : List V} {us : List Value} (rp : qAL X.K P α [d,e] vs) (rv : qAZ vs us) : ∃ v w u x,vs = [v,w] ∧ us = [u,x] ∧ Rep X.K P α d v ∧ Rep X.K P α e w ∧ qAY v u ∧ qAY w x:=by
 obtain ⟨v,ws,rfl,p,t⟩:=rp.cons_inv
 obtain ⟨w,ws,rfl,p',t⟩:=t.cons_inv
 have:=t.nil_inv; subst this
 obtain ⟨u,x,rfl,q,q'⟩:=qU2 rv
 exact ⟨v,w,u,x,rfl,rfl,p,p',q,q'⟩
noncomputable def qRQ (d : D) (S : Sto) : Option Nat:=match d with
 | .dct0 => none
 | _ => qXx d S
theorem qXy {H P : Hp} {α : List Addr} {S : Sto} {d : D} {v : V} {n : Nat} (r : Rel X.K H P α S) (p : Rep X.K P α d v) (hn : qRQ d S = some n) : qWm X.K v H n:=by
 cases d with
 | str x =>
  cases (show v = .str x from p)
  obtain ⟨hl,rfl⟩:=qJO hn
  exact ⟨by rw [← qBR]; exact hl,rfl⟩
 | tup xs =>
  simp only [Rep] at p
  obtain ⟨a,ws,rfl,sq,t⟩:=p
  cases hn
  exact .inr ⟨ws,qC0 r.sub sq,t.length⟩
 | lst xs =>
  simp only [Rep] at p
  obtain ⟨a,ws,rfl,sq,t⟩:=p
  cases hn
  exact .inl ⟨ws,(qCO r.sub sq).l,t.length⟩
 | loc i =>
  simp only [Rep] at p
  obtain ⟨a,rfl,e⟩:=p
  obtain ⟨xs,hS,hn⟩:=qX0 (f:=fun xs => some xs.length) hn
  cases hn
  obtain ⟨ws,z,t⟩:=r.at' i a _ e hS
  exact .inl ⟨ws,.of z,t.length⟩
 | _ => exact nn hn
inductive LenD1 (ds : List D) (S : Sto) (r : Res D) : Prop
 | bad (e : r = .bad)
 | of (d : D) (n : Nat) (ed : ds = [d]) (hn : qRQ d S = some n) (e : r = .ok (.int n) S)
theorem qZY (ds : List D) (S : Sto) : LenD1 ds S (match ds with | [.dct0] => .bad | _ => qPG ds S):=by
 cases ds with
 | nil => exact .bad rfl
 | cons d ds =>
  cases ds with
  | cons _ _ => cases d <;> exact .bad rfl
  | nil =>
   have z : (match [d] with | [D.dct0] => Res.bad | _ => qPG [d] S) = (match qRQ d S with | some n => Res.ok (D.int n) S | none => .bad):=by cases d <;> rfl
   rw [z]
   cases hn : qRQ d S with
   | none => exact .bad rfl
   | some n => exact .of d n rfl hn rfl
theorem qW1 (hD : True) : qEN X (.builtin "len") (fun ds S => match ds with | [.dct0] => .bad | _ => qPG ds S):=by
 intro pins σ H s P α S vs us ds Q I r rv rp af
 have af1 : qAR X P α (match ds with | [D.dct0] => Res.bad | _ => qPG ds S) (OkV X P α Q):=af
 clear af
 cases qZY ds S with
 | bad e => rw [e] at af1; exact False.elim af1
 | of d n ed hn e =>
  rw [e] at af1
  subst ed
  obtain ⟨v,u,rfl,rfl,p,q⟩:=qFl rp rv
  exact qTK pins s σ H _ _ Q I rv ⟨v,n,rfl,qXy r p hn,xr af1 r (by simp only [Rep])⟩
noncomputable def tyD : D → Sto → Option String
 | .non,_ => some "NoneType"
 | .bl _,_ => some "bool"
 | .int _,_ => some "int"
 | .str _,_ => some "str"
 | .tup _,_ => some "tuple"
 | .lst _,_ => some "list"
 | .dct0,_ => some "dict"
 | .loc i,S => match S[i]? with
  | some (.lst _) => some "list"
  | some (.dct _) => some "dict"
  | _ => none
 | _,_ => none
noncomputable def qGf (a b : String) : Bool:=a == b || (a == "bool" && b == "int")
noncomputable def qFU (b : String) : Bool:=b == "int" || b == "bool" || b == "tuple" || b == "list" || b == "str" || b == "dict"
noncomputable def qXv (a b : String) : Option Bool:=if (Value.type a == Value.type b) = true then some true else if PySem.W.kitMeta b = true then (fastBuiltinMro a).map (·.contains (.type b)) else none
noncomputable def tyL : List String:=["NoneType","bool","int","str","tuple","list","dict"]
noncomputable def okL : List String:=["int","bool","tuple","list","str","dict"]
theorem qVv : (tyL.all fun a => okL.all fun b => decide (qXv a b = some (qGf a b))) = true:=by decide +kernel
theorem qYH {b : String} (hb : qFU b = true) : b ∈ okL:=by simpa [qFU,okL,or_assoc] using hb
theorem qVw {K : PySem.W.Frag} {a b : String} (ha : a ∈ tyL) (hb : qFU b = true) : PySem.W.kitOne K (.type a) (.type b) = some (qGf a b) :=
 of_decide_eq_true (p:=qXv a b = some (qGf a b)) (List.all_eq_true.mp (List.all_eq_true.mp qVv a ha) b (qYH hb))
noncomputable def qBD : DF:=fun ds S => match ds with
 | [d,.ty b] => if qFU b then match tyD d S with
   | some a => .ok (.bl (qGf a b)) S
   | none => .bad
  else .bad
 | _ => .bad
inductive TyV (X : Cx) (H : Hp) (v : V) (a : String) : Prop
 | of (t : TyOf X.K H v (.type a))
 | tup (p : Addr) (vs : List V) (e : v = .ref p) (q : SqT X.K H p vs) (ea : a = "tuple")
 | lst (p : Addr) (vs : List V) (e : v = .ref p) (q : SqL X.K H p vs) (ea : a = "list")
theorem qY5 {d : D} {S : Sto} {a : String} (h : tyD d S = some a) : a ∈ tyL:=by
 cases d with
 | non => cases h; exact .head _
 | bl b => cases h; exact .tail _ (.head _)
 | int i => cases h; exact .tail _ (.tail _ (.head _))
 | str x => cases h; exact .tail _ (.tail _ (.tail _ (.head _)))
 | tup xs => cases h; exact .tail _ (.tail _ (.tail _ (.tail _ (.head _))))
 | lst xs => cases h; exact .tail _ (.tail _ (.tail _ (.tail _ (.tail _ (.head _)))))
 | dct0 => cases h; exact .tail _ (.tail _ (.tail _ (.tail _ (.tail _ (.tail _ (.head _))))))
 | loc i =>
  rcases qNJ (f:=fun _ => some "list") (g:=fun _ => some "dict") h with ⟨_,_,h⟩ | ⟨_,_,h⟩
  ·cases h; exact .tail _ (.tail _ (.tail _ (.tail _ (.tail _ (.head _)))))
  ·cases h; exact .tail _ (.tail _ (.tail _ (.tail _ (.tail _ (.tail _ (.head _))))))
 | _ => exact nn h
theorem qZ6 {H P : Hp} {α : List Addr} {S : Sto} {d : D} {v : V} {a : String} (r : Rel X.K H P α S) (p : Rep X.K P α d v) (h : tyD d S = some a) : TyV X H v a:=by
 cases d with
 | non => cases h; cases (show v = .non from p); exact .of .non
 | bl b => cases h; cases (show v = .bl b from p); exact .of (.bl b)
 | int i => cases h; cases (show v = .int i from p); exact .of (.int i)
 | str x => cases h; cases (show v = .str x from p); exact .of (.str x)
 | tup xs =>
  cases h
  simp only [Rep] at p
  obtain ⟨a,vs,e,q,t⟩:=p
  exact .tup a vs e (qC0 r.sub q) rfl
 | lst xs =>
  cases h
  simp only [Rep] at p
  obtain ⟨a,vs,e,q,t⟩:=p
  exact .lst a vs e (qCO r.sub q).l rfl
 | dct0 =>
  cases h
  simp only [Rep] at p
  obtain ⟨a,rfl,q⟩:=p
  exact .of (.dK (r.sub _ _ q))
 | loc i =>
  simp only [Rep] at p
  obtain ⟨a,rfl,q⟩:=p
  rcases qNJ (f:=fun _ => some "list") (g:=fun _ => some "dict") h with ⟨xs,hS,h⟩ | ⟨kvs,hS,h⟩
  ·cases h
   obtain ⟨vs,z,t⟩:=r.at' i a _ q hS
   exact .of (.lst z)
  ·cases h
   obtain ⟨vs,z,t⟩:=r.at' i a _ q hS
   exact .of (.dK z)
 | _ => exact nn h
inductive IsiV (ds : List D) (S : Sto) : Prop
 | bad (e : qBD ds S = .bad)
 | of (d : D) (b a : String) (ed : ds = [d,.ty b]) (hb : qFU b = true) (ha : tyD d S = some a) (e : qBD ds S = .ok (.bl (qGf a b)) S)
theorem qaS (ds : List D) (S : Sto) : IsiV ds S:=by
 cases ds with
 | nil => exact .bad rfl
 | cons d ds =>
  cases ds with
  | nil => exact .bad rfl
  | cons e ds =>
   cases ds with
   | cons _ _ => cases e <;> exact .bad rfl
   | nil =>
    cases e with
    | ty b =>
     have z : qBD [d,.ty b] S = if qFU b then (match tyD d S with | some a => .ok (.bl (qGf a b)) S | none => .bad) else .bad:=rfl
     by_cases hb : qFU b = true
     ·rw [if_pos hb] at z
      cases ha : tyD d S with
      | none => rw [ha] at z; exact .bad z
      | some a => rw [ha] at z; exact .of d b a rfl hb ha z
     ·rw [if_neg hb] at z
      exact .bad z
    | _ => exact .bad rfl
theorem qRp : qEN X (.builtin "isinstance") qBD:=by
 intro pins σ H s P α S vs us ds Q I r rv rp af
 cases qaS ds S with
 | bad e => rw [e] at af; exact False.elim af
 | of d b a ed hb ha e =>
  subst ed
  rw [e] at af
  obtain ⟨v,w,u,x,rfl,rfl,p,p',q,q'⟩:=qKi rp rv
  simp only [Rep] at p'
  subst p'
  cases (show x = Value.type b from q')
  have kit:=qVw (K:=X.K) (qY5 ha) hb
  have fin : ∀ tk,EP X pins σ Q (.bool (qGf a b)) { s with toks:=tk }:=fun tk => ⟨.bl _,H,I.tok tk,rfl,xr af r (by simp only [Rep])⟩
  cases qZ6 r p ha with
  | of ht => exact qSO I q ht kit fin
  | tup p' ws e sq ea =>
   subst e ea
   cases (show u = Value.ref p' from q)
   obtain ⟨its,rv',⟨o,h1,h2,_⟩,_⟩:=I.tuple sq
   exact PySem.W.kia_one PySem.W.kitx_tuple I.kIn ⟨o,h1,h2⟩ kit (fun z => nomatch z) fin
  | lst p' ws e sq ea =>
   subst e ea
   cases (show u = Value.ref p' from q)
   obtain ⟨its,rv',⟨o,_,h1,h2,_⟩,_⟩:=I.list sq
   exact PySem.W.kia_one PySem.W.kitx_list I.kIn ⟨o,h1,h2⟩ kit (fun z => nomatch z) fin
noncomputable def qCW : List D → Option (List Bool)
 | [] => some []
 | .bl b :: r => (qCW r).map (b :: ·)
 | _ => none
theorem qEw {P : Hp} {α : List Addr} : ∀ {ds : List D} {bs : List Bool} {vs : List V} {us : List Value},qCW ds = some bs → qAL X.K P α ds vs → qAZ vs us → us = bs.map Value.bool
 | [],bs,vs,us,h,rp,rv => by
  cases h
  have:=rp.nil_inv; subst this
  cases rv; rfl
 | d :: ds,bs,vs,us,h,rp,rv => by
  cases d with
  | bl b =>
   obtain ⟨bs',q,rfl⟩:=Option.map_eq_some_iff.mp (show (qCW ds).map (b :: ·) = some bs from h)
   obtain ⟨w,ws,rfl,p,t⟩:=rp.cons_inv
   simp only [Rep] at p; subst p
   cases rv with
   | cons q1 q2 =>
    cases (show _ = Value.bool b from q1)
    rw [qEw q t q2]
    rfl
  | _ => exact nn h
noncomputable def qM8 (any : Bool) : DF:=fun ds S => match ds with
 | [d] => match (qCu d).bind qCW with
  | some bs => .ok (.bl (if any then bs.any id else bs.all id)) S
  | none => .bad
 | _ => .bad
theorem qN6 (bs : List Bool) : ((List.range bs.length).all fun i => bs.getD i false) = bs.all id:=by
 induction bs with
 | nil => rfl
 | cons b bs ih =>
  rw [List.length_cons,List.range_succ_eq_map,List.all_cons,List.all_map,List.all_cons,← ih]
  rfl
theorem qN7 (bs : List Bool) : ((List.range bs.length).any fun i => bs.getD i false) = bs.any id:=by
 induction bs with
 | nil => rfl
 | cons b bs ih =>
  rw [List.length_cons,List.range_succ_eq_map,List.any_cons,List.any_map,List.any_cons,← ih]
  rfl
theorem qSP {pins : List (Addr × Obj)} {σ : _L.St} {H : Hp} {s : Shared} {o : Obj} {h' : Heap} {tk : Nat} (I : Inv X pins σ H s) (k : ∀ b ob,b ∉ [s.heap.objs.size] → (s.heap.push o).get? b = some ob → h'.get? b = some ob) : Inv X pins σ H { s with heap:=h',toks:=tk } :=
 I.kept fun b u e => k b u (by simp; exact Nat.ne_of_lt (Heap.lt_size e)) (Heap.get?_push_of_some _ e)
theorem qIA {bs : List Bool} {its : List Value} (hi : its = bs.map Value.bool) {A : Around} : TruthOf X.prog X.w A (fun i v => its.toArray[i]? = some v) (fun i => bs.getD i false):=fun i v s' Q' E' hv hQ => by
 subst hi
 have hv' : (bs.map Value.bool)[i]? = some v:=by simpa using hv
 rw [List.getElem?_map] at hv'
 cases e : bs[i]? with
 | none => rw [e] at hv'; exact nn hv'
 | some b =>
  rw [e] at hv'
  cases Option.some.inj hv'
  have : bs.getD i false = b:=by simp [List.getD,e]
  have hQ' : Q' (bs.getD i false) s':=hQ
  rw [this] at hQ'
  exact wpAny_truthy_bool hQ'
theorem qVe {any : Bool} {ds : List D} {S : Sto} {P : Hp} {α : List Addr} {Ok : D → Sto → Prop} (h : qAR X P α (qM8 any ds S) Ok) : ∃ d xs bs,ds = [d] ∧ ItV d xs ∧ qCW xs = some bs ∧ Ok (.bl (if any then bs.any id else bs.all id)) S:=by
 obtain ⟨d,rfl,h1⟩:=qSk (X:=X) (β:=D) (g:=fun d => match (qCu d).bind qCW with | some bs => .ok (D.bl (if any then bs.any id else bs.all id)) S | none => .bad) h
 cases hb : (qCu d).bind qCW with
 | none => rw [hb] at h1; exact False.elim h1
 | some bs =>
  rw [hb] at h1
  obtain ⟨xs,hx,hbs⟩:=Option.bind_eq_some_iff.mp hb
  exact ⟨d,xs,bs,rfl,itV hx,hbs,h1⟩
theorem qWz (any : Bool) (hc : X.calm = true) : qEN X (.builtin (if any then "any" else "all")) (qM8 any):=by
 intro pins σ H s P α S vs us ds Q I r rv rp af
 obtain ⟨d,xs,bs,ed,hd,hbs,ok⟩:=qVe af
 clear af
 subst ed
 obtain ⟨v,u,rfl,rfl,p,q⟩:=qFl rp rv
 clear rp
 have fin : ∀ {o : Obj} (h' : Heap) (tk : Nat),(∀ b ob,b ∉ [s.heap.objs.size] → (s.heap.push o).get? b = some ob → h'.get? b = some ob) → EP X pins σ Q (.bool (if any then bs.any id else bs.all id)) { s with heap:=h',toks:=tk } :=
  fun {o} h' tk k => ⟨.bl _,H,qSP I k,rfl,xr ok r (by simp only [Rep])⟩
 clear rv ok
 have hh : X.A.in1.handled = none:=I.ok.hd hc
 cases hd with
 | tup ed =>
  subst ed
  obtain ⟨a,ws,its,rfl,sq,t,rvi,ht,hl,_⟩:=qI4 I r p
  cases (show u = Value.ref a from q)
  have hi:=qEw hbs t rvi
  have hlen : its.toArray.size = bs.length:=by rw [hi]; simp
  have hne : a ≠ s.heap.objs.size:=by obtain ⟨o,e,_⟩:=ht; exact Nat.ne_of_lt (Heap.lt_size e)
  have W:=Walks.tuple (prog:=X.prog) (w:=X.w) hh s.heap.objs.size a hne its.toArray
  have hT : ∀ o,(s.heap.push o).IsTuple a its.toArray:=fun o => by obtain ⟨o,e,c⟩:=ht; exact ⟨o,Heap.get?_push_of_some _ e,c⟩
  have ht' : s.heap.IsTuple a its.toArray:=ht
  cases any with
  | false =>
   refine call_all_walk (wpAny_pyIter_tuple ht' ⟨s.heap.objs.size,_,_,_,_,_,_,rfl,W,⟨⟨_,Heap.get?_push_size _ rfl,rfl,rfl⟩,hT _⟩,qIA hi,fun h' tk k => ?_⟩)
   rw [hlen,qN6]
   exact fin h' tk k
  | true =>
   refine call_any_walk (wpAny_pyIter_tuple ht' ⟨s.heap.objs.size,_,_,_,_,_,_,rfl,W,⟨⟨_,Heap.get?_push_size _ rfl,rfl,rfl⟩,hT _⟩,qIA hi,fun h' tk k => ?_⟩)
   rw [hlen,qN7]
   exact fin h' tk k
 | lst ed =>
  subst ed
  obtain ⟨a,ws,its,n,rfl,sq,t,rvi,ht,hl,_⟩:=qHX I r p
  cases (show u = Value.ref a from q)
  have hL : s.heap.IsList a its.toArray:=⟨_,ht,rfl,n,rfl⟩
  have hi:=qEw hbs t rvi
  have hlen : its.toArray.size = bs.length:=by rw [hi]; simp
  have hne : a ≠ s.heap.objs.size:=Nat.ne_of_lt (Heap.lt_size ht)
  have W:=Walks.list (prog:=X.prog) (w:=X.w) hh s.heap.objs.size a hne its.toArray
  have hL' : ∀ o,(s.heap.push o).IsList a its.toArray:=fun o => ⟨_,Heap.get?_push_of_some _ ht,rfl,n,rfl⟩
  cases any with
  | false =>
   refine call_all_walk (wpAny_pyIter_list hL ⟨s.heap.objs.size,_,_,_,_,_,_,rfl,W,⟨⟨_,Heap.get?_push_size _ rfl,rfl,rfl⟩,hL' _⟩,qIA hi,fun h' tk k => ?_⟩)
   rw [hlen,qN6]
   exact fin h' tk k
  | true =>
   refine call_any_walk (wpAny_pyIter_list hL ⟨s.heap.objs.size,_,_,_,_,_,_,rfl,W,⟨⟨_,Heap.get?_push_size _ rfl,rfl,rfl⟩,hL' _⟩,qIA hi,fun h' tk k => ?_⟩)
   rw [hlen,qN7]
   exact fin h' tk k
noncomputable def qPF : DF:=fun ds S => match ds with
 | [.int i] => .ok (.int i) S
 | [.bl b] => .ok (.int (b01 b)) S
 | _ => .bad
inductive IntV (ds : List D) (S : Sto) : Prop
 | bad (e : qPF ds S = .bad)
 | int (i : Int) (e : ds = [.int i])
 | bl (b : Bool) (e : ds = [.bl b])
theorem qaQ (ds : List D) (S : Sto) : IntV ds S:=by
 cases ds with
 | nil => exact .bad rfl
 | cons d ds =>
  cases ds with
  | cons _ _ => cases d <;> exact .bad rfl
  | nil =>
   cases d with
   | int i => exact .int i rfl
   | bl b => exact .bl b rfl
   | _ => exact .bad rfl
theorem qW0 : qEN X (.type "int") qPF:=by
 intro pins σ H s P α S vs us ds Q I r rv rp af
 cases qaQ ds S with
 | bad e => rw [e] at af; exact False.elim af
 | int i e =>
  subst e
  obtain ⟨v,u,rfl,rfl,p,q⟩:=qFl rp rv
  exact qNj pins s σ H _ _ Q I rv (.inl ⟨_,by rw [qB2 p],xr af r (by simp only [Rep])⟩)
 | bl b e =>
  subst e
  obtain ⟨v,u,rfl,rfl,p,q⟩:=qFl rp rv
  simp only [Rep] at p; subst p
  exact qNj pins s σ H _ _ Q I rv (.inr ⟨_,rfl,xr af r (by simp only [Rep]; rfl)⟩)
noncomputable def qPH : DF:=fun ds S => match ds with
 | [d] => match qCu d with
  | some xs => .ok (.tup xs) S
  | none => .bad
 | _ => .bad
theorem qTN : qEN X (.type "tuple") qPH:=by
 intro pins σ H s P α S vs us ds Q I r rv rp af
 obtain ⟨d,rfl,af1⟩:=qSk (X:=X) (β:=D) (g:=fun d => match qCu d with | some xs => .ok (D.tup xs) S | none => .bad) af
 obtain ⟨xs,hx,af2⟩ : ∃ xs,qCu d = some xs ∧ OkV X P α Q (.tup xs) S:=by
  cases hx : qCu d with
  | none => rw [hx] at af1; exact False.elim af1
  | some xs => rw [hx] at af1; exact ⟨xs,rfl,af1⟩
 obtain ⟨v,u,rfl,rfl,p,q⟩:=qFl rp rv
 cases itV hx with
 | tup e =>
  subst e
  have p0:=p
  simp only [Rep] at p
  obtain ⟨a,ws,rfl,sq,t⟩:=p
  exact qF6 pins s σ H _ _ Q I rv ⟨a,ws,rfl,.inr ⟨qC0 r.sub sq,xr af2 r p0⟩⟩
 | lst e =>
  subst e
  simp only [Rep] at p
  obtain ⟨a,ws,rfl,sq,t⟩:=p
  exact qF6 pins s σ H _ _ Q I rv ⟨a,ws,rfl,.inl ⟨(qCO r.sub sq).l,fun l hl => qHb r hl t af2⟩⟩
end
end _D
end
section
namespace _D
open PySem PySem.Spec PyProof.Rows _L
noncomputable def qA7 (tp : Bool) (h : Heap) (it l : Addr) (k : Nat) : Prop:=if tp then h.IsTupleIter it l k else h.IsListIter it l k
noncomputable def qCU (tp : Bool) (h : Heap) (l : Addr) (xs : Array Value) : Prop:=if tp then h.IsTuple l xs else h.IsList l xs
theorem qA7.keep {tp : Bool} {h h' : Heap} {it l : Addr} {k : Nat} (x : qA7 tp h it l k) (q : ∀ o,h.get? it = some o → h'.get? it = some o) : qA7 tp h' it l k:=by
 cases tp <;> (obtain ⟨o,e,r⟩:=x; exact ⟨o,q o e,r⟩)
theorem qCU.keep {tp : Bool} {h h' : Heap} {l : Addr} {xs : Array Value} (x : qCU tp h l xs) (q : ∀ o,h.get? l = some o → h'.get? l = some o) : qCU tp h' l xs:=by
 cases tp <;> (obtain ⟨o,e,r⟩:=x; exact ⟨o,q o e,r⟩)
theorem qA7.there {tp : Bool} {h : Heap} {it l : Addr} {k : Nat} (x : qA7 tp h it l k) : ∃ o,h.get? it = some o ∧ ∀ v,o.data ≠ .cell v:=by
 cases tp <;> (obtain ⟨o,e,_,d⟩:=x; exact ⟨o,e,fun v z => by rw [d] at z; cases z⟩)
section
variable {prog : Program} {w : World} {A : Around} {E : Value → Shared → Prop} {s : Shared}
theorem qT7 {it t : Addr} {i : Nat} {items : Array Value} {x : Value} {Q : Value → Shared → Prop} (hit : s.heap.IsTupleIter it t i) (ht : s.heap.IsTuple t items) (hx : items[i]? = some x)
  (hQ : ∀ h',h'.IsTupleIter it t (i + 1) → Heap.SameBut it s.heap h' → Q x { s with heap:=h' }) : wpAny (model prog w) A (Builtin.SmallTypes.nextOf (.ref it)) Q E s:=by
 obtain ⟨o,e,c,d⟩:=id hit
 obtain ⟨u,eu,_,m,du⟩:=ht
 unfold Builtin.SmallTypes.nextOf
 refine wpAny_bind (wpAny_callSpecial?_slot (name:=Str.ofString "__next__") hit.typeIs F.slot_tuple_iterator_next (wpAny_call_entry F.slot_tuple_iterator_next hit.typeIs F.entry_tuple_iterator_next ?_ (F.args_tuple_iterator_next_1 _)))
 show wpAny _ _ (field (.ref it) 0 >>= _) _ _ s; refine wpAny_bind (wpAny_field e d (x:=.ref t) rfl ?_)
 show wpAny _ _ (if (Value.ref t == Value.none) = true then _ else _) _ _ s; rw [if_neg (show ¬ ((Value.ref t == Value.none) = true) from Bool.false_ne_true)]
 show wpAny _ _ (field (.ref it) 1 >>= _) _ _ s; refine wpAny_bind (wpAny_field e d (x:=.int i 0) rfl ?_)
 show wpAny _ _ (seqItems? (.ref t) >>= _) _ _ s; refine wpAny_bind (wpAny_seqItems eu du ?_)
 simp only [Int.toNat_natCast,hx]
 refine wpAny_bind (wpAny_setField e d (by simp) (wpAny_pure ⟨x,rfl,wpAny_pure (hQ _ ⟨_,Heap.get?_update_self _ e (Obj.isFreed_of_fields (Obj.data_mapFields d _)),(Obj.cls_mapFields ..).trans c,?_⟩ (Heap.SameBut.update ..))⟩))
 rw [Obj.data_mapFields d]; simp [rawInt]
theorem qPV {it t : Addr} {i : Nat} {items : Array Value} {Q : Value → Shared → Prop} (hh : A.handled = none) (hit : s.heap.IsTupleIter it t i) (ht : s.heap.IsTuple t items) (hx : items[i]? = none)
  (hE : ∀ h' e,Heap.ExtBut it s.heap h' → (∃ o,h'.get? e = some o ∧ o.cls = .type "StopIteration") → E (.ref e) { s with heap:=h' }) : wpAny (model prog w) A (Builtin.SmallTypes.nextOf (.ref it)) Q E s:=by
 obtain ⟨o,e,c,d⟩:=id hit
 obtain ⟨u,eu,_,m,du⟩:=ht
 unfold Builtin.SmallTypes.nextOf
 refine wpAny_bind (wpAny_callSpecial?_slot (name:=Str.ofString "__next__") hit.typeIs F.slot_tuple_iterator_next (wpAny_call_entry F.slot_tuple_iterator_next hit.typeIs F.entry_tuple_iterator_next ?_ (F.args_tuple_iterator_next_1 _)))
 show wpAny _ _ (field (.ref it) 0 >>= _) _ _ s; refine wpAny_bind (wpAny_field e d (x:=.ref t) rfl ?_)
 show wpAny _ _ (if (Value.ref t == Value.none) = true then _ else _) _ _ s; rw [if_neg (show ¬ ((Value.ref t == Value.none) = true) from Bool.false_ne_true)]
 show wpAny _ _ (field (.ref it) 1 >>= _) _ _ s; refine wpAny_bind (wpAny_field e d (x:=.int i 0) rfl ?_)
 show wpAny _ _ (seqItems? (.ref t) >>= _) _ _ s; refine wpAny_bind (wpAny_seqItems eu du ?_)
 simp only [Int.toNat_natCast,hx]; refine wpAny_bind (wpAny_rule (wpAny_bind (wpAny_setField e d (by simp) ?_)))
 show wpAny _ _ (newExc (.type "StopIteration") [] >>= _) _ _ _; refine wpAny_bind ?_
 simp only [newExc,newTuple]; refine wpAny_bind (wpAny_newObj_type ?_ (by size_fits))
 refine wpAny_bind (m:=firstArgMember _ _) (wpAny_of_eq (a:=Value.none) (by first | rfl | (simp only [firstArgMember]; rfl)) (wpAny_newObj_type ?_ (by size_fits)))
 simp only [raiseNew]; refine wpAny_bind (wpAny_handled ?_)
 first | rw [show A.in1.handled = none from hh] | rw [hh]
 exact wpAny_bind (wpAny_pure (wpAny_throw (hE _ _ (((Heap.SameBut.update ..).extBut.push _).push _) ⟨_,Heap.get?_push_size _ rfl,rfl⟩)))
theorem qJU {tp : Bool} {it l : Addr} {k : Nat} {xs : Array Value} {x : Value} {Q : Value → Shared → Prop} (hit : qA7 tp s.heap it l k) (hl : qCU tp s.heap l xs) (hx : xs[k]? = some x)
  (hQ : ∀ h',qA7 tp h' it l (k + 1) → Heap.SameBut it s.heap h' → Q x { s with heap:=h' }) : wpAny (model prog w) A (Builtin.SmallTypes.nextOf (.ref it)) Q E s:=by
 cases tp with
 | false => exact wpAny_nextOf_list_item hit hl hx hQ
 | true => exact qT7 hit hl hx hQ
theorem qHY {tp : Bool} {it l : Addr} {k : Nat} {xs : Array Value} {Q : Value → Shared → Prop} (hh : A.handled = none) (hit : qA7 tp s.heap it l k) (hl : qCU tp s.heap l xs) (hx : xs[k]? = none)
  (hE : ∀ h' e,Heap.ExtBut it s.heap h' → (∃ o,h'.get? e = some o ∧ o.cls = .type "StopIteration") → E (.ref e) { s with heap:=h' }) : wpAny (model prog w) A (Builtin.SmallTypes.nextOf (.ref it)) Q E s:=by
 cases tp with
 | false => exact wpAny_nextOf_list_end hh hit hl hx hE
 | true => exact qPV hh hit hl hx hE
structure ZA (z I O i j : Addr) : Prop where
 Iz : I ≠ z
 Oz : O ≠ z
 iz : i ≠ z
 jz : j ≠ z
 IO : I ≠ O
 Ii : I ≠ i
 Ij : I ≠ j
 Oi : O ≠ i
 Oj : O ≠ j
 ij : i ≠ j
structure Off (z O i j a : Addr) : Prop where
 z : a ≠ z
 O : a ≠ O
 i : a ≠ i
 j : a ≠ j
abbrev qTD (z O i j : Addr) (h h' : Heap) : Prop:=∀ c o,c ≠ z → c ≠ O → c ≠ i → c ≠ j → h.get? c = some o → h'.get? c = some o
theorem qUc {tp tq : Bool} {z I O i j a b : Addr} {k : Nat} {xs ys : Array Value} {x y p q : Value} {Q : Value → Shared → Prop} (D : ZA z I O i j) (Da : Off z O i j a) (Db : Off z O i j b)
  (hz : IsZip s.heap z I O .none) (hI : IsPair s.heap I (.ref i) (.ref j)) (hO : IsPair s.heap O p q) (h1 : qA7 tp s.heap i a k) (h2 : qA7 tq s.heap j b k) (ha : qCU tp s.heap a xs) (hb : qCU tq s.heap b ys) (hx : xs[k]? = some x) (hy : ys[k]? = some y)
  (hQ : ∀ h',IsZip h' z I O (rawInt s.heap.objs.size) → IsPair h' O x y → qA7 tp h' i a (k + 1) → qA7 tq h' j b (k + 1) → IsPair h' s.heap.objs.size x y → h'.objs.size = s.heap.objs.size + 1 → qTD z O i j s.heap h' → Q (.ref s.heap.objs.size) { s with heap:=h' }) :
  wpAny (model prog w) A (Builtin.«zip.__next__» ⟨[.ref z],[]⟩) (fun fin s' => ∃ v,fin = .done (.ret v) ∧ Q v s') E s:=by
 show wpAny _ _ (field (.ref z) 2 >>= _) _ _ _; refine wpAny_bind (wpAny_field hz rfl (x:=.bool false) rfl ?_)
 show wpAny _ _ (field (.ref z) 3 >>= _) _ _ _; refine wpAny_bind (wpAny_field hz rfl (x:=.ref I) rfl (wpAny_bind (wpAny_seqItems hI rfl ?_)))
 show wpAny _ _ (Builtin.SmallTypes.ownedTupleIsFree (.ref z) >>= _) _ _ _; refine wpAny_bind ?_
 unfold Builtin.SmallTypes.ownedTupleIsFree; refine wpAny_bind (wpAny_field hz rfl (x:=.none) rfl (wpAny_pure ?_))
 simp only [if_true]; refine wpAny_bind (wpAny_rule (wpAny_bind (wpAny_field hz rfl (x:=.ref O) rfl (wpAny_bind (wpAny_setField_rec hz (by simp) fun g1 z1 s1 => ?_)))))
 replace z1 : IsZip g1 z I O .ellipsis:=z1
 refine wpAny_bind ?_; simp only [List.zipIdx_cons,List.zipIdx_nil,List.forIn_cons,List.forIn_nil]
 refine wpAny_bind (wpAny_bind (wpAny_onRaise ?_)); show wpAny _ _ (Builtin.SmallTypes.nextOf (.ref i) >>= _) _ _ _
 refine wpAny_bind (qJU (h1.keep fun o e => s1.extBut _ _ D.iz e) (ha.keep fun o e => s1.extBut _ _ Da.z e) hx fun g2 i2 s2 => wpAny_pure ?_)
 have O2 : IsPair g2 O p q:=s2.extBut _ _ D.Oi (s1.extBut _ _ D.Oz hO)
 refine wpAny_bind (wpAny_seqItems O2 rfl (wpAny_bind (wpAny_updateSeq_pair O2 fun g3 O3 s3 => wpAny_bind (wpAny_letGo (wpAny_pure ?_)))))
 replace O3 : IsPair g3 O x q:=O3
 refine wpAny_bind (wpAny_bind (wpAny_onRaise ?_)); show wpAny _ _ (Builtin.SmallTypes.nextOf (.ref j) >>= _) _ _ _
 refine wpAny_bind (qJU (h2.keep fun o e => s3.extBut _ _ D.Oj.symm (s2.extBut _ _ D.ij.symm (s1.extBut _ _ D.jz e))) (hb.keep fun o e => s3.extBut _ _ Db.O (s2.extBut _ _ Db.i (s1.extBut _ _ Db.z e))) hy fun g4 j4 s4 => wpAny_pure ?_)
 have O4 : IsPair g4 O x q:=s4.extBut _ _ D.Oj O3
 refine wpAny_bind (wpAny_seqItems O4 rfl (wpAny_bind (wpAny_updateSeq_pair O4 fun g5 O5 s5 => wpAny_bind (wpAny_letGo (wpAny_pure (wpAny_pure ?_))))))
 replace O5 : IsPair g5 O x y:=O5
 refine wpAny_bind (wpAny_seqItems O5 rfl (wpAny_bind (wpAny_newTuple ?_)))
 have sz : g5.objs.size = s.heap.objs.size:=by rw [s5.1,s4.1,s3.1,s2.1,s1.1]
 have z5 : IsZip g5 z I O .ellipsis:=s5.extBut _ _ D.Oz.symm (s4.extBut _ _ D.jz.symm (s3.extBut _ _ D.Oz.symm (s2.extBut _ _ D.iz.symm z1)))
 have k5 : qTD z O i j s.heap g5:=fun c o c1 c2 c3 c4 e => s5.extBut _ _ c2 (s4.extBut _ _ c4 (s3.extBut _ _ c2 (s2.extBut _ _ c3 (s1.extBut _ _ c1 e))))
 have i5 : qA7 tp g5 i a (k + 1):=i2.keep fun o e => s5.extBut _ _ D.Oi.symm (s4.extBut _ _ D.ij (s3.extBut _ _ D.Oi.symm e))
 have j5 : qA7 tq g5 j b (k + 1):=j4.keep fun o e => s5.extBut _ _ D.Oj.symm e
 have zl : z < g5.objs.size:=Heap.lt_size z5
 show wpAny _ _ (Builtin.SmallTypes.ownedTupleHandOut (.ref z) (.ref g5.objs.size) >>= _) _ _ _
 refine wpAny_bind ?_; unfold Builtin.SmallTypes.ownedTupleHandOut
 have z6 : IsZip (g5.push { cls:=.type "tuple",data:=.seq #[x,y] }) z I O .ellipsis:=Heap.get?_push_of_some _ z5
 refine wpAny_bind (wpAny_setField_rec z6 (by simp) fun g7 z7 s7 => ?_)
 replace z7 : IsZip g7 z I O (rawInt g5.objs.size):=z7
 refine wpAny_setField_rec z7 (by simp) fun g8 z8 s8 => ?_
 replace z8 : IsZip g8 z I O (rawInt g5.objs.size):=z8
 have up : ∀ c o,c ≠ z → g5.get? c = some o → g8.get? c = some o:=fun c o c1 e => s8.extBut _ _ c1 (s7.extBut _ _ c1 (Heap.get?_push_of_some _ e))
 have T8 : IsPair g8 g5.objs.size x y:=s8.extBut _ _ (Nat.ne_of_gt zl) (s7.extBut _ _ (Nat.ne_of_gt zl) (Heap.get?_push_size _ rfl))
 have sz8 : g8.objs.size = g5.objs.size + 1:=by rw [s8.1,s7.1,Heap.size_push]
 rw [sz] at z8 T8 sz8
 refine wpAny_pure ⟨_,rfl,?_⟩
 show Q (.ref g5.objs.size) _
 rw [sz]
 exact hQ g8 z8 (up _ _ D.Oz O5) (i5.keep fun o e => up _ o D.iz e) (j5.keep fun o e => up _ o D.jz e) T8 sz8 fun c o c1 c2 c3 c4 e => up c o c1 (k5 c o c1 c2 c3 c4 e)
end
end _D
end
section
namespace _D
open PySem PySem.Spec PyProof.Rows _L
theorem qBG.there {P : Program} {w : World} {H : Hp} {h : Heap} {a : Addr} {o : HO} (x : qBG P w H h a o) : ∃ ob,h.get? a = some ob:=by
 cases o with
 | lst xs => obtain ⟨_,_,_,_,e⟩:=x; exact ⟨_,e⟩
 | tup xs => obtain ⟨_,_,_,ob,e,_⟩:=x; exact ⟨_,e⟩
 | dK kvs => obtain ⟨_,_,_,_,o,_,_,e,_⟩:=x; exact ⟨_,e⟩
 | dT kvs => obtain ⟨_,_,_,_,o,_,_,e,_⟩:=x; exact ⟨_,e⟩
 | set S n => obtain ⟨o,_,_,_,e,_⟩:=x; exact ⟨_,e⟩
 | ins C dx fs => obtain ⟨_,_,_,e,_⟩:=x; exact ⟨_,e⟩
 | own y => obtain ⟨_,e⟩:=x; exact ⟨_,e⟩
 | xd fs => obtain ⟨_,⟨_,_,_,e,_⟩,_⟩:=x; exact ⟨_,e⟩
 | rng lo hi => obtain ⟨_,_,_,e⟩:=x; exact ⟨_,e⟩
 | frz ob u => obtain ⟨e,_⟩:=x; exact ⟨_,e⟩
 | tbl ps => exact ⟨_,show h.get? a = some _ from x⟩
 | met f y => exact ⟨_,show h.get? a = some _ from x⟩
 | ext φ => obtain ⟨_,e,_⟩:=x; exact e
section
variable {X : Cx} {pins : List (Addr × Obj)} {σ : _L.St} {H : Hp} {s : Shared} {B h' : Heap}
abbrev Fn1 (X : Cx) : Prop:=X.ex = [] ∧ X.stack = X.env :: X.outer ∧ X.env.frame = some X.env.locals
theorem Fn1.mem (F : Fn1 X) {b : Addr} : b ∈ frs X.stack ↔ b = X.env.locals ∨ b ∈ X.fs:=by
 rw [F.2.1]
 unfold frs
 rw [List.filterMap_cons,F.2.2]
 exact List.mem_cons
theorem Old.there (I : Inv X pins σ H s) (F : Fn1 X) {b : Addr} (o : Old X pins H b) : ∃ ob,s.heap.get? b = some ob:=by
 rcases o with ⟨o,e⟩ | e | ⟨p,hp,rfl⟩ | ⟨x,e⟩
 ·exact I.base.there b o e (by rw [F.1]; simp)
 ·cases q : H b with
  | none => exact absurd q e
  | some u => exact qBG.there (I.hok b u q)
 ·exact ⟨_,(I.pin p hp).1⟩
 ·obtain ⟨v,ob,ho,_⟩:=I.cell x b e
  exact ⟨ob,ho⟩
theorem Inv.fly (I : Inv X pins σ H s) (F : Fn1 X) (cv : Cv X pins H B s.heap) (st : B.StaysIn h') (up : s.heap.UpToSlots h') : Inv X pins σ H { s with heap:=h' } ∧ Cv X pins H B h':=by
 have kp : ∀ b o,s.heap.get? b = some o → Old X pins H b → b ∉ frs X.stack → h'.get? b = some o:=fun b o e q n => st b o (cv b o e q n)
 have neL : ∀ b o,X.s₀.heap.get? b = some o → b ≠ X.env.locals:=fun b o e => Nat.ne_of_lt (Nat.lt_of_lt_of_le (Heap.lt_size e) I.ok.above)
 have nofr : ∀ b o,X.s₀.heap.get? b = some o → b ∉ X.fs → b ∉ frs X.stack:=fun b o e n z => (F.mem.mp z).elim (neL b o e) n
 have nx : ∀ b,b ∉ X.ex:=fun b => by rw [F.1]; simp
 have frU : ∀ b,b ∈ frs X.stack → ∀ o,s.heap.get? b = some o → ∃ sl,h'.get? b = some { o with slots:=sl }:=fun b hb o e => by
  obtain ⟨_,o',e',nf⟩:=I.stack.mem hb
  rw [e] at e'; cases e'
  exact up b o e nf
 have cellK : ∀ x c,X.env.cells.lookup x = some c → ∀ v,s.heap.IsCell c v → h'.IsCell c v:=fun x c e v ⟨o,ho,hd⟩ => by
  obtain ⟨sl,q⟩:=up c o ho fun vs z => by rw [hd] at z; cases z
  exact ⟨_,q,hd⟩
 refine ⟨⟨I.ok,I.os,I.bare,⟨fun b o e n hb hx => ?_,fun b o e n hb hx => ?_,I.base.free,fun b o e hx => ?_,I.base.tups,I.base.frzs,I.base.tbls⟩,?_,fun x c e => ?_,I.free,I.freeC,fun p hp => ?_,fun a o e => ?_,I.len⟩,fun b o e q n => ?_⟩
 ·exact kp b o (I.base.keep b o e n hb hx) (.inl ⟨o,e⟩) (nofr b o e hb)
 ·obtain ⟨sl,e1⟩:=I.base.slot b o e n hb hx
  obtain ⟨sl',e2⟩:=frU b (F.mem.mpr (.inr hb)) _ e1
  exact ⟨sl',e2⟩
 ·obtain ⟨o',e1⟩:=I.base.there b o e hx
  by_cases hb : b ∈ frs X.stack
  ·obtain ⟨sl,e2⟩:=frU b hb _ e1
   exact ⟨_,e2⟩
  ·exact ⟨o',kp b o' e1 (.inl ⟨o,e⟩) hb⟩
 ·obtain ⟨m,hn,hl⟩:=I.loc
  refine ⟨m,up.ns hn,fun i x v e1 e2 e3 => ?_⟩
  obtain ⟨u,r,l⟩:=hl i x v e1 e2 e3
  refine ⟨u,r,?_⟩
  rcases l with l | ⟨k,c,e,z⟩
  ·exact .inl l
  ·exact .inr ⟨k,c,e,cellK x c e _ z⟩
 ·obtain ⟨v,z⟩:=I.cell x c e
  exact ⟨v,cellK x c e v z⟩
 ·obtain ⟨e,n,ne,nf,d⟩:=I.pin p hp
  exact ⟨kp p.1 p.2 e (.inr (.inr (.inl ⟨p,hp,rfl⟩))) fun z => (F.mem.mp z).elim ne nf,n,ne,nf,d⟩
 ·refine (I.hok a o e).stay (fun b u hb q => ?_) (fun _ q => q) fun _ _ q => q
  have hn : H b ≠ none:=by
   rcases hb with rfl | hb
   ·rw [e]; intro z; cases z
   ·rw [hb]; intro z; cases z
  exact kp b u q (.inr (.inl hn)) fun z => hn (I.stkFree b z)
 ·obtain ⟨o1,e1⟩:=Old.there I F q
  have e2:=cv b o1 e1 q n
  have e3:=st b o1 e2
  rw [e] at e3; cases e3
  exact e2
theorem qSf {c : Value} {e : Addr} {g : Heap} {args : List Value} (I : Inv X pins σ H s) (hm : Heap.MadeExcOf g s.heap e c args) (hf : g.FunFrames X.base X.stack) (hk : ∀ b o,s.heap.get? b = some o → Old X pins H b → g.get? b = some o) :
  (PySem.W.hideAll g (frs X.stack)).StaysIn g ∧ g.FunFrames (PySem.W.hideAll g (frs X.stack)) X.stack ∧ Cv X pins H (PySem.W.hideAll g (frs X.stack)) s.heap :=
 ⟨fun b o q => PySem.W.of_hideAll _ q,PySem.W.funFrames_hide hf fun env he a ha => List.mem_filterMap.mpr ⟨env,he,ha⟩,fun b o e q n => PySem.W.hideAll_get _ (hk b o e q) n⟩
theorem qSW {M : Model} {A : Around} {E : Value → Shared → Prop} {c : Value} {e : Addr} {Q : Unit → Shared → Prop} (I : Inv X pins σ H s) (F : Fn1 X) (hA : A.frames = some X.stack) (f : FlyX X pins H c e s.heap)
  (hQ : ∀ h' B a0,Heap.FlyingW B X.outer e c a0 h' → Inv X pins σ H { s with heap:=h' } → Cv X pins H B h' → Q () { s with heap:=h' }) : wpAny M A (leaving X.env (.ref e)) Q E s:=by
 cases f with
 | new g args hm hf hk =>
  obtain ⟨k1,k2,k3⟩:=qSf I hm hf hk
  rw [F.2.1] at hA
  refine wpAny_leaves_madeW hA F.2.2 k1 (by rw [← F.2.1]; exact k2) hm fun h' t x1 x2 x3 x4 => ?_
  obtain ⟨I1,cv1⟩:=Inv.fly I F k3 x1.1 x4
  exact hQ h' _ _ x1 I1 cv1
 | fly B a0 fl cv =>
  rw [F.2.1] at hA
  refine wpAny_leaves_onW hA F.2.2 (by rw [← F.2.1]; exact fl) fun h' x1 x2 => ?_
  obtain ⟨I1,cv1⟩:=Inv.fly I F cv x1.1 x2
  exact hQ h' _ _ x1 I1 cv1
end
noncomputable def CXd (P : Program) (w : World) : CXT:=fun outer H s E u s' =>
 ∃ e c H' B a0,u = .ref e ∧ s'.os = s.os ∧ AllBare s'.gens ∧ Un (frs outer) [] H H' s.heap s'.heap ∧ HOk P w H' s'.heap ∧ Heap.FlyingW B outer e c a0 s'.heap ∧
  (∀ b o,s'.heap.get? b = some o → ((∃ o,s.heap.get? b = some o) ∨ H' b ≠ none) → b ∉ frs outer → B.get? b = some o) ∧ E c none H'
section
variable {X : Cx} {pins : List (Addr × Obj)} {σ : _L.St} {H : Hp} {s s' : Shared}
theorem qXi {E : XK} {u : Value} (I : Inv X pins σ H s) (F : Fn1 X) (h : CXd X.prog X.w X.stack H s E u s') : ∃ e c H',u = .ref e ∧ Inv X pins σ H' s' ∧ FlyX X pins H' c e s'.heap ∧ E c none H':=by
 obtain ⟨e,c,H',B,a0,rfl,os,bare,un,hok,fl,cov,q⟩:=h
 have I' : Inv X pins σ H' s':=Inv.call' I os un hok bare (ch:=[]) fun b z => absurd z (by simp)
 refine ⟨e,c,H',rfl,I',.fly B a0 fl fun b o eb old n => cov b o eb ?_ n,q⟩
 rcases old with ⟨o,z⟩ | z | ⟨p,hp,rfl⟩ | ⟨x,z⟩
 ·exact .inl (I.base.there b o z (by rw [F.1]; simp))
 ·exact .inr z
 ·exact .inl ⟨_,(I.pin p hp).1⟩
 ·obtain ⟨v,ob,ho,_⟩:=I.cell x b z
  exact .inl ⟨ob,ho⟩
end
end _D
end
section
namespace _D
open PySem PySem.Spec PyProof.Rows _L
structure RoomC (cm : Bool) (k : Nat) (A : Around) : Prop where
 hd : cm = true → A.handled = none
 dp : A.depth + 3 * k + 5 < recursionLimit
 un : A.units + 16 * k + 200 < cLine
theorem RoomC.mono {cm : Bool} {j k : Nat} {A : Around} (r : RoomC cm k A) (h : autoParam (j ≤ k) au2._auto_1) : RoomC cm j A:=⟨r.hd,by have:=r.dp; omega,by have:=r.un; omega⟩
theorem RoomC.deeper {cm : Bool} {k : Nat} {A : Around} (r : RoomC cm (k + 1) A) (env : Env) : RoomC cm k (A.deeper env) :=
 ⟨r.hd,by have:=r.dp; show A.depth + 1 + 3 * k + 5 < _; omega,by have:=r.un; show A.units + 3 + 16 * k + 200 < _; omega⟩
theorem RoomC.depth {cm : Bool} {k : Nat} {A : Around} (r : RoomC cm k A) : A.depth < recursionLimit:=by have:=r.dp; omega
theorem RoomC.units {cm : Bool} {k : Nat} {A : Around} (r : RoomC cm k A) : A.units + 64 < cLine:=by have:=r.un; omega
theorem RoomC.of {k : Nat} {A : Around} (r : Room k A) : RoomC true k A:=⟨fun _ => r.hd,r.dp,r.un⟩
theorem RoomC.any {cm : Bool} {k : Nat} {A : Around} (r : RoomC cm k A) : RoomC false k A:=⟨(fun z => nomatch z),r.dp,r.un⟩
theorem RoomC.mark {cm : Bool} {k : Nat} {A : Around} (r : RoomC cm k A) (h : Option Value) : RoomC false k (A.mark h):=⟨(fun z => nomatch z),r.dp,r.un⟩
abbrev Cx.re (X : Cx) (A : Around) (cm : Bool) (E : Value → Shared → Prop) : Cx:={ X with A:=A,calm:=cm,xe:=E }
theorem Inv.re {X : Cx} {pins : List (Addr × Obj)} {σ : _L.St} {H : Hp} {s : Shared} (I : Inv X pins σ H s) (A : Around) (cm : Bool) (E : Value → Shared → Prop) (hf : A.frames = some X.stack) (hh : cm = true → A.handled = none) : Inv (Cx.re X A cm E) pins σ H s :=
 ⟨⟨I.ok.mod,I.ok.kind,I.ok.glob,I.ok.blt,I.ok.above,I.ok.inj,I.ok.has,I.ok.cab,hh,hf,I.ok.stk,I.ok.exf,I.ok.bs,I.ok.bsz,I.ok.noex,I.ok.exfs,I.ok.funs,I.ok.frf⟩,I.os,I.bare,I.base,I.loc,I.cell,I.free,I.freeC,I.pin,I.hok,I.len⟩
theorem Inv.unre {X : Cx} {pins : List (Addr × Obj)} {σ : _L.St} {H : Hp} {s : Shared} {A : Around} {cm : Bool} {E : Value → Shared → Prop} (I : Inv (Cx.re X A cm E) pins σ H s) (hf : X.A.frames = some X.stack) (hh : X.calm = true → X.A.handled = none) : Inv X pins σ H s :=
 ⟨⟨I.ok.mod,I.ok.kind,I.ok.glob,I.ok.blt,I.ok.above,I.ok.inj,I.ok.has,I.ok.cab,hh,hf,I.ok.stk,I.ok.exf,I.ok.bs,I.ok.bsz,I.ok.noex,I.ok.exfs,I.ok.funs,I.ok.frf⟩,I.os,I.bare,I.base,I.loc,I.cell,I.free,I.freeC,I.pin,I.hok,I.len⟩
structure FnX (P : Program) (w : World) (K : PySem.W.Frag) (mg : Str → Option Value) (base : Heap) (cm : Bool) (k : Nat) (f : Addr) (fd : FuncData) (ps : List Str) (sp : Sp) : Prop where
 len : ∀ vs H Q E,sp vs H Q E → vs.length = ps.length
 run : ∀ (A : Around) (outer : List Env) (s : Shared) (H : Hp) (args : Args) (us : List Value) (vs : List V) (Q : VK) (E : XK),RoomC cm k A → Env0 P w K mg base A outer s H → BindsTo s fd args (ps.zip us) → qAZ vs us → sp vs H Q E →
  codeAny (model P w) A (.call (.ref f) args) (CR (CXd P w) outer P w H s Q E) s
theorem FnX.ok {P : Program} {w : World} {K : PySem.W.Frag} {mg : Str → Option Value} {base : Heap} {k : Nat} {f : Addr} {fd : FuncData} {ps : List Str} {sp : Sp} (F : FnX P w K mg base true k f fd ps sp) : FnOk P w K mg base (CXd P w) k f fd ps sp :=
 ⟨F.len,fun A outer s H args us vs Q E hr => F.run A outer s H args us vs Q E (.of hr)⟩
theorem FnX.imp {P : Program} {w : World} {K : PySem.W.Frag} {mg : Str → Option Value} {base : Heap} {cm : Bool} {k : Nat} {f : Addr} {fd : FuncData} {ps : List Str} {sp sp' : Sp} (F : FnX P w K mg base cm k f fd ps sp)
  (h : ∀ vs H Q E,sp' vs H Q E → sp vs H Q E) : FnX P w K mg base cm k f fd ps sp' :=
 ⟨fun vs H Q E q => F.len vs H Q E (h _ _ _ _ q),fun A outer s H args us vs Q E hr he hb hv hs => F.run A outer s H args us vs Q E hr he hb hv (h _ _ _ _ hs)⟩
noncomputable def cxC (cm : Bool) (P : Program) (w : World) (K : PySem.W.Frag) (mg : Str → Option Value) (base : Heap) (N : List Str) (qual : Str) (scope : Scope) (f : Addr) (cd : Value) (A : Around) (outer : List Env) (s : Shared) (H : Hp) (E : XK) : Cx where
 prog:=P
 w:=w
 K:=K
 mg:=mg
 base:=base
 A:=A.deeper (envOfC qual scope s.heap.objs.size f cd)
 N:=N
 s₀:=s
 H₀:=H
 env:=envOfC qual scope s.heap.objs.size f cd
 outer:=outer
 stack:=envOfC qual scope s.heap.objs.size f cd :: outer
 ex:=[]
 calm:=cm
 fn:=fun _ => true
 pn:=[]
 xe:=fun e s' => wpAny (model P w) (A.deeper (envOfC qual scope s.heap.objs.size f cd)) (leaving (envOfC qual scope s.heap.objs.size f cd) e) (fun _ s'' => CXd P w outer H s E e s'') (fun e' s'' => CXd P w outer H s E e' s'') s'
section
variable {P : Program} {w : World} {K : PySem.W.Frag} {mg : Str → Option Value} {base : Heap} {cm : Bool} {N : List Str} {qual : Str} {scope : Scope} {f : Addr} {cd : Value} {A : Around} {outer : List Env} {s : Shared} {H : Hp} {E : XK}
theorem qTT : PassesOwn (model P w) (A.deeper (envOfC qual scope s.heap.objs.size f cd)) (envOfC qual scope s.heap.objs.size f cd) (cxC cm P w K mg base N qual scope f cd A outer s H E).xe:=PassesOwn.leaving (Q₁:=fun e s'' => CXd P w outer H s E e s'')
theorem qRt {P0 : Hp} {α : List Addr} {c : Value} {x : D} {S : Sto} {u : Value} {s' : Shared} (k : XOk (cxC cm P w K mg base N qual scope f cd A outer s H E) P0 α c x S u s')
  (q : ∀ H' P' α',Rel K H' P' α' S → qAK P0 P' → α <+: α' → E c none H') : (cxC cm P w K mg base N qual scope f cd A outer s H E).xe u s':=by
 obtain ⟨e,pins,σ,H1,P1,α1,rfl,I,r,e1,e2,F,fl⟩:=k
 refine qSW (X:=cxC cm P w K mg base N qual scope f cd A outer s H E) I F I.ok.frames fl fun h' B a0 x1 I1 cv => ?_
 refine ⟨e,c,H1,B,a0,rfl,I1.os,I1.bare,I1.base,I1.hok,x1,fun b o eb hb n => cv b o eb ?_ fun z => ?_,q H1 P1 α1 r e1 e2⟩
 ·rcases hb with z | z
  ·exact .inl z
  ·exact .inr (.inl z)
 ·rcases (Fn1.mem F).mp z with z | z
  ·subst z
   rcases hb with ⟨o',e'⟩ | z
   ·exact absurd (Heap.lt_size e') (Nat.not_lt.mpr I1.ok.above)
   ·exact z I1.free
  ·exact n z
theorem qRN {ps : List Str} {s1 : Shared} {us : List Value} {vs : List V} (S : FnScope N ps scope) (hd : cm = true → A.handled = none) (e0 : Env0 P w K mg base A outer s H) (hl : vs.length = ps.length) (r : qAZ vs us)
  (x : InCallC s s.heap.objs.size (bindL (envOfC qual scope s.heap.objs.size f cd).kindOf (ps.zip us) fun _ => none) (cellsFrom (s.heap.objs.size + 1) scope.names []) (bindC (envOfC qual scope s.heap.objs.size f cd).kindOf (ps.zip us) fun _ => none) s1) :
  Inv (cxC cm P w K mg base N qual scope f cd A outer s H E) [] (_L.qE8 N vs) H s1:=by
 have I:=qSM (CX:=CXd P w) (E:=E) (A:={ A with handled:=none }) S rfl ⟨e0.frames,e0.mod,e0.bs,e0.bsz,e0.funs,e0.frf,e0.hok,e0.bare⟩ hl r x
 have J:=Inv.re I (A.deeper (envOfC qual scope s.heap.objs.size f cd)) cm (cxC cm P w K mg base N qual scope f cd A outer s H E).xe (Around.frames_deeper e0.frames) hd
 exact J
end
theorem qXj {P : Program} {w : World} {K : PySem.W.Frag} {mg : Str → Option Value} {base : Heap} {cm : Bool} {k : Nat} {f : Addr} {x qual : Str} {st : Stmt} {fd : FuncData} {N ps : List Str} {sp : Sp} (F : Fun K x qual st f fd) (S : FnScope N ps (qAB st))
  (len : ∀ vs H Q E,sp vs H Q E → vs.length = ps.length)
  (hbody : ∀ (cdv : Value) (A : Around) (outer : List Env) (s : Shared) (H : Hp) (vs : List V) (Q : VK) (E : XK),RoomC cm k (A.deeper (envOfC qual (qAB st) s.heap.objs.size f cdv)) → sp vs H Q E →
   ∃ t,PSs (cxC cm P w K mg base N qual (qAB st) f cdv A outer s H E) (qAN st) t ∧ t { nx:=fun _ H' => Q .non H',rt:=Q } (_L.qE8 N vs) H) :
  FnX P w K mg base cm (k + 1) f fd ps sp:=by
 obtain ⟨oc,od,kV,doc,pm,an,cdv,ct,osl,rfl,lk,hcd⟩:=F.ex
 refine ⟨len,fun A outer s H args us vs Q E hr e0 hb r hsp => ?_⟩
 have hl:=len _ _ _ _ hsp
 have KX : K.In s.heap:=e0.mod.kin.keeps fun b o e => (e0.bs b o e).1
 have lim : s.heap.NoLimit:=e0.mod.nolimit.keeps fun b o e => (e0.bs b o e).1
 have hkind : ∀ y ∈ ps.zip us,(qAB st).names.lookup y.1 = some .local ∨ ((qAB st).names.lookup y.1 = some .cell ∧ ((cellsFrom (s.heap.objs.size + 1) (qAB st).names []).lookup y.1).isSome = true):=fun ⟨n,v⟩ hy => by
  rcases S.par n (List.of_mem_zip hy).1 with q | q
  ·exact .inl q
  ·exact .inr ⟨q,PySem.W.cellsFrom_some _ _ _ (.inl q)⟩
 refine codeAny_call_function hr.depth (KX _ _ lk) rfl S.co S.gen rfl (PySem.W.codeRec_of KX hcd) (hb _ _ _ _ ?_)
 refine wpAny_newFunctionEnv_cells S.kind hkind fun env he s1 x => ?_
 subst he
 refine ⟨lim.keeps x.toInCall.keep,codeAny_func ?_⟩
 obtain ⟨t,ht,hq⟩:=hbody cdv A outer s H vs Q E (hr.deeper _) hsp
 have I : Inv (cxC cm P w K mg base N qual (qAB st) f cdv A outer s H E) [] (_L.qE8 N vs) H s1:=qRN S hr.hd e0 hl r x
 refine wpAny_mono (ht [] s1 (_L.qE8 N vs) H _ I hq) (fun fl s' hs => ?_) fun e s' hs => hs
 have fin : ∀ {σ' : _L.St} {H' : Hp} {v : V} {u : Value},Inv (cxC cm P w K mg base N qual (qAB st) f cdv A outer s H E) [] σ' H' s' → qAY v u → Q v H' → CE outer P w H s Q u s' :=
  fun {σ' H' v u} J rv q => ⟨v,H',J.os,J.bare,J.base,J.hok,rv,q⟩
 cases fl with
 | ret u =>
  obtain ⟨v,σ',H',J,rv,q⟩:=hs
  exact fin J rv q
 | next =>
  obtain ⟨σ',H',J,q⟩:=hs
  exact fin (v:=V.non) (u:=Value.none) J rfl q
 | brk =>
  obtain ⟨_,_,_,q⟩:=hs
  exact False.elim q
 | cont =>
  obtain ⟨_,_,_,q⟩:=hs
  exact False.elim q
noncomputable def qEM (n : Nat) (ds : List D) : qAH:=ds.map some ++ List.replicate (n - ds.length) none
noncomputable def qRX : Out → Res D
 | .rt d S => .ok d S
 | .nx _ S => .ok .non S
 | .ex c x _ S => .ex c x S
 | _ => .bad
noncomputable def qAT (n : Nat) (g : DS) : DF:=fun ds S => qRX (g (qEM n ds) S)
noncomputable def spD (K : PySem.W.Frag) (n : Nat) (F : DF) : Sp:=fun vs H Q E => vs.length = n ∧ ∃ P α ds S,Rel K H P α S ∧ qAL K P α ds vs ∧ match F ds S with
 | .ok d S' => ∀ v H' P' α',Rel K H' P' α' S' → qAK P P' → α <+: α' → Rep K P' α' d v → Q v H'
 | .ex c _ S' => ∀ H' P' α',Rel K H' P' α' S' → qAK P P' → α <+: α' → E c none H'
 | .bad => False
theorem qRZ {K : PySem.W.Frag} {P : Hp} {α : List Addr} {N : List Str} {ds : List D} {vs : List V} (r : qAL K P α ds vs) : qAt K P α (_L.qE8 N vs) (qEM N.length ds):=by
 refine ⟨by simp [qEM,_L.qE8,r.length],fun i d e => ?_⟩
 unfold qEM at e
 unfold _L.qE8
 by_cases hi : i < ds.length
 ·rw [List.getElem?_append_left (by simpa using hi),List.getElem?_map] at e
  rw [List.getElem?_append_left (by rw [List.length_map,← r.length]; exact hi),List.getElem?_map]
  cases q : ds[i]? with
  | none => rw [q] at e; cases e
  | some d' =>
   rw [q] at e; cases e
   obtain ⟨v,h1,h2⟩:=r.get q
   exact ⟨v,by rw [h1]; rfl,h2⟩
 ·rw [List.getElem?_append_right (by simpa using hi),List.getElem?_replicate] at e
  split at e <;> cases e
section
variable {P : Program} {w : World} {K : PySem.W.Frag} {mg : Str → Option Value} {base : Heap} {cm : Bool}
theorem fnX {x qual : Str} {st : Stmt} {f : Addr} {fd : FuncData} {N ps : List Str} {k : Nat} {g : DS} (F : Fun K x qual st f fd) (S : FnScope N ps (qAB st))
  (hbody : ∀ (cdv : Value) (A : Around) (outer : List Env) (s : Shared) (H : Hp) (E : XK),RoomC cm k (A.deeper (envOfC qual (qAB st) s.heap.objs.size f cdv)) →
   PSs (cxC cm P w K mg base N qual (qAB st) f cdv A outer s H E) (qAN st) (tDS (cxC cm P w K mg base N qual (qAB st) f cdv A outer s H E) g)) :
  FnX P w K mg base cm (k + 1) f fd ps (spD K ps.length (qAT N.length g)):=by
 refine qXj F S (fun vs H Q E h => h.1) fun cdv A outer s H vs Q E hr h => ?_
 obtain ⟨hl,P',α,ds,S',r,rp,af⟩:=h
 refine ⟨_,hbody cdv A outer s H E hr,P',α,qEM N.length ds,S',r,qRZ rp,?_⟩
 unfold qAT at af
 cases q : g (qEM N.length ds) S' with
 | rt d S1 => rw [q] at af; exact fun v H' P1 α1 r1 e1 e2 p1 => af v H' P1 α1 r1 e1 e2 p1
 | nx env S1 => rw [q] at af; exact fun σ' H' P1 α1 r1 re1 e1 e2 => af .non H' P1 α1 r1 e1 e2 (by simp only [Rep])
 | bk env S1 => rw [q] at af; exact False.elim af
 | ct env S1 => rw [q] at af; exact False.elim af
 | ex c x env S1 => rw [q] at af; exact fun u s' z => qRt z fun H' P1 α1 r1 e1 e2 => af H' P1 α1 r1 e1 e2
 | bad => rw [q] at af; exact False.elim af
end
section
variable {X : Cx} {cm : Bool} {k : Nat} {f : Addr} {fd : FuncData} {ps : List Str} {F : DF} {x : Str} {p pos : Pos} {e : Expr} {es : List Expr} {fa : DA} {n : Nat}
noncomputable def qAO (n : Nat) (F : DF) (fa : DA) : DE:=fun env S => (fa env S).bind fun ds S1 => if ds.length = n then F ds S1 else .bad
theorem qNX {pins : List (Addr × Obj)} {σ : _L.St} {H : Hp} {s : Shared} {Q : VK} {us : List Value} {vs : List V} {P : Hp} {α : List Addr} {ds : List D} {S : Sto} (G : FnX X.prog X.w X.K X.mg X.base cm k f fd ps (spD X.K n F)) (hr : RoomC cm k X.A) (hb : qEt X.K fd ps []) (hF : Fn1 X)
  (I : Inv X pins σ H s) (r : Rel X.K H P α S) (rv : qAZ vs us) (rp : qAL X.K P α ds vs) (hn : ds.length = n) (af : qAr X P α (F ds S) Q) : wpAny (model X.prog X.w) X.A (call (.ref f) us) (EP X pins σ Q) X.xe s:=by
 have hvn : vs.length = n:=by rw [← rp.length]; exact hn
 let E : XK:=fun c _ H' => match F ds S with
  | .ex c' _ S' => c = c' ∧ ∃ P' α',Rel X.K H' P' α' S' ∧ qAK P P' ∧ α <+: α'
  | _ => False
 have hsp : spD X.K n F vs H Q E:=by
  refine ⟨hvn,P,α,ds,S,r,rp,?_⟩
  cases q : F ds S with
  | ok d S' => rw [q] at af; exact af
  | ex c x S' =>
   intro H' P' α' r' e1 e2
   show match F ds S with | .ex c' _ S' => c = c' ∧ ∃ P' α',Rel X.K H' P' α' S' ∧ qAK P P' ∧ α <+: α' | _ => False
   rw [q]
   exact ⟨rfl,P',α',r',e1,e2⟩
  | bad => rw [q] at af; exact af
 have hl : us.length = ps.length:=by rw [← rv.length]; exact G.len _ _ _ _ hsp
 have hb':=hb s us I.kIn (by rw [List.append_nil]; exact hl)
 rw [List.append_nil] at hb'
 refine wpAny_call (codeAny_mono (G.run X.A X.stack s H ⟨us,[]⟩ us vs Q E hr I.env0 hb' rv hsp) fun r s' hq => ?_)
 cases r with
 | error u =>
  obtain ⟨a,c,H',rfl,I',fl,q⟩:=qXi I hF hq
  cases z : F ds S with
  | ok d S' => simp only [E,z] at q
  | bad => simp only [E,z] at q
  | ex c' x' S' =>
   simp only [E,z] at q
   obtain ⟨rfl,P',α',r',e1,e2⟩:=q
   rw [z] at af
   exact af _ _ ⟨a,pins,σ,H',P',α',rfl,I',r',e1,e2,hF,fl⟩
 | ok fl =>
  cases fl with
  | ret u => exact I.after hq
  | next => exact False.elim hq
  | brk => exact False.elim hq
  | cont => exact False.elim hq
theorem qKC {env : qAH} {S S1 : Sto} {P : Hp} {α : List Addr} {ds : List D} {Ok : D → Sto → Prop} (h : qAR X P α (if ds.length = n then F ds S1 else .bad) Ok) : ds.length = n ∧ qAR X P α (F ds S1) Ok:=by
 by_cases hn : ds.length = n
 ·rw [if_pos hn] at h; exact ⟨hn,h⟩
 ·rw [if_neg hn] at h; exact False.elim h
theorem qVK (G : FnX X.prog X.w X.K X.mg X.base cm k f fd ps (spD X.K n F)) (hr : RoomC cm k X.A) (hF : Fn1 X) (hg : Gl X x) (hm : X.mg x = some (.ref f)) (hk : PySem.W.keepIn X.K (.ref f) = true) (hb : qEt X.K fd ps [])
  (ha : PA X (e :: es) (tDA X fa)) (hdb : autoParam ((x == ("__debug__" : Str)) = false) au2._auto_1) (he : autoParam (starEach (e :: es) X.env = (false,eval e X.env) :: starEach es X.env) au3._auto_1) (hpl : autoParam ((backTo pos (starEach es X.env)).any (·.1) = false) au3._auto_1) :
  PE X (.Call (.Name x p) (e :: es) [] pos) (tD X (qAO n F fa)):=by
 intro pins s σ H Q I h
 obtain ⟨P,α,env,S,r,re,af⟩:=h
 refine wpAny_Call_Name_kw (qGm I hg hm ?_ hdb)
 refine PySem.W.callWith_K (h₀:=X.base) I.ok.mod.kin hk (thn (qDL ha I r re af pos) fun us s1 ⟨vs,H1,P1,α1,ds,S1,I1,rv,r1,re1,rp,e1,e2,af1⟩ => ⟨I1.kIn,?_⟩) he hpl
 obtain ⟨hn,af2⟩:=qKC (env:=env) (S:=S) af1
 exact qNX G hr hb hF I1 r1 rv rp hn (qAr.base e1 e2 af2)
end
end _D
end
section
namespace _D
open PySem PySem.Spec PyProof.Rows _L
abbrev qOq : List Value:=[.type "ValueError",.type "Exception",.type "BaseException",.type "object"]
noncomputable def qZV : Value → Bool
 | .str _ _ => true
 | _ => false
noncomputable def qIw (K : PySem.W.Frag) (N : Addr) : Bool:=(match List.lookup N K with
 | some o => match o.data with
  | .dict es _ => es.toList.all fun e => qZV e.key
  | _ => false
 | none => false) && decide (PySem.W.nsIn K N "__init__" = some none)
theorem qDz {K : PySem.W.Frag} {N : Addr} (h : qIw K N = true) : PySem.W.nsOkIn K N = true ∧ PySem.W.nsIn K N "__init__" = some none:=by
 unfold qIw at h
 rw [Bool.and_eq_true,decide_eq_true_eq] at h
 refine ⟨?_,h.2⟩
 have h1:=h.1
 unfold PySem.W.nsOkIn
 cases e : List.lookup N K with
 | none => rw [e] at h1; cases h1
 | some o =>
  rw [e] at h1
  obtain ⟨oc,od,dt,sl⟩:=o
  cases dt with
  | dict es ep =>
   simp only at h1 ⊢
   rw [Array.all_toList] at h1
   refine Eq.trans (congrArg (fun f => Array.all es f) (funext fun e => ?_)) h1
   cases e.key <;> rfl
  | _ => cases h1
noncomputable def qOa (K : PySem.W.Frag) (C : Addr) (f : Value → ClassData → Array (Option Value) → Bool) : Bool:=match List.lookup C K with
 | some o => (match o.data with | .cls cd => f o.cls cd o.slots | _ => false)
 | none => false
theorem qPg {K : PySem.W.Frag} {C : Addr} {f : Value → ClassData → Array (Option Value) → Bool} (h : qOa K C f = true) : ∃ oc od cd sl,List.lookup C K = some ⟨oc,od,.cls cd,sl⟩ ∧ f oc cd sl = true:=by
 unfold qOa at h
 cases e : List.lookup C K with
 | none => rw [e] at h; exact Bool.noConfusion h
 | some o =>
  rw [e] at h
  obtain ⟨oc,od,dt,sl⟩:=o
  cases dt with
  | cls cd => exact ⟨oc,od,cd,sl,rfl,h⟩
  | _ => exact Bool.noConfusion h
noncomputable def qOz (K : PySem.W.Frag) (C A : Addr) : Bool:=qOa K C fun oc cd sl => qOa K A fun _ ca _ => decide (oc = .type "type") && (decide (cd.mro = .ref C :: .ref A :: qOq) && (!cd.hasDel && (qIw K cd.ns && (qIw K ca.ns && (decide (sl.toList.length = 6) && decide (sl.toList[4]? = some (some (.builtin "ValueError.__new__"))))))))
inductive ExcO (h : Heap) (C : Addr) : Prop
 | mk (nm q : Str) (N : Addr) (bs bm : List Value) (hdct : Bool) (sn : List Str) (sub : List Value) (ab : Bool) (col : Option Bool) (dd : Option Addr) (k0 k1 k2 k3 k5 : Option Value) (mN : Str → Option Value) (hC : h.get? C = some (excClassObj nm q C N bs bm hdct sn sub ab col dd k0 k1 k2 k3 k5 "ValueError.__new__")) (hN : h.Ns N mN) (hni : mN "__init__" = none) (T : OwnTail h qOq bm) : ExcO h C
theorem qNR {β : Type} {l : List β} {n : Nat} (h : l.length = n + 1) : ∃ a t,l = a :: t ∧ t.length = n:=by
 cases l with
 | nil => exact Nat.noConfusion h
 | cons a t => exact ⟨a,t,rfl,Nat.succ.inj h⟩
theorem six {β : Type} {l : List β} (h : l.length = 6) : ∃ a b c d e f,l = [a,b,c,d,e,f]:=by
 obtain ⟨a,t,e1,h⟩:=qNR h
 obtain ⟨b,t2,e2,h⟩:=qNR h
 obtain ⟨c,t3,e3,h⟩:=qNR h
 obtain ⟨d,t4,e4,h⟩:=qNR h
 obtain ⟨e,t5,e5,h⟩:=qNR h
 obtain ⟨f,t6,e6,h⟩:=qNR h
 exact ⟨a,b,c,d,e,f,by rw [e1,e2,e3,e4,e5,e6,List.length_eq_zero_iff.mp h]⟩
theorem qX8 {C : Addr} {od : Option Addr} {cd : ClassData} {sl : Array (Option Value)} {tl : List Value} {k0 k1 k2 k3 k4 k5 : Option Value} {n : String} (hm : cd.mro = .ref C :: tl) (hd : cd.hasDel = false) (hs : sl.toList = [k0,k1,k2,k3,k4,k5]) (hn : sl.toList[4]? = some (some (.builtin n))) :
  (⟨.type "type",od,.cls cd,sl⟩ : Obj) = excClassObj cd.name cd.qualname C cd.ns cd.bases tl cd.hasDict cd.slotNames cd.subclasses cd.abstract cd.collection od k0 k1 k2 k3 k5 n:=by
 rw [hs] at hn
 cases hn
 cases cd
 cases sl
 cases hm
 cases hd
 cases hs
 rfl
theorem qVb {K : PySem.W.Frag} {h : Heap} {C A : Addr} {od : Option Addr} {cd : ClassData} {sl : Array (Option Value)} (KI : K.In h) (e : List.lookup C K = some ⟨.type "type",od,.cls cd,sl⟩) (h2 : cd.mro = .ref C :: .ref A :: qOq) (h3 : cd.hasDel = false) (h4 : qIw K cd.ns = true) (h6 : sl.toList.length = 6) (h7 : sl.toList[4]? = some (some (.builtin "ValueError.__new__"))) (T : OwnTail h qOq (.ref A :: qOq)) : ExcO h C:=by
 obtain ⟨k0,k1,k2,k3,x,k5,es⟩:=six h6
 exact ⟨_,_,_,_,_,_,_,_,_,_,_,k0,k1,k2,k3,k5,_,(KI _ _ e).trans (congrArg some (qX8 h2 h3 es h7)),.of_isNs (PySem.W.isNs_of_in KI (qDz h4).1),PySem.W.nsMap_none_of_in KI (qDz h4).1 (qDz h4).2,T⟩
theorem qVc {K : PySem.W.Frag} {h : Heap} {C A : Addr} (KI : K.In h) (z : qOz K C A = true) : ExcO h C:=by
 obtain ⟨oc,od,cd,sl,e,z⟩:=qPg z
 obtain ⟨qc,qd,ca,ql,e2,z⟩:=qPg z
 have a1:=Bool.and_eq_true_iff.mp z
 have a2:=Bool.and_eq_true_iff.mp a1.2
 have a3:=Bool.and_eq_true_iff.mp a2.2
 have a4:=Bool.and_eq_true_iff.mp a3.2
 have a5:=Bool.and_eq_true_iff.mp a4.2
 have a6:=Bool.and_eq_true_iff.mp a5.2
 rw [of_decide_eq_true a1.1] at e
 exact qVb KI e (of_decide_eq_true a2.1) (Bool.not_eq_true' _ ▸ a3.1) a4.1 (of_decide_eq_true a6.1) (of_decide_eq_true a6.2) (.own (KI _ _ e2) (.of_isNs (PySem.W.isNs_of_in KI (qDz a5.1).1)) (PySem.W.nsMap_none_of_in KI (qDz a5.1).1 (qDz a5.1).2) .base)
section
variable {X : Cx} {pos : Pos} {fa : DA}
noncomputable def qMU (c : Value) (fa : DA) : DS:=fun env S => (fa env S).toS env fun ds S1 => if ds.length ≤ lim then .ex c .non env S1 else .bad
inductive GotAS (X : Cx) (pins : List (Addr × Obj)) (σ : _L.St) (env : qAH) (P : Hp) (α : List Addr) (us : List Value) (s1 : Shared) (k : List D → Sto → Out) (E : Ends) : Prop
 | mk (vs : List V) (H1 P1 : Hp) (α1 : List Addr) (ds : List D) (S1 : Sto) (I : Inv X pins σ H1 s1) (rv : qAZ vs us) (r : Rel X.K H1 P1 α1 S1) (re : qAt X.K P1 α1 σ env) (rp : qAL X.K P1 α1 ds vs) (e1 : qAK P P1) (e2 : α <+: α1) (q : qAf X P1 α1 (k ds S1) E) : GotAS X pins σ env P α us s1 k E
theorem qVI {es : List Expr} {k : List D → Sto → Out} {pins : List (Addr × Obj)} {s : Shared} {σ : _L.St} {H P : Hp} {α : List Addr} {env : qAH} {S : Sto} {D : Ends} (he : PA X es (tDA X fa)) (I : Inv X pins σ H s) (r : Rel X.K H P α S)
  (re : qAt X.K P α σ env) (af : qAf X P α ((fa env S).toS env k) D) (pos : Pos) :
  wpAny (model X.prog X.w) X.A (spliced (backTo pos (starEach es X.env))) (fun us s1 => GotAS X pins σ env P α us s1 k D) X.xe s:=by
 have af1 : qAR X P α ((fa env S).bind fun d S => .ok d S) fun d S => qAf X P α (k d S) D:=by
  have:=qBk af
  cases q : fa env S <;> rw [q] at this <;> exact this
 exact thn (qDL he I r re af1 pos) fun u s1 ⟨vs,H1,P1,α1,ds,S1,I1,rv,r1,re1,rp,e1,e2,q⟩ => ⟨vs,H1,P1,α1,ds,S1,I1,rv,r1,re1,rp,e1,e2,qAf.base e1 e2 q⟩
theorem qTi {x : Str} {C Ae : Addr} {e₀ : Expr} {rest : List Expr} {np cpos : Pos} (hc : X.calm = true) (hF : Fn1 X) (hg : Gl X x) (hm : X.mg x = some (.ref C)) (hx : qOz X.K C Ae = true) (ha : PA X (e₀ :: rest) (tDA X fa))
  (hdb : autoParam ((x == ("__debug__" : Str)) = false) au2._auto_1) (he : autoParam (starEach (e₀ :: rest) X.env = (false,eval e₀ X.env) :: starEach rest X.env) au3._auto_1) (hpl : autoParam ((backTo cpos (starEach rest X.env)).any (·.1) = false) au3._auto_1) :
  PS X (.Raise (some (.Call (.Name x np) (e₀ :: rest) [] cpos)) none pos) (tDS X (qMU (.ref C) fa)):=by
 intro pins s σ H D I h
 obtain ⟨P,α,env,S,r,re,af⟩:=h
 obtain ⟨nm,qn,N,bs,tl,hdct,sn,sub,ab,col,dd,k0,k1,k2,k3,k5,mN,hC,hN,hni,T⟩:=qVc I.mod.kin hx
 refine wpAny_Raise_call_subT (C:=C) (nm:=nm) (q:=qn) (N:=N) (bs:=bs) (bm:=tl) (hdct:=hdct) (sn:=sn) (sub:=sub) (ab:=ab) (col:=col) (dd:=dd) (k0:=k0) (k1:=k1) (k2:=k2) (k3:=k3) (k5:=k5)
  PySem.F.excBase_ValueError (mN:=mN) (T.hasType PySem.F.excBase_ValueError.hasBase) (I.ok.hd hc) (by rw [he]; show (false || (backTo cpos (starEach rest X.env)).any (·.1)) = false; rw [hpl]; rfl) hni (qGm I hg hm ⟨rfl,?_⟩ hdb)
 have run:=qVI ha I r re af cpos
 rw [he] at run ⊢
 refine Calls.evalArgs_plain (thn run fun us s2 ⟨vs,H1,P1,α1,ds,S1,I1,rv,r1,re1,rp,e1,e2,q⟩ => ?_)
 have hl : us.length = ds.length:=by rw [rp.length,rv.length]
 by_cases hz : ds.length ≤ lim
 ·rw [if_pos hz] at q
  refine ⟨rfl,by rw [hl,← qBR]; exact hz,I1.bk _ _ hC,hN.keeps I1.bk,T.keeps I1.bk,fun h' e hm => q _ _ ⟨e,pins,σ,H1,P1,α1,rfl,I1.kept (t':=s2.toks) hm.keeps,r1,qAK.refl _,List.prefix_refl _,hF,.new s2.heap us hm I1.stack fun b o eb old => ?_⟩⟩
  obtain ⟨o1,q1⟩:=Old.there I1 hF old
  have q2:=hm.keeps b o1 q1
  rw [eb] at q2; cases q2
  exact q1
 ·rw [if_neg hz] at q; exact False.elim q
end
section
variable {X : Cx} {pins : List (Addr × Obj)} {σ : _L.St} {H : Hp} {s : Shared}
theorem qRT {M : Model} {A : Around} {E : Value → Shared → Prop} {base h : Heap} {env : Env} {outer : List Env} {L e : Addr} {cls : Value} {args : List Value} {Q : Unit → Shared → Prop}
  (hfr : A.frames = some (env :: outer)) (hf : env.frame = some L) (hkb : base.StaysIn h) (hl : h.FunFrames base (env :: outer)) (hx : Heap.MadeExcOf h s.heap e cls args)
  (hQ : ∀ h' a0,Heap.HeldW base (env :: outer) e cls a0 L h' → s.heap.UpToSlots h' → Q () { s with heap:=h' }) : wpAny M A (noteFrame (.ref e) env) Q E s:=by
 obtain ⟨t,he,htn,ht⟩:=hx.there
 have fresh : ∀ b,h.get? b = none → base.get? b = none:=fun b hb => by
  cases hq : base.get? b with
  | none => rfl
  | some o' => have z:=hkb b o' hq; rw [hb] at z; cases z
 unfold noteFrame
 simp only [hf]
 refine wpAny_bind (wpAny_field he rfl (x:=.none) rfl ?_)
 rw [if_neg (by decide)]
 refine wpAny_entryW hfr (hl.of_keeps fun b o hb _ => ⟨o,hx.keeps b o hb,rfl⟩) hf he (fun b o hb => hx.keeps b o (hkb b o hb)) (fresh e hx.new) rfl (by simp) (a0:=.ref t) rfl fun h' hN => ?_
 obtain ⟨n1,n2,n3,n4⟩:=hN
 exact hQ h' (.ref t) ⟨n1,fresh e hx.new,n2,n3⟩ n4
theorem qT4 {M : Model} {A : Around} {E : Value → Shared → Prop} {c : Value} {e : Addr} {Q : Unit → Shared → Prop} (I : Inv X pins σ H s) (F : Fn1 X) (hA : A.frames = some X.stack) (f : FlyX X pins H c e s.heap)
  (hQ : ∀ h' B a0,Heap.FlyingW B X.stack e c a0 h' → Inv X pins σ H { s with heap:=h' } → Cv X pins H B h' → Q () { s with heap:=h' }) :
  wpAny M A (noteFrame (.ref e) X.env) (fun _ s₂ => wpAny M A (setFlight (.ref e) none) Q E s₂) E s:=by
 have land : ∀ (B : Heap) (a0 : Value) (h1 : Heap),Cv X pins H B s.heap → Heap.HeldW B X.stack e c a0 X.env.locals h1 → s.heap.UpToSlots h1 → wpAny M A (setFlight (.ref e) none) Q E { s with heap:=h1 }:=fun B a0 h1 cv hh up => by
  refine wpAny_landsW (s:={ s with heap:=h1 }) hh fun h2 f2 u2 => ?_
  obtain ⟨I2,cv2⟩:=Inv.fly I F cv f2.1 (up.trans u2)
  exact hQ h2 B a0 f2 I2 cv2
 cases f with
 | new g args hm hf hk =>
  obtain ⟨k1,k2,k3⟩:=qSf I hm hf hk
  rw [F.2.1] at hA
  exact qRT hA F.2.2 k1 (by rw [← F.2.1]; exact k2) hm fun h' a0 x1 x2 => land _ a0 h' k3 (F.2.1 ▸ x1) x2
 | fly B a0 fl cv =>
  rw [F.2.1] at hA
  exact wpAny_looks_onW hA F.2.2 (by rw [← F.2.1]; exact fl) fun h' x1 x2 => land B a0 h' cv (by rw [F.2.1]; exact x1) x2
theorem qQY {B : Heap} {c a0 : Value} {e : Addr} (I : Inv X pins σ H s) (F : Fn1 X) (fl : Heap.FlyingW B X.stack e c a0 s.heap) (cv : Cv X pins H B s.heap) : ¬ Old X pins H e ∧ e ∉ frs X.stack ∧ ∃ ob,s.heap.get? e = some ob ∧ ob.cls = c:=by
 obtain ⟨oe,vs,he,hc,hd,_⟩:=fl.first
 have nf : e ∉ frs X.stack:=fun z => by
  obtain ⟨_,o,ho,hn⟩:=I.stack.mem z
  rw [he] at ho; cases ho
  exact hn vs hd
 refine ⟨fun z => ?_,nf,oe,he,hc⟩
 have q:=cv e oe he z nf
 rw [fl.2.1] at q; cases q
theorem Inv.track {e : Addr} {c : Value} {ob : Obj} (I : Inv X pins σ H s) (F : Fn1 X) (no : ¬ Old X pins H e) (nf : e ∉ frs X.stack) (he : s.heap.get? e = some ob) (hc : ob.cls = c) : Inv X pins σ (upd H e (qPE e c)) s:=by
 have hn : H e = none:=by
  cases q : H e with
  | none => rfl
  | some u => exact absurd (.inr (.inl (by rw [q]; intro z; cases z))) no
 have nL : e ≠ X.env.locals:=fun z => nf (F.mem.mpr (.inl z))
 have n0 : ∀ b o,X.s₀.heap.get? b = some o → b ≠ e:=fun b o q z => no (.inl ⟨o,z ▸ q⟩)
 refine ⟨I.ok,I.os,I.bare,⟨I.base.keep,I.base.slot,fun b o q n hx => ?_,I.base.there,fun b xs q => ?_,fun b o xs q => ?_,fun b ps q => ?_⟩,I.loc,I.cell,?_,fun x k q => ?_,fun p hp => ?_,fun b u q => ?_,I.len⟩
 ·rw [qAb (n0 b o q)]; exact I.base.free b o q n hx
 ·have z:=I.base.tups b xs q
  rw [qAb (qAv z hn)]; exact z
 ·have z:=I.base.frzs b o xs q
  rw [qAb (qAv z hn)]; exact z
 ·obtain ⟨m,z⟩:=I.base.tbls b ps q
  exact ⟨m,by rw [qAb (qAv z hn)]; exact z⟩
 ·rw [qAb (Ne.symm nL)]; exact I.free
 ·have z : k ≠ e:=fun z => no (.inr (.inr (.inr ⟨x,z ▸ q⟩)))
  rw [qAb z]; exact I.freeC x k q
 ·obtain ⟨a1,a2,a3,a4,a5⟩:=I.pin p hp
  have z : p.1 ≠ e:=fun z => no (.inr (.inr (.inl ⟨p,hp,z⟩)))
  exact ⟨a1,by rw [qAb z]; exact a2,a3,a4,a5⟩
 ·by_cases hb : b = e
  ·subst hb
   rw [qAz] at q; cases q
   refine ⟨⟨ob,he,hc⟩,⟨ob,he⟩,fun h1 h2 ⟨o,q1,q2⟩ k => ⟨o,k o q1,q2⟩⟩
  ·rw [qAb hb] at q
   exact (I.hok b u q).stay (fun _ _ _ z => z) (fun k z => by rw [qAb (qAv z hn)]; exact z) fun k xs z => by rw [qAb (qAv z hn)]; exact z
theorem Inv.gone {i t' : Nat} {n : Str} {h' : Heap} (I : Inv X pins σ H s) (hN : X.N.Nodup) (hi : X.N[i]? = some n) {m : Str → Option Value} {v : Option Value} (hl : ∀ (j : Nat) (y : Str) (w : V),X.N[j]? = some y → σ[j]? = some (some w) → Vis X.env.scope y → ∃ u,qAY w u ∧ qWn X.env s.heap m y u) (hv : h'.Ns X.env.locals fun y => if y = n then v else m y) (sb : Heap.SameBut X.env.locals s.heap h') :
  Inv X pins (σ.set i none) H { s with heap:=h',toks:=t' }:=by
 have neL : ∀ b o,X.s₀.heap.get? b = some o → b ≠ X.env.locals:=fun b o e => Nat.ne_of_lt (Nat.lt_of_lt_of_le (Heap.lt_size e) I.ok.above)
 have kp : ∀ b o,b ≠ X.env.locals → s.heap.get? b = some o → h'.get? b = some o:=fun b o n e => (sb.2 b n).trans e
 refine ⟨I.ok,I.os,I.bare,⟨fun b o e n hb hx => kp b o (neL b o e) (I.base.keep b o e n hb hx),fun b o e n hb hx => ?_,I.base.free,fun b o e hx => ?_,I.base.tups,I.base.frzs,I.base.tbls⟩,⟨_,hv,fun j y w e1 e2 e3 => ?_⟩,fun x c e => ?_,I.free,I.freeC,fun p hp => ?_,fun b u q => ?_,by simpa using I.len⟩
 ·obtain ⟨sl,q⟩:=I.base.slot b o e n hb hx
  exact ⟨sl,kp b _ (neL b o e) q⟩
 ·obtain ⟨o',q⟩:=I.base.there b o e hx
  exact ⟨o',kp b o' (neL b o e) q⟩
 ·have hj : i ≠ j:=fun z => by
   subst z
   by_cases hs : i < σ.length
   ·rw [List.getElem?_set_self hs] at e2; cases e2
   ·rw [List.getElem?_eq_none (by simp; omega)] at e2; cases e2
  rw [List.getElem?_set_ne hj] at e2
  obtain ⟨u,r,l⟩:=hl j y w e1 e2 e3
  refine ⟨u,r,?_⟩
  rcases l with ⟨k,z⟩ | ⟨k,c,z,zc⟩
  ·refine .inl ⟨k,?_⟩
   have : y ≠ n:=fun z => hj (qLa hN hi (z ▸ e1))
   simp [this,z]
  ·exact .inr ⟨k,c,z,zc.sameBut sb (I.cne y c z)⟩
 ·obtain ⟨w,z⟩:=I.cell x c e
  exact ⟨w,z.sameBut sb (I.cne x c e)⟩
 ·obtain ⟨e,n,ne,nf,d⟩:=I.pin p hp
  exact ⟨kp p.1 p.2 ne e,n,ne,nf,d⟩
 ·refine (I.hok b u q).stay (fun c w hc z => kp c w ?_ z) (fun _ z => z) fun _ _ z => z
  rintro rfl
  rcases hc with rfl | hc
  ·rw [I.free] at q; cases q
  ·rw [I.free] at hc; cases hc
theorem qQa {M : Model} {A : Around} {E : Value → Shared → Prop} {i : Nat} {n : Str} {pos : Pos} {Q : Unit → Shared → Prop} (I : Inv X pins σ H s) (hN : X.N.Nodup) (hi : X.N[i]? = some n) (hlo : X.env.scope.names.lookup n = some .local)
  (h : ∀ s',Inv X pins (σ.set i none) H s' → Q () s') : wpAny M A (do bindName X.env n .none; unbindBehindTheSuite X.env n pos) Q E s:=by
 obtain ⟨m,hm,hl⟩:=id I.loc
 exact wpAny_nameGoes_keeps hlo hm (by rw [I.ok.kind]; rfl) fun h' v hv sb => h _ (Inv.gone I hN hi hl hv sb)
end
end _D
end
section
namespace _D
open PySem PySem.Spec PyProof.Rows _L
abbrev Cx.tryIn (X : Cx) (E : Value → Shared → Prop) (pn : List (Addr × Obj)) : Cx:={ X with xe:=E,pn:=pn }
abbrev Cx.suite (X : Cx) (e : Addr) : Cx:=Cx.re X (X.A.mark (some (.ref e))) false fun _ _ => False
noncomputable def qNZ (N i : Nat) (cs : List Value) (f g : DS) : DS:=fun env S => match f env S with
 | .ex c x env1 S1 => if cs.contains c then (match g ((List.replicate N none).set i (some (.exn c))) S1 with
   | .rt d S2 => .rt d S2
   | .nx env2 S2 => .nx (env2.set i none) S2
   | _ => .bad) else .bad
 | o => o
section
variable {X : Cx} {pins : List (Addr × Obj)} {σ : _L.St} {H : Hp} {s : Shared}
theorem Inv.inTry (I : Inv X pins σ H s) (E : Value → Shared → Prop) : Inv (Cx.tryIn X E (X.pn ++ pins)) [] σ H s :=
 ⟨⟨I.ok.mod,I.ok.kind,I.ok.glob,I.ok.blt,I.ok.above,I.ok.inj,I.ok.has,I.ok.cab,I.ok.hd,I.ok.frames,I.ok.stk,I.ok.exf,I.ok.bs,I.ok.bsz,I.ok.noex,I.ok.exfs,I.ok.funs,I.ok.frf⟩,I.os,I.bare,I.base,I.loc,I.cell,I.free,I.freeC,fun p hp => I.pin p (by simpa using hp),I.hok,I.len⟩
theorem Inv.outTry {E : Value → Shared → Prop} {more : List (Addr × Obj)} (I : Inv (Cx.tryIn X E (X.pn ++ pins)) more σ H s) : Inv X pins σ H s :=
 ⟨⟨I.ok.mod,I.ok.kind,I.ok.glob,I.ok.blt,I.ok.above,I.ok.inj,I.ok.has,I.ok.cab,I.ok.hd,I.ok.frames,I.ok.stk,I.ok.exf,I.ok.bs,I.ok.bsz,I.ok.noex,I.ok.exfs,I.ok.funs,I.ok.frf⟩,I.os,I.bare,I.base,I.loc,I.cell,I.free,I.freeC,fun p hp => I.pin p (List.mem_append_left _ hp),I.hok,I.len⟩
theorem SP.outTry {E : Value → Shared → Prop} {D : Ends} {f : Flow} {s' : Shared} (h : SP (Cx.tryIn X E (X.pn ++ pins)) [] D f s') : SP X pins D f s':=by
 cases f with
 | next => obtain ⟨σ',H',I,q⟩:=h; exact ⟨σ',H',Inv.outTry I,q⟩
 | brk => obtain ⟨σ',H',I,q⟩:=h; exact ⟨σ',H',Inv.outTry I,q⟩
 | cont => obtain ⟨σ',H',I,q⟩:=h; exact ⟨σ',H',Inv.outTry I,q⟩
 | ret u => obtain ⟨v,σ',H',I,r,q⟩:=h; exact ⟨v,σ',H',Inv.outTry I,r,q⟩
theorem FlyX.outTry {E : Value → Shared → Prop} {more : List (Addr × Obj)} {c : Value} {e : Addr} {h : Heap} (f : FlyX (Cx.tryIn X E (X.pn ++ pins)) more H c e h) : FlyX X pins H c e h:=by
 have old : ∀ b,Old X pins H b → Old (Cx.tryIn X E (X.pn ++ pins)) more H b:=fun b o => by
  rcases o with o | o | ⟨p,hp,z⟩ | o
  ·exact .inl o
  ·exact .inr (.inl o)
  ·exact .inr (.inr (.inl ⟨p,List.mem_append_left _ hp,z⟩))
  ·exact .inr (.inr (.inr o))
 cases f with
 | new g args hm hf hk => exact .new g args hm hf fun b o e q => hk b o e (old b q)
 | fly B a0 fl cv => exact .fly B a0 fl fun b o e q n => cv b o e (old b q) n
theorem qSw {K : PySem.W.Frag} {P : Hp} {α : List Addr} {σ : _L.St} {n : Nat} (h : σ.length = n) : qAt K P α σ (List.replicate n none):=by
 refine ⟨by simp [h],fun i d e => ?_⟩
 rw [List.getElem?_replicate] at e
 split at e <;> cases e
theorem qAt.unset {K : PySem.W.Frag} {P : Hp} {α : List Addr} {σ : _L.St} {env : qAH} (re : qAt K P α σ env) (i : Nat) : qAt K P α (σ.set i none) (env.set i none):=by
 refine ⟨by simp [re.1],fun j d e => ?_⟩
 by_cases hj : i = j
 ·subst hj
  by_cases hi : i < env.length
  ·rw [List.getElem?_set_self hi] at e; cases e
  ·rw [List.getElem?_eq_none (by simp; omega)] at e; cases e
 ·rw [List.getElem?_set_ne hj] at e ⊢
  exact re.2 j d e
end
section
variable {X : Cx} {pos : Pos} {f g : DS}
theorem qXl {pins : List (Addr × Obj)} {D : Ends} {c : Value} {e C0 : Addr} {s' : Shared} {σ : _L.St} {H P : Hp} {α : List Addr} {S1 : Sto} {x n : Str} {i : Nat} {b₀ : Stmt} {suite : List Stmt} {np hpos : Pos} {cs : List Value}
  (F : Fn1 X) (hg : Gl X x) (hm : X.mg x = some (.ref C0)) (hcs : ∀ c ∈ cs,PySem.W.exmOne X.K c (.ref C0) = some true) (hN : X.N.Nodup) (hi : X.N[i]? = some n) (hlo : X.env.scope.names.lookup n = some .local)
  (hs : ∀ e,PSs (Cx.suite X e) (b₀ :: suite) (tDS (Cx.suite X e) g)) (hc : cs.contains c = true) (I : Inv X pins σ H s') (r : Rel X.K H P α S1) (fl : FlyX X pins H c e s'.heap)
  (af : qAf X P α (match g ((List.replicate X.N.length none).set i (some (.exn c))) S1 with | .rt d S2 => .rt d S2 | .nx env2 S2 => .nx (env2.set i none) S2 | _ => .bad) D) (hdb : (x == ("__debug__" : Str)) = false) :
  wpAny (model X.prog X.w) X.A (noteFrame (.ref e) X.env) (fun _ s₂ => wpAny (model X.prog X.w) X.A (setFlight (.ref e) none) (fun _ s₃ =>
   wpAny (model X.prog X.w) X.A (handleBy (.ref e) X.env [.ExceptHandler (some (.Name x np)) (some n) (b₀ :: suite) hpos]) (SP X pins D) X.xe s₃) X.xe s₂) X.xe s':=by
 have hcs' : PySem.W.exmOne X.K c (.ref C0) = some true:=hcs c (by simpa using hc)
 have Z : ∀ {σ : _L.St} {H : Hp} {s : Shared},Inv X pins σ H s → Inv (Cx.suite X e) pins σ H s:=fun I => Inv.re I _ false _ I.ok.frames fun z => nomatch z
 refine qT4 I F I.ok.frames fl fun h5 B a0 f5 I5 cv5 => ?_
 refine wpAny_handleBy_cons (codeAny_handlers_test (A:=X.A.mark (some (.ref e))) (qGm (X:=Cx.suite X e) (Z I5) hg hm ?_ hdb)) (by intro q; cases q)
 obtain ⟨no5,nf5,ob5,he5,hc5⟩:=qQY I5 F f5 cv5
 refine (PySem.W.exm_one I5.kIn (by subst hc5; exact (PySem.W.Looks.ld he5).andThen .now) hcs').at ?_
 refine codeAny_handlers_suite_as ?_
 refine lands_againW (s:={ s' with heap:=h5 }) f5 fun h6 f6 u6 => ?_
 obtain ⟨I6,cv6⟩:=Inv.fly I5 F cv5 f6.1 u6
 obtain ⟨no6,nf6,ob6,he6,hc6⟩:=qQY I6 F f6 cv6
 have J6 : Inv X pins σ (upd H e (qPE e c)) { s' with heap:=h6 }:=Inv.track I6 F no6 nf6 he6 hc6
 have hn : H e = none:=by
  cases q : H e with
  | none => rfl
  | some u => exact absurd (.inr (.inl (by rw [q]; intro z; cases z))) no6
 obtain ⟨r1,sP⟩:=r.pure (o:=qPE e c) hn
 refine qFY (X:=Cx.suite X e) (v:=.ref e) (Z J6) hN hi (.inl hlo) rfl (fun s7 I7 => ?_) (.inr hlo)
 have re7 : qAt X.K (upd P e (qPE e c)) α (σ.set i (some (.ref e))) ((List.replicate X.N.length none).set i (some (.exn c))):=(qSw I.len).set i (by simp only [Rep]; exact ⟨e,rfl,qAz⟩)
 refine wpAny_mono (hs e pins s7 _ _ { nx:=fun σ' H' => D.nx (σ'.set i none) H',rt:=D.rt } I7 ⟨_,α,_,S1,r1,re7,?_⟩) (fun fl s8 q => ?_) fun _ _ z => False.elim z
 ·cases q : g ((List.replicate X.N.length none).set i (some (.exn c))) S1 with
  | rt d S2 => rw [q] at af; exact fun v H' P' α' r' e1 e2 rp => af v H' P' α' r' (sP.trans e1) e2 rp
  | nx env2 S2 => rw [q] at af; exact fun σ' H' P' α' r' re' e1 e2 => af _ H' P' α' r' (qAt.unset re' i) (sP.trans e1) e2
  | bk env2 S2 => rw [q] at af; exact False.elim af
  | ct env2 S2 => rw [q] at af; exact False.elim af
  | ex c' x' env2 S2 => rw [q] at af; exact False.elim af
  | bad => rw [q] at af; exact False.elim af
 ·cases fl with
  | next =>
   obtain ⟨σ',H',I8,q⟩:=q
   exact qQa (Inv.unre I8 I.ok.frames I.ok.hd) hN hi hlo fun s9 I9 => ⟨_,H',I9,q⟩
  | brk =>
   obtain ⟨_,_,_,q⟩:=q
   exact False.elim q
  | cont =>
   obtain ⟨_,_,_,q⟩:=q
   exact False.elim q
  | ret u =>
   obtain ⟨v,σ',H',I8,rv,q⟩:=q
   exact qQa (Inv.unre I8 I.ok.frames I.ok.hd) hN hi hlo fun s9 I9 => ⟨v,_,H',I9,rv,q⟩
set_option tactic.hygienic true in
theorem qXX {x n : Str} {C0 : Addr} {i : Nat} {body : List Stmt} {b₀ : Stmt} {suite : List Stmt} {np hpos : Pos} {cs : List Value} (F : Fn1 X) (hb : ∀ E pn,PassesOwn (model X.prog X.w) X.A X.env E → PSs (Cx.tryIn X E pn) body (tDS (Cx.tryIn X E pn) f))
  (hs : ∀ e,PSs (Cx.suite X e) (b₀ :: suite) (tDS (Cx.suite X e) g)) (hg : Gl X x) (hm : X.mg x = some (.ref C0)) (hcs : ∀ c ∈ cs,PySem.W.exmOne X.K c (.ref C0) = some true) (hN : X.N.Nodup) (hi : autoParam (X.N[i]? = some n) au3._auto_1) (hlo : autoParam (X.env.scope.names.lookup n = some .local) au3._auto_1)
  (hdb : autoParam ((x == ("__debug__" : Str)) = false) au2._auto_1) : PS X (.Try body [.ExceptHandler (some (.Name x np)) (some n) (b₀ :: suite) hpos] [] [] pos) (tDS X (qNZ X.N.length i cs f g)):=by
 intro pins s σ H D I h
 obtain ⟨P,α,env,S,r,re,af⟩:=h
 refine wpAny_Try_except ?_
 refine wpAny_mono (hb _ (X.pn ++ pins) (PassesOwn.looking (K:=fun e s₂ => wpAny (model X.prog X.w) X.A (setFlight e none) (fun _ s₃ => wpAny (model X.prog X.w) X.A (handleBy e X.env [.ExceptHandler (some (.Name x np)) (some n) (b₀ :: suite) hpos]) (SP X pins D) X.xe s₃) X.xe s₂) (E₁:=X.xe))
  [] s σ H D (Inv.inTry I _) ⟨P,α,env,S,r,re,?_⟩) (fun fl s1 q => ?_) fun _ _ z => z
 ·unfold qNZ at af
  cases q : f env S with
  | rt d S2 => rw [q] at af; exact af
  | nx env2 S2 => rw [q] at af; exact af
  | bk env2 S2 => rw [q] at af; exact af
  | ct env2 S2 => rw [q] at af; exact af
  | bad => rw [q] at af; exact af
  | ex c x' env2 S2 =>
   rw [q] at af
   dsimp only at af
   intro u s' k
   obtain ⟨e,pins',σ',H',P',α',rfl,I',r',e1,e2,F',fl⟩:=k
   split at af
   ·rename_i hc
    exact qXl F hg hm hcs hN hi hlo hs hc (Inv.outTry I') r' (FlyX.outTry fl) (qAf.base e1 e2 af) hdb
   ·exact False.elim af
 ·have q':=SP.outTry q
  cases fl with
  | next => exact wpAny_execs_nil q'
  | brk => exact q'
  | cont => exact q'
  | ret u => exact q'
end
end _D
end
section
namespace _D
open PySem PySem.Spec PyProof.Rows _L PySem.W
structure ExnK (K : PySem.W.Frag) (C : Addr) : Prop where
 ga : findIn K (.ref C) "__getattribute__" = some (some (.builtin "BaseException.__getattribute__"))
 hk : findIn K (.ref C) "__getattr__" = some none
 cl : findIn K (.ref C) "__class__" = some (some (.builtin "object.__class__"))
 sp : specialIn K (.builtin "object.__class__") "__get__" = some (some (.builtin "getset_descriptor.__get__"))
 tk : takesIn K (.builtin "object.__class__") = some true
 mo : mroIn K C (.type "object") = some true
 mb : mroIn K C (.type "BaseException") = some true
 isC : (clsIn K C).isSome = true
section
variable {prog : Program} {w : World} {A : Around} {E : Value → Shared → Prop} {s : Shared} {K : PySem.W.Frag} {x C : Addr}
abbrev qFa (x C : Addr) (h : Heap) : Prop:=∃ ob,h.get? x = some ob ∧ ob.cls = .ref C
theorem qFa.type {M : Model} {h : Heap} (I : qFa x C h) : Looks M h (typeOf (.ref x)) (.ref C):=by
 obtain ⟨ob,e,c⟩:=I
 rw [← c]
 exact (Looks.ld e).andThen .now
theorem qTq {M : Model} {h : Heap} (X : K.In h) (Z : ExnK K C) : Looks M h (Builtin.ObjectAttr.find (.ref x) (.ref C) "__class__") (.bind (.builtin "getset_descriptor.__get__") (.builtin "object.__class__")):=by
 have l1:=looks_findIn (M:=M) X Z.cl
 have l2 : Looks M h (Builtin.ObjectAttr.getOf (some (.builtin "object.__class__"))) (some (.builtin "getset_descriptor.__get__")):=looks_specialIn X Z.sp
 have l3:=looks_takesIn (M:=M) X Z.tk
 have l4 : Looks M h (Builtin.ObjectAttr.dataDescriptor? (some (.builtin "object.__class__")) (some (.builtin "getset_descriptor.__get__"))) (some (.builtin "getset_descriptor.__get__",.builtin "object.__class__")):=l3.andThen .now
 exact l1.andThen (l2.andThen (l4.andThen (Looks.tag .now)))
theorem qVd {R : Result → Shared → Prop} {tp : Value} (X : K.In s.heap) (Z : ExnK K C) (I : qFa x C s.heap) (h : R (.ok (.ret (.ref C))) s) :
  codeAny (model prog w) A (.call (.builtin "getset_descriptor.__get__") ⟨[.builtin "object.__class__",.ref x,tp],[]⟩) R s:=by
 have LT:=qFa.type (M:=model prog w) I
 have LM:=looks_mroIn (M:=model prog w) X Z.mo
 cases s
 refine codeAny_call_builtin KF.slot_gs.plain KF.entry_gs (KF.slot_gs.check _ _ _ _ _ _ _ _ KF.type_class (KF.args_gs _ _ _) ?_)
 unfold Builtin.«getset_descriptor.__get__» Builtin.Getset_descriptor.descrGet
 rw [dga_obj]
 refine wpAny_bind (wpAny_pure ?_)
 unfold Builtin.Getset_descriptor.descrGetter Builtin.Getset_descriptor.descrCheckInstance Builtin.Getset_descriptor.descrNameAndClass isInstance
 simp only [KF.owner_class]
 repeat lk
 refine ⟨Code.quiet_builtin _ (by decide +kernel),codeAny_builtin KF.entry_class ?_⟩
 unfold Builtin.«object.__class__» shownTypeOf
 repeat lk
 exact h
theorem qXe {tk : Tok} {R : Result → Shared → Prop} (X : K.In s.heap) (Z : ExnK K C) (I : qFa x C s.heap) (h : R (.ok (.ret (.ref C))) s) :
  codeAny (model prog w) A (.call (.builtin "BaseException.__getattribute__") ⟨[.ref x,.str "__class__" tk],[]⟩) R s:=by
 have LT:=qFa.type (M:=model prog w) I
 have LM:=looks_mroIn (M:=model prog w) X Z.mb
 have LF:=qTq (M:=model prog w) (x:=x) X Z
 have hk : builtinKind "BaseException.__getattribute__" = some .slot:=by decide +kernel
 have hsp : splitId "BaseException.__getattribute__" = some ("BaseException","__getattribute__"):=by decide +kernel
 have chk : ∀ (A : Around) (Q : Unit → Shared → Prop) (E : Value → Shared → Prop),Q () s → wpAny (model prog w) A (checkBuiltinCall "BaseException.__getattribute__" ⟨[.ref x,.str "__class__" tk],[]⟩) Q E s:=by
  intro A Q E hq
  have ha:=PySem.F.args_bexc_ga (.ref x) (.str "__class__" tk)
  simp only [checkBuiltinCall,hk,hsp]
  unfold isInstance
  refine wpAny_bind (wpAny_bind (LT.here (LM.here ?_)))
  repeat (any_goals (first | assumption | wp_step))
 refine codeAny_call_builtin PySem.F.attr_ValueError.ga.plain PySem.F.entry_bexc_ga (chk _ _ _ ?_)
 cases s
 unfold Builtin.«object.__getattribute__»
 refine wpAny_bind (wpAny_of_eq (show slotArgs "__getattribute__" 1 ⟨[.ref x,.str "__class__" tk],[]⟩ = pure (.ref x,[.str "__class__" tk]) from by kernel_rfl) ?_)
 refine wpAny_bind (wpAny_pure (wpAny_bind (LT.at (wpAny_bind (LF.at ?_)))))
 show wpAny _ _ (Builtin.ObjectAttr.bindTo _ _ _ _) _ _ _
 unfold Builtin.ObjectAttr.bindTo
 dsimp only
 exact wpAny_bind (wpAny_holding (wpAny_call (qVd X Z I (wpAny_pure h))))
theorem qSD {Q : Option Value → Shared → Prop} (X : K.In s.heap) (Z : ExnK K C) (I : qFa x C s.heap) (h : Q (some (.ref C)) { s with toks:=s.toks + 1 }) : wpAny (model prog w) A (getAttr? (.ref x) "__class__") Q E s:=by
 have LT:=qFa.type (M:=model prog w) I
 have L1:=looks_findIn (M:=model prog w) X Z.ga
 have lk2:=looks_findIn (M:=model prog w) X Z.hk
 unfold getAttr? getAttrBy? getAttrBy
 cases s
 refine wpAny_bind (wpAny_mkText (wpAny_bind (wpAny_attempt (wpAny_holding (wpAny_bind (LT.at (wpAny_bind (L1.at ?_))))))))
 dsimp only
 have hx2 : (Value.builtin "BaseException.__getattribute__" == Value.builtin "object.__getattribute__") = false:=by decide +kernel
 rw [hx2,Bool.and_false,if_neg Bool.false_ne_true]
 unfold getAttrByItsOwn hookBefore
 rw [if_pos (show onTheHeap (.ref C) = true from rfl)]
 refine wpAny_bind (lk2.at (wpAny_bind (wpAny_attempt (wpAny_holding ?_))))
 unfold callGetattribute
 rw [Bool.false_and,if_neg Bool.false_ne_true]
 unfold boundAndCalled
 refine wpAny_bind (wpAny_of_eq (PySem.F.attr_ValueError.ga.bind (.ref x)) ?_)
 refine wpAny_call (qXe X Z I ?_)
 show wpAny _ _ (handedOut (.ref C)) _ _ _
 exact wpAny_pure (wpAny_pure h)
set_option tactic.hygienic true in
theorem qPQ (Z : ExnK K C) : KitX K (.ref x) (.ref C) (qFa x C) where
 ty:=fun _ _ _ I => I.type
 it:=fun M h X _ => by
  have z:=Z.isC
  unfold clsIn at z
  split at z
  ·rename_i ho
   intro A' Q' E' s' k q
   unfold isType loadHead
   exact wpAny_bind (wpAny_loadPart (k _ _ (X _ _ ho)) (wpAny_pure q))
  ·cases z
 ne:=fun h tp dd its n sl X htp => by
  have z:=Z.isC
  unfold clsIn at z
  split at z
  ·rename_i ho
   cases hq : (Value.ref C == Value.ref tp) with
   | false => rfl
   | true =>
    obtain rfl : C = tp:=Value.ref.inj (beq_iff_eq.mp hq)
    have y:=(X _ _ ho).symm.trans htp
    cases y
  ·cases z
 ca:=fun X I k => qSD X Z I k
end
end _D
end
section
namespace _D
open PySem PySem.Spec PyProof.Rows _L
section
variable {X : Cx}
structure ClsK (K : PySem.W.Frag) (cl : List Addr) : Prop where
 ex : ∀ C ∈ cl,ExnK K C
 one : ∀ C ∈ cl,∀ B ∈ cl,PySem.W.kitOne K (.ref C) (.ref B) = some (C == B)
 ve : ∀ C ∈ cl,PySem.W.kitOne K (.ref C) (.type "ValueError") = some true
noncomputable def qBW (cl : List Addr) : DF:=fun ds S => match ds with
 | [.exn (.ref C),.obj B] => if cl.contains C && cl.contains B then .ok (.bl (C == B)) S else .bad
 | [.exn (.ref C),.ty b] => if cl.contains C && (b == "ValueError") then .ok (.bl true) S else .bad
 | _ => qBD ds S
theorem qSC {pins : List (Addr × Obj)} {σ : _L.St} {H P : Hp} {α : List Addr} {S : Sto} {s : Shared} {C : Addr} {v : V} {u : Value} (I : Inv X pins σ H s) (r : Rel X.K H P α S) (p : Rep X.K P α (.exn (.ref C)) v) (q : qAY v u) : ∃ a,u = .ref a ∧ qFa a C s.heap:=by
 simp only [Rep] at p
 obtain ⟨a,rfl,z⟩:=p
 obtain ⟨y,_⟩:=I.hok a _ (r.sub _ _ z)
 exact ⟨a,q,y⟩
inductive IsiE (cl : List Addr) (ds : List D) (S : Sto) : Prop
 | bad (e : qBW cl ds S = .bad)
 | old (e : qBW cl ds S = qBD ds S)
 | obj (C B : Addr) (ed : ds = [.exn (.ref C),.obj B]) (h1 : C ∈ cl) (h2 : B ∈ cl) (e : qBW cl ds S = .ok (.bl (C == B)) S)
 | ve (C : Addr) (ed : ds = [.exn (.ref C),.ty "ValueError"]) (h1 : C ∈ cl) (e : qBW cl ds S = .ok (.bl true) S)
theorem qZW (cl : List Addr) (C : Addr) (d : D) (S : Sto) : IsiE cl [.exn (.ref C),d] S:=by
 cases d with
 | obj B =>
  have z : qBW cl [.exn (.ref C),.obj B] S = if (cl.contains C && cl.contains B) = true then .ok (.bl (C == B)) S else .bad:=rfl
  by_cases h : (cl.contains C && cl.contains B) = true
  ·rw [if_pos h] at z
   have h':=Bool.and_eq_true_iff.mp h
   exact .obj C B rfl (List.contains_iff_mem.mp h'.1) (List.contains_iff_mem.mp h'.2) z
  ·rw [if_neg h] at z
   exact .bad z
 | ty b =>
  have z : qBW cl [.exn (.ref C),.ty b] S = if (cl.contains C && (b == "ValueError")) = true then .ok (.bl true) S else .bad:=rfl
  by_cases h : (cl.contains C && (b == "ValueError")) = true
  ·rw [if_pos h] at z
   have h':=Bool.and_eq_true_iff.mp h
   cases (beq_iff_eq.mp h'.2)
   exact .ve C rfl (List.contains_iff_mem.mp h'.1) z
  ·rw [if_neg h] at z
   exact .bad z
 | _ => exact .old rfl
theorem qaR (cl : List Addr) (ds : List D) (S : Sto) : IsiE cl ds S:=by
 cases ds with
 | nil => exact .old rfl
 | cons a ds =>
  cases a with
  | exn c =>
   cases c with
   | ref C =>
    cases ds with
    | nil => exact .old rfl
    | cons b ds =>
     cases ds with
     | nil => exact qZW cl C b S
     | cons _ _ => cases b <;> exact .old rfl
   | _ => exact .old rfl
  | _ => exact .old rfl
theorem qVC {cl : List Addr} (hK : ClsK X.K cl) : qEN X (.builtin "isinstance") (qBW cl):=by
 intro pins σ H s P α S vs us ds Q I r rv rp af
 cases qaR cl ds S with
 | bad e => rw [e] at af; exact False.elim af
 | old e => rw [e] at af; exact qRp pins σ H s P α S vs us ds Q I r rv rp af
 | obj C B ed h1 h2 e =>
  rw [e] at af
  subst ed
  obtain ⟨v,w,u,x,rfl,rfl,p,p',q,q'⟩:=qKi rp rv
  simp only [Rep] at p'
  obtain ⟨rfl,_⟩:=p'
  cases (show x = Value.ref B from q')
  obtain ⟨a,rfl,ha⟩:=qSC I r p q
  exact PySem.W.kia_one (qPQ (hK.ex C h1)) I.kIn ha (hK.one C h1 B h2) (fun z => nomatch z) fun tk => ⟨.bl _,H,I.tok tk,rfl,xr af r (by simp only [Rep])⟩
 | ve C ed h1 e =>
  rw [e] at af
  subst ed
  obtain ⟨v,w,u,x,rfl,rfl,p,p',q,q'⟩:=qKi rp rv
  simp only [Rep] at p'
  subst p'
  cases (show x = Value.type "ValueError" from q')
  obtain ⟨a,rfl,ha⟩:=qSC I r p q
  exact PySem.W.kia_one (qPQ (hK.ex C h1)) I.kIn ha (hK.ve C h1) (fun z => nomatch z) fun tk => ⟨.bl _,H,I.tok tk,rfl,xr af r (by simp only [Rep])⟩
noncomputable def MtD (X : Cx) (id : String) (g : D → List D → Sto → Res D) : Prop :=
 ∀ (pins : List (Addr × Obj)) (σ : _L.St) (H : Hp) (s : Shared) (P : Hp) (α : List Addr) (S : Sto) (v : V) (vv : Value) (vs : List V) (us : List Value) (a : D) (ds : List D) (Q : VK),Inv X pins σ H s → Rel X.K H P α S → qAY v vv → Rep X.K P α a v → qAZ vs us → qAL X.K P α ds vs → qAr X P α (g a ds S) Q →
  wpAny (model X.prog X.w) X.A (call (.builtin id) (vv :: us)) (EP X pins σ Q) X.xe s
noncomputable def dBm (T : String) (g : D → List D → Sto → Res D) (fo : DE) (fa : DA) : DE:=fun env S => (fo env S).bind fun a S1 => if (tyD a S1 == some T) = true then (fa env S1).bind fun ds S2 => g a ds S2 else .bad
theorem qS8 {H P : Hp} {α : List Addr} {S : Sto} {a : D} {v : V} {T : String} (r : Rel X.K H P α S) (p : Rep X.K P α a v) (h : tyD a S = some T) (hT : T = "list" ∨ T = "dict" ∨ T = "int" ∨ T = "str") : tyV X.K T v H:=by
 cases a with
 | int i => cases h; simp only [Rep] at p; subst p; rfl
 | str x => cases h; simp only [Rep] at p; subst p; rfl
 | lst xs =>
  cases h
  simp only [Rep] at p
  obtain ⟨b,vs,rfl,q,t⟩:=p
  exact .inl ⟨rfl,vs,(qCO r.sub q).l⟩
 | dct0 =>
  cases h
  simp only [Rep] at p
  obtain ⟨b,rfl,q⟩:=p
  exact .inr (.inr (.inl ⟨rfl,.inl ⟨[],r.sub _ _ q⟩⟩))
 | loc i =>
  simp only [Rep] at p
  obtain ⟨b,rfl,q⟩:=p
  rcases qNJ (f:=fun _ => some "list") (g:=fun _ => some "dict") h with ⟨xs,hS,h⟩ | ⟨kvs,hS,h⟩
  ·cases h
   obtain ⟨vs,z,t⟩:=r.at' i b _ q hS
   exact .inl ⟨rfl,vs,SqL.of z⟩
  ·cases h
   obtain ⟨vs,z,t⟩:=r.at' i b _ q hS
   exact .inr (.inr (.inl ⟨rfl,.inl ⟨vs,z⟩⟩))
 | non => cases h; exact absurd hT (by decide)
 | bl b => cases h; exact absurd hT (by decide)
 | tup xs => cases h; exact absurd hT (by decide)
 | _ => exact nn h
variable {o e : Expr} {es : List Expr} {fo : DE} {fa : DA} {name : Str} {apos cpos : Pos} {T id : String} {g : D → List D → Sto → Res D}
theorem qW7 {P : Hp} {α : List Addr} {a : D} {S : Sto} {β : Type} {k : Res β} {Ok : β → Sto → Prop} (h : qAR X P α (if (tyD a S == some T) = true then k else .bad) Ok) : tyD a S = some T ∧ qAR X P α k Ok:=by
 by_cases z : (tyD a S == some T) = true
 ·rw [if_pos z] at h; exact ⟨beq_iff_eq.mp z,h⟩
 ·rw [if_neg z] at h; exact False.elim h
theorem qZG (pa : PlainAttrs T) (slot : Slot T name id) (hty : typeOf (.builtin id) = pure (.type "method_descriptor")) (hT : T = "list" ∨ T = "dict" ∨ T = "int" ∨ T = "str") (hm : MtD X id g) (ho : PE X o (tD X fo)) (ha : PA X (e :: es) (tDA X fa))
  (hbase : autoParam (attributeBase o name X.env (eval o X.env) = eval o X.env) au3._auto_1)
  (hfew : autoParam (((backTo cpos (starEach (e :: es) X.env)).all (fun x => !x.1) && (backToKw cpos (keywordEach [] X.env)).all (fun x => x.1.isSome)
   && decide ((e :: es).length + ([] : List Keyword).length + (if ([] : List Keyword).isEmpty then 0 else 1) < 30)) = true) au3._auto_1)
  (hline : autoParam ((apos.endLine == cpos.line) = true) au3._auto_1) (hs : autoParam (starEach (e :: es) X.env = (false,eval e X.env) :: starEach es X.env) au3._auto_1) (hplain : autoParam ((backTo cpos (starEach es X.env)).any (·.1) = false) au3._auto_1) :
  PE X (.Call (.Attribute o name apos) (e :: es) [] cpos) (tD X (dBm T g fo fa)):=by
 intro pins s σ H Q I h
 obtain ⟨P,α,env,S,r,re,af⟩:=h
 refine wpAny_Call_method_late hbase hfew hline rfl (thn (qBr ho I r re af) fun vv s1 ⟨v,H1,P1,α1,d,S1,G1,af1⟩ => ?_)
 obtain ⟨ht,af2⟩:=qW7 af1
 obtain ⟨h1,h2⟩:=qS7 G1.inv G1.val (qS8 G1.rel G1.rep ht hT)
 refine ⟨T,id,pa,slot,hty,h1,h2,?_⟩
 have hA:=qDL ha G1.inv G1.rel G1.env (P:=P1) (α:=α1) (Ok:=OkV X P1 α1 Q) (qAr.base G1.same G1.pre (r:=(fa env S1).bind fun ds S2 => g d ds S2) af2) cpos
 rw [hs] at hA ⊢
 refine Calls.callWith_builtin (by show (false || (backTo cpos (starEach es X.env)).any (·.1)) = false; rw [hplain] <;> rfl) (Calls.evalArgs_plain ?_)
 exact thn hA fun us s2 ⟨vs,H2,P2,α2,ds,S2,I2,rv,r2,re2,rp2,e1,e2,af3⟩ => hm pins σ H2 s2 P2 α2 S2 v vv vs us d ds Q I2 r2 G1.val (Rep.mono e1 e2 _ _ G1.rep) rv rp2 (qAr.base e1 e2 af3)
noncomputable def qBg : D → List D → Sto → Res D:=fun a ds S => match a,ds with
 | .loc i,[d] => match S[i]? with
  | some (.lst xs) => if xs.length < lim then .ok .non (S.set i (.lst (xs ++ [d]))) else .bad
  | _ => .bad
 | _,_ => .bad
inductive ApV (a : D) (ds : List D) (S : Sto) : Prop
 | bad (e : qBg a ds S = .bad)
 | of (i : Nat) (d : D) (xs : List D) (ea : a = .loc i) (ed : ds = [d]) (hS : S[i]? = some (.lst xs)) (hl : xs.length < lim) (e : qBg a ds S = .ok .non (S.set i (.lst (xs ++ [d]))))
theorem apV (a : D) (ds : List D) (S : Sto) : ApV a ds S:=by
 cases a with
 | loc i =>
  cases ds with
  | nil => exact .bad rfl
  | cons d ds =>
   cases ds with
   | cons _ _ => exact .bad rfl
   | nil =>
    have z : qBg (.loc i) [d] S = (match S[i]? with | some (.lst xs) => (if xs.length < lim then .ok .non (S.set i (.lst (xs ++ [d]))) else .bad) | _ => .bad):=rfl
    cases hS : S[i]? with
    | none => rw [hS] at z; exact .bad z
    | some m =>
     rw [hS] at z
     cases m with
     | lst xs =>
      by_cases hl : xs.length < lim
      ·exact .of i d xs rfl rfl hS hl (z.trans (if_pos hl))
      ·exact .bad (z.trans (if_neg hl))
     | _ => exact .bad z
 | _ => exact .bad rfl
theorem qSa : MtD X "list.append" qBg:=by
 intro pins σ H s P α S v vv vs us a ds Q I r rv p rvs rps af
 cases apV a ds S with
 | bad e => rw [e] at af; exact False.elim af
 | of i d xs ea ed hS hl e =>
  rw [e] at af
  subst ea ed
  obtain ⟨w,u,rfl,rfl,p',q'⟩:=qFl rps rvs
  simp only [Rep] at p
  obtain ⟨b,rfl,q⟩:=p
  obtain ⟨ws,z,t⟩:=r.at' i b _ q hS
  refine qSd pins s σ H (.ref b) [w] vv [u] Q I rv (.cons q' .nil) ⟨b,ws,w,rfl,rfl,z,by rw [← t.length,← qBR]; exact hl,?_⟩
  exact xr af (r.put (m':=.lst (xs ++ [d])) q hS (by intro z; cases z) ⟨ws ++ [w],qAz,t.append (.cons p' .nil)⟩) (by simp only [Rep])
end
end _D
end
section
namespace _D
open PySem PySem.Spec PyProof.Rows _L
noncomputable def qE5 : D → Option Key
 | .int i => some (.inl i)
 | .str x => some (.inr x)
 | _ => none
noncomputable def qDD (kvs : List (Key × D)) (k : Key) : Option D:=(kvs.find? fun kv => decide (kv.1 = k)).map (·.2)
noncomputable def qEg (kvs : List (Key × D)) (k : Key) (v : D) : List (Key × D) :=
 if (kvs.any fun kv => decide (kv.1 = k)) = true then kvs.map (fun kv => if kv.1 = k then (kv.1,v) else kv) else kvs ++ [(k,v)]
section
variable {K : PySem.W.Frag} {P : Hp} {α : List Addr}
theorem qQh {kvs : List (Key × D)} {vs : List (Key × V)} (r : KVs K P α kvs vs) : kvs.length = vs.length:=Paired.length r
theorem qQk {k : Key} : ∀ {kvs : List (Key × D)} {vs : List (Key × V)},KVs K P α kvs vs → (∀ d,qDD kvs k = some d → ∃ v,qFZ vs k = some v ∧ Rep K P α d v) ∧ (qDD kvs k = none → qFZ vs k = none)
 | _,_,.nil => ⟨fun d h => by simp [qDD] at h,fun _ => rfl⟩
 | (k1,d1) :: kvs,(k2,v2) :: vs,.cons z t => by
  obtain ⟨e,r⟩:=z
  dsimp only at e r
  subst e
  obtain ⟨h1,h2⟩:=qQk (k:=k) t
  unfold qDD qFZ at *
  by_cases hk : k1 = k
  ·subst hk
   constructor
   ·intro d h
    simp at h
    subst h
    exact ⟨v2,by simp,r⟩
   ·intro h
    simp at h
  ·constructor
   ·intro d h
    rw [List.find?_cons_of_neg (by simpa using hk)] at h ⊢
    exact h1 d h
   ·intro h
    rw [List.find?_cons_of_neg (by simpa using hk)] at h ⊢
    exact h2 h
theorem qVx {k : Key} {kvs : List (Key × D)} {vs : List (Key × V)} (h : KVs K P α kvs vs) : (kvs.any fun kv => decide (kv.1 = k)) = (vs.any fun kv => decide (kv.1 = k)):=by
 induction h with
 | nil => rfl
 | cons z t ih => rw [List.any_cons,List.any_cons,ih,z.1]
theorem qVz {k : Key} {d : D} {v : V} (q : Rep K P α d v) {kvs : List (Key × D)} {vs : List (Key × V)} (h : KVs K P α kvs vs) : KVs K P α (kvs.map fun kv => if kv.1 = k then (kv.1,d) else kv) (vs.map fun kv => if kv.1 = k then (kv.1,v) else kv):=by
 induction h with
 | nil => exact .nil
 | cons z t ih =>
  rw [List.map_cons,List.map_cons]
  refine .cons ?_ ih
  rw [← z.1]
  split
  ·exact ⟨rfl,q⟩
  ·exact z
theorem qVy {k : Key} {d : D} {v : V} (q : Rep K P α d v) {kvs : List (Key × D)} {vs : List (Key × V)} (h : KVs K P α kvs vs) : KVs K P α (kvs ++ [(k,d)]) (vs ++ [(k,v)]):=by
 induction h with
 | nil => exact .cons ⟨rfl,q⟩ .nil
 | cons z t ih => exact .cons z ih
theorem qQi {k : Key} {d : D} {v : V} (q : Rep K P α d v) {kvs : List (Key × D)} {vs : List (Key × V)} (r : KVs K P α kvs vs) : KVs K P α (qEg kvs k d) (qE7 vs k v):=by
 unfold qEg qE7
 rw [qVx r]
 split
 ·exact qVz q r
 ·exact qVy q r
theorem qSS {d : D} {k : Key} {v : V} (h : qE5 d = some k) (r : Rep K P α d v) : v = kV k:=by
 cases d with
 | int i => cases h; simp only [Rep] at r; exact r
 | str x => cases h; simp only [Rep] at r; exact r
 | _ => cases h
end
section
variable {X : Cx} {o i e : Expr} {pos : Pos} {fo fi : DE}
noncomputable def qTU : DE:=fun _ S => .ok (.loc S.length) (S ++ [.dct []])
theorem qXB : PE X (.Dict [] [] pos) (tD X qTU):=by
 refine peW qUC fun σ H Q ⟨P,α,env,S,r,re,af⟩ p hp => ?_
 have hpre : α <+: α ++ [p]:=List.prefix_append _ _
 have r1:=r.new (o:=.dK []) (m:=.dct []) hp ⟨[],qAz,.nil⟩
 refine af _ _ _ _ r1 (qAK.refl _) hpre ?_
 simp only [Rep]
 exact ⟨p,rfl,by rw [← r.len]; simp⟩
noncomputable def qFg : G3:=fun o i d S => match o with
 | .loc n => match S[n]? with
  | some (.dct kvs) => match qE5 i with
   | some k => if kvs.length < lim then .ok () (S.set n (.dct (qEg kvs k d))) else .bad
   | none => .bad
  | _ => qNA o i d S
 | _ => qNA o i d S
inductive Set2V (a b d : D) (S : Sto) : Prop
 | bad (e : qFg a b d S = .bad)
 | old (e : qFg a b d S = qNA a b d S)
 | of (n : Nat) (kvs : List (Key × D)) (k : Key) (ea : a = .loc n) (hS : S[n]? = some (.dct kvs)) (hk : qE5 b = some k) (hl : kvs.length < lim) (e : qFg a b d S = .ok () (S.set n (.dct (qEg kvs k d))))
theorem qZ1 (a b d : D) (S : Sto) : Set2V a b d S:=by
 cases a with
 | loc n =>
  have z : qFg (.loc n) b d S = (match S[n]? with | some (.dct kvs) => (match qE5 b with | some k => (if kvs.length < lim then .ok () (S.set n (.dct (qEg kvs k d))) else .bad) | none => .bad) | _ => qNA (.loc n) b d S):=rfl
  cases hS : S[n]? with
  | none => rw [hS] at z; exact .old z
  | some m =>
   rw [hS] at z
   cases m with
   | dct kvs =>
    cases hk : qE5 b with
    | none => rw [hk] at z; exact .bad z
    | some k =>
     rw [hk] at z
     by_cases hl : kvs.length < lim
     ·exact .of n kvs k rfl hS hk hl (z.trans (if_pos hl))
     ·exact .bad (z.trans (if_neg hl))
   | _ => exact .old z
 | _ => exact .old rfl
theorem qYu (hu : X.A.units + 1 < cLine) : qOh X (qOe X qFg):=by
 intro pins s σ H o i v ov iv u Q I ro ri rv h
 obtain ⟨P,α,S,a,b,d,r,pa,pb,pd,af⟩:=h
 cases qZ1 a b d S with
 | bad e => rw [e] at af; exact False.elim af
 | old e =>
  rw [e] at af
  exact qZ2 pins s σ H o i v ov iv u Q I ro ri rv ⟨P,α,S,a,b,d,r,pa,pb,pd,af⟩
 | of n kvs k ea hS hk hl e =>
  rw [e] at af
  subst ea
  simp only [Rep] at pa
  obtain ⟨p,rfl,q⟩:=pa
  obtain ⟨vs,z,t⟩:=r.at' n p _ q hS
  cases qSS hk pb
  cases (show ov = Value.ref p from ro)
  refine qRu hu I (qQ8.k (v:=v) z (by rw [← qQh t,← qBR]; exact hl)) ri rv fun s' I' => ⟨_,I',?_⟩
  exact af _ P α (r.put (m':=.dct (qEg kvs k d)) q hS (by intro z; cases z) ⟨_,qAz,qQi pd t⟩) (qAK.refl _) (List.prefix_refl _)
noncomputable def qa0 : D → List D → Sto → Res D:=fun a ds S => match a,ds with
 | .loc n,[i,x] => match S[n]? with
  | some (.dct kvs) => match qE5 i with
   | some k => .ok ((qDD kvs k).getD x) S
   | none => .bad
  | _ => .bad
 | _,_ => .bad
noncomputable def qL2 : D → List D → Sto → Res D:=fun a ds S => match a,ds with
 | .lst xs,[.bl k] => match qCW xs with
  | some bs => .ok (.int (bs.countP (· == k) : Nat)) S
  | none => .bad
 | _,_ => .bad
noncomputable def qNB (k : Bool) : List Bool → Option Nat
 | [] => none
 | b :: r => if b = k then some 0 else (qNB k r).map (· + 1)
noncomputable def qL3 : D → List D → Sto → Res D:=fun a ds S => match a,ds with
 | .lst xs,[.bl k] => match (qCW xs).bind (qNB k) with
  | some j => .ok (.int j) S
  | none => .bad
 | _,_ => .bad
theorem qPC (k : Bool) {bs : List Bool} {y : Value} (hy : y ∈ (bs.map Value.bool).toArray) : PySem.MeetsSeq.EqGives y (.bool k) (isBoolOf k y):=by
 have hy' : y ∈ bs.map Value.bool:=by rwa [List.mem_toArray] at hy
 obtain ⟨b,_,rfl⟩:=List.mem_map.mp hy'
 exact fun prog w A E s Q h => PySem.SeqAt.EqAt.bool_bool b k prog w E Q h
theorem qQA (k : Bool) (bs : List Bool) : (bs.map Value.bool).countP (isBoolOf k) = bs.countP (· == k):=by
 rw [List.countP_map]
 rfl
theorem qRf {β : Type} {r : Res β} {P : Hp} {α : List Addr} {Ok : β → Sto → Prop} (e : r = .bad) (h : qAR X P α r Ok) : False:=by
 rw [e] at h
 exact h
inductive BlV (a : D) (ds : List D) : Prop
 | no (h : ∀ (g : List D → Bool → Res D),(match a,ds with | .lst xs,[.bl k] => g xs k | _,_ => .bad) = .bad)
 | of (xs : List D) (k : Bool) (ea : a = .lst xs) (ed : ds = [.bl k])
theorem blV (a : D) (ds : List D) : BlV a ds:=by
 cases a with
 | lst xs =>
  cases ds with
  | nil => exact .no fun _ => rfl
  | cons d ds =>
   cases ds with
   | cons _ _ => cases d <;> exact .no fun _ => rfl
   | nil =>
    cases d with
    | bl k => exact .of xs k rfl rfl
    | _ => exact .no fun _ => rfl
 | _ => exact .no fun _ => rfl
theorem qT5 : MtD X "list.count" qL2:=by
 intro pins σ H s P α S v vv vs us a ds Q I r rv p rvs rps af
 cases blV a ds with
 | no h => exact (qRf (X:=X) (r:=qL2 a ds S) (h _) af).elim
 | of xs k ea ed =>
  subst ea ed
  have af : qAR X P α (match qCW xs with | some bs => Res.ok (D.int (bs.countP (· == k) : Nat)) S | none => .bad) (OkV X P α Q):=af
  cases hb : qCW xs with
  | none => rw [hb] at af; exact False.elim af
  | some bs =>
   rw [hb] at af
   obtain ⟨vx,ux,rfl,rfl,px,qx⟩:=qFl rps rvs
   simp only [Rep] at px
   subst px
   cases (show ux = Value.bool k from qx)
   obtain ⟨b,ws,its,n,rfl,sq,t,rvi,ht,hl,_⟩:=qHX I r p
   cases (show vv = Value.ref b from rv)
   have hi:=qEw hb t rvi
   subst hi
   refine call_meets PySem.F.slot_list_count ⟨_,ht,rfl⟩ PySem.F.entry_list_count (PySem.F.args_list_count_2 _ _) (PySem.SeqAt.list_countAt b (bs.map Value.bool).toArray n none #[] (.bool k) (isBoolOf k)) ⟨ht,fun y hy => (qPC k hy).at _ _,?_⟩
   refine ⟨.int _,H,I.tok _,⟨_,rfl⟩,?_⟩
   rw [show (bs.map Value.bool).toArray.toList = bs.map Value.bool from rfl,qQA]
   exact xr af r (by simp only [Rep])
theorem qQb {k : Bool} : ∀ {bs : List Bool} {j : Nat},qNB k bs = some j → ∃ h : j < bs.length,bs[j] = k ∧ ∀ m (hm : m < bs.length),m < j → bs[m] ≠ k
 | [],j,h => by cases h
 | b :: r,j,h => by
  unfold qNB at h
  by_cases hb : b = k
  ·rw [if_pos hb] at h
   cases h
   exact ⟨by simp,by simpa using hb,fun m hm z => absurd z (Nat.not_lt_zero _)⟩
  ·rw [if_neg hb] at h
   obtain ⟨i,hi,rfl⟩:=Option.map_eq_some_iff.mp h
   obtain ⟨h1,h2,h3⟩:=qQb hi
   refine ⟨by simp; omega,by simpa using h2,fun m hm hl => ?_⟩
   cases m with
   | zero => simpa using hb
   | succ m => simpa using h3 m (by simp at hm; omega) (by omega)
theorem qT6 : MtD X "list.index" qL3:=by
 intro pins σ H s P α S v vv vs us a ds Q I r rv p rvs rps af
 cases blV a ds with
 | no h => exact (qRf (X:=X) (r:=qL3 a ds S) (h _) af).elim
 | of xs k ea ed =>
  subst ea ed
  have af : qAR X P α (match (qCW xs).bind (qNB k) with | some j => Res.ok (D.int j) S | none => .bad) (OkV X P α Q):=af
  cases hj : (qCW xs).bind (qNB k) with
  | none => rw [hj] at af; exact False.elim af
  | some j =>
   rw [hj] at af
   obtain ⟨bs,hb,hi⟩:=Option.bind_eq_some_iff.mp hj
   obtain ⟨vx,ux,rfl,rfl,px,qx⟩:=qFl rps rvs
   simp only [Rep] at px
   subst px
   cases (show ux = Value.bool k from qx)
   obtain ⟨b,ws,its,n,rfl,sq,t,rvi,ht,hl,hz⟩:=qHX I r p
   cases (show vv = Value.ref b from rv)
   have hi':=qEw hb t rvi
   subst hi'
   obtain ⟨h1,h2,h3⟩:=qQb hi
   have hlen : bs.length ≤ sizeLine:=by
    have e1:=t.length
    have e2:=rvi.length
    rw [List.length_map] at e2
    rw [qBR] at hz
    omega
   refine call_meets PySem.F.slot_list_index ⟨_,ht,rfl⟩ PySem.F.entry_list_index (PySem.F.args_list_index_2 _ _) (PySem.MeetsSeq.list_index b (bs.map Value.bool).toArray n (.bool k) (isBoolOf k) (fun y hy => qPC k hy) j (by simpa using h1) ?_ ?_ ?_) ⟨ht,?_⟩
   ·rw [sizeLine_eq] at hlen; omega
   ·simp [isBoolOf,h2]
   ·intro m hm hl'
    have hm' : m < bs.length:=by simpa using hm
    have:=h3 m hm' hl'
    simp [isBoolOf,this]
   ·exact ⟨.int _,H,I.tok _,⟨_,rfl⟩,xr af r (by simp only [Rep])⟩
end
end _D
end
section
namespace _D
open PySem PySem.Spec PyProof.Rows _L
noncomputable def qGc (S : Sto) : Sto:=S.map fun _ => .dead
noncomputable def qUg : D → Bool
 | .non => true
 | .bl _ => true
 | .int _ => true
 | .str _ => true
 | _ => false
noncomputable def mapO {β γ : Type} (f : β → Option γ) : List β → Option (List γ)
 | [] => some []
 | b :: r => match f b,mapO f r with
  | some c,some cs => some (c :: cs)
  | _,_ => none
noncomputable def qCM : Nat → Sto → D → Option D
 | n + 1,S,.tup xs => (mapO (qCM n S) xs).map .tup
 | n + 1,S,.lst xs => (mapO (qCM n S) xs).map .lst
 | n + 1,S,.loc i => match S[i]? with
  | some (.lst xs) => (mapO (qCM n S) xs).map .lst
  | _ => none
 | _,_,.non => some .non
 | _,_,.bl b => some (.bl b)
 | _,_,.int i => some (.int i)
 | _,_,.str x => some (.str x)
 | _,_,.ty n => some (.ty n)
 | _,_,.obj a => some (.obj a)
 | _,_,.dct0 => some .dct0
 | _,_,.exn c => some (.exn c)
 | _,_,_ => none
noncomputable def qGC (H P : Hp) (α : List Addr) : Hp:=fun b => if (P b).isSome then P b else if b ∈ α then H b else none
section
variable {K : PySem.W.Frag} {H P : Hp} {α : List Addr} {S : Sto}
theorem qHF (H P : Hp) (α : List Addr) : qAK P (qGC H P α):=fun b o e => by
 unfold qGC
 rw [e]
 rfl
theorem qTs (r : Rel K H P α S) : qAK (qGC H P α) H:=fun b o e => by
 unfold qGC at e
 split at e
 ·exact r.sub b o e
 ·split at e
  ·exact e
  ·cases e
theorem qM9 {a : Addr} (h : P a = none) (ha : a ∈ α) : qGC H P α a = H a:=by
 unfold qGC
 rw [h]
 simp [ha]
theorem Rel.frz (r : Rel K H P α S) : Rel K H (qGC H P α) α (qGc S) where
 sub:=qTs r
 len:=by rw [r.len]; simp [qGc]
 nd:=r.nd
 sep:=fun i a o h1 h2 h3 => by
  unfold qGc at h2
  rw [List.getElem?_map] at h2
  cases q : S[i]? with
  | none => rw [q] at h2; cases h2
  | some m => rw [q] at h2; cases h2; exact absurd rfl h3
 at':=fun i a o h1 h2 => by
  unfold qGc at h2
  rw [List.getElem?_map] at h2
  cases q : S[i]? with
  | none => rw [q] at h2; cases h2
  | some m => rw [q] at h2; cases h2; trivial
 own:=r.own
theorem Rel.unfrz {H' P1 : Hp} {α1 : List Addr} {S1 : Sto} (r : Rel K H P α S) (r1 : Rel K H' P1 α1 S1) (e : qAK (qGC H P α) P1) : Rel K H' P α S:=by
 have mem : ∀ i a,α[i]? = some a → a ∈ α:=fun i a h => List.mem_of_getElem? h
 have kp : ∀ (i : Nat) (a : Addr) (o : MO) (u : HO),α[i]? = some a → S[i]? = some o → o ≠ MO.dead → H a = some u → H' a = some u:=fun i a o u h1 h2 h3 h4 =>
  r1.sub a u (e a u (by rw [qM9 (r.sep i a o h1 h2 h3) (mem i a h1)]; exact h4))
 refine ⟨(qHF H P α).trans (e.trans r1.sub),r.len,r.nd,r.sep,fun i a o h1 h2 => ?_,fun i a h1 => ?_⟩
 ·have m:=r.at' i a o h1 h2
  cases o with
  | dead => trivial
  | lst ds => obtain ⟨vs,q,t⟩:=m; exact ⟨vs,kp i a _ _ h1 h2 (by intro z; cases z) q,t⟩
  | dct kvs => obtain ⟨vs,q,t⟩:=m; exact ⟨vs,kp i a _ _ h1 h2 (by intro z; cases z) q,t⟩
  | ins C fs => obtain ⟨dx,vs,q,t⟩:=m; exact ⟨dx,vs,kp i a _ _ h1 h2 (by intro z; cases z) q,t⟩
 ·have h:=r.own i a h1
  cases q : H a with
  | none => exact absurd q h
  | some u =>
   have z : ∃ u',qGC H P α a = some u':=by
    cases q2 : P a with
    | none => exact ⟨u,by rw [qM9 q2 (mem i a h1)]; exact q⟩
    | some u' => exact ⟨u',qHF H P α a u' q2⟩
   obtain ⟨u',z⟩:=z
   rw [r1.sub a u' (e a u' z)]
   intro w; cases w
set_option tactic.hygienic true in
theorem qAL.mapO {f : D → Option D} {P' : Hp} (h : ∀ d t v,f d = some t → Rep K P α d v → Rep K P' α t v) : ∀ {ds ts : List D} {vs : List V},_D.mapO f ds = some ts → qAL K P α ds vs → qAL K P' α ts vs
 | [],ts,vs,e,r => by cases e; rw [r.nil_inv]; exact .nil
 | d :: ds,ts,vs,e,r => by
  obtain ⟨w,ws,rfl,r1,r2⟩:=r.cons_inv
  unfold _D.mapO at e
  split at e
  ·rename_i c cs h1 h2
   cases e
   exact .cons (h d c w h1 r1) (qAL.mapO h h2 r2)
  ·cases e
theorem qNW (r : Rel K H P α S) : ∀ (n : Nat) (d t : D) (v : V),qCM n S d = some t → Rep K P α d v → Rep K (qGC H P α) α t v:=by
 have mono : ∀ (d : D) (v : V),Rep K P α d v → Rep K (qGC H P α) α d v:=fun d v => Rep.mono (qHF H P α) (List.prefix_refl _) d v
 intro n
 induction n with
 | zero =>
  intro d t v h p
  cases d <;> first | (cases h; exact mono _ _ p) | exact nn h
 | succ n ih =>
  intro d t v h p
  cases d with
  | tup xs =>
   obtain ⟨ts,h1,rfl⟩:=Option.map_eq_some_iff.mp h
   simp only [Rep] at p ⊢
   obtain ⟨a,vs,rfl,q,t⟩:=p
   exact ⟨a,vs,rfl,qEi (qHF H P α) q,qAL.mapO (fun d t v => ih d t v) h1 t⟩
  | lst xs =>
   obtain ⟨ts,h1,rfl⟩:=Option.map_eq_some_iff.mp h
   simp only [Rep] at p ⊢
   obtain ⟨a,vs,rfl,q,t⟩:=p
   exact ⟨a,vs,rfl,qCO (qHF H P α) q,qAL.mapO (fun d t v => ih d t v) h1 t⟩
  | loc i =>
   have h : (match S[i]? with | some (.lst xs) => (_D.mapO (qCM n S) xs).map D.lst | _ => none) = some t:=h
   cases hS : S[i]? with
   | none => rw [hS] at h; exact nn h
   | some m =>
    rw [hS] at h
    cases m with
    | lst xs =>
     obtain ⟨ts,h1,rfl⟩:=Option.map_eq_some_iff.mp h
     simp only [Rep] at p ⊢
     obtain ⟨a,rfl,q⟩:=p
     obtain ⟨vs,z,t⟩:=r.at' i a _ q hS
     refine ⟨a,vs,rfl,.inl (.inl ?_),qAL.mapO (fun d t v => ih d t v) h1 t⟩
     rw [qM9 (r.sep i a _ q hS (by intro z; cases z)) (List.mem_of_getElem? q)]
     exact z
    | _ => exact nn h
  | fd ks ds => exact nn h
  | _ => cases h; exact mono _ _ p
theorem qTH {P' : Hp} {α' : List Addr} {d : D} {v : V} (h : qUg d = true) (p : Rep K P α d v) : Rep K P' α' d v:=by
 cases d with
 | non => simpa only [Rep] using p
 | bl b => simpa only [Rep] using p
 | int i => simpa only [Rep] using p
 | str x => simpa only [Rep] using p
 | _ => cases h
end
noncomputable def qKD : Nat:=20
noncomputable def qOZ (r : Res D) (S : Sto) : Res D:=match r with
 | .ok d _ => if qUg d then .ok d S else .bad
 | _ => .bad
theorem qMF {X : Cx} {H P : Hp} {α : List Addr} {S : Sto} {r : Res D} {Q : VK} (rl : Rel X.K H P α S) (af : qAr X P α (qOZ r S) Q) : qAr X (qGC H P α) α r Q:=by
 cases r with
 | ok d S' =>
  obtain ⟨ha,af⟩:=qEI (X:=X) af
  exact fun v H' P' α' r' e1 e2 rp => af v H' P α (rl.unfrz r' e1) (qAK.refl _) (List.prefix_refl _) (qTH ha rp)
 | ex c x S' => exact False.elim af
 | bad => exact False.elim af
section
variable {X : Cx}
noncomputable def qGg (g : G2) : G2:=fun a b S => match qCM qKD S a,qCM qKD S b with
 | some x,some y => qOZ (g x y (qGc S)) S
 | _,_ => .bad
set_option tactic.hygienic true in
theorem OpD.look {f : Value → Value → Sem Value} {g : G2} (h : OpD X f g) : OpD X f (qGg g):=by
 intro pins σ H s P α S v u vv uu a b Q I r rv ru pa pb af
 unfold qGg at af
 split at af
 ·rename_i x y hx hy
  exact h pins σ H s _ α (qGc S) v u vv uu x y Q I r.frz rv ru (qNW r qKD a x v hx pa) (qNW r qKD b y u hy pb) (qMF r af)
 ·exact False.elim af
noncomputable def qET (F : DF) : DF:=fun ds S => match mapO (qCM qKD S) ds with
 | some ts => qOZ (F ts (qGc S)) S
 | none => .bad
variable {cm : Bool} {k : Nat} {f : Addr} {fd : FuncData} {ps : List Str} {F : DF} {x : Str} {p pos : Pos} {e : Expr} {es : List Expr} {fa : DA} {n : Nat}
set_option tactic.hygienic true in
theorem qTa (G : FnX X.prog X.w X.K X.mg X.base cm k f fd ps (spD X.K n F)) (hr : RoomC cm k X.A) (hF : Fn1 X) (hg : Gl X x) (hm : X.mg x = some (.ref f)) (hk : PySem.W.keepIn X.K (.ref f) = true) (hb : qEt X.K fd ps [])
  (ha : PA X (e :: es) (tDA X fa)) (hdb : autoParam ((x == ("__debug__" : Str)) = false) au2._auto_1) (he : autoParam (starEach (e :: es) X.env = (false,eval e X.env) :: starEach es X.env) au3._auto_1) (hpl : autoParam ((backTo pos (starEach es X.env)).any (·.1) = false) au3._auto_1) :
  PE X (.Call (.Name x p) (e :: es) [] pos) (tD X (qAO n (qET F) fa)):=by
 intro pins s σ H Q I h
 obtain ⟨P,α,env,S,r,re,af⟩:=h
 refine wpAny_Call_Name_kw (qGm I hg hm ?_ hdb)
 refine PySem.W.callWith_K (h₀:=X.base) I.ok.mod.kin hk (thn (qDL ha I r re af pos) fun us s1 ⟨vs,H1,P1,α1,ds,S1,I1,rv,r1,re1,rp,e1,e2,af1⟩ => ⟨I1.kIn,?_⟩) he hpl
 obtain ⟨hn,af2⟩:=qKC (env:=env) (S:=S) af1
 have af3:=qAr.base e1 e2 af2
 unfold qET at af3
 split at af3
 ·rename_i ts ht
  have rp':=qAL.mapO (fun d t v => qNW r1 qKD d t v) ht rp
  have hl : ts.length = n:=by rw [rp'.length,← rp.length]; exact hn
  exact qNX G hr hb hF I1 r1.frz rv rp' hl (qMF r1 af3)
 ·exact False.elim af3
end
noncomputable def qFA (t : DT) (f : DS) : Nat → qAH → Sto → Out
 | 0,_,_ => .bad
 | n + 1,env,S => (t env S).toS env fun b S1 => if b then (match f env S1 with
   | .nx env2 S2 => qFA t f n env2 S2
   | .ct env2 S2 => qFA t f n env2 S2
   | .bk env2 S2 => .nx env2 S2
   | o => o) else .nx env S1
theorem qRl : ∃ n : Nat,n = 2 ^ 60:=⟨_,rfl⟩
noncomputable def big : Nat:=Classical.choose qRl
theorem qRk : big = 2 ^ 60:=Classical.choose_spec qRl
noncomputable def qKQ (t : DT) (f : DS) : DS:=fun env S => qFA t f big env S
section
variable {X : Cx} {pos : Pos}
inductive WhI (X : Cx) (P : Hp) (α : List Addr) (t : DT) (f : DS) (D : Ends) (m : Nat) (σ : _L.St) (H : Hp) : Prop
 | mk (P2 : Hp) (α2 : List Addr) (env2 : qAH) (S2 : Sto) (r : Rel X.K H P2 α2 S2) (re : qAt X.K P2 α2 σ env2) (e1 : qAK P P2) (e2 : α <+: α2) (af : qAf X P2 α2 (qFA t f m env2 S2) D) : WhI X P α t f D m σ H
theorem qTj {c : Expr} {body : List Stmt} {t : DT} {f : DS} (hp : PassesOwn (model X.prog X.w) X.A X.env X.xe) (hc : PT X c (tDT X t)) (hb : PSs X body (tDS X f)) : PS X (.While c body [] pos) (tDS X (qKQ t f)) :=
 psW (qUG hp hc hb) fun D σ H ⟨P,α,env,S,r,re,af⟩ => by
  refine ⟨WhI X P α t f D,⟨big,P,α,env,S,r,re,qAK.refl _,List.prefix_refl _,af⟩,?_⟩
  rintro m σ2 H2 ⟨P2,α2,env2,S2,r2,re2,e1,e2,af2⟩
  cases m with
  | zero => exact False.elim af2
  | succ m =>
   have af3:=qBk af2
   refine ⟨P2,α2,env2,S2,r2,re2,?_⟩
   cases q : t env2 S2 with
   | bad => rw [q] at af3; exact af3
   | ex c x S' => rw [q] at af3; exact af3
   | ok b S3 =>
    rw [q] at af3
    intro H3 P3 α3 r3 e3 e4
    have af4 : qAf X P3 α3 (if b then (match f env2 S3 with | .nx env2 S2 => qFA t f m env2 S2 | .ct env2 S2 => qFA t f m env2 S2 | .bk env2 S2 => .nx env2 S2 | o => o) else .nx env2 S3) D:=qAf.base e3 e4 af3
    cases b with
    | false => exact af4 σ2 H3 P3 α3 r3 (re2.mono e3 e4) (qAK.refl _) (List.prefix_refl _)
    | true =>
     simp only [if_true] at af4 ⊢
     refine ⟨WhI X P α t f D m,fun σ' H' w => ⟨m,Nat.lt_succ_self _,w⟩,P3,α3,env2,S3,r3,re2.mono e3 e4,?_⟩
     cases q2 : f env2 S3 with
     | bad => rw [q2] at af4; exact af4
     | ex c x env4 S4 => rw [q2] at af4; exact af4
     | rt d4 S4 => rw [q2] at af4; exact af4
     | bk env4 S4 => rw [q2] at af4; exact af4
     | nx env4 S4 =>
      rw [q2] at af4
      exact fun σ5 H5 P5 α5 r5 re5 e8 e9 => ⟨P5,α5,env4,S4,r5,re5,(e1.trans e3).trans e8,(e2.trans e4).trans e9,qAf.base e8 e9 af4⟩
     | ct env4 S4 =>
      rw [q2] at af4
      exact fun σ5 H5 P5 α5 r5 re5 e8 e9 => ⟨P5,α5,env4,S4,r5,re5,(e1.trans e3).trans e8,(e2.trans e4).trans e9,qAf.base e8 e9 af4⟩
end
end _D
end
section
namespace _D
open PySem PySem.Spec PyProof.Rows _L
section
variable {X : Cx} {a b c e : Expr} {pos : Pos} {fa fe : DE}
noncomputable def qaf (X : Cx) (g : G2) : TIp:=fun x y H Q => ∃ P α S a b,Rel X.K H P α S ∧ Rep X.K P α a x ∧ Rep X.K P α b y ∧ qAr X P α (g a b S) Q
noncomputable def IpD (X : Cx) (op : Operator) (g : G2) : Prop:=PIp X op (qaf X g)
noncomputable def qRa (i : Nat) (g : G2) (fe : DE) : DS:=fun env S => match env[i]? with
 | some (some x) => (fe env S).toS env fun y S1 => (g x y S1).toS env fun z S2 => .nx (env.set i (some z)) S2
 | _ => .bad
set_option tactic.hygienic true in
theorem qXQ {i : Nat} {x : Str} {op : Operator} {g : G2} {pos' : Pos} (hN : X.N.Nodup) (he : PE X e (tD X fe)) (ho : IpD X op g) (hi : autoParam (X.N[i]? = some x) au3._auto_1) (hx : autoParam (Loc X.env.scope x) au8._auto_1)
  (hf : autoParam (X.fn x = true ∨ X.env.scope.names.lookup x = some .local) au1._auto_1) : PS X (.AugAssign (.Name x pos') op e pos) (tDS X (qRa i g fe)) :=
 psW (qYf hN hi hx he ho hf) fun D σ H ⟨P,α,env,S,r,re,af⟩ => by
  unfold qRa at af
  split at af
  ·rename_i d hd
   obtain ⟨v,hv,pv⟩:=re.2 i d hd
   refine ⟨v,hv,P,α,env,S,r,re,?_⟩
   have af1:=qBk af
   cases q : fe env S with
   | bad => rw [q] at af1; exact af1
   | ex c x S' => rw [q] at af1; exact af1
   | ok y S1 =>
    rw [q] at af1
    intro u H1 P1 α1 r1 e1 e2 rp
    refine ⟨P1,α1,S1,d,y,r1,Rep.mono e1 e2 _ _ pv,rp,?_⟩
    have af2:=qBk (qAf.base e1 e2 af1)
    cases q2 : g d y S1 with
    | bad => rw [q2] at af2; exact af2
    | ex c x S' => rw [q2] at af2; exact af2
    | ok z S2 =>
     rw [q2] at af2
     exact fun w H2 P2 α2 r2 e3 e4 rp2 => af2 _ H2 P2 α2 r2 (((re.mono e1 e2).mono e3 e4).set i rp2) e3 e4
  ·exact False.elim af
noncomputable def qRJ : G2:=i2 (fun _ _ => true) fun i j => .int (i + j)
theorem qVn : IpD X .Add qRJ:=by
 intro pins s σ H x y v u Q I rx ry h
 obtain ⟨P,α,S,a,b,r,pa,pb,af⟩:=h
 obtain ⟨i,j,rfl,rfl,_,ok⟩:=qRM af
 exact qXm pins s σ H x y v u Q I rx ry ⟨i,j,qB2 pa,qB2 pb,xr ok r (by simp only [Rep])⟩
noncomputable def qE0 (xs : List D) (lo hi : Option Int) : List D:=(xs.drop (_H.sIx xs.length 0 lo)).take (_H.sIx xs.length xs.length hi - _H.sIx xs.length 0 lo)
abbrev DO:=qAH → Sto → Res (Option Int)
noncomputable def OkO (X : Cx) (P : Hp) (α : List Addr) (Q : Option Int → Hp → Prop) (o : Option Int) (S' : Sto) : Prop:=∀ H' P' α',Rel X.K H' P' α' S' → qAK P P' → α <+: α' → Q o H'
noncomputable def tDO (X : Cx) (f : DO) : TO:=fun σ H Q => ∃ P α env S,Rel X.K H P α S ∧ qAt X.K P α σ env ∧ qAR X P α (f env S) (OkO X P α Q)
noncomputable def qIg : DO:=fun _ S => .ok none S
noncomputable def qDe (f : DE) : DO:=fun env S => (f env S).bind fun d S1 => match d with
 | .int i => .ok (some i) S1
 | _ => .bad
theorem qVU : PO X none (tDO X qIg):=fun pins s σ H Q I ⟨P,α,env,S,r,re,af⟩ => qWJ pins s σ H Q I (af H P α r (qAK.refl _) (List.prefix_refl _))
theorem qVV (he : PE X e (tD X fe)) : PO X (some e) (tDO X (qDe fe)):=by
 intro pins s σ H Q I h
 obtain ⟨P,α,env,S,r,re,af⟩:=h
 refine qWK (te:=tD X fe) he pins s σ H Q I ⟨P,α,env,S,r,re,?_⟩
 have af' : qAR X P α ((fe env S).bind fun d S1 => match d with | .int i => .ok (some i) S1 | _ => .bad) (OkO X P α Q):=af
 cases q : fe env S with
 | bad => rw [q] at af'; exact af'
 | ex c x S' => rw [q] at af'; exact af'
 | ok d S1 =>
  rw [q] at af'
  intro v H1 P1 α1 r1 e1 e2 rp
  cases d with
  | int i => exact ⟨i,qB2 rp,af' H1 P1 α1 r1 e1 e2⟩
  | _ => exact False.elim af'
theorem qAL.cut {K : PySem.W.Frag} {P : Hp} {α : List Addr} {ds : List D} {vs : List V} (r : qAL K P α ds vs) (lo hi : Option Int) : qAL K P α (qE0 ds lo hi) (qJ8 vs lo hi):=by
 unfold qE0 qJ8
 rw [r.length]
 exact (r.drop _).take _
noncomputable def gSl (d : D) (lo hi : Option Int) (S : Sto) : Res D:=match d with
 | .lst xs => .ok (.lst (qE0 xs lo hi)) S
 | .loc i => match S[i]? with
  | some (.lst xs) => .ok (.lst (qE0 xs lo hi)) S
  | _ => .bad
 | .tup xs => .ok (.tup (qE0 xs lo hi)) S
 | _ => .bad
noncomputable def dSl (fe : DE) (fl fh : DO) : DE:=fun env S => (fe env S).bind fun d S1 => (fl env S1).bind fun lo S2 => (fh env S2).bind fun hi S3 => gSl d lo hi S3
end
end _D
end
section
namespace _D
open PySem PySem.Spec PyProof.Rows _L _H
section
variable {prog : Program} {w : World} {A : Around} {E : Value → Shared → Prop} {s : Shared}
theorem qJx {t sl : Addr} {items : Array Value} {vl vu : Value} {lo hi : Option Int} {Q : Value → Shared → Prop} (ht : IsTup s.heap t items) (hs : s.heap.IsSliceOf sl vl vu .none) (pl : IsPart vl lo) (pu : IsPart vu hi)
  (hw : sIx items.size 0 lo = 0 ∧ sIx items.size items.size hi = items.size) (h : Q (.ref t) s) : wpAny (model prog w) A (getItem (.ref t) (.ref sl)) Q E s:=by
 obtain ⟨ob,hob,hcb,_⟩:=id hs
 have hTs : s.TypeIs (.ref sl) "slice":=⟨ob,hob,hcb⟩
 unfold getItem
 try with_reducible refine wpAny_holding ?_
 first | refine wpAny_bind (wpAny_pure ?_) | skip
 refine wpAny_bind (wpAny_sequenceKey ht.typeIs (by decide) ?_)
 refine wpAny_bind (wpAny_callSpecial?_slot (name:=Str.ofString "__getitem__") ht.typeIs PyProof.Rows.slot_tuple_getitem
  (wpAny_call_entry PyProof.Rows.slot_tuple_getitem ht.typeIs entry_tuple_getitem ?_ (args_tuple_getitem _ _)))
 show wpAny _ _ (Builtin.Tuple.tupleItemsOf (.ref t) >>= _) _ _ s
 refine wpAny_bind (tupleItemsOf_ ht ?_)
 refine wpAny_bind (wpAny_typeOf hTs ?_)
 rw [if_pos (by decide)]
 refine wpAny_bind (qHf hs pl pu ?_)
 show wpAny _ _ (if (((sIx items.size 0 lo : Nat) : Int) == 0 && (1 : Int) == 1 && (sIx items.size items.size hi - sIx items.size 0 lo) == items.size) = true then _ else _) _ _ s
 rw [hw.1,hw.2,if_pos (by simp)]
 unfold Builtin.Tuple.tupleIsExact
 refine wpAny_bind (wpAny_bind (wpAny_typeOf ht.typeIs (wpAny_pure ?_)))
 rw [if_pos (by decide)]
 exact wpAny_bind (wpAny_rule (wpAny_pure ⟨_,rfl,wpAny_pure h⟩))
end
section
variable {X : Cx} {e : Expr} {fe : DE} {pos p2 : Pos}
noncomputable def qaZ (X : Cx) : V → Option Int → Option Int → Hp → VK → Prop:=fun x lo hi H Q => ∃ P α S d,Rel X.K H P α S ∧ Rep X.K P α d x ∧ qAr X P α (gSl d lo hi S) Q
theorem qac : SlR X (qaZ X):=by
 intro pins s σ H x v vl vu lo hi sl Q I rx hs pl pu h
 obtain ⟨P,α,S,d,r,p,af⟩:=h
 cases d with
 | lst xs =>
  simp only [Rep] at p
  obtain ⟨a,vs,rfl,q,t⟩:=p
  exact qQ2 pins s σ H _ v vl vu lo hi sl Q I rx hs pl pu ⟨a,vs,rfl,(qCO r.sub q).l,fun b hb => qHa r hb (qAL.cut t lo hi) af⟩
 | loc i =>
  obtain ⟨xs,hS,af⟩:=qHZ (X:=X) (f:=fun xs => Res.ok (D.lst (qE0 xs lo hi)) S) af
  simp only [Rep] at p
  obtain ⟨a,rfl,q⟩:=p
  obtain ⟨vs,z,t⟩:=r.at' i a _ q hS
  exact qQ2 pins s σ H _ v vl vu lo hi sl Q I rx hs pl pu ⟨a,vs,rfl,SqL.of z,fun b hb => qHa r hb (qAL.cut t lo hi) af⟩
 | tup xs =>
  have p0:=p
  simp only [Rep] at p
  obtain ⟨a,vs,rfl,q,t⟩:=p
  by_cases hw : sIx vs.length 0 lo = 0 ∧ sIx vs.length vs.length hi = vs.length
  ·cases rx
   obtain ⟨its,rv,ht,hz⟩:=I.tuple (qC0 r.sub q)
   have hlen : its.toArray.size = vs.length:=by rw [List.size_toArray]; exact rv.length.symm
   refine ⟨"tuple",_,PyProof.Rows.slot_tuple_getitem.lookup,ht.typeIs,qJx ht hs pl pu (by rw [hlen]; exact hw) ⟨.ref a,H,I,rfl,xr af r ?_⟩⟩
   have e : qE0 xs lo hi = xs:=by
    unfold qE0
    rw [t.length,hw.1,hw.2,← t.length]
    simp
   rw [e]
   exact p0
  ·exact qYw pins s σ H _ v vl vu lo hi sl Q I rx hs pl pu ⟨a,vs,rfl,qC0 r.sub q,hw,fun b hb => qHb r hb (qAL.cut t lo hi) af⟩
 | _ => exact False.elim af
theorem qTd {lo hi : Option Expr} {fl fh : DO} (he : PE X e (tD X fe)) (hl : PO X lo (tDO X fl)) (hu : PO X hi (tDO X fh)) : PE X (.Subscript e (.Slice lo hi none p2) pos) (tD X (dSl fe fl fh)) :=
 peW (qUD qac he hl hu) fun σ H Q ⟨P,α,env,S,r,re,af⟩ => by
  refine ⟨P,α,env,S,r,re,?_⟩
  have af' : qAR X P α ((fe env S).bind fun d S1 => (fl env S1).bind fun lo S2 => (fh env S2).bind fun hi S3 => gSl d lo hi S3) (OkV X P α Q):=af
  cases q : fe env S with
  | bad => rw [q] at af'; exact af'
  | ex c x S' => rw [q] at af'; exact af'
  | ok d S1 =>
   rw [q] at af'
   intro v H1 P1 α1 r1 e1 e2 rp
   refine ⟨P1,α1,env,S1,r1,re.mono e1 e2,?_⟩
   have af2 : qAR X P1 α1 ((fl env S1).bind fun lo S2 => (fh env S2).bind fun hi S3 => gSl d lo hi S3) (OkV X P1 α1 Q):=qAr.base e1 e2 af'
   cases q2 : fl env S1 with
   | bad => rw [q2] at af2; exact af2
   | ex c x S' => rw [q2] at af2; exact af2
   | ok l S2 =>
    rw [q2] at af2
    intro H2 P2 α2 r2 e3 e4
    refine ⟨P2,α2,env,S2,r2,(re.mono e1 e2).mono e3 e4,?_⟩
    have af3 : qAR X P2 α2 ((fh env S2).bind fun hi S3 => gSl d l hi S3) (OkV X P2 α2 Q):=qAr.base e3 e4 af2
    cases q3 : fh env S2 with
    | bad => rw [q3] at af3; exact af3
    | ex c x S' => rw [q3] at af3; exact af3
    | ok u S3 =>
     rw [q3] at af3
     intro H3 P3 α3 r3 e5 e6
     exact ⟨P3,α3,S3,d,r3,Rep.mono (e3.trans e5) (e4.trans e6) _ _ rp,qAr.base e5 e6 af3⟩
noncomputable def qIH (d : D) (S : Sto) : Res D:=match d with
 | .int i => if i.natAbs.log2 < 1920 then .ok (.str (toString i)) S else .bad
 | .str x => if x.length ≤ lim then .ok (.str x) S else .bad
 | _ => .bad
set_option tactic.hygienic true in
theorem qXC (he : PE X e (tD X fe)) : PE X (.FormattedValue e (-1) none pos) (tD X (d1 qIH fe)):=by
 intro pins s σ H Q I h
 obtain ⟨P,α,env,S,r,re,af⟩:=h
 refine FormattedValue_plain (thn (qBr he I r re af) fun vv s1 ⟨v,H1,P1,α1,d,S1,G1,af1⟩ => ?_)
 have p:=G1.rep
 have rv:=G1.val
 have af2:=qAr.base G1.same G1.pre af1
 cases d with
 | int i =>
  simp only [qIH] at af2
  split at af2
  ·rename_i hd
   simp only [Rep] at p; subst p
   obtain ⟨t,rfl⟩:=rv
   exact formatField_int_small hd ⟨.str _,H1,G1.inv.tok _,⟨_,rfl⟩,xr af2 G1.rel (by simp only [Rep])⟩
  ·exact False.elim af2
 | str x =>
  simp only [qIH] at af2
  split at af2
  ·rename_i hd
   simp only [Rep] at p; subst p
   obtain ⟨t,rfl⟩:=rv
   exact formatField_str (fun t' tk => ⟨.str _,H1,G1.inv.tok _,⟨_,rfl⟩,xr af2 G1.rel (by simp only [Rep])⟩) (by rw [← qBR]; exact hd)
  ·exact False.elim af2
 | _ => exact False.elim af2
noncomputable def qJQ (out : Str) : List DE → qAH → Sto → Res D
 | [],_,S => if out.length ≤ lim then .ok (.str out) S else .bad
 | p :: ps,env,S => (p env S).bind fun d S1 => match d with
  | .str y => if (out ++ y).length ≤ lim then qJQ (out ++ y) ps env S1 else .bad
  | _ => .bad
noncomputable def PJ (X : Cx) (es : List Expr) (fs : List DE) : Prop :=
 ∀ (out : Str) (pins : List (Addr × Obj)) (s : Shared) (σ : _L.St) (H P : Hp) (α : List Addr) (env : qAH) (S : Sto) (Q : VK),Inv X pins σ H s → Rel X.K H P α S → qAt X.K P α σ env → qAr X P α (qJQ out fs env S) Q →
  wpAny (model X.prog X.w) X.A (joinParts out (evalEach es X.env)) (EP X pins σ Q) X.xe s
theorem qYa : PJ X [] []:=by
 intro out pins s σ H P α env S Q I r re af
 obtain ⟨hl,af⟩:=qEI (X:=X) af
 exact joinParts_nil ⟨.str _,H,I.tok _,⟨_,rfl⟩,xr af r (by simp only [Rep])⟩ (by rw [← qBR]; exact hl)
theorem qWH {es : List Expr} {fs : List DE} (he : PE X e (tD X fe)) (hr : PJ X es fs) : PJ X (e :: es) (fe :: fs):=by
 intro out pins s σ H P α env S Q I r re af
 have af : qAR X P α ((fe env S).bind fun d S1 => match d with | .str y => if (out ++ y).length ≤ lim then qJQ (out ++ y) fs env S1 else .bad | _ => .bad) (OkV X P α Q):=af
 refine joinParts_cons (thn (qBr he I r re af) fun vv s1 ⟨v,H1,P1,α1,d,S1,G1,af1⟩ => ?_)
 cases d with
 | str y =>
  have p:=G1.rep
  simp only [Rep] at p; subst p
  obtain ⟨t,rfl⟩:=G1.val
  obtain ⟨hl,af1⟩:=qEI (X:=X) af1
  exact ⟨by rw [← qBR]; exact hl,hr (out ++ y) pins s1 σ H1 P1 α1 env S1 Q G1.inv G1.rel G1.env (qAr.base G1.same G1.pre af1)⟩
 | _ => exact False.elim af1
noncomputable def qOW (fs : List DE) : DE:=fun env S => qJQ Str.empty fs env S
theorem qVL {v₁ v₂ : Expr} {rest : List Expr} {fs : List DE} (h : PJ X (v₁ :: v₂ :: rest) fs) : PE X (.JoinedStr (v₁ :: v₂ :: rest) pos) (tD X (qOW fs)):=by
 intro pins s σ H Q I hq
 obtain ⟨P,α,env,S,r,re,af⟩:=hq
 exact JoinedStr_many (h Str.empty pins s σ H P α env S Q I r re af)
end
end _D
end
section
namespace _D
open PySem PySem.Spec PyProof.Rows _L
section
variable {prog : Program} {w : World} {A : Around} {E : Value → Shared → Prop} {s : Shared}
theorem qUd {tp tq : Bool} {z I O i j a b : Addr} {k : Nat} {xs ys : Array Value} {p q : Value} {Q : Fin → Shared → Prop} (hh : A.handled = none) (D : ZA z I O i j) (Da : Off z O i j a) (Db : Off z O i j b)
  (hz : IsZip s.heap z I O .none) (hI : IsPair s.heap I (.ref i) (.ref j)) (hO : IsPair s.heap O p q) (h1 : qA7 tp s.heap i a k) (h2 : qA7 tq s.heap j b k) (ha : qCU tp s.heap a xs) (hb : qCU tq s.heap b ys) (hend : xs[k]? = none ∨ ys[k]? = none)
  (hE : ∀ h' e,qTD z O i j s.heap h' → (∃ o,h'.get? e = some o ∧ o.cls = .type "StopIteration") → E (.ref e) { s with heap:=h' }) : wpAny (model prog w) A (Builtin.«zip.__next__» ⟨[.ref z],[]⟩) Q E s:=by
 show wpAny _ _ (field (.ref z) 2 >>= _) _ _ _; refine wpAny_bind (wpAny_field hz rfl (x:=.bool false) rfl ?_)
 show wpAny _ _ (field (.ref z) 3 >>= _) _ _ _; refine wpAny_bind (wpAny_field hz rfl (x:=.ref I) rfl (wpAny_bind (wpAny_seqItems hI rfl ?_)))
 show wpAny _ _ (Builtin.SmallTypes.ownedTupleIsFree (.ref z) >>= _) _ _ _; refine wpAny_bind ?_
 unfold Builtin.SmallTypes.ownedTupleIsFree; refine wpAny_bind (wpAny_field hz rfl (x:=.none) rfl (wpAny_pure ?_))
 simp only [if_true]; refine wpAny_bind (wpAny_rule (wpAny_bind (wpAny_field hz rfl (x:=.ref O) rfl (wpAny_bind (wpAny_setField_rec hz (by simp) fun g1 z1 s1 => ?_)))))
 replace z1 : IsZip g1 z I O .ellipsis:=z1
 refine wpAny_bind ?_; simp only [List.zipIdx_cons,List.zipIdx_nil,List.forIn_cons,List.forIn_nil]
 refine wpAny_bind (wpAny_bind (wpAny_onRaise ?_)); show wpAny _ _ (Builtin.SmallTypes.nextOf (.ref i) >>= _) _ _ _
 have it1 : qA7 tp g1 i a k:=h1.keep fun o e => s1.extBut _ _ D.iz e
 have sq1 : qCU tp g1 a xs:=ha.keep fun o e => s1.extBut _ _ Da.z e
 cases hx : xs[k]? with
 | none =>
  refine wpAny_bind (qHY hh it1 sq1 hx fun g2 e x2 he => ?_)
  obtain ⟨oe,h3,h4⟩:=he
  have z2 : IsZip g2 z I O .ellipsis:=x2 _ _ D.iz.symm z1
  have ne : e ≠ z:=fun y => by subst y; rw [z2] at h3; cases h3; simp at h4
  exact wpAny_setField_rec z2 (by simp) fun g3 _ s3 => hE g3 e (fun c o c1 _ c3 _ y => s3.extBut _ _ c1 (x2 _ _ c3 (s1.extBut _ _ c1 y))) ⟨oe,s3.extBut _ _ ne h3,h4⟩
 | some x =>
  have hy : ys[k]? = none:=by
   rcases hend with y | y
   ·rw [hx] at y; cases y
   ·exact y
  refine wpAny_bind (qJU it1 sq1 hx fun g2 i2 s2 => wpAny_pure ?_)
  have O2 : IsPair g2 O p q:=s2.extBut _ _ D.Oi (s1.extBut _ _ D.Oz hO)
  refine wpAny_bind (wpAny_seqItems O2 rfl (wpAny_bind (wpAny_updateSeq_pair O2 fun g3 O3 s3 => wpAny_bind (wpAny_letGo (wpAny_pure ?_)))))
  refine wpAny_bind (wpAny_bind (wpAny_onRaise ?_)); show wpAny _ _ (Builtin.SmallTypes.nextOf (.ref j) >>= _) _ _ _
  refine wpAny_bind (qHY hh (h2.keep fun o e => s3.extBut _ _ D.Oj.symm (s2.extBut _ _ D.ij.symm (s1.extBut _ _ D.jz e))) (hb.keep fun o e => s3.extBut _ _ Db.O (s2.extBut _ _ Db.i (s1.extBut _ _ Db.z e))) hy fun g4 e x4 he => ?_)
  obtain ⟨oe,h3,h4⟩:=he
  have z4 : IsZip g4 z I O .ellipsis:=x4 _ _ D.jz.symm (s3.extBut _ _ D.Oz.symm (s2.extBut _ _ D.iz.symm z1))
  have ne : e ≠ z:=fun y => by subst y; rw [z4] at h3; cases h3; simp at h4
  exact wpAny_setField_rec z4 (by simp) fun g5 _ s5 => hE g5 e (fun c o c1 c2 c3 c4 y => s5.extBut _ _ c1 (x4 _ _ c4 (s3.extBut _ _ c2 (s2.extBut _ _ c3 (s1.extBut _ _ c1 y))))) ⟨oe,s5.extBut _ _ ne h3,h4⟩
abbrev qFi (tp : Bool) (l : Addr) : Obj:={ cls:=.type (if tp then "tuple_iterator" else "list_iterator"),data:=.fields #[.ref l,.int 0 0] }
noncomputable abbrev zh1 (tp : Bool) (h : Heap) (a : Addr) : Heap:=h.push (qFi tp a)
noncomputable abbrev zh2 (tp tq : Bool) (h : Heap) (a b : Addr) : Heap:=(zh1 tp h a).push (qFi tq b)
noncomputable abbrev zh3 (tp tq : Bool) (h : Heap) (a b : Addr) : Heap:=(zh2 tp tq h a b).push { cls:=.type "tuple",data:=.seq #[.ref h.objs.size,.ref (zh1 tp h a).objs.size] }
noncomputable abbrev zh4 (tp tq : Bool) (h : Heap) (a b : Addr) : Heap:=(zh3 tp tq h a b).push { cls:=.type "tuple",data:=.seq #[.none,.none] }
noncomputable abbrev zh5 (tp tq : Bool) (h : Heap) (a b : Addr) : Heap:=(zh4 tp tq h a b).push { cls:=.type "zip",data:=.fields #[.none,.bool false,.bool false,.ref (zh2 tp tq h a b).objs.size,.ref (zh3 tp tq h a b).objs.size] }
set_option maxHeartbeats 4000000 in
theorem qWl (tp : Bool) (a b : Addr) (xs ys : Array Value) :
  Meets (Builtin.«zip.__new__» ⟨[.type "zip",.ref a,.ref b],[]⟩) (fun _ R s => qCU tp s.heap a xs ∧ qCU tp s.heap b ys ∧ R (.ok (.ret (.ref (zh4 tp tp s.heap a b).objs.size))) { s with heap:=zh5 tp tp s.heap a b }) :=
 .of_wp fun prog w A R s h => by
  obtain ⟨hp,g,d,tk,os⟩:=s
  obtain ⟨q1,q2,h⟩:=h
  have hsub:=sub_zip
  have e2 : ∀ ob : Obj,qCU tp (hp.push ob) b ys:=fun ob => q2.keep fun o e => Heap.get?_push_of_some _ e
  cases tp
  ·have l1 : Heap.IsList (Shared.heap ⟨hp,g,d,tk,os⟩) a xs:=q1
   have l2 : Heap.IsList (Shared.heap ⟨hp.push { cls:=.type "list_iterator",data:=.fields #[.ref a,.int 0 0] },g,d,tk,os⟩) b ys:=e2 _
   wp_walk using wpAny_pyIter_list l1,wpAny_pyIter_list l2
   exact ⟨_,rfl,h⟩
  ·have l1 : Heap.IsTuple (Shared.heap ⟨hp,g,d,tk,os⟩) a xs:=q1
   have l2 : Heap.IsTuple (Shared.heap ⟨hp.push { cls:=.type "tuple_iterator",data:=.fields #[.ref a,.int 0 0] },g,d,tk,os⟩) b ys:=e2 _
   wp_walk using wpAny_pyIter_tuple l1,wpAny_pyIter_tuple l2
   exact ⟨_,rfl,h⟩
theorem qJP {tp : Bool} {h : Heap} {it l : Addr} (e : h.get? it = some (qFi tp l)) : qA7 tp h it l 0:=by
 cases tp
 ·exact ⟨_,e,rfl,rfl⟩
 ·exact ⟨_,e,rfl,rfl⟩
theorem qTL {tp : Bool} {a b : Addr} {xs ys : Array Value} {Q : Value → Shared → Prop} (ha : qCU tp s.heap a xs) (hb : qCU tp s.heap b ys)
  (h : ∀ h',IsZip h' (s.heap.objs.size + 4) (s.heap.objs.size + 2) (s.heap.objs.size + 3) .none → IsPair h' (s.heap.objs.size + 2) (.ref s.heap.objs.size) (.ref (s.heap.objs.size + 1)) →
   IsPair h' (s.heap.objs.size + 3) .none .none → qA7 tp h' s.heap.objs.size a 0 → qA7 tp h' (s.heap.objs.size + 1) b 0 → h'.objs.size = s.heap.objs.size + 5 → (∀ c o,s.heap.get? c = some o → h'.get? c = some o) → Q (.ref (s.heap.objs.size + 4)) { s with heap:=h' }) :
  wpAny (model prog w) A (call (.type "zip") [.ref a,.ref b]) Q E s:=by
 refine callType_new F.called_zip (by decide) (F.typeCall_zip_2 _ _) (F.newCall_zip_2 _ _) (fun obj => F.args_object_init_3 obj _ _) F.entry_zip_new (qWl tp a b xs ys) ⟨ha,hb,?_⟩
 have y1 : (zh1 tp s.heap a).objs.size = s.heap.objs.size + 1:=Heap.size_push ..
 have y2 : (zh2 tp tp s.heap a b).objs.size = s.heap.objs.size + 2:=by rw [Heap.size_push,y1]
 have y3 : (zh3 tp tp s.heap a b).objs.size = s.heap.objs.size + 3:=by rw [Heap.size_push,y2]
 have y4 : (zh4 tp tp s.heap a b).objs.size = s.heap.objs.size + 4:=by rw [Heap.size_push,y3]
 have y5 : (zh5 tp tp s.heap a b).objs.size = s.heap.objs.size + 5:=by rw [Heap.size_push,y4]
 have g5 : (zh5 tp tp s.heap a b).get? (zh4 tp tp s.heap a b).objs.size = some _:=Heap.get?_push_size _ rfl
 have g4 : (zh5 tp tp s.heap a b).get? (zh3 tp tp s.heap a b).objs.size = some _:=Heap.get?_push_of_some _ (Heap.get?_push_size _ rfl)
 have g3 : (zh5 tp tp s.heap a b).get? (zh2 tp tp s.heap a b).objs.size = some _:=Heap.get?_push_of_some _ (Heap.get?_push_of_some _ (Heap.get?_push_size _ rfl))
 have g2 : (zh5 tp tp s.heap a b).get? (zh1 tp s.heap a).objs.size = some (qFi tp b):=Heap.get?_push_of_some _ (Heap.get?_push_of_some _ (Heap.get?_push_of_some _ (Heap.get?_push_size _ rfl)))
 have g1 : (zh5 tp tp s.heap a b).get? s.heap.objs.size = some (qFi tp a):=Heap.get?_push_of_some _ (Heap.get?_push_of_some _ (Heap.get?_push_of_some _ (Heap.get?_push_of_some _ (Heap.get?_push_size _ rfl))))
 have kp : ∀ c o,s.heap.get? c = some o → (zh5 tp tp s.heap a b).get? c = some o:=fun c o e => Heap.get?_push_of_some _ (Heap.get?_push_of_some _ (Heap.get?_push_of_some _ (Heap.get?_push_of_some _ (Heap.get?_push_of_some _ e))))
 show _ ∧ _
 rw [y2,y3,y4] at g5
 rw [y1,y2] at g3
 rw [y3] at g4
 rw [y1] at g2
 rw [y4]
 exact ⟨⟨_,g5,rfl⟩,h _ g5 g3 g4 (qJP g1) (qJP g2) y5 kp⟩
end
end _D
end
section
namespace _D
open PySem PySem.Spec PyProof.Rows _L
noncomputable def Sq (tp : Bool) (K : PySem.W.Frag) (H : Hp) (a : Addr) (xs : List V) : Prop:=if tp then SqT K H a xs else SqL K H a xs
section
variable {X : Cx} {pins : List (Addr × Obj)} {σ : _L.St} {H : Hp} {s : Shared}
theorem Sq.at {tp : Bool} {a : Addr} {xs : List V} (I : Inv X pins σ H s) (q : Sq tp X.K H a xs) : ∃ its,qAZ xs its ∧ qCU tp s.heap a its.toArray:=by
 cases tp with
 | true =>
  obtain ⟨its,rv,p,_⟩:=I.tuple q
  exact ⟨its,rv,p⟩
 | false =>
  obtain ⟨its,rv,p,_⟩:=I.list q
  exact ⟨its,rv,p.isList⟩
theorem Sq.inj {tp : Bool} {a : Addr} {xs ys : List V} (I : Inv X pins σ H s) (q : Sq tp X.K H a xs) (q' : Sq tp X.K H a ys) : xs = ys:=by
 cases tp with
 | true => exact I.tuple_inj q q'
 | false => exact I.list_inj q q'
theorem Sq.off {tp : Bool} {a b : Addr} {xs : List V} (I : Inv X pins σ H s) (q : Sq tp X.K H a xs) (f : qB4 X pins H b) : a ≠ b:=by
 have key : H a ≠ none ∨ ∃ o,X.K.lookup a = some o:=by
  cases tp with
  | true =>
   rcases q with (q | ⟨o,q⟩) | ⟨o,_,_,q,_⟩
   ·exact .inl (by rw [q]; intro z; cases z)
   ·exact .inl (by rw [q]; intro z; cases z)
   ·exact .inr ⟨_,q⟩
  | false =>
   rcases q with (q | ⟨o,q⟩) | ⟨o,_,_,q,_⟩
   ·exact .inl (by rw [q]; intro z; cases z)
   ·exact .inl (by rw [q]; intro z; cases z)
   ·exact .inr ⟨_,q⟩
 rintro rfl
 rcases key with k | ⟨o,k⟩
 ·exact k f.1
 ·have e:=I.mod.kin a o k
  rcases f.2.2.2.1 with z | z
  ·exact I.ok.noex a o e z
  ·exact absurd (Heap.lt_size (I.ok.bs a o e).1) (Nat.not_lt.mpr z)
theorem Inv.turnLay {fp : List Addr} {h' : Heap} {T : Addr} {xs : List V} {its : List Value} (I : Inv X pins σ H s) (hf : ∀ b ∈ fp,qB4 X pins H b) (k : ∀ b o,b ∉ fp → s.heap.get? b = some o → h'.get? b = some o) (th : ∀ b ∈ fp,∃ o,h'.get? b = some o)
  (hT : s.heap.objs.size ≤ T) (rv : qAZ xs its) (hx : IsTup h' T its.toArray) (hz : xs.length ≤ sizeLine) : Inv X pins σ (upd H T (.tup xs)) { s with heap:=h' }:=by
 have hn : H T = none:=I.hok.fresh hT
 have ne : ∀ b o,s.heap.get? b = some o → b ≠ T:=fun b o e => Nat.ne_of_lt (Nat.lt_of_lt_of_le (Heap.lt_size e) hT)
 refine I.step (g':=s.gens) (d':=s.drawn) (t':=s.toks) (ch:=fp) (fun b hb => ⟨(hf b hb).2.2.2.1,(hf b hb).2.1,(hf b hb).2.2.2.2.1,(hf b hb).2.2.2.2.2⟩) (fun b o _ _ hc e _ => k b o hc e) (fun b o _ _ hc e _ => ⟨o.slots,k b o hc e⟩)
  (fun b o _ e n => by rw [qAb (ne b o e)]; exact n) (fun b o hc e => ⟨o,k b o hc e⟩) (fun b ys e => by rw [qAb (qAv e hn)]; exact e) (fun b o u e => by rw [qAb (qAv e hn)]; exact e)
  (fun b ps e => ⟨#[],by rw [qAb (qAv e hn),e]; simp⟩) (fun m hm => ?_) (fun b u e => ?_) I.bare
 ·obtain ⟨o,es,ep,ho,r⟩:=hm
  exact ⟨o,es,ep,k _ o (fun z => (hf _ z).2.1 rfl) ho,r⟩
 ·by_cases hb : b = T
  ·subst hb
   rw [qAz] at e; cases e
   exact ⟨hz,its,rv,hx⟩
  ·rw [qAb hb] at e
   refine (I.hok b u e).stay (fun c v hc q => k c v (fun z => ?_) q) (fun c q => by rw [qAb (qAv q hn)]; exact q) fun c ys q => by rw [qAb (qAv q hn)]; exact q
   have hcn:=(hf c z).1
   rcases hc with rfl | hc
   ·rw [hcn] at e; cases e
   ·rw [hcn] at hc; cases hc
theorem Inv.turnL {fp : List Addr} {h' : Heap} (I : Inv X pins σ H s) (hf : ∀ b ∈ fp,qB4 X pins H b) (k : ∀ b o,b ∉ fp → s.heap.get? b = some o → h'.get? b = some o) : Inv X pins σ H { s with heap:=h' }:=by
 refine I.step (g':=s.gens) (d':=s.drawn) (t':=s.toks) (ch:=fp) (fun b hb => ⟨(hf b hb).2.2.2.1,(hf b hb).2.1,(hf b hb).2.2.2.2.1,(hf b hb).2.2.2.2.2⟩) (fun b o _ _ hc e _ => k b o hc e) (fun b o _ _ hc e _ => ⟨o.slots,k b o hc e⟩)
  (fun b o _ e n => n) (fun b o hc e => ⟨o,k b o hc e⟩) (fun b ys e => e) (fun b o u e => e) (fun b ps e => ⟨#[],by rw [e]; simp⟩) (fun m hm => ?_) (fun b u e => ?_) I.bare
 ·obtain ⟨o,es,ep,ho,r⟩:=hm
  exact ⟨o,es,ep,k _ o (fun z => (hf _ z).2.1 rfl) ho,r⟩
 ·refine (I.hok b u e).stay (fun c v hc q => k c v (fun z => ?_) q) (fun c q => q) fun c ys q => q
  have hcn:=(hf c z).1
  rcases hc with rfl | hc
  ·rw [hcn] at e; cases e
  ·rw [hcn] at hc; cases hc
end
noncomputable def Itz (tp : Bool) (K : PySem.W.Frag) (a b : Addr) : It :=
  ⟨fun i H => ∃ xs ys x y,Sq tp K H a xs ∧ Sq tp K H b ys ∧ xs[i]? = some x ∧ ys[i]? = some y,
   fun i H v H' => ∃ T x y,v = .ref T ∧ H T = none ∧ H' = upd H T (.tup [x,y]) ∧ (∀ xs,Sq tp K H a xs → xs[i]? = some x) ∧ ∀ ys,Sq tp K H b ys → ys[i]? = some y,
   fun i H => ∃ xs ys,Sq tp K H a xs ∧ Sq tp K H b ys ∧ (xs.length ≤ i ∨ ys.length ≤ i)⟩
noncomputable def qRA (tp : Bool) (z I O i j a b : Addr) (k : Nat) (h : Heap) : Prop:=∃ p q,IsZip h z I O .none ∧ IsPair h I (.ref i) (.ref j) ∧ IsPair h O p q ∧ qA7 tp h i a k ∧ qA7 tp h j b k
theorem qKU {tp : Bool} {z I O i j a b : Addr} {k : Nat} {h : Heap} (st : qRA tp z I O i j a b k h) : ∀ c ∈ [z,I,O,i,j],∃ o,h.get? c = some o ∧ ∀ v,o.data ≠ .cell v:=fun c hc => by
 obtain ⟨p,q,s1,s2,s3,s4,s5⟩:=st
 simp only [List.mem_cons,List.not_mem_nil,or_false] at hc
 rcases hc with rfl | rfl | rfl | rfl | rfl
 ·exact ⟨_,s1,fun v y => by cases y⟩
 ·exact ⟨_,s2,fun v y => by cases y⟩
 ·exact ⟨_,s3,fun v y => by cases y⟩
 ·exact s4.there
 ·exact s5.there
theorem qUt {c z I O i j : Addr} (h : c ∉ [z,I,O,i,j]) : c ≠ z ∧ c ≠ O ∧ c ≠ i ∧ c ≠ j:=by
 simp only [List.mem_cons,List.not_mem_nil,or_false,not_or] at h
 exact ⟨h.1,h.2.2.1,h.2.2.2.1,h.2.2.2.2⟩
theorem qUW {P : Program} {w : World} {K : PySem.W.Frag} {elts : List Expr} {x1 : Nat} {tpos : Pos} {tp : Bool} {z I O i j a b : Addr} (D : ZA z I O i j) : Turn P w K (.Tuple elts x1 tpos) (Itz tp K a b) [z,I,O,i,j] z (qRA tp z I O i j a b) where
 mem:=.head _
 obj:=fun k h st => qKU st
 keep:=fun k h h' st kp => by
  obtain ⟨p,q,s1,s2,s3,s4,s5⟩:=st
  exact ⟨p,q,kp z (.head _) _ s1,kp I (.tail _ (.head _)) _ s2,kp O (.tail _ (.tail _ (.head _))) _ s3,s4.keep fun o e => kp i (.tail _ (.tail _ (.tail _ (.head _)))) o e,s5.keep fun o e => kp j (.tail _ (.tail _ (.tail _ (.tail _ (.head _))))) o e⟩
 item:=by
  intro X hP hw hK hc k pins s σ H E Iv hf st hg
  subst hP hw hK
  obtain ⟨p,q,s1,s2,s3,s4,s5⟩:=st
  obtain ⟨xs,ys,x,y,qa,qb,hx,hy⟩:=hg
  obtain ⟨ia,ra,ha⟩:=qa.at Iv
  obtain ⟨ib,rb,hb⟩:=qb.at Iv
  obtain ⟨u,hu,ru⟩:=ra.get hx
  obtain ⟨u',hu',ru'⟩:=rb.get hy
  have off : ∀ {c : Addr} {zs : List V},Sq tp X.K H c zs → Off z O i j c:=fun {c zs} qc => ⟨qc.off Iv (hf z (.head _)),qc.off Iv (hf O (.tail _ (.tail _ (.head _)))),qc.off Iv (hf i (.tail _ (.tail _ (.tail _ (.head _))))),qc.off Iv (hf j (.tail _ (.tail _ (.tail _ (.tail _ (.head _))))))⟩
  have hT : s.TypeIs (.ref z) "zip":=⟨_,s1,rfl⟩
  unfold pyNext
  refine wpAny_bind (wpAny_attempt (wpAny_callSpecial?_slot (name:=Str.ofString "__next__") hT F.slot_zip_next (wpAny_call_entry F.slot_zip_next hT F.entry_zip_next
   (qUc D (off qa) (off qb) s1 s2 s3 s4 s5 ha hb (by simpa using hu) (by simpa using hu') fun h' a1 a2 a3 a4 a5 a6 a7 => wpAny_pure ?_) (F.args_zip_next_1 _))))
  refine ⟨_,rfl,wpAny_letOwnedTupleGo_zip (s:={ s with heap:=h' }) a1 fun h2 b1 b2 => ?_⟩
  have up : ∀ c o,c ≠ z → h'.get? c = some o → h2.get? c = some o:=fun c o n e => (b2.2 c n).trans e
  have zl : z < s.heap.objs.size:=Heap.lt_size s1
  have T2 : IsPair h2 s.heap.objs.size u u':=up _ _ (Nat.ne_of_gt zl) a5
  have st2 : qRA tp z I O i j a b (k + 1) h2:=⟨u,u',b1,up _ _ D.Iz (a7 I _ D.Iz D.IO D.Ii D.Ij s2),up _ _ D.Oz a2,a3.keep fun o e => up _ o D.iz e,a4.keep fun o e => up _ o D.jz e⟩
  refine ⟨.ref s.heap.objs.size,upd H s.heap.objs.size (.tup [x,y]),?_,rfl,⟨_,x,y,rfl,Iv.hok.fresh (Nat.le_refl _),rfl,fun zs qz => by rw [qz.inj Iv qa]; exact hx,fun zs qz => by rw [qz.inj Iv qb]; exact hy⟩,st2,fun c hc => ?_⟩
  ·show _L.Inv X pins σ (upd H s.heap.objs.size (.tup [x,y])) { s with heap:=h2 }
   refine Inv.turnLay (fp:=[z,I,O,i,j]) (its:=[u,u']) Iv hf (fun c o hc e => ?_) (fun c hc => ?_) (Nat.le_refl _) (.cons ru (.cons ru' .nil)) ⟨_,T2,rfl,_,rfl⟩ (by show 2 ≤ sizeLine; decide)
   ·have hc:=qUt hc
    exact up c o hc.1 (a7 c o hc.1 hc.2.1 hc.2.2.1 hc.2.2.2 e)
   ·obtain ⟨o,e,_⟩:=qKU st2 c hc
    exact ⟨o,e⟩
  ·have hn:=(hf c hc).1
   rw [qAb ?_]
   ·exact hn
   ·rintro rfl
    obtain ⟨o,e,_⟩:=qKU ⟨p,q,s1,s2,s3,s4,s5⟩ _ hc
    exact absurd (Heap.lt_size e) (Nat.lt_irrefl _)
 done:=by
  intro X hP hw hK hc k pins s σ H E Iv hf st hg
  subst hP hw hK
  obtain ⟨p,q,s1,s2,s3,s4,s5⟩:=st
  obtain ⟨xs,ys,qa,qb,hend⟩:=hg
  obtain ⟨ia,ra,ha⟩:=qa.at Iv
  obtain ⟨ib,rb,hb⟩:=qb.at Iv
  have off : ∀ {c : Addr} {zs : List V},Sq tp X.K H c zs → Off z O i j c:=fun {c zs} qc => ⟨qc.off Iv (hf z (.head _)),qc.off Iv (hf O (.tail _ (.tail _ (.head _)))),qc.off Iv (hf i (.tail _ (.tail _ (.tail _ (.head _))))),qc.off Iv (hf j (.tail _ (.tail _ (.tail _ (.tail _ (.head _))))))⟩
  have hT : s.TypeIs (.ref z) "zip":=⟨_,s1,rfl⟩
  have l1:=ra.length
  have l2:=rb.length
  unfold pyNext
  refine wpAny_bind (wpAny_attempt (wpAny_callSpecial?_slot (name:=Str.ofString "__next__") hT F.slot_zip_next (wpAny_call_entry F.slot_zip_next hT F.entry_zip_next
   (qUd (Iv.ok.hd hc) D (off qa) (off qb) s1 s2 s3 s4 s5 ha hb ?_ fun h' e kp he => ?_) (F.args_zip_next_1 _))))
  ·rcases hend with y | y
   ·exact .inl (by simp; omega)
   ·exact .inr (by simp; omega)
  ·obtain ⟨o,ho,hcl⟩:=he
   refine wpAny_bind (wpAny_isInstance (T:="StopIteration") (b:=true) ⟨o,ho,hcl⟩ isSubtype_stop (wpAny_pure ⟨rfl,Inv.turnL (fp:=[z,I,O,i,j]) Iv hf fun c o hc e => ?_⟩))
   have hc:=qUt hc
   exact kp c o hc.1 hc.2.1 hc.2.2.1 hc.2.2.2 e
 self:=fun _ _ _ _ _ st h => by
  obtain ⟨p,q,s1,_⟩:=st
  exact wpAny_pyIter_zip s1 h
end _D
end
section
namespace _D
open PySem PySem.Spec PyProof.Rows _L
noncomputable def qEj (xs ys : List D) : List D:=List.zipWith (fun x y => D.tup [x,y]) xs ys
noncomputable def qRd (ds : List D) : Option (List D):=match ds with
 | [.tup xs,.tup ys] => some (qEj xs ys)
 | [.lst xs,.lst ys] => some (qEj xs ys)
 | _ => none
noncomputable def qO5 (f : DA) : DI:=fun env S => (f env S).bind fun ds S1 => qDn (qRd ds) S1
theorem qUb {xs ys : List D} {i : Nat} : (qEj xs ys)[i]? = match xs[i]?,ys[i]? with | some x,some y => some (D.tup [x,y]) | _,_ => none:=by
 unfold qEj
 rw [List.getElem?_zipWith]
 cases xs[i]? <;> cases ys[i]? <;> rfl
theorem qLi (xs ys : List D) : (qEj xs ys).length = min xs.length ys.length:=by simp [qEj]
section
variable {K : PySem.W.Frag}
theorem Sq.mono {tp : Bool} {P P' : Hp} (e : qAK P P') {a : Addr} {xs : List V} (q : Sq tp K P a xs) : Sq tp K P' a xs:=by
 cases tp with
 | true => exact qEi e q
 | false => exact e.seq q
theorem qVt {tp : Bool} {P : Hp} {α : List Addr} {a b : Addr} {xs ys : List D} {vs ws : List V} (qa : Sq tp K P a vs) (qb : Sq tp K P b ws) (ta : qAL K P α xs vs) (tb : qAL K P α ys ws) : ItD K (Itz tp K a b) P α (qEj xs ys) where
 go:=fun i H P1 α1 S hi r e _ => by
  rw [qLi] at hi
  have h1 : i < vs.length:=by rw [← ta.length]; omega
  have h2 : i < ws.length:=by rw [← tb.length]; omega
  exact ⟨vs,ws,vs[i],ws[i],qa.mono (e.trans r.sub),qb.mono (e.trans r.sub),by simp,by simp⟩
 yld:=fun i H x H' P1 α1 S hi r e e2 y => by
  obtain ⟨T,u,w,rfl,hT,rfl,hu,hw⟩:=y
  rw [qLi] at hi
  have h1 : i < xs.length:=by omega
  have h2 : i < ys.length:=by omega
  obtain ⟨v1,z1,p1⟩:=ta.get (List.getElem?_eq_getElem h1)
  obtain ⟨v2,z2,p2⟩:=tb.get (List.getElem?_eq_getElem h2)
  have eu:=hu vs (qa.mono (e.trans r.sub))
  have ew:=hw ws (qb.mono (e.trans r.sub))
  rw [z1] at eu; cases eu
  rw [z2] at ew; cases ew
  obtain ⟨r1,s1⟩:=r.pure (o:=.tup [u,w]) hT
  refine ⟨_,.tup [xs[i],ys[i]],?_,r1,s1,?_⟩
  ·rw [qUb,List.getElem?_eq_getElem h1,List.getElem?_eq_getElem h2]
  ·exact qNU (.of qAz) (.cons (Rep.mono (e.trans s1) e2 _ _ p1) (.cons (Rep.mono (e.trans s1) e2 _ _ p2) .nil))
 stop:=fun i H P1 α1 S hi r e _ => by
  rw [qLi] at hi
  have l1:=ta.length
  have l2:=tb.length
  exact ⟨vs,ws,qa.mono (e.trans r.sub),qb.mono (e.trans r.sub),by omega⟩
end
section
variable {X : Cx} {e1 e2 : Expr} {elts : List Expr} {x1 : Nat} {tpos : Pos} {f : DA} {p pos : Pos}
theorem qTB {tp : Bool} {pins : List (Addr × Obj)} {σ : _L.St} {H P : Hp} {α : List Addr} {S : Sto} {s : Shared} {a b : Addr} {xs ys : List D} {vs ws : List V} {R : It → Hp → Prop} (I : Inv X pins σ H s) (r : Rel X.K H P α S) (qa : Sq tp X.K P a vs) (qb : Sq tp X.K P b ws) (ta : qAL X.K P α xs vs) (tb : qAL X.K P α ys ws)
  (q : OkI X P α R (qEj xs ys) S) : wpAny (model X.prog X.w) X.A (call (.type "zip") [.ref a,.ref b]) (fun v s1 => wpAny (model X.prog X.w) X.A (pyIter v) (PIE X pins σ (.Tuple elts x1 tpos) R) X.xe s1) X.xe s:=by
 obtain ⟨ia,ra,ha⟩:=(qa.mono r.sub).at I
 obtain ⟨ib,rb,hb⟩:=(qb.mono r.sub).at I
 refine qTL ha hb fun h' z1 z2 z3 z4 z5 z6 z7 => ?_
 refine wpAny_pyIter_zip (s:={ s with heap:=h' }) z1 ?_
 have D : ZA (s.heap.objs.size + 4) (s.heap.objs.size + 2) (s.heap.objs.size + 3) s.heap.objs.size (s.heap.objs.size + 1):=by constructor <;> (intro z; simp at z)
 refine ⟨_,[s.heap.objs.size + 4,s.heap.objs.size + 2,s.heap.objs.size + 3,s.heap.objs.size,s.heap.objs.size + 1],_,_,H,rfl,I.kept (t':=s.toks) z7,qUW (a:=a) (b:=b) D,⟨_,_,z1,z2,z3,z4,z5⟩,fun c hc => ?_,q _ _ P α r (qAK.refl _) (List.prefix_refl _) (qVt qa qb ta tb)⟩
 have hl : s.heap.objs.size ≤ c:=by
  simp only [List.mem_cons,List.not_mem_nil,or_false] at hc
  rcases hc with rfl | rfl | rfl | rfl | rfl <;> simp
 exact I.fpOk hl (I.hok.fresh hl)
inductive ZipV (ds : List D) (its : List D) : Prop
 | tup (xs ys : List D) (ed : ds = [.tup xs,.tup ys]) (e : its = qEj xs ys)
 | lst (xs ys : List D) (ed : ds = [.lst xs,.lst ys]) (e : its = qEj xs ys)
theorem qWk {ds its : List D} (h : qRd ds = some its) : ZipV ds its:=by
 cases ds with
 | nil => exact nn h
 | cons a ds =>
  cases a with
  | tup xs =>
   cases ds with
   | nil => exact nn h
   | cons b ds =>
    cases b with
    | tup ys =>
     cases ds with
     | nil => exact .tup xs ys rfl (Option.some.inj h).symm
     | cons _ _ => exact nn h
    | _ => exact nn h
  | lst xs =>
   cases ds with
   | nil => exact nn h
   | cons b ds =>
    cases b with
    | lst ys =>
     cases ds with
     | nil => exact .lst xs ys rfl (Option.some.inj h).symm
     | cons _ _ => exact nn h
    | _ => exact nn h
  | _ => exact nn h
theorem qXO (hg : Gl X "zip") (hm : X.mg "zip" = none) (ha : PA X [e1,e2] (tDA X f)) (hs : autoParam (starEach [e1,e2] X.env = (false,eval e1 X.env) :: starEach [e2] X.env) au3._auto_1) (hpl : autoParam ((backTo pos (starEach [e2] X.env)).any (·.1) = false) au3._auto_1) :
  PI X (.Tuple elts x1 tpos) (.Call (.Name "zip" p) [e1,e2] [] pos) (tDI X (qO5 f)):=by
 intro pins s σ H R I h
 obtain ⟨P,α,env,S,r,re,af⟩:=h
 refine Call_ (qF0 I hg hm boot_zip (PyProof.Rows.callWith_type1 (thn (qDL ha I r re af pos) fun us s1 ⟨vs,H1,P1,α1,ds,S1,I1,rv,r1,re1,rp,e1,e2,af1⟩ => ?_) hs hpl))
 obtain ⟨its,hi,q⟩:=qFW af1
 cases qWk hi with
 | tup xs ys ed e =>
  subst ed e
  obtain ⟨v,w,u,x,rfl,rfl,p1,p2,q1,q2⟩:=qKi rp rv
  simp only [Rep] at p1 p2
  obtain ⟨a,va,rfl,qa,ta⟩:=p1
  obtain ⟨b,vb,rfl,qb,tb⟩:=p2
  cases (show u = Value.ref a from q1)
  cases (show x = Value.ref b from q2)
  exact qTB (tp:=true) I1 r1 qa qb ta tb (q.base e1 e2)
 | lst xs ys ed e =>
  subst ed e
  obtain ⟨v,w,u,x,rfl,rfl,p1,p2,q1,q2⟩:=qKi rp rv
  simp only [Rep] at p1 p2
  obtain ⟨a,va,rfl,qa,ta⟩:=p1
  obtain ⟨b,vb,rfl,qb,tb⟩:=p2
  cases (show u = Value.ref a from q1)
  cases (show x = Value.ref b from q2)
  exact qTB (tp:=false) I1 r1 qa.l qb.l ta tb (q.base e1 e2)
end
end _D
end
section
namespace _D
open PySem PySem.Spec PyProof.Rows _L
noncomputable def Src (K : PySem.W.Frag) (mg : Str → Option Value) (x : Str) (st : Stmt) (ps : List Str) : Prop:=∃ f fd,mg x = some (.ref f) ∧ Fun K x x st f fd ∧ qEt K fd ps []
noncomputable def Lk (K : PySem.W.Frag) (f : Addr) (fd : FuncData) : Prop:=∃ oc od osl,K.lookup f = some ⟨oc,od,.func fd,osl⟩
theorem qOY {K : PySem.W.Frag} {x q : Str} {st : Stmt} {f : Addr} {fd : FuncData} (F : Fun K x q st f fd) : Lk K f fd:=by
 obtain ⟨oc,od,kV,doc,pm,an,cdv,ct,osl,_,lk,_⟩:=F.ex
 exact ⟨oc,od,osl,lk⟩
theorem Lk.one {K : PySem.W.Frag} {f : Addr} {fd fd' : FuncData} (h : Lk K f fd) (h' : Lk K f fd') : fd = fd':=by
 obtain ⟨oc,od,osl,e⟩:=h
 obtain ⟨oc',od',osl',e'⟩:=h'
 rw [e] at e'
 cases e'
 rfl
noncomputable def Def (P : Program) (w : World) (K : PySem.W.Frag) (mg : Str → Option Value) (base : Heap) (cm : Bool) (k : Nat) (x : Str) (n : Nat) (F : DF) : Prop :=
 ∃ f fd ps,ps.length = n ∧ mg x = some (.ref f) ∧ PySem.W.keepIn K (.ref f) = true ∧ qEt K fd ps [] ∧ Lk K f fd ∧ FnX P w K mg base cm k f fd ps (spD K n F)
noncomputable def qOg (P : Program) (w : World) (K : PySem.W.Frag) (mg : Str → Option Value) (base : Heap) (cm : Bool) (k : Nat) (x : Str) (ps : List Str) (F : DF) : Prop :=
 ∃ f fd,mg x = some (.ref f) ∧ PySem.W.keepIn K (.ref f) = true ∧ qEt K fd ps [] ∧ Lk K f fd ∧ FnX P w K mg base cm k f fd ps (spD K ps.length F)
section
variable {P : Program} {w : World} {K : PySem.W.Frag} {mg : Str → Option Value} {base : Heap} {cm : Bool}
theorem qXK {x : Str} {st : Stmt} {N ps : List Str} {k : Nat} {g : DS} (h : Src K mg x st ps) (S : FnScope N ps (qAB st))
  (hbody : ∀ (f : Addr) (cdv : Value) (A : Around) (outer : List Env) (s : Shared) (H : Hp) (E : XK),RoomC cm k (A.deeper (envOfC x (qAB st) s.heap.objs.size f cdv)) →
   PSs (cxC cm P w K mg base N x (qAB st) f cdv A outer s H E) (qAN st) (tDS (cxC cm P w K mg base N x (qAB st) f cdv A outer s H E) g)) : Def P w K mg base cm (k + 1) x ps.length (qAT N.length g):=by
 obtain ⟨f,fd,hm,F,hb⟩:=h
 exact ⟨f,fd,ps,rfl,hm,F.kp,hb,qOY F,fnX F S fun cdv A outer s H E hr => hbody f cdv A outer s H E hr⟩
theorem qVO {x : Str} {st : Stmt} {N ps : List Str} {k : Nat} {g : DS} (h : Src K mg x st ps) (S : FnScope N ps (qAB st))
  (hbody : ∀ (f : Addr) (cdv : Value) (A : Around) (outer : List Env) (s : Shared) (H : Hp) (E : XK),RoomC cm k (A.deeper (envOfC x (qAB st) s.heap.objs.size f cdv)) →
   PSs (cxC cm P w K mg base N x (qAB st) f cdv A outer s H E) (qAN st) (tDS (cxC cm P w K mg base N x (qAB st) f cdv A outer s H E) g)) : qOg P w K mg base cm (k + 1) x ps (qAT N.length g):=by
 obtain ⟨f,fd,hm,F,hb⟩:=h
 exact ⟨f,fd,hm,F.kp,hb,qOY F,fnX F S fun cdv A outer s H E hr => hbody f cdv A outer s H E hr⟩
theorem Def.mono {x : Str} {j k n : Nat} {F : DF} (h : Def P w K mg base cm j x n F) (hk : autoParam (j ≤ k) au2._auto_1) : Def P w K mg base cm k x n F:=by
 obtain ⟨f,fd,ps,hn,hm,kp,hb,hl,X⟩:=h
 exact ⟨f,fd,ps,hn,hm,kp,hb,hl,X.len,fun A outer s H args us vs Q E hr => X.run A outer s H args us vs Q E (hr.mono hk)⟩
end
section
variable {X : Cx} {cm : Bool} {k n : Nat} {F : DF} {x : Str} {p pos : Pos} {e : Expr} {es : List Expr} {fa : DA}
theorem dcN (G : Def X.prog X.w X.K X.mg X.base cm k x n F) (hr : RoomC cm k X.A) (hF : Fn1 X) (hg : Gl X x) (ha : PA X (e :: es) (tDA X fa)) (hdb : autoParam ((x == ("__debug__" : Str)) = false) au2._auto_1) (he : autoParam (starEach (e :: es) X.env = (false,eval e X.env) :: starEach es X.env) au3._auto_1) (hpl : autoParam ((backTo pos (starEach es X.env)).any (·.1) = false) au3._auto_1) :
  PE X (.Call (.Name x p) (e :: es) [] pos) (tD X (qAO n F fa)):=by
 obtain ⟨f,fd,ps,hn,hm,kp,hb,hl,G⟩:=G
 exact qVK G hr hF hg hm kp hb ha hdb he hpl
theorem dcL (G : Def X.prog X.w X.K X.mg X.base cm k x n F) (hr : RoomC cm k X.A) (hF : Fn1 X) (hg : Gl X x) (ha : PA X (e :: es) (tDA X fa)) (hdb : autoParam ((x == ("__debug__" : Str)) = false) au2._auto_1) (he : autoParam (starEach (e :: es) X.env = (false,eval e X.env) :: starEach es X.env) au3._auto_1) (hpl : autoParam ((backTo pos (starEach es X.env)).any (·.1) = false) au3._auto_1) :
  PE X (.Call (.Name x p) (e :: es) [] pos) (tD X (qAO n (qET F) fa)):=by
 obtain ⟨f,fd,ps,hn,hm,kp,hb,hl,G⟩:=G
 exact qTa G hr hF hg hm kp hb ha hdb he hpl
theorem qR3 {C : Addr} (hg : Gl X x) (hm : X.mg x = some (.ref C)) (hk : PySem.W.keepIn X.K (.ref C) = true) (hd : autoParam ((x == ("__debug__" : Str)) = false) au2._auto_1) : PE X (.Name x pos) (tD X (dC (.obj C))) :=
 qQV hg hm (v:=.ref C) rfl (fun P α => by simp only [Rep]; exact ⟨trivial,hk⟩) hd
end
noncomputable def qA3 : DF:=fun ds S => match ds with
 | [.dct0] => .bad
 | _ => qPG ds S
theorem qVD {X : Cx} : qEN X (.builtin "len") qA3:=qW1 trivial
noncomputable def qJ9 : DE:=fun _ _ => .bad
theorem qW9 {X : Cx} {e : Expr} : PE X e (tD X qJ9):=fun _ _ _ _ _ _ ⟨_,_,_,_,_,_,h⟩ => False.elim h
theorem qUi : ∃ C : Int → Int → Bool,C = qOt:=⟨_,rfl⟩
noncomputable def qUh : Int → Int → Bool:=Classical.choose qUi
theorem qOu : qUh = qOt:=Classical.choose_spec qUi
noncomputable def qCY : G2:=i2 qUh fun i j => .int (i * j)
theorem qQr {X : Cx} : OpD X (binaryOp .Mult) qCY:=by
 unfold qCY
 rw [qOu]
 exact qV6
theorem hu1 {cm : Bool} {k : Nat} {A : Around} (hr : RoomC cm k A) : A.units + 1 < cLine:=by have:=hr.units; omega
theorem qOs : bootBuiltins "int" = some (.type "int"):=by decide +kernel
theorem qMm : bootBuiltins "bool" = some (.type "bool"):=by decide +kernel
theorem qI8 : bootBuiltins "tuple" = some (.type "tuple"):=by decide +kernel
theorem qMn : bootBuiltins "list" = some (.type "list"):=by decide +kernel
theorem qRn : bootBuiltins "str" = some (.type "str"):=by decide +kernel
theorem qOD : bootBuiltins "ValueError" = some (.type "ValueError"):=by decide +kernel
theorem qAU : bootBuiltins "isinstance" = some (.builtin "isinstance"):=by decide +kernel
theorem qDK : bootBuiltins "len" = some (.builtin "len"):=by decide +kernel
theorem qWu : bootBuiltins "all" = some (.builtin "all"):=by decide +kernel
end _D
end
section
namespace _D
open PySem PySem.Spec PyProof.Rows _L
structure QE (X : Cx) (e : Expr) (f : DE) : Prop where
 get : PE X e (tD X f)
structure QT (X : Cx) (e : Expr) (t : DT) : Prop where
 get : PT X e (tDT X t)
structure QW (X : Cx) (e : Expr) (t : DT) : Prop where
 get : PWD X e t
structure QA (X : Cx) (es : List Expr) (f : DA) : Prop where
 get : PA X es (tDA X f)
structure QO (X : Cx) (e : Option Expr) (f : DO) : Prop where
 get : PO X e (tDO X f)
structure QG (X : Cx) (t : Expr) (g : DG) : Prop where
 get : PG X t (tDG X g)
structure QGs (X : Cx) (ts : List Expr) (g : DGs) : Prop where
 get : PGs X ts (qP3 X g)
structure QI (X : Cx) (tg it : Expr) (f : DI) : Prop where
 get : PI X tg it (tDI X f)
structure QS (X : Cx) (s : Stmt) (f : DS) : Prop where
 get : PS X s (tDS X f)
structure QB (X : Cx) (ss : List Stmt) (f : DS) : Prop where
 get : PSs X ss (tDS X f)
structure QJ (X : Cx) (es : List Expr) (fs : List DE) : Prop where
 get : PJ X es fs
structure ZOp (X : Cx) (f : Value → Value → Sem Value) (g : G2) : Prop where
 get : OpD X f g
structure ZUn (X : Cx) (f : Value → Sem Value) (g : D → Sto → Res D) : Prop where
 get : UnD X f g
structure ZIx (X : Cx) (g : G2) : Prop where
 get : IxD X g
structure ZCall (X : Cx) (f : Value) (F : DF) : Prop where
 get : qEN X f F
structure ZMt (X : Cx) (id : String) (g : D → List D → Sto → Res D) : Prop where
 get : MtD X id g
structure ZIp (X : Cx) (op : Operator) (g : G2) : Prop where
 get : IpD X op g
structure ZSet (X : Cx) (g : G3) : Prop where
 get : qOh X (qOe X g)
structure ZPass (X : Cx) : Prop where
 get : PassesOwn (model X.prog X.w) X.A X.env X.xe
section
variable {X : Cx} {a b c e e1 e2 o i : Expr} {es rest : List Expr} {fa fb fc fe fo fi : DE} {ta tb : DT} {fA : DA} {f g : DS} {st : Stmt} {sts : List Stmt} {x : Str} {p pos : Pos} {n k : Nat} {cm : Bool} {F : DF} {G2' : G2}
theorem qPj {j} : QE X (.Constant .none j pos) (dC .non):=⟨qXE⟩
theorem qD0 {v j} : QE X (.Constant (.bool v) j pos) (dC (.bl v)):=⟨qZF⟩
theorem qAJ {v j} : QE X (.Constant (.int v) j pos) (dC (.int v)):=⟨qXD⟩
theorem qBz {v j} : QE X (.Constant (.str v) j pos) (dC (.str v)):=⟨qXH⟩
theorem qAE (m : Nat) (hN : X.N[m]? = some x) (hv : Vis X.env.scope x) (hd : (x == ("__debug__" : Str)) = false) (hcd : (x == ("__classdict__" : Str)) = false) : QE X (.Name x pos) (qAD m):=⟨dv m hN hv hd hcd⟩
theorem qB0 {nm : String} (hg : Gl X x) (hm : X.mg x = none) (hv : bootBuiltins x = some (.type nm)) (hn : x ≠ "__name__") (hd : (x == ("__debug__" : Str)) = false) : QE X (.Name x pos) (dC (.ty nm)):=⟨qVJ hg hm hv hn hd⟩
theorem qCx {C : Addr} (hg : Gl X x) (hm : X.mg x = some (.ref C)) (hk : PySem.W.keepIn X.K (.ref C) = true) (hd : (x == ("__debug__" : Str)) = false) : QE X (.Name x pos) (dC (.obj C)):=⟨qR3 hg hm hk hd⟩
theorem qKf {v : Int} (hg : Gl X x) (hm : ∃ t,X.mg x = some (.int v t)) (hd : (x == ("__debug__" : Str)) = false) : QE X (.Name x pos) (dC (.int v)):=⟨let ⟨_,h⟩:=hm; qQV (v:=.int v) hg h ⟨_,rfl⟩ (fun _ _ => by simp only [Rep]) hd⟩
theorem qIx : QE X e qJ9:=⟨qW9⟩
theorem qUx {op : UnaryOp} {h : D → Sto → Res D} (ho : ZUn X (unaryOp op) h) (ha : QE X a fa) : QE X (.UnaryOp op a pos) (d1 h fa):=⟨qZI ho.1 ha.1⟩
theorem qYk (ha : QE X a fa) : QE X (.UnaryOp .Not a pos) (qTV fa):=⟨qXF ha.1⟩
theorem qAd {op : Operator} (ho : ZOp X (binaryOp op) G2') (ha : QE X a fa) (hb : QE X b fb) : QE X (.BinOp a op b pos) (d2 G2' fa fb):=⟨qZH ho.1 ha.1 hb.1⟩
theorem qIy {op : CmpOp} (ho : ZOp X (compareOp op) G2') (ha : QE X a fa) (hb : QE X b fb) (hm : autoParam (behindInMarks op b = false) au5._auto_1) : QE X (.Compare a [op] [b] pos) (d2 G2' fa fb):=⟨qXA ho.1 ha.1 hb.1 hm⟩
theorem qUI {op op' : CmpOp} {g' : G2} (ho : ZOp X (compareOp op) G2') (ho' : ZOp X (compareOp op') g') (ha : QE X a fa) (hb : QE X b fb) (hc : QE X c fc) (hm : autoParam (lastMarks [op,op'] [b,c] = false) au7._auto_1) : QE X (.Compare a [op,op'] [b,c] pos) (qO4 G2' g' fa fb fc):=⟨qTb ho.1 ho'.1 ha.1 hb.1 hc.1 hm⟩
theorem qMP {op} (h : QE X a fa) : QE X (.BoolOp op [a] pos) fa:=⟨qXG h.1⟩
theorem qKO (ha : QE X a fa) (hb : QE X (.BoolOp .And (b :: rest) pos) fb) : QE X (.BoolOp .And (a :: b :: rest) pos) (qIE fa fb):=⟨qW8 ha.1 hb.1⟩
theorem qA9 {x1} (h : QA X es fA) : QE X (.Tuple es x1 pos) (qAu fA):=⟨qXJ h.1⟩
theorem qBa (h : QA X es fA) : QE X (.List es pos) (qBK fA):=⟨qR5 h.1⟩
theorem qKg (h : QA X es fA) : QE X (.List es pos) (qKY fA):=⟨qVM h.1⟩
theorem qYj : QE X (.Dict [] [] pos) qTU:=⟨qXB⟩
theorem qBb (ho : ZIx X G2') (ha : QE X a fa) (hb : QE X b fb) (hs : autoParam (qIS b) au6._auto_1) : QE X (.Subscript a b pos) (d2 G2' fa fb):=⟨qUl ho.1 ha.1 hb.1 hs⟩
theorem qLc {lo hi : Option Expr} {fl fh : DO} {p2 : Pos} (he : QE X e fe) (hl : QO X lo fl) (hu : QO X hi fh) : QE X (.Subscript e (.Slice lo hi none p2) pos) (dSl fe fl fh):=⟨qTd he.1 hl.1 hu.1⟩
theorem qQw : QO X none qIg:=⟨qVU⟩
theorem qKh (he : QE X e fe) : QO X (some e) (qDe fe):=⟨qVV he.1⟩
theorem qSq (he : QE X e fe) : QE X (.FormattedValue e (-1) none pos) (d1 qIH fe):=⟨qXC he.1⟩
theorem qYn : QJ X [] []:=⟨qYa⟩
theorem qI1 {fs : List DE} (he : QE X e fe) (hr : QJ X es fs) : QJ X (e :: es) (fe :: fs):=⟨qWH he.1 hr.1⟩
theorem qWN {fs : List DE} (h : QJ X (e1 :: e2 :: rest) fs) : QE X (.JoinedStr (e1 :: e2 :: rest) pos) (qOW fs):=⟨qVL h.1⟩
theorem qAG : QA X [] qAF:=⟨qRv⟩
theorem qAC (ha : QE X e fa) (hr : QA X es fA) (hs : autoParam (starEach (e :: es) X.env = (false,eval e X.env) :: starEach es X.env) au3._auto_1) : QA X (e :: es) (qAA fa fA):=⟨qQU ha.1 hr.1 hs⟩
theorem qcN (G : Def X.prog X.w X.K X.mg X.base cm k x n F) (hr : RoomC cm k X.A) (hF : Fn1 X) (hg : Gl X x) (ha : QA X (e :: es) fA) (hdb : (x == ("__debug__" : Str)) = false) (he : autoParam (starEach (e :: es) X.env = (false,eval e X.env) :: starEach es X.env) au3._auto_1) (hpl : autoParam ((backTo pos (starEach es X.env)).any (·.1) = false) au3._auto_1) : QE X (.Call (.Name x p) (e :: es) [] pos) (qAO n F fA):=⟨dcN G hr hF hg ha.1 hdb he hpl⟩
theorem qcL (G : Def X.prog X.w X.K X.mg X.base cm k x n F) (hr : RoomC cm k X.A) (hF : Fn1 X) (hg : Gl X x) (ha : QA X (e :: es) fA) (hdb : (x == ("__debug__" : Str)) = false) (he : autoParam (starEach (e :: es) X.env = (false,eval e X.env) :: starEach es X.env) au3._auto_1) (hpl : autoParam ((backTo pos (starEach es X.env)).any (·.1) = false) au3._auto_1) : QE X (.Call (.Name x p) (e :: es) [] pos) (qAO n (qET F) fA):=⟨dcL G hr hF hg ha.1 hdb he hpl⟩
theorem qAa {id : String} (hc : ZCall X (.builtin id) F) (hg : Gl X x) (hm : X.mg x = none) (hv : bootBuiltins x = some (.builtin id)) (ha : QA X (e :: es) fA) (hn : x ≠ "__name__") (hdb : (x == ("__debug__" : Str)) = false) (he : autoParam (starEach (e :: es) X.env = (false,eval e X.env) :: starEach es X.env) au3._auto_1) (hpl : autoParam ((backTo pos (starEach es X.env)).any (·.1) = false) au3._auto_1) : QE X (.Call (.Name x p) (e :: es) [] pos) (qAM F fA):=⟨qTZ hc.1 hg hm hv ha.1 hn hdb he hpl⟩
theorem qN3 {T : String} (hc : ZCall X (.type T) F) (hg : Gl X x) (hm : X.mg x = none) (hv : bootBuiltins x = some (.type T)) (ha : QA X (e :: es) fA) (hn : x ≠ "__name__") (hdb : (x == ("__debug__" : Str)) = false) (he : autoParam (starEach (e :: es) X.env = (false,eval e X.env) :: starEach es X.env) au3._auto_1) (hpl : autoParam ((backTo pos (starEach es X.env)).any (·.1) = false) au3._auto_1) : QE X (.Call (.Name x p) (e :: es) [] pos) (qAM F fA):=⟨qR2 hc.1 hg hm hv ha.1 hn hdb he hpl⟩
theorem qJX {T id : String} {name : Str} {apos : Pos} {h : D → List D → Sto → Res D} (pa : PlainAttrs T) (slot : Slot T name id) (hty : typeOf (.builtin id) = pure (.type "method_descriptor")) (hT : T = "list" ∨ T = "dict" ∨ T = "int" ∨ T = "str") (hm : ZMt X id h) (ho : QE X o fo) (ha : QA X (e :: es) fA)
  (hbase : autoParam (attributeBase o name X.env (eval o X.env) = eval o X.env) au3._auto_1)
  (hfew : autoParam (((backTo pos (starEach (e :: es) X.env)).all (fun x => !x.1) && (backToKw pos (keywordEach [] X.env)).all (fun x => x.1.isSome) && decide ((e :: es).length + ([] : List Keyword).length + (if ([] : List Keyword).isEmpty then 0 else 1) < 30)) = true) au3._auto_1)
  (hline : autoParam ((apos.endLine == pos.line) = true) au3._auto_1) (hs : autoParam (starEach (e :: es) X.env = (false,eval e X.env) :: starEach es X.env) au3._auto_1) (hplain : autoParam ((backTo pos (starEach es X.env)).any (·.1) = false) au3._auto_1) : QE X (.Call (.Attribute o name apos) (e :: es) [] pos) (dBm T h fo fA):=⟨qZG pa slot hty hT hm.1 ho.1 ha.1 hbase hfew hline hs hplain⟩
theorem qOb (h : QW X e ta) : QT X e ta:=⟨PWD.pt h.1⟩
theorem qMR (ha : QT X a ta) : QW X (.BoolOp .Or [a] pos) ta:=⟨qXb ha.1⟩
theorem qOc (ha : QT X a ta) (hb : QW X (.BoolOp .Or (b :: rest) pos) tb) : QW X (.BoolOp .Or (a :: b :: rest) pos) (qF9 ta tb):=⟨qZP ha.1 hb.1⟩
theorem qI2 (ha : QT X a ta) : QT X (.UnaryOp .Not a pos) (qDt ta):=⟨qXZ ha.1⟩
theorem qCc {op : CmpOp} (ho : ZOp X (compareOp op) G2') (ha : QE X a fa) (hb : QE X b fb) (hm : autoParam (behindInMarks op b = false) au5._auto_1) : QT X (.Compare a [op] [b] pos) (dTr (d2 G2' fa fb)):=⟨qXY ho.1 ha.1 hb.1 hm⟩
theorem qCd (ha : QE X a fa) (he : autoParam (∀ whole,isTrue a X.env whole = (do let v ← whole; standAt a.pos; holding [v] (truthy v))) au4._auto_1) : QT X a (dTr fa):=⟨qXa ha.1 he⟩
theorem qAo {m : Nat} (hN : X.N.Nodup) (hi : X.N[m]? = some x) (hx : Loc X.env.scope x) (hf : X.fn x = true ∨ X.env.scope.names.lookup x = some .local) : QG X (.Name x pos) (gNm m):=⟨qVP hN hi hx hf⟩
theorem qGn : QGs X [] qDw:=⟨qVQ⟩
theorem qBd {h : DG} {gs : DGs} (h1 : QG X e h) (h2 : QGs X es gs) (hs : autoParam ((assignEach (e :: es) X.env).map (·.2) = assign e X.env :: (assignEach es X.env).map (·.2)) au3._auto_1) : QGs X (e :: es) (qBC h gs):=⟨qTe h1.1 h2.1 hs⟩
theorem qIz {kk : Nat} {gs : DGs} (hc : X.calm = true) (h : QGs X es gs) (hn : autoParam ((assignEach es X.env).length = n) au3._auto_1) (hst : autoParam ((assignEach es X.env).findIdx? (·.1) = none) au3._auto_1) : QG X (.Tuple es kk pos) (gTp n gs):=⟨qXM hc h.1 hn hst⟩
theorem qSr {h : G3} (ho : QE X o fo) (hi : QE X i fi) (hs : ZSet X h)
  (ha : autoParam (∀ v,assign (.Subscript o i pos) X.env v = (do
   let ov ← holding [v] (eval o X.env)
   let iv ← holding [v,ov] (eval i X.env)
   standAt pos
   holding [v,ov,iv] (setItem ov iv v)
   release [v,ov,iv] [])) au4._auto_1) : QG X (.Subscript o i pos) (gSb fo fi h):=⟨qXL ho.1 hi.1 hs.1 ha⟩
theorem qI0 {tg : Expr} (ha : QE X e fa) : QI X tg e (qCr fa):=⟨qXN ha.1⟩
theorem qHc {tg : Expr} (hg : Gl X "range") (hm : X.mg "range" = none) (ha : QA X (e :: es) fA) (hs : autoParam (starEach (e :: es) X.env = (false,eval e X.env) :: starEach es X.env) au3._auto_1) (hpl : autoParam ((backTo pos (starEach es X.env)).any (·.1) = false) au3._auto_1) : QI X tg (.Call (.Name "range" p) (e :: es) [] pos) (qEa fA):=⟨qTf hg hm ha.1 hs hpl⟩
theorem qYm {elts : List Expr} {x1 : Nat} {tpos : Pos} (hg : Gl X "zip") (hm : X.mg "zip" = none) (ha : QA X [e1,e2] fA) (hs : autoParam (starEach [e1,e2] X.env = (false,eval e1 X.env) :: starEach [e2] X.env) au3._auto_1) (hpl : autoParam ((backTo pos (starEach [e2] X.env)).any (·.1) = false) au3._auto_1) : QI X (.Tuple elts x1 tpos) (.Call (.Name "zip" p) [e1,e2] [] pos) (qO5 fA):=⟨qXO hg hm ha.1 hs hpl⟩
theorem qBc : QB X [] qBQ:=⟨qXS⟩
theorem qAX (h : QS X st f) : QB X [st] f:=⟨qXT h.1⟩
theorem qAQ (h1 : QS X st f) (h2 : QB X sts g) : QB X (st :: sts) (qAc f g):=⟨qVW h1.1 h2.1⟩
theorem qEr (he : QE X e fa) (hs : autoParam (swapsWith e none pos.line X.env = pure false) au3._auto_1) : QS X (.Expr e pos) (qB3 fa):=⟨qVX he.1 hs⟩
theorem qAn (he : QE X e fa) : QS X (.Return (some e) pos) (qAs fa):=⟨qXV he.1⟩
theorem qCD {as bs : List Stmt} (hc : QT X c ta) (ha : QB X as f) (hb : QB X bs g) : QS X (.If c as bs pos) (sIf ta f g):=⟨qZM hc.1 ha.1 hb.1⟩
theorem qPm {body : List Stmt} (hp : ZPass X) (hc : QT X c ta) (hb : QB X body f) : QS X (.While c body [] pos) (qKQ ta f):=⟨qTj hp.1 hc.1 hb.1⟩
theorem qEK {tg iter : Expr} {body : List Stmt} {fI : DI} {h : DG} (hp : ZPass X) (hc : X.calm = true) (hi : QI X tg iter fI) (hg : QG X tg h) (hb : QB X body f) (hs : autoParam (∀ x,foldedSetIterable iter X.env x = pure x) au4._auto_1) : QS X (.For tg iter body [] pos) (qEh fI h f):=⟨qXR hp.1 hc hi.1 hg.1 hb.1 hs⟩
theorem qBS {m : Nat} {pos' : Pos} (hN : X.N.Nodup) (he : QE X e fa) (hi : X.N[m]? = some x) (hx : Loc X.env.scope x) (hs : swapsWith e (some (.Name x pos')) pos.line X.env = pure false) (hf : X.fn x = true ∨ X.env.scope.names.lookup x = some .local) : QS X (.Assign [.Name x pos'] e pos) (qBE fa (gNm m)):=⟨qXW hN he.1 hi hx hs hf⟩
theorem qPk {tg : Expr} {h : DG} (he : QE X e fa) (hg : QG X tg h) (hs : autoParam (swapsWithSole [tg] e pos.line X.env = pure false) au3._auto_1) (hw : autoParam (swappedStores [tg] e X.env = pure none) au3._auto_1) (h1 : autoParam ((assignEach [tg] X.env).map (·.2) = [assign tg X.env]) au3._auto_1) : QS X (.Assign [tg] e pos) (qBE fa h):=⟨qXP he.1 hg.1 hs hw h1⟩
theorem qYo {m : Nat} {op : Operator} {pos' : Pos} (hN : X.N.Nodup) (he : QE X e fe) (ho : ZIp X op G2') (hi : X.N[m]? = some x) (hx : Loc X.env.scope x) (hf : X.fn x = true ∨ X.env.scope.names.lookup x = some .local) : QS X (.AugAssign (.Name x pos') op e pos) (qRa m G2' fe):=⟨qXQ hN he.1 ho.1 hi hx hf⟩
theorem qPl {m l : Nat} {y : Str} {px py pt : Pos} {kt k2 pt2} (hc : X.calm = true) (hN : X.N.Nodup) (ha : QA X [a,b] fA) (hi : X.N[m]? = some x) (hj : X.N[l]? = some y) (hij : m ≠ l) (hx : X.env.scope.names.lookup x = some .local) (hy : X.env.scope.names.lookup y = some .local)
  (hw : autoParam (swappedStores [.Tuple [.Name x px,.Name y py] kt pt] (.Tuple [a,b] k2 pt2) X.env = pure (some [x,y])) au3._auto_1) (hs : autoParam (swapsWithSole [.Tuple [.Name x px,.Name y py] kt pt] (.Tuple [a,b] k2 pt2) pos.line X.env = pure false) au3._auto_1) :
  QS X (.Assign [.Tuple [.Name x px,.Name y py] kt pt] (.Tuple [a,b] k2 pt2) pos) (qNY m l fA):=⟨qXU hc hN ha.1 hi hj hij hx hy hw hs⟩
theorem qUJ {C Ae : Addr} {np cpos : Pos} (hc : X.calm = true) (hF : Fn1 X) (hg : Gl X x) (hm : X.mg x = some (.ref C)) (hx : qOz X.K C Ae = true) (ha : QA X (e :: rest) fA) (hdb : (x == ("__debug__" : Str)) = false) (he : autoParam (starEach (e :: rest) X.env = (false,eval e X.env) :: starEach rest X.env) au3._auto_1) (hpl : autoParam ((backTo cpos (starEach rest X.env)).any (·.1) = false) au3._auto_1) :
  QS X (.Raise (some (.Call (.Name x np) (e :: rest) [] cpos)) none pos) (qMU (.ref C) fA):=⟨qTi hc hF hg hm hx ha.1 hdb he hpl⟩
theorem qYp {nm : Str} {C0 : Addr} {m : Nat} {body : List Stmt} {b₀ : Stmt} {suite : List Stmt} {np hpos : Pos} {cs : List Value} (hF : Fn1 X) (hb : ∀ E pn,ZPass (Cx.tryIn X E pn) → QB (Cx.tryIn X E pn) body f) (hs : ∀ e,QB (Cx.suite X e) (b₀ :: suite) g) (hg : Gl X x) (hm : X.mg x = some (.ref C0)) (hcs : ∀ c ∈ cs,PySem.W.exmOne X.K c (.ref C0) = some true) (hN : X.N.Nodup) (hi : X.N[m]? = some nm) (hlo : X.env.scope.names.lookup nm = some .local) (hdb : (x == ("__debug__" : Str)) = false) (hn : X.N.length = n) :
  QS X (.Try body [.ExceptHandler (some (.Name x np)) (some nm) (b₀ :: suite) hpos] [] [] pos) (qNZ n m cs f g):=⟨hn ▸ qXX hF (fun E pn hp => (hb E pn ⟨hp⟩).1) (fun e => (hs e).1) hg hm hcs hN hi hlo hdb⟩
theorem qBn : ZOp X (binaryOp .Add) qA4:=⟨qX9⟩
theorem qFm : ZOp X (binaryOp .Sub) qEb:=⟨qYE⟩
theorem qJf : ZOp X (binaryOp .Mult) qCY:=⟨qQr⟩
theorem qOf : ZOp X (binaryOp .FloorDiv) qGD:=⟨qYA⟩
theorem qKl : ZOp X (binaryOp .Mod) qGE:=⟨qYC⟩
theorem qMb : ZOp X (binaryOp .Pow) qHG:=⟨qYD⟩
theorem qao : ZOp X (compareOp .Lt) gLt:=⟨qZh⟩
theorem qY9 : ZOp X (compareOp .LtE) gLe:=⟨qZg⟩
theorem qan : ZOp X (compareOp .GtE) gGe:=⟨qZd⟩
theorem qY8 : ZOp X (compareOp .Is) gIs:=⟨qZf⟩
theorem qLh (hr : RoomC cm k X.A) : ZOp X (compareOp .Eq) gEq:=⟨qZc hr.units⟩
theorem qP6 (hr : RoomC cm k X.A) : ZOp X (compareOp .NotEq) gNe:=⟨qUu hr.units⟩
theorem qU4 (hr : RoomC cm k X.A) : ZOp X (compareOp .NotEq) (qGg gNe):=⟨OpD.look (qUu hr.units)⟩
theorem qU5 : ZUn X (unaryOp .USub) qLL:=⟨qY6⟩
theorem qCE : ZIx X gIx:=⟨qXo⟩
theorem qD2 : ZCall X (.builtin "isinstance") qBD:=⟨qRp⟩
theorem qCg {cl : List Addr} (h : ClsK X.K cl) : ZCall X (.builtin "isinstance") (qBW cl):=⟨qVC h⟩
theorem qDE : ZCall X (.builtin "len") qA3:=⟨qVD⟩
theorem qMZ (hc : X.calm = true) : ZCall X (.builtin "all") (qM8 false):=⟨qWz false hc⟩
theorem qMa : ZCall X (.type "int") qPF:=⟨qW0⟩
theorem qJe : ZMt X "list.append" qBg:=⟨qSa⟩
theorem qWh : ZMt X "list.count" qL2:=⟨qT5⟩
theorem qWj : ZMt X "list.index" qL3:=⟨qT6⟩
theorem qKm (hr : RoomC cm k X.A) : ZSet X qFg:=⟨qYu (hu1 hr)⟩
end
section
variable {P : Program} {w : World} {K : PySem.W.Frag} {mg : Str → Option Value} {base : Heap} {cm : Bool}
theorem qCI {N : List Str} {qual : Str} {scope : Scope} {f : Addr} {cd : Value} {A : Around} {outer : List Env} {s : Shared} {H : Hp} {E : XK} : ZPass (cxC cm P w K mg base N qual scope f cd A outer s H E):=⟨qTT⟩
theorem qCC {x : Str} {st : Stmt} {N ps : List Str} {k : Nat} {g : DS} {body : List Stmt} (h : Src K mg x st ps) (S : FnScope N ps (qAB st)) (hbd : qAN st = body)
  (hbody : ∀ (f : Addr) (cdv : Value) (A : Around) (outer : List Env) (s : Shared) (H : Hp) (E : XK),RoomC cm k (A.deeper (envOfC x (qAB st) s.heap.objs.size f cdv)) →
   QB (cxC cm P w K mg base N x (qAB st) f cdv A outer s H E) body g) : Def P w K mg base cm (k + 1) x ps.length (qAT N.length g) :=
 qXK h S fun f cdv A outer s H E hr => hbd ▸ (hbody f cdv A outer s H E hr).1
theorem qZJ {x : Str} {st : Stmt} {N ps : List Str} {k : Nat} {g : DS} {body : List Stmt} (h : Src K mg x st ps) (S : FnScope N ps (qAB st)) (hbd : qAN st = body)
  (hbody : ∀ (f : Addr) (cdv : Value) (A : Around) (outer : List Env) (s : Shared) (H : Hp) (E : XK),RoomC cm k (A.deeper (envOfC x (qAB st) s.heap.objs.size f cdv)) →
   QB (cxC cm P w K mg base N x (qAB st) f cdv A outer s H E) body g) : qOg P w K mg base cm (k + 1) x ps (qAT N.length g) :=
 qVO h S fun f cdv A outer s H E hr => hbd ▸ (hbody f cdv A outer s H E hr).1
theorem qVN {x : Str} {st : Stmt} {ps : List Str} (h : Src K mg x st ps) : Def P w K mg base cm 0 x ps.length fun _ _ => .bad:=by
 obtain ⟨f,fd,hm,F,hb⟩:=h
 exact ⟨f,fd,ps,rfl,hm,F.kp,hb,qOY F,⟨fun vs H Q E z => z.1,fun A outer s H args us vs Q E _ _ _ _ z => by obtain ⟨_,_,_,_,_,_,_,z⟩:=z; exact False.elim z⟩⟩
end
end _D
end
section
namespace _D
open PySem PySem.Spec PyProof.Rows _L
theorem qBF {K : PySem.W.Frag} {h : Heap} {mg : Str → Option Value} (X : K.In h) (G : h.Ns mainGlobals mg) {x : Str} {st : Stmt} {ps : List Str} {f : Addr} {oc : Value} {od an : Option Addr} {osl : Array (Option Value)} {kV doc pm cdv ct : Value}
  (a : PySem.W.nsIn K mainGlobals x = some (some (.ref f)))
  (l : K.lookup f = some ⟨oc,od,.func (PySem.W.fnOf x x (qAP st) (qAN st) (qAB st) .none kV doc pm an cdv ct),osl⟩) (c : PySem.W.codeIn K cdv x = true) (k : PySem.W.keepIn K (.ref f) = true)
  (hb : ∀ (kV doc pm : Value) (an : Option Addr) (cdv ct : Value) (us : List Value),us.length = ps.length → bindArgs (PySem.W.fnOf x x (qAP st) (qAN st) (qAB st) .none kV doc pm an cdv ct) ⟨us,[]⟩ = pure (ps.zip us)) : Src K mg x st ps :=
 have F:=qXk (st:=st) l c k
 ⟨f,_,PySem.W.mg_of X G a,F,F.binds hb⟩
noncomputable def qO0 (K : PySem.W.Frag) (C : Addr) : Bool :=
 decide (PySem.W.findIn K (.ref C) "__getattribute__" = some (some (.builtin "BaseException.__getattribute__"))) && decide (PySem.W.findIn K (.ref C) "__getattr__" = some none)
 && decide (PySem.W.findIn K (.ref C) "__class__" = some (some (.builtin "object.__class__"))) && decide (PySem.W.mroIn K C (.type "object") = some true) && decide (PySem.W.mroIn K C (.type "BaseException") = some true)
 && (PySem.W.clsIn K C).isSome && decide (PySem.W.kitOne K (.ref C) (.type "ValueError") = some true)
noncomputable def qTO (K : PySem.W.Frag) : Bool :=
 decide (PySem.W.specialIn K (.builtin "object.__class__") "__get__" = some (some (.builtin "getset_descriptor.__get__"))) && decide (PySem.W.takesIn K (.builtin "object.__class__") = some true)
noncomputable def qW2 (K : PySem.W.Frag) (cl : List Addr) : Bool:=cl.all fun C => cl.all fun B => decide (PySem.W.kitOne K (.ref C) (.ref B) = some (C == B))
theorem qW3 {K : PySem.W.Frag} {cl : List Addr} (h1 : cl.all (qO0 K) = true) (h2 : qTO K = true) (h3 : qW2 K cl = true) : ClsK K cl:=by
 have g:=h2
 unfold qTO at g
 simp only [Bool.and_eq_true,decide_eq_true_eq] at g
 have k1 : ∀ C ∈ cl,qO0 K C = true:=List.all_eq_true.mp h1
 refine ⟨fun C hC => ?_,fun C hC B hB => ?_,fun C hC => ?_⟩
 ·have e:=k1 C hC
  unfold qO0 at e
  simp only [Bool.and_eq_true,decide_eq_true_eq] at e
  obtain ⟨⟨⟨⟨⟨⟨e1,e2⟩,e3⟩,e4⟩,e5⟩,e6⟩,e7⟩:=e
  exact ⟨e1,e2,e3,g.1,g.2,e4,e5,e6⟩
 ·have e:=List.all_eq_true.mp (List.all_eq_true.mp h3 C hC) B hB
  exact of_decide_eq_true e
 ·have e:=k1 C hC
  unfold qO0 at e
  simp only [Bool.and_eq_true,decide_eq_true_eq] at e
  exact e.2
noncomputable def qaJ (K : PySem.W.Frag) (cs : List Value) (A : Addr) : Bool:=cs.all fun v => decide (PySem.W.exmOne K v (.ref A) = some true)
noncomputable def qaH (K : PySem.W.Frag) (cs : List Addr) (A : Addr) : Bool:=cs.all fun C => qOz K C A
noncomputable def qaI (K : PySem.W.Frag) (cs : List Addr) : Bool:=cs.all fun C => PySem.W.keepIn K (.ref C)
noncomputable def qOd (K : PySem.W.Frag) : Sp:=fun vs H Q E => ∃ a ns,vs = [.ref a] ∧ SqX K H a (List.map V.int ns) ∧ ns.length ≤ 63 ∧ ∀ H',Q (.bl true) H'
theorem qPr {K : PySem.W.Frag} {P : Hp} {α : List Addr} : ∀ ns : List Int,qAL K P α (ns.map D.int) (ns.map V.int)
 | [] => .nil
 | n :: ns => .cons (by simp only [Rep]) (qPr ns)
theorem qV1 {P : Program} {w : World} {K : PySem.W.Frag} {mg : Str → Option Value} {fa : Addr} {st : Stmt} {k : Nat} {x : Str} (hs : Src K mg "law" st [x]) (hfa : mg "law" = some (.ref fa))
  (hbd : ∀ (kV doc pm : Value) (an : Option Addr) (cdv ct : Value) (s : Shared) (v : Value),BindsTo s (PySem.W.fnOf "law" "law" (qAP st) (qAN st) (qAB st) .none kV doc pm an cdv ct) ⟨[v],[]⟩ [(x,v)])
  (hall : ∀ base : Heap,∃ F,qOg P w K mg base true k "law" [x] F ∧ ∀ ns : List Int,ns.length ≤ 63 → ∃ S,F [.lst (ns.map D.int)] [] = .ok (.bl true) S) :
  ∃ fd : FuncData,(∀ (s : Shared) (v : Value),BindsTo s fd ⟨[v],[]⟩ [(x,v)]) ∧ ∀ base : Heap,K.In base → base.Ns mainGlobals mg → FnOk P w K mg base (CXd P w) k fa fd [x] (qOd K):=by
 obtain ⟨f,fd,hm,F,hb⟩:=hs
 cases hfa.symm.trans hm
 refine ⟨fd,?_,fun base _ _ => ?_⟩
 ·obtain ⟨oc,od,kV,doc,pm,an,cdv,ct,osl,rfl,_,_⟩:=F.ex
  exact hbd kV doc pm an cdv ct
 ·obtain ⟨G,⟨f',fd',hm',_,hb',hl,X⟩,hG⟩:=hall base
  cases hm.symm.trans hm'
  cases hl.one (qOY F)
  refine (X.imp fun vs H Q E h => ?_).ok
  obtain ⟨a,ns,rfl,hS,hl,k⟩:=h
  obtain ⟨S,e⟩:=hG ns hl
  refine ⟨rfl,H,[],[.lst (ns.map D.int)],[],⟨qAK.refl _,rfl,.nil,by simp,by simp,by simp⟩,.cons (qNT hS (qPr ns)) .nil,?_⟩
  rw [e]
  intro v H' P' α' _ _ _ rv
  simp only [Rep] at rv
  subst rv
  exact k H'
theorem qZ7 {l : PySem.W.OpenLaw} {q : Program} {loose : List Str} {XP : (Str → Option Value) → Heap → Prop} {YP : World → Heap → Prop} {d : DefRec} {K : Params → PySem.W.Frag} {k : Nat} {x : Str} (hn : l.most = some 63) (hdf : d.params.defaults = []) (hr : Room k callerA)
  (hY : ∀ (w : World) (h : Heap),YP w h → (K w.params).In h)
  (F : ∀ (w : World) (mg : Str → Option Value) (fa : Addr) (h : Heap),(K w.params).In h → h.Ns mainGlobals mg → mg d.name = some (.ref fa) →
   ∃ fd : FuncData,(∀ (s : Shared) (u : Value),BindsTo s fd ⟨[u],[]⟩ [(x,u)]) ∧ ∀ base : Heap,(K w.params).In base → base.Ns mainGlobals mg → FnOk l.prog w (K w.params) mg base (CXd l.prog w) k fa fd [x] (qOd (K w.params))) :
  PySem.W.WalkO q loose XP YP l.row.toRowW d [] (fun f vs => PySem.call f vs) :=
 _L.qWg (n:=63) (k:=k) (x:=x) (CX:=fun w => CXd l.prog w) (sp:=fun w => qOd (K w.params)) hn (by decide) hdf hr hY F (fun _ _ a ns hl _ hS => ⟨a,ns,rfl,hS,hl,fun _ => rfl⟩) fun w H s e s' h => by
  obtain ⟨_,_,_,_,_,_,_,_,_,_,_,_,z⟩:=h
  exact z
end _D
end
section
namespace _D
open PySem
theorem us0 {us : List Value} (h : us.length = 0) : us = []:=List.eq_nil_of_length_eq_zero h
theorem usS {us : List Value} {n : Nat} (h : us.length = n + 1) : ∃ a vs,us = a :: vs ∧ vs.length = n:=by
 cases us with
 | nil => exact absurd h (by simp)
 | cons a vs => exact ⟨a,vs,rfl,by simpa using h⟩
theorem us1 {us : List Value} (h : us.length = 1) : ∃ a,us = [a]:=by
 obtain ⟨a,vs,rfl,h'⟩:=usS h
 exact ⟨a,by rw [us0 h']⟩
theorem us2 {us : List Value} (h : us.length = 2) : ∃ a b,us = [a,b]:=by
 obtain ⟨a,vs,rfl,h'⟩:=usS h
 obtain ⟨b,rfl⟩:=us1 h'
 exact ⟨a,b,rfl⟩
theorem us3 {us : List Value} (h : us.length = 3) : ∃ a b c,us = [a,b,c]:=by
 obtain ⟨a,vs,rfl,h'⟩:=usS h
 obtain ⟨b,c,rfl⟩:=us2 h'
 exact ⟨a,b,c,rfl⟩
end _D
end
section
namespace _D
open PySem PySem.Spec PyProof.Rows _L
noncomputable def okO (F : DF) : DF:=fun ds S => match F ds S with
 | .ok d S' => .ok d S'
 | _ => .bad
theorem qMJ {F : DF} {ds : List D} {S S' : Sto} {d : D} (h : F ds S = .ok d S') : okO F ds S = .ok d S':=by unfold okO; rw [h]
section
variable {X : Cx} {cm : Bool} {k n : Nat} {F : DF} {x : Str} {p pos : Pos} {e : Expr} {es : List Expr} {fa : DA} {f : Addr} {fd : FuncData} {ps : List Str}
theorem qWY {pins : List (Addr × Obj)} {σ : _L.St} {H : Hp} {s : Shared} {Q : VK} {us : List Value} {vs : List V} {P : Hp} {α : List Addr} {ds : List D} {S : Sto} (G : FnX X.prog X.w X.K X.mg X.base cm k f fd ps (spD X.K n F)) (hr : RoomC cm k X.A) (hb : qEt X.K fd ps [])
  (I : Inv X pins σ H s) (r : Rel X.K H P α S) (rv : qAZ vs us) (rp : qAL X.K P α ds vs) (hn : ds.length = n) (af : qAr X P α (okO F ds S) Q) : wpAny (model X.prog X.w) X.A (call (.ref f) us) (EP X pins σ Q) X.xe s:=by
 have hvn : vs.length = n:=by rw [← rp.length]; exact hn
 have hsp : spD X.K n F vs H Q fun _ _ _ => False:=by
  refine ⟨hvn,P,α,ds,S,r,rp,?_⟩
  unfold okO at af
  cases q : F ds S with
  | ok d S' => rw [q] at af; exact af
  | ex c x S' => rw [q] at af; exact False.elim af
  | bad => rw [q] at af; exact af
 have hl : us.length = ps.length:=by rw [← rv.length]; exact G.len _ _ _ _ hsp
 have hb':=hb s us I.kIn (by rw [List.append_nil]; exact hl)
 rw [List.append_nil] at hb'
 refine wpAny_call (codeAny_mono (G.run X.A X.stack s H ⟨us,[]⟩ us vs Q _ hr I.env0 hb' rv hsp) fun r s' hq => ?_)
 cases r with
 | error u =>
  obtain ⟨_,_,_,_,_,_,_,_,_,_,_,_,z⟩:=hq
  exact False.elim z
 | ok fl =>
  cases fl with
  | ret u => exact I.after hq
  | next => exact False.elim hq
  | brk => exact False.elim hq
  | cont => exact False.elim hq
theorem dcO (G : Def X.prog X.w X.K X.mg X.base cm k x n F) (hr : RoomC cm k X.A) (hg : Gl X x) (ha : PA X (e :: es) (tDA X fa)) (hdb : autoParam ((x == ("__debug__" : Str)) = false) au2._auto_1) (he : autoParam (starEach (e :: es) X.env = (false,eval e X.env) :: starEach es X.env) au3._auto_1) (hpl : autoParam ((backTo pos (starEach es X.env)).any (·.1) = false) au3._auto_1) :
  PE X (.Call (.Name x p) (e :: es) [] pos) (tD X (qAO n (okO F) fa)):=by
 obtain ⟨f,fd,ps,hn0,hm,hk,hb,hl,G⟩:=G
 intro pins s σ H Q I h
 obtain ⟨P,α,env,S,r,re,af⟩:=h
 refine wpAny_Call_Name_kw (qGm I hg hm ?_ hdb)
 refine PySem.W.callWith_K (h₀:=X.base) I.ok.mod.kin hk (thn (qDL ha I r re af pos) fun us s1 ⟨vs,H1,P1,α1,ds,S1,I1,rv,r1,re1,rp,e1,e2,af1⟩ => ⟨I1.kIn,?_⟩) he hpl
 obtain ⟨hn,af2⟩:=qKC (env:=env) (S:=S) af1
 exact qWY G hr hb I1 r1 rv rp hn (qAr.base e1 e2 af2)
end
end _D
end
section
namespace _D
open PySem PySem.Spec PyProof.Rows _L
section
variable {X : Cx} {scope : Scope} {N' : List Str} {cl : List (Str × Addr)} {C : Addr} {ex : List Addr} {s₀ : Shared} {H₀ : Hp} {x : Str}
set_option tactic.hygienic true in
theorem qEs {env : Env} : ∀ {names : List (Str × NameKind)} {x : Str} {k : NameKind},names.lookup x = some k →
  (names.map fun (n,k) => if (k == NameKind.free && env.scope.kind == .function && env.kindOf n == some .cell) then (n,NameKind.cell) else (n,k)).lookup x = some k ∨
  (k = .free ∧ (names.map fun (n,k) => if (k == NameKind.free && env.scope.kind == .function && env.kindOf n == some .cell) then (n,NameKind.cell) else (n,k)).lookup x = some .cell)
 | [],x,k,h => by simp at h
 | (n,k0) :: r,x,k,h => by
  rw [List.lookup_cons] at h
  rw [List.map_cons]
  dsimp only
  cases hx : x == n with
  | true =>
   rw [hx] at h
   have e : k0 = k:=Option.some.inj h
   subst e
   split
   ·rename_i hb
    right
    have h1:=(Bool.and_eq_true _ _).mp hb
    have h2:=(Bool.and_eq_true _ _).mp h1.1
    refine ⟨by simpa using h2.1,?_⟩
    rw [List.lookup_cons,hx]
   ·left
    rw [List.lookup_cons,hx]
  | false =>
   rw [hx] at h
   have ih:=qEs (env:=env) h
   split
   ·rw [List.lookup_cons,hx]; exact ih
   ·rw [List.lookup_cons,hx]; exact ih
theorem qAk (h : scope.names.lookup x = some .local ∨ scope.names.lookup x = some .free) : Vis (qAw X N' scope cl C ex s₀ H₀).env.scope x:=by
 rcases h with h | h
 ·rcases qEs (env:=X.env) h with g | ⟨e,_⟩
  ·exact .inl g
  ·cases e
 ·rcases qEs (env:=X.env) h with g | ⟨_,g⟩
  ·exact .inr (.inr g)
  ·exact .inr (.inl g)
theorem qBU (h : scope.names.lookup x = some .local) : Loc (qAw X N' scope cl C ex s₀ H₀).env.scope x:=by
 rcases qEs (env:=X.env) h with g | ⟨e,_⟩
 ·exact .inl g
 ·cases e
theorem qGj (h : scope.names.lookup x = some .globalImplicit) : Gl (qAw X N' scope cl C ex s₀ H₀) x:=by
 rcases qEs (env:=X.env) h with g | ⟨e,_⟩
 ·exact g
 ·cases e
end
structure QTs (X : Cx) (ifs : List Expr) (t : DT) : Prop where
 get : PTs X ifs t
section
variable {X : Cx} {elt tg iter e : Expr} {ifs es : List Expr} {scope : Scope} {pos p : Pos} {N' : List Str} {cap : List (Option Nat)} {fi : DI} {g : DG} {t u : DT} {fe : DE} {fa : DA} {x : Str} {cm : Bool} {k n : Nat} {F : DF}
theorem qB1 : QTs X [] qBN:=⟨qVZ⟩
theorem qLd (h1 : QT X e t) (h2 : QTs X es u) : QTs X (e :: es) (qE1 t u):=⟨qTk h1.1 h2.1⟩
theorem qcO (G : Def X.prog X.w X.K X.mg X.base cm k x n F) (hr : RoomC cm k X.A) (hg : Gl X x) (ha : QA X (e :: es) fa) (hdb : (x == ("__debug__" : Str)) = false) (he : autoParam (starEach (e :: es) X.env = (false,eval e X.env) :: starEach es X.env) au3._auto_1) (hpl : autoParam ((backTo pos (starEach es X.env)).any (·.1) = false) au3._auto_1) :
  QE X (.Call (.Name x p) (e :: es) [] pos) (qAO n (okO F) fa):=⟨dcO G hr hg ha.1 hdb he hpl⟩
end
end _D
end
section
namespace _D
open PySem PySem.Spec PyProof.Rows _L
noncomputable def stn (o : Option (Nat × MO)) (S : Sto) : Prop:=match o with
 | none => True
 | some p => S[p.1]? = some p.2
open Classical in
noncomputable def qLe (o : Option (Nat × MO)) (S : Sto) : Bool:=decide (stn o S)
open Classical in
theorem qCk {o : Option (Nat × MO)} {S : Sto} : qLe o S = true ↔ stn o S:=by simp [qLe]
structure ItD2 (K : PySem.W.Frag) (J : It) (P : Hp) (α : List Addr) (o : Option (Nat × MO)) (ds : List D) : Prop where
 go : ∀ i H P1 α1 S,i < ds.length → Rel K H P1 α1 S → stn o S → qAK P P1 → α <+: α1 → J.go i H
 yld : ∀ i H x H' P1 α1 S,i < ds.length → Rel K H P1 α1 S → stn o S → qAK P P1 → α <+: α1 → J.yld i H x H' → ∃ P2 d,ds[i]? = some d ∧ Rel K H' P2 α1 S ∧ qAK P1 P2 ∧ Rep K P2 α1 d x
 stop : ∀ i H P1 α1 S,ds.length ≤ i → Rel K H P1 α1 S → stn o S → qAK P P1 → α <+: α1 → J.stop i H
theorem ItD.two {K : PySem.W.Frag} {J : It} {P : Hp} {α : List Addr} {ds : List D} (h : ItD K J P α ds) : ItD2 K J P α none ds :=
 ⟨fun i H P1 α1 S a b _ c d => h.go i H P1 α1 S a b c d,fun i H x H' P1 α1 S a b _ c d e => h.yld i H x H' P1 α1 S a b c d e,fun i H P1 α1 S a b _ c d => h.stop i H P1 α1 S a b c d⟩
abbrev DI2:=qAH → Sto → Res (Option (Nat × MO) × List D)
inductive tDI2 (X : Cx) (f : DI2) (σ : _L.St) (H : Hp) (R : It → Hp → Prop) : Prop
 | mk (P : Hp) (α : List Addr) (env : qAH) (S : Sto) (r : Rel X.K H P α S) (re : qAt X.K P α σ env) (af : qAR X P α (f env S) (fun p S' => ∀ J H' P' α',Rel X.K H' P' α' S' → qAK P P' → α <+: α' → ItD2 X.K J P' α' p.1 p.2 → R J H')) : tDI2 X f σ H R
noncomputable def qDX (f : DI) : DI2:=fun env S => (f env S).bind fun ds S1 => .ok (none,ds) S1
section
variable {X : Cx} {K : PySem.W.Frag} {tg e : Expr} {fa : DE} {pos : Pos}
theorem qVS {f : DI} (h : PI X tg e (tDI X f)) : PI X tg e (tDI2 X (qDX f)):=PI.weak h fun σ H R ⟨P,α,env,S,r,re,af⟩ => by
 refine ⟨P,α,env,S,r,re,?_⟩
 unfold qDX at af
 cases q : f env S with
 | bad => rw [q] at af; exact af
 | ex c x S' => rw [q] at af; exact af
 | ok ds S1 =>
  rw [q] at af
  exact fun J H' P' α' r' e1 e2 it => af J H' P' α' r' e1 e2 it.two
theorem qVr {P : Hp} {α : List Addr} {a : Addr} {n : Nat} {ds : List D} (hα : α[n]? = some a) : ItD2 K (Itl K a) P α (some (n,.lst ds)) ds where
 go:=fun i H P1 α1 S hi r st e e2 => by
  obtain ⟨vs,z,t⟩:=r.at' n a _ (qKe e2 hα) st
  exact ⟨vs,vs[i]'(by rw [← t.length]; exact hi),.of z,by simp⟩
 yld:=fun i H x H' P1 α1 S hi r st e e2 y => by
  obtain ⟨rfl,y⟩:=y
  obtain ⟨vs,z,t⟩:=r.at' n a _ (qKe e2 hα) st
  have hx:=y vs (.of z)
  obtain ⟨v,h1,h2⟩:=t.get (List.getElem?_eq_getElem hi)
  rw [hx] at h1; cases h1
  exact ⟨P1,_,List.getElem?_eq_getElem hi,r,qAK.refl _,h2⟩
 stop:=fun i H P1 α1 S hi r st e e2 => by
  obtain ⟨vs,z,t⟩:=r.at' n a _ (qKe e2 hα) st
  exact ⟨vs,.of z,by rw [← t.length]; exact hi⟩
noncomputable def itD (d : D) (S : Sto) : Res (Option (Nat × MO) × List D):=match d with
 | .tup xs => .ok (none,xs) S
 | .lst xs => .ok (none,xs) S
 | .loc n => match S[n]? with
  | some (.lst xs) => .ok (some (n,.lst xs),xs) S
  | _ => .bad
 | _ => .bad
noncomputable def dIt (f : DE) : DI2:=fun env S => (f env S).bind fun d S1 => itD d S1
theorem qZK (ha : PE X e (tD X fa)) : PI X tg e (tDI2 X (dIt fa)):=by
 intro pins s σ H R I h
 obtain ⟨P,α,env,S,r,re,af⟩:=h
 refine thn (qBr ha I r re af) fun vv s1 ⟨v,H1,P1,α1,d,S1,G1,af1⟩ => ?_
 have seq : ∀ ds,qCu d = some ds → (∀ J H' P' α',Rel X.K H' P' α' S1 → qAK P P' → α <+: α' → ItD2 X.K J P' α' none ds → R J H') → wpAny (model X.prog X.w) X.A (pyIter vv) (PIE X pins σ tg R) X.xe s1:=fun ds e1 q =>
  qPP G1.inv G1.rel G1.val G1.rep e1 fun J H' P' α' r' h1 h2 it => q J H' P' α' r' (G1.same.trans h1) (G1.pre.trans h2) it.two
 cases d with
 | tup xs => exact seq xs rfl af1
 | lst xs => exact seq xs rfl af1
 | loc n =>
  obtain ⟨xs,hS,af1⟩:=qHZ (X:=X) (f:=fun xs => Res.ok (some (n,MO.lst xs),xs) S1) af1
  have rp:=G1.rep
  simp only [Rep] at rp
  obtain ⟨a,rfl,ha⟩:=rp
  cases (show vv = Value.ref a from G1.val)
  obtain ⟨vs,z,t⟩:=G1.rel.at' n a _ ha hS
  obtain ⟨its,rv,p,hz⟩:=G1.inv.list (SqL.of z)
  refine wpAny_pyIter_list p.isList ?_
  refine ⟨s1.heap.objs.size,[s1.heap.objs.size],_,_,H1,rfl,G1.inv.kept (t':=s1.toks) fun b o e => Heap.get?_push_of_some _ e,qN9 a _,⟨_,Heap.get?_push_size _ rfl,rfl,rfl⟩,fun b hb => ?_,af1 _ _ P1 α1 G1.rel G1.same G1.pre (qVr ha)⟩
  have e : b = s1.heap.objs.size:=by simpa using hb
  subst e
  exact G1.inv.fpOk (Nat.le_refl _) (G1.inv.hok.fresh (Nat.le_refl _))
 | _ => exact False.elim af1
end
noncomputable def qCv (o : Option (Nat × MO)) (g : DG) (f : DS) : List D → qAH → Sto → Out
 | [],env,S => if qLe o S then .nx env S else .bad
 | d :: ds,env,S => if qLe o S then (g d env S).toS env fun env1 S1 => match f env1 S1 with
  | .nx env2 S2 => qCv o g f ds env2 S2
  | .ct env2 S2 => qCv o g f ds env2 S2
  | .bk env2 S2 => .nx env2 S2
  | o => o
  else .bad
noncomputable def qMT (fi : DI2) (g : DG) (f : DS) : DS:=fun env S => (fi env S).toS env fun p S1 => qCv p.1 g f p.2 env S1
inductive LoopW2 (X : Cx) (P1 : Hp) (α1 : List Addr) (o : Option (Nat × MO)) (g : DG) (f : DS) (ds : List D) (D : Ends) (i m : Nat) (σ : _L.St) (H : Hp) : Prop
 | mk (hi : i ≤ ds.length) (hm : m = ds.length - i) (P2 : Hp) (α2 : List Addr) (env2 : qAH) (S2 : Sto) (r : Rel X.K H P2 α2 S2) (re : qAt X.K P2 α2 σ env2) (e1 : qAK P1 P2) (e2 : α1 <+: α2) (af : qAf X P2 α2 (qCv o g f (ds.drop i) env2 S2) D) : LoopW2 X P1 α1 o g f ds D i m σ H
section
variable {X : Cx} {tg : Expr} {pos : Pos}
theorem qVY {iter : Expr} {body : List Stmt} {fi : DI2} {g : DG} {f : DS} (hp : PassesOwn (model X.prog X.w) X.A X.env X.xe) (hc : X.calm = true) (hi : PI X tg iter (tDI2 X fi)) (hg : PG X tg (tDG X g)) (hb : PSs X body (tDS X f))
  (hs : autoParam (∀ x,foldedSetIterable iter X.env x = pure x) au4._auto_1) : PS X (.For tg iter body [] pos) (tDS X (qMT fi g f)):=psW (qSp hp hc hi hg hb hs) fun D σ H ⟨P,α,env,S,r,re,af⟩ => by
 refine ⟨P,α,env,S,r,re,?_⟩
 have af1:=qBk af
 cases q : fi env S with
 | bad => rw [q] at af1; exact af1
 | ex c x S' => rw [q] at af1; exact af1
 | ok p S1 =>
  obtain ⟨o,ds⟩:=p
  rw [q] at af1
  have af2 : qAf X P α (qCv o g f ds env S1) D:=af1
  intro J H1 P1 α1 r1 e1 e2 it
  have it : ItD2 X.K J P1 α1 o ds:=it
  refine ⟨LoopW2 X P1 α1 o g f ds D,
   ⟨ds.length,Nat.zero_le _,rfl,P1,α1,env,S1,r1,re.mono e1 e2,qAK.refl _,List.prefix_refl _,qAf.base e1 e2 af2⟩,?_⟩
  rintro i m σ2 H2 ⟨hi,rfl,P2,α2,env2,S2,r2,re2,e3,e4,af3⟩
  by_cases hsb : qLe o S2 = true
  ·have hst:=qCk.mp hsb
   by_cases hlt : i < ds.length
   ·refine .inr ⟨it.go i H2 P2 α2 S2 hlt r2 hst e3 e4,LoopW2 X P1 α1 o g f ds D (i + 1) (ds.length - (i + 1)),fun σ' H' w => ⟨_,?_,w⟩,fun x H3 y => ?_⟩
    ·omega
    ·obtain ⟨P3,d,hd,r3,e5,rp⟩:=it.yld i H2 x H3 P2 α2 S2 hlt r2 hst e3 e4 y
     have hdr : ds.drop i = d :: ds.drop (i + 1):=by
      rw [List.drop_eq_getElem_cons hlt]
      rw [List.getElem?_eq_getElem hlt] at hd
      rw [Option.some.inj hd]
     rw [hdr] at af3
     unfold qCv at af3
     rw [if_pos hsb] at af3
     have af4:=qBk (qAf.base e5 (List.prefix_refl _) af3)
     refine ⟨P3,α2,env2,S2,d,r3,re2.mono e5 (List.prefix_refl _),rp,?_⟩
     cases q2 : g d env2 S2 with
     | bad => rw [q2] at af4; exact af4
     | ex c x S' => rw [q2] at af4; exact af4
     | ok env3 S3 =>
      rw [q2] at af4
      intro σ4 H4 P4 α4 r4 re4 e6 e7
      refine ⟨P4,α4,env3,S3,r4,re4,?_⟩
      have af5:=qAf.base e6 e7 af4
      cases q3 : f env3 S3 with
      | bad => simp only [q3] at af5; exact af5
      | ex c x env4 S4 => simp only [q3] at af5; exact af5
      | rt d4 S4 => simp only [q3] at af5; exact af5
      | bk env4 S4 => simp only [q3] at af5; exact af5
      | nx env4 S4 =>
       simp only [q3] at af5
       exact fun σ5 H5 P5 α5 r5 re5 e8 e9 => ⟨hlt,rfl,P5,α5,env4,S4,r5,re5,((e3.trans e5).trans e6).trans e8,(e4.trans e7).trans e9,qAf.base e8 e9 af5⟩
      | ct env4 S4 =>
       simp only [q3] at af5
       exact fun σ5 H5 P5 α5 r5 re5 e8 e9 => ⟨hlt,rfl,P5,α5,env4,S4,r5,re5,((e3.trans e5).trans e6).trans e8,(e4.trans e7).trans e9,qAf.base e8 e9 af5⟩
   ·have hdr : ds.drop i = []:=List.drop_eq_nil_of_le (by omega)
    rw [hdr] at af3
    unfold qCv at af3
    rw [if_pos hsb] at af3
    exact .inl ⟨it.stop i H2 P2 α2 S2 (by omega) r2 hst e3 e4,af3 σ2 H2 P2 α2 r2 re2 (qAK.refl _) (List.prefix_refl _)⟩
  ·cases hdr : ds.drop i with
   | nil => rw [hdr] at af3; unfold qCv at af3; rw [if_neg hsb] at af3; exact False.elim af3
   | cons d r => rw [hdr] at af3; unfold qCv at af3; rw [if_neg hsb] at af3; exact False.elim af3
end
end _D
end
section
namespace _D
open PySem PySem.Spec PyProof.Rows _L
noncomputable def qBe (elt : Expr) (gens : List Comprehension) (scope : Scope) (pos : Pos) (k : Nat) (acc : Value) (env : Env) : Sem Unit :=
 match gens[k + 1]? with
 | some g' => do
  let x ← eval g'.iter env
  standAt g'.iter.pos
  let x ← foldedSetIterable g'.iter env x
  let it ← holding [x] (pyIter x)
  let _ ← runOwn (.compStart (.ListComp elt gens scope pos) (k + 1) it acc env) env
 | none => do let _ ← call (.builtin "list.append") [acc,← eval elt env]
theorem qUV (elt target iter : Expr) (ifs : List Expr) (gens : List Comprehension) (scope : Scope) (pos : Pos) (it acc : Value) (env : Env) (k : Nat) (hg : gens[k]? = some ⟨target,iter,ifs,0⟩) (ha : ∀ g',gens[k + 1]? = some g' → g'.is_async = 0) :
  compTurn (.ListComp elt gens scope pos) k it acc env = (do
   standAt iter.pos
   match ← pyNext it with
   | none => pure (.done .next)
   | some v =>
    letOwnedTupleGo target it v
    assign target env v
    let mut ok:=true
    for c in ifs do
     if ok then ok ← isTrue c env (eval c env)
    if ok then qBe elt gens scope pos k acc env
    again (.compLoop (.ListComp elt gens scope pos) k it acc env)):=by
 unfold compTurn qBe
 simp only [hg]
 cases q : gens[k + 1]? with
 | none => rfl
 | some g' =>
  have h0:=ha g' q
  have e0 : (g'.is_async != 0) = false:=by rw [h0]; rfl
  simp only [e0,Bool.false_eq_true,if_false,bind_assoc,pure_bind]
  rfl
abbrev DK:=qAH → Sto → List D → Res (qAH × List D)
noncomputable def goL (o : Option (Nat × MO)) (g : DG) (t : DT) (k : DK) : List D → DK
 | [],env,S,acc => if qLe o S then .ok (env,acc) S else .bad
 | d :: ds,env,S,acc => if qLe o S then (g d env S).bind fun env1 S1 => (t env1 S1).bind fun b S2 =>
   if b then (k env1 S2 acc).bind fun p S3 => goL o g t k ds p.1 S3 p.2 else goL o g t k ds env1 S2 acc
  else .bad
noncomputable def qAy (fe : DE) : DK:=fun env S acc => (fe env S).bind fun x S1 => if acc.length < lim then .ok (env,acc ++ [x]) S1 else .bad
noncomputable def kIn (fi : DI2) (g : DG) (t : DT) (k : DK) : DK:=fun env S acc => (fi env S).bind fun p S1 => goL p.1 g t k p.2 env S1 acc
noncomputable def qQ6 (Y : Cx) (pins : List (Addr × Obj)) (P1 : Hp) (α1 : List Addr) (acc : Addr) (env : qAH) (S : Sto) (ds : List D) (s : Shared) : Prop :=
 ∃ σ H P α o,TurnSt Y pins P1 α1 [] acc env S ds s σ H P α o
noncomputable def PK (Y : Cx) (step : Value → Sem Unit) (k : DK) : Prop :=
 ∀ (pins : List (Addr × Obj)) (P1 : Hp) (α1 : List Addr) (acc : Addr) (env env' : qAH) (S S' : Sto) (ds ds' : List D) (s : Shared),(∀ H : Hp,H acc = none → qB4 Y pins H acc) → qQ6 Y pins P1 α1 acc env S ds s → k env S ds = .ok (env',ds') S' →
  wpAny (model Y.prog Y.w) Y.A (step (.ref acc)) (fun _ s' => qQ6 Y pins P1 α1 acc env' S' ds' s') (fun _ _ => False) s
section
variable {Y : Cx} {elt tg iter : Expr} {ifs : List Expr} {gens : List Comprehension} {scope : Scope} {pos : Pos} {k : Nat} {g : DG} {t : DT} {fe : DE} {it acc : Addr} {fp : List Addr} {J : It} {tn : Nat → Heap → Prop} {items : List D} {P1 : Hp} {α1 : List Addr} {pins : List (Addr × Obj)}
theorem qSG {X : Cx} {pins : List (Addr × Obj)} {H : Hp} {b : Addr} {fp : List Addr} {h : Heap} (f : qB4 X pins H b) (hn : b ∉ fp) : qB4 X (pins ++ qE6 fp h) H b:=by
 obtain ⟨f0,f1,f2,f3,f4,f5⟩:=f
 refine ⟨f0,f1,f2,f3,f4,fun p hp => ?_⟩
 rcases List.mem_append.mp hp with z | z
 ·exact f5 p (List.mem_append_left _ z)
 ·rcases List.mem_append.mp z with z | z
  ·exact f5 p (List.mem_append_right _ z)
  ·rintro rfl
   exact hn (qN2 z).1
theorem Res.bind_inv {β γ : Type} {r : Res β} {f : β → Sto → Res γ} {x : γ} {S : Sto} (h : r.bind f = .ok x S) : ∃ b S1,r = .ok b S1 ∧ f b S1 = .ok x S:=by
 cases r with
 | ok b S1 => exact ⟨b,S1,rfl,h⟩
 | _ => cases h
inductive GoC (o : Option (Nat × MO)) (g : DG) (t : DT) (k : DK) (d : D) (ds acc : List D) (env : qAH) (S SF : Sto) (x : qAH × List D) : Prop
 | no (env1 : qAH) (S1 S2 : Sto) (z : stn o S) (q1 : g d env S = .ok env1 S1) (q2 : t env1 S1 = .ok false S2) (r : goL o g t k ds env1 S2 acc = .ok x SF) : GoC o g t k d ds acc env S SF x
 | yes (env1 : qAH) (S1 S2 : Sto) (env5 : qAH) (ds5 : List D) (S5 : Sto) (z : stn o S) (q1 : g d env S = .ok env1 S1) (q2 : t env1 S1 = .ok true S2) (q3 : k env1 S2 acc = .ok (env5,ds5) S5) (r : goL o g t k ds env5 S5 ds5 = .ok x SF) : GoC o g t k d ds acc env S SF x
set_option tactic.hygienic true in
theorem qTu {o : Option (Nat × MO)} {g : DG} {t : DT} {k : DK} {d : D} {ds acc : List D} {env : qAH} {S SF : Sto} {x : qAH × List D} (h : goL o g t k (d :: ds) env S acc = .ok x SF) : GoC o g t k d ds acc env S SF x:=by
 simp only [goL] at h
 split at h
 ·rename_i z
  obtain ⟨env1,S1,q1,h⟩:=Res.bind_inv h
  obtain ⟨b,S2,q2,h⟩:=Res.bind_inv h
  cases b with
  | false => exact .no env1 S1 S2 (qCk.mp z) q1 q2 h
  | true =>
   obtain ⟨⟨env5,ds5⟩,S5,q3,h⟩:=Res.bind_inv h
   exact .yes env1 S1 S2 env5 ds5 S5 (qCk.mp z) q1 q2 q3 h
 ·cases h
set_option tactic.hygienic true in
theorem qVk {o : Option (Nat × MO)} {g : DG} {t : DT} {k : DK} {acc dsF : List D} {env envF : qAH} {S SF : Sto} (h : goL o g t k [] env S acc = .ok (envF,dsF) SF) : stn o S ∧ env = envF ∧ acc = dsF ∧ S = SF:=by
 simp only [goL] at h
 split at h
 ·rename_i z
  cases h
  exact ⟨qCk.mp z,rfl,rfl,rfl⟩
 ·cases h
inductive LpI (Y : Cx) (pins : List (Addr × Obj)) (P1 : Hp) (α1 : List Addr) (fp : List Addr) (acc : Addr) (tn : Nat → Heap → Prop) (G : List D → DK) (items : List D) (x : qAH × List D) (SF : Sto) (n : Nat) (s : Shared) : Prop
 | mk (i : Nat) (σ : _L.St) (H P : Hp) (α : List Addr) (o : Obj) (env : qAH) (S : Sto) (ds : List D) (hn : n = items.length - i) (hi : i ≤ items.length) (st : TurnSt Y pins P1 α1 fp acc env S ds s σ H P α o) (st1 : tn i s.heap) (run : G (items.drop i) env S ds = .ok x SF) : LpI Y pins P1 α1 fp acc tn G items x SF n s
theorem qWf {M : Model} {A : Around} {Q : Fin → Shared → Prop} {Qa Qd : Shared → Prop} {E : Value → Shared → Prop} {s : Shared} {it acc : Value} {en : Env} (hgk : gens[k]? = some ⟨tg,iter,ifs,0⟩) (has : ∀ g',gens[k + 1]? = some g' → g'.is_async = 0)
  (ha : ∀ s,Qa s → Q (.again (.compLoop (.ListComp elt gens scope pos) k it acc en)) s) (hd : ∀ s,Qd s → Q (.done .next) s)
  (h : wpAny M A (pyNext it) (fun r s1 => (r = none → Qd s1) ∧ ∀ v,r = some v → wpAny M A (letOwnedTupleGo tg it v) (fun _ s2 => wpAny M A (assign tg en v) (fun _ s3 => wpAny M A (qHg ifs en) (fun b s4 => (b = false → Qa s4) ∧ (b = true → wpAny M A (qBe elt gens scope pos k acc en) (fun _ s5 => Qa s5) E s4)) E s3) E s2) E s1) E s) :
  wpAny M A (compTurn (.ListComp elt gens scope pos) k it acc en) Q E s:=by
 rw [qUV elt tg iter ifs gens scope pos it acc en k hgk has]
 refine wpAny_bind (wpAny_standAt (wpAny_bind (thn h fun r s1 ⟨h0,h1⟩ => ?_)))
 cases r with
 | none => exact wpAny_pure (hd _ (h0 rfl))
 | some v =>
  refine wpAny_bind (thn (h1 v rfl) fun _ s2 h2 => wpAny_bind (thn h2 fun _ s3 h3 => wpAny_bind (thn h3 fun b s4 h4 => ?_)))
  cases b with
  | false => exact wpAny_pure (ha _ (h4.1 rfl))
  | true => exact wpAny_bind (thn (h4.2 rfl) fun _ s5 h5 => wpAny_pure (ha _ h5))
theorem qVh (hfp : ∀ H : Hp,(∀ b ∈ fp,H b = none) → ∀ b ∈ fp,qB4 Y pins H b) (hne : acc ∉ fp) (o : Obj) (H' : Hp) (hn : ∀ b ∈ fp,H' b = none) : ∀ b ∈ fp,qB4 Y (pins ++ [(acc,o)]) H' b:=fun b hb => by
 obtain ⟨f0,f1,f2,f3,f4,f5⟩:=hfp H' hn b hb
 refine ⟨f0,f1,f2,f3,f4,fun p hp => ?_⟩
 rcases List.mem_append.mp hp with z | z
 ·exact f5 p (List.mem_append_left _ z)
 ·rcases List.mem_append.mp z with z | z
  ·exact f5 p (List.mem_append_right _ z)
  ·rw [List.mem_singleton.mp z]
   rintro rfl
   exact hne hb
theorem qIB {i : Nat} {h : Heap} (T : Turn Y.prog Y.w Y.K tg J fp it tn) (st2 : tn (i + 1) h) (pl : ∀ b ∈ fp,∃ o,h.get? b = some o ∧ ∀ v,o.data ≠ .cell v) {s5 : Shared} {σ5 : _L.St} {H5 : Hp} (I5 : Inv Y (pins ++ qE6 fp h) σ5 H5 s5) : tn (i + 1) s5.heap ∧ (∀ b ∈ fp,H5 b = none):=by
 refine ⟨T.keep _ _ _ st2 fun b hb o' e => (I5.pin (b,o') (List.mem_append_right _ (List.mem_append_right _ (qGh hb e)))).1,fun b hb => ?_⟩
 obtain ⟨o',e,d'⟩:=pl b hb
 exact (I5.pin (b,o') (List.mem_append_right _ (List.mem_append_right _ (qGh hb e)))).2.1
theorem qRE {o' : Option (Nat × MO)} {kk : DK} {Qa Qd : Shared → Prop} {E : Value → Shared → Prop} {s : Shared} {σ : _L.St} {H P : Hp} {α : List Addr} {env envF : qAH} {S SF : Sto} {ds dsF : List D} {o : Obj} {i : Nat} (hc : Y.calm = true) (hx : Y.xe = fun _ _ => False)
  (T : Turn Y.prog Y.w Y.K tg J fp it tn) (hit : ItD2 Y.K J P1 α1 o' items) (hg : PG Y tg (tDG Y g)) (ht : PTs Y ifs t) (he : PK Y (fun acc => qBe elt gens scope pos k acc Y.env) kk) (hacc : ∀ H : Hp,H acc = none → qB4 Y pins H acc) (hfp : ∀ H : Hp,(∀ b ∈ fp,H b = none) → ∀ b ∈ fp,qB4 Y pins H b) (hne : acc ∉ fp)
  (hi : i ≤ items.length) (st : TurnSt Y pins P1 α1 fp acc env S ds s σ H P α o) (st1 : tn i s.heap) (run : goL o' g t kk (items.drop i) env S ds = .ok (envF,dsF) SF)
  (hA : ∀ s' σ' H' P' α' o1 env1 S' ds',i < items.length → TurnSt Y pins P1 α1 fp acc env1 S' ds' s' σ' H' P' α' o1 → tn (i + 1) s'.heap → goL o' g t kk (items.drop (i + 1)) env1 S' ds' = .ok (envF,dsF) SF → Qa s')
  (hD : ∀ s' σ' H' P' α' o',TurnSt Y pins P1 α1 fp acc envF SF dsF s' σ' H' P' α' o' → Qd s') :
  wpAny (model Y.prog Y.w) Y.A (pyNext (.ref it)) (fun r s1 => (r = none → Qd s1) ∧ ∀ v,r = some v → wpAny (model Y.prog Y.w) Y.A (letOwnedTupleGo tg (.ref it) v) (fun _ s2 => wpAny (model Y.prog Y.w) Y.A (assign tg Y.env v) (fun _ s3 => wpAny (model Y.prog Y.w) Y.A (qHg ifs Y.env) (fun b s4 => (b = false → Qa s4) ∧ (b = true → wpAny (model Y.prog Y.w) Y.A (qBe elt gens scope pos k (.ref acc) Y.env) (fun _ s5 => Qa s5) E s4)) E s3) E s2) E s1) E s:=by
 have I1:=_D.Inv.pin1 st.inv (hacc H st.acn) st.at' st.acc.cell
 have fp1:=qVh hfp hne o
 by_cases hlt : i < items.length
 ·have hdr : items.drop i = items[i] :: items.drop (i + 1):=List.drop_eq_getElem_cons hlt
  rw [hdr] at run
  have run:=qTu run
  have hst : stn o' S:=by cases run with | no _ _ _ z => exact z | yes _ _ _ _ _ _ z => exact z
  refine qJc (T.item Y rfl rfl rfl hc i _ s σ H (fun _ _ => False) I1 (fp1 H st.fpn) st1 (hit.go i H P α S hlt st.rel hst st.same st.pre)) fun r s1 ⟨u,hr,h1⟩ => ⟨fun z => (by rw [hr] at z; cases z),fun v hv => ?_⟩
  obtain rfl : v = u:=Option.some.inj (hv.symm.trans hr)
  refine qJc h1 fun _ s2 ⟨x,H2,I2,rx,y,st2,fr2⟩ => ?_
  obtain ⟨P2,d,hd,r2,e2,rp⟩:=hit.yld i H x H2 P α S hlt st.rel hst st.same st.pre y
  cases (List.getElem?_eq_getElem hlt).symm.trans hd
  have pl:=T.obj _ _ st2
  have I2':=I2.pinned (fp1 _ fr2) pl
  have two : ∀ env1 S1 b S2,g items[i] env S = .ok env1 S1 → t env1 S1 = .ok b S2 → (∀ s4 σ3 H4 P4 α4 (I4 : Inv Y (pins ++ qE6 fp s2.heap) σ3 H4 s4),TurnSt Y pins P1 α1 fp acc env1 S2 ds s4 σ3 H4 P4 α4 o → tn (i + 1) s4.heap → (b = false → Qa s4) ∧ (b = true → wpAny (model Y.prog Y.w) Y.A (qBe elt gens scope pos k (.ref acc) Y.env) (fun _ s5 => Qa s5) E s4)) → wpAny (model Y.prog Y.w) Y.A (assign tg Y.env v) (fun _ s3 => wpAny (model Y.prog Y.w) Y.A (qHg ifs Y.env) (fun b s4 => (b = false → Qa s4) ∧ (b = true → wpAny (model Y.prog Y.w) Y.A (qBe elt gens scope pos k (.ref acc) Y.env) (fun _ s5 => Qa s5) E s4)) E s3) E s2:=by
   intro env1 S1 b S2 q1 q2 next
   refine qJc (hx ▸ qaW hg I2' r2 (st.env.mono e2 (List.prefix_refl _)) rx rp q1) fun _ s3 ⟨σ3,H3,P3,α3,I3,r3,re3,e3,e3'⟩ => ?_
   refine qJc (hx ▸ qZt ht I3 r3 re3 q2) fun b' s4 ⟨hb,H4,P4,α4,I4,r4,re4,e4,e4'⟩ => ?_
   have I4' : Inv Y (pins ++ qE6 fp s2.heap) σ3 H4 s4:=I4.pins_of fun p hp => I4.pin p (List.mem_append_right _ ((List.mem_append.mp hp).elim (fun z => List.mem_append_left _ (List.mem_append_left _ z)) fun z => List.mem_append_right _ z))
   have a4:=I4.pin (acc,o) (List.mem_append_right _ (List.mem_append_left _ (List.mem_append_right _ (List.mem_singleton.mpr rfl))))
   rw [hb]
   exact next s4 σ3 H4 P4 α4 I4' ⟨I4'.unpinned,r4,re4,((st.same.trans e2).trans e3).trans e4,(st.pre.trans e3').trans e4',(qIB T st2 pl I4').2,a4.2.1,a4.1,st.acc.mono ((e2.trans e3).trans e4) (e3'.trans e4')⟩ (qIB T st2 pl I4').1
  cases run with
  | no env1 S1 S2 _ q1 q2 run => exact two env1 S1 false S2 q1 q2 fun s4 σ3 H4 P4 α4 I4 st4 tn4 => ⟨fun _ => hA s4 σ3 H4 P4 α4 o env1 S2 ds hlt st4 tn4 run,fun z => (by cases z)⟩
  | yes env1 S1 S2 env5 ds5 S5 _ q1 q2 q3 run =>
   refine two env1 S1 true S2 q1 q2 fun s4 σ3 H4 P4 α4 I4 st4 tn4 => ⟨fun z => (by cases z),fun _ => ?_⟩
   refine qJc (he (pins ++ qE6 fp s2.heap) P1 α1 acc env1 env5 S2 S5 ds ds5 s4 (fun H hn => qSG (hacc H hn) hne) ⟨σ3,H4,P4,α4,o,I4,st4.rel,st4.env,st4.same,st4.pre,fun b hb => (by cases hb),st4.acn,st4.at',st4.acc⟩ q3) fun _ s5 ⟨σ5,H5,P5,α5,o5,T5⟩ => ?_
   exact hA s5 σ5 H5 P5 α5 o5 env5 S5 ds5 hlt ⟨T5.inv.unpinned,T5.rel,T5.env,T5.same,T5.pre,(qIB T st2 pl T5.inv).2,T5.acn,T5.at',T5.acc⟩ (qIB T st2 pl T5.inv).1 run
 ·rw [List.drop_eq_nil_of_le (by omega)] at run
  obtain ⟨z,rfl,rfl,rfl⟩:=qVk run
  refine qJc (T.done Y rfl rfl rfl hc i _ s σ H (fun _ _ => False) I1 (fp1 H st.fpn) st1 (hit.stop i H P α _ (by omega) st.rel z st.same st.pre)) fun r s1 ⟨hr,I2⟩ => ⟨fun _ => ?_,fun v hv => (by rw [hr] at hv; cases hv)⟩
  have a:=_D.Inv.pinned1 I2
  exact hD s1 σ H P α o ⟨I2.unpinned,st.rel,st.env,st.same,st.pre,st.fpn,a.2,a.1,st.acc⟩
theorem qLq {o' : Option (Nat × MO)} {kk : DK} {R : Result → Shared → Prop} {s : Shared} {σ : _L.St} {H P : Hp} {α : List Addr} {env envF : qAH} {S SF : Sto} {ds0 dsF : List D} {o : Obj} (hc : Y.calm = true) (hx : Y.xe = fun _ _ => False) (hgk : gens[k]? = some ⟨tg,iter,ifs,0⟩) (has : ∀ g',gens[k + 1]? = some g' → g'.is_async = 0)
  (T : Turn Y.prog Y.w Y.K tg J fp it tn) (hit : ItD2 Y.K J P1 α1 o' items) (hg : PG Y tg (tDG Y g)) (ht : PTs Y ifs t) (he : PK Y (fun acc => qBe elt gens scope pos k acc Y.env) kk) (hacc : ∀ H : Hp,H acc = none → qB4 Y pins H acc) (hfp : ∀ H : Hp,(∀ b ∈ fp,H b = none) → ∀ b ∈ fp,qB4 Y pins H b) (hne : acc ∉ fp)
  (st : TurnSt Y pins P1 α1 fp acc env S ds0 s σ H P α o) (st0 : tn 0 s.heap) (run : goL o' g t kk items env S ds0 = .ok (envF,dsF) SF)
  (hR : ∀ s' σ' H' P' α' o',TurnSt Y pins P1 α1 fp acc envF SF dsF s' σ' H' P' α' o' → R (.ok .next) s') :
  codeAny (model Y.prog Y.w) Y.A (.compLoop (.ListComp elt gens scope pos) k (.ref it) (.ref acc) Y.env) R s:=by
 refine codeAny_loop rfl (LpI Y pins P1 α1 fp acc tn (goL o' g t kk) items (envF,dsF) SF) (fun n s hI => ?_) items.length ⟨0,σ,H,P,α,o,env,S,ds0,rfl,Nat.zero_le _,st,st0,run⟩
 obtain ⟨i,σ,H,P,α,o,env,S,ds,hn,hi,st,st1,run⟩:=hI
 subst hn
 refine wpAny_noted (qWf hgk has (Qa:=fun s' => ∃ m,m < items.length - i ∧ LpI Y pins P1 α1 fp acc tn (goL o' g t kk) items (envF,dsF) SF m s') (Qd:=R (.ok .next)) (fun _ h => ⟨rfl,h⟩) (fun _ h => h) ?_)
 exact qRE hc hx T hit hg ht he hacc hfp hne hi st st1 run (fun s' σ' H' P' α' o1 env1 S' ds' hlt st' tn' run' => ⟨_,Nat.sub_succ_lt_self _ _ hlt,i + 1,σ',H',P',α',o1,env1,S',ds',rfl,hlt,st',tn',run'⟩) hR
set_option tactic.hygienic true in
theorem qWI (hx : Y.xe = fun _ _ => False) (hlast : gens[k + 1]? = none) (he : PE Y elt (tD Y fe)) : PK Y (fun acc => qBe elt gens scope pos k acc Y.env) (qAy fe):=by
 intro pins P1 α1 acc env env' S S' ds ds' s hacc ⟨σ,H,P,α,o,st⟩ run
 show wpAny _ _ (qBe elt gens scope pos k (.ref acc) Y.env) _ _ s
 unfold qBe
 rw [hlast]
 dsimp only
 unfold qAy at run
 cases q3 : fe env S with
 | bad => rw [q3] at run; cases run
 | ex c z S' => rw [q3] at run; cases run
 | ok d5 S5 =>
  rw [q3,Res.bind_ok] at run
  split at run
  ·rename_i hlen
   cases run
   have fA:=hacc H st.acn
   have I1:=_D.Inv.pin1 st.inv fA st.at' st.acc.cell
   refine wpAny_bind (qJc (hx ▸ qaV he I1 st.rel st.env q3) fun u5 s5 ⟨v5,H5,P5,α5,G5⟩ => ?_)
   have J:=_D.Inv.pinned1 G5.inv
   have J1:=G5.inv.unpinned
   obtain ⟨J4,J5⟩:=J
   obtain ⟨its,n5,vs,ho,rvs,rps,hz⟩:=st.acc
   subst ho
   have hlen' : vs.length = ds.length:=rps.length.symm
   have hl2:=rvs.length
   refine wpAny_bind (call_meets F.slot_list_append ⟨_,J4,rfl⟩ F.entry_list_append (F.args_list_append_2 _ _) (PySem.list_append acc its.toArray n5 u5 (by rw [List.size_toArray]; rw [← qBR]; omega)) ⟨J4,?_⟩)
   have q:=PySem.IsL.update J4 (·.push u5)
   have fA5:=hacc H5 J5
   have keep : ∀ b o,b ≠ acc → s5.heap.get? b = some o → (s5.heap.update acc (Obj.mapSeq (·.push u5))).get? b = some o:=fun b o hb e => (Heap.get?_update_other s5.heap _ (Ne.symm hb)).trans e
   have I6:=J1.turned (t':=s5.toks) keep J5 fA5.2.1 fA5.2.2.2.1 fA5.2.2.2.2.1 fA5.2.2.2.2.2
   refine wpAny_pure ⟨σ,H5,P5,α5,_,I6,G5.rel,G5.env,st.same.trans G5.same,st.pre.trans G5.pre,fun b hb => (by simp at hb),J5,q,?_⟩
   refine ⟨its ++ [u5],_,vs ++ [v5],by simp <;> rfl,rvs.append (.cons G5.val .nil),?_,by simp; omega⟩
   exact (qAL.mono G5.same G5.pre _ _ rps).append (.cons G5.rep .nil)
  ·cases run
end
end _D
end
section
namespace _D
open PySem PySem.Spec PyProof.Rows _L
theorem qO1 {prog : Program} {w : World} {A : Around} {R : Result → Shared → Prop} {s : Shared} {elt : Expr} {gens : List Comprehension} {scope : Scope} {pos : Pos} {k : Nat} {it acc : Value} {env : Env} {g : Comprehension} (hg : gens[k]? = some g) (ha : g.is_async = 0)
  (h0 : codeAny (model prog w) A (.compLoop (.ListComp elt gens scope pos) k it acc env) R s)
  (h : wpAny (model prog w) A (pyIter it) (fun it' s' => codeAny (model prog w) A (.compLoop (.ListComp elt gens scope pos) k it' acc env) R s') (notedBy (model prog w) A env fun x s' => R (.error x) s') s) :
  codeAny (model prog w) A (.compStart (.ListComp elt gens scope pos) k it acc env) R s:=by
 refine codeAny_of_tree ?_
 show wpAny _ _ ((compStart (.ListComp elt gens scope pos) k it acc env).onRaise (fun x => do noteFrame x env; standAt theWindowsPlace)) _ _ s
 refine wpAny_notedAt ?_
 have hcl : clausesOf (.ListComp elt gens scope pos) = gens:=rfl
 have e0 : (g.is_async != 0) = false:=by rw [ha]; rfl
 unfold compStart
 simp only [hcl,hg,Option.elim,e0,Bool.false_eq_true,if_false]
 refine wpAny_bind (wpAny_askSetting (wpAny_ite ?_))
 split
 ·exact wpAny_pure (And.intro rfl h0)
 ·refine wpAny_bind (wpAny_rule ?_)
  exact wpAny_bind (wpAny_standAt (wpAny_bind (wpAny_mono h (fun it' s' h' => wpAny_pure (And.intro rfl h')) fun _ _ x => x)))
section
variable {Y : Cx} {elt tg iter : Expr} {ifs : List Expr} {gens : List Comprehension} {scope : Scope} {pos : Pos} {k : Nat} {g : DG} {t : DT} {fi : DI2} {kk : DK}
theorem qSF {X : Cx} {pins pl : List (Addr × Obj)} {H : Hp} {b : Addr} (f : qB4 X (pins ++ pl) H b) : qB4 X pins H b:=by
 obtain ⟨f0,f1,f2,f3,f4,f5⟩:=f
 refine ⟨f0,f1,f2,f3,f4,fun p hp => f5 p ?_⟩
 rcases List.mem_append.mp hp with z | z
 ·exact List.mem_append_left _ z
 ·exact List.mem_append_right _ (List.mem_append_left _ z)
theorem qZr (hc : Y.calm = true) (hx : Y.xe = fun _ _ => False) (hgk : gens[k + 1]? = some ⟨tg,iter,ifs,0⟩) (has : ∀ g',gens[k + 1 + 1]? = some g' → g'.is_async = 0) (hi : PI Y tg iter (tDI2 Y fi)) (hg : PG Y tg (tDG Y g)) (ht : PTs Y ifs t)
  (he : PK Y (fun acc => qBe elt gens scope pos (k + 1) acc Y.env) kk) (hs : ∀ x,foldedSetIterable iter Y.env x = pure x) : PK Y (fun acc => qBe elt gens scope pos k acc Y.env) (kIn fi g t kk):=by
 intro pins P1 α1 acc env env' S S' ds ds' s hacc ⟨σ,H,P,α,o,st⟩ run
 show wpAny _ _ (qBe elt gens scope pos k (.ref acc) Y.env) _ _ s
 unfold qBe
 rw [hgk]
 dsimp only
 unfold kIn at run
 cases q : fi env S with
 | bad => rw [q] at run; cases run
 | ex c z S' => rw [q] at run; cases run
 | ok p S1 =>
  rw [q,Res.bind_ok] at run
  have fA:=hacc H st.acn
  have I1:=_D.Inv.pin1 st.inv fA st.at' st.acc.cell
  have key:=hi (pins ++ [(acc,o)]) s σ H (fun J H1 => ∃ P' α',Rel Y.K H1 P' α' S1 ∧ qAK P P' ∧ α <+: α' ∧ ItD2 Y.K J P' α' p.1 p.2) I1 ⟨P,α,env,S,st.rel,st.env,by rw [q]; exact fun J H' P' α' r' e1 e2 it => ⟨P',α',r',e1,e2,it⟩⟩
  rw [hx] at key
  refine wpAny_bind (qJc key fun v s1 h1 => wpAny_bind (wpAny_standAt ?_))
  rw [hs]
  refine wpAny_bind (wpAny_pure (wpAny_bind (wpAny_holding (qJc h1 fun itv s2 h2 => ?_))))
  obtain ⟨it,fp,tn,J,H2,rfl,I2,T,st0,hf,P',α',r2,e1,e2,hit⟩:=h2
  have a2:=_D.Inv.pinned1 I2
  have hne : acc ∉ fp:=fun hm => (hf acc hm).2.2.2.2.2 (acc,o) (List.mem_append_right _ (List.mem_append_right _ (by simp))) rfl
  have loop : codeAny (model Y.prog Y.w) Y.A (.compLoop (.ListComp elt gens scope pos) (k + 1) (.ref it) (.ref acc) Y.env) (fun r s' => match r with
    | .ok f => qQ6 Y pins P1 α1 acc env' S' ds' s'
    | .error _ => False) s2:=by
   refine qLq (pins:=pins) (fp:=fp) (P1:=P') (α1:=α') (σ:=σ) (H:=H2) (P:=P') (α:=α') (o:=o) hc hx hgk has T hit hg ht he hacc (fun H hn b hb => ?_) hne
    ⟨I2.unpinned,r2,st.env.mono e1 e2,qAK.refl _,List.prefix_refl _,fun b hb => (hf b hb).1,a2.2,a2.1,st.acc.mono e1 e2⟩ st0 run fun s' σ' H' Pf αf o' T' => ?_
   ·obtain ⟨_,g1,g2,g3,g4,g5⟩:=qSF (hf b hb)
    exact ⟨hn b hb,g1,g2,g3,g4,g5⟩
   ·exact ⟨σ',H',Pf,αf,o',T'.inv,T'.rel,T'.env,(st.same.trans e1).trans T'.same,(st.pre.trans e2).trans T'.pre,fun b hb => (by simp at hb),T'.acn,T'.at',T'.acc⟩
  refine wpAny_bind (wpAny_runOwn (codeAny_mono (qO1 hgk rfl loop (T.self Y.A 0 _ _ _ st0 loop)) fun r s' h => ?_))
  cases r with
  | error x => exact False.elim h
  | ok f => exact wpAny_pure h
end
end _D
end
section
namespace _D
open PySem PySem.Spec PyProof.Rows _L
noncomputable def mkM (m : Bool) (r : Res (qAH × List D)) : Res D:=match r with
 | .ok p S2 => if m then .ok (.loc S2.length) (S2 ++ [.lst p.2]) else .ok (.lst p.2) S2
 | _ => .bad
noncomputable def qA1 (m : Bool) (cap : List (Option Nat)) (fi : DI2) (g : DG) (t : DT) (k : DK) : DE:=fun env S => (fi env S).bind fun p S1 => mkM m (goL p.1 g t k p.2 (qBT cap env) S1 [])
section
variable {X : Cx} {elt tg iter : Expr} {ifs : List Expr} {scope : Scope} {pos : Pos} {N' : List Str} {cap : List (Option Nat)} {fi : DI2} {g : DG} {t : DT} {kk : DK} {rest : List Comprehension} {mm : Bool}
theorem qSc {P : Hp} {α : List Addr} {r : Res (qAH × List D)} {Ok : D → Sto → Prop} (h : qAR X P α (mkM mm r) Ok) : ∃ envF ds SF,r = .ok (envF,ds) SF ∧ (if mm then Ok (.loc SF.length) (SF ++ [.lst ds]) else Ok (.lst ds) SF):=by
 cases r with
 | ok p S =>
  obtain ⟨envF,ds⟩:=p
  refine ⟨envF,ds,S,rfl,?_⟩
  cases mm <;> exact h
 | ex c x S => exact False.elim h
 | bad => exact False.elim h
theorem qTl {pins : List (Addr × Obj)} {σ : _L.St} {P1 : Hp} {α1 : List Addr} {ds : List D} {SF : Sto} {acc C : Addr} {s : Shared} {Q : VK} (c : qKW X pins σ P1 α1 ds SF acc C s) (ok : if mm then OkV X P1 α1 Q (.loc SF.length) (SF ++ [.lst ds]) else OkV X P1 α1 Q (.lst ds) SF) : EP X pins σ Q (.ref acc) s:=by
 cases mm with
 | false => exact qVa c ok
 | true =>
  obtain ⟨H',P',α',vs,I,r,hn,e1,e2,rp,_⟩:=c
  exact ⟨.ref acc,_,I,rfl,qQo r hn rp fun v H2 P2 α2 r2 q1 q2 q3 => ok v H2 P2 α2 r2 (e1.trans q1) (e2.trans q2) q3⟩
theorem qKz {o' : Option (Nat × MO)} {kk : DK} {pins : List (Addr × Obj)} {σ : _L.St} {H2 P1 : Hp} {α1 : List Addr} {s2 : Shared} {S1 SF : Sto} {env envF : qAH} {ds items : List D} {it : Addr} {fp : List Addr} {tn : Nat → Heap → Prop} {J : It} {E : Value → Shared → Prop} {RR : Value → Addr → Result → Shared → Prop} {rest : List Comprehension}
  (hc : X.calm = true) (S : CompSc X.env.scope X.N scope N' cap) (has : ∀ g',(⟨tg,iter,ifs,0⟩ :: rest : List Comprehension)[0 + 1]? = some g' → g'.is_async = 0)
  (hg : ∀ cl C ex s₀ H₀,PG (qAw X N' scope cl C ex s₀ H₀) tg (tDG (qAw X N' scope cl C ex s₀ H₀) g))
  (ht : ∀ cl C ex s₀ H₀,PTs (qAw X N' scope cl C ex s₀ H₀) ifs t) (he : ∀ cl C ex s₀ H₀,PK (qAw X N' scope cl C ex s₀ H₀) (fun acc => qBe elt (⟨tg,iter,ifs,0⟩ :: rest) scope pos 0 acc (qAw X N' scope cl C ex s₀ H₀).env) kk)
  (I2 : Inv X pins σ H2 s2) (r : Rel X.K H2 P1 α1 S1) (re : qAt X.K P1 α1 σ env) (T : Turn X.prog X.w X.K tg J fp it tn) (st0 : tn 0 s2.heap) (hf : ∀ b ∈ fp,qB4 X pins H2 b) (hit : ItD2 X.K J P1 α1 o' items) (run : goL o' g t kk items (qBT cap env) S1 [] = .ok (envF,ds) SF)
  (hRR : ∀ acc C s',s2.heap.objs.size ≤ acc → (∃ m,s'.heap.Ns C m) → s2.heap.objs.size ≤ C → acc ≠ C → (∀ h',Heap.SameBut C s'.heap h' → qKW X pins σ P1 α1 ds SF acc C { s' with heap:=h' }) → RR (.ref acc) C (.ok .next) s') :
  wpAny (model X.prog X.w) X.A (newList []) (fun acc s₃ => wpAny (model X.prog X.w) X.A (newFunctionEnv scope X.env.globals (qC4 X.env.cells scope.names []) [] X.env.qual none .none (some X.env)) (fun cenv s₄ =>
   codeAny (model X.prog X.w) X.A (.compStart (.ListComp elt (⟨tg,iter,ifs,0⟩ :: rest) scope pos) 0 (.ref it) acc { cenv with scope:=relabel scope X.env }) (RR acc cenv.locals) s₄) E s₃) E s2:=by
 have hlt : ∀ b ∈ fp,b < s2.heap.objs.size:=fun b hb => by
  obtain ⟨o,e,_⟩:=T.obj 0 _ st0 b hb
  exact Heap.lt_size e
 refine wpAny_newObj_type (wpAny_newFunctionEnv S.nocell (by intro y hy; simp at hy) (fun h₁ hns₁ hsb₁ => ?_) S.kind)
 dsimp only at hns₁ hsb₁ ⊢
 generalize hH2 : s2.heap.push { cls:=.type "list",dict:=none,data:=.seq ([] : List Value).toArray } = Hh at hns₁ hsb₁ ⊢
 have hsz : Hh.objs.size = s2.heap.objs.size + 1:=by rw [← hH2,Heap.size_push]
 have hC : s2.heap.objs.size ≤ Hh.objs.size:=by rw [hsz]; exact Nat.le_succ _
 have hne : s2.heap.objs.size ≠ Hh.objs.size:=by rw [hsz]; exact Nat.ne_of_lt (Nat.lt_succ_self _)
 have keep : ∀ b o,s2.heap.get? b = some o → h₁.get? b = some o:=fun b o e => by
  have hb : b ≠ Hh.objs.size:=by rw [hsz]; exact Nat.ne_of_lt (Nat.lt_succ_of_lt (Heap.lt_size e))
  exact hsb₁.extBut b o hb (Heap.get?_push_of_some _ (hH2 ▸ Heap.get?_push_of_some _ e))
 have hacc : h₁.get? s2.heap.objs.size = some { cls:=.type "list",data:=.seq ([] : List Value).toArray }:=hsb₁.extBut _ _ hne (Heap.get?_push_of_some _ (hH2 ▸ Heap.get?_push_size _ rfl))
 have I4 : ∀ tk,Inv (qAw X N' scope (qC4 X.env.cells scope.names []) Hh.objs.size fp s2 H2) [] (qE9 cap σ) H2 { s2 with heap:=h₁,toks:=tk }:=fun tk =>
  qTS (s4:={ s2 with heap:=h₁,toks:=tk }) S I2 hf hlt hC hns₁ rfl rfl keep
 have loop : ∀ tk,codeAny (model X.prog X.w) X.A (.compLoop (.ListComp elt (⟨tg,iter,ifs,0⟩ :: rest) scope pos) 0 (.ref it) (.ref s2.heap.objs.size) (compEnvC scope (qC4 X.env.cells scope.names []) Hh.objs.size X.env)) (RR (.ref s2.heap.objs.size) Hh.objs.size) { s2 with heap:=h₁,toks:=tk }:=fun tk => by
  refine qLq (kk:=kk) (o':=o') (Y:=qAw X N' scope (qC4 X.env.cells scope.names []) Hh.objs.size fp s2 H2) (pins:=[]) (fp:=fp) (acc:=s2.heap.objs.size) (P1:=P1) (α1:=α1) (σ:=qE9 cap σ) (H:=H2) (P:=P1) (α:=α1) (o:={ cls:=.type "list",data:=.seq ([] : List Value).toArray }) hc rfl rfl has T hit
   (hg _ _ _ _ _) (ht _ _ _ _ _) (he _ _ _ _ _) (fun H hn => ?_) (fun H hn b hb => ?_) (fun hm => Nat.lt_irrefl _ (hlt _ hm)) ⟨I4 tk,r,qSv re cap,qAK.refl _,List.prefix_refl _,fun b hb => (hf b hb).1,I2.hok.fresh (Nat.le_refl _),hacc,⟨[],0,[],rfl,.nil,.nil,Nat.zero_le _⟩⟩ (T.keep _ _ _ st0 fun b hb o e => keep b o e) run fun s' σ' H' P' α' o' st => ?_
  ·refine ⟨hn,hne,fun hm => ?_,.inr (Nat.le_refl _),fun x c h z => ?_,fun p hp => absurd (show p ∈ ([] : List (Addr × Obj)) from hp) (by simp)⟩
   ·obtain ⟨_,o,ho,_⟩:=I2.stack.mem hm
    exact Nat.lt_irrefl _ (Heap.lt_size ho)
   ·obtain ⟨v,ob,hob,_⟩:=I2.cell x c (qCX S I2.ok h)
    rw [z] at hob
    exact Nat.lt_irrefl _ (Heap.lt_size hob)
  ·obtain ⟨_,h1,h2,h3,h4,h5⟩:=hf b hb
   refine ⟨hn b hb,Nat.ne_of_lt (Nat.lt_of_lt_of_le (hlt b hb) hC),fun hm => ?_,.inl hb,fun x c h => h4 x c (qCX S I2.ok h),fun p hp => absurd (show p ∈ ([] : List (Addr × Obj)) from hp) (by simp)⟩
   rcases List.mem_cons.mp (I2.stkSub b hm) with z | z
   ·exact h1 z
   ·exact h2 z
  ·obtain ⟨m,hm,_⟩:=st.inv.loc
   exact hRR _ _ s' (Nat.le_refl _) ⟨m,hm⟩ hC hne fun h' sb => qTR I2 hf rfl hC (Nat.le_refl _) hne st sb
 exact codeAny_compStart_list (loop _) (T.self X.A 0 _ _ _ (T.keep _ _ _ st0 fun b hb o e => keep b o e) (loop _))
theorem qTc (hc : X.calm = true) (S : CompSc X.env.scope X.N scope N' cap) (hi : PI X tg iter (tDI2 X fi))
  (hg : ∀ cl C ex s₀ H₀,PG (qAw X N' scope cl C ex s₀ H₀) tg (tDG (qAw X N' scope cl C ex s₀ H₀) g))
  (ht : ∀ cl C ex s₀ H₀,PTs (qAw X N' scope cl C ex s₀ H₀) ifs t) (has : ∀ g',(⟨tg,iter,ifs,0⟩ :: rest : List Comprehension)[0 + 1]? = some g' → g'.is_async = 0) (he : ∀ cl C ex s₀ H₀,PK (qAw X N' scope cl C ex s₀ H₀) (fun acc => qBe elt (⟨tg,iter,ifs,0⟩ :: rest) scope pos 0 acc (qAw X N' scope cl C ex s₀ H₀).env) kk)
  (hs : autoParam (∀ x,foldedSetIterable iter X.env x = pure x) au4._auto_1) : PE X (.ListComp elt (⟨tg,iter,ifs,0⟩ :: rest) scope pos) (tD X (qA1 mm cap fi g t kk)):=by
 intro pins s σ H Q I h
 obtain ⟨P,α,env,S0,r,re,af⟩:=h
 rw [eval_ListComp]
 have af' : qAR X P α ((fi env S0).bind fun p S1 => mkM mm (goL p.1 g t kk p.2 (qBT cap env) S1 [])) (OkV X P α Q):=af
 refine wpAny_comprehension_free (use:=none) rfl hs (qQT S I.ok) S.kind S.names ?_
 refine thn (hi pins s σ H (fun J H1 => ∃ (P1 : Hp) (α1 : List Addr) (p : Option (Nat × MO) × List _D.D) (S1 : Sto),Rel X.K H1 P1 α1 S1 ∧ qAK P P1 ∧ α <+: α1 ∧ ItD2 X.K J P1 α1 p.1 p.2 ∧ qAR X P α (mkM mm (goL p.1 g t kk p.2 (qBT cap env) S1 [])) (OkV X P α Q)) I ⟨P,α,env,S0,r,re,?_⟩) fun xv s1 h1 => thn h1 fun itv s2 h2 => ?_
 ·cases q : fi env S0 with
  | bad => rw [q] at af'; exact af'
  | ex c x S' => rw [q] at af'; exact af'
  | ok p S1 => rw [q] at af'; exact fun J H1 P1 α1 r1 e1 e2 it => ⟨P1,α1,p,S1,r1,e1,e2,it,af'⟩
 obtain ⟨it,fp,tn,J,H2,rfl,I2,T,st0,hf,P1,α1,p,S1,r1,e1,e2,hit,af1⟩:=h2
 obtain ⟨envF,ds,SF,run,ok⟩:=qSc af1
 refine qKz (RR:=fun acc C => compPost (model X.prog X.w) X.A X.xe none (EP X pins σ Q) acc C) hc S has hg ht he I2 r1 (re.mono e1 e2) T st0 hf hit run ?_
 intro acc C s' hA ⟨m,hm⟩ hC hne fin
 refine ⟨m,hm,fun h' sb => qTl (mm:=mm) (fin h' sb) ?_⟩
 cases mm with
 | false => exact fun v H3 P3 α3 r3 q1 q2 q3 => ok v H3 P3 α3 r3 (e1.trans q1) (e2.trans q2) q3
 | true => exact fun v H3 P3 α3 r3 q1 q2 q3 => ok v H3 P3 α3 r3 (e1.trans q1) (e2.trans q2) q3
theorem qTh {i : Nat} {y : Str} {py spos : Pos} (hc : X.calm = true) (hN : X.N.Nodup) (S : CompSc X.env.scope X.N scope N' cap) (hi : PI X tg iter (tDI2 X fi))
  (hg : ∀ cl C ex s₀ H₀,PG (qAw X N' scope cl C ex s₀ H₀) tg (tDG (qAw X N' scope cl C ex s₀ H₀) g))
  (ht : ∀ cl C ex s₀ H₀,PTs (qAw X N' scope cl C ex s₀ H₀) ifs t) (has : ∀ g',(⟨tg,iter,ifs,0⟩ :: rest : List Comprehension)[0 + 1]? = some g' → g'.is_async = 0) (he : ∀ cl C ex s₀ H₀,PK (qAw X N' scope cl C ex s₀ H₀) (fun acc => qBe elt (⟨tg,iter,ifs,0⟩ :: rest) scope pos 0 acc (qAw X N' scope cl C ex s₀ H₀).env) kk)
  (hy : autoParam (X.N[i]? = some y) au3._auto_1) (hyl : autoParam (Loc X.env.scope y) au8._auto_1) (hf : X.fn y = true ∨ X.env.scope.names.lookup y = some .local:=by first | exact .inl rfl | exact .inr rfl | assumption)
  (hsw : autoParam (swapsWith (.ListComp elt (⟨tg,iter,ifs,0⟩ :: rest) scope pos) (some (.Name y py)) spos.line X.env = pure true) au3._auto_1)
  (hs : autoParam (∀ x,foldedSetIterable iter X.env x = pure x) au4._auto_1) : PS X (.Assign [.Name y py] (.ListComp elt (⟨tg,iter,ifs,0⟩ :: rest) scope pos) spos) (tDS X (qBE (qA1 mm cap fi g t kk) (gNm i))):=by
 intro pins s σ H D I h
 obtain ⟨P,α,env,S0,r,re,af⟩:=h
 have af0:=qBk af
 have af' : qAR X P α ((fi env S0).bind fun p S1 => mkM mm (goL p.1 g t kk p.2 (qBT cap env) S1 [])) (fun d S => qAf X P α (.nx (env.set i (some d)) S) D):=af0
 rw [exec_Assign_Name_used _ _ _ _ hsw]
 refine wpAny_bind (wpAny_standAt (wpAny_bind ?_))
 show wpAny _ X.A (do let _ ← comprehension (.ListComp elt (⟨tg,iter,ifs,0⟩ :: rest) scope pos) scope X.env _ (newList []) false (eval iter X.env) (some (assign (.Name y py) X.env))) _ _ s
 refine wpAny_bind (wpAny_mono (wpAny_comprehension_free (use:=some (assign (.Name y py) X.env)) (Q:=fun _ s' => SP X pins D .next s') rfl hs (qQT S I.ok) S.kind S.names ?_) (fun _ s' hq => wpAny_pure (wpAny_pure hq)) fun _ _ e => e)
 refine thn (hi pins s σ H (fun J H1 => ∃ (P1 : Hp) (α1 : List Addr) (p : Option (Nat × MO) × List _D.D) (S1 : Sto),Rel X.K H1 P1 α1 S1 ∧ qAK P P1 ∧ α <+: α1 ∧ ItD2 X.K J P1 α1 p.1 p.2 ∧ qAR X P α (mkM mm (goL p.1 g t kk p.2 (qBT cap env) S1 [])) (fun d S => qAf X P α (.nx (env.set i (some d)) S) D)) I ⟨P,α,env,S0,r,re,?_⟩) fun xv s1 h1 => thn h1 fun itv s2 h2 => ?_
 ·cases q : fi env S0 with
  | bad => rw [q] at af'; exact af'
  | ex c x S' => rw [q] at af'; exact af'
  | ok p S1 => rw [q] at af'; exact fun J H1 P1 α1 r1 e1 e2 it => ⟨P1,α1,p,S1,r1,e1,e2,it,af'⟩
 obtain ⟨it,fp,tn,J,H2,rfl,I2,T,st0,hfp,P1,α1,p,S1,r1,e1,e2,hit,af1⟩:=h2
 obtain ⟨envF,ds,SF,run,ok⟩:=qSc af1
 refine qKz (RR:=fun acc C => compPost (model X.prog X.w) X.A X.xe (some (assign (.Name y py) X.env)) (fun _ s' => SP X pins D .next s') acc C) hc S has hg ht he I2 r1 (re.mono e1 e2) T st0 hfp hit run ?_
 intro acc C s' hA ⟨m,hm⟩ hC hne fin
 show wpAny _ X.A (assign (.Name y py) X.env (.ref acc)) _ _ s'
 obtain ⟨H3,P3,α3,vs,I3,r3,hn3,q1,q2,rp,hCn⟩:=fin s'.heap (Heap.SameBut.refl _ _)
 obtain ⟨r4,e4⟩:=r3.pure (o:=.lst vs) hn3
 have hCn' : (upd H3 acc (.lst vs)) C = none:=by rw [qAb (Ne.symm hne)]; exact hCn
 have fC:=I2.fpOk hC hCn'
 refine wpAny_assign_Name (qN8 I3 hN hy hyl (show qAY (V.ref acc) (Value.ref acc) from rfl) (fun s5 I5 ⟨a,sb,ha⟩ => ?_) hf)
 have hCa : C ≠ a:=by
  rcases ha with rfl | ha
  ·exact fC.2.1
  ·exact fun z => fC.2.2.2.2.1 _ _ ha z.symm
 refine ⟨m,hm.sameBut sb hCa,fun h' sb' => ?_⟩
 have I6 : Inv X pins (σ.set i (some (V.ref acc))) (upd H3 acc (.lst vs)) { s5 with heap:=h' }:=I5.turned (t':=s5.toks) (fun b o hb e => (sb'.2 b hb).trans e) hCn' fC.2.1 fC.2.2.2.1 fC.2.2.2.2.1 fC.2.2.2.2.2
 cases mm with
 | false =>
  refine ⟨_,_,I6,ok _ _ (upd P3 acc (.lst vs)) α3 r4 ?_ ((e1.trans q1).trans e4) (e2.trans q2)⟩
  exact ((re.mono e1 e2).mono (q1.trans e4) q2).set i (qNT (.inl (.inl qAz)) (qAL.mono e4 (List.prefix_refl _) _ _ rp))
 | true =>
  have hpre : α3 <+: α3 ++ [acc]:=List.prefix_append _ _
  have r5:=r3.new (o:=.lst vs) (m:=.lst ds) hn3 ⟨vs,qAz,qAL.mono (qAK.refl _) hpre _ _ rp⟩
  refine ⟨_,_,I6,ok _ _ P3 (α3 ++ [acc]) r5 ?_ (e1.trans q1) ((e2.trans q2).trans hpre)⟩
  refine ((re.mono e1 e2).mono q1 (q2.trans hpre)).set i ?_
  simp only [Rep]
  exact ⟨acc,rfl,by rw [← r3.len]; simp⟩
end
end _D
end
section
namespace _D
open PySem PySem.Spec PyProof.Rows _L
section
variable {prog : Program} {w : World} {A : Around} {E : Value → Shared → Prop} {s : Shared}
theorem qR9 {tp : Bool} {e it l : Addr} {i : Nat} {xs : Array Value} {x old : Value} {Q : Value → Shared → Prop} (he : IsEnum s.heap e it i old) (hit : qA7 tp s.heap it l i) (hl : qCU tp s.heap l xs) (hx : xs[i]? = some x) (ne : e ≠ it)
  (hQ : ∀ g,IsEnumOut g e it ((i : Int) + 1) x s.heap.objs.size → qA7 tp g it l (i + 1) → IsPair g s.heap.objs.size (.int i s.toks) x → g.objs.size = s.heap.objs.size + 1 → (∀ b o,b ≠ e → b ≠ it → s.heap.get? b = some o → g.get? b = some o) → Q (.ref s.heap.objs.size) { s with heap:=g,toks:=s.toks + 1 }) :
  wpAny (model prog w) A (Builtin.«enumerate.__next__» ⟨[.ref e],[]⟩) (fun fin s' => ∃ v,fin = .done (.ret v) ∧ Q v s') E s:=by
 obtain ⟨hp,gn,dr,tk,os⟩:=s
 show wpAny _ _ (field (.ref e) 2 >>= _) _ _ _; refine wpAny_bind (wpAny_field he rfl (x:=.ref it) rfl (wpAny_bind (qJU hit hl hx fun g1 i1 s1 => ?_)))
 replace s1 : Heap.SameBut it hp g1:=s1
 have e1 : IsEnum g1 e it i old:=(s1.2 e ne).trans he
 show wpAny _ _ (field (.ref e) 3 >>= _) _ _ ⟨g1,gn,dr,tk,os⟩; refine wpAny_bind (wpAny_field e1 rfl (x:=rawInt i) rfl ?_)
 show wpAny _ _ (field (.ref e) 4 >>= _) _ _ ⟨g1,gn,dr,tk,os⟩; refine wpAny_bind (wpAny_field e1 rfl (x:=.none) rfl ?_)
 show wpAny _ _ (mkInt i >>= _) _ _ ⟨g1,gn,dr,tk,os⟩; refine wpAny_bind (wpAny_mkInt ?_)
 show wpAny _ _ (setField (.ref e) 3 (rawInt ((i : Int) + 1)) >>= _) _ _ ⟨g1,gn,dr,tk + 1,os⟩
 refine wpAny_bind (wpAny_setField_rec e1 (by simp) fun g2 e2 s2 => ?_)
 replace s2 : Heap.SameBut e g1 g2:=s2
 replace e2 : IsEnum g2 e it ((i : Int) + 1) old:=e2
 show wpAny _ _ (setField (.ref e) 4 .none >>= _) _ _ ⟨g2,gn,dr,tk + 1,os⟩; refine wpAny_bind (wpAny_setField_rec e2 (by simp) fun g3 e3 s3 => ?_)
 replace s3 : Heap.SameBut e g2 g3:=s3
 replace e3 : IsEnum g3 e it ((i : Int) + 1) old:=e3
 show wpAny _ _ (newTuple [.int i tk,x] >>= _) _ _ ⟨g3,gn,dr,tk + 1,os⟩; refine wpAny_bind (wpAny_newTuple ?_)
 have e4 : IsEnum (g3.push { cls:=.type "tuple",data:=.seq #[.int i tk,x] }) e it ((i : Int) + 1) old:=Heap.get?_push_of_some _ e3
 generalize q4 : g3.push { cls:=.type "tuple",data:=.seq #[.int i tk,x] } = g4 at e4
 have sz : g3.objs.size = hp.objs.size:=by rw [s3.1,s2.1,s1.1]
 have el : e < hp.objs.size:=Heap.lt_size he
 have t4 : IsPair g4 hp.objs.size (.int i tk) x:=by rw [← q4,← sz]; exact Heap.get?_push_size _ rfl
 have z4 : g4.objs.size = hp.objs.size + 1:=by rw [← q4,Heap.size_push,sz]
 have k4 : ∀ b o,b ≠ e → b ≠ it → hp.get? b = some o → g4.get? b = some o:=fun b o b1 b2 q => by
  rw [← q4]; exact Heap.get?_push_of_some _ (s3.extBut b o b1 (s2.extBut b o b1 (s1.extBut b o b2 q)))
 have i4 : qA7 tp g4 it l (i + 1):=i1.keep fun o q => by rw [← q4]; exact Heap.get?_push_of_some _ (s3.extBut _ o ne.symm (s2.extBut _ o ne.symm q))
 show wpAny _ _ (Builtin.SmallTypes.ownedTupleIsFree (.ref e) >>= _) _ _ ⟨g4,gn,dr,tk + 1,os⟩
 rw [sz]
 refine wpAny_bind ?_; unfold Builtin.SmallTypes.ownedTupleIsFree
 refine wpAny_bind (wpAny_field e4 rfl (x:=.none) rfl (wpAny_pure ?_)); simp only [if_true]
 refine wpAny_bind (wpAny_rule (wpAny_bind (wpAny_field e4 rfl (x:=old) rfl (wpAny_bind (wpAny_setField_rec e4 (by simp) fun g5 e5 s5 => ?_)))))
 replace s5 : Heap.SameBut e g4 g5:=s5
 replace e5 : IsEnum g5 e it ((i : Int) + 1) x:=e5
 show wpAny _ _ (Builtin.SmallTypes.ownedTupleHandOut (.ref e) (.ref hp.objs.size) >>= _) _ _ ⟨g5,gn,dr,tk + 1,os⟩
 refine wpAny_bind ?_; unfold Builtin.SmallTypes.ownedTupleHandOut
 refine wpAny_bind (wpAny_setField_rec e5 (by simp) fun g6 e6 s6 => ?_)
 replace s6 : Heap.SameBut e g5 g6:=s6
 replace e6 : IsEnumOut g6 e it ((i : Int) + 1) x hp.objs.size:=e6
 refine wpAny_setField_rec e6 (by simp) fun g7 e7 s7 => ?_
 replace s7 : Heap.SameBut e g6 g7:=s7
 replace e7 : IsEnumOut g7 e it ((i : Int) + 1) x hp.objs.size:=e7
 have up : ∀ b o,b ≠ e → g4.get? b = some o → g7.get? b = some o:=fun b o b1 q => s7.extBut b o b1 (s6.extBut b o b1 (s5.extBut b o b1 q))
 exact wpAny_bind (wpAny_letGo (wpAny_pure ⟨_,rfl,hQ g7 e7 (i4.keep fun o q => up _ o ne.symm q) (up _ _ (Nat.ne_of_gt el) t4) (by rw [s7.1,s6.1,s5.1,z4]) fun b o b1 b2 q => up b o b1 (k4 b o b1 b2 q)⟩))
set_option maxHeartbeats 4000000 in
set_option tactic.hygienic true in
theorem qTo (tp : Bool) (l : Addr) (xs : Array Value) :
  Meets (Builtin.«enumerate.__new__» ⟨[.type "enumerate",.ref l],[]⟩) (fun _ R s => (∃ n dct sl,s.heap.get? l = some { cls:=.type (if tp then "tuple" else "list"),dict:=dct,data:=.seq xs n,slots:=sl }) ∧ R (.ok (.ret (.ref (s.heap.push (qFi tp l)).objs.size))) { s with heap:=(s.heap.push (qFi tp l)).push { cls:=.type "enumerate",data:=.fields #[.none,.bool false,.ref s.heap.objs.size,rawInt 0,.none,.none] } }) :=
 .of_wp fun prog w A R s h => by
  obtain ⟨hp,gn,dr,tk,os⟩:=s
  obtain ⟨⟨n,dct,sl,hl⟩,h⟩:=h
  have hsub:=sub_enumerate
  cases tp
  ·have L1 : Heap.IsList (Shared.heap ⟨hp,gn,dr,tk,os⟩) l xs:=⟨_,hl,rfl,n,rfl⟩
   wp_walk using AutoSeq1.wpAny_loadPart' hl
   refine wpAny_stack_any fun st => wpAny_pure ?_
   split
   ·rename_i c _ _ _ _ _
    cases (c == Value.type "enumerate") <;> (wp_walk using AutoSeq1.wpAny_loadPart' hl,wpAny_pyIter_list L1; exact ⟨_,rfl,h⟩)
   ·wp_walk using AutoSeq1.wpAny_loadPart' hl,wpAny_pyIter_list L1; exact ⟨_,rfl,h⟩
  ·have L1 : Heap.IsTuple (Shared.heap ⟨hp,gn,dr,tk,os⟩) l xs:=⟨_,hl,rfl,n,rfl⟩
   wp_walk using AutoSeq1.wpAny_loadPart' hl
   refine wpAny_stack_any fun st => wpAny_pure ?_
   split
   ·rename_i c _ _ _ _ _
    cases (c == Value.type "enumerate") <;> (wp_walk using AutoSeq1.wpAny_loadPart' hl,wpAny_pyIter_tuple L1; exact ⟨_,rfl,h⟩)
   ·wp_walk using AutoSeq1.wpAny_loadPart' hl,wpAny_pyIter_tuple L1; exact ⟨_,rfl,h⟩
theorem qRo {tp : Bool} {l : Addr} {xs : Array Value} {Q : Value → Shared → Prop} (hl : ∃ n dct sl,s.heap.get? l = some { cls:=.type (if tp then "tuple" else "list"),dict:=dct,data:=.seq xs n,slots:=sl })
  (h : ∀ g,IsEnum g (s.heap.objs.size + 1) s.heap.objs.size 0 .none → qA7 tp g s.heap.objs.size l 0 → (∀ b o,s.heap.get? b = some o → g.get? b = some o) → Q (.ref (s.heap.objs.size + 1)) { s with heap:=g }) :
  wpAny (model prog w) A (call (.type "enumerate") [.ref l]) Q E s:=by
 refine callType_new F.called_enumerate (by decide) (F.typeCall_enumerate_1 _) (F.newCall_enumerate_1 _) (fun obj => F.args_object_init_2 obj _) F.entry_enumerate_new (qTo tp l xs) ⟨hl,?_⟩
 have hz : (s.heap.push (qFi tp l)).objs.size = s.heap.objs.size + 1:=Heap.size_push ..
 show _ ∧ _
 have he : ((s.heap.push (qFi tp l)).push { cls:=.type "enumerate",data:=.fields #[.none,.bool false,.ref s.heap.objs.size,rawInt 0,.none,.none] }).get? (s.heap.push (qFi tp l)).objs.size = some _:=Heap.get?_push_size _ rfl
 rw [hz] at he ⊢
 exact ⟨⟨_,he,rfl⟩,h _ he (qJP (Heap.get?_push_of_some _ (Heap.get?_push_size _ rfl))) fun b o x => Heap.get?_push_of_some _ (Heap.get?_push_of_some _ x)⟩
end
end _D
end
section
namespace _D
open PySem PySem.Spec PyProof.Rows _L
noncomputable def Ite (tp : Bool) (K : PySem.W.Frag) (a : Addr) : It :=
  ⟨fun i H => ∃ xs x,Sq tp K H a xs ∧ xs[i]? = some x,
   fun i H v H' => ∃ T x,v = .ref T ∧ H T = none ∧ H' = upd H T (.tup [.int i,x]) ∧ ∀ xs,Sq tp K H a xs → xs[i]? = some x,
   fun i H => ∃ xs,Sq tp K H a xs ∧ xs.length ≤ i⟩
noncomputable def qRe (tp : Bool) (e it l : Addr) (k : Nat) (h : Heap) : Prop:=∃ old,IsEnum h e it k old ∧ qA7 tp h it l k
theorem qS5 {P : Program} {w : World} {K : PySem.W.Frag} {elts : List Expr} {x1 : Nat} {tpos : Pos} {tp : Bool} {e it a : Addr} (ne : e ≠ it) : Turn P w K (.Tuple elts x1 tpos) (Ite tp K a) [e,it] e (qRe tp e it a) where
 mem:=by simp
 obj:=fun k h st c hc => by
  obtain ⟨old,s1,s2⟩:=st
  simp only [List.mem_cons,List.not_mem_nil,or_false] at hc
  rcases hc with rfl | rfl
  ·exact ⟨_,s1,fun v y => by cases y⟩
  ·exact s2.there
 keep:=fun k h h' st kp => by
  obtain ⟨old,s1,s2⟩:=st
  exact ⟨old,kp e (by simp) _ s1,s2.keep fun o q => kp it (by simp) o q⟩
 item:=by
  intro X hP hw hK hc k pins s σ H E Iv hf st hg
  subst hP hw hK
  obtain ⟨old,s1,s2⟩:=st
  obtain ⟨xs,x,qa,hx⟩:=hg
  obtain ⟨ia,ra,ha⟩:=qa.at Iv
  obtain ⟨u,hu,ru⟩:=ra.get hx
  have hT : s.TypeIs (.ref e) "enumerate":=⟨_,s1,rfl⟩
  unfold pyNext
  refine wpAny_bind (wpAny_attempt (wpAny_callSpecial?_slot (name:=Str.ofString "__next__") hT F.slot_enumerate_next (wpAny_call_entry F.slot_enumerate_next hT F.entry_enumerate_next
   (qR9 s1 s2 ha (by simpa using hu) ne fun h' a1 a2 a3 a4 a5 => wpAny_pure ?_) (F.args_enumerate_next_1 _))))
  refine ⟨_,rfl,wpAny_letOwnedTupleGo_enum (s:={ s with heap:=h',toks:=s.toks + 1 }) a1 fun h2 b1 b2 => ?_⟩
  have up : ∀ c o,c ≠ e → h'.get? c = some o → h2.get? c = some o:=fun c o n q => (b2.2 c n).trans q
  have el : e < s.heap.objs.size:=Heap.lt_size s1
  have T2 : IsPair h2 s.heap.objs.size (.int k s.toks) u:=up _ _ (Nat.ne_of_gt el) a3
  have st2 : qRe tp e it a (k + 1) h2:=⟨u,b1,a2.keep fun o q => up _ o ne.symm q⟩
  refine ⟨.ref s.heap.objs.size,upd H s.heap.objs.size (.tup [.int k,x]),?_,rfl,⟨_,x,rfl,Iv.hok.fresh (Nat.le_refl _),rfl,fun zs qz => by rw [qz.inj Iv qa]; exact hx⟩,st2,fun c hc => ?_⟩
  ·have:=Inv.turnLay (fp:=[e,it]) (its:=[.int k s.toks,u]) (h':=h2) (xs:=[.int k,x]) Iv hf (fun c o hc q => by
    simp only [List.mem_cons,List.not_mem_nil,or_false,not_or] at hc
    exact up c o hc.1 (a5 c o hc.1 hc.2 q)) (fun c hc => by
    obtain ⟨old',t1,t2⟩:=st2
    simp only [List.mem_cons,List.not_mem_nil,or_false] at hc
    rcases hc with rfl | rfl
    ·exact ⟨_,t1⟩
    ·obtain ⟨o,q,_⟩:=t2.there; exact ⟨o,q⟩) (Nat.le_refl _) (.cons ⟨_,rfl⟩ (.cons ru .nil)) ⟨_,T2,rfl,_,rfl⟩ (by show 2 ≤ sizeLine; decide)
   exact this.tok (s.toks + 1)
  ·have hn:=(hf c hc).1
   rw [qAb ?_]
   ·exact hn
   ·rintro rfl
    obtain ⟨o,q,_⟩ : ∃ o,s.heap.get? s.heap.objs.size = some o ∧ True:=by
     simp only [List.mem_cons,List.not_mem_nil,or_false] at hc
     rcases hc with z | z
     ·exact ⟨_,z ▸ s1,trivial⟩
     ·obtain ⟨o,e',_⟩:=s2.there; exact ⟨o,z ▸ e',trivial⟩
    exact absurd (Heap.lt_size q) (Nat.lt_irrefl _)
 done:=by
  intro X hP hw hK hc k pins s σ H E Iv hf st hg
  subst hP hw hK
  obtain ⟨old,s1,s2⟩:=st
  obtain ⟨xs,qa,hend⟩:=hg
  obtain ⟨ia,ra,ha⟩:=qa.at Iv
  have hT : s.TypeIs (.ref e) "enumerate":=⟨_,s1,rfl⟩
  have l1:=ra.length
  unfold pyNext
  refine wpAny_bind (wpAny_attempt (wpAny_callSpecial?_slot (name:=Str.ofString "__next__") hT F.slot_enumerate_next (wpAny_call_entry F.slot_enumerate_next hT F.entry_enumerate_next ?_ (F.args_enumerate_next_1 _))))
  show wpAny _ _ (field (.ref e) 2 >>= _) _ _ _
  refine wpAny_bind (wpAny_field s1 rfl (x:=.ref it) rfl (wpAny_bind (qHY (Iv.ok.hd hc) s2 ha (by simp; omega) fun h' x kp hx' => ?_)))
  obtain ⟨o,ho,hcl⟩:=hx'
  refine wpAny_bind (wpAny_isInstance (T:="StopIteration") (b:=true) ⟨o,ho,hcl⟩ isSubtype_stop (wpAny_pure ⟨rfl,Inv.turnL (fp:=[e,it]) Iv hf fun c o hc q => ?_⟩))
  simp only [List.mem_cons,List.not_mem_nil,or_false,not_or] at hc
  exact kp c o hc.2 q
 self:=fun _ _ _ _ _ st h => by
  obtain ⟨old,s1,_⟩:=st
  exact wpAny_pyIter_enum s1 h
noncomputable def qER (xs : List D) : List D:=xs.mapIdx fun i x => D.tup [.int i,x]
noncomputable def qUm (ds : List D) : Option (List D):=match ds with
 | [.tup xs] => some (qER xs)
 | [.lst xs] => some (qER xs)
 | _ => none
noncomputable def qRF (f : DA) : DI:=fun env S => (f env S).bind fun ds S1 => qDn (qUm ds) S1
theorem qR8 (xs : List D) (i : Nat) : (qER xs)[i]? = (xs[i]?).map fun x => D.tup [.int i,x]:=by
 unfold qER
 rw [List.getElem?_mapIdx]
theorem qKE (xs : List D) : (qER xs).length = xs.length:=by simp [qER]
theorem qTy {K : PySem.W.Frag} {tp : Bool} {P : Hp} {α : List Addr} {a : Addr} {xs : List D} {vs : List V} (qa : Sq tp K P a vs) (ta : qAL K P α xs vs) : ItD K (Ite tp K a) P α (qER xs) where
 go:=fun i H P1 α1 S hi r e _ => by
  rw [qKE] at hi
  have h1 : i < vs.length:=by rw [← ta.length]; omega
  exact ⟨vs,vs[i],qa.mono (e.trans r.sub),by simp⟩
 yld:=fun i H x H' P1 α1 S hi r e e2 y => by
  obtain ⟨T,u,rfl,hT,rfl,hu⟩:=y
  rw [qKE] at hi
  obtain ⟨v1,z1,p1⟩:=ta.get (List.getElem?_eq_getElem hi)
  have eu:=hu vs (qa.mono (e.trans r.sub))
  rw [z1] at eu; cases eu
  obtain ⟨r1,s1⟩:=r.pure (o:=.tup [.int i,u]) hT
  refine ⟨_,.tup [.int i,xs[i]],?_,r1,s1,?_⟩
  ·rw [qR8,List.getElem?_eq_getElem hi]; rfl
  ·exact qNU (.of qAz) (.cons (by simp only [Rep]) (.cons (Rep.mono (e.trans s1) e2 _ _ p1) .nil))
 stop:=fun i H P1 α1 S hi r e _ => by
  rw [qKE] at hi
  have l1:=ta.length
  exact ⟨vs,qa.mono (e.trans r.sub),by omega⟩
section
variable {X : Cx} {e1 : Expr} {elts : List Expr} {x1 : Nat} {tpos : Pos} {f : DA} {p pos : Pos}
theorem Sq.obj {tp : Bool} {pins : List (Addr × Obj)} {σ : _L.St} {H : Hp} {s : Shared} {a : Addr} {xs : List V} (I : Inv X pins σ H s) (q : Sq tp X.K H a xs) : ∃ its : List Value,qAZ xs its ∧ ∃ n dct sl,s.heap.get? a = some { cls:=.type (if tp then "tuple" else "list"),dict:=dct,data:=.seq its.toArray n,slots:=sl }:=by
 obtain ⟨its,rv,h⟩:=q.at I
 refine ⟨its,rv,?_⟩
 cases tp with
 | true =>
  obtain ⟨o,ho,hc,n,hd⟩:=h
  obtain ⟨c,d,dt,sl⟩:=o
  dsimp only at hc hd
  subst hc; subst hd
  exact ⟨n,_,_,ho⟩
 | false =>
  obtain ⟨o,ho,hc,n,hd⟩:=h
  obtain ⟨c,d,dt,sl⟩:=o
  dsimp only at hc hd
  subst hc; subst hd
  exact ⟨n,_,_,ho⟩
theorem qQW {tp : Bool} {pins : List (Addr × Obj)} {σ : _L.St} {H P : Hp} {α : List Addr} {S : Sto} {s : Shared} {a : Addr} {xs : List D} {vs : List V} {R : It → Hp → Prop} (I : Inv X pins σ H s) (r : Rel X.K H P α S) (qa : Sq tp X.K P a vs) (ta : qAL X.K P α xs vs)
  (q : OkI X P α R (qER xs) S) : wpAny (model X.prog X.w) X.A (call (.type "enumerate") [.ref a]) (fun v s1 => wpAny (model X.prog X.w) X.A (pyIter v) (PIE X pins σ (.Tuple elts x1 tpos) R) X.xe s1) X.xe s:=by
 obtain ⟨ia,ra,ha⟩:=Sq.obj I (qa.mono r.sub)
 refine qRo (tp:=tp) ha fun h' z1 z2 z7 => ?_
 refine wpAny_pyIter_enum (s:={ s with heap:=h' }) z1 ?_
 refine ⟨_,[s.heap.objs.size + 1,s.heap.objs.size],_,_,H,rfl,I.kept (t':=s.toks) z7,qS5 (tp:=tp) (a:=a) (by intro z; simp at z),⟨_,z1,z2⟩,fun c hc => ?_,q _ _ P α r (qAK.refl _) (List.prefix_refl _) (qTy qa ta)⟩
 have hl : s.heap.objs.size ≤ c:=by
  simp only [List.mem_cons,List.not_mem_nil,or_false] at hc
  rcases hc with rfl | rfl <;> simp
 exact I.fpOk hl (I.hok.fresh hl)
theorem qMl : bootBuiltins "enumerate" = some (.type "enumerate"):=by decide +kernel
theorem qTn {ds its : List D} (h : qUm ds = some its) : ∃ d xs,ds = [d] ∧ ItV d xs ∧ its = qER xs:=by
 cases ds with
 | nil => exact nn h
 | cons d ds =>
  cases ds with
  | cons _ _ => cases d <;> exact nn h
  | nil =>
   cases d with
   | tup xs => exact ⟨_,xs,rfl,.tup rfl,(Option.some.inj h).symm⟩
   | lst xs => exact ⟨_,xs,rfl,.lst rfl,(Option.some.inj h).symm⟩
   | _ => exact nn h
theorem qVR (hg : Gl X "enumerate") (hm : X.mg "enumerate" = none) (ha : PA X [e1] (tDA X f)) (hs : autoParam (starEach [e1] X.env = (false,eval e1 X.env) :: starEach [] X.env) au3._auto_1) (hpl : autoParam ((backTo pos (starEach [] X.env)).any (·.1) = false) au3._auto_1) :
  PI X (.Tuple elts x1 tpos) (.Call (.Name "enumerate" p) [e1] [] pos) (tDI X (qRF f)):=by
 intro pins s σ H R I h
 obtain ⟨P,α,env,S,r,re,af⟩:=h
 refine Call_ (qF0 I hg hm qMl (PyProof.Rows.callWith_type1 (thn (qDL ha I r re af pos) fun us s1 ⟨vs,H1,P1,α1,ds,S1,I1,rv,r1,re1,rp,e1,e2,af1⟩ => ?_) hs hpl))
 obtain ⟨its,hi,q⟩:=qFW af1
 obtain ⟨d,xs,rfl,hd,rfl⟩:=qTn hi
 obtain ⟨v,u,rfl,rfl,p1,q1⟩:=qFl rp rv
 cases hd with
 | tup ed =>
  subst ed
  simp only [Rep] at p1
  obtain ⟨a,va,rfl,qa,ta⟩:=p1
  cases (show u = Value.ref a from q1)
  exact qQW (tp:=true) I1 r1 qa ta (q.base e1 e2)
 | lst ed =>
  subst ed
  simp only [Rep] at p1
  obtain ⟨a,va,rfl,qa,ta⟩:=p1
  cases (show u = Value.ref a from q1)
  exact qQW (tp:=false) I1 r1 qa.l ta (q.base e1 e2)
end
end _D
end
section
namespace _D
open PySem PySem.Spec PyProof.Rows _L
section
variable {X : Cx}
noncomputable def qCt : D → List D → Sto → Res D:=fun a ds S => match a,ds with
 | .loc n,[i,x] => match S[n]? with
  | some (.dct kvs) => match qE5 i with
   | some k => match qDD kvs k with
    | some d => .ok d S
    | none => if kvs.length < lim then .ok x (S.set n (.dct (qEg kvs k x))) else .bad
   | none => .bad
  | _ => .bad
 | _,_ => .bad
theorem qKn (a b c : Value) : argsOk "dict.setdefault" ⟨[a,b,c],[]⟩:=by unfold argsOk; kernel_rfl
inductive SdV (a : D) (ds : List D) (S : Sto) : Prop
 | bad (e : qCt a ds S = .bad)
 | of (n : Nat) (i x : D) (kvs : List (Key × D)) (k : Key) (ea : a = .loc n) (ed : ds = [i,x]) (hS : S[n]? = some (.dct kvs)) (hk : qE5 i = some k) (e : qCt a ds S = (match qDD kvs k with | some d => .ok d S | none => if kvs.length < lim then .ok x (S.set n (.dct (qEg kvs k x))) else .bad))
theorem sdV (a : D) (ds : List D) (S : Sto) : SdV a ds S:=by
 cases a with
 | loc n =>
  cases ds with
  | nil => exact .bad rfl
  | cons i ds =>
   cases ds with
   | nil => exact .bad rfl
   | cons x ds =>
    cases ds with
    | cons _ _ => exact .bad rfl
    | nil =>
     have z : qCt (.loc n) [i,x] S = (match S[n]? with | some (.dct kvs) => (match qE5 i with | some k => (match qDD kvs k with | some d => .ok d S | none => if kvs.length < lim then .ok x (S.set n (.dct (qEg kvs k x))) else .bad) | none => .bad) | _ => .bad):=rfl
     cases hS : S[n]? with
     | none => rw [hS] at z; exact .bad z
     | some m =>
      rw [hS] at z
      cases m with
      | dct kvs =>
       cases hk : qE5 i with
       | none => rw [hk] at z; exact .bad z
       | some k => rw [hk] at z; exact .of n i x kvs k rfl rfl hS hk z
      | _ => exact .bad z
 | _ => exact .bad rfl
theorem qSb : MtD X "dict.setdefault" qCt:=by
 intro pins σ H s P α S v vv vs us a ds Q I r rv p rvs rps af
 cases sdV a ds S with
 | bad e => rw [e] at af; exact False.elim af
 | of n i x kvs k ea ed hS hk e =>
  rw [e] at af
  subst ea ed
  clear e
  obtain ⟨vi,vx,ui,ux,rfl,rfl,pi,px,qi,qx⟩:=qKi rps rvs
  simp only [Rep] at p
  obtain ⟨b,rfl,q⟩:=p
  obtain ⟨ws,z,t⟩:=r.at' n b _ q hS
  cases qSS hk pi
  cases (show vv = Value.ref b from rv)
  obtain ⟨hz,hd,us',rel,dd⟩:=qRI I.hok z
  have hz' : us'.length ≤ sizeLine:=by rw [← rel.length]; exact hz
  obtain ⟨k1,k2⟩:=qQk (k:=k) t
  have er:=rel.val k
  refine call_meetsIn PySem.F.slot_dict_setdefault dd.typeIs PySem.F.entry_dict_setdefault (qKn _ _ _) (kt_meets_setdefault (qBP X.prog X.w) b (qRP qi) hd ux) ⟨us',dd,hz',fun v' hv' => ?_,fun hn h' dd' hs => ?_⟩
  ·cases hv : qDD kvs k with
   | none =>
    rw [k2 hv,hv'] at er
    exact False.elim er
   | some d =>
    obtain ⟨w',e1,e2⟩:=k1 d hv
    rw [hv] at af
    rw [e1,hv'] at er
    exact ⟨w',H,I.tok _,er,xr af r e2⟩
  ·cases hv : qDD kvs k with
   | some d =>
    obtain ⟨w',e1,e2⟩:=k1 d hv
    rw [e1,hn] at er
    exact False.elim er
   | none =>
    rw [hv] at af
    obtain ⟨hl,af⟩:=qEI (X:=X) af
    have hl' : (qE7 ws k vx).length ≤ sizeLine:=by
     have:=qIO ws k vx
     have e3:=qQh t
     rw [← qBR]; omega
    have he : ∃ q,h'.get? b = some q:=let ⟨q,_,_,hq,_⟩:=dd'; ⟨q,hq⟩
    have I':=qMv (t':=s.toks + 1) I (by rw [z]; exact True.intro) hs he (qR7 hl' hd (rel.put k qx) dd')
    exact ⟨vx,_,I',qx,af _ _ P α (r.put (m':=.dct (qEg kvs k x)) q hS (by intro z; cases z) ⟨_,qAz,qQi px t⟩) (qAK.refl _) (List.prefix_refl _) px⟩
noncomputable def qFh : List D → Option (List Int)
 | [] => some []
 | .int i :: r => (qFh r).map (i :: ·)
 | _ :: _ => none
theorem qSL (ns : List Int) : qFh (ns.map D.int) = some ns:=by
 induction ns with
 | nil => rfl
 | cons n r ih => exact congrArg (Option.map (n :: ·)) ih
theorem qLR : ∀ {ds : List D} {ns : List Int},qFh ds = some ns → ds = ns.map D.int
 | [],ns,h => by cases h; rfl
 | d :: r,ns,h => by
  cases d with
  | int i =>
   obtain ⟨m,h1,rfl⟩:=Option.map_eq_some_iff.mp (show (qFh r).map (i :: ·) = some ns from h)
   rw [qLR h1]; rfl
  | _ => exact nn h
theorem qKJ {K : PySem.W.Frag} {P : Hp} {α : List Addr} : ∀ {ns : List Int} {vs : List V},qAL K P α (ns.map D.int) vs → vs = ns.map V.int
 | [],vs,r => by rw [r.nil_inv]; rfl
 | n :: ns,vs,r => by
  obtain ⟨w,ws,rfl,p,t⟩:=r.cons_inv
  simp only [Rep] at p
  rw [p,qKJ t]; rfl
noncomputable def qa1 : G2:=fun a b S => match a,b with
 | .tup xs,.tup ys => match qFh xs,qFh ys with
  | some ns,some ms => .ok (.bl (_H.lexLt ns ms)) S
  | _,_ => .bad
 | _,_ => gLt a b S
noncomputable def qKF : G2:=fun a b S => match a,b with
 | .tup xs,.tup ys => match qFh xs,qFh ys with
  | some ns,some ms => .ok (.bl (_H.lexLt ms ns)) S
  | _,_ => .bad
 | _,_ => gGt a b S
end
section
open PySem.SeqAt
open PySem.AutoSeq1 (wpAny_loadPart')
open PySem.MeetsSeq PySem.MeetsSeq2 PySem.MeetsSeq3
theorem qUN (A : Around) (s : Shared) (a : Int) (t : Tok) (c : Int) (u : Tok) (prog : Program) (w : World) (E : Value → Shared → Prop) (Q : Value → Shared → Prop) (h : Q (.bool (decide (a > c))) s) :
  wpAny (model prog w) A (richCompare .Gt (.int a t) (.int c u)) Q E s :=
 (PyProof.Rows.gt_int h : wpAny (model prog w) A (compareOp .Gt (.int a t) (.int c u)) Q E s)
theorem qOS (l b : Addr) (items items2 : Array Value) (n n2 : Nat) (dd dd2 : Option Addr) (sl sl2 : Array (Option Value)) (ns ms : List Int) (hi : IntsAre items.toList ns) (hj : IntsAre items2.toList ms) :
  Meets (Builtin.«tuple.__gt__» ⟨[.ref l,.ref b],[]⟩)
   (fun _ R s => s.heap.get? l = some { cls:=.type "tuple",dict:=dd,data:=.seq items n,slots:=sl } ∧ s.heap.get? b = some { cls:=.type "tuple",dict:=dd2,data:=.seq items2 n2,slots:=sl2 } ∧
    R (.ok (.ret (.bool (_H.lexLt ms ns)))) s) :=
 .of_wp fun prog w A R s h => by
  obtain ⟨hp,g,d,tk,os⟩:=s; obtain ⟨hl,hb,h⟩:=h
  have f2:=AutoSeq1.sub_tuple_tuple
  have z1 : items.size = ns.length:=by rw [← hi.length]; simp
  have z2 : items2.size = ms.length:=by rw [← hj.length]; simp
  wp_walk using wpAny_loadPart' hl,wpAny_loadPart' hb,wpAny_forIn_list _ (fun rest b s' => b.1 = none ∧ s' = ⟨hp,g,d,tk,os⟩ ∧ ∃ (vs ws : List Value) (ns' ms' : List Int),rest = vs.zip ws ∧
   IntsAre vs ns' ∧ IntsAre ws ms' ∧ ns'.length + items2.size = ms'.length + items.size ∧ R (.ok (.ret (.bool (_H.lexLt ms' ns')))) ⟨hp,g,d,tk,os⟩) _
  case turn =>
   rintro ⟨y,x⟩ rest b s' ⟨hb',rfl,vs,ws,ns',ms',hz,hvi,hwi,hlen,hR⟩
   cases hvi with
   | nil => rw [List.zip_nil_left] at hz; cases hz
   | cons a t hvi' =>
    cases hwi with
    | nil => rw [List.zip_nil_right] at hz; cases hz
    | cons c u hwi' =>
     rw [List.zip_cons_cons] at hz
     injection hz with hyx hrest
     injection hyx with hy hx
     subst hy hx
     rw [_H.lexLt_cons] at hR
     simp only [List.length_cons] at hlen
     obtain ⟨e,he,hiff⟩:=_H.eqAt_int A.in1 ⟨hp,g,d,tk,os⟩ a t c u
     refine wpAny_bind (he prog w _ _ ?_)
     cases e with
     | true =>
      rw [if_pos (hiff.mp rfl).symm] at hR
      wp_walk
      exact ⟨rfl,rfl,_,_,_,_,hrest,hvi',hwi',by omega,hR⟩
     | false =>
      rw [if_neg (fun q => absurd (hiff.mpr q.symm) Bool.false_ne_true)] at hR
      have hri:=qUN A.in1 ⟨hp,g,d,tk,os⟩ a t c u prog w
      wp_walk using hri
      exact ⟨_,rfl,by simpa using hR⟩
  case fin =>
   rintro ⟨b1,b2⟩ s' ⟨hb',rfl,vs,ws,ns',ms',hz,hvi,hwi,hlen,hR⟩
   simp only at hb'
   subst hb'
   have hv : _H.lexLt ms' ns' = decide (items2.size < items.size):=by
    cases hvi with
    | nil =>
     cases hwi with
     | nil =>
      simp only [List.length_nil] at hlen
      rw [_H.lexLt_nil_nil]
      exact (decide_eq_false (by omega)).symm
     | cons c u hw =>
      simp only [List.length_nil,List.length_cons] at hlen
      rw [_H.lexLt_cons_nil]
      exact (decide_eq_false (by omega)).symm
    | cons a t hv =>
     cases hwi with
     | nil =>
      simp only [List.length_nil,List.length_cons] at hlen
      rw [_H.lexLt_nil_cons]
      exact (decide_eq_true (by omega)).symm
     | cons c u hw =>
      rw [List.zip_cons_cons] at hz
      cases hz
   rw [hv] at hR
   wp_walk
   exact ⟨_,rfl,by simpa [Builtin.Tuple.tupleCompareSizes] using hR⟩
  case h =>
   exact ⟨rfl,rfl,items.toList,items2.toList,ns,ms,rfl,hi,hj,by omega,h⟩
end
section
variable {X : Cx}
theorem qRL {prog : Program} {w : World} {A : Around} {E : Value → Shared → Prop} {s : Shared} {l b : Addr} {items items2 : Array Value} {ns ms : List Int} {Q : Value → Shared → Prop} (hl : IsTup s.heap l items) (hb : IsTup s.heap b items2) (hi : IntsAre items.toList ns) (hj : IntsAre items2.toList ms)
  (hu : A.units < cLine) (h : Q (.bool (_H.lexLt ms ns)) s) : wpAny (model prog w) A (compareOp .Gt (.ref l) (.ref b)) Q E s:=by
 obtain ⟨⟨cls,dd,data,sl⟩,ho,hc,n,hd⟩:=id hl
 obtain ⟨⟨cls2,dd2,data2,sl2⟩,ho2,hc2,n2,hd2⟩:=id hb
 simp only at hc hd hc2 hd2
 subst hc hd hc2 hd2
 exact richCompare_meets_room (op:=.Gt) ⟨_,ho,rfl⟩ ⟨_,ho2,rfl⟩ PySem.F.slot_tuple_gt PySem.F.entry_tuple_gt (PySem.F.args_tuple_gt_2 _ _) (qOS l b items items2 n n2 dd dd2 sl sl2 ns ms hi hj)
  ⟨ho,ho2,show Value.bool (_H.lexLt ms ns) ≠ Value.notImplemented ∧ Q (.bool (_H.lexLt ms ns)) s from ⟨(fun x => nomatch x),h⟩⟩ hu
theorem qP4 {pins : List (Addr × Obj)} {σ : _L.St} {H P : Hp} {α : List Addr} {S : Sto} {s : Shared} {xs : List D} {v : V} {vv : Value} {ns : List Int} (I : Inv X pins σ H s) (r : Rel X.K H P α S) (rv : qAY v vv) (p : Rep X.K P α (.tup xs) v) (h : qFh xs = some ns) :
  ∃ a its,vv = .ref a ∧ IsTup s.heap a (List.toArray its) ∧ IntsAre its ns:=by
 have:=qLR h
 subst this
 obtain ⟨a,vs,its,rfl,q1,t1,rv1,h1,l1,_⟩:=qI4 I r p
 have:=qKJ t1
 subst this
 exact ⟨a,its,rv,h1,by simpa using qL8 rv1⟩
set_option tactic.hygienic true in
theorem qYB (hu : X.A.units < cLine) : OpD X (compareOp .Gt) qKF:=by
 intro pins σ H s P α S v u vv uu a b Q I r rv ru pa pb af
 unfold qKF at af
 split at af
 ·rename_i xs ys
  split at af
  ·rename_i ns ms h1 h2
   obtain ⟨a,its,rfl,t1,i1⟩:=qP4 I r rv pa h1
   obtain ⟨b,its2,rfl,t2,i2⟩:=qP4 I r ru pb h2
   exact qRL t1 t2 (by simpa using i1) (by simpa using i2) hu ⟨.bl _,H,I,rfl,xr af r (by simp only [Rep])⟩
  ·exact False.elim af
 ·exact qZe pins σ H s P α S v u vv uu a b Q I r rv ru pa pb af
end
end _D
end
section
namespace _D
open PySem PySem.Spec PyProof.Rows _L
section
variable {K : PySem.W.Frag} {H P : Hp} {α : List Addr} {S : Sto}
theorem Rel.still {a : Addr} {n : Nat} {m : MO} {o : HO} (r : Rel K H P α S) (ha : α[n]? = some a) (hs : S[n]? = some m) (hd : m ≠ .dead) : Rel K (upd H a o) (upd P a o) α (S.set n .dead) ∧ qAK P (upd P a o):=by
 have hP:=r.sep n a m ha hs hd
 have sP : qAK P (upd P a o):=qJb hP
 have r1:=r.put (o:=o) (m':=.dead) ha hs hd trivial
 have hn : n < S.length:=(List.getElem?_eq_some_iff.mp hs).1
 refine ⟨⟨fun b u e => ?_,r1.len,r1.nd,fun i b u q1 q2 q3 => ?_,fun i b u q1 q2 => (r1.at' i b u q1 q2).mono sP (List.prefix_refl _),r1.own⟩,sP⟩
 ·by_cases hb : b = a
  ·subst hb; rw [qAz] at e ⊢; exact e
  ·rw [qAb hb] at e ⊢; exact r.sub _ _ e
 ·have hb : b ≠ a:=by
   rintro rfl
   have:=qN0 r.nd q1 ha
   subst this
   rw [List.getElem?_set_self hn] at q2
   cases q2
   exact q3 rfl
  rw [qAb hb]
  exact r1.sep i b u q1 q2 q3
end
noncomputable def Itv (a : Addr) (o : Obj) (vs : List V) : It :=
 ⟨fun i H => (∃ u,H a = some (.frz o u)) ∧ i < vs.length,fun i H x H' => H' = H ∧ vs[i]? = some x,fun i H => (∃ u,H a = some (.frz o u)) ∧ vs.length ≤ i⟩
theorem qS6 {P : Program} {w : World} {K : PySem.W.Frag} {tg : Expr} {a it : Addr} {o : Obj} {vs : List (Key × V)} {us : List (Key × Value)} {ep : Nat} (kv : KV vs us) (at' : ∀ h : Heap,h.get? a = some o → h.DictAt (qBP P w) a us ep) :
  Turn P w K tg (Itv a o (vs.map (·.2))) [it] it (fun i h => h.IsValIter it a i us.length ep) where
 mem:=by simp
 obj:=fun i h st b hb => by
  have e : b = it:=by simpa using hb
  subst e
  obtain ⟨o,e,c,d⟩:=st
  exact ⟨o,e,fun v z => by rw [d] at z; cases z⟩
 keep:=fun i h h' st k => st.at fun o e => k it (by simp) o e
 item:=by
  intro X hP hw hK hc i pins s σ H E I hf st hg
  subst hP hw hK
  obtain ⟨⟨u0,hu⟩,hlt⟩:=hg
  have ho : s.heap.get? a = some o:=(I.hok a _ hu).1
  have hlt' : i < vs.length:=by simpa using hlt
  have get : ∀ {vs : List (Key × V)} {us : List (Key × Value)},KV vs us → ∀ {i : Nat} (h : i < vs.length),∃ k u,us[i]? = some (k,u) ∧ qAY (vs[i]).2 u:=by
   intro vs us kv
   induction kv with
   | nil => intro i h; simp at h
   | cons z t ih =>
    intro i h
    cases i with
    | zero => exact ⟨_,_,rfl,z.2⟩
    | succ i =>
     obtain ⟨k,u,e1,e2⟩:=ih (i:=i) (by simpa using h)
     exact ⟨k,u,by simpa using e1,by simpa using e2⟩
  obtain ⟨k,u,e1,e2⟩:=get kv hlt'
  obtain ⟨f0,f1,f2,f3,f4,f5⟩:=hf it (by simp)
  refine wpAny_pyNext_values_item st (at' _ ho) e1 fun h' st' sb => ?_
  have I1 : Inv X pins σ H { s with heap:=h' }:=I.turned (t':=s.toks) (fun b o hb e => (sb.2 b hb).trans e) f0 f1 f3 f4 f5
  obtain ⟨oi,ei,c,d⟩:=id st'
  exact ⟨u,rfl,qOX (s:={ s with heap:=h' }) ei c d (by decide) ⟨(vs[i]).2,H,I1,e2,⟨rfl,by simp [hlt']⟩,st',fun b hb => (hf b hb).1⟩⟩
 done:=by
  intro X hP hw hK hc i pins s σ H E I hf st hg
  subst hP hw hK
  obtain ⟨⟨u0,hu⟩,hle⟩:=hg
  have ho : s.heap.get? a = some o:=(I.hok a _ hu).1
  obtain ⟨f0,f1,f2,f3,f4,f5⟩:=hf it (by simp)
  have hl:=kv.length
  have hle' : us.length ≤ i:=by rw [← hl]; simpa using hle
  exact wpAny_pyNext_values_end (I.ok.hd hc) st (at' _ ho) (by simp; omega) fun h' eb => ⟨rfl,I.turned (t':=s.toks) (fun b o hb e => eb b o hb e) f0 f1 f3 f4 f5⟩
 self:=fun _ _ _ _ _ st h => wpAny_pyIter_valiter st h
noncomputable def qLt (f : DE) : DI:=fun env S => (f env S).bind fun d S1 => match d with
 | .loc n => match S1[n]? with
  | some (.dct kvs) => .ok (kvs.map (·.2)) (S1.set n .dead)
  | _ => .bad
 | _ => .bad
theorem qQj {K : PySem.W.Frag} {P : Hp} {α : List Addr} : ∀ {kvs : List (Key × D)} {vs : List (Key × V)},KVs K P α kvs vs → qAL K P α (kvs.map (·.2)) (vs.map (·.2))
 | _,_,.nil => .nil
 | _,_,.cons z t => .cons z.2 (qQj t)
theorem qT0 {K : PySem.W.Frag} {P : Hp} {α : List Addr} {a : Addr} {o : Obj} {u : HO} {ds : List D} {vs : List V} (q : P a = some (.frz o u)) (t : qAL K P α ds vs) : ItD K (Itv a o vs) P α ds where
 go:=fun i H P1 α1 S hi r e _ => ⟨⟨u,r.sub _ _ (e _ _ q)⟩,by rw [← t.length]; exact hi⟩
 yld:=fun i H x H' P1 α1 S hi r e e2 y => by
  obtain ⟨rfl,hx⟩:=y
  obtain ⟨v,h1,h2⟩:=t.get (List.getElem?_eq_getElem hi)
  rw [hx] at h1; cases h1
  exact ⟨P1,_,List.getElem?_eq_getElem hi,r,qAK.refl _,Rep.mono e e2 _ _ h2⟩
 stop:=fun i H P1 α1 S hi r e _ => ⟨⟨u,r.sub _ _ (e _ _ q)⟩,by rw [← t.length]; exact hi⟩
section
variable {X : Cx} {tg o : Expr} {fo : DE} {apos cpos : Pos}
theorem qS9 {S : Sto} {n : Nat} {kvs : List (Key × D)} (h : S[n]? = some (.dct kvs)) : tyD (.loc n) S = some "dict":=by
 show (match S[n]? with | some (.lst _) => some "list" | some (.dct _) => some "dict" | _ => none) = _
 rw [h]
set_option tactic.hygienic true in
theorem qVT (ho : PE X o (tD X fo)) (hbase : autoParam (attributeBase o "values" X.env (eval o X.env) = eval o X.env) au3._auto_1) (hline : autoParam ((apos.endLine == cpos.line) = true) au3._auto_1) : PI X tg (.Call (.Attribute o "values" apos) [] [] cpos) (tDI X (qLt fo)):=by
 intro pins s σ H R I h
 obtain ⟨P,α,env,S,r,re,af⟩:=h
 refine wpAny_Call_method0_late hbase hline (thn (qBr ho I r re af) fun vv s1 ⟨v,H1,P1,α1,d,S1,G1,af1⟩ => ?_)
 cases d with
 | loc n =>
  simp only at af1
  split at af1
  ·rename_i kvs hS
   have rp:=G1.rep
   have I1:=G1.inv
   have r1:=G1.rel
   have ht : tyD (.loc n) S1 = some "dict":=qS9 hS
   obtain ⟨h1,h2⟩:=qS7 I1 G1.val (qS8 r1 rp ht (by simp))
   simp only [Rep] at rp
   obtain ⟨a,rfl,ha⟩:=rp
   cases (show vv = Value.ref a from G1.val)
   obtain ⟨vs,z,t⟩:=r1.at' n a _ ha hS
   obtain ⟨hz,hd,us,rel,dd⟩:=qRI I1.hok z
   refine ⟨"dict","dict.values",PySem.F.plainAttrs_dict,PySem.F.slot_dict_values,PySem.F.type_dict_values,h1,h2,Calls.callWith_builtin rfl (PySem.evalArgs_none ?_)⟩
   refine call_meetsIn PySem.F.slot_dict_values dd.typeIs PySem.F.entry_dict_values (PySem.F.args_dict_values_1 _) (meets_dict_values (qBP X.prog X.w) a hd) ⟨⟨us,dd⟩,?_⟩
   obtain ⟨ep,oa,es,hoa,rest⟩:=dd.dictAt
   have at' : ∀ h : Heap,h.get? a = some oa → h.DictAt (qBP X.prog X.w) a us ep:=fun h e => ⟨oa,es,e,rest⟩
   have hne : s1.heap.objs.size ≠ a:=Nat.ne_of_gt (Heap.lt_size hoa)
   obtain ⟨r2,e2⟩:=r1.still (o:=.frz oa (.dK vs)) ha hS (by intro q; cases q)
   have I2 : Inv X pins σ (upd H1 a (.frz oa (.dK vs))) { s1 with heap:=s1.heap,toks:=s1.toks }:=I1.write (x:=a) (e:=a) (by rw [z]; exact True.intro) (.inl rfl) (fun b q hb e => e) ⟨oa,hoa⟩ ⟨hoa,hz,hd,us,rel,dd⟩
   have I3:=I2.kept (t':=s1.toks) (h':=s1.heap.push { cls:=.type "dict_values",data:=.fields #[.ref a] }) fun b u e => Heap.get?_push_of_some _ e
   refine wpAny_pyIter_values (s:={ s1 with heap:=s1.heap.push { cls:=.type "dict_values",data:=.fields #[.ref a] } }) (knd:=qBP X.prog X.w) (d:=a) (kvs:=us) (ep:=ep) ⟨_,Heap.get?_push_size _ rfl,rfl,rfl⟩ (at' _ (Heap.get?_push_of_some _ hoa)) ?_
   have I4:=I3.kept (t':=s1.toks) (h':=(s1.heap.push { cls:=.type "dict_values",data:=.fields #[.ref a] }).push { cls:=.type "dict_valueiterator",data:=.fields #[.ref a,.int 0 0,.int us.length 0,.int ep 0] }) fun b u e => Heap.get?_push_of_some _ e
   refine ⟨_,[_],_,_,_,rfl,I4,qS6 rel at',⟨_,Heap.get?_push_size _ rfl,rfl,rfl⟩,fun b hb => ?_,af1 _ _ _ α1 r2 (G1.same.trans e2) G1.pre (qT0 (u:=.dK vs) qAz (qAL.mono e2 (List.prefix_refl _) _ _ (qQj t)))⟩
   have e : b = (s1.heap.push { cls:=.type "dict_values",data:=.fields #[.ref a] }).objs.size:=by simpa using hb
   subst e
   exact I3.fpOk (Nat.le_refl _) (I3.hok.fresh (Nat.le_refl _))
  ·exact False.elim af1
 | _ => exact False.elim af1
end
end _D
end
section
namespace _D
open PySem PySem.Spec PyProof.Rows _L
section
variable {X : Cx}
noncomputable def qJH : G2:=fun a b S => match a,b with
 | .lst xs,.int k => if 0 ≤ k ∧ k < 2 ^ 62 ∧ xs.length * k.toNat ≤ lim then .ok (.lst (List.replicate k.toNat xs).flatten) S else .bad
 | _,_ => qCY a b S
theorem qPs {K : PySem.W.Frag} {P : Hp} {α : List Addr} {ds : List D} {vs : List V} (r : qAL K P α ds vs) : ∀ k : Nat,qAL K P α (List.replicate k ds).flatten (List.replicate k vs).flatten
 | 0 => by simpa using qAL.nil
 | k + 1 => by
  rw [List.replicate_succ,List.replicate_succ,List.flatten_cons,List.flatten_cons]
  exact r.append (qPs r k)
inductive MulV (a b : D) (S : Sto) : Prop
 | old (e : qJH a b S = qCY a b S)
 | of (xs : List D) (k : Int) (ea : a = .lst xs) (eb : b = .int k)
theorem qaU (a b : D) (S : Sto) : MulV a b S:=by
 cases a with
 | lst xs => cases b with
  | int k => exact .of xs k rfl rfl
  | _ => exact .old rfl
 | _ => exact .old rfl
theorem qV7 : OpD X (binaryOp .Mult) qJH:=by
 intro pins σ H s P α S v u vv uu a b Q I r rv ru pa pb af
 cases qaU a b S with
 | old e =>
  rw [e] at af
  exact qQr pins σ H s P α S v u vv uu a b Q I r rv ru pa pb af
 | of xs k ea eb =>
  subst ea eb
  obtain ⟨hk,af⟩:=qEI (X:=X) af
  obtain ⟨h1,h2,hz⟩:=hk
  obtain ⟨l,vs,its,n,rfl,q1,t1,rv1,e,l1,_⟩:=qHX I r pa
  cases (show vv = Value.ref l from rv)
  have:=qB2 pb
  subst this
  obtain ⟨t,rfl⟩:=ru
  have hl : its.length = vs.length:=rv1.length.symm
  have hlen : its.toArray.size * k.toNat ≤ sizeLine:=by rw [List.size_toArray,← l1,← qBR]; exact hz
  have hcap : ¬ its.toArray.size * k.toNat > (2 ^ 63 - 1) / 8:=by
   have : (sizeLine : Nat) ≤ (2 ^ 63 - 1) / 8:=by decide
   omega
  have hfit : ¬ (!Builtin.List.listFitsIndex k) = true:=by
   rw [fitsIndex_both (by omega) (by omega)]
   exact Bool.false_ne_true
  have hlong : ¬ Builtin.List.listTooLong (its.toArray.size * k.toNat) = true:=by
   rw [qT8 hlen]
   exact Bool.false_ne_true
  have hnew : List.foldl (fun x1 x2 => x1 ++ x2) #[] (List.replicate (if its.toArray.isEmpty = true then 0 else k.toNat) its.toArray) = (List.replicate k.toNat its).flatten.toArray:=by
   have f0 : ∀ m : Nat,List.foldl (fun x1 x2 => x1 ++ x2) #[] (List.replicate m its.toArray) = (List.replicate m its).flatten.toArray:=fun m => by
    have:=qNu its m []
    rw [List.nil_append] at this
    exact this
   rw [f0]
   cases its with
   | nil => simp
   | cons a r' => rw [if_neg (by simp)]
  refine wpAny_binaryOp_repeat_ref (T:="list") (U:="int") (by decide) ⟨_,e,rfl⟩ (fun s' => typeIs_int s' k t) noFill_list_mul F.fills_int_mul F.slot_int_rmul repeat_list F.slot_int_index.lookup
   (call_meets F.slot_int_rmul (typeIs_int s k t) F.entry_int_rmul (F.args_int_rmul_2 _ _) (int___rmul___int_list k t l its.toArray n)
    ⟨e,rfl,⟨_,e,rfl⟩,call_meets F.slot_list_mul ⟨_,e,rfl⟩ F.entry_list_mul (F.args_list_mul_2 _ _) (AutoListH.list___mul___list_int_3 l its.toArray n k t hfit hcap hlong) ⟨e,?_⟩⟩)
  rw [hnew]
  exact qPR I r (qPs t1 k.toNat) (rv1.rep k.toNat) (by rw [qV2,Nat.mul_comm]; exact hz) af
noncomputable def qL1 : G2:=fun a b S => match a,b with
 | .tup xs,.tup ys => if xs.length + ys.length ≤ lim then .ok (.tup (xs ++ ys)) S else .bad
 | _,_ => qRJ a b S
theorem qOK : typeLookup (.type "tuple") (dunderI "add") = pure none:=by rw [typeLookup_type,builtinLookup_eq_fast]; kernel_rfl
inductive AddTV (a b : D) (S : Sto) : Prop
 | old (e : qL1 a b S = qRJ a b S)
 | tt (xs ys : List D) (ea : a = .tup xs) (eb : b = .tup ys)
theorem qZB (a b : D) (S : Sto) : AddTV a b S:=by
 cases a with
 | tup xs => cases b with
  | tup ys => exact .tt xs ys rfl rfl
  | _ => exact .old rfl
 | _ => exact .old rfl
theorem qTw : IpD X .Add qL1:=by
 intro pins s σ H x y v u Q I rx ry h
 obtain ⟨P,α,S,a,b,r,pa,pb,af⟩:=h
 cases qZB a b S with
 | old e =>
  rw [e] at af
  exact qVn pins s σ H x y v u Q I rx ry ⟨P,α,S,a,b,r,pa,pb,af⟩
 | tt xs ys ea eb =>
  subst ea eb
  obtain ⟨hl,af⟩:=qEI (X:=X) af
  obtain ⟨a,vs,its,rfl,q1,t1,rv1,h1,l1,_⟩:=qI4 I r pa
  obtain ⟨b,ws,its2,rfl,q2,t2,rv2,h2,l2,_⟩:=qI4 I r pb
  cases rx
  cases ry
  obtain ⟨⟨cls,dd,data,sl⟩,ho,hc,n,hd⟩:=id h1
  obtain ⟨⟨cls2,dd2,data2,sl2⟩,ho2,hc2,n2,hd2⟩:=id h2
  simp only at hc hd hc2 hd2
  subst hc hd hc2 hd2
  refine wpAny_inplaceOp_concat ⟨_,ho,rfl⟩ ⟨_,ho2,rfl⟩ qOK noFill_tuple_add seq_tuple_add ?_
  have e : its.toArray ++ its2.toArray = (its ++ its2).toArray:=by simp
  by_cases hx : its = []
  ·have hxs : xs = []:=by cases xs with | nil => rfl | cons _ _ => rw [hx] at l1; simp at l1
   subst hxs
   exact call_meets PySem.F.slot_tuple_add ⟨_,ho,rfl⟩ PySem.F.entry_tuple_add (PySem.F.args_tuple_add_2 _ _) (tuple_addW0 a b its.toArray its2.toArray n n2 dd dd2 sl sl2 (by simp [hx]))
    ⟨ho,ho2,⟨.ref b,H,I,rfl,xr af r (by rw [List.nil_append]; exact pb)⟩⟩
  ·by_cases hy : its2 = []
   ·have hys : ys = []:=by cases ys with | nil => rfl | cons _ _ => rw [hy] at l2; simp at l2
    exact call_meets PySem.F.slot_tuple_add ⟨_,ho,rfl⟩ PySem.F.entry_tuple_add (PySem.F.args_tuple_add_2 _ _) (tuple_addW1 a b its.toArray its2.toArray n n2 dd dd2 sl sl2 (by simpa using hx) (by simp [hy]))
     ⟨ho,ho2,⟨.ref a,H,I,rfl,xr af r (by rw [hys,List.append_nil]; exact pa)⟩⟩
   ·refine call_meets PySem.F.slot_tuple_add ⟨_,ho,rfl⟩ PySem.F.entry_tuple_add (PySem.F.args_tuple_add_2 _ _)
     (tuple_addW2 a b its.toArray its2.toArray n n2 dd dd2 sl sl2 (by simpa using hx) (by simpa using hy) (by rw [List.size_toArray,List.size_toArray,← l1,← l2,← qBR]; exact hl)) ⟨ho,ho2,?_⟩
    rw [e]
    exact qPS I r (t1.append t2) (rv1.append rv2) (by rw [List.length_append]; exact hl) af
noncomputable def qUf (X : Cx) (cm : Bool) (k : Nat) (f : Addr) (p : Nat × DF) : Prop:=∃ fd ps,PySem.W.keepIn X.K (.ref f) = true ∧ qEt X.K fd ps [] ∧ FnX X.prog X.w X.K X.mg X.base cm k f fd ps (spD X.K p.1 p.2)
inductive TabL (X : Cx) (cm : Bool) (k : Nat) : List Expr → List (Nat × DF) → Prop
 | nil : TabL X cm k [] []
 | cons {x : Str} {p : Pos} {n : Nat} {F : DF} {es : List Expr} {Fs : List (Nat × DF)} : Def X.prog X.w X.K X.mg X.base cm k x n F → Gl X x → (x == ("__debug__" : Str)) = false → TabL X cm k es Fs → TabL X cm k (.Name x p :: es) ((n,F) :: Fs)
noncomputable def flA : List Addr → DA
 | [] => qAF
 | f :: fs => qAA (dC (.obj f)) (flA fs)
theorem qXh (fs : List Addr) (env : qAH) (S : Sto) : flA fs env S = .ok (fs.map D.obj) S:=by
 induction fs with
 | nil => rfl
 | cons f fs ih => simp [flA,qAA,dC,Res.bind,ih]
theorem qY0 {cm : Bool} {k : Nat} {es : List Expr} {Fs : List (Nat × DF)} (h : TabL X cm k es Fs) : ∃ fs,PA X es (tDA X (flA fs)) ∧ fs.length = Fs.length ∧ ∀ (i : Nat) (p : Nat × DF),Fs[i]? = some p → ∃ f,fs[i]? = some f ∧ qUf X cm k f p:=by
 induction h with
 | nil => exact ⟨[],qRv,rfl,fun i p e => by simp at e⟩
 | @cons x p n F es Fs G hg hd _ ih =>
  obtain ⟨fs,h1,h2,h3⟩:=ih
  obtain ⟨f,fd,ps,hn,hm,kp,hb,hl,G⟩:=G
  refine ⟨f :: fs,qQU (qR3 hg hm kp hd) h1,by simp [h2],fun i q e => ?_⟩
  cases i with
  | zero =>
   simp at e; subst e
   exact ⟨f,rfl,fd,ps,kp,hb,G⟩
  | succ i =>
   obtain ⟨f',e1,e2⟩:=h3 i q (by simpa using e)
   exact ⟨f',by simpa using e1,e2⟩
noncomputable def qMu (Fs : List (Nat × DF)) (fi : DE) (fa : DA) : DE:=fun env S => (fi env S).bind fun d S1 => match d with
 | .int k => match atI Fs k with
  | some p => (fa env S1).bind fun ds S2 => if ds.length = p.1 then p.2 ds S2 else .bad
  | none => .bad
 | _ => .bad
inductive TabR (X : Cx) (cm : Bool) (k : Nat) (P : Hp) (α : List Addr) (Q : VK) (fa : DA) (env : qAH) (v : V) (H1 : Hp) : Prop
 | mk (P1 : Hp) (α1 : List Addr) (S1 : Sto) (f : Addr) (p : Nat × DF) (r : Rel X.K H1 P1 α1 S1) (e1 : qAK P P1) (e2 : α <+: α1) (hv : v = .ref f) (g : qUf X cm k f p) (af : qAR X P α ((fa env S1).bind fun ds S2 => if ds.length = p.1 then p.2 ds S2 else .bad) (OkV X P α Q)) : TabR X cm k P α Q fa env v H1
theorem qXI {cm : Bool} {k : Nat} {es : List Expr} {Fs : List (Nat × DF)} {ie e : Expr} {rest : List Expr} {lp sp pos : Pos} {fi : DE} {fa : DA} (T : TabL X cm k es Fs) (hr : RoomC cm k X.A) (hF : Fn1 X) (hl : Fs.length ≤ lim) (hi : PE X ie (tD X fi)) (ha : PA X (e :: rest) (tDA X fa)) (hs : autoParam (qIS ie) au6._auto_1)
  (he : autoParam (starEach (e :: rest) X.env = (false,eval e X.env) :: starEach rest X.env) au3._auto_1) (hpl : autoParam ((backTo pos (starEach rest X.env)).any (·.1) = false) au3._auto_1) : PE X (.Call (.Subscript (.List es lp) ie sp) (e :: rest) [] pos) (tD X (qMu Fs fi fa)):=by
 obtain ⟨fs,hpa,hfl,hgood⟩:=qY0 T
 have key : PE X (.Subscript (.List es lp) ie sp) (tD X (d2 gIx (qBK (flA fs)) fi)):=qUl qXo (qR5 hpa) hi hs
 intro pins s σ H Q I h
 obtain ⟨P,α,env,S,r,re,af⟩:=h
 refine Call_ (thn (key pins s σ H (TabR X cm k P α Q fa env) I ⟨P,α,env,S,r,re,?_⟩) fun vv s1 ⟨v,H1,I1,rv,P1,α1,S1,f,p,r1,e1,e2,hv,⟨fd,ps,kp,hb,G⟩,af1⟩ => ?_)
 ·have hll : (fs.map D.obj).length ≤ lim:=by rw [List.length_map,hfl]; exact hl
  have ev : d2 gIx (qBK (flA fs)) fi env S = (fi env S).bind fun y S2 => gIx (.lst (fs.map D.obj)) y S2:=by
   simp only [d2,qBK,qXh,Res.bind,hll,if_true]
  rw [ev]
  unfold qMu at af
  cases q : fi env S with
  | bad => rw [q] at af; exact af
  | ex c x S' => rw [q] at af; exact af
  | ok d S1 =>
   rw [q] at af
   simp only [Res.bind] at af ⊢
   cases d with
   | int kk =>
    simp only at af
    cases hp : atI Fs kk with
    | none => rw [hp] at af; exact False.elim af
    | some p =>
     rw [hp] at af
     unfold atI at hp
     cases hj : ixN Fs.length kk with
     | none => rw [hj] at hp; cases hp
     | some j =>
      rw [hj] at hp
      obtain ⟨f,ef,gf⟩:=hgood j p hp
      have ea : atI (fs.map D.obj) kk = some (.obj f):=by
       unfold atI
       rw [List.length_map,hfl,hj]
       simp [ef]
      simp only [gIx,ea,qDn]
      intro v H' P' α' r' e1 e2 rp
      simp only [Rep] at rp
      exact ⟨P',α',S1,f,p,r',e1,e2,rp.1,gf,af⟩
   | _ => exact False.elim af
 ·subst hv
  cases (show vv = Value.ref f from rv)
  refine PySem.W.callWith_K (h₀:=X.base) I.ok.mod.kin kp (thn (qDL ha I1 r1 (re.mono e1 e2) (qAR.base' e1 e2 (fun d S ok v H' P' α' r' q1 q2 q3 => ok v H' P' α' r' (e1.trans q1) (e2.trans q2) q3) af1) pos) fun us s2 ⟨vs,H2,P2,α2,ds,S2,I2,rv2,r2,re2,rp,e3,e4,af2⟩ => ⟨I2.kIn,?_⟩) he hpl
  have af3 : qAR X P1 α1 (if ds.length = p.1 then p.2 ds S2 else .bad) (OkV X P1 α1 Q):=af2
  by_cases hn : ds.length = p.1
  ·rw [if_pos hn] at af3
   exact qNX G hr hb hF I2 r2 rv2 rp hn (qAr.base e3 e4 af3)
  ·rw [if_neg hn] at af3; exact False.elim af3
noncomputable def qIG (ns : List Int) : Nat:=(ns.foldl step_dedup []).length
theorem qJp (ns : List Int) : firstMet (fun i => ns.getD i 0) ns.length = ns.foldl step_dedup []:=by
 unfold firstMet
 congr 1
 apply List.ext_getElem?
 intro i
 rw [List.getElem?_map]
 by_cases h : i < ns.length
 ·simp [h]
 ·simp [h]
noncomputable def qFN (f : DE) : DE:=fun env S => (f env S).bind fun d S1 => match d with
 | .lst xs => match qFh xs with
  | some ns => if ns.length < 4000 then .ok (.int (qIG ns)) S1 else .bad
  | none => .bad
 | _ => .bad
theorem qTJ : bootBuiltins "set" = some (.type "set"):=by decide +kernel
variable {e : Expr} {fa : DE} {p1 p2 pos1 pos2 : Pos}
set_option tactic.hygienic true in
theorem qR4 (hc : X.calm = true) (hg : Gl X "len") (hm : X.mg "len" = none) (hg2 : Gl X "set") (hm2 : X.mg "set" = none) (ha : PE X e (tD X fa)) (he : autoParam (starEach [e] X.env = (false,eval e X.env) :: starEach [] X.env) au3._auto_1) :
  PE X (.Call (.Name "len" p1) [.Call (.Name "set" p2) [e] [] pos2] [] pos1) (tD X (qFN fa)):=by
 intro pins s σ H Q I h
 obtain ⟨P,α,env,S,r,re,af⟩:=h
 refine wpAny_Call_Name_kw (qF0 I hg hm qDK ?_)
 refine PyProof.Rows.callWith_builtin1 ?_ rfl rfl
 refine Calls.spliced_cons ?_
 refine Call_ (qF0 I hg2 hm2 qTJ (PyProof.Rows.callWith_type1 ?_ he rfl))
 rw [he]
 refine Calls.spliced_cons (thn (qBr ha I r re af) fun vv s1 ⟨v,H1,P1,α1,d,S1,G1,af1⟩ => Calls.spliced_nil ?_)
 cases d with
 | lst xs =>
  simp only at af1
  split at af1
  ·rename_i ns hn
   split at af1
   ·rename_i hlt
    have:=qLR hn
    subst this
    obtain ⟨a,vs,its,n,rfl,q1,t1,rv1,e1,l1,_⟩:=qHX G1.inv G1.rel G1.rep
    cases (show vv = Value.ref a from G1.val)
    have:=qKJ t1
    subst this
    have hi : IntsAre its ns:=by simpa using qL8 rv1
    have hlen : its.length = ns.length:=hi.length
    have hsz : its.toArray.size = ns.length:=by rw [List.size_toArray]; exact hlen
    refine call_set_list (ns:=ns) (G1.inv.ok.hd hc) ⟨_,e1,rfl,n,rfl⟩ (by simpa using hi) (by rw [hsz]; have : scanBound = 4096:=rfl; omega) fun h' tk hS hk => ?_
    rw [hsz,qJp] at hS
    obtain ⟨o,es,ep,t,ho,hex,hd,hel,hmem,hsb,hf,hes⟩:=hS
    have I2 : Inv X pins σ H1 { s1 with heap:=h',toks:=tk }:=G1.inv.kept fun b u eq => hk b u (Heap.lt_size eq) eq
    have hdl : (ns.foldl step_dedup []).length ≤ ns.length:=by rw [← qJp]; exact firstMet_length_le _ _
    refine Calls.spliced_nil (call_len_set (s:={ s1 with heap:=h',toks:=tk }) ho hex hd hf (by rw [hes]; omega) ?_)
    rw [hes]
    exact ⟨.int _,H1,I2.tok _,⟨_,rfl⟩,af1 _ H1 P1 α1 G1.rel G1.same G1.pre (by simp only [Rep]; rfl)⟩
   ·exact False.elim af1
  ·exact False.elim af1
 | _ => exact False.elim af1
end
end _D
end
section
namespace _D
open PySem PySem.Spec PyProof.Rows _L
structure QI2 (X : Cx) (tg it : Expr) (f : DI2) : Prop where
 get : PI X tg it (tDI2 X f)
structure QK (Y : Cx) (step : Value → Sem Unit) (k : DK) : Prop where
 get : PK Y step k
structure ZTab (X : Cx) (cm : Bool) (k : Nat) (es : List Expr) (Fs : List (Nat × DF)) : Prop where
 get : TabL X cm k es Fs
section
variable {X Y : Cx} {tg it e o elt iter ie : Expr} {es ifs rest : List Expr} {fa fo fe fi : DE} {fA : DA} {fI : DI} {f2 : DI2} {g : DG} {t : DT} {kk : DK} {p pos : Pos} {n k : Nat} {x : Str} {cm : Bool} {F : DF} {f : DS} {gens grest : List Comprehension} {scope : Scope} {N' : List Str} {cap : List (Option Nat)} {mm : Bool}
theorem qMQ (h : QI X tg it fI) : QI2 X tg it (qDX fI):=⟨qVS h.1⟩
theorem qDm (h : QE X e fa) : QI2 X tg e (dIt fa):=⟨qZK h.1⟩
theorem qWO {e1 : Expr} {elts : List Expr} {x1 : Nat} {tpos : Pos} (hg : Gl X "enumerate") (hm : X.mg "enumerate" = none) (ha : QA X [e1] fA) (hs : autoParam (starEach [e1] X.env = (false,eval e1 X.env) :: starEach [] X.env) au3._auto_1) (hpl : autoParam ((backTo pos (starEach [] X.env)).any (·.1) = false) au3._auto_1) :
  QI X (.Tuple elts x1 tpos) (.Call (.Name "enumerate" p) [e1] [] pos) (qRF fA):=⟨qVR hg hm ha.1 hs hpl⟩
theorem qWP {apos : Pos} (ho : QE X o fo) (hbase : autoParam (attributeBase o "values" X.env (eval o X.env) = eval o X.env) au3._auto_1) (hline : autoParam ((apos.endLine == pos.line) = true) au3._auto_1) : QI X tg (.Call (.Attribute o "values" apos) [] [] pos) (qLt fo):=⟨qVT ho.1 hbase hline⟩
theorem qWQ {body : List Stmt} (hp : ZPass X) (hc : X.calm = true) (hi : QI2 X tg iter f2) (hg : QG X tg g) (hb : QB X body f) (hs : autoParam (∀ x,foldedSetIterable iter X.env x = pure x) au4._auto_1) : QS X (.For tg iter body [] pos) (qMT f2 g f):=⟨qVY hp.1 hc hi.1 hg.1 hb.1 hs⟩
theorem qCS (hx : Y.xe = fun _ _ => False) (hlast : gens[k + 1]? = none) (he : QE Y elt fe) : QK Y (fun acc => qBe elt gens scope pos k acc Y.env) (qAy fe):=⟨qWI hx hlast he.1⟩
theorem qUy (hc : Y.calm = true) (hx : Y.xe = fun _ _ => False) (hgk : gens[k + 1]? = some ⟨tg,iter,ifs,0⟩) (has : ∀ g',gens[k + 1 + 1]? = some g' → g'.is_async = 0) (hi : QI2 Y tg iter f2) (hg : QG Y tg g) (ht : QTs Y ifs t) (he : QK Y (fun acc => qBe elt gens scope pos (k + 1) acc Y.env) kk) (hs : ∀ x,foldedSetIterable iter Y.env x = pure x) :
  QK Y (fun acc => qBe elt gens scope pos k acc Y.env) (kIn f2 g t kk):=⟨qZr hc hx hgk has hi.1 hg.1 ht.1 he.1 hs⟩
theorem qDl (hc : X.calm = true) (S : CompSc X.env.scope X.N scope N' cap) (hi : QI2 X tg iter f2) (hg : ∀ cl C ex s₀ H₀,QG (qAw X N' scope cl C ex s₀ H₀) tg g) (ht : ∀ cl C ex s₀ H₀,QTs (qAw X N' scope cl C ex s₀ H₀) ifs t)
  (has : ∀ g',(⟨tg,iter,ifs,0⟩ :: grest : List Comprehension)[0 + 1]? = some g' → g'.is_async = 0)
  (he : ∀ cl C ex s₀ H₀,QK (qAw X N' scope cl C ex s₀ H₀) (fun acc => qBe elt (⟨tg,iter,ifs,0⟩ :: grest) scope pos 0 acc (qAw X N' scope cl C ex s₀ H₀).env) kk) (hs : ∀ x,foldedSetIterable iter X.env x = pure x) :
  QE X (.ListComp elt (⟨tg,iter,ifs,0⟩ :: grest) scope pos) (qA1 mm cap f2 g t kk) :=
 ⟨qTc hc S hi.1 (fun cl C ex s H => (hg cl C ex s H).1) (fun cl C ex s H => (ht cl C ex s H).1) has (fun cl C ex s H => (he cl C ex s H).1) hs⟩
theorem qJY {m : Nat} {y : Str} {py spos : Pos} (hc : X.calm = true) (hN : X.N.Nodup) (S : CompSc X.env.scope X.N scope N' cap) (hi : QI2 X tg iter f2) (hg : ∀ cl C ex s₀ H₀,QG (qAw X N' scope cl C ex s₀ H₀) tg g) (ht : ∀ cl C ex s₀ H₀,QTs (qAw X N' scope cl C ex s₀ H₀) ifs t)
  (has : ∀ g',(⟨tg,iter,ifs,0⟩ :: grest : List Comprehension)[0 + 1]? = some g' → g'.is_async = 0)
  (he : ∀ cl C ex s₀ H₀,QK (qAw X N' scope cl C ex s₀ H₀) (fun acc => qBe elt (⟨tg,iter,ifs,0⟩ :: grest) scope pos 0 acc (qAw X N' scope cl C ex s₀ H₀).env) kk) (hy : X.N[m]? = some y) (hyl : Loc X.env.scope y) (hf : X.fn y = true ∨ X.env.scope.names.lookup y = some .local)
  (hsw : swapsWith (.ListComp elt (⟨tg,iter,ifs,0⟩ :: grest) scope pos) (some (.Name y py)) spos.line X.env = pure true) (hs : ∀ x,foldedSetIterable iter X.env x = pure x) : QS X (.Assign [.Name y py] (.ListComp elt (⟨tg,iter,ifs,0⟩ :: grest) scope pos) spos) (qBE (qA1 mm cap f2 g t kk) (gNm m)) :=
 ⟨qTh hc hN S hi.1 (fun cl C ex s H => (hg cl C ex s H).1) (fun cl C ex s H => (ht cl C ex s H).1) has (fun cl C ex s H => (he cl C ex s H).1) hy hyl hf hsw hs⟩
theorem qUe : ZTab X cm k [] []:=⟨.nil⟩
theorem qKV {Fs : List (Nat × DF)} (G : Def X.prog X.w X.K X.mg X.base cm k x n F) (hg : Gl X x) (hd : (x == ("__debug__" : Str)) = false) (h : ZTab X cm k es Fs) : ZTab X cm k (.Name x p :: es) ((n,F) :: Fs):=⟨.cons G hg hd h.1⟩
theorem qYl {Fs : List (Nat × DF)} {lp sp : Pos} (T : ZTab X cm k es Fs) (hr : RoomC cm k X.A) (hF : Fn1 X) (hl : Fs.length ≤ lim) (hi : QE X ie fi) (ha : QA X (e :: rest) fA) (hs : autoParam (qIS ie) au6._auto_1)
  (he : autoParam (starEach (e :: rest) X.env = (false,eval e X.env) :: starEach rest X.env) au3._auto_1) (hpl : autoParam ((backTo pos (starEach rest X.env)).any (·.1) = false) au3._auto_1) : QE X (.Call (.Subscript (.List es lp) ie sp) (e :: rest) [] pos) (qMu Fs fi fA):=⟨qXI T.1 hr hF hl hi.1 ha.1 hs he hpl⟩
theorem qN4 {p1 p2 pos1 pos2 : Pos} (hc : X.calm = true) (hg : Gl X "len") (hm : X.mg "len" = none) (hg2 : Gl X "set") (hm2 : X.mg "set" = none) (ha : QE X e fa) (he : autoParam (starEach [e] X.env = (false,eval e X.env) :: starEach [] X.env) au3._auto_1) :
  QE X (.Call (.Name "len" p1) [.Call (.Name "set" p2) [e] [] pos2] [] pos1) (qFN fa):=⟨qR4 hc hg hm hg2 hm2 ha.1 he⟩
theorem qUZ : ZMt X "dict.setdefault" qCt:=⟨qSb⟩
theorem qU3 (hr : RoomC cm k X.A) : ZOp X (compareOp .Gt) qKF:=⟨qYB (by have:=hu1 hr; omega)⟩
theorem qZA : ZOp X (binaryOp .Mult) qJH:=⟨qV7⟩
theorem qWi : ZIp X .Add qL1:=⟨qTw⟩
noncomputable def qIh : DF:=fun ds S => match ds with
 | [.loc n] => match S[n]? with
  | some (.lst xs) => .ok (.tup xs) S
  | _ => .bad
 | _ => qPH ds S
inductive TupM (ds : List D) (S : Sto) : Prop
 | old (e : qIh ds S = qPH ds S)
 | loc (n : Nat) (ed : ds = [.loc n])
theorem qam (ds : List D) (S : Sto) : TupM ds S:=by
 cases ds with
 | nil => exact .old rfl
 | cons d ds =>
  cases d with
  | loc n =>
   cases ds with
   | nil => exact .loc n rfl
   | cons _ _ => exact .old rfl
  | _ => exact .old rfl
theorem qRq : qEN X (.type "tuple") qIh:=by
 intro pins σ H s P α S vs us ds Q I r rv rp af
 cases qam ds S with
 | old e => rw [e] at af; exact qTN pins σ H s P α S vs us ds Q I r rv rp af
 | loc n ed =>
  subst ed
  obtain ⟨xs,hS,af⟩:=qHZ (X:=X) (f:=fun xs => Res.ok (D.tup xs) S) af
  obtain ⟨v,u,rfl,rfl,p,q⟩:=qFl rp rv
  simp only [Rep] at p
  obtain ⟨a,rfl,ha⟩:=p
  obtain ⟨ws,z,t⟩:=r.at' n a _ ha hS
  exact qF6 pins s σ H _ _ Q I rv ⟨a,ws,rfl,.inl ⟨SqL.of z,fun b hb => qHb r hb t af⟩⟩
theorem qUa : ZCall X (.type "tuple") qIh:=⟨qRq⟩
end
section
variable {X : Cx} {scope : Scope} {N' : List Str} {cl : List (Str × Addr)} {C : Addr} {ex : List Addr} {s₀ : Shared} {H₀ : Hp} {x : Str}
theorem qBf (h : scope.names.lookup x = some .local) : (qAw X N' scope cl C ex s₀ H₀).env.scope.names.lookup x = some .local:=by
 rcases qEs (env:=X.env) h with g | ⟨e,_⟩
 ·exact g
 ·cases e
end
end _D
end
section
namespace _D
open PySem
noncomputable def Nx (o : Out) (Q : qAH → Sto → Prop) : Prop:=∃ env S,o = .nx env S ∧ Q env S
noncomputable def Rt (o : Out) (Q : D → Sto → Prop) : Prop:=∃ d S,o = .rt d S ∧ Q d S
noncomputable def Ok {β : Type} (r : Res β) (Q : β → Sto → Prop) : Prop:=∃ d S,r = .ok d S ∧ Q d S
theorem qBm {o : Out} {Q : qAH → Sto → Prop} {env : qAH} {S : Sto} (h : o = .nx env S) (q : Q env S) : Nx o Q:=⟨env,S,h,q⟩
theorem qZ0 {o : Out} {Q : D → Sto → Prop} {d : D} {S : Sto} (h : o = .rt d S) (q : Q d S) : Rt o Q:=⟨d,S,h,q⟩
theorem qA5 {β : Type} {r : Res β} {Q : β → Sto → Prop} {d : β} {S : Sto} (h : r = .ok d S) (q : Q d S) : Ok r Q:=⟨d,S,h,q⟩
theorem qCb {f g : DS} {env : qAH} {S : Sto} {Q : qAH → Sto → Prop} (h : Nx (f env S) fun env1 S1 => Nx (g env1 S1) Q) : Nx (qAc f g env S) Q:=by
 obtain ⟨env1,S1,e,env2,S2,e2,q⟩:=h
 exact ⟨env2,S2,by unfold qAc; rw [e]; exact e2,q⟩
theorem qA0 {f g : DS} {env : qAH} {S : Sto} {Q : D → Sto → Prop} (h : Nx (f env S) fun env1 S1 => Rt (g env1 S1) Q) : Rt (qAc f g env S) Q:=by
 obtain ⟨env1,S1,e,env2,S2,e2,q⟩:=h
 exact ⟨env2,S2,by unfold qAc; rw [e]; exact e2,q⟩
theorem qDy {t : DT} {f g : DS} {env : qAH} {S S1 : Sto} {b : Bool} {Q : qAH → Sto → Prop} (h : t env S = .ok b S1) (k : Nx ((if b then f else g) env S1) Q) : Nx (sIf t f g env S) Q:=by
 obtain ⟨env2,S2,e2,q⟩:=k
 refine ⟨env2,S2,?_,q⟩
 unfold sIf
 rw [h]
 cases b <;> exact e2
theorem qBZ {f : DE} {i : Nat} {env : qAH} {S : Sto} {Q : qAH → Sto → Prop} (h : Ok (f env S) fun d S1 => Q (env.set i (some d)) S1) : Nx (qBE f (gNm i) env S) Q:=by
 obtain ⟨d,S1,e,q⟩:=h
 exact ⟨_,S1,by unfold qBE gNm; rw [e]; rfl,q⟩
theorem qIv {f : DE} {env : qAH} {S : Sto} {Q : qAH → Sto → Prop} (h : Ok (f env S) fun _ S1 => Q env S1) : Nx (qB3 f env S) Q:=by
 obtain ⟨d,S1,e,q⟩:=h
 exact ⟨_,S1,by unfold qB3; rw [e]; rfl,q⟩
theorem qF4 {f : DE} {env : qAH} {S : Sto} {Q : D → Sto → Prop} (h : Ok (f env S) Q) : Rt (qAs f env S) Q:=by
 obtain ⟨d,S1,e,q⟩:=h
 exact ⟨_,S1,by unfold qAs; rw [e]; rfl,q⟩
theorem qEJ {fi : DI} {g : DG} {f : DS} {env : qAH} {S S1 : Sto} {ds : List D} {Q : qAH → Sto → Prop} (h : fi env S = .ok ds S1) (k : Nx (qFk g f ds env S1) Q) : Nx (qEh fi g f env S) Q:=by
 obtain ⟨env2,S2,e2,q⟩:=k
 exact ⟨env2,S2,by unfold qEh; rw [h]; exact e2,q⟩
theorem qDP {g : DG} {f : DS} {Q : qAH → Sto → Prop} (I : List D → qAH → Sto → Prop) (turn : ∀ d ds env S,I (d :: ds) env S → ∃ env1 S1,g d env S = .ok env1 S1 ∧ Nx (f env1 S1) (I ds)) (last : ∀ env S,I [] env S → Q env S) :
  ∀ {ds : List D} {env : qAH} {S : Sto},I ds env S → Nx (qFk g f ds env S) Q
 | [],env,S,h => ⟨env,S,rfl,last env S h⟩
 | d :: ds,env,S,h => by
  obtain ⟨env1,S1,e1,env2,S2,e2,h2⟩:=turn d ds env S h
  obtain ⟨env3,S3,e3,q⟩:=qDP I turn last (ds:=ds) h2
  refine ⟨env3,S3,?_,q⟩
  unfold qFk
  simp only [e1,Res.toS,e2]
  exact e3
theorem qV5 {fi : DI2} {g : DG} {f : DS} {env : qAH} {S S1 : Sto} {o : Option (Nat × MO)} {ds : List D} {Q : qAH → Sto → Prop} (h : fi env S = .ok (o,ds) S1) (k : Nx (qCv o g f ds env S1) Q) : Nx (qMT fi g f env S) Q:=by
 obtain ⟨env2,S2,e2,q⟩:=k
 exact ⟨env2,S2,by unfold qMT; rw [h]; exact e2,q⟩
theorem qPY {o : Option (Nat × MO)} {g : DG} {f : DS} {Q : qAH → Sto → Prop} (I : List D → qAH → Sto → Prop) (hI : ∀ ds env S,I ds env S → stn o S) (turn : ∀ d ds env S,I (d :: ds) env S → ∃ env1 S1,g d env S = .ok env1 S1 ∧ Nx (f env1 S1) (I ds)) (last : ∀ env S,I [] env S → Q env S) :
  ∀ {ds : List D} {env : qAH} {S : Sto},I ds env S → Nx (qCv o g f ds env S) Q
 | [],env,S,h => ⟨env,S,by unfold qCv; rw [if_pos (qCk.mpr (hI _ _ _ h))],last env S h⟩
 | d :: ds,env,S,h => by
  obtain ⟨env1,S1,e1,env2,S2,e2,h2⟩:=turn d ds env S h
  obtain ⟨env3,S3,e3,q⟩:=qPY I hI turn last (ds:=ds) h2
  refine ⟨env3,S3,?_,q⟩
  unfold qCv
  rw [if_pos (qCk.mpr (hI _ _ _ h))]
  simp only [e1,Res.toS,e2]
  exact e3
theorem qPZ {t : DT} {f : DS} {Q : qAH → Sto → Prop} (I : Nat → qAH → Sto → Prop) (turn : ∀ n env S,I n env S → ∃ b S1,t env S = .ok b S1 ∧ (if b then Nx (f env S1) (fun env2 S2 => ∃ m,m < n ∧ I m env2 S2) else Q env S1)) :
  ∀ {n : Nat} {env : qAH} {S : Sto},n < big → I n env S → Nx (qKQ t f env S) Q:=by
 have key : ∀ N n env S,n < N → I n env S → Nx (qFA t f N env S) Q:=by
  intro N
  induction N with
  | zero => intro n env S h; omega
  | succ N ih =>
   intro n env S h hI
   obtain ⟨b,S1,e1,k⟩:=turn n env S hI
   cases b with
   | false =>
    refine ⟨env,S1,?_,by simpa using k⟩
    unfold qFA
    rw [e1]
    rfl
   | true =>
    simp only [if_true] at k
    obtain ⟨env2,S2,e2,m,hm,hI2⟩:=k
    obtain ⟨env3,S3,e3,q⟩:=ih m env2 S2 (by omega) hI2
    refine ⟨env3,S3,?_,q⟩
    unfold qFA
    rw [e1]
    simp only [Res.toS,if_true,e2]
    exact e3
 exact fun {n env S} h hI => key big n env S h hI
theorem qGl {o : Option (Nat × MO)} {g : DG} {t : DT} {k : DK} (out : D → List D) (C : qAH → Sto → Prop) (hC : ∀ env S,C env S → stn o S) :
  ∀ (items : List D) (env : qAH) (S : Sto) (acc : List D),C env S → acc.length + (items.flatMap out).length ≤ lim →
  (∀ d ∈ items,∀ env S acc,C env S → acc.length + (out d).length ≤ lim → ∃ env1 S1 b S2,g d env S = .ok env1 S1 ∧ t env1 S1 = .ok b S2 ∧ ((b = false ∧ out d = [] ∧ C env1 S2) ∨ (b = true ∧ ∃ env3 S3,k env1 S2 acc = .ok (env3,acc ++ out d) S3 ∧ C env3 S3))) →
  ∃ env' S',goL o g t k items env S acc = .ok (env',acc ++ items.flatMap out) S' ∧ C env' S'
 | [],env,S,acc,h,hl,_ => ⟨env,S,by simp [goL,qCk.mpr (hC _ _ h)],h⟩
 | d :: ds,env,S,acc,h,hl,step => by
  rw [List.flatMap_cons,List.length_append] at hl
  obtain ⟨env1,S1,b,S2,e1,e2,r⟩:=step d (List.mem_cons_self ..) env S acc h (by omega)
  have hst:=qCk.mpr (hC _ _ h)
  rcases r with ⟨rfl,h0,h2⟩ | ⟨rfl,env3,S3,e3,h3⟩
  ·obtain ⟨env',S',e,q⟩:=qGl out C hC ds env1 S2 acc h2 (by omega) fun d hd => step d (List.mem_cons_of_mem _ hd)
   refine ⟨env',S',?_,q⟩
   simp only [goL,hst,if_true,e1,e2,Res.bind,Bool.false_eq_true,if_false,List.flatMap_cons,h0,List.nil_append]
   exact e
  ·obtain ⟨env',S',e,q⟩:=qGl out C hC ds env3 S3 (acc ++ out d) h3 (by rw [List.length_append]; omega) fun d hd => step d (List.mem_cons_of_mem _ hd)
   refine ⟨env',S',?_,q⟩
   simp only [goL,hst,if_true,e1,e2,Res.bind,e3,List.flatMap_cons]
   rw [e,List.append_assoc]
theorem qFR {fe : DE} {env : qAH} {S S1 : Sto} {acc : List D} {x : D} (h : fe env S = .ok x S1) (hl : acc.length < lim) : qAy fe env S acc = .ok (env,acc ++ [x]) S1:=by
 unfold qAy
 rw [h]
 simp [Res.bind,hl]
theorem qFw {cap : List (Option Nat)} {fi : DI2} {g : DG} {t : DT} {k : DK} {env env' : qAH} {S S1 S' : Sto} {o : Option (Nat × MO)} {items ds : List D} (h : fi env S = .ok (o,items) S1) (e : goL o g t k items (qBT cap env) S1 [] = .ok (env',ds) S') : qA1 false cap fi g t k env S = .ok (.lst ds) S':=by
 unfold qA1
 rw [h]
 simp only [Res.bind,e,mkM]
 rfl
theorem qNo {cap : List (Option Nat)} {fi : DI2} {g : DG} {t : DT} {k : DK} {env env' : qAH} {S S1 S' : Sto} {o : Option (Nat × MO)} {items ds : List D} (h : fi env S = .ok (o,items) S1) (e : goL o g t k items (qBT cap env) S1 [] = .ok (env',ds) S') : qA1 true cap fi g t k env S = .ok (.loc S'.length) (S' ++ [.lst ds]):=by
 unfold qA1
 rw [h]
 simp only [Res.bind,e,mkM]
 rfl
end _D
end
section
namespace _D
open PySem
theorem qGo {n : Nat} {f : DE} {ds : List D} {S S' : Sto} {d : D} {env : qAH} (hs : qEM n ds = env) (h : f env S = .ok d S') : qAT n (qAs f) ds S = .ok d S':=by
 subst hs
 unfold qAT qAs
 rw [h]
 rfl
theorem qEL {n : Nat} {g : DS} {ds : List D} {S S' : Sto} {d : D} {env : qAH} (hs : qEM n ds = env) (h : g env S = .rt d S') : qAT n g ds S = .ok d S':=by
 subst hs
 unfold qAT
 rw [h]
 rfl
theorem qQ4 {o : Option (Nat × MO)} {S S' : Sto} (h : stn o S) (e : S <+: S') : stn o S':=by
 cases o with
 | none => trivial
 | some p =>
  obtain ⟨r,rfl⟩:=e
  have h' : S[p.1]? = some p.2:=h
  show (S ++ r)[p.1]? = some p.2
  rw [List.getElem?_append_left (List.getElem?_eq_some_iff.mp h').1]
  exact h'
theorem qKb {S S' : Sto} {i : Nat} {m : MO} (h : S[i]? = some m) (e : S <+: S') : S'[i]? = some m:=by
 obtain ⟨r,rfl⟩:=e
 rw [List.getElem?_append_left (List.getElem?_eq_some_iff.mp h).1]
 exact h
theorem qCR {α β : Type} (sel : α → Bool) (val : α → β) (l : List α) : (l.flatMap fun d => if sel d then [val d] else []) = (l.filter sel).map val:=by
 induction l with
 | nil => rfl
 | cons d l ih =>
  rw [List.flatMap_cons,ih]
  cases h : sel d <;> simp [h]
theorem qQF {α β : Type} (f : α → List β) (n : Nat) (l : List α) (h : ∀ x ∈ l,(f x).length ≤ n) : (l.flatMap f).length ≤ l.length * n:=by
 induction l with
 | nil => simp
 | cons d l ih =>
  rw [List.flatMap_cons,List.length_append,List.length_cons,Nat.succ_mul]
  have h1:=h d (List.mem_cons_self ..)
  have h2:=ih fun x hx => h x (List.mem_cons_of_mem _ hx)
  omega
section
variable {cap : List (Option Nat)} {fi : DI2} {g : DG} {t : DT} {fe : DE} {env : qAH} {S S0 : Sto} {o : Option (Nat × MO)} {items : List D}
theorem go1 (hst : stn o S) (sel : D → Bool) (val : D → D) (C : qAH → Prop) (h0 : C env) (hl : items.length ≤ lim)
  (step : ∀ d ∈ items,∀ env S',C env → S <+: S' → ∃ env1 S1,g d env S' = .ok env1 S' ∧ C env1 ∧ t env1 S' = .ok (sel d) S1 ∧ S' <+: S1 ∧ (sel d = true → ∃ S2,fe env1 S1 = .ok (val d) S2 ∧ S1 <+: S2)) :
  ∃ env' S',goL o g t (qAy fe) items env S [] = .ok (env',(items.filter sel).map val) S' ∧ S <+: S':=by
 have lf : (items.flatMap fun d => if sel d then [val d] else []).length ≤ lim:=by
  rw [qCR,List.length_map]
  exact Nat.le_trans (List.length_filter_le _ _) hl
 obtain ⟨env',S',e,_,q⟩:=qGl (o:=o) (g:=g) (t:=t) (k:=qAy fe) (fun d => if sel d then [val d] else []) (fun env S' => C env ∧ S <+: S') (fun _ _ h => qQ4 hst h.2) items env S [] ⟨h0,List.prefix_refl _⟩ (by simpa using lf) (fun d hd env S' acc hC hl => by
  obtain ⟨env1,S1,e1,c1,e2,p1,k⟩:=step d hd env S' hC.1 hC.2
  refine ⟨env1,S',sel d,S1,e1,e2,?_⟩
  cases hs : sel d with
  | false => exact .inl ⟨rfl,by simp,c1,hC.2.trans p1⟩
  | true =>
   obtain ⟨S2,e3,p2⟩:=k hs
   refine .inr ⟨rfl,env1,S2,?_,c1,(hC.2.trans p1).trans p2⟩
   simp only [if_true]
   exact qFR e3 (by simp only [hs,if_true,List.length_singleton] at hl; omega))
 refine ⟨env',S',?_,q⟩
 rw [e,List.nil_append,qCR]
theorem qZD (h : fi env S0 = .ok (o,items) S) (hst : stn o S) (sel : D → Bool) (val : D → D) (C : qAH → Prop) (h0 : C (qBT cap env)) (hl : items.length ≤ lim)
  (step : ∀ d ∈ items,∀ env S',C env → S <+: S' → ∃ env1 S1,g d env S' = .ok env1 S' ∧ C env1 ∧ t env1 S' = .ok (sel d) S1 ∧ S' <+: S1 ∧ (sel d = true → ∃ S2,fe env1 S1 = .ok (val d) S2 ∧ S1 <+: S2)) :
  ∃ S',qA1 false cap fi g t (qAy fe) env S0 = .ok (.lst ((items.filter sel).map val)) S' ∧ S <+: S':=by
 obtain ⟨env',S',e,q⟩:=go1 hst sel val C h0 hl step
 exact ⟨S',qFw h e,q⟩
theorem qaP (hst : stn o S) (sel : D → Bool) (val : D → D) (C : qAH → Prop) (h0 : C env) (hl : items.length ≤ lim)
  (step : ∀ d ∈ items,∀ env,C env → ∃ env1,g d env S = .ok env1 S ∧ C env1 ∧ t env1 S = .ok (sel d) S ∧ (sel d = true → fe env1 S = .ok (val d) S)) :
  ∃ env',goL o g t (qAy fe) items env S [] = .ok (env',(items.filter sel).map val) S:=by
 have lf : (items.flatMap fun d => if sel d then [val d] else []).length ≤ lim:=by
  rw [qCR,List.length_map]
  exact Nat.le_trans (List.length_filter_le _ _) hl
 obtain ⟨env',S',e,_,q⟩:=qGl (o:=o) (g:=g) (t:=t) (k:=qAy fe) (fun d => if sel d then [val d] else []) (fun env S' => C env ∧ S' = S) (fun _ _ h => h.2 ▸ hst) items env S [] ⟨h0,rfl⟩ (by simpa using lf) (fun d hd env S' acc hC hl => by
  obtain ⟨hc,rfl⟩:=hC
  obtain ⟨env1,e1,c1,e2,k⟩:=step d hd env hc
  refine ⟨env1,S',sel d,S',e1,e2,?_⟩
  cases hs : sel d with
  | false => exact .inl ⟨rfl,by simp,c1,rfl⟩
  | true =>
   refine .inr ⟨rfl,env1,S',?_,c1,rfl⟩
   simp only [if_true]
   exact qFR (k hs) (by simp only [hs,if_true,List.length_singleton] at hl; omega))
 subst q
 refine ⟨env',?_⟩
 rw [e,List.nil_append,qCR]
theorem qRr (h : fi env S = .ok (o,items) S) (hst : stn o S) (sel : D → Bool) (val : D → D) (C : qAH → Prop) (h0 : C (qBT cap env)) (hl : items.length ≤ lim)
  (step : ∀ d ∈ items,∀ env,C env → ∃ env1,g d env S = .ok env1 S ∧ C env1 ∧ t env1 S = .ok (sel d) S ∧ (sel d = true → fe env1 S = .ok (val d) S)) :
  qA1 false cap fi g t (qAy fe) env S = .ok (.lst ((items.filter sel).map val)) S:=by
 obtain ⟨env',e⟩:=qaP hst sel val C h0 hl step
 exact qFw h e
theorem qW4 {fi2 : DI2} {g2 : DG} {t2 : DT} {o2 : Option (Nat × MO)} (h : fi env S = .ok (o,items) S) (hst : stn o S) (hst2 : stn o2 S) (its2 : D → List D) (sel : D → D → Bool) (val : D → D → D) (C : qAH → Prop) (C2 : D → qAH → Prop) (h0 : C (qBT cap env)) (hC2 : ∀ d env,C2 d env → C env)
  (hl : (items.flatMap fun d => ((its2 d).filter (sel d)).map (val d)).length ≤ lim)
  (step : ∀ d ∈ items,∀ env,C env → ∃ env1,g d env S = .ok env1 S ∧ C2 d env1 ∧ t env1 S = .ok true S ∧ fi2 env1 S = .ok (o2,its2 d) S)
  (step2 : ∀ d ∈ items,∀ x ∈ its2 d,∀ env,C2 d env → ∃ env1,g2 x env S = .ok env1 S ∧ C2 d env1 ∧ t2 env1 S = .ok (sel d x) S ∧ (sel d x = true → fe env1 S = .ok (val d x) S)) :
  qA1 false cap fi g t (kIn fi2 g2 t2 (qAy fe)) env S = .ok (.lst (items.flatMap fun d => ((its2 d).filter (sel d)).map (val d))) S:=by
 obtain ⟨env',S',e,_,q⟩:=qGl (o:=o) (g:=g) (t:=t) (k:=kIn fi2 g2 t2 (qAy fe)) (fun d => ((its2 d).filter (sel d)).map (val d)) (fun env S' => C env ∧ S' = S) (fun _ _ h => h.2 ▸ hst) items (qBT cap env) S [] ⟨h0,rfl⟩ (by simpa using hl) (fun d hd env S' acc hC hl => by
  obtain ⟨hc,rfl⟩:=hC
  obtain ⟨env1,e1,c1,e2,e3⟩:=step d hd env hc
  obtain ⟨env2,S2,e4,q,r⟩:=qGl (o:=o2) (g:=g2) (t:=t2) (k:=qAy fe) (fun x => if sel d x then [val d x] else []) (fun env S'' => C2 d env ∧ S'' = S') (fun _ _ h => h.2 ▸ hst2) (its2 d) env1 S' acc ⟨c1,rfl⟩ (by rw [qCR]; exact hl) (fun x hx env S'' acc hC hl => by
   obtain ⟨hc,rfl⟩:=hC
   obtain ⟨env3,f1,f2,f3,f4⟩:=step2 d hd x hx env hc
   refine ⟨env3,S'',sel d x,S'',f1,f3,?_⟩
   cases hs : sel d x with
   | false => exact .inl ⟨rfl,by simp,f2,rfl⟩
   | true =>
    refine .inr ⟨rfl,env3,S'',?_,f2,rfl⟩
    simp only [if_true]
    exact qFR (f4 hs) (by simp only [hs,if_true,List.length_singleton] at hl; omega))
  subst r
  refine ⟨env1,S2,true,S2,e1,e2,.inr ⟨rfl,env2,S2,?_,hC2 d _ q,rfl⟩⟩
  unfold kIn
  rw [e3]
  simp only [Res.bind]
  rw [e4,qCR])
 subst q
 have:=qFw (cap:=cap) h e
 rwa [List.nil_append] at this
end
end _D
end
section
namespace _D
open PySem
theorem goT {α : Type} {enc : α → D} {o : Option (Nat × MO)} {g : DG} {t : DT} {k : DK} (out : α → List D) (C : qAH → Sto → Prop) (hC : ∀ env S,C env S → stn o S) :
  ∀ (xs : List α) (env : qAH) (S : Sto) (acc : List D),C env S → acc.length + (xs.flatMap out).length ≤ lim →
  (∀ x ∈ xs,∀ env S acc,C env S → acc.length + (out x).length ≤ lim → ∃ env1 S1 b S2,g (enc x) env S = .ok env1 S1 ∧ t env1 S1 = .ok b S2 ∧ ((b = false ∧ out x = [] ∧ C env1 S2) ∨ (b = true ∧ ∃ env3 S3,k env1 S2 acc = .ok (env3,acc ++ out x) S3 ∧ C env3 S3))) →
  ∃ env' S',goL o g t k (xs.map enc) env S acc = .ok (env',acc ++ xs.flatMap out) S' ∧ C env' S'
 | [],env,S,acc,h,hl,_ => ⟨env,S,by simp [goL,qCk.mpr (hC _ _ h)],h⟩
 | x :: xs,env,S,acc,h,hl,step => by
  rw [List.flatMap_cons,List.length_append] at hl
  obtain ⟨env1,S1,b,S2,e1,e2,r⟩:=step x (List.mem_cons_self ..) env S acc h (by omega)
  have hst:=qCk.mpr (hC _ _ h)
  rcases r with ⟨rfl,h0,h2⟩ | ⟨rfl,env3,S3,e3,h3⟩
  ·obtain ⟨env',S',e,q⟩:=goT out C hC xs env1 S2 acc h2 (by omega) fun d hd => step d (List.mem_cons_of_mem _ hd)
   refine ⟨env',S',?_,q⟩
   simp only [List.map_cons,goL,hst,if_true,e1,e2,Res.bind,Bool.false_eq_true,if_false,List.flatMap_cons,h0,List.nil_append]
   exact e
  ·obtain ⟨env',S',e,q⟩:=goT out C hC xs env3 S3 (acc ++ out x) h3 (by rw [List.length_append]; omega) fun d hd => step d (List.mem_cons_of_mem _ hd)
   refine ⟨env',S',?_,q⟩
   simp only [List.map_cons,goL,hst,if_true,e1,e2,Res.bind,e3,List.flatMap_cons]
   rw [e,List.append_assoc]
section
variable {α β : Type} {enc : α → D} {enc2 : β → D} {cap : List (Option Nat)} {fi : DI2} {g : DG} {t : DT} {fe : DE} {env : qAH} {S S0 : Sto} {o : Option (Nat × MO)} {xs : List α}
theorem qaO (hst : stn o S) (sel : α → Bool) (val : α → D) (C : qAH → Prop) (h0 : C env) (hl : xs.length ≤ lim)
  (step : ∀ x ∈ xs,∀ env S',C env → S <+: S' → ∃ env1 S1,g (enc x) env S' = .ok env1 S' ∧ C env1 ∧ t env1 S' = .ok (sel x) S1 ∧ S' <+: S1 ∧ (sel x = true → ∃ S2,fe env1 S1 = .ok (val x) S2 ∧ S1 <+: S2)) :
  ∃ env' S',goL o g t (qAy fe) (xs.map enc) env S [] = .ok (env',(xs.filter sel).map val) S' ∧ S <+: S':=by
 have lf : (xs.flatMap fun d => if sel d then [val d] else []).length ≤ lim:=by
  rw [qCR,List.length_map]
  exact Nat.le_trans (List.length_filter_le _ _) hl
 obtain ⟨env',S',e,_,q⟩:=goT (enc:=enc) (o:=o) (g:=g) (t:=t) (k:=qAy fe) (fun d => if sel d then [val d] else []) (fun env S' => C env ∧ S <+: S') (fun _ _ h => qQ4 hst h.2) xs env S [] ⟨h0,List.prefix_refl _⟩ (by simpa using lf) (fun d hd env S' acc hC hl => by
  obtain ⟨env1,S1,e1,c1,e2,p1,k⟩:=step d hd env S' hC.1 hC.2
  refine ⟨env1,S',sel d,S1,e1,e2,?_⟩
  cases hs : sel d with
  | false => exact .inl ⟨rfl,by simp,c1,hC.2.trans p1⟩
  | true =>
   obtain ⟨S2,e3,p2⟩:=k hs
   refine .inr ⟨rfl,env1,S2,?_,c1,(hC.2.trans p1).trans p2⟩
   simp only [if_true]
   exact qFR e3 (by simp only [hs,if_true,List.length_singleton] at hl; omega))
 refine ⟨env',S',?_,q⟩
 rw [e,List.nil_append,qCR]
theorem qVE (h : fi env S0 = .ok (o,xs.map enc) S) (hst : stn o S) (sel : α → Bool) (val : α → D) (C : qAH → Prop) (h0 : C (qBT cap env)) (hl : xs.length ≤ lim)
  (step : ∀ x ∈ xs,∀ env S',C env → S <+: S' → ∃ env1 S1,g (enc x) env S' = .ok env1 S' ∧ C env1 ∧ t env1 S' = .ok (sel x) S1 ∧ S' <+: S1 ∧ (sel x = true → ∃ S2,fe env1 S1 = .ok (val x) S2 ∧ S1 <+: S2)) :
  ∃ S',qA1 true cap fi g t (qAy fe) env S0 = .ok (.loc S'.length) (S' ++ [.lst ((xs.filter sel).map val)]) ∧ S <+: S':=by
 obtain ⟨env',S',e,q⟩:=qaO hst sel val C h0 hl step
 exact ⟨S',qNo h e,q⟩
theorem qUo (hst : stn o S) (sel : α → Bool) (val : α → D) (C : qAH → Prop) (h0 : C env) (hl : xs.length ≤ lim)
  (step : ∀ x ∈ xs,∀ env,C env → ∃ env1,g (enc x) env S = .ok env1 S ∧ C env1 ∧ t env1 S = .ok (sel x) S ∧ (sel x = true → fe env1 S = .ok (val x) S)) :
  ∃ env',goL o g t (qAy fe) (xs.map enc) env S [] = .ok (env',(xs.filter sel).map val) S:=by
 have lf : (xs.flatMap fun d => if sel d then [val d] else []).length ≤ lim:=by
  rw [qCR,List.length_map]
  exact Nat.le_trans (List.length_filter_le _ _) hl
 obtain ⟨env',S',e,_,q⟩:=goT (enc:=enc) (o:=o) (g:=g) (t:=t) (k:=qAy fe) (fun d => if sel d then [val d] else []) (fun env S' => C env ∧ S' = S) (fun _ _ h => h.2 ▸ hst) xs env S [] ⟨h0,rfl⟩ (by simpa using lf) (fun d hd env S' acc hC hl => by
  obtain ⟨hc,rfl⟩:=hC
  obtain ⟨env1,e1,c1,e2,k⟩:=step d hd env hc
  refine ⟨env1,S',sel d,S',e1,e2,?_⟩
  cases hs : sel d with
  | false => exact .inl ⟨rfl,by simp,c1,rfl⟩
  | true =>
   refine .inr ⟨rfl,env1,S',?_,c1,rfl⟩
   simp only [if_true]
   exact qFR (k hs) (by simp only [hs,if_true,List.length_singleton] at hl; omega))
 subst q
 refine ⟨env',?_⟩
 rw [e,List.nil_append,qCR]
theorem qKX (h : fi env S = .ok (o,xs.map enc) S) (hst : stn o S) (sel : α → Bool) (val : α → D) (C : qAH → Prop) (h0 : C (qBT cap env)) (hl : xs.length ≤ lim)
  (step : ∀ x ∈ xs,∀ env,C env → ∃ env1,g (enc x) env S = .ok env1 S ∧ C env1 ∧ t env1 S = .ok (sel x) S ∧ (sel x = true → fe env1 S = .ok (val x) S)) :
  qA1 false cap fi g t (qAy fe) env S = .ok (.lst ((xs.filter sel).map val)) S:=by
 obtain ⟨env',e⟩:=qUo hst sel val C h0 hl step
 exact qFw h e
theorem qTP (h : fi env S = .ok (o,xs.map enc) S) (hst : stn o S) (sel : α → Bool) (val : α → D) (C : qAH → Prop) (h0 : C (qBT cap env)) (hl : xs.length ≤ lim)
  (step : ∀ x ∈ xs,∀ env,C env → ∃ env1,g (enc x) env S = .ok env1 S ∧ C env1 ∧ t env1 S = .ok (sel x) S ∧ (sel x = true → fe env1 S = .ok (val x) S)) :
  qA1 true cap fi g t (qAy fe) env S = .ok (.loc S.length) (S ++ [.lst ((xs.filter sel).map val)]):=by
 obtain ⟨env',e⟩:=qUo hst sel val C h0 hl step
 exact qNo h e
theorem qVF {fi2 : DI2} {g2 : DG} {t2 : DT} {o2 : Option (Nat × MO)} (h : fi env S = .ok (o,xs.map enc) S) (hst : stn o S) (hst2 : stn o2 S) (ys : α → List β) (sel : α → β → Bool) (val : α → β → D) (C : qAH → Prop) (C2 : α → qAH → Prop) (h0 : C (qBT cap env)) (hC2 : ∀ x env,C2 x env → C env)
  (hl : (xs.flatMap fun x => ((ys x).filter (sel x)).map (val x)).length ≤ lim)
  (step : ∀ x ∈ xs,∀ env,C env → ∃ env1,g (enc x) env S = .ok env1 S ∧ C2 x env1 ∧ t env1 S = .ok true S ∧ fi2 env1 S = .ok (o2,(ys x).map enc2) S)
  (step2 : ∀ x ∈ xs,∀ y ∈ ys x,∀ env,C2 x env → ∃ env1,g2 (enc2 y) env S = .ok env1 S ∧ C2 x env1 ∧ t2 env1 S = .ok (sel x y) S ∧ (sel x y = true → fe env1 S = .ok (val x y) S)) :
  qA1 false cap fi g t (kIn fi2 g2 t2 (qAy fe)) env S = .ok (.lst (xs.flatMap fun x => ((ys x).filter (sel x)).map (val x))) S:=by
 obtain ⟨env',S',e,_,q⟩:=goT (enc:=enc) (o:=o) (g:=g) (t:=t) (k:=kIn fi2 g2 t2 (qAy fe)) (fun x => ((ys x).filter (sel x)).map (val x)) (fun env S' => C env ∧ S' = S) (fun _ _ h => h.2 ▸ hst) xs (qBT cap env) S [] ⟨h0,rfl⟩ (by simpa using hl) (fun d hd env S' acc hC hl => by
  obtain ⟨hc,rfl⟩:=hC
  obtain ⟨env1,e1,c1,e2,e3⟩:=step d hd env hc
  obtain ⟨env2,S2,e4,q,r⟩:=goT (enc:=enc2) (o:=o2) (g:=g2) (t:=t2) (k:=qAy fe) (fun x => if sel d x then [val d x] else []) (fun env S'' => C2 d env ∧ S'' = S') (fun _ _ h => h.2 ▸ hst2) (ys d) env1 S' acc ⟨c1,rfl⟩ (by rw [qCR]; exact hl) (fun x hx env S'' acc hC hl => by
   obtain ⟨hc,rfl⟩:=hC
   obtain ⟨env3,f1,f2,f3,f4⟩:=step2 d hd x hx env hc
   refine ⟨env3,S'',sel d x,S'',f1,f3,?_⟩
   cases hs : sel d x with
   | false => exact .inl ⟨rfl,by simp,f2,rfl⟩
   | true =>
    refine .inr ⟨rfl,env3,S'',?_,f2,rfl⟩
    simp only [if_true]
    exact qFR (f4 hs) (by simp only [hs,if_true,List.length_singleton] at hl; omega))
  subst r
  refine ⟨env1,S2,true,S2,e1,e2,.inr ⟨rfl,env2,S2,?_,hC2 d _ q,rfl⟩⟩
  unfold kIn
  rw [e3]
  simp only [Res.bind]
  rw [e4,qCR])
 subst q
 have:=qFw (cap:=cap) h e
 rwa [List.nil_append] at this
end
end _D
end
section
namespace _K
open PySem _D
theorem qKT (b : Bool) (S : Sto) : qDV (.bl b) S = some b:=rfl
theorem qar (i : Int) (S : Sto) : qDV (.int i) S = some (i != 0):=rfl
theorem qat (i : Int) (S : Sto) : tyD (.int i) S = some "int":=rfl
theorem qay (b : Bool) (S : Sto) : tyD (.bl b) S = some "bool":=rfl
theorem qav (S : Sto) : tyD .non S = some "NoneType":=rfl
theorem qaw (x : Str) (S : Sto) : tyD (.str x) S = some "str":=rfl
theorem qax (x : List D) (S : Sto) : tyD (.tup x) S = some "tuple":=rfl
theorem qau (x : List D) (S : Sto) : tyD (.lst x) S = some "list":=rfl
theorem qap (x : List D) : qCu (.tup x) = some x:=rfl
theorem qQd (x : List D) : qCu (.lst x) = some x:=rfl
theorem qWC (d : D) (S : Sto) : qRX (.rt d S) = .ok d S:=rfl
theorem qaq (e : qAH) (S : Sto) : qRX (.nx e S) = .ok .non S:=rfl
theorem qWB (c : Value) (x : D) (e : qAH) (S : Sto) : qRX (.ex c x e S) = .ex c x S:=rfl
theorem qUB (i j : Nat) (env : qAH) (S : Sto) (x y : D) : qPh i j env S [x,y] = .nx ((env.set i (some x)).set j (some y)) S:=rfl
theorem qas (C : Int → Int → Bool) (f : Int → Int → D) (i j : Int) (S : Sto) : i2 C f (.int i) (.int j) S = if C i j = true then .ok (f i j) S else .bad:=rfl
theorem qVf (b : Bool) (S : Sto) : qPF [.bl b] S = .ok (.int (b01 b)) S:=rfl
theorem qQZ {xs : List D} {k : Int} {d : D} (h : _L.atI xs k = some d) (S : Sto) : gIx (.lst xs) (.int k) S = .ok d S:=by
 show _D.qDn (_L.atI xs k) S = _
 rw [h]
 rfl
end _K
end
open PySem _D _K
section
namespace _K
open PySem PySem.Spec PyProof.Rows _L _D
noncomputable def top (i : Nat) : Stmt:=PySem.Challenge.pw_fewdistances_k32_boards_filled_and_great.main.body.getD i (.Pass ⟨0,0,0,0⟩)
set_option genInjectivity false in
structure Cl where
 (FarError NoPoint NoLot NoNumber NoCircle NoMarks NoFars NoText NoLine NoDeed Alike TooMany : Addr)
noncomputable def qBw (c : Cl) : List Addr:=[c.NoPoint,c.NoLot,c.NoNumber,c.NoCircle,c.NoMarks,c.NoFars,c.NoText,c.NoLine,c.NoDeed,c.Alike,c.TooMany]
noncomputable def caught (c : Cl) : List Value:=[.ref c.NoPoint,.ref c.NoLot,.ref c.NoNumber,.ref c.NoCircle,.ref c.NoMarks,.ref c.NoFars,.ref c.NoText,.ref c.NoLine,.ref c.NoDeed]
set_option genInjectivity false in
structure Txt (K : PySem.W.Frag) (mg : Str → Option Value) (c : Cl) : Prop where
 s_board_points : Src K mg "board_points" (top 1) ["w","h"]
 s_grown : Src K mg "grown" (top 2) ["lots","points"]
 s_is_whole : Src K mg "is_whole" (top 17) ["thing"]
 s_is_within : Src K mg "is_within" (top 18) ["thing","least","most"]
 s_need_within : Src K mg "need_within" (top 19) ["thing","least","most"]
 s_far_between : Src K mg "far_between" (top 21) ["one","other"]
 s_pairs_by_far : Src K mg "pairs_by_far" (top 22) ["points"]
 s_are_unlike : Src K mg "are_unlike" (top 26) ["points"]
 s_filled : Src K mg "filled" (top 27) ["w","h"]
 s_most_unlike : Src K mg "most_unlike" (top 28) ["w","h"]
 s_unlike_lots : Src K mg "unlike_lots" (top 29) ["w","h"]
 s__law_cell : Src K mg "_law_cell" (top 31) ["_law_script","_law_k"]
 s__law_pen : Src K mg "_law_pen" (top 32) ["_law_cell_here"]
 s__law_draw : Src K mg "_law_draw" (top 33) ["_law_pen_here","_law_many"]
 s__law_same : Src K mg "_law_same" (top 34) ["_law_found","_law_due"]
 s__law_kind_of : Src K mg "_law_kind_of" (top 35) ["_law_e"]
 s__law_no_number : Src K mg "_law_no_number" (top 36) ["_law_pen_here","_law_low","_law_high"]
 s__law_far : Src K mg "_law_far" (top 37) ["_law_one","_law_other"]
 s__law_pairs : Src K mg "_law_pairs" (top 38) ["_law_lot"]
 s__law_fars : Src K mg "_law_fars" (top 39) ["_law_lot"]
 s__law_board : Src K mg "_law_board" (top 40) ["_law_w","_law_h"]
 s__law_came : Src K mg "_law_came" (top 41) ["_law_way","_law_w","_law_h"]
 s__law_filled : Src K mg "_law_filled" (top 42) ["_law_points"]
 s__law_greatest : Src K mg "_law_greatest" (top 43) ["_law_points"]
 s_law : Src K mg "law" (top 44) ["_law_script"]
 n_ValueError : mg "ValueError" = none
 n_all : mg "all" = none
 n_bool : mg "bool" = none
 n_enumerate : mg "enumerate" = none
 n_int : mg "int" = none
 n_isinstance : mg "isinstance" = none
 n_len : mg "len" = none
 n_list : mg "list" = none
 n_range : mg "range" = none
 n_set : mg "set" = none
 n_str : mg "str" = none
 n_tuple : mg "tuple" = none
 n_zip : mg "zip" = none
 c_FarError : mg "FarError" = some (.ref c.FarError)
 k_FarError : PySem.W.keepIn K (.ref c.FarError) = true
 c_NoPoint : mg "NoPoint" = some (.ref c.NoPoint)
 k_NoPoint : PySem.W.keepIn K (.ref c.NoPoint) = true
 c_NoLot : mg "NoLot" = some (.ref c.NoLot)
 k_NoLot : PySem.W.keepIn K (.ref c.NoLot) = true
 c_NoNumber : mg "NoNumber" = some (.ref c.NoNumber)
 k_NoNumber : PySem.W.keepIn K (.ref c.NoNumber) = true
 c_NoCircle : mg "NoCircle" = some (.ref c.NoCircle)
 k_NoCircle : PySem.W.keepIn K (.ref c.NoCircle) = true
 c_NoMarks : mg "NoMarks" = some (.ref c.NoMarks)
 k_NoMarks : PySem.W.keepIn K (.ref c.NoMarks) = true
 c_NoFars : mg "NoFars" = some (.ref c.NoFars)
 k_NoFars : PySem.W.keepIn K (.ref c.NoFars) = true
 c_NoText : mg "NoText" = some (.ref c.NoText)
 k_NoText : PySem.W.keepIn K (.ref c.NoText) = true
 c_NoLine : mg "NoLine" = some (.ref c.NoLine)
 k_NoLine : PySem.W.keepIn K (.ref c.NoLine) = true
 c_NoDeed : mg "NoDeed" = some (.ref c.NoDeed)
 k_NoDeed : PySem.W.keepIn K (.ref c.NoDeed) = true
 c_Alike : mg "Alike" = some (.ref c.Alike)
 k_Alike : PySem.W.keepIn K (.ref c.Alike) = true
 c_TooMany : mg "TooMany" = some (.ref c.TooMany)
 k_TooMany : PySem.W.keepIn K (.ref c.TooMany) = true
 x_NoNumber : qOz K c.NoNumber c.FarError = true
 cls : ClsK K (qBw c)
 caught : ∀ v ∈ caught c,PySem.W.exmOne K v (.ref c.FarError) = some true
 nd : (qBw c).Nodup
 g_MOST_SIDE : ∃ t,mg "MOST_SIDE" = some (.int (4) t)
 g_MOST_FILLED_SIDE : ∃ t,mg "MOST_FILLED_SIDE" = some (.int (12) t)
theorem qM4 : (("w" : Str) == ("__debug__" : Str)) = false:=kd
theorem qMt : (("w" : Str) == ("__classdict__" : Str)) = false:=kd
theorem qMz : (("h" : Str) == ("__debug__" : Str)) = false:=kd
theorem qMq : (("h" : Str) == ("__classdict__" : Str)) = false:=kd
theorem qaL : (("y" : Str) == ("__debug__" : Str)) = false:=kd
theorem qaG : (("y" : Str) == ("__classdict__" : Str)) = false:=kd
theorem qaK : (("x" : Str) == ("__debug__" : Str)) = false:=kd
theorem qaF : (("x" : Str) == ("__classdict__" : Str)) = false:=kd
theorem qMV : FnScope ["w","h"] ["w","h"] (qAB (top 1)):=⟨rfl,rfl,rfl,kd,rfl,kd,kd⟩
theorem qKu : (qAB (top 1)).names.lookup ("w" : Str) = some .local:=kd
theorem qIl {l f : Addr} {cd : Value} : (envOfC "board_points" (qAB (top 1)) l f cd).kindOf "range" = some .globalImplicit:=by kernel_rfl
noncomputable def qB8 : Scope:={ kind:=.function,names:=[(Str.ofString ".0",NameKind.local),(Str.ofString "x",NameKind.local),(Str.ofString "y",NameKind.local),(Str.ofString "range",NameKind.globalImplicit),(Str.ofString "h",NameKind.free)],isGenerator:=false,isCoroutine:=false,more:=[] }
theorem qDQ : qB8.names.lookup ("x" : Str) = some NameKind.local:=kd
theorem qDR : qB8.names.lookup ("y" : Str) = some NameKind.local:=kd
theorem qHj : qB8.names.lookup ("range" : Str) = some NameKind.globalImplicit:=kd
theorem qJw : qB8.names.lookup ("h" : Str) = some NameKind.free:=kd
theorem qD6 : CompSc (qAB (top 1)) ["w","h"] qB8 ["x","y","h"] [none,none,some 1]:=⟨rfl,kd,kd,kd,kd,rfl,kd,kd⟩
theorem qM1 : (("lots" : Str) == ("__debug__" : Str)) = false:=kd
theorem qMr : (("lots" : Str) == ("__classdict__" : Str)) = false:=kd
theorem qEn : (("points" : Str) == ("__debug__" : Str)) = false:=kd
theorem qEl : (("points" : Str) == ("__classdict__" : Str)) = false:=kd
theorem qHC : (("point" : Str) == ("__debug__" : Str)) = false:=kd
theorem qG0 : (("point" : Str) == ("__classdict__" : Str)) = false:=kd
theorem qIe : (("lot" : Str) == ("__debug__" : Str)) = false:=kd
theorem qId : (("lot" : Str) == ("__classdict__" : Str)) = false:=kd
theorem qUP : FnScope ["lots","points"] ["lots","points"] (qAB (top 2)):=⟨rfl,rfl,rfl,kd,rfl,kd,kd⟩
theorem qRS : (qAB (top 2)).names.lookup ("lots" : Str) = some .local:=kd
noncomputable def qGb : Scope:={ kind:=.function,names:=[(Str.ofString ".0",NameKind.local),(Str.ofString "lot",NameKind.local),(Str.ofString "point",NameKind.local),(Str.ofString "points",NameKind.free)],isGenerator:=false,isCoroutine:=false,more:=[] }
theorem qDr : qGb.names.lookup ("lot" : Str) = some NameKind.local:=kd
theorem qC3 : qGb.names.lookup ("point" : Str) = some NameKind.local:=kd
theorem qKp : qGb.names.lookup ("points" : Str) = some NameKind.free:=kd
theorem qJC : CompSc (qAB (top 2)) ["lots","points"] qGb ["lot","point","points"] [none,none,some 1]:=⟨rfl,kd,kd,kd,kd,rfl,kd,kd⟩
theorem qPW : ("int" : Str) ≠ "__name__":=kd
theorem qPA : (("int" : Str) == ("__debug__" : Str)) = false:=kd
theorem qHD : (("thing" : Str) == ("__debug__" : Str)) = false:=kd
theorem qG1 : (("thing" : Str) == ("__classdict__" : Str)) = false:=kd
theorem qAW : ("isinstance" : Str) ≠ "__name__":=kd
theorem qAV : (("isinstance" : Str) == ("__debug__" : Str)) = false:=kd
theorem qNK : ("bool" : Str) ≠ "__name__":=kd
theorem qMx : (("bool" : Str) == ("__debug__" : Str)) = false:=kd
theorem qQQ : FnScope ["thing"] ["thing"] (qAB (top 17)):=⟨rfl,rfl,rfl,kd,rfl,kd,kd⟩
theorem qJt : (qAB (top 17)).names.lookup ("thing" : Str) = some .local:=kd
theorem qL5 {l f : Addr} {cd : Value} : (envOfC "is_whole" (qAB (top 17)) l f cd).kindOf "int" = some .globalImplicit:=by kernel_rfl
theorem qEH {l f : Addr} {cd : Value} : (envOfC "is_whole" (qAB (top 17)) l f cd).kindOf "isinstance" = some .globalImplicit:=by kernel_rfl
theorem qLP {l f : Addr} {cd : Value} : (envOfC "is_whole" (qAB (top 17)) l f cd).kindOf "bool" = some .globalImplicit:=by kernel_rfl
theorem qQE : (("is_whole" : Str) == ("__debug__" : Str)) = false:=kd
theorem qLH : (("least" : Str) == ("__debug__" : Str)) = false:=kd
theorem qLD : (("least" : Str) == ("__classdict__" : Str)) = false:=kd
theorem qM2 : (("most" : Str) == ("__debug__" : Str)) = false:=kd
theorem qMs : (("most" : Str) == ("__classdict__" : Str)) = false:=kd
theorem qPz : FnScope ["thing","least","most"] ["thing","least","most"] (qAB (top 18)):=⟨rfl,rfl,rfl,kd,rfl,kd,kd⟩
theorem qIu : (qAB (top 18)).names.lookup ("thing" : Str) = some .local:=kd
theorem qNH : (qAB (top 18)).names.lookup ("least" : Str) = some .local:=kd
theorem qNI : (qAB (top 18)).names.lookup ("most" : Str) = some .local:=kd
theorem qIm {l f : Addr} {cd : Value} : (envOfC "is_within" (qAB (top 18)) l f cd).kindOf "is_whole" = some .globalImplicit:=by kernel_rfl
theorem qPB : (("is_within" : Str) == ("__debug__" : Str)) = false:=kd
theorem qK1 : (("NoNumber" : Str) == ("__debug__" : Str)) = false:=kd
theorem qNb : FnScope ["thing","least","most"] ["thing","least","most"] (qAB (top 19)):=⟨rfl,rfl,rfl,kd,rfl,kd,kd⟩
theorem qLZ : (qAB (top 19)).names.lookup ("thing" : Str) = some .local:=kd
theorem qHT : (qAB (top 19)).names.lookup ("least" : Str) = some .local:=kd
theorem qHU : (qAB (top 19)).names.lookup ("most" : Str) = some .local:=kd
theorem qHN {l f : Addr} {cd : Value} : (envOfC "need_within" (qAB (top 19)) l f cd).kindOf "is_within" = some .globalImplicit:=by kernel_rfl
theorem qHn {l f : Addr} {cd : Value} : (envOfC "need_within" (qAB (top 19)) l f cd).kindOf "NoNumber" = some .globalImplicit:=by kernel_rfl
theorem qNq : (("across" : Str) == ("__debug__" : Str)) = false:=kd
theorem qNl : (("across" : Str) == ("__classdict__" : Str)) = false:=kd
theorem qUk : (("up" : Str) == ("__debug__" : Str)) = false:=kd
theorem qUj : (("up" : Str) == ("__classdict__" : Str)) = false:=kd
theorem qLx : (("one" : Str) == ("__debug__" : Str)) = false:=kd
theorem qLp : (("one" : Str) == ("__classdict__" : Str)) = false:=kd
theorem qJD : (("other" : Str) == ("__debug__" : Str)) = false:=kd
theorem qJA : (("other" : Str) == ("__classdict__" : Str)) = false:=kd
theorem qFX : FnScope ["one","other","across","up"] ["one","other"] (qAB (top 21)):=⟨rfl,rfl,rfl,kd,rfl,kd,kd⟩
theorem qHP : (qAB (top 21)).names.lookup ("one" : Str) = some .local:=kd
theorem qHQ : (qAB (top 21)).names.lookup ("other" : Str) = some .local:=kd
theorem qEd : (qAB (top 21)).names.lookup ("across" : Str) = some .local:=kd
theorem qEe : (qAB (top 21)).names.lookup ("up" : Str) = some .local:=kd
theorem qLI : (("pairs" : Str) == ("__debug__" : Str)) = false:=kd
theorem qLE : (("pairs" : Str) == ("__classdict__" : Str)) = false:=kd
theorem qZE : (("at" : Str) == ("__debug__" : Str)) = false:=kd
theorem qZC : (("at" : Str) == ("__classdict__" : Str)) = false:=kd
theorem qMy : (("far_between" : Str) == ("__debug__" : Str)) = false:=kd
theorem qCf : FnScope ["points","pairs","at","one","other"] ["points"] (qAB (top 22)):=⟨rfl,rfl,rfl,kd,rfl,kd,kd⟩
theorem qGT : (qAB (top 22)).names.lookup ("points" : Str) = some .local:=kd
theorem qD9 : (qAB (top 22)).names.lookup ("pairs" : Str) = some .local:=kd
theorem qGU : (qAB (top 22)).names.lookup ("at" : Str) = some .local:=kd
theorem qEA : (qAB (top 22)).names.lookup ("one" : Str) = some .local:=kd
theorem qEB : (qAB (top 22)).names.lookup ("other" : Str) = some .local:=kd
theorem qGe {l f : Addr} {cd : Value} : (envOfC "pairs_by_far" (qAB (top 22)) l f cd).kindOf "enumerate" = some .globalImplicit:=by kernel_rfl
theorem qFy {l f : Addr} {cd : Value} : (envOfC "pairs_by_far" (qAB (top 22)) l f cd).kindOf "far_between" = some .globalImplicit:=by kernel_rfl
theorem qLy : (("pairs_by_far" : Str) == ("__debug__" : Str)) = false:=kd
theorem qDk : ("len" : Str) ≠ "__name__":=kd
theorem qDd : (("len" : Str) == ("__debug__" : Str)) = false:=kd
theorem qX7 : ("all" : Str) ≠ "__name__":=kd
theorem qW6 : (("all" : Str) == ("__debug__" : Str)) = false:=kd
theorem qOQ : FnScope ["points"] ["points"] (qAB (top 26)):=⟨rfl,rfl,rfl,kd,rfl,kd,kd⟩
theorem qME : (qAB (top 26)).names.lookup ("points" : Str) = some .local:=kd
theorem qGH {l f : Addr} {cd : Value} : (envOfC "are_unlike" (qAB (top 26)) l f cd).kindOf "pairs_by_far" = some .globalImplicit:=by kernel_rfl
theorem qKt {l f : Addr} {cd : Value} : (envOfC "are_unlike" (qAB (top 26)) l f cd).kindOf "all" = some .globalImplicit:=by kernel_rfl
noncomputable def qEz : Scope:={ kind:=.function,names:=[(Str.ofString ".0",NameKind.local),(Str.ofString "pairs",NameKind.local),(Str.ofString "len",NameKind.globalImplicit)],isGenerator:=false,isCoroutine:=false,more:=[] }
theorem qCq : qEz.names.lookup ("pairs" : Str) = some NameKind.local:=kd
theorem qJv : qEz.names.lookup ("len" : Str) = some NameKind.globalImplicit:=kd
theorem qHz : CompSc (qAB (top 26)) ["points"] qEz ["pairs"] [none]:=⟨rfl,kd,kd,kd,kd,rfl,kd,kd⟩
theorem qH3 : (("board_points" : Str) == ("__debug__" : Str)) = false:=kd
theorem qJo : (("are_unlike" : Str) == ("__debug__" : Str)) = false:=kd
theorem qFD : (("MOST_FILLED_SIDE" : Str) == ("__debug__" : Str)) = false:=kd
theorem qDv : (("need_within" : Str) == ("__debug__" : Str)) = false:=kd
theorem qH9 : FnScope ["w","h","lot","point"] ["w","h"] (qAB (top 27)):=⟨rfl,rfl,rfl,kd,rfl,kd,kd⟩
theorem qK4 : (qAB (top 27)).names.lookup ("w" : Str) = some .local:=kd
theorem qK5 : (qAB (top 27)).names.lookup ("h" : Str) = some .local:=kd
theorem qFj : (qAB (top 27)).names.lookup ("lot" : Str) = some .local:=kd
theorem qIP : (qAB (top 27)).names.lookup ("point" : Str) = some .local:=kd
theorem qIN {l f : Addr} {cd : Value} : (envOfC "filled" (qAB (top 27)) l f cd).kindOf "board_points" = some .globalImplicit:=by kernel_rfl
theorem qJK {l f : Addr} {cd : Value} : (envOfC "filled" (qAB (top 27)) l f cd).kindOf "are_unlike" = some .globalImplicit:=by kernel_rfl
theorem qDM {l f : Addr} {cd : Value} : (envOfC "filled" (qAB (top 27)) l f cd).kindOf "MOST_FILLED_SIDE" = some .globalImplicit:=by kernel_rfl
theorem qEp {l f : Addr} {cd : Value} : (envOfC "filled" (qAB (top 27)) l f cd).kindOf "need_within" = some .globalImplicit:=by kernel_rfl
theorem qIf : (("unlike_lots" : Str) == ("__debug__" : Str)) = false:=kd
theorem qNa : FnScope ["w","h"] ["w","h"] (qAB (top 28)):=⟨rfl,rfl,rfl,kd,rfl,kd,kd⟩
theorem qLX : (qAB (top 28)).names.lookup ("w" : Str) = some .local:=kd
theorem qLY : (qAB (top 28)).names.lookup ("h" : Str) = some .local:=kd
theorem qGI {l f : Addr} {cd : Value} : (envOfC "most_unlike" (qAB (top 28)) l f cd).kindOf "unlike_lots" = some .globalImplicit:=by kernel_rfl
theorem qKI {l f : Addr} {cd : Value} : (envOfC "most_unlike" (qAB (top 28)) l f cd).kindOf "len" = some .globalImplicit:=by kernel_rfl
theorem qNr : (("larger" : Str) == ("__debug__" : Str)) = false:=kd
theorem qNm : (("larger" : Str) == ("__classdict__" : Str)) = false:=kd
theorem qTY : (("grown" : Str) == ("__debug__" : Str)) = false:=kd
theorem qKA : (("MOST_SIDE" : Str) == ("__debug__" : Str)) = false:=kd
theorem qCH : FnScope ["w","h","points","lots","larger"] ["w","h"] (qAB (top 29)):=⟨rfl,rfl,rfl,kd,rfl,kd,kd⟩
theorem qHV : (qAB (top 29)).names.lookup ("w" : Str) = some .local:=kd
theorem qHW : (qAB (top 29)).names.lookup ("h" : Str) = some .local:=kd
theorem qEf : (qAB (top 29)).names.lookup ("points" : Str) = some .local:=kd
theorem qDB : (qAB (top 29)).names.lookup ("lots" : Str) = some .local:=kd
theorem qDC : (qAB (top 29)).names.lookup ("larger" : Str) = some .local:=kd
theorem qJM {l f : Addr} {cd : Value} : (envOfC "unlike_lots" (qAB (top 29)) l f cd).kindOf "grown" = some .globalImplicit:=by kernel_rfl
theorem qFz {l f : Addr} {cd : Value} : (envOfC "unlike_lots" (qAB (top 29)) l f cd).kindOf "board_points" = some .globalImplicit:=by kernel_rfl
theorem qDi {l f : Addr} {cd : Value} : (envOfC "unlike_lots" (qAB (top 29)) l f cd).kindOf "MOST_SIDE" = some .globalImplicit:=by kernel_rfl
theorem qDN {l f : Addr} {cd : Value} : (envOfC "unlike_lots" (qAB (top 29)) l f cd).kindOf "need_within" = some .globalImplicit:=by kernel_rfl
noncomputable def qEZ : Scope:={ kind:=.function,names:=[(Str.ofString ".0",NameKind.local),(Str.ofString "lot",NameKind.local),(Str.ofString "are_unlike",NameKind.globalImplicit)],isGenerator:=false,isCoroutine:=false,more:=[] }
theorem qCB : qEZ.names.lookup ("lot" : Str) = some NameKind.local:=kd
theorem qFs : qEZ.names.lookup ("are_unlike" : Str) = some NameKind.globalImplicit:=kd
theorem qG6 : CompSc (qAB (top 29)) ["w","h","points","lots","larger"] qEZ ["lot"] [none]:=⟨rfl,kd,kd,kd,kd,rfl,kd,kd⟩
noncomputable def qG4 : Scope:={ kind:=.function,names:=[(Str.ofString ".0",NameKind.local),(Str.ofString "point",NameKind.local)],isGenerator:=false,isCoroutine:=false,more:=[] }
theorem qCj : qG4.names.lookup ("point" : Str) = some NameKind.local:=kd
theorem qG7 : CompSc (qAB (top 29)) ["w","h","points","lots","larger"] qG4 ["point"] [none]:=⟨rfl,kd,kd,kd,kd,rfl,kd,kd⟩
theorem qNp : (("_law_k" : Str) == ("__debug__" : Str)) = false:=kd
theorem qNk : (("_law_k" : Str) == ("__classdict__" : Str)) = false:=kd
theorem qDu : (("_law_script" : Str) == ("__debug__" : Str)) = false:=kd
theorem qDq : (("_law_script" : Str) == ("__classdict__" : Str)) = false:=kd
theorem qPx : FnScope ["_law_script","_law_k"] ["_law_script","_law_k"] (qAB (top 31)):=⟨rfl,rfl,rfl,kd,rfl,kd,kd⟩
theorem qIp : (qAB (top 31)).names.lookup ("_law_script" : Str) = some .local:=kd
theorem qIq : (qAB (top 31)).names.lookup ("_law_k" : Str) = some .local:=kd
theorem qLM {l f : Addr} {cd : Value} : (envOfC "_law_cell" (qAB (top 31)) l f cd).kindOf "len" = some .globalImplicit:=by kernel_rfl
theorem qD7 : (("_law_cell_here" : Str) == ("__debug__" : Str)) = false:=kd
theorem qD4 : (("_law_cell_here" : Str) == ("__classdict__" : Str)) = false:=kd
theorem qQP : FnScope ["_law_cell_here"] ["_law_cell_here"] (qAB (top 32)):=⟨rfl,rfl,rfl,kd,rfl,kd,kd⟩
theorem qJs : (qAB (top 32)).names.lookup ("_law_cell_here" : Str) = some .local:=kd
theorem qL4 {l f : Addr} {cd : Value} : (envOfC "_law_pen" (qAB (top 32)) l f cd).kindOf "int" = some .globalImplicit:=by kernel_rfl
theorem qAh : (("_law_pen_here" : Str) == ("__debug__" : Str)) = false:=kd
theorem qAg : (("_law_pen_here" : Str) == ("__classdict__" : Str)) = false:=kd
theorem qG9 : (("_law_many" : Str) == ("__debug__" : Str)) = false:=kd
theorem qGx : (("_law_many" : Str) == ("__classdict__" : Str)) = false:=kd
theorem qAm : (("_law_found" : Str) == ("__debug__" : Str)) = false:=kd
theorem qAl : (("_law_found" : Str) == ("__classdict__" : Str)) = false:=kd
theorem qKS : FnScope ["_law_pen_here","_law_many","_law_found"] ["_law_pen_here","_law_many"] (qAB (top 33)):=⟨rfl,rfl,rfl,kd,rfl,kd,kd⟩
theorem qBO : (qAB (top 33)).names.lookup ("_law_pen_here" : Str) = some .local:=kd
theorem qFS : (qAB (top 33)).names.lookup ("_law_many" : Str) = some .local:=kd
theorem qIr : (qAB (top 33)).names.lookup ("_law_found" : Str) = some .local:=kd
theorem qBB : (("_law_due" : Str) == ("__debug__" : Str)) = false:=kd
theorem qBA : (("_law_due" : Str) == ("__classdict__" : Str)) = false:=kd
theorem qSg : ("str" : Str) ≠ "__name__":=kd
theorem qR1 : (("str" : Str) == ("__debug__" : Str)) = false:=kd
theorem qJV : ("tuple" : Str) ≠ "__name__":=kd
theorem qJE : (("tuple" : Str) == ("__debug__" : Str)) = false:=kd
theorem qNL : ("list" : Str) ≠ "__name__":=kd
theorem qM0 : (("list" : Str) == ("__debug__" : Str)) = false:=kd
theorem qBj : (("_law_other" : Str) == ("__debug__" : Str)) = false:=kd
theorem qBi : (("_law_other" : Str) == ("__classdict__" : Str)) = false:=kd
theorem qEG : (("_law_one" : Str) == ("__debug__" : Str)) = false:=kd
theorem qEE : (("_law_one" : Str) == ("__classdict__" : Str)) = false:=kd
theorem qE2 : (("_law_same" : Str) == ("__debug__" : Str)) = false:=kd
theorem qHe : FnScope ["_law_found","_law_due","_law_one","_law_other"] ["_law_found","_law_due"] (qAB (top 34)):=⟨rfl,rfl,rfl,kd,rfl,kd,kd⟩
theorem qBH : (qAB (top 34)).names.lookup ("_law_found" : Str) = some .local:=kd
theorem qA8 : (qAB (top 34)).names.lookup ("_law_due" : Str) = some .local:=kd
theorem qIs : (qAB (top 34)).names.lookup ("_law_one" : Str) = some .local:=kd
theorem qIt : (qAB (top 34)).names.lookup ("_law_other" : Str) = some .local:=kd
theorem qGQ {l f : Addr} {cd : Value} : (envOfC "_law_same" (qAB (top 34)) l f cd).kindOf "bool" = some .globalImplicit:=by kernel_rfl
theorem qAe {l f : Addr} {cd : Value} : (envOfC "_law_same" (qAB (top 34)) l f cd).kindOf "isinstance" = some .globalImplicit:=by kernel_rfl
theorem qLN {l f : Addr} {cd : Value} : (envOfC "_law_same" (qAB (top 34)) l f cd).kindOf "int" = some .globalImplicit:=by kernel_rfl
theorem qHM {l f : Addr} {cd : Value} : (envOfC "_law_same" (qAB (top 34)) l f cd).kindOf "str" = some .globalImplicit:=by kernel_rfl
theorem qDh {l f : Addr} {cd : Value} : (envOfC "_law_same" (qAB (top 34)) l f cd).kindOf "tuple" = some .globalImplicit:=by kernel_rfl
theorem qD8 {l f : Addr} {cd : Value} : (envOfC "_law_same" (qAB (top 34)) l f cd).kindOf "list" = some .globalImplicit:=by kernel_rfl
theorem qLO {l f : Addr} {cd : Value} : (envOfC "_law_same" (qAB (top 34)) l f cd).kindOf "zip" = some .globalImplicit:=by kernel_rfl
theorem qIM {l f : Addr} {cd : Value} : (envOfC "_law_same" (qAB (top 34)) l f cd).kindOf "_law_same" = some .globalImplicit:=by kernel_rfl
theorem qHL {l f : Addr} {cd : Value} : (envOfC "_law_same" (qAB (top 34)) l f cd).kindOf "len" = some .globalImplicit:=by kernel_rfl
theorem qOI : (("_law_words" : Str) == ("__debug__" : Str)) = false:=kd
theorem qOE : (("_law_words" : Str) == ("__classdict__" : Str)) = false:=kd
theorem qEQ : (("_law_marks" : Str) == ("__debug__" : Str)) = false:=kd
theorem qEP : (("_law_marks" : Str) == ("__classdict__" : Str)) = false:=kd
theorem qLu : (("TooMany" : Str) == ("__debug__" : Str)) = false:=kd
theorem qBL : (("_law_e" : Str) == ("__debug__" : Str)) = false:=kd
theorem qBJ : (("_law_e" : Str) == ("__classdict__" : Str)) = false:=kd
theorem qO6 : (("Alike" : Str) == ("__debug__" : Str)) = false:=kd
theorem qOJ : ("ValueError" : Str) ≠ "__name__":=kd
theorem qOG : (("ValueError" : Str) == ("__debug__" : Str)) = false:=kd
theorem qRw : (("NoDeed" : Str) == ("__debug__" : Str)) = false:=kd
theorem qRy : (("NoLine" : Str) == ("__debug__" : Str)) = false:=kd
theorem qRz : (("NoText" : Str) == ("__debug__" : Str)) = false:=kd
theorem qRx : (("NoFars" : Str) == ("__debug__" : Str)) = false:=kd
theorem qRG : (("NoMarks" : Str) == ("__debug__" : Str)) = false:=kd
theorem qQC : (("NoCircle" : Str) == ("__debug__" : Str)) = false:=kd
theorem qTX : (("NoLot" : Str) == ("__debug__" : Str)) = false:=kd
theorem qRH : (("NoPoint" : Str) == ("__debug__" : Str)) = false:=kd
theorem qCe : FnScope ["_law_e","_law_marks","_law_words"] ["_law_e"] (qAB (top 35)):=⟨rfl,rfl,rfl,kd,rfl,kd,kd⟩
theorem qAi : (qAB (top 35)).names.lookup ("_law_e" : Str) = some .local:=kd
theorem qBV : (qAB (top 35)).names.lookup ("_law_marks" : Str) = some .local:=kd
theorem qGS : (qAB (top 35)).names.lookup ("_law_words" : Str) = some .local:=kd
theorem qD3 {l f : Addr} {cd : Value} : (envOfC "_law_kind_of" (qAB (top 35)) l f cd).kindOf "TooMany" = some .globalImplicit:=by kernel_rfl
theorem qAS {l f : Addr} {cd : Value} : (envOfC "_law_kind_of" (qAB (top 35)) l f cd).kindOf "isinstance" = some .globalImplicit:=by kernel_rfl
theorem qEo {l f : Addr} {cd : Value} : (envOfC "_law_kind_of" (qAB (top 35)) l f cd).kindOf "Alike" = some .globalImplicit:=by kernel_rfl
theorem qGG {l f : Addr} {cd : Value} : (envOfC "_law_kind_of" (qAB (top 35)) l f cd).kindOf "ValueError" = some .globalImplicit:=by kernel_rfl
theorem qII {l f : Addr} {cd : Value} : (envOfC "_law_kind_of" (qAB (top 35)) l f cd).kindOf "NoDeed" = some .globalImplicit:=by kernel_rfl
theorem qIK {l f : Addr} {cd : Value} : (envOfC "_law_kind_of" (qAB (top 35)) l f cd).kindOf "NoLine" = some .globalImplicit:=by kernel_rfl
theorem qIL {l f : Addr} {cd : Value} : (envOfC "_law_kind_of" (qAB (top 35)) l f cd).kindOf "NoText" = some .globalImplicit:=by kernel_rfl
theorem qIJ {l f : Addr} {cd : Value} : (envOfC "_law_kind_of" (qAB (top 35)) l f cd).kindOf "NoFars" = some .globalImplicit:=by kernel_rfl
theorem qHl {l f : Addr} {cd : Value} : (envOfC "_law_kind_of" (qAB (top 35)) l f cd).kindOf "NoMarks" = some .globalImplicit:=by kernel_rfl
theorem qHJ {l f : Addr} {cd : Value} : (envOfC "_law_kind_of" (qAB (top 35)) l f cd).kindOf "NoCircle" = some .globalImplicit:=by kernel_rfl
theorem qHK {l f : Addr} {cd : Value} : (envOfC "_law_kind_of" (qAB (top 35)) l f cd).kindOf "NoNumber" = some .globalImplicit:=by kernel_rfl
theorem qIk {l f : Addr} {cd : Value} : (envOfC "_law_kind_of" (qAB (top 35)) l f cd).kindOf "NoLot" = some .globalImplicit:=by kernel_rfl
theorem qHm {l f : Addr} {cd : Value} : (envOfC "_law_kind_of" (qAB (top 35)) l f cd).kindOf "NoPoint" = some .globalImplicit:=by kernel_rfl
theorem qE3 : (("_law_some" : Str) == ("__debug__" : Str)) = false:=kd
theorem qEx : (("_law_some" : Str) == ("__classdict__" : Str)) = false:=kd
theorem qDc : (("_law_draw" : Str) == ("__debug__" : Str)) = false:=kd
theorem qKB : (("_law_high" : Str) == ("__debug__" : Str)) = false:=kd
theorem qJ5 : (("_law_high" : Str) == ("__classdict__" : Str)) = false:=kd
theorem qIF : (("_law_low" : Str) == ("__debug__" : Str)) = false:=kd
theorem qID : (("_law_low" : Str) == ("__classdict__" : Str)) = false:=kd
theorem qGV : FnScope ["_law_pen_here","_law_low","_law_high","_law_some"] ["_law_pen_here","_law_low","_law_high"] (qAB (top 36)):=⟨rfl,rfl,rfl,kd,rfl,kd,kd⟩
theorem qJ1 : (qAB (top 36)).names.lookup ("_law_pen_here" : Str) = some .local:=kd
theorem qDU : (qAB (top 36)).names.lookup ("_law_low" : Str) = some .local:=kd
theorem qFE : (qAB (top 36)).names.lookup ("_law_high" : Str) = some .local:=kd
theorem qFF : (qAB (top 36)).names.lookup ("_law_some" : Str) = some .local:=kd
theorem qFx {l f : Addr} {cd : Value} : (envOfC "_law_no_number" (qAB (top 36)) l f cd).kindOf "_law_draw" = some .globalImplicit:=by kernel_rfl
theorem qQO : FnScope ["_law_one","_law_other"] ["_law_one","_law_other"] (qAB (top 37)):=⟨rfl,rfl,rfl,kd,rfl,kd,kd⟩
theorem qJq : (qAB (top 37)).names.lookup ("_law_one" : Str) = some .local:=kd
theorem qJr : (qAB (top 37)).names.lookup ("_law_other" : Str) = some .local:=kd
theorem qBs : (("_law_lot" : Str) == ("__debug__" : Str)) = false:=kd
theorem qBq : (("_law_lot" : Str) == ("__classdict__" : Str)) = false:=kd
theorem qLv : (("_law_at" : Str) == ("__debug__" : Str)) = false:=kd
theorem qLo : (("_law_at" : Str) == ("__classdict__" : Str)) = false:=kd
theorem qEV : FnScope ["_law_lot","_law_found","_law_at"] ["_law_lot"] (qAB (top 38)):=⟨rfl,rfl,rfl,kd,rfl,kd,kd⟩
theorem qH5 : (qAB (top 38)).names.lookup ("_law_lot" : Str) = some .cell:=kd
theorem qDY : (qAB (top 38)).names.lookup ("_law_found" : Str) = some .local:=kd
theorem qH6 : (qAB (top 38)).names.lookup ("_law_at" : Str) = some .cell:=kd
theorem qKs {l f : Addr} {cd : Value} : (envOfC "_law_pairs" (qAB (top 38)) l f cd).kindOf "len" = some .globalImplicit:=by kernel_rfl
theorem qJ0 {l f : Addr} {cd : Value} : (envOfC "_law_pairs" (qAB (top 38)) l f cd).kindOf "range" = some .globalImplicit:=by kernel_rfl
noncomputable def qDW : Scope:={ kind:=.function,names:=[(Str.ofString ".0",NameKind.local),(Str.ofString "_law_other",NameKind.local),(Str.ofString "_law_at",NameKind.free),(Str.ofString "_law_lot",NameKind.free)],isGenerator:=false,isCoroutine:=false,more:=[] }
theorem qB6 : qDW.names.lookup ("_law_other" : Str) = some NameKind.local:=kd
theorem qHi : qDW.names.lookup ("_law_at" : Str) = some NameKind.free:=kd
theorem qG2 : qDW.names.lookup ("_law_lot" : Str) = some NameKind.free:=kd
theorem qHy : CompSc (qAB (top 38)) ["_law_lot","_law_found","_law_at"] qDW ["_law_other","_law_at","_law_lot"] [none,some 2,some 0]:=⟨rfl,kd,kd,kd,kd,rfl,kd,kd⟩
theorem qOH : (("_law_pairs" : Str) == ("__debug__" : Str)) = false:=kd
theorem qK2 : (("_law_far" : Str) == ("__debug__" : Str)) = false:=kd
theorem qPy : FnScope ["_law_lot"] ["_law_lot"] (qAB (top 39)):=⟨rfl,rfl,rfl,kd,rfl,kd,kd⟩
theorem qNG : (qAB (top 39)).names.lookup ("_law_lot" : Str) = some .local:=kd
theorem qHk {l f : Addr} {cd : Value} : (envOfC "_law_fars" (qAB (top 39)) l f cd).kindOf "_law_pairs" = some .globalImplicit:=by kernel_rfl
noncomputable def qDs : Scope:={ kind:=.function,names:=[(Str.ofString ".0",NameKind.local),(Str.ofString "_law_one",NameKind.local),(Str.ofString "_law_other",NameKind.local),(Str.ofString "_law_far",NameKind.globalImplicit)],isGenerator:=false,isCoroutine:=false,more:=[] }
theorem qCP : qDs.names.lookup ("_law_one" : Str) = some NameKind.local:=kd
theorem qCA : qDs.names.lookup ("_law_other" : Str) = some NameKind.local:=kd
theorem qHh : qDs.names.lookup ("_law_far" : Str) = some NameKind.globalImplicit:=kd
theorem qFM : CompSc (qAB (top 39)) ["_law_lot"] qDs ["_law_one","_law_other"] [none,none]:=⟨rfl,kd,kd,kd,kd,rfl,kd,kd⟩
theorem qH2 : (("_law_w" : Str) == ("__debug__" : Str)) = false:=kd
theorem qHw : (("_law_w" : Str) == ("__classdict__" : Str)) = false:=kd
theorem qEm : (("_law_h" : Str) == ("__debug__" : Str)) = false:=kd
theorem qEk : (("_law_h" : Str) == ("__classdict__" : Str)) = false:=kd
theorem qJn : (("_law_place" : Str) == ("__debug__" : Str)) = false:=kd
theorem qJl : (("_law_place" : Str) == ("__classdict__" : Str)) = false:=kd
theorem qOP : FnScope ["_law_w","_law_h"] ["_law_w","_law_h"] (qAB (top 40)):=⟨rfl,rfl,rfl,kd,rfl,kd,kd⟩
theorem qMC : (qAB (top 40)).names.lookup ("_law_w" : Str) = some .local:=kd
theorem qMD : (qAB (top 40)).names.lookup ("_law_h" : Str) = some .cell:=kd
theorem qJy {l f : Addr} {cd : Value} : (envOfC "_law_board" (qAB (top 40)) l f cd).kindOf "range" = some .globalImplicit:=by kernel_rfl
noncomputable def qEy : Scope:={ kind:=.function,names:=[(Str.ofString ".0",NameKind.local),(Str.ofString "_law_place",NameKind.local),(Str.ofString "_law_h",NameKind.free)],isGenerator:=false,isCoroutine:=false,more:=[] }
theorem qBY : qEy.names.lookup ("_law_place" : Str) = some NameKind.local:=kd
theorem qEF : qEy.names.lookup ("_law_h" : Str) = some NameKind.free:=kd
theorem qHx : CompSc (qAB (top 40)) ["_law_w","_law_h"] qEy ["_law_place","_law_h"] [none,some 1]:=⟨rfl,kd,kd,kd,kd,rfl,kd,kd⟩
theorem qM3 : (("most_unlike" : Str) == ("__debug__" : Str)) = false:=kd
theorem qR0 : (("filled" : Str) == ("__debug__" : Str)) = false:=kd
theorem qK3 : (("_law_way" : Str) == ("__debug__" : Str)) = false:=kd
theorem qKx : (("_law_way" : Str) == ("__classdict__" : Str)) = false:=kd
theorem qLw : (("_law_kind_of" : Str) == ("__debug__" : Str)) = false:=kd
theorem qQB : (("FarError" : Str) == ("__debug__" : Str)) = false:=kd
theorem qKR : FnScope ["_law_way","_law_w","_law_h","_law_e"] ["_law_way","_law_w","_law_h"] (qAB (top 41)):=⟨rfl,rfl,rfl,kd,rfl,kd,kd⟩
theorem qND : (qAB (top 41)).names.lookup ("_law_way" : Str) = some .local:=kd
theorem qNE : (qAB (top 41)).names.lookup ("_law_w" : Str) = some .local:=kd
theorem qNF : (qAB (top 41)).names.lookup ("_law_h" : Str) = some .local:=kd
theorem qIo : (qAB (top 41)).names.lookup ("_law_e" : Str) = some .local:=kd
theorem qHI {l f : Addr} {cd : Value} : (envOfC "_law_came" (qAB (top 41)) l f cd).kindOf "unlike_lots" = some .globalImplicit:=by kernel_rfl
theorem qHH {l f : Addr} {cd : Value} : (envOfC "_law_came" (qAB (top 41)) l f cd).kindOf "most_unlike" = some .globalImplicit:=by kernel_rfl
theorem qJz {l f : Addr} {cd : Value} : (envOfC "_law_came" (qAB (top 41)) l f cd).kindOf "filled" = some .globalImplicit:=by kernel_rfl
theorem qGd {l f : Addr} {cd : Value} : (envOfC "_law_came" (qAB (top 41)) l f cd).kindOf "_law_kind_of" = some .globalImplicit:=by kernel_rfl
theorem qIj {l f : Addr} {cd : Value} : (envOfC "_law_came" (qAB (top 41)) l f cd).kindOf "FarError" = some .globalImplicit:=by kernel_rfl
theorem qFO : (("_law_points" : Str) == ("__debug__" : Str)) = false:=kd
theorem qFL : (("_law_points" : Str) == ("__classdict__" : Str)) = false:=kd
theorem qHA : (("_law_more" : Str) == ("__debug__" : Str)) = false:=kd
theorem qGy : (("_law_more" : Str) == ("__classdict__" : Str)) = false:=kd
theorem qGA : (("_law_known" : Str) == ("__debug__" : Str)) = false:=kd
theorem qF7 : (("_law_known" : Str) == ("__classdict__" : Str)) = false:=kd
theorem qB7 : (("_law_point" : Str) == ("__debug__" : Str)) = false:=kd
theorem qB5 : (("_law_point" : Str) == ("__classdict__" : Str)) = false:=kd
theorem qCz : FnScope ["_law_points","_law_found","_law_known","_law_point","_law_more"] ["_law_points"] (qAB (top 42)):=⟨rfl,rfl,rfl,kd,rfl,kd,kd⟩
theorem qLT : (qAB (top 42)).names.lookup ("_law_points" : Str) = some .local:=kd
theorem qC9 : (qAB (top 42)).names.lookup ("_law_found" : Str) = some .local:=kd
theorem qCL : (qAB (top 42)).names.lookup ("_law_known" : Str) = some .local:=kd
theorem qHO : (qAB (top 42)).names.lookup ("_law_point" : Str) = some .cell:=kd
theorem qDA : (qAB (top 42)).names.lookup ("_law_more" : Str) = some .local:=kd
theorem qJI {l f : Addr} {cd : Value} : (envOfC "_law_filled" (qAB (top 42)) l f cd).kindOf "tuple" = some .globalImplicit:=by kernel_rfl
theorem qDg {l f : Addr} {cd : Value} : (envOfC "_law_filled" (qAB (top 42)) l f cd).kindOf "len" = some .globalImplicit:=by kernel_rfl
theorem qKG {l f : Addr} {cd : Value} : (envOfC "_law_filled" (qAB (top 42)) l f cd).kindOf "set" = some .globalImplicit:=by kernel_rfl
noncomputable def qC5 : Scope:={ kind:=.function,names:=[(Str.ofString ".0",NameKind.local),(Str.ofString "_law_other",NameKind.local),(Str.ofString "_law_far",NameKind.globalImplicit),(Str.ofString "_law_point",NameKind.free)],isGenerator:=false,isCoroutine:=false,more:=[] }
theorem qBv : qC5.names.lookup ("_law_other" : Str) = some NameKind.local:=kd
theorem qGa : qC5.names.lookup ("_law_far" : Str) = some NameKind.globalImplicit:=kd
theorem qFq : qC5.names.lookup ("_law_point" : Str) = some NameKind.free:=kd
theorem qG5 : CompSc (qAB (top 42)) ["_law_points","_law_found","_law_known","_law_point","_law_more"] qC5 ["_law_other","_law_point"] [none,some 3]:=⟨rfl,kd,kd,kd,kd,rfl,kd,kd⟩
theorem qGB : (("_law_later" : Str) == ("__debug__" : Str)) = false:=kd
theorem qF8 : (("_law_later" : Str) == ("__classdict__" : Str)) = false:=kd
theorem qO8 : (("_law_fars" : Str) == ("__debug__" : Str)) = false:=kd
theorem qBp : FnScope ["_law_points","_law_some","_law_later","_law_lot","_law_point"] ["_law_points"] (qAB (top 43)):=⟨rfl,rfl,rfl,kd,rfl,kd,kd⟩
theorem qF1 : (qAB (top 43)).names.lookup ("_law_points" : Str) = some .local:=kd
theorem qCa : (qAB (top 43)).names.lookup ("_law_some" : Str) = some .local:=kd
theorem qBx : (qAB (top 43)).names.lookup ("_law_later" : Str) = some .local:=kd
theorem qBy : (qAB (top 43)).names.lookup ("_law_lot" : Str) = some .cell:=kd
theorem qDj : (qAB (top 43)).names.lookup ("_law_point" : Str) = some .local:=kd
theorem qGF {l f : Addr} {cd : Value} : (envOfC "_law_greatest" (qAB (top 43)) l f cd).kindOf "_law_fars" = some .globalImplicit:=by kernel_rfl
theorem qC7 {l f : Addr} {cd : Value} : (envOfC "_law_greatest" (qAB (top 43)) l f cd).kindOf "len" = some .globalImplicit:=by kernel_rfl
theorem qJJ {l f : Addr} {cd : Value} : (envOfC "_law_greatest" (qAB (top 43)) l f cd).kindOf "set" = some .globalImplicit:=by kernel_rfl
noncomputable def qDb : Scope:={ kind:=.function,names:=[(Str.ofString ".0",NameKind.local),(Str.ofString "_law_point",NameKind.local),(Str.ofString "_law_lot",NameKind.free)],isGenerator:=false,isCoroutine:=false,more:=[] }
theorem qBI : qDb.names.lookup ("_law_point" : Str) = some NameKind.local:=kd
theorem qFr : qDb.names.lookup ("_law_lot" : Str) = some NameKind.free:=kd
theorem qFu : CompSc (qAB (top 43)) ["_law_points","_law_some","_law_later","_law_lot","_law_point"] qDb ["_law_point","_law_lot"] [none,some 3]:=⟨rfl,kd,kd,kd,kd,rfl,kd,kd⟩
noncomputable def qFt : Scope:={ kind:=.function,names:=[(Str.ofString ".0",NameKind.local),(Str.ofString "_law_point",NameKind.local)],isGenerator:=false,isCoroutine:=false,more:=[] }
theorem qBl : qFt.names.lookup ("_law_point" : Str) = some NameKind.local:=kd
theorem qFv : CompSc (qAB (top 43)) ["_law_points","_law_some","_law_later","_law_lot","_law_point"] qFt ["_law_point"] [none]:=⟨rfl,kd,kd,kd,kd,rfl,kd,kd⟩
theorem qO7 : (("_law_cell" : Str) == ("__debug__" : Str)) = false:=kd
theorem qCs : (("_law_came" : Str) == ("__debug__" : Str)) = false:=kd
theorem qHB : (("_law_wide" : Str) == ("__debug__" : Str)) = false:=kd
theorem qGz : (("_law_wide" : Str) == ("__classdict__" : Str)) = false:=kd
theorem qFf : (("_law_odd" : Str) == ("__debug__" : Str)) = false:=kd
theorem qFe : (("_law_odd" : Str) == ("__classdict__" : Str)) = false:=kd
theorem qKr : (("_law_no_number" : Str) == ("__debug__" : Str)) = false:=kd
theorem qO9 : (("_law_held" : Str) == ("__debug__" : Str)) = false:=kd
theorem qOx : (("_law_held" : Str) == ("__classdict__" : Str)) = false:=kd
theorem qH1 : (("_law_b" : Str) == ("__debug__" : Str)) = false:=kd
theorem qHv : (("_law_b" : Str) == ("__classdict__" : Str)) = false:=kd
theorem qH0 : (("_law_a" : Str) == ("__debug__" : Str)) = false:=kd
theorem qHu : (("_law_a" : Str) == ("__classdict__" : Str)) = false:=kd
theorem qJm : (("_law_board" : Str) == ("__debug__" : Str)) = false:=kd
theorem qMw : (("_law_filled" : Str) == ("__debug__" : Str)) = false:=kd
theorem qLG : (("_law_greatest" : Str) == ("__debug__" : Str)) = false:=kd
theorem qQD : (("_law_pen" : Str) == ("__debug__" : Str)) = false:=kd
theorem qCN : FnScope ["_law_script","_law_cell_here","_law_pen_here","_law_w","_law_h","_law_a","_law_b","_law_due","_law_turn","_law_found","_law_held","_law_other","_law_way","_law_wide","_law_odd","_law_some"] ["_law_script"] (qAB (top 44)):=⟨rfl,rfl,rfl,kd,rfl,kd,kd⟩
theorem qPT : (qAB (top 44)).names.lookup ("_law_script" : Str) = some .local:=kd
theorem qPU : (qAB (top 44)).names.lookup ("_law_cell_here" : Str) = some .local:=kd
theorem qFT : (qAB (top 44)).names.lookup ("_law_pen_here" : Str) = some .local:=kd
theorem qLU : (qAB (top 44)).names.lookup ("_law_w" : Str) = some .local:=kd
theorem qLV : (qAB (top 44)).names.lookup ("_law_h" : Str) = some .local:=kd
theorem qHR : (qAB (top 44)).names.lookup ("_law_a" : Str) = some .local:=kd
theorem qHS : (qAB (top 44)).names.lookup ("_law_b" : Str) = some .local:=kd
theorem qJT : (qAB (top 44)).names.lookup ("_law_due" : Str) = some .local:=kd
theorem qT3 : (qAB (top 44)).names.lookup ("_law_turn" : Str) = some .local:=kd
theorem qLW : (qAB (top 44)).names.lookup ("_law_found" : Str) = some .local:=kd
theorem qNx : (qAB (top 44)).names.lookup ("_law_held" : Str) = some .local:=kd
theorem qNy : (qAB (top 44)).names.lookup ("_law_other" : Str) = some .local:=kd
theorem qSX : (qAB (top 44)).names.lookup ("_law_way" : Str) = some .cell:=kd
theorem qH7 : (qAB (top 44)).names.lookup ("_law_wide" : Str) = some .local:=kd
theorem qF2 : (qAB (top 44)).names.lookup ("_law_odd" : Str) = some .local:=kd
theorem qNz : (qAB (top 44)).names.lookup ("_law_some" : Str) = some .local:=kd
theorem qLQ {l f : Addr} {cd : Value} : (envOfC "law" (qAB (top 44)) l f cd).kindOf "_law_cell" = some .globalImplicit:=by kernel_rfl
theorem qIn {l f : Addr} {cd : Value} : (envOfC "law" (qAB (top 44)) l f cd).kindOf "_law_no_number" = some .globalImplicit:=by kernel_rfl
theorem qEc {l f : Addr} {cd : Value} : (envOfC "law" (qAB (top 44)) l f cd).kindOf "_law_same" = some .globalImplicit:=by kernel_rfl
theorem qCK {l f : Addr} {cd : Value} : (envOfC "law" (qAB (top 44)) l f cd).kindOf "_law_came" = some .globalImplicit:=by kernel_rfl
theorem qPL {l f : Addr} {cd : Value} : (envOfC "law" (qAB (top 44)) l f cd).kindOf "range" = some .globalImplicit:=by kernel_rfl
theorem qRK {l f : Addr} {cd : Value} : (envOfC "law" (qAB (top 44)) l f cd).kindOf "len" = some .globalImplicit:=by kernel_rfl
theorem qGR {l f : Addr} {cd : Value} : (envOfC "law" (qAB (top 44)) l f cd).kindOf "_law_board" = some .globalImplicit:=by kernel_rfl
theorem qKH {l f : Addr} {cd : Value} : (envOfC "law" (qAB (top 44)) l f cd).kindOf "_law_filled" = some .globalImplicit:=by kernel_rfl
theorem qJL {l f : Addr} {cd : Value} : (envOfC "law" (qAB (top 44)) l f cd).kindOf "_law_greatest" = some .globalImplicit:=by kernel_rfl
theorem qC8 {l f : Addr} {cd : Value} : (envOfC "law" (qAB (top 44)) l f cd).kindOf "_law_draw" = some .globalImplicit:=by kernel_rfl
theorem qL6 {l f : Addr} {cd : Value} : (envOfC "law" (qAB (top 44)) l f cd).kindOf "_law_pen" = some .globalImplicit:=by kernel_rfl
noncomputable def qG3 : Scope:={ kind:=.function,names:=[(Str.ofString ".0",NameKind.local),(Str.ofString "_law_one",NameKind.local),(Str.ofString "_law_other",NameKind.local),(Str.ofString "_law_came",NameKind.globalImplicit),(Str.ofString "_law_way",NameKind.free)],isGenerator:=false,isCoroutine:=false,more:=[] }
theorem qD5 : qG3.names.lookup ("_law_one" : Str) = some NameKind.local:=kd
theorem qDS : qG3.names.lookup ("_law_other" : Str) = some NameKind.local:=kd
theorem qJ6 : qG3.names.lookup ("_law_came" : Str) = some NameKind.globalImplicit:=kd
theorem qKq : qG3.names.lookup ("_law_way" : Str) = some NameKind.free:=kd
theorem qLF : CompSc (qAB (top 44)) ["_law_script","_law_cell_here","_law_pen_here","_law_w","_law_h","_law_a","_law_b","_law_due","_law_turn","_law_found","_law_held","_law_other","_law_way","_law_wide","_law_odd","_law_some"] qG3 ["_law_one","_law_other","_law_way"] [none,none,some 12]:=⟨rfl,kd,kd,kd,kd,rfl,kd,kd⟩
noncomputable def qFJ : DS:=qAs (qA1 false [none,none,some 1] (qDX (qEa (qAA (qAD 0) (qAF)))) (gNm 0) (qBN) (kIn (qDX (qEa (qAA (qAD 2) (qAF)))) (gNm 1) (qBN) (qAy (qAu (qAA (qAD 0) (qAA (qAD 1) (qAF)))))))
theorem qGN : ∃ F : DF,F = qAT 2 qFJ:=⟨_,rfl⟩
noncomputable def qBo : DF:=Classical.choose (qGN)
theorem qGM : qBo = qAT 2 qFJ:=Classical.choose_spec (qGN)
noncomputable def qMe : DS:=qAs (qA1 false [none,none,some 1] (dIt (qAD 0)) (gNm 0) (qBN) (kIn (dIt (qAD 2)) (gNm 1) (qE1 (dTr (d2 qKF (qAD 1) (d2 gIx (qAD 0) (d1 qLL (dC (.int 1)))))) (qBN)) (qAy (d2 qA4 (qAD 0) (qAu (qAA (qAD 1) (qAF)))))))
theorem qLk : ∃ F : DF,F = qAT 2 qMe:=⟨_,rfl⟩
noncomputable def qGi : DF:=Classical.choose (qLk)
theorem qLj : qGi = qAT 2 qMe:=Classical.choose_spec (qLk)
noncomputable def qGZ : DS:=qAs (qIE (qAM qBD (qAA (qAD 0) (qAA (dC (.ty "int")) (qAF)))) (qTV (qAM qBD (qAA (qAD 0) (qAA (dC (.ty "bool")) (qAF))))))
theorem qJk : ∃ F : DF,F = qAT 1 qGZ:=⟨_,rfl⟩
noncomputable def qDp : DF:=Classical.choose (qJk)
theorem qF5 : qDp = qAT 1 qGZ:=Classical.choose_spec (qJk)
noncomputable def qED : DS:=qAs (qIE (qAO 1 qDp (qAA (qAD 0) (qAF))) (qO4 gLe gLe (qAD 1) (qAD 0) (qAD 2)))
theorem qIc : ∃ F : DF,F = qAT 3 qED:=⟨_,rfl⟩
noncomputable def qCi : DF:=Classical.choose (qIc)
theorem qFH : qCi = qAT 3 qED:=Classical.choose_spec (qIc)
noncomputable def qDJ (c : Cl) : DS:=sIf (qDt (dTr (qAO 3 qCi (qAA (qAD 0) (qAA (qAD 1) (qAA (qAD 2) (qAF))))))) (qMU (.ref c.NoNumber) (qAA (qOW [dC (.str "a whole number from "),d1 qIH (qAD 1),dC (.str " to "),d1 qIH (qAD 2),dC (.str " is needed")]) (qAF))) (qBQ)
theorem qGu (c : Cl) : ∃ F : DF,F = qAT 3 (qDJ c):=⟨_,rfl⟩
noncomputable def qA6 (c : Cl) : DF:=Classical.choose (qGu c)
theorem qEX (c : Cl) : qA6 c = qAT 3 (qDJ c):=Classical.choose_spec (qGu c)
noncomputable def qEO : DS:=qAc (qBE (d2 qEb (d2 gIx (qAD 0) (dC (.int 0))) (d2 gIx (qAD 1) (dC (.int 0)))) (gNm 2)) (qAc (qBE (d2 qEb (d2 gIx (qAD 0) (dC (.int 1))) (d2 gIx (qAD 1) (dC (.int 1)))) (gNm 3)) (qAs (d2 qA4 (d2 qCY (qAD 2) (qAD 2)) (d2 qCY (qAD 3) (qAD 3)))))
theorem qGs : ∃ F : DF,F = qAT 4 qEO:=⟨_,rfl⟩
noncomputable def qDG : DF:=Classical.choose (qGs)
theorem qGr : qDG = qAT 4 qEO:=Classical.choose_spec (qGs)
noncomputable def qCp : DS:=qAc (qBE (qTU) (gNm 1)) (qAc (qEh (qRF (qAA (qAD 0) (qAF))) (gTp 2 (qBC (gNm 2) (qBC (gNm 3) (qDw)))) (qEh (qCr (dSl (qAD 0) (qDe (d2 qA4 (qAD 2) (dC (.int 1)))) (qIg))) (gNm 4) (qB3 (dBm "list" qBg (dBm "dict" qCt (qAD 1) (qAA (qAO 2 qDG (qAA (qAD 3) (qAA (qAD 4) (qAF)))) (qAA (qKY (qAF)) (qAF)))) (qAA (qAu (qAA (qAD 3) (qAA (qAD 4) (qAF)))) (qAF)))))) (qAs (qAD 1)))
theorem qGP : ∃ F : DF,F = qAT 5 qCp:=⟨_,rfl⟩
noncomputable def qCG : DF:=Classical.choose (qGP)
theorem qGO : qCG = qAT 5 qCp:=Classical.choose_spec (qGP)
noncomputable def qEv : DS:=qAs (qAM (qM8 false) (qAA (qA1 false [none] (qDX (qLt (qAO 1 qCG (qAA (qAD 0) (qAF))))) (gNm 0) (qBN) (qAy (d2 gEq (qAM qA3 (qAA (qAD 0) (qAF))) (dC (.int 1))))) (qAF)))
theorem qHt : ∃ F : DF,F = qAT 1 qEv:=⟨_,rfl⟩
noncomputable def qBu : DF:=Classical.choose (qHt)
theorem qHs : qBu = qAT 1 qEv:=Classical.choose_spec (qHt)
noncomputable def qFK (c : Cl) : DS:=qAc (qB3 (qAO 3 (qA6 c) (qAA (qAD 0) (qAA (dC (.int 1)) (qAA (dC (.int (12))) (qAF)))))) (qAc (qB3 (qAO 3 (qA6 c) (qAA (qAD 1) (qAA (dC (.int 1)) (qAA (dC (.int (12))) (qAF)))))) (qAc (qBE (qAu (qAF)) (gNm 2)) (qAc (qEh (qCr (qAO 2 qBo (qAA (qAD 0) (qAA (qAD 1) (qAF))))) (gNm 3) (sIf (dTr (qAO 1 qBu (qAA (d2 qA4 (qAD 2) (qAu (qAA (qAD 3) (qAF)))) (qAF)))) (qRa 2 qL1 (qAu (qAA (qAD 3) (qAF)))) (qBQ))) (qAs (qAD 2)))))
theorem qKw (c : Cl) : ∃ F : DF,F = qAT 4 (qFK c):=⟨_,rfl⟩
noncomputable def qDZ (c : Cl) : DF:=Classical.choose (qKw c)
theorem qIC (c : Cl) : qDZ c = qAT 4 (qFK c):=Classical.choose_spec (qKw c)
noncomputable def qCQ (c : Cl) : DS:=qAc (qB3 (qAO 3 (qA6 c) (qAA (qAD 0) (qAA (dC (.int 1)) (qAA (dC (.int (4))) (qAF)))))) (qAc (qB3 (qAO 3 (qA6 c) (qAA (qAD 1) (qAA (dC (.int 1)) (qAA (dC (.int (4))) (qAF)))))) (qAc (qBE (qAO 2 qBo (qAA (qAD 0) (qAA (qAD 1) (qAF)))) (gNm 2)) (qAc (qBE (qBK (qAF)) (gNm 3)) (qAc (qBE (qA1 true [none] (dIt (qAD 2)) (gNm 0) (qBN) (qAy (qAu (qAA (qAD 0) (qAF))))) (gNm 4)) (qAc (qKQ (dTr (qAD 4)) (qAc (qBE (qAD 4) (gNm 3)) (qBE (qA1 true [none] (dIt (qAO 2 qGi (qAA (qAD 3) (qAA (qAD 2) (qAF))))) (gNm 0) (qE1 (dTr (qAO 1 (okO qBu) (qAA (qAD 0) (qAF)))) (qBN)) (qAy (qAD 0))) (gNm 4)))) (qAs (qAD 3)))))))
theorem qGv (c : Cl) : ∃ F : DF,F = qAT 5 (qCQ c):=⟨_,rfl⟩
noncomputable def qBM (c : Cl) : DF:=Classical.choose (qGv c)
theorem qEY (c : Cl) : qBM c = qAT 5 (qCQ c):=Classical.choose_spec (qGv c)
noncomputable def qDI (c : Cl) : DS:=qAs (qAM qA3 (qAA (d2 gIx (qAO 2 (qBM c) (qAA (qAD 0) (qAA (qAD 1) (qAF)))) (dC (.int 0))) (qAF)))
theorem qGt (c : Cl) : ∃ F : DF,F = qAT 2 (qDI c):=⟨_,rfl⟩
noncomputable def qBh (c : Cl) : DF:=Classical.choose (qGt c)
theorem qEW (c : Cl) : qBh c = qAT 2 (qDI c):=Classical.choose_spec (qGt c)
noncomputable def qFb : DS:=qAc (sIf (dTr (d2 gLt (qAD 1) (qAM qA3 (qAA (qAD 0) (qAF))))) (qAs (d2 gIx (qAD 0) (qAD 1))) (qBQ)) (qAs (dC (.int 0)))
theorem qIV : ∃ F : DF,F = qAT 2 qFb:=⟨_,rfl⟩
noncomputable def qDO : DF:=Classical.choose (qIV)
theorem qIU : qDO = qAT 2 qFb:=Classical.choose_spec (qIV)
noncomputable def qGY : DS:=qAs (qKY (qAA (qAD 0) (qAA (qAM qPF (qAA (d2 gGe (qAD 0) (d2 qHG (dC (.int 10)) (dC (.int 18)))) (qAF))) (qAF))))
theorem qJj : ∃ F : DF,F = qAT 1 qGY:=⟨_,rfl⟩
noncomputable def qEu : DF:=Classical.choose (qJj)
theorem qJi : qEu = qAT 1 qGY:=Classical.choose_spec (qJj)
noncomputable def qFc : DS:=qAc (sIf (dTr (d2 gEq (d2 gIx (qAD 0) (dC (.int 1))) (dC (.int 1)))) (qAc (qBE (d2 qGE (d2 gIx (qAD 0) (dC (.int 0))) (qAD 1)) (gNm 2)) (qAc (qBE (d2 qGD (d2 gIx (qAD 0) (dC (.int 0))) (qAD 1)) (gSb (qAD 0) (dC (.int 0)) qFg)) (qAs (qAD 2)))) (qBQ)) (qAc (qBE (d2 qGE (d2 qA4 (d2 qCY (d2 qGE (d2 gIx (qAD 0) (dC (.int 0))) (dC (.int 2147483629))) (dC (.int 48271))) (dC (.int 11))) (dC (.int 2147483629))) (gSb (qAD 0) (dC (.int 0)) qFg)) (qAs (d2 qGE (d2 qGD (d2 qGE (d2 qA4 (d2 qCY (d2 gIx (qAD 0) (dC (.int 0))) (d2 gIx (qAD 0) (dC (.int 0)))) (d2 qCY (dC (.int 40692)) (d2 gIx (qAD 0) (dC (.int 0))))) (dC (.int 2147483647))) (dC (.int 8))) (qAD 1))))
theorem qIX : ∃ F : DF,F = qAT 3 qFc:=⟨_,rfl⟩
noncomputable def qBX : DF:=Classical.choose (qIX)
theorem qIW : qBX = qAT 3 qFc:=Classical.choose_spec (qIX)
noncomputable def qCF (qA2 : DF) : DS:=qAc (sIf (dTr (d2 gIs (qAD 1) (dC .non))) (qAs (d2 gIs (qAD 0) (dC .non))) (qBQ)) (qAc (sIf (qF9 (dTr (qAM qBD (qAA (qAD 1) (qAA (dC (.ty "tuple")) (qAF))))) (dTr (qAM qBD (qAA (qAD 1) (qAA (dC (.ty "list")) (qAF)))))) (qAc (sIf (qF9 (dTr (d2 gNe (qAM qBD (qAA (qAD 0) (qAA (dC (.ty "tuple")) (qAF)))) (qAM qBD (qAA (qAD 1) (qAA (dC (.ty "tuple")) (qAF)))))) (dTr (d2 gNe (qAM qBD (qAA (qAD 0) (qAA (dC (.ty "list")) (qAF)))) (qAM qBD (qAA (qAD 1) (qAA (dC (.ty "list")) (qAF))))))) (qAs (dC (.bl false))) (qBQ)) (qAc (sIf (dTr (d2 gNe (qAM qA3 (qAA (qAD 0) (qAF))) (qAM qA3 (qAA (qAD 1) (qAF))))) (qAs (dC (.bl false))) (qBQ)) (qAc (qEh (qO5 (qAA (qAD 0) (qAA (qAD 1) (qAF)))) (gTp 2 (qBC (gNm 2) (qBC (gNm 3) (qDw)))) (sIf (qDt (dTr (qAO 2 qA2 (qAA (qAD 2) (qAA (qAD 3) (qAF)))))) (qAs (dC (.bl false))) (qBQ))) (qAs (dC (.bl true)))))) (qBQ)) (qAc (sIf (dTr (qAM qBD (qAA (qAD 1) (qAA (dC (.ty "str")) (qAF))))) (qAs (qIE (qAM qBD (qAA (qAD 0) (qAA (dC (.ty "str")) (qAF)))) (d2 gEq (qAD 0) (qAD 1)))) (qBQ)) (qAs (qIE (d2 gEq (qAM qBD (qAA (qAD 0) (qAA (dC (.ty "bool")) (qAF)))) (qAM qBD (qAA (qAD 1) (qAA (dC (.ty "bool")) (qAF))))) (qIE (qAM qBD (qAA (qAD 0) (qAA (dC (.ty "int")) (qAF)))) (d2 gEq (qAD 0) (qAD 1)))))))
noncomputable def qD1 : Nat → DF
 | 0 => fun _ _ => .bad
 | n + 1 => qAT 4 (qCF (qD1 n))
theorem qIb : ∃ F : DF,F = qD1 6:=⟨_,rfl⟩
noncomputable def qA2 : DF:=Classical.choose (qIb)
theorem qIa : qA2 = qD1 6:=Classical.choose_spec (qIb)
noncomputable def qFI (c : Cl) : DS:=qAc (qBE (qBK (qAA (qAM (qBW (qBw c)) (qAA (qAD 0) (qAA (dC (.obj c.NoPoint)) (qAF)))) (qAA (qAM (qBW (qBw c)) (qAA (qAD 0) (qAA (dC (.obj c.NoLot)) (qAF)))) (qAA (qAM (qBW (qBw c)) (qAA (qAD 0) (qAA (dC (.obj c.NoNumber)) (qAF)))) (qAA (qAM (qBW (qBw c)) (qAA (qAD 0) (qAA (dC (.obj c.NoCircle)) (qAF)))) (qAF)))))) (gNm 1)) (qAc (qBE (d2 qA4 (qAD 1) (qBK (qAA (qAM (qBW (qBw c)) (qAA (qAD 0) (qAA (dC (.obj c.NoMarks)) (qAF)))) (qAA (qAM (qBW (qBw c)) (qAA (qAD 0) (qAA (dC (.obj c.NoFars)) (qAF)))) (qAA (qAM (qBW (qBw c)) (qAA (qAD 0) (qAA (dC (.obj c.NoText)) (qAF)))) (qAA (qAM (qBW (qBw c)) (qAA (qAD 0) (qAA (dC (.obj c.NoLine)) (qAF)))) (qAF))))))) (gNm 1)) (qAc (qBE (d2 qA4 (qAD 1) (qBK (qAA (qAM (qBW (qBw c)) (qAA (qAD 0) (qAA (dC (.obj c.NoDeed)) (qAF)))) (qAA (qAM (qBW (qBw c)) (qAA (qAD 0) (qAA (dC (.obj c.Alike)) (qAF)))) (qAA (qAM (qBW (qBw c)) (qAA (qAD 0) (qAA (dC (.obj c.TooMany)) (qAF)))) (qAF)))))) (gNm 1)) (qAc (sIf (qF9 (qDt (dTr (qAM (qBW (qBw c)) (qAA (qAD 0) (qAA (dC (.ty "ValueError")) (qAF)))))) (dTr (d2 gNe (dBm "list" qL2 (qAD 1) (qAA (dC (.bl true)) (qAF))) (dC (.int 1))))) (qAs (dC (.str "other"))) (qBQ)) (qAc (sIf (dTr (qAM (qBW (qBw c)) (qAA (qAD 0) (qAA (dC (.obj c.Alike)) (qAF))))) (qAs (qBK (qAA (dC (.str "alike")) (qAA (qJ9) (qAA (qJ9) (qAA (qJ9) (qAA (qJ9) (qAF)))))))) (qBQ)) (qAc (sIf (dTr (qAM (qBW (qBw c)) (qAA (qAD 0) (qAA (dC (.obj c.TooMany)) (qAF))))) (qAs (qBK (qAA (dC (.str "many")) (qAA (qJ9) (qAA (qJ9) (qAF)))))) (qBQ)) (qAc (qBE (qBK (qAA (dC (.str "point")) (qAA (dC (.str "lot")) (qAA (dC (.str "number")) (qAA (dC (.str "circle")) (qAA (dC (.str "marks")) (qAA (dC (.str "fars")) (qAA (dC (.str "text")) (qAA (dC (.str "line")) (qAA (dC (.str "deed")) (qAF))))))))))) (gNm 2)) (qAs (d2 gIx (qAD 2) (dBm "list" qL3 (qAD 1) (qAA (dC (.bl true)) (qAF)))))))))))
theorem qGL (c : Cl) : ∃ F : DF,F = qAT 3 (qFI c):=⟨_,rfl⟩
noncomputable def qCn (c : Cl) : DF:=Classical.choose (qGL c)
theorem qGK (c : Cl) : qCn c = qAT 3 (qFI c):=Classical.choose_spec (qGL c)
noncomputable def qC2 : DS:=qAc (qBE (qBK (qAA (d2 qEb (qAD 1) (dC (.int 1))) (qAA (d2 qA4 (qAD 2) (dC (.int 1))) (qAA (dC .non) (qAA (dC (.bl true)) (qAA (dC (.str "0")) (qAA (qAu (qAA (qAD 1) (qAF))) (qAA (qBK (qAA (qAD 1) (qAF))) (qAA (d2 qHG (dC (.int 10)) (dC (.int 29))) (qAA (d2 qEb (dC (.int 0)) (d2 qHG (dC (.int 10)) (dC (.int 29)))) (qAA (dC (.bl false)) (qAA (d2 qA4 (qAD 2) (dC (.int 2))) (qAF))))))))))))) (gNm 3)) (qAs (d2 gIx (qAD 3) (qAO 2 qBX (qAA (qAD 0) (qAA (dC (.int 11)) (qAF))))))
theorem qFC : ∃ F : DF,F = qAT 4 qC2:=⟨_,rfl⟩
noncomputable def qCJ : DF:=Classical.choose (qFC)
theorem qFB : qCJ = qAT 4 qC2:=Classical.choose_spec (qFC)
noncomputable def qGX : DS:=qAs (d2 qA4 (d2 qHG (d2 qEb (d2 gIx (qAD 0) (dC (.int 0))) (d2 gIx (qAD 1) (dC (.int 0)))) (dC (.int 2))) (d2 qHG (d2 qEb (d2 gIx (qAD 0) (dC (.int 1))) (d2 gIx (qAD 1) (dC (.int 1)))) (dC (.int 2))))
theorem qJh : ∃ F : DF,F = qAT 2 qGX:=⟨_,rfl⟩
noncomputable def qB9 : DF:=Classical.choose (qJh)
theorem qJg : qB9 = qAT 2 qGX:=Classical.choose_spec (qJh)
noncomputable def qDa : DS:=qAc (qBE (qBK (qAF)) (gNm 1)) (qAc (qEh (qEa (qAA (qAM qA3 (qAA (qAD 0) (qAF))) (qAF))) (gNm 2) (qBE (d2 qA4 (qAD 1) (qA1 false [none,some 2,some 0] (dIt (dSl (qAD 0) (qDe (d2 qA4 (qAD 2) (dC (.int 1)))) (qIg))) (gNm 0) (qBN) (qAy (qAu (qAA (d2 gIx (qAD 2) (qAD 1)) (qAA (qAD 0) (qAF))))))) (gNm 1))) (qAs (qAD 1)))
theorem qHr : ∃ F : DF,F = qAT 3 qDa:=⟨_,rfl⟩
noncomputable def qCo : DF:=Classical.choose (qHr)
theorem qHq : qCo = qAT 3 qDa:=Classical.choose_spec (qHr)
noncomputable def qFd : DS:=qAs (qA1 false [none,none] (dIt (qAO 1 qCo (qAA (qAD 0) (qAF)))) (gTp 2 (qBC (gNm 0) (qBC (gNm 1) (qDw)))) (qBN) (qAy (qAO 2 (okO qB9) (qAA (qAD 0) (qAA (qAD 1) (qAF))))))
theorem qIZ : ∃ F : DF,F = qAT 1 qFd:=⟨_,rfl⟩
noncomputable def qCh : DF:=Classical.choose (qIZ)
theorem qIY : qCh = qAT 1 qFd:=Classical.choose_spec (qIZ)
noncomputable def qGw : DS:=qAs (qA1 false [none,some 1] (qDX (qEa (qAA (d2 qCY (qAD 0) (qAD 1)) (qAF)))) (gNm 0) (qBN) (qAy (qAu (qAA (d2 qGD (qAD 0) (qAD 1)) (qAA (d2 qGE (qAD 0) (qAD 1)) (qAF))))))
theorem qHp : ∃ F : DF,F = qAT 2 qGw:=⟨_,rfl⟩
noncomputable def qCm : DF:=Classical.choose (qHp)
theorem qHo : qCm = qAT 2 qGw:=Classical.choose_spec (qHp)
noncomputable def qEC (c : Cl) : DS:=qNZ 4 3 (caught c) (qAs (qMu [(2,(qDZ c)),(2,(qBh c)),(2,(qBM c))] (qAD 0) (qAA (qAD 1) (qAA (qAD 2) (qAF))))) (qAs (qAO 1 (qCn c) (qAA (qAD 3) (qAF))))
theorem qIT (c : Cl) : ∃ F : DF,F = qAT 4 (qEC c):=⟨_,rfl⟩
noncomputable def qAp (c : Cl) : DF:=Classical.choose (qIT c)
theorem qFG (c : Cl) : qAp c = qAT 4 (qEC c):=Classical.choose_spec (qIT c)
noncomputable def qDH : DS:=qAc (qNY 1 2 (qAA (qKY (qAF)) (qAA (qBK (qAF)) (qAF)))) (qAc (qEh (qCr (qAD 0)) (gNm 3) (qAc (qBE (qA1 false [none,some 3] (dIt (qAD 1)) (gNm 0) (qBN) (qAy (qAO 2 (okO qB9) (qAA (qAD 1) (qAA (qAD 0) (qAF)))))) (gNm 4)) (sIf (dTr (d2 gEq (qFN (d2 qA4 (qAD 4) (qAD 2))) (d2 qA4 (qAM qA3 (qAA (qAD 4) (qAF))) (qAM qA3 (qAA (qAD 2) (qAF)))))) (qAc (qB3 (dBm "list" qBg (qAD 1) (qAA (qAD 3) (qAF)))) (qBE (d2 qA4 (qAD 2) (qAD 4)) (gNm 2))) (qBQ)))) (qAs (qAM qIh (qAA (qAD 1) (qAF)))))
theorem qGq : ∃ F : DF,F = qAT 5 qDH:=⟨_,rfl⟩
noncomputable def qDF : DF:=Classical.choose (qGq)
theorem qGp : qDF = qAT 5 qDH:=Classical.choose_spec (qGq)
noncomputable def qCV : DS:=qAc (qBE (qBK (qAA (qAu (qAF)) (qAF))) (gNm 1)) (qAc (qBE (qA1 true [none] (dIt (qAD 0)) (gNm 0) (qBN) (qAy (qAu (qAA (qAD 0) (qAF))))) (gNm 2)) (qAc (qKQ (dTr (d2 (qGg gNe) (qAD 2) (qBK (qAF)))) (qAc (qNY 1 2 (qAA (qAD 2) (qAA (qKY (qAF)) (qAF)))) (qMT (dIt (qAD 1)) (gNm 3) (qEh (qCr (qA1 false [none,some 3] (dIt (qAD 0)) (gNm 0) (qE1 (dTr (d2 qKF (qAD 0) (d2 gIx (qAD 1) (d1 qLL (dC (.int 1)))))) (qBN)) (qAy (qAD 0)))) (gNm 4) (sIf (dTr (d2 gEq (qFN (qAO 1 qCh (qAA (d2 qA4 (qAD 3) (qAu (qAA (qAD 4) (qAF)))) (qAF)))) (d2 qGD (d2 qCY (qAM qA3 (qAA (qAD 3) (qAF))) (d2 qA4 (qAM qA3 (qAA (qAD 3) (qAF))) (dC (.int 1)))) (dC (.int 2))))) (qB3 (dBm "list" qBg (qAD 2) (qAA (d2 qA4 (qAD 3) (qAu (qAA (qAD 4) (qAF)))) (qAF)))) (qBQ)))))) (qAs (qAD 1))))
theorem qFp : ∃ F : DF,F = qAT 5 qCV:=⟨_,rfl⟩
noncomputable def qCT : DF:=Classical.choose (qFp)
theorem qFo : qCT = qAT 5 qCV:=Classical.choose_spec (qFp)
noncomputable def qOT (c : Cl) : DS:=qAc (qEh (qCr (d2 qA4 (qBK (qAA (qAO 2 qDO (qAA (qAD 0) (qAA (dC (.int 0)) (qAF)))) (qAF))) (dSl (qAD 0) (qDe (dC (.int 1))) (qDe (dC (.int 3)))))) (gNm 1) (qAc (qBE (qAO 1 qEu (qAA (qAD 1) (qAF))) (gNm 2)) (qAc (qBE (qAu (qAA (d2 qEb (dC (.int 12)) (qAO 2 qBX (qAA (qAD 2) (qAA (dC (.int 12)) (qAF))))) (qAA (d2 qEb (dC (.int 12)) (qAO 2 qBX (qAA (qAD 2) (qAA (dC (.int 12)) (qAF))))) (qAA (d2 qEb (dC (.int 4)) (qAO 2 qBX (qAA (qAD 2) (qAA (dC (.int 4)) (qAF))))) (qAA (d2 qEb (dC (.int 4)) (qAO 2 qBX (qAA (qAD 2) (qAA (dC (.int 4)) (qAF))))) (qAF)))))) (gTp 4 (qBC (gNm 3) (qBC (gNm 4) (qBC (gNm 5) (qBC (gNm 6) (qDw))))))) (qAc (qBE (qAO 1 qCT (qAA (qAO 2 qCm (qAA (qAD 5) (qAA (qAD 6) (qAF)))) (qAF))) (gNm 7)) (qAc (qEh (qEa (qAA (dC (.int 2)) (qAF))) (gNm 8) (qAc (sIf (qDt (dTr (qAO 2 (qET qA2) (qAA (qAO 3 (qAp c) (qAA (dC (.int 0)) (qAA (qAD 3) (qAA (qAD 4) (qAF))))) (qAA (qAO 1 qDF (qAA (qAO 2 qCm (qAA (qAD 3) (qAA (qAD 4) (qAF)))) (qAF))) (qAF)))))) (qAs (dC (.bl false))) (qBQ)) (qAc (qBE (qBK (qAA (qAO 3 (qAp c) (qAA (dC (.int 1)) (qAA (qAD 5) (qAA (qAD 6) (qAF))))) (qAA (qAO 3 (qAp c) (qAA (dC (.int 2)) (qAA (qAD 5) (qAA (qAD 6) (qAF))))) (qAF)))) (gNm 9)) (qAc (sIf (qDt (dTr (qAO 2 (qET qA2) (qAA (qAD 9) (qAA (qBK (qAA (qAM qA3 (qAA (d2 gIx (qAD 7) (dC (.int 0))) (qAF))) (qAA (qAD 7) (qAF)))) (qAF)))))) (qAs (dC (.bl false))) (qBQ)) (qB3 (dBm "list" qBg (d2 gIx (qAD 9) (dC (.int 1))) (qAA (qAu (qAF)) (qAF)))))))) (qAc (qNY 10 11 (qAA (qAO 3 (qAp c) (qAA (dC (.int 2)) (qAA (qAD 5) (qAA (qAD 6) (qAF))))) (qAA (qAO 3 (qAp c) (qAA (dC (.int 2)) (qAA (dC (.int 1)) (qAA (dC (.int 1)) (qAF))))) (qAF)))) (qAc (sIf (qF9 (dTr (d2 (qGg gNe) (qAD 11) (qBK (qAA (qAu (qAA (qAu (qAA (dC (.int 0)) (qAA (dC (.int 0)) (qAF)))) (qAF))) (qAF))))) (qDt (dTr (qAO 2 (qET qA2) (qAA (qAD 10) (qAA (qAD 7) (qAF))))))) (qAs (dC (.bl false))) (qBQ)) (qEh (qCr (qBK (qAA (qAu (qAA (dC (.int 0)) (qAA (dC (.int 12)) (qAF)))) (qAA (qAu (qAA (dC (.int 1)) (qAA (dC (.int 4)) (qAF)))) (qAA (qAu (qAA (dC (.int 2)) (qAA (dC (.int 4)) (qAF)))) (qAF)))))) (gTp 2 (qBC (gNm 12) (qBC (gNm 13) (qDw)))) (qAc (qBE (qAO 3 qCJ (qAA (qAD 2) (qAA (dC (.int 1)) (qAA (qAD 13) (qAF))))) (gNm 14)) (qAc (qBE (qBK (qAA (qAu (qAA (qAD 14) (qAA (dC (.int 1)) (qAF)))) (qAA (qAu (qAA (dC (.int 1)) (qAA (qAD 14) (qAF)))) (qAA (qAu (qAA (qAD 14) (qAA (qAD 14) (qAF)))) (qAA (qAu (qAA (d2 qA4 (qAD 13) (dC (.int 1))) (qAA (dC (.int 1)) (qAF)))) (qAA (qAu (qAA (dC (.int 1)) (qAA (d2 qA4 (qAD 13) (dC (.int 1))) (qAF)))) (qAA (qAu (qAA (dC (.int 0)) (qAA (dC (.int 1)) (qAF)))) (qAF)))))))) (gNm 15)) (sIf (dTr (d2 gNe (qA1 false [none,none,some 12] (dIt (qAD 15)) (gTp 2 (qBC (gNm 0) (qBC (gNm 1) (qDw)))) (qBN) (qAy (qAO 3 (okO (qAp c)) (qAA (qAD 2) (qAA (qAD 0) (qAA (qAD 1) (qAF))))))) (d2 qJH (qBK (qAA (dC (.str "number")) (qAF))) (dC (.int 6))))) (qAs (dC (.bl false))) (qBQ)))))))))))) (qAs (dC (.bl true)))
end _K
end
section
namespace _K
open PySem PySem.Spec PyProof.Rows _L _D
section
variable {P : Program} {w : World} {K : PySem.W.Frag} {mg : Str → Option Value} {base : Heap} {c : Cl}
theorem qML (T : Txt K mg c) : Def P w K mg base true 1 "board_points" 2 (qAT 2 qFJ) :=
 qCC (k:=0) T.s_board_points qMV rfl fun f cdv A outer s H E hr =>
  qAX (qAn (qDl rfl qD6 (qMQ (qHc qIl T.n_range (qAC (qAE 0 rfl (Or.inl qKu) qM4 qMt) (qAG)) rfl rfl)) (fun cl C ex s₀ H₀ => qAo (m:=0) qD6.nd rfl (qBU qDQ) (.inr (qBf qDQ))) (fun cl C ex s₀ H₀ => qB1) (by intro g h; cases h <;> rfl) (fun cl C ex s₀ H₀ => qUy rfl rfl rfl (by intro g h; cases h <;> rfl) (qMQ (qHc (qGj qHj) T.n_range (qAC (qAE 2 rfl (qAk (.inr qJw)) qMz qMq) (qAG)) rfl rfl)) (qAo (m:=1) qD6.nd rfl (qBU qDR) (.inr (qBf qDR))) (qB1) (qCS rfl rfl (qA9 (qAC (qAE 0 rfl (qAk (.inl qDQ)) qaK qaF) (qAC (qAE 1 rfl (qAk (.inl qDR)) qaL qaG) (qAG))))) (by intro _; rfl)) (by intro _; rfl)))
theorem qNP (T : Txt K mg c) (d_20 : Def P w K mg base true 2 "is_within" 3 qCi) : Def P w K mg base true 3 "need_within" 3 (qAT 3 (qDJ c)) :=
 qCC (k:=2) T.s_need_within qNb rfl fun f cdv A outer s H E hr =>
  qAX (qCD (qI2 (qCd (qcN d_20 (hr).mono ⟨rfl,rfl,rfl⟩ qHN (qAC (qAE 0 rfl (Or.inl qLZ) qHD qG1) (qAC (qAE 1 rfl (Or.inl qHT) qLH qLD) (qAC (qAE 2 rfl (Or.inl qHU) qM2 qMs) (qAG)))) qPB rfl rfl))) (qAX (qUJ rfl ⟨rfl,rfl,rfl⟩ qHn T.c_NoNumber T.x_NoNumber (qAC (qWN (qI1 (qBz) (qI1 (qSq (qAE 1 rfl (Or.inl qHT) qLH qLD)) (qI1 (qBz) (qI1 (qSq (qAE 2 rfl (Or.inl qHU) qM2 qMs)) (qI1 (qBz) (qYn))))))) (qAG)) qK1 rfl rfl)) (qBc))
theorem qSj (T : Txt K mg c) (d_15 : Def P w K mg base true 1 "board_points" 2 qBo) (d_14 : Def P w K mg base true 3 "are_unlike" 1 qBu) (d_22 : Def P w K mg base true 3 "need_within" 3 (qA6 c)) : Def P w K mg base true 4 "filled" 2 (qAT 4 (qFK c)) :=
 qCC (k:=3) T.s_filled qH9 rfl fun f cdv A outer s H E hr =>
  qAQ (qEr (qcN d_22 (hr).mono ⟨rfl,rfl,rfl⟩ qEp (qAC (qAE 0 rfl (Or.inl qK4) qM4 qMt) (qAC (qAJ) (qAC (qKf (v:=12) qDM T.g_MOST_FILLED_SIDE qFD) (qAG)))) qDv rfl rfl)) (qAQ (qEr (qcN d_22 (hr).mono ⟨rfl,rfl,rfl⟩ qEp (qAC (qAE 1 rfl (Or.inl qK5) qMz qMq) (qAC (qAJ) (qAC (qKf (v:=12) qDM T.g_MOST_FILLED_SIDE qFD) (qAG)))) qDv rfl rfl)) (qAQ (qBS (m:=2) qH9.nd (qA9 (qAG)) rfl (Or.inl qFj) rfl (.inl rfl)) (qAQ (qEK qCI rfl (qI0 (qcN d_15 (hr).mono ⟨rfl,rfl,rfl⟩ qIN (qAC (qAE 0 rfl (Or.inl qK4) qM4 qMt) (qAC (qAE 1 rfl (Or.inl qK5) qMz qMq) (qAG))) qH3 rfl rfl)) (qAo (m:=3) qH9.nd rfl (Or.inl qIP) (.inl rfl)) (qAX (qCD (qCd (qcN d_14 (hr).mono ⟨rfl,rfl,rfl⟩ qJK (qAC (qAd qBn (qAE 2 rfl (Or.inl qFj) qIe qId) (qA9 (qAC (qAE 3 rfl (Or.inl qIP) qHC qG0) (qAG)))) (qAG)) qJo rfl rfl)) (qAX (qYo (m:=2) qH9.nd (qA9 (qAC (qAE 3 rfl (Or.inl qIP) qHC qG0) (qAG))) qWi rfl (Or.inl qFj) (.inl rfl))) (qBc)))) (qAX (qAn (qAE 2 rfl (Or.inl qFj) qIe qId))))))
theorem qQJ (T : Txt K mg c) : Def P w K mg base true 1 "_law_pen" 1 (qAT 1 qGY) :=
 qCC (k:=0) T.s__law_pen qQP rfl fun f cdv A outer s H E hr =>
  qAX (qAn (qKg (qAC (qAE 0 rfl (Or.inl qJs) qD7 qD4) (qAC (qN3 qMa qL4 T.n_int qOs (qAC (qIy qan (qAE 0 rfl (Or.inl qJs) qD7 qD4) (qAd qMb (qAJ) (qAJ))) (qAG)) qPW qPA rfl rfl) (qAG)))))
theorem qKv (T : Txt K mg c) (d_4 : Def P w K mg base true 1 "_law_draw" 2 qBX) : Def P w K mg base true 2 "_law_no_number" 3 (qAT 4 qC2) :=
 qCC (k:=1) T.s__law_no_number qGV rfl fun f cdv A outer s H E hr =>
  qAQ (qBS (m:=3) qGV.nd (qBa (qAC (qAd qFm (qAE 1 rfl (Or.inl qDU) qIF qID) (qAJ)) (qAC (qAd qBn (qAE 2 rfl (Or.inl qFE) qKB qJ5) (qAJ)) (qAC (qPj) (qAC (qD0) (qAC (qBz) (qAC (qA9 (qAC (qAE 1 rfl (Or.inl qDU) qIF qID) (qAG))) (qAC (qBa (qAC (qAE 1 rfl (Or.inl qDU) qIF qID) (qAG))) (qAC (qAd qMb (qAJ) (qAJ)) (qAC (qAd qFm (qAJ) (qAd qMb (qAJ) (qAJ))) (qAC (qD0) (qAC (qAd qBn (qAE 2 rfl (Or.inl qFE) qKB qJ5) (qAJ)) (qAG))))))))))))) rfl (Or.inl qFF) rfl (.inl rfl)) (qAX (qAn (qBb qCE (qAE 3 rfl (Or.inl qFF) qE3 qEx) (qcN d_4 (hr).mono ⟨rfl,rfl,rfl⟩ qFx (qAC (qAE 0 rfl (Or.inl qJ1) qAh qAg) (qAC (qAJ) (qAG))) qDc rfl rfl))))
theorem qOL (T : Txt K mg c) : Def P w K mg base true 1 "_law_board" 2 (qAT 2 qGw) :=
 qCC (k:=0) T.s__law_board qOP rfl fun f cdv A outer s H E hr =>
  qAX (qAn (qDl rfl qHx (qMQ (qHc qJy T.n_range (qAC (qAd qJf (qAE 0 rfl (Or.inl qMC) qH2 qHw) (qAE 1 rfl (Or.inr (Or.inl qMD)) qEm qEk)) (qAG)) rfl rfl)) (fun cl C ex s₀ H₀ => qAo (m:=0) qHx.nd rfl (qBU qBY) (.inr (qBf qBY))) (fun cl C ex s₀ H₀ => qB1) (by intro g h; cases h <;> rfl) (fun cl C ex s₀ H₀ => qCS rfl rfl (qA9 (qAC (qAd qOf (qAE 0 rfl (qAk (.inl qBY)) qJn qJl) (qAE 1 rfl (qAk (.inr qEF)) qEm qEk)) (qAC (qAd qKl (qAE 0 rfl (qAk (.inl qBY)) qJn qJl) (qAE 1 rfl (qAk (.inr qEF)) qEm qEk)) (qAG))))) (by intro _; rfl)))
theorem qYG (T : Txt K mg c) (d_3 : Def P w K mg base true 1 "_law_cell" 2 qDO) (d_2 : Def P w K mg base true 6 "_law_came" 3 (qAp c)) (d_10 : Def P w K mg base true 2 "_law_no_number" 3 qCJ) (d_13 : Def P w K mg base true 6 "_law_same" 2 qA2) (d_1 : Def P w K mg base true 1 "_law_board" 2 qCm) (d_7 : Def P w K mg base true 2 "_law_filled" 1 qDF) (d_8 : Def P w K mg base true 3 "_law_greatest" 1 qCT) (d_4 : Def P w K mg base true 1 "_law_draw" 2 qBX) (d_12 : Def P w K mg base true 1 "_law_pen" 1 qEu) : qOg P w K mg base true 7 "law" ["_law_script"] (qAT 16 (qOT c)) :=
 qZJ (k:=6) T.s_law qCN rfl fun f cdv A outer s H E hr =>
  qAQ (qEK qCI rfl (qI0 (qAd qBn (qBa (qAC (qcN d_3 (hr).mono ⟨rfl,rfl,rfl⟩ qLQ (qAC (qAE 0 rfl (Or.inl qPT) qDu qDq) (qAC (qAJ) (qAG))) qO7 rfl rfl) (qAG))) (qLc (qAE 0 rfl (Or.inl qPT) qDu qDq) (qKh (qAJ)) (qKh (qAJ))))) (qAo (m:=1) qCN.nd rfl (Or.inl qPU) (.inl rfl)) (qAQ (qBS (m:=2) qCN.nd (qcN d_12 (hr).mono ⟨rfl,rfl,rfl⟩ qL6 (qAC (qAE 1 rfl (Or.inl qPU) qD7 qD4) (qAG)) qQD rfl rfl) rfl (Or.inl qFT) rfl (.inl rfl)) (qAQ (qPk (qA9 (qAC (qAd qFm (qAJ) (qcN d_4 (hr).mono ⟨rfl,rfl,rfl⟩ qC8 (qAC (qAE 2 rfl (Or.inl qFT) qAh qAg) (qAC (qAJ) (qAG))) qDc rfl rfl)) (qAC (qAd qFm (qAJ) (qcN d_4 (hr).mono ⟨rfl,rfl,rfl⟩ qC8 (qAC (qAE 2 rfl (Or.inl qFT) qAh qAg) (qAC (qAJ) (qAG))) qDc rfl rfl)) (qAC (qAd qFm (qAJ) (qcN d_4 (hr).mono ⟨rfl,rfl,rfl⟩ qC8 (qAC (qAE 2 rfl (Or.inl qFT) qAh qAg) (qAC (qAJ) (qAG))) qDc rfl rfl)) (qAC (qAd qFm (qAJ) (qcN d_4 (hr).mono ⟨rfl,rfl,rfl⟩ qC8 (qAC (qAE 2 rfl (Or.inl qFT) qAh qAg) (qAC (qAJ) (qAG))) qDc rfl rfl)) (qAG)))))) (qIz rfl (qBd (qAo (m:=3) qCN.nd rfl (Or.inl qLU) (.inl rfl)) (qBd (qAo (m:=4) qCN.nd rfl (Or.inl qLV) (.inl rfl)) (qBd (qAo (m:=5) qCN.nd rfl (Or.inl qHR) (.inl rfl)) (qBd (qAo (m:=6) qCN.nd rfl (Or.inl qHS) (.inl rfl)) (qGn))))))) (qAQ (qBS (m:=7) qCN.nd (qcN d_8 (hr).mono ⟨rfl,rfl,rfl⟩ qJL (qAC (qcN d_1 (hr).mono ⟨rfl,rfl,rfl⟩ qGR (qAC (qAE 5 rfl (Or.inl qHR) qH0 qHu) (qAC (qAE 6 rfl (Or.inl qHS) qH1 qHv) (qAG))) qJm rfl rfl) (qAG)) qLG rfl rfl) rfl (Or.inl qJT) rfl (.inl rfl)) (qAQ (qEK qCI rfl (qHc qPL T.n_range (qAC (qAJ) (qAG)) rfl rfl) (qAo (m:=8) qCN.nd rfl (Or.inl qT3) (.inl rfl)) (qAQ (qCD (qI2 (qCd (qcL d_13 (hr).mono ⟨rfl,rfl,rfl⟩ qEc (qAC (qcN d_2 (hr).mono ⟨rfl,rfl,rfl⟩ qCK (qAC (qAJ) (qAC (qAE 3 rfl (Or.inl qLU) qH2 qHw) (qAC (qAE 4 rfl (Or.inl qLV) qEm qEk) (qAG)))) qCs rfl rfl) (qAC (qcN d_7 (hr).mono ⟨rfl,rfl,rfl⟩ qKH (qAC (qcN d_1 (hr).mono ⟨rfl,rfl,rfl⟩ qGR (qAC (qAE 3 rfl (Or.inl qLU) qH2 qHw) (qAC (qAE 4 rfl (Or.inl qLV) qEm qEk) (qAG))) qJm rfl rfl) (qAG)) qMw rfl rfl) (qAG))) qE2 rfl rfl))) (qAX (qAn (qD0))) (qBc)) (qAQ (qBS (m:=9) qCN.nd (qBa (qAC (qcN d_2 (hr).mono ⟨rfl,rfl,rfl⟩ qCK (qAC (qAJ) (qAC (qAE 5 rfl (Or.inl qHR) qH0 qHu) (qAC (qAE 6 rfl (Or.inl qHS) qH1 qHv) (qAG)))) qCs rfl rfl) (qAC (qcN d_2 (hr).mono ⟨rfl,rfl,rfl⟩ qCK (qAC (qAJ) (qAC (qAE 5 rfl (Or.inl qHR) qH0 qHu) (qAC (qAE 6 rfl (Or.inl qHS) qH1 qHv) (qAG)))) qCs rfl rfl) (qAG)))) rfl (Or.inl qLW) rfl (.inl rfl)) (qAQ (qCD (qI2 (qCd (qcL d_13 (hr).mono ⟨rfl,rfl,rfl⟩ qEc (qAC (qAE 9 rfl (Or.inl qLW) qAm qAl) (qAC (qBa (qAC (qAa qDE qRK T.n_len qDK (qAC (qBb qCE (qAE 7 rfl (Or.inl qJT) qBB qBA) (qAJ)) (qAG)) qDk qDd rfl rfl) (qAC (qAE 7 rfl (Or.inl qJT) qBB qBA) (qAG)))) (qAG))) qE2 rfl rfl))) (qAX (qAn (qD0))) (qBc)) (qAX (qEr (qJX PySem.F.plainAttrs_list PySem.F.slot_list_append PySem.F.type_list_append (.inl rfl) qJe (qBb qCE (qAE 9 rfl (Or.inl qLW) qAm qAl) (qAJ)) (qAC (qA9 (qAG)) (qAG))))))))) (qAQ (qPl (m:=10) (l:=11) rfl qCN.nd (qAC (qcN d_2 (hr).mono ⟨rfl,rfl,rfl⟩ qCK (qAC (qAJ) (qAC (qAE 5 rfl (Or.inl qHR) qH0 qHu) (qAC (qAE 6 rfl (Or.inl qHS) qH1 qHv) (qAG)))) qCs rfl rfl) (qAC (qcN d_2 (hr).mono ⟨rfl,rfl,rfl⟩ qCK (qAC (qAJ) (qAC (qAJ) (qAC (qAJ) (qAG)))) qCs rfl rfl) (qAG))) rfl rfl (by decide) qNx qNy rfl rfl) (qAQ (qCD (qOb (qOc (qCc (qU4 (hr)) (qAE 11 rfl (Or.inl qNy) qBj qBi) (qBa (qAC (qA9 (qAC (qA9 (qAC (qAJ) (qAC (qAJ) (qAG)))) (qAG))) (qAG)))) (qMR (qI2 (qCd (qcL d_13 (hr).mono ⟨rfl,rfl,rfl⟩ qEc (qAC (qAE 10 rfl (Or.inl qNx) qO9 qOx) (qAC (qAE 7 rfl (Or.inl qJT) qBB qBA) (qAG))) qE2 rfl rfl)))))) (qAX (qAn (qD0))) (qBc)) (qAX (qEK qCI rfl (qI0 (qBa (qAC (qA9 (qAC (qAJ) (qAC (qAJ) (qAG)))) (qAC (qA9 (qAC (qAJ) (qAC (qAJ) (qAG)))) (qAC (qA9 (qAC (qAJ) (qAC (qAJ) (qAG)))) (qAG)))))) (qIz rfl (qBd (qAo (m:=12) qCN.nd rfl (Or.inr qSX) (.inl rfl)) (qBd (qAo (m:=13) qCN.nd rfl (Or.inl qH7) (.inl rfl)) (qGn)))) (qAQ (qBS (m:=14) qCN.nd (qcN d_10 (hr).mono ⟨rfl,rfl,rfl⟩ qIn (qAC (qAE 2 rfl (Or.inl qFT) qAh qAg) (qAC (qAJ) (qAC (qAE 13 rfl (Or.inl qH7) qHB qGz) (qAG)))) qKr rfl rfl) rfl (Or.inl qF2) rfl (.inl rfl)) (qAQ (qBS (m:=15) qCN.nd (qBa (qAC (qA9 (qAC (qAE 14 rfl (Or.inl qF2) qFf qFe) (qAC (qAJ) (qAG)))) (qAC (qA9 (qAC (qAJ) (qAC (qAE 14 rfl (Or.inl qF2) qFf qFe) (qAG)))) (qAC (qA9 (qAC (qAE 14 rfl (Or.inl qF2) qFf qFe) (qAC (qAE 14 rfl (Or.inl qF2) qFf qFe) (qAG)))) (qAC (qA9 (qAC (qAd qBn (qAE 13 rfl (Or.inl qH7) qHB qGz) (qAJ)) (qAC (qAJ) (qAG)))) (qAC (qA9 (qAC (qAJ) (qAC (qAd qBn (qAE 13 rfl (Or.inl qH7) qHB qGz) (qAJ)) (qAG)))) (qAC (qA9 (qAC (qAJ) (qAC (qAJ) (qAG)))) (qAG)))))))) rfl (Or.inl qNz) rfl (.inl rfl)) (qAX (qCD (qCc (qP6 (hr)) (qDl rfl qLF (qDm (qAE 15 rfl (Or.inl qNz) qE3 qEx)) (fun cl C ex s₀ H₀ => qIz rfl (qBd (qAo (m:=0) qLF.nd rfl (qBU qD5) (.inr (qBf qD5))) (qBd (qAo (m:=1) qLF.nd rfl (qBU qDS) (.inr (qBf qDS))) (qGn)))) (fun cl C ex s₀ H₀ => qB1) (by intro g h; cases h <;> rfl) (fun cl C ex s₀ H₀ => qCS rfl rfl (qcO d_2 (hr).mono (qGj qJ6) (qAC (qAE 2 rfl (qAk (.inr qKq)) qK3 qKx) (qAC (qAE 0 rfl (qAk (.inl qD5)) qEG qEE) (qAC (qAE 1 rfl (qAk (.inl qDS)) qBj qBi) (qAG)))) qCs rfl rfl)) (by intro _; rfl)) (qAd qZA (qBa (qAC (qBz) (qAG))) (qAJ))) (qAX (qAn (qD0))) (qBc)))))))))))))) (qAX (qAn (qD0)))
end
end _K
end
section
namespace _K
open PySem PySem.Spec PyProof.Rows _L _D
section
variable {P : Program} {w : World} {K : PySem.W.Frag} {mg : Str → Option Value} {base : Heap} {c : Cl}
theorem qUA (T : Txt K mg c) : Def P w K mg base true 1 "grown" 2 (qAT 2 qMe) :=
 qCC (k:=0) T.s_grown qUP rfl fun f cdv A outer s H E hr =>
  qAX (qAn (qDl rfl qJC (qDm (qAE 0 rfl (Or.inl qRS) qM1 qMr)) (fun cl C ex s₀ H₀ => qAo (m:=0) qJC.nd rfl (qBU qDr) (.inr (qBf qDr))) (fun cl C ex s₀ H₀ => qB1) (by intro g h; cases h <;> rfl) (fun cl C ex s₀ H₀ => qUy rfl rfl rfl (by intro g h; cases h <;> rfl) (qDm (qAE 2 rfl (qAk (.inr qKp)) qEn qEl)) (qAo (m:=1) qJC.nd rfl (qBU qC3) (.inr (qBf qC3))) (qLd (qCc (qU3 (hr)) (qAE 1 rfl (qAk (.inl qC3)) qHC qG0) (qBb qCE (qAE 0 rfl (qAk (.inl qDr)) qIe qId) (qUx qU5 (qAJ)))) (qB1)) (qCS rfl rfl (qAd qBn (qAE 0 rfl (qAk (.inl qDr)) qIe qId) (qA9 (qAC (qAE 1 rfl (qAk (.inl qC3)) qHC qG0) (qAG))))) (by intro _; rfl)) (by intro _; rfl)))
theorem qNN (T : Txt K mg c) : Def P w K mg base true 1 "far_between" 2 (qAT 4 qEO) :=
 qCC (k:=0) T.s_far_between qFX rfl fun f cdv A outer s H E hr =>
  qAQ (qBS (m:=2) qFX.nd (qAd qFm (qBb qCE (qAE 0 rfl (Or.inl qHP) qLx qLp) (qAJ)) (qBb qCE (qAE 1 rfl (Or.inl qHQ) qJD qJA) (qAJ))) rfl (Or.inl qEd) rfl (.inl rfl)) (qAQ (qBS (m:=3) qFX.nd (qAd qFm (qBb qCE (qAE 0 rfl (Or.inl qHP) qLx qLp) (qAJ)) (qBb qCE (qAE 1 rfl (Or.inl qHQ) qJD qJA) (qAJ))) rfl (Or.inl qEe) rfl (.inl rfl)) (qAX (qAn (qAd qBn (qAd qJf (qAE 2 rfl (Or.inl qEd) qNq qNl) (qAE 2 rfl (Or.inl qEd) qNq qNl)) (qAd qJf (qAE 3 rfl (Or.inl qEe) qUk qUj) (qAE 3 rfl (Or.inl qEe) qUk qUj))))))
theorem qNQ (T : Txt K mg c) (d_18 : Def P w K mg base true 1 "grown" 2 qGi) (d_14 : Def P w K mg base true 3 "are_unlike" 1 qBu) (d_15 : Def P w K mg base true 1 "board_points" 2 qBo) (d_22 : Def P w K mg base true 3 "need_within" 3 (qA6 c)) : Def P w K mg base true 4 "unlike_lots" 2 (qAT 5 (qCQ c)) :=
 qCC (k:=3) T.s_unlike_lots qCH rfl fun f cdv A outer s H E hr =>
  qAQ (qEr (qcN d_22 (hr).mono ⟨rfl,rfl,rfl⟩ qDN (qAC (qAE 0 rfl (Or.inl qHV) qM4 qMt) (qAC (qAJ) (qAC (qKf (v:=4) qDi T.g_MOST_SIDE qKA) (qAG)))) qDv rfl rfl)) (qAQ (qEr (qcN d_22 (hr).mono ⟨rfl,rfl,rfl⟩ qDN (qAC (qAE 1 rfl (Or.inl qHW) qMz qMq) (qAC (qAJ) (qAC (qKf (v:=4) qDi T.g_MOST_SIDE qKA) (qAG)))) qDv rfl rfl)) (qAQ (qBS (m:=2) qCH.nd (qcN d_15 (hr).mono ⟨rfl,rfl,rfl⟩ qFz (qAC (qAE 0 rfl (Or.inl qHV) qM4 qMt) (qAC (qAE 1 rfl (Or.inl qHW) qMz qMq) (qAG))) qH3 rfl rfl) rfl (Or.inl qEf) rfl (.inl rfl)) (qAQ (qBS (m:=3) qCH.nd (qBa (qAG)) rfl (Or.inl qDB) rfl (.inl rfl)) (qAQ (qJY (m:=4) rfl qCH.nd qG7 (qDm (qAE 2 rfl (Or.inl qEf) qEn qEl)) (fun cl C ex s₀ H₀ => qAo (m:=0) qG7.nd rfl (qBU qCj) (.inr (qBf qCj))) (fun cl C ex s₀ H₀ => qB1) (by intro g h; cases h <;> rfl) (fun cl C ex s₀ H₀ => qCS rfl rfl (qA9 (qAC (qAE 0 rfl (qAk (.inl qCj)) qHC qG0) (qAG)))) rfl (Or.inl qDC) (.inl rfl) rfl (by intro _; rfl)) (qAQ (qPm qCI (qCd (qAE 4 rfl (Or.inl qDC) qNr qNm)) (qAQ (qBS (m:=3) qCH.nd (qAE 4 rfl (Or.inl qDC) qNr qNm) rfl (Or.inl qDB) rfl (.inl rfl)) (qAX (qJY (m:=4) rfl qCH.nd qG6 (qDm (qcN d_18 (hr).mono ⟨rfl,rfl,rfl⟩ qJM (qAC (qAE 3 rfl (Or.inl qDB) qM1 qMr) (qAC (qAE 2 rfl (Or.inl qEf) qEn qEl) (qAG))) qTY rfl rfl)) (fun cl C ex s₀ H₀ => qAo (m:=0) qG6.nd rfl (qBU qCB) (.inr (qBf qCB))) (fun cl C ex s₀ H₀ => qLd (qCd (qcO d_14 (hr).mono (qGj qFs) (qAC (qAE 0 rfl (qAk (.inl qCB)) qIe qId) (qAG)) qJo rfl rfl)) (qB1)) (by intro g h; cases h <;> rfl) (fun cl C ex s₀ H₀ => qCS rfl rfl (qAE 0 rfl (qAk (.inl qCB)) qIe qId)) rfl (Or.inl qDC) (.inl rfl) rfl (by intro _; rfl))))) (qAX (qAn (qAE 3 rfl (Or.inl qDB) qM1 qMr))))))))
theorem qPd (T : Txt K mg c) : Def P w K mg base true 1 "_law_draw" 2 (qAT 3 qFc) :=
 qCC (k:=0) T.s__law_draw qKS rfl fun f cdv A outer s H E hr =>
  qAQ (qCD (qCc (qLh (hr)) (qBb qCE (qAE 0 rfl (Or.inl qBO) qAh qAg) (qAJ)) (qAJ)) (qAQ (qBS (m:=2) qKS.nd (qAd qKl (qBb qCE (qAE 0 rfl (Or.inl qBO) qAh qAg) (qAJ)) (qAE 1 rfl (Or.inl qFS) qG9 qGx)) rfl (Or.inl qIr) rfl (.inl rfl)) (qAQ (qPk (qAd qOf (qBb qCE (qAE 0 rfl (Or.inl qBO) qAh qAg) (qAJ)) (qAE 1 rfl (Or.inl qFS) qG9 qGx)) (qSr (qAE 0 rfl (Or.inl qBO) qAh qAg) (qAJ) (qKm (hr)))) (qAX (qAn (qAE 2 rfl (Or.inl qIr) qAm qAl))))) (qBc)) (qAQ (qPk (qAd qKl (qAd qBn (qAd qJf (qAd qKl (qBb qCE (qAE 0 rfl (Or.inl qBO) qAh qAg) (qAJ)) (qAJ)) (qAJ)) (qAJ)) (qAJ)) (qSr (qAE 0 rfl (Or.inl qBO) qAh qAg) (qAJ) (qKm (hr)))) (qAX (qAn (qAd qKl (qAd qOf (qAd qKl (qAd qBn (qAd qJf (qBb qCE (qAE 0 rfl (Or.inl qBO) qAh qAg) (qAJ)) (qBb qCE (qAE 0 rfl (Or.inl qBO) qAh qAg) (qAJ))) (qAd qJf (qAJ) (qBb qCE (qAE 0 rfl (Or.inl qBO) qAh qAg) (qAJ)))) (qAJ)) (qAJ)) (qAE 1 rfl (Or.inl qFS) qG9 qGx)))))
theorem qQI (T : Txt K mg c) : Def P w K mg base true 1 "_law_far" 2 (qAT 2 qGX) :=
 qCC (k:=0) T.s__law_far qQO rfl fun f cdv A outer s H E hr =>
  qAX (qAn (qAd qBn (qAd qMb (qAd qFm (qBb qCE (qAE 0 rfl (Or.inl qJq) qEG qEE) (qAJ)) (qBb qCE (qAE 1 rfl (Or.inl qJr) qBj qBi) (qAJ))) (qAJ)) (qAd qMb (qAd qFm (qBb qCE (qAE 0 rfl (Or.inl qJq) qEG qEE) (qAJ)) (qBb qCE (qAE 1 rfl (Or.inl qJr) qBj qBi) (qAJ))) (qAJ))))
theorem qPb (T : Txt K mg c) (d_24 : Def P w K mg base true 4 "unlike_lots" 2 (qBM c)) (d_21 : Def P w K mg base true 5 "most_unlike" 2 (qBh c)) (d_17 : Def P w K mg base true 4 "filled" 2 (qDZ c)) (d_9 : Def P w K mg base false 1 "_law_kind_of" 1 (qCn c)) : Def P w K mg base true 6 "_law_came" 3 (qAT 4 (qEC c)) :=
 qCC (k:=5) T.s__law_came qKR rfl fun f cdv A outer s H E hr =>
  qAX (qYp (m:=3) ⟨rfl,rfl,rfl⟩ (fun E pn hp => qAX (qAn (qYl (k:=5) (qKV (d_17.mono (by decide)) qJz qR0 (qKV d_21 qHH qM3 (qKV (d_24.mono (by decide)) qHI qIf (qUe)))) (hr).mono ⟨rfl,rfl,rfl⟩ (show 3 ≤ lim by decide) (qAE 0 rfl (Or.inl qND) qK3 qKx) (qAC (qAE 1 rfl (Or.inl qNE) qH2 qHw) (qAC (qAE 2 rfl (Or.inl qNF) qEm qEk) (qAG))) (by intro _ _; rfl) rfl rfl))) (fun e => qAX (qAn (qcN d_9 (RoomC.mark (hr) _).mono ⟨rfl,rfl,rfl⟩ qGd (qAC (qAE 3 rfl (Or.inl qIo) qBL qBJ) (qAG)) qLw rfl rfl))) qIj T.c_FarError T.caught qKR.nd rfl qIo qQB rfl)
end
end _K
end
section
namespace _K
open PySem PySem.Spec PyProof.Rows _L _D
section
variable {P : Program} {w : World} {K : PySem.W.Frag} {mg : Str → Option Value} {base : Heap} {c : Cl}
theorem qQK (T : Txt K mg c) : Def P w K mg base true 1 "is_whole" 1 (qAT 1 qGZ) :=
 qCC (k:=0) T.s_is_whole qQQ rfl fun f cdv A outer s H E hr =>
  qAX (qAn (qKO (qAa qD2 qEH T.n_isinstance qAU (qAC (qAE 0 rfl (Or.inl qJt) qHD qG1) (qAC (qB0 qL5 T.n_int qOs qPW qPA) (qAG))) qAW qAV rfl rfl) (qMP (qYk (qAa qD2 qEH T.n_isinstance qAU (qAC (qAE 0 rfl (Or.inl qJt) qHD qG1) (qAC (qB0 qLP T.n_bool qMm qNK qMx) (qAG))) qAW qAV rfl rfl)))))
theorem qMN (T : Txt K mg c) (d_16 : Def P w K mg base true 1 "far_between" 2 qDG) : Def P w K mg base true 2 "pairs_by_far" 1 (qAT 5 qCp) :=
 qCC (k:=1) T.s_pairs_by_far qCf rfl fun f cdv A outer s H E hr =>
  qAQ (qBS (m:=1) qCf.nd (qYj) rfl (Or.inl qD9) rfl (.inl rfl)) (qAQ (qEK qCI rfl (qWO qGe T.n_enumerate (qAC (qAE 0 rfl (Or.inl qGT) qEn qEl) (qAG)) rfl rfl) (qIz rfl (qBd (qAo (m:=2) qCf.nd rfl (Or.inl qGU) (.inl rfl)) (qBd (qAo (m:=3) qCf.nd rfl (Or.inl qEA) (.inl rfl)) (qGn)))) (qAX (qEK qCI rfl (qI0 (qLc (qAE 0 rfl (Or.inl qGT) qEn qEl) (qKh (qAd qBn (qAE 2 rfl (Or.inl qGU) qZE qZC) (qAJ))) (qQw))) (qAo (m:=4) qCf.nd rfl (Or.inl qEB) (.inl rfl)) (qAX (qEr (qJX PySem.F.plainAttrs_list PySem.F.slot_list_append PySem.F.type_list_append (.inl rfl) qJe (qJX PySem.F.plainAttrs_dict PySem.F.slot_dict_setdefault PySem.F.type_dict_setdefault (.inr (.inl rfl)) qUZ (qAE 1 rfl (Or.inl qD9) qLI qLE) (qAC (qcN d_16 (hr).mono ⟨rfl,rfl,rfl⟩ qFy (qAC (qAE 3 rfl (Or.inl qEA) qLx qLp) (qAC (qAE 4 rfl (Or.inl qEB) qJD qJA) (qAG))) qMy rfl rfl) (qAC (qKg (qAG)) (qAG)))) (qAC (qA9 (qAC (qAE 3 rfl (Or.inl qEA) qLx qLp) (qAC (qAE 4 rfl (Or.inl qEB) qJD qJA) (qAG)))) (qAG)))))))) (qAX (qAn (qAE 1 rfl (Or.inl qD9) qLI qLE))))
theorem qNO (T : Txt K mg c) (d_24 : Def P w K mg base true 4 "unlike_lots" 2 (qBM c)) : Def P w K mg base true 5 "most_unlike" 2 (qAT 2 (qDI c)) :=
 qCC (k:=4) T.s_most_unlike qNa rfl fun f cdv A outer s H E hr =>
  qAX (qAn (qAa qDE qKI T.n_len qDK (qAC (qBb qCE (qcN d_24 (hr).mono ⟨rfl,rfl,rfl⟩ qGI (qAC (qAE 0 rfl (Or.inl qLX) qM4 qMt) (qAC (qAE 1 rfl (Or.inl qLY) qMz qMq) (qAG))) qIf rfl rfl) (qAJ)) (qAG)) qDk qDd rfl rfl))
theorem qCw (T : Txt K mg c) {k : Nat} {qA2 : DF} (d_13 : Def P w K mg base true k "_law_same" 2 qA2) : Def P w K mg base true (k + 1) "_law_same" 2 (qAT 4 (qCF qA2)) :=
 qCC (k:=k) T.s__law_same qHe rfl fun f cdv A outer s H E hr =>
  qAQ (qCD (qCc qY8 (qAE 1 rfl (Or.inl qA8) qBB qBA) (qPj)) (qAX (qAn (qIy qY8 (qAE 0 rfl (Or.inl qBH) qAm qAl) (qPj)))) (qBc)) (qAQ (qCD (qOb (qOc (qCd (qAa qD2 qAe T.n_isinstance qAU (qAC (qAE 1 rfl (Or.inl qA8) qBB qBA) (qAC (qB0 qDh T.n_tuple qI8 qJV qJE) (qAG))) qAW qAV rfl rfl)) (qMR (qCd (qAa qD2 qAe T.n_isinstance qAU (qAC (qAE 1 rfl (Or.inl qA8) qBB qBA) (qAC (qB0 qD8 T.n_list qMn qNL qM0) (qAG))) qAW qAV rfl rfl))))) (qAQ (qCD (qOb (qOc (qCc (qP6 (hr)) (qAa qD2 qAe T.n_isinstance qAU (qAC (qAE 0 rfl (Or.inl qBH) qAm qAl) (qAC (qB0 qDh T.n_tuple qI8 qJV qJE) (qAG))) qAW qAV rfl rfl) (qAa qD2 qAe T.n_isinstance qAU (qAC (qAE 1 rfl (Or.inl qA8) qBB qBA) (qAC (qB0 qDh T.n_tuple qI8 qJV qJE) (qAG))) qAW qAV rfl rfl)) (qMR (qCc (qP6 (hr)) (qAa qD2 qAe T.n_isinstance qAU (qAC (qAE 0 rfl (Or.inl qBH) qAm qAl) (qAC (qB0 qD8 T.n_list qMn qNL qM0) (qAG))) qAW qAV rfl rfl) (qAa qD2 qAe T.n_isinstance qAU (qAC (qAE 1 rfl (Or.inl qA8) qBB qBA) (qAC (qB0 qD8 T.n_list qMn qNL qM0) (qAG))) qAW qAV rfl rfl))))) (qAX (qAn (qD0))) (qBc)) (qAQ (qCD (qCc (qP6 (hr)) (qAa qDE qHL T.n_len qDK (qAC (qAE 0 rfl (Or.inl qBH) qAm qAl) (qAG)) qDk qDd rfl rfl) (qAa qDE qHL T.n_len qDK (qAC (qAE 1 rfl (Or.inl qA8) qBB qBA) (qAG)) qDk qDd rfl rfl)) (qAX (qAn (qD0))) (qBc)) (qAQ (qEK qCI rfl (qYm qLO T.n_zip (qAC (qAE 0 rfl (Or.inl qBH) qAm qAl) (qAC (qAE 1 rfl (Or.inl qA8) qBB qBA) (qAG))) rfl rfl) (qIz rfl (qBd (qAo (m:=2) qHe.nd rfl (Or.inl qIs) (.inl rfl)) (qBd (qAo (m:=3) qHe.nd rfl (Or.inl qIt) (.inl rfl)) (qGn)))) (qAX (qCD (qI2 (qCd (qcN d_13 hr ⟨rfl,rfl,rfl⟩ qIM (qAC (qAE 2 rfl (Or.inl qIs) qEG qEE) (qAC (qAE 3 rfl (Or.inl qIt) qBj qBi) (qAG))) qE2 rfl rfl))) (qAX (qAn (qD0))) (qBc)))) (qAX (qAn (qD0)))))) (qBc)) (qAQ (qCD (qCd (qAa qD2 qAe T.n_isinstance qAU (qAC (qAE 1 rfl (Or.inl qA8) qBB qBA) (qAC (qB0 qHM T.n_str qRn qSg qR1) (qAG))) qAW qAV rfl rfl)) (qAX (qAn (qKO (qAa qD2 qAe T.n_isinstance qAU (qAC (qAE 0 rfl (Or.inl qBH) qAm qAl) (qAC (qB0 qHM T.n_str qRn qSg qR1) (qAG))) qAW qAV rfl rfl) (qMP (qIy (qLh (hr)) (qAE 0 rfl (Or.inl qBH) qAm qAl) (qAE 1 rfl (Or.inl qA8) qBB qBA)))))) (qBc)) (qAX (qAn (qKO (qIy (qLh (hr)) (qAa qD2 qAe T.n_isinstance qAU (qAC (qAE 0 rfl (Or.inl qBH) qAm qAl) (qAC (qB0 qGQ T.n_bool qMm qNK qMx) (qAG))) qAW qAV rfl rfl) (qAa qD2 qAe T.n_isinstance qAU (qAC (qAE 1 rfl (Or.inl qA8) qBB qBA) (qAC (qB0 qGQ T.n_bool qMm qNK qMx) (qAG))) qAW qAV rfl rfl)) (qKO (qAa qD2 qAe T.n_isinstance qAU (qAC (qAE 0 rfl (Or.inl qBH) qAm qAl) (qAC (qB0 qLN T.n_int qOs qPW qPA) (qAG))) qAW qAV rfl rfl) (qMP (qIy (qLh (hr)) (qAE 0 rfl (Or.inl qBH) qAm qAl) (qAE 1 rfl (Or.inl qA8) qBB qBA)))))))))
theorem qOM (T : Txt K mg c) : Def P w K mg base true 1 "_law_pairs" 1 (qAT 3 qDa) :=
 qCC (k:=0) T.s__law_pairs qEV rfl fun f cdv A outer s H E hr =>
  qAQ (qBS (m:=1) qEV.nd (qBa (qAG)) rfl (Or.inl qDY) rfl (.inl rfl)) (qAQ (qEK qCI rfl (qHc qJ0 T.n_range (qAC (qAa qDE qKs T.n_len qDK (qAC (qAE 0 rfl (Or.inr (Or.inl qH5)) qBs qBq) (qAG)) qDk qDd rfl rfl) (qAG)) rfl rfl) (qAo (m:=2) qEV.nd rfl (Or.inr qH6) (.inl rfl)) (qAX (qBS (m:=1) qEV.nd (qAd qBn (qAE 1 rfl (Or.inl qDY) qAm qAl) (qDl rfl qHy (qDm (qLc (qAE 0 rfl (Or.inr (Or.inl qH5)) qBs qBq) (qKh (qAd qBn (qAE 2 rfl (Or.inr (Or.inl qH6)) qLv qLo) (qAJ))) (qQw))) (fun cl C ex s₀ H₀ => qAo (m:=0) qHy.nd rfl (qBU qB6) (.inr (qBf qB6))) (fun cl C ex s₀ H₀ => qB1) (by intro g h; cases h <;> rfl) (fun cl C ex s₀ H₀ => qCS rfl rfl (qA9 (qAC (qBb qCE (qAE 2 rfl (qAk (.inr qG2)) qBs qBq) (qAE 1 rfl (qAk (.inr qHi)) qLv qLo)) (qAC (qAE 0 rfl (qAk (.inl qB6)) qBj qBi) (qAG))))) (by intro _; rfl))) rfl (Or.inl qDY) rfl (.inl rfl)))) (qAX (qAn (qAE 1 rfl (Or.inl qDY) qAm qAl))))
theorem qNM (T : Txt K mg c) (d_5 : Def P w K mg base true 1 "_law_far" 2 qB9) : Def P w K mg base true 2 "_law_filled" 1 (qAT 5 qDH) :=
 qCC (k:=1) T.s__law_filled qCz rfl fun f cdv A outer s H E hr =>
  qAQ (qPl (m:=1) (l:=2) rfl qCz.nd (qAC (qKg (qAG)) (qAC (qBa (qAG)) (qAG))) rfl rfl (by decide) qC9 qCL rfl rfl) (qAQ (qEK qCI rfl (qI0 (qAE 0 rfl (Or.inl qLT) qFO qFL)) (qAo (m:=3) qCz.nd rfl (Or.inr qHO) (.inl rfl)) (qAQ (qJY (m:=4) rfl qCz.nd qG5 (qDm (qAE 1 rfl (Or.inl qC9) qAm qAl)) (fun cl C ex s₀ H₀ => qAo (m:=0) qG5.nd rfl (qBU qBv) (.inr (qBf qBv))) (fun cl C ex s₀ H₀ => qB1) (by intro g h; cases h <;> rfl) (fun cl C ex s₀ H₀ => qCS rfl rfl (qcO d_5 (hr).mono (qGj qGa) (qAC (qAE 1 rfl (qAk (.inr qFq)) qB7 qB5) (qAC (qAE 0 rfl (qAk (.inl qBv)) qBj qBi) (qAG))) qK2 rfl rfl)) rfl (Or.inl qDA) (.inl rfl) rfl (by intro _; rfl)) (qAX (qCD (qCc (qLh (hr)) (qN4 rfl qDg T.n_len qKG T.n_set (qAd qBn (qAE 4 rfl (Or.inl qDA) qHA qGy) (qAE 2 rfl (Or.inl qCL) qGA qF7)) rfl) (qAd qBn (qAa qDE qDg T.n_len qDK (qAC (qAE 4 rfl (Or.inl qDA) qHA qGy) (qAG)) qDk qDd rfl rfl) (qAa qDE qDg T.n_len qDK (qAC (qAE 2 rfl (Or.inl qCL) qGA qF7) (qAG)) qDk qDd rfl rfl))) (qAQ (qEr (qJX PySem.F.plainAttrs_list PySem.F.slot_list_append PySem.F.type_list_append (.inl rfl) qJe (qAE 1 rfl (Or.inl qC9) qAm qAl) (qAC (qAE 3 rfl (Or.inr (Or.inl qHO)) qB7 qB5) (qAG)))) (qAX (qBS (m:=2) qCz.nd (qAd qBn (qAE 2 rfl (Or.inl qCL) qGA qF7) (qAE 4 rfl (Or.inl qDA) qHA qGy)) rfl (Or.inl qCL) rfl (.inl rfl)))) (qBc))))) (qAX (qAn (qN3 qUa qJI T.n_tuple qI8 (qAC (qAE 1 rfl (Or.inl qC9) qAm qAl) (qAG)) qJV qJE rfl rfl))))
end
end _K
end
section
namespace _K
open PySem PySem.Spec PyProof.Rows _L _D
section
variable {P : Program} {w : World} {K : PySem.W.Frag} {mg : Str → Option Value} {base : Heap} {c : Cl}
theorem qPf (T : Txt K mg c) (d_19 : Def P w K mg base true 1 "is_whole" 1 qDp) : Def P w K mg base true 2 "is_within" 3 (qAT 3 qED) :=
 qCC (k:=1) T.s_is_within qPz rfl fun f cdv A outer s H E hr =>
  qAX (qAn (qKO (qcN d_19 (hr).mono ⟨rfl,rfl,rfl⟩ qIm (qAC (qAE 0 rfl (Or.inl qIu) qHD qG1) (qAG)) qQE rfl rfl) (qMP (qUI qY9 qY9 (qAE 1 rfl (Or.inl qNH) qLH qLD) (qAE 0 rfl (Or.inl qIu) qHD qG1) (qAE 2 rfl (Or.inl qNI) qM2 qMs)))))
theorem qON (T : Txt K mg c) (d_23 : Def P w K mg base true 2 "pairs_by_far" 1 qCG) : Def P w K mg base true 3 "are_unlike" 1 (qAT 1 qEv) :=
 qCC (k:=2) T.s_are_unlike qOQ rfl fun f cdv A outer s H E hr =>
  qAX (qAn (qAa (qMZ rfl) qKt T.n_all qWu (qAC (qDl rfl qHz (qMQ (qWP (qcN d_23 (hr).mono ⟨rfl,rfl,rfl⟩ qGH (qAC (qAE 0 rfl (Or.inl qME) qEn qEl) (qAG)) qLy rfl rfl) rfl rfl)) (fun cl C ex s₀ H₀ => qAo (m:=0) qHz.nd rfl (qBU qCq) (.inr (qBf qCq))) (fun cl C ex s₀ H₀ => qB1) (by intro g h; cases h <;> rfl) (fun cl C ex s₀ H₀ => qCS rfl rfl (qIy (qLh (hr)) (qAa qDE (qGj qJv) T.n_len qDK (qAC (qAE 0 rfl (qAk (.inl qCq)) qLI qLE) (qAG)) qDk qDd rfl rfl) (qAJ))) (by intro _; rfl)) (qAG)) qX7 qW6 rfl rfl))
theorem qPc (T : Txt K mg c) : Def P w K mg base true 1 "_law_cell" 2 (qAT 2 qFb) :=
 qCC (k:=0) T.s__law_cell qPx rfl fun f cdv A outer s H E hr =>
  qAQ (qCD (qCc qao (qAE 1 rfl (Or.inl qIq) qNp qNk) (qAa qDE qLM T.n_len qDK (qAC (qAE 0 rfl (Or.inl qIp) qDu qDq) (qAG)) qDk qDd rfl rfl)) (qAX (qAn (qBb qCE (qAE 0 rfl (Or.inl qIp) qDu qDq) (qAE 1 rfl (Or.inl qIq) qNp qNk)))) (qBc)) (qAX (qAn (qAJ)))
theorem qMK (T : Txt K mg c) : Def P w K mg base false 1 "_law_kind_of" 1 (qAT 3 (qFI c)) :=
 qCC (k:=0) T.s__law_kind_of qCe rfl fun f cdv A outer s H E hr =>
  qAQ (qBS (m:=1) qCe.nd (qBa (qAC (qAa (qCg T.cls) qAS T.n_isinstance qAU (qAC (qAE 0 rfl (Or.inl qAi) qBL qBJ) (qAC (qCx qHm T.c_NoPoint T.k_NoPoint qRH) (qAG))) qAW qAV rfl rfl) (qAC (qAa (qCg T.cls) qAS T.n_isinstance qAU (qAC (qAE 0 rfl (Or.inl qAi) qBL qBJ) (qAC (qCx qIk T.c_NoLot T.k_NoLot qTX) (qAG))) qAW qAV rfl rfl) (qAC (qAa (qCg T.cls) qAS T.n_isinstance qAU (qAC (qAE 0 rfl (Or.inl qAi) qBL qBJ) (qAC (qCx qHK T.c_NoNumber T.k_NoNumber qK1) (qAG))) qAW qAV rfl rfl) (qAC (qAa (qCg T.cls) qAS T.n_isinstance qAU (qAC (qAE 0 rfl (Or.inl qAi) qBL qBJ) (qAC (qCx qHJ T.c_NoCircle T.k_NoCircle qQC) (qAG))) qAW qAV rfl rfl) (qAG)))))) rfl (Or.inl qBV) rfl (.inl rfl)) (qAQ (qBS (m:=1) qCe.nd (qAd qBn (qAE 1 rfl (Or.inl qBV) qEQ qEP) (qBa (qAC (qAa (qCg T.cls) qAS T.n_isinstance qAU (qAC (qAE 0 rfl (Or.inl qAi) qBL qBJ) (qAC (qCx qHl T.c_NoMarks T.k_NoMarks qRG) (qAG))) qAW qAV rfl rfl) (qAC (qAa (qCg T.cls) qAS T.n_isinstance qAU (qAC (qAE 0 rfl (Or.inl qAi) qBL qBJ) (qAC (qCx qIJ T.c_NoFars T.k_NoFars qRx) (qAG))) qAW qAV rfl rfl) (qAC (qAa (qCg T.cls) qAS T.n_isinstance qAU (qAC (qAE 0 rfl (Or.inl qAi) qBL qBJ) (qAC (qCx qIL T.c_NoText T.k_NoText qRz) (qAG))) qAW qAV rfl rfl) (qAC (qAa (qCg T.cls) qAS T.n_isinstance qAU (qAC (qAE 0 rfl (Or.inl qAi) qBL qBJ) (qAC (qCx qIK T.c_NoLine T.k_NoLine qRy) (qAG))) qAW qAV rfl rfl) (qAG))))))) rfl (Or.inl qBV) rfl (.inl rfl)) (qAQ (qBS (m:=1) qCe.nd (qAd qBn (qAE 1 rfl (Or.inl qBV) qEQ qEP) (qBa (qAC (qAa (qCg T.cls) qAS T.n_isinstance qAU (qAC (qAE 0 rfl (Or.inl qAi) qBL qBJ) (qAC (qCx qII T.c_NoDeed T.k_NoDeed qRw) (qAG))) qAW qAV rfl rfl) (qAC (qAa (qCg T.cls) qAS T.n_isinstance qAU (qAC (qAE 0 rfl (Or.inl qAi) qBL qBJ) (qAC (qCx qEo T.c_Alike T.k_Alike qO6) (qAG))) qAW qAV rfl rfl) (qAC (qAa (qCg T.cls) qAS T.n_isinstance qAU (qAC (qAE 0 rfl (Or.inl qAi) qBL qBJ) (qAC (qCx qD3 T.c_TooMany T.k_TooMany qLu) (qAG))) qAW qAV rfl rfl) (qAG)))))) rfl (Or.inl qBV) rfl (.inl rfl)) (qAQ (qCD (qOb (qOc (qI2 (qCd (qAa (qCg T.cls) qAS T.n_isinstance qAU (qAC (qAE 0 rfl (Or.inl qAi) qBL qBJ) (qAC (qB0 qGG T.n_ValueError qOD qOJ qOG) (qAG))) qAW qAV rfl rfl))) (qMR (qCc (qP6 (hr)) (qJX PySem.F.plainAttrs_list PySem.F.slot_list_count PySem.F.type_list_count (.inl rfl) qWh (qAE 1 rfl (Or.inl qBV) qEQ qEP) (qAC (qD0) (qAG))) (qAJ))))) (qAX (qAn (qBz))) (qBc)) (qAQ (qCD (qCd (qAa (qCg T.cls) qAS T.n_isinstance qAU (qAC (qAE 0 rfl (Or.inl qAi) qBL qBJ) (qAC (qCx qEo T.c_Alike T.k_Alike qO6) (qAG))) qAW qAV rfl rfl)) (qAX (qAn (qBa (qAC (qBz) (qAC (qIx) (qAC (qIx) (qAC (qIx) (qAC (qIx) (qAG))))))))) (qBc)) (qAQ (qCD (qCd (qAa (qCg T.cls) qAS T.n_isinstance qAU (qAC (qAE 0 rfl (Or.inl qAi) qBL qBJ) (qAC (qCx qD3 T.c_TooMany T.k_TooMany qLu) (qAG))) qAW qAV rfl rfl)) (qAX (qAn (qBa (qAC (qBz) (qAC (qIx) (qAC (qIx) (qAG))))))) (qBc)) (qAQ (qBS (m:=2) qCe.nd (qBa (qAC (qBz) (qAC (qBz) (qAC (qBz) (qAC (qBz) (qAC (qBz) (qAC (qBz) (qAC (qBz) (qAC (qBz) (qAC (qBz) (qAG))))))))))) rfl (Or.inl qGS) rfl (.inl rfl)) (qAX (qAn (qBb qCE (qAE 2 rfl (Or.inl qGS) qOI qOE) (qJX PySem.F.plainAttrs_list PySem.F.slot_list_index PySem.F.type_list_index (.inl rfl) qWj (qAE 1 rfl (Or.inl qBV) qEQ qEP) (qAC (qD0) (qAG))))))))))))
theorem qPe (T : Txt K mg c) (d_11 : Def P w K mg base true 1 "_law_pairs" 1 qCo) (d_5 : Def P w K mg base true 1 "_law_far" 2 qB9) : Def P w K mg base true 2 "_law_fars" 1 (qAT 1 qFd) :=
 qCC (k:=1) T.s__law_fars qPy rfl fun f cdv A outer s H E hr =>
  qAX (qAn (qDl rfl qFM (qDm (qcN d_11 (hr).mono ⟨rfl,rfl,rfl⟩ qHk (qAC (qAE 0 rfl (Or.inl qNG) qBs qBq) (qAG)) qOH rfl rfl)) (fun cl C ex s₀ H₀ => qIz rfl (qBd (qAo (m:=0) qFM.nd rfl (qBU qCP) (.inr (qBf qCP))) (qBd (qAo (m:=1) qFM.nd rfl (qBU qCA) (.inr (qBf qCA))) (qGn)))) (fun cl C ex s₀ H₀ => qB1) (by intro g h; cases h <;> rfl) (fun cl C ex s₀ H₀ => qCS rfl rfl (qcO d_5 (hr).mono (qGj qHh) (qAC (qAE 0 rfl (qAk (.inl qCP)) qEG qEE) (qAC (qAE 1 rfl (qAk (.inl qCA)) qBj qBi) (qAG))) qK2 rfl rfl)) (by intro _; rfl)))
theorem qLb (T : Txt K mg c) (d_6 : Def P w K mg base true 2 "_law_fars" 1 qCh) : Def P w K mg base true 3 "_law_greatest" 1 (qAT 5 qCV) :=
 qCC (k:=2) T.s__law_greatest qBp rfl fun f cdv A outer s H E hr =>
  qAQ (qBS (m:=1) qBp.nd (qBa (qAC (qA9 (qAG)) (qAG))) rfl (Or.inl qCa) rfl (.inl rfl)) (qAQ (qJY (m:=2) rfl qBp.nd qFv (qDm (qAE 0 rfl (Or.inl qF1) qFO qFL)) (fun cl C ex s₀ H₀ => qAo (m:=0) qFv.nd rfl (qBU qBl) (.inr (qBf qBl))) (fun cl C ex s₀ H₀ => qB1) (by intro g h; cases h <;> rfl) (fun cl C ex s₀ H₀ => qCS rfl rfl (qA9 (qAC (qAE 0 rfl (qAk (.inl qBl)) qB7 qB5) (qAG)))) rfl (Or.inl qBx) (.inl rfl) rfl (by intro _; rfl)) (qAQ (qPm qCI (qCc (qU4 (hr)) (qAE 2 rfl (Or.inl qBx) qGB qF8) (qBa (qAG))) (qAQ (qPl (m:=1) (l:=2) rfl qBp.nd (qAC (qAE 2 rfl (Or.inl qBx) qGB qF8) (qAC (qKg (qAG)) (qAG))) rfl rfl (by decide) qCa qBx rfl rfl) (qAX (qWQ qCI rfl (qDm (qAE 1 rfl (Or.inl qCa) qE3 qEx)) (qAo (m:=3) qBp.nd rfl (Or.inr qBy) (.inl rfl)) (qAX (qEK qCI rfl (qI0 (qDl rfl qFu (qDm (qAE 0 rfl (Or.inl qF1) qFO qFL)) (fun cl C ex s₀ H₀ => qAo (m:=0) qFu.nd rfl (qBU qBI) (.inr (qBf qBI))) (fun cl C ex s₀ H₀ => qLd (qCc (qU3 (hr)) (qAE 0 rfl (qAk (.inl qBI)) qB7 qB5) (qBb qCE (qAE 1 rfl (qAk (.inr qFr)) qBs qBq) (qUx qU5 (qAJ)))) (qB1)) (by intro g h; cases h <;> rfl) (fun cl C ex s₀ H₀ => qCS rfl rfl (qAE 0 rfl (qAk (.inl qBI)) qB7 qB5)) (by intro _; rfl))) (qAo (m:=4) qBp.nd rfl (Or.inl qDj) (.inl rfl)) (qAX (qCD (qCc (qLh (hr)) (qN4 rfl qC7 T.n_len qJJ T.n_set (qcN d_6 (hr).mono ⟨rfl,rfl,rfl⟩ qGF (qAC (qAd qBn (qAE 3 rfl (Or.inr (Or.inl qBy)) qBs qBq) (qA9 (qAC (qAE 4 rfl (Or.inl qDj) qB7 qB5) (qAG)))) (qAG)) qO8 rfl rfl) rfl) (qAd qOf (qAd qJf (qAa qDE qC7 T.n_len qDK (qAC (qAE 3 rfl (Or.inr (Or.inl qBy)) qBs qBq) (qAG)) qDk qDd rfl rfl) (qAd qBn (qAa qDE qC7 T.n_len qDK (qAC (qAE 3 rfl (Or.inr (Or.inl qBy)) qBs qBq) (qAG)) qDk qDd rfl rfl) (qAJ))) (qAJ))) (qAX (qEr (qJX PySem.F.plainAttrs_list PySem.F.slot_list_append PySem.F.type_list_append (.inl rfl) qJe (qAE 2 rfl (Or.inl qBx) qGB qF8) (qAC (qAd qBn (qAE 3 rfl (Or.inr (Or.inl qBy)) qBs qBq) (qA9 (qAC (qAE 4 rfl (Or.inl qDj) qB7 qB5) (qAG)))) (qAG))))) (qBc))))))))) (qAX (qAn (qAE 1 rfl (Or.inl qCa) qE3 qEx)))))
end
end _K
end
section
namespace _K
open PySem _D
theorem qIi (i j : Int) (S : Sto) : gEq (.int i) (.int j) S = .ok (.bl (decide (i = j))) S:=by kernel_rfl!
theorem qVi (i j : Int) (S : Sto) : gNe (.int i) (.int j) S = .ok (.bl (decide (i ≠ j))) S:=by
 have h : gNe (.int i) (.int j) S = .ok (.bl (!decide (i = j))) S:=by kernel_rfl!
 rw [h,← decide_not]
theorem qFP (i j : Int) (S : Sto) (h : -(2 ^ 64) < i ∧ i < 2 ^ 64) : qCY (.int i) (.int j) S = .ok (.int (i * j)) S:=by
 unfold qCY i2
 rw [qOu]
 unfold qOt
 simp only [h,and_self,decide_true,Bool.true_or,if_true]
theorem qC6 (i j : Int) (S : Sto) : qA4 (.int i) (.int j) S = .ok (.int (i + j)) S:=rfl
theorem qLK {xs ys : List D} (h : xs.length + ys.length ≤ lim) (S : Sto) : qA4 (.lst xs) (.lst ys) S = .ok (.lst (xs ++ ys)) S:=if_pos h
theorem qMY {S : Sto} {j : Nat} {xs : List D} (h : S[j]? = some (.lst xs)) : tyD (.loc j) S = some "list":=by
 show (match S[j]? with | some (.lst _) => some "list" | some (.dct _) => some "dict" | _ => none) = _
 rw [h]
theorem qJ3 {S : Sto} {j : Nat} {xs : List D} (h : S[j]? = some (.lst xs)) (hl : xs.length < lim) (d : D) : qBg (.loc j) [d] S = .ok .non (S.set j (.lst (xs ++ [d]))):=by
 show (match S[j]? with | some (.lst xs) => (if xs.length < lim then Res.ok D.non (S.set j (.lst (xs ++ [d]))) else .bad) | _ => .bad) = _
 rw [h]
 exact if_pos hl
theorem qSN (d : D) (b a : String) (S : Sto) (ho : qFU b = true) (h : tyD d S = some a) : qBD [d,.ty b] S = .ok (.bl (qGf a b)) S:=by
 unfold qBD
 simp [ho,h]
theorem qJR (xs : List D) (S : Sto) : qA3 [.lst xs] S = .ok (.int xs.length) S:=rfl
theorem qLS (xs : List D) (S : Sto) : qA3 [.tup xs] S = .ok (.int xs.length) S:=rfl
theorem qQs : qFU "int" = true ∧ qFU "bool" = true ∧ qFU "tuple" = true ∧ qFU "list" = true ∧ qFU "str" = true:=kd
theorem qGk (i j : Int) (S : Sto) (h : 0 < j) : qGE (.int i) (.int j) S = .ok (.int (i % j)) S:=by
 unfold qGE i2
 simp [h]
theorem qKa (i j : Int) (S : Sto) (h : 0 < j ∧ j < 1073741824) : qGD (.int i) (.int j) S = .ok (.int (i / j)) S:=by
 unfold qGD i2 qWv
 simp [h]
noncomputable def qFn (d : D) : Prop:=∀ S,tyD d S = some "NoneType" ∨ tyD d S = some "bool" ∨ tyD d S = some "str" ∨ tyD d S = some "tuple" ∨ tyD d S = some "list" ∨ tyD d S = some "dict"
theorem qNS (i : Int) (S : Sto) : qDp [.int i] S = .ok (.bl true) S:=by
 rw [qF5]
 kernel_rfl!
theorem qOO (d : D) (S : Sto) (h : qFn d) : qDp [d] S = .ok (.bl false) S:=by
 rw [qF5]
 unfold qGZ
 rcases h S with h | h | h | h | h | h <;> simp [qAT,qEM,qWC,qaq,qWB,qAc,sIf,qAs,qBQ,qB3,qBE,gNm,gSb,gTp,qBC,qDw,qNY,qUB,qRa,dC,qAD,d1,d2,qAA,qAF,qAM,qAO,dTr,qDt,qF9,qE1,qBN,qIE,qTV,qO4,qAu,qBK,qKY,dBm,dSl,qDe,qIg,qCr,qEa,Res.bind,Res.toS,_D.qGJ,_D.qDn,qKT,qar,qat,qay,qav,qaw,qax,qau,qap,qQd,qas,gLt,gLe,gGt,gGe,_D.qEb,qRJ,qSN _ _ _ _ qQs.1 h,qSN _ _ _ _ qQs.2.1 h,qGf]
theorem qPp (i a b : Int) (S : Sto) : qCi [.int i,.int a,.int b] S = .ok (.bl (decide (a ≤ i ∧ i ≤ b))) S:=by
 rw [qFH]
 unfold qED
 simp [qAT,qEM,qWC,qaq,qWB,qAc,sIf,qAs,qBQ,qB3,qBE,gNm,gSb,gTp,qBC,qDw,qNY,qUB,qRa,dC,qAD,d1,d2,qAA,qAF,qAM,qAO,dTr,qDt,qF9,qE1,qBN,qIE,qTV,qO4,qAu,qBK,qKY,dBm,dSl,qDe,qIg,qCr,qEa,Res.bind,Res.toS,_D.qGJ,_D.qDn,qKT,qar,qat,qay,qav,qaw,qax,qau,qap,qQd,qas,gLt,gLe,gGt,gGe,_D.qEb,qRJ,qNS]
 by_cases h : a ≤ i <;> simp [h,qWC]
theorem qQN (d : D) (a b : Int) (S : Sto) (h : qFn d) : qCi [d,.int a,.int b] S = .ok (.bl false) S:=by
 rw [qFH]
 unfold qED
 simp [qAT,qEM,qWC,qaq,qWB,qAc,sIf,qAs,qBQ,qB3,qBE,gNm,gSb,gTp,qBC,qDw,qNY,qUB,qRa,dC,qAD,d1,d2,qAA,qAF,qAM,qAO,dTr,qDt,qF9,qE1,qBN,qIE,qTV,qO4,qAu,qBK,qKY,dBm,dSl,qDe,qIg,qCr,qEa,Res.bind,Res.toS,_D.qGJ,_D.qDn,qKT,qar,qat,qay,qav,qaw,qax,qau,qap,qQd,qas,gLt,gLe,gGt,gGe,_D.qEb,qRJ,qOO d S h]
noncomputable def qGW (a b : Int) (d : D) : Prop:=∀ S : Sto,qCi [d,.int a,.int b] S = .ok (.bl false) S
theorem qF3 {a b i : Int} (h : i < a ∨ b < i) : qGW a b (.int i):=fun S => by
 rw [qPp]
 have : ¬ (a ≤ i ∧ i ≤ b):=by omega
 simp [this]
theorem qKd {a b : Int} {d : D} (h : qFn d) : qGW a b d:=fun S => qQN _ _ _ S h
theorem qX4 : qFn .non:=fun _ => .inl rfl
theorem qUs (b : Bool) : qFn (.bl b):=fun _ => .inr (.inl rfl)
theorem qX5 (x : Str) : qFn (.str x):=fun _ => .inr (.inr (.inl rfl))
theorem qX6 (x : List D) : qFn (.tup x):=fun _ => .inr (.inr (.inr (.inl rfl)))
theorem qX3 (x : List D) : qFn (.lst x):=fun _ => .inr (.inr (.inr (.inr (.inl rfl))))
theorem qKP (i a b : Int) (S : Sto) (c : Cl) (h : a ≤ i ∧ i ≤ b) : qA6 c [.int i,.int a,.int b] S = .ok .non S:=by
 rw [qEX]
 unfold qDJ
 simp [qAT,qEM,qWC,qaq,qWB,qAc,sIf,qAs,qBQ,qB3,qBE,gNm,gSb,gTp,qBC,qDw,qNY,qUB,qRa,dC,qAD,d1,d2,qAA,qAF,qAM,qAO,dTr,qDt,qF9,qE1,qBN,qIE,qTV,qO4,qAu,qBK,qKY,dBm,dSl,qDe,qIg,qCr,qEa,Res.bind,Res.toS,_D.qGJ,_D.qDn,qKT,qar,qat,qay,qav,qaw,qax,qau,qap,qQd,qas,gLt,gLe,gGt,gGe,_D.qEb,qRJ,qPp,h]
theorem qSE (a : Int) (S : Sto) (h : a.natAbs.log2 < 1920) : qIH (.int a) S = .ok (.str (toString a)) S:=by
 unfold qIH
 simp only [h,if_true]
noncomputable def qX2 (a b : Int) : List Str:=[Str.empty ++ ("a whole number from " : Str),Str.empty ++ ("a whole number from " : Str) ++ ((toString a : String) : Str),Str.empty ++ ("a whole number from " : Str) ++ ((toString a : String) : Str) ++ (" to " : Str),Str.empty ++ ("a whole number from " : Str) ++ ((toString a : String) : Str) ++ (" to " : Str) ++ ((toString b : String) : Str),Str.empty ++ ("a whole number from " : Str) ++ ((toString a : String) : Str) ++ (" to " : Str) ++ ((toString b : String) : Str) ++ (" is needed" : Str)]
noncomputable def qMG (a b : Int) : Bool:=decide (a.natAbs.log2 < 1920) && decide (b.natAbs.log2 < 1920) && (qX2 a b).all fun m => decide (m.length ≤ lim)
theorem qKK {out y : Str} {p : DE} {ps : List DE} {env : qAH} {S S1 : Sto} (h : p env S = .ok (.str y) S1) (hl : (out ++ y).length ≤ lim) : qJQ out (p :: ps) env S = qJQ (out ++ y) ps env S1:=by
 show ((p env S).bind fun d S1 => match d with | .str y => if (out ++ y).length ≤ lim then qJQ (out ++ y) ps env S1 else .bad | _ => .bad) = _
 rw [h]
 exact if_pos hl
theorem qN5 (d : D) (a b : Int) (S : Sto) (c : Cl) (hm : qMG a b = true) (h : qGW a b d) : qA6 c [d,.int a,.int b] S = .ex (.ref c.NoNumber) .non S:=by
 rw [qEX]
 unfold qDJ
 simp only [qMG,qX2,List.all_cons,List.all_nil,Bool.and_eq_true,Bool.and_true,decide_eq_true_eq] at hm
 obtain ⟨⟨la,lb⟩,j1,j2,j3,j4,j5⟩:=hm
 have hj : qOW [dC (.str "a whole number from "),d1 qIH (qAD 1),dC (.str " to "),d1 qIH (qAD 2),dC (.str " is needed")] [some d,some (.int a),some (.int b)] S = .ok (.str (Str.empty ++ ("a whole number from " : Str) ++ ((toString a : String) : Str) ++ (" to " : Str) ++ ((toString b : String) : Str) ++ (" is needed" : Str))) S :=
  (qKK rfl j1).trans ((qKK (qSE a S la) j2).trans ((qKK rfl j3).trans ((qKK (qSE b S lb) j4).trans ((qKK rfl j5).trans (if_pos j5)))))
 have l1 : ∀ x : D,[x].length ≤ lim:=fun x => by show 1 ≤ lim; decide
 simp [qAT,qEM,qWC,qaq,qWB,qAc,sIf,qAs,qBQ,qB3,qBE,gNm,gSb,gTp,qBC,qDw,qNY,qUB,qRa,dC,qAD,d1,d2,qAA,qAF,qAM,qAO,dTr,qDt,qF9,qE1,qBN,qIE,qTV,qO4,qAu,qBK,qKY,dBm,dSl,qDe,qIg,qCr,qEa,Res.bind,Res.toS,_D.qGJ,_D.qDn,qKT,qar,qat,qay,qav,qaw,qax,qau,qap,qQd,qas,gLt,gLe,gGt,gGe,_D.qEb,qRJ,h S,qMU]
 simp only [hj,l1,if_true,qWB]
noncomputable def qDo (S : Sto) (p : Nat) : Prop:=∃ v f : Int,S[p]? = some (.lst [.int v,.int f])
theorem qMB (p : Nat) (k : Int) (xs : List D) (d : D) (S : Sto) (h : S[p]? = some (.lst xs)) (hk : _L.atI xs k = some d) : gIx (.loc p) (.int k) S = .ok d S:=by
 show (match S[p]? with | some (.lst xs) => _D.qDn (_L.atI xs k) S | _ => .bad) = _
 rw [h]
 show _D.qDn (_L.atI xs k) S = _
 rw [hk]
 rfl
theorem qUw (v f : Int) : _L.atI [D.int v,D.int f] 0 = some (.int v):=rfl
theorem qZq (v f : Int) : _L.atI [D.int v,D.int f] 1 = some (.int f):=rfl
theorem qQu (p : Nat) (v f w : Int) (S : Sto) (h : S[p]? = some (.lst [.int v,.int f])) : qFg (.loc p) (.int 0) (.int w) S = .ok () (S.set p (.lst [.int w,.int f])):=by
 simp [qFg,qNA,h,_L.ixN]
theorem qSs (S : Sto) (p : Nat) (m : Int) (h : qDo S p) (hm : 0 < m ∧ m < 1073741824) : ∃ r v f : Int,qBX [.loc p,.int m] S = .ok (.int r) (S.set p (.lst [.int v,.int f])) ∧ 0 ≤ r ∧ r < m:=by
 obtain ⟨v,f,hp⟩:=h
 have hpl:=(List.getElem?_eq_some_iff.mp hp).1
 have g0:=qMB p 0 _ _ S hp (qUw v f)
 have g1:=qMB p 1 _ _ S hp (qZq v f)
 rw [qIW]
 unfold qFc
 by_cases hf : f = 1
 ·refine ⟨v % m,v / m,f,?_,Int.emod_nonneg _ (by omega),Int.emod_lt_of_pos _ hm.1⟩
  subst hf
  simp [qAT,qEM,qWC,qaq,qWB,qAc,sIf,qAs,qBQ,qB3,qBE,gNm,gSb,gTp,qBC,qDw,qNY,qUB,qRa,dC,qAD,d1,d2,qAA,qAF,qAM,qAO,dTr,qDt,qF9,qE1,qBN,qIE,qTV,qO4,qAu,qBK,qKY,dBm,dSl,qDe,qIg,qCr,qEa,Res.bind,Res.toS,_D.qGJ,_D.qDn,qKT,qar,qat,qay,qav,qaw,qax,qau,qap,qQd,qas,gLt,gLe,gGt,gGe,_D.qEb,qRJ,g0,g1,qIi,qGk v m S hm.1,qKa v m S hm,qQu p v 1 (v / m) S hp]
 ·obtain ⟨w,hw⟩ : ∃ w : Int,w = (v % 2147483629 * 48271 + 11) % 2147483629:=⟨_,rfl⟩
  have hw1 : 0 ≤ w ∧ w < 2147483629:=by rw [hw]; exact ⟨Int.emod_nonneg _ (by omega),Int.emod_lt_of_pos _ (by omega)⟩
  have hv1 : 0 ≤ v % 2147483629 ∧ v % 2147483629 < 2147483629:=⟨Int.emod_nonneg _ (by omega),Int.emod_lt_of_pos _ (by omega)⟩
  have hp' : (S.set p (MO.lst [.int w,.int f]))[p]? = some (.lst [.int w,.int f]):=by simp [hpl]
  have k0:=qMB p 0 _ _ (S.set p (MO.lst [.int w,.int f])) hp' (qUw w f)
  have m1:=qFP (v % 2147483629) 48271 S ⟨by omega,by omega⟩
  have m2:=qFP w w (S.set p (MO.lst [.int w,.int f])) ⟨by omega,by omega⟩
  have m3:=qFP 40692 w (S.set p (MO.lst [.int w,.int f])) ⟨by omega,by omega⟩
  have d1:=qGk v 2147483629 S (by omega)
  have d2':=qGk (v % 2147483629 * 48271 + 11) 2147483629 S (by omega)
  rw [← hw] at d2'
  have d3:=qGk (w * w + 40692 * w) 2147483647 (S.set p (MO.lst [.int w,.int f])) (by omega)
  have d4:=qKa ((w * w + 40692 * w) % 2147483647) 8 (S.set p (MO.lst [.int w,.int f])) (by omega)
  have d5:=qGk ((w * w + 40692 * w) % 2147483647 / 8) m (S.set p (MO.lst [.int w,.int f])) hm.1
  refine ⟨(w * w + 40692 * w) % 2147483647 / 8 % m,w,f,?_,Int.emod_nonneg _ (by omega),Int.emod_lt_of_pos _ hm.1⟩
  simp [qAT,qEM,qWC,qaq,qWB,qAc,sIf,qAs,qBQ,qB3,qBE,gNm,gSb,gTp,qBC,qDw,qNY,qUB,qRa,dC,qAD,d1,d2,qAA,qAF,qAM,qAO,dTr,qDt,qF9,qE1,qBN,qIE,qTV,qO4,qAu,qBK,qKY,dBm,dSl,qDe,qIg,qCr,qEa,Res.bind,Res.toS,_D.qGJ,_D.qDn,qKT,qar,qat,qay,qav,qaw,qax,qau,qap,qQd,qas,gLt,gLe,gGt,gGe,_D.qEb,qRJ,g0,g1,qIi,hf,d1,m1,qC6,d2',qQu p v f w S hp,k0,m2,m3,d3,d4,d5]
theorem qPi {S : Sto} {p : Nat} (h : qDo S p) (v f : Int) : qDo (S.set p (.lst [.int v,.int f])) p:=by
 obtain ⟨v0,f0,hp⟩:=h
 have hpl:=(List.getElem?_eq_some_iff.mp hp).1
 exact ⟨v,f,by simp [hpl]⟩
theorem qQt {S S' : Sto} {p : Nat} (h : qDo S p) (e : S <+: S') : qDo S' p:=by
 obtain ⟨v0,f0,hp⟩:=h
 obtain ⟨r,rfl⟩:=e
 exact ⟨v0,f0,by rw [List.getElem?_append_left (List.getElem?_eq_some_iff.mp hp).1]; exact hp⟩
theorem qYc (S : Sto) : qHG (.int 10) (.int 18) S = .ok (.int 1000000000000000000) S:=rfl
theorem qYd (S : Sto) : qHG (.int 10) (.int 29) S = .ok (.int 100000000000000000000000000000) S:=rfl
theorem qZw (x : Int) (S : Sto) : ∃ f : Int,qEu [.int x] S = .ok (.loc S.length) (S ++ [.lst [.int x,.int f]]):=by
 refine ⟨b01 (decide (1000000000000000000 ≤ x)),?_⟩
 have l2 : 2 ≤ lim:=by decide
 rw [qJi]
 unfold qGY
 simp [qAT,qEM,qWC,qaq,qWB,qAc,sIf,qAs,qBQ,qB3,qBE,gNm,gSb,gTp,qBC,qDw,qNY,qUB,qRa,dC,qAD,d1,d2,qAA,qAF,qAM,qAO,dTr,qDt,qF9,qE1,qBN,qIE,qTV,qO4,qAu,qBK,qKY,dBm,dSl,qDe,qIg,qCr,qEa,Res.bind,Res.toS,_D.qGJ,_D.qDn,qKT,qar,qat,qay,qav,qaw,qax,qau,qap,qQd,qas,gLt,gLe,gGt,gGe,_D.qEb,qRJ,qYc,qVf,l2]
theorem qYq (ns : List Int) (S : Sto) : ∃ x : Int,qDO [.lst (ns.map D.int),.int 0] S = .ok (.int x) S:=by
 rw [qIU]
 unfold qFb
 cases ns with
 | nil => exact ⟨0,by simp [qAT,qEM,qWC,qaq,qWB,qAc,sIf,qAs,qBQ,qB3,qBE,gNm,gSb,gTp,qBC,qDw,qNY,qUB,qRa,dC,qAD,d1,d2,qAA,qAF,qAM,qAO,dTr,qDt,qF9,qE1,qBN,qIE,qTV,qO4,qAu,qBK,qKY,dBm,dSl,qDe,qIg,qCr,qEa,Res.bind,Res.toS,_D.qGJ,_D.qDn,qKT,qar,qat,qay,qav,qaw,qax,qau,qap,qQd,qas,gLt,gLe,gGt,gGe,_D.qEb,qRJ,qJR]⟩
 | cons n ns =>
  refine ⟨n,?_⟩
  have h : (0 : Int) < (ns.length : Int) + 1:=by omega
  have a : _L.atI (D.int n :: ns.map D.int) 0 = some (.int n):=by simp [_L.atI,_L.ixN,h]
  simp [qAT,qEM,qWC,qaq,qWB,qAc,sIf,qAs,qBQ,qB3,qBE,gNm,gSb,gTp,qBC,qDw,qNY,qUB,qRa,dC,qAD,d1,d2,qAA,qAF,qAM,qAO,dTr,qDt,qF9,qE1,qBN,qIE,qTV,qO4,qAu,qBK,qKY,dBm,dSl,qDe,qIg,qCr,qEa,Res.bind,Res.toS,_D.qGJ,_D.qDn,qKT,qar,qat,qay,qav,qaw,qax,qau,qap,qQd,qas,gLt,gLe,gGt,gGe,_D.qEb,qRJ,qJR,qQZ a,h]
theorem qWr (xs : List D) (r : Int) (h : 0 ≤ r ∧ r < xs.length) : ∃ d,_L.atI xs r = some d ∧ d ∈ xs:=by
 have e : _L.ixN xs.length r = some r.toNat:=by simp [_L.ixN,h]
 have hl : r.toNat < xs.length:=by omega
 exact ⟨xs[r.toNat],by simp [_L.atI,e,hl],List.getElem_mem hl⟩
theorem qVH (ns : List Int) (lo hi : Option Int) : ∃ ms : List Int,qE0 (ns.map D.int) lo hi = ms.map D.int ∧ ms.length ≤ ns.length:=by
 unfold qE0
 rw [← List.map_drop,← List.map_take]
 exact ⟨_,rfl,by simp; omega⟩
noncomputable def qRC (a b : Int) : List D:=[.int (a - 1),.int (b + 1),.non,.bl true,.str "0",.tup [.int a],.lst [.int a],.int 100000000000000000000000000000,.int (-100000000000000000000000000000),.bl false,.int (b + 2)]
theorem qU8 (a b : Int) (ha : -10000000000000000000000000000 < a ∧ a ≤ b ∧ b < 10000000000000000000000000000) : ∀ d ∈ qRC a b,qGW a b d:=by
 intro d hd
 simp only [qRC,List.mem_cons,List.not_mem_nil,or_false] at hd
 rcases hd with rfl | rfl | rfl | rfl | rfl | rfl | rfl | rfl | rfl | rfl | rfl
 ·exact qF3 (by omega)
 ·exact qF3 (by omega)
 ·exact qKd qX4
 ·exact qKd (qUs _)
 ·exact qKd (qX5 _)
 ·exact qKd (qX6 _)
 ·exact qKd (qX3 _)
 ·exact qF3 (by omega)
 ·exact qF3 (by omega)
 ·exact qKd (qUs _)
 ·exact qF3 (by omega)
theorem qQM (S : Sto) (p : Nat) (a b : Int) (h : qDo S p) (ha : -10000000000000000000000000000 < a ∧ a ≤ b ∧ b < 10000000000000000000000000000) : ∃ (d : D) (v f : Int),qCJ [.loc p,.int a,.int b] S = .ok d (S.set p (.lst [.int v,.int f])) ∧ qGW a b d:=by
 obtain ⟨r,v,f,e,h0,h1⟩:=qSs S p 11 h (by omega)
 obtain ⟨d,hd,hm⟩:=qWr (qRC a b) r ⟨h0,h1⟩
 refine ⟨d,v,f,?_,qU8 a b ha d hm⟩
 unfold qRC at hd
 have l1 : 1 ≤ lim:=by decide
 have l11 : 11 ≤ lim:=by decide
 rw [qFB]
 unfold qC2
 simp [qAT,qEM,qWC,qaq,qWB,qAc,sIf,qAs,qBQ,qB3,qBE,gNm,gSb,gTp,qBC,qDw,qNY,qUB,qRa,dC,qAD,d1,d2,qAA,qAF,qAM,qAO,dTr,qDt,qF9,qE1,qBN,qIE,qTV,qO4,qAu,qBK,qKY,dBm,dSl,qDe,qIg,qCr,qEa,Res.bind,Res.toS,_D.qGJ,_D.qDn,qKT,qar,qat,qay,qav,qaw,qax,qau,qap,qQd,qas,gLt,gLe,gGt,gGe,_D.qEb,qRJ,qYd,qC6,l1,l11,e,qQZ hd]
noncomputable def qPK : DG:=gTp 2 (qBC (gNm 2) (qBC (gNm 3) (qDw)))
noncomputable def qL0 (S : DF) : DS:=sIf (qDt (dTr (qAO 2 S (qAA (qAD 2) (qAA (qAD 3) (qAF)))))) (qAs (dC (.bl false))) (qBQ)
theorem qWs (S : DF) : qCF S = qAc (sIf (dTr (d2 gIs (qAD 1) (dC .non))) (qAs (d2 gIs (qAD 0) (dC .non))) (qBQ)) (qAc (sIf (qF9 (dTr (qAM qBD (qAA (qAD 1) (qAA (dC (.ty "tuple")) (qAF))))) (dTr (qAM qBD (qAA (qAD 1) (qAA (dC (.ty "list")) (qAF)))))) (qAc (sIf (qF9 (dTr (d2 gNe (qAM qBD (qAA (qAD 0) (qAA (dC (.ty "tuple")) (qAF)))) (qAM qBD (qAA (qAD 1) (qAA (dC (.ty "tuple")) (qAF)))))) (dTr (d2 gNe (qAM qBD (qAA (qAD 0) (qAA (dC (.ty "list")) (qAF)))) (qAM qBD (qAA (qAD 1) (qAA (dC (.ty "list")) (qAF))))))) (qAs (dC (.bl false))) (qBQ)) (qAc (sIf (dTr (d2 gNe (qAM qA3 (qAA (qAD 0) (qAF))) (qAM qA3 (qAA (qAD 1) (qAF))))) (qAs (dC (.bl false))) (qBQ)) (qAc (qEh (qO5 (qAA (qAD 0) (qAA (qAD 1) (qAF)))) qPK (qL0 S)) (qAs (dC (.bl true)))))) (qBQ)) (qAc (sIf (dTr (qAM qBD (qAA (qAD 1) (qAA (dC (.ty "str")) (qAF))))) (qAs (qIE (qAM qBD (qAA (qAD 0) (qAA (dC (.ty "str")) (qAF)))) (d2 gEq (qAD 0) (qAD 1)))) (qBQ)) (qAs (qIE (d2 gEq (qAM qBD (qAA (qAD 0) (qAA (dC (.ty "bool")) (qAF)))) (qAM qBD (qAA (qAD 1) (qAA (dC (.ty "bool")) (qAF))))) (qIE (qAM qBD (qAA (qAD 0) (qAA (dC (.ty "int")) (qAF)))) (d2 gEq (qAD 0) (qAD 1))))))):=rfl
theorem qSZ (F : DF) (x y : Option D) (S : Sto) : ∀ (ws : List D),(∀ d ∈ ws,F [d,d] S = .ok (.bl true) S) → ∀ u v,∃ u' v',qFk qPK (qL0 F) (qEj ws ws) [x,y,u,v] S = .nx [x,y,u',v'] S:=by
 intro ws
 induction ws with
 | nil => exact fun _ u v => ⟨u,v,rfl⟩
 | cons w ws ih =>
  intro h u v
  obtain ⟨u',v',e⟩:=ih (fun d hd => h d (List.mem_cons_of_mem _ hd)) (some w) (some w)
  refine ⟨u',v',?_⟩
  have hw:=h w (List.mem_cons_self ..)
  have hg : qPK (.tup [w,w]) [x,y,u,v] S = .ok [x,y,some w,some w] S:=rfl
  have hf : qL0 F [x,y,some w,some w] S = .nx [x,y,some w,some w] S:=by
   unfold qL0
   simp [qAT,qEM,qWC,qaq,qWB,qAc,sIf,qAs,qBQ,qB3,qBE,gNm,gSb,gTp,qBC,qDw,qNY,qUB,qRa,dC,qAD,d1,d2,qAA,qAF,qAM,qAO,dTr,qDt,qF9,qE1,qBN,qIE,qTV,qO4,qAu,qBK,qKY,dBm,dSl,qDe,qIg,qCr,qEa,Res.bind,Res.toS,_D.qGJ,_D.qDn,qKT,qar,qat,qay,qav,qaw,qax,qau,qap,qQd,qas,gLt,gLe,gGt,gGe,_D.qEb,qRJ,hw]
  have hz : qEj (w :: ws) (w :: ws) = D.tup [w,w] :: qEj ws ws:=rfl
  rw [hz]
  unfold qFk
  simp only [hg,Res.toS,hf]
  exact e
noncomputable def okD : Nat → D → Prop
 | n + 1,.tup xs => ∀ x ∈ xs,okD n x
 | n + 1,.lst xs => ∀ x ∈ xs,okD n x
 | _,.int _ => True
 | _,.bl _ => True
 | _,.non => True
 | _,_ => False
theorem qYF : ∀ (n : Nat) (d : D),okD n d → okD (n + 1) d:=by
 intro n
 induction n with
 | zero =>
  intro d h
  cases d with
  | int _ => trivial
  | bl _ => trivial
  | non => trivial
  | _ => exact False.elim h
 | succ n ih =>
  intro d h
  cases d with
  | int _ => trivial
  | bl _ => trivial
  | non => trivial
  | tup xs => exact fun x hx => ih x (h x hx)
  | lst xs => exact fun x hx => ih x (h x hx)
  | _ => exact False.elim h
theorem qPa {n m : Nat} (h : n ≤ m) {d : D} (k : okD n d) : okD m d:=by
 induction h with
 | refl => exact k
 | step _ ih => exact qYF _ _ ih
theorem qYs {t : DT} {f g : DS} {env : qAH} {S S1 : Sto} {b : Bool} {Q : D → Sto → Prop} (h : t env S = .ok b S1) (k : Rt ((if b then f else g) env S1) Q) : Rt (sIf t f g env S) Q:=by
 obtain ⟨d,S2,e2,q⟩:=k
 refine ⟨d,S2,?_,q⟩
 unfold sIf
 rw [h]
 cases b <;> exact e2
theorem qWX {f g : DS} {env : qAH} {S : Sto} {Q : D → Sto → Prop} (h : Rt (f env S) Q) : Rt (qAc f g env S) Q:=by
 obtain ⟨d,S2,e2,q⟩:=h
 exact ⟨d,S2,by unfold qAc; rw [e2],q⟩
theorem qSz {n : Nat} {g : DS} {ds : List D} {S S' : Sto} {d : D} {env : qAH} (hs : qEM n ds = env) (h : Rt (g env S) fun d' S1 => d' = d ∧ S1 = S') : qAT n g ds S = .ok d S':=by
 obtain ⟨d',S1,e,rfl,rfl⟩:=h
 exact qEL hs e
theorem qPu (F : DF) (d : D) (ws : List D) (S : Sto) (h1 : gIs d .non S = .ok (.bl false) S) (h2 : qF9 (dTr (qAM qBD (qAA (qAD 1) (qAA (dC (.ty "tuple")) (qAF))))) (dTr (qAM qBD (qAA (qAD 1) (qAA (dC (.ty "list")) (qAF))))) [some d,some d,none,none] S = .ok true S)
  (h3 : qF9 (dTr (d2 gNe (qAM qBD (qAA (qAD 0) (qAA (dC (.ty "tuple")) (qAF)))) (qAM qBD (qAA (qAD 1) (qAA (dC (.ty "tuple")) (qAF)))))) (dTr (d2 gNe (qAM qBD (qAA (qAD 0) (qAA (dC (.ty "list")) (qAF)))) (qAM qBD (qAA (qAD 1) (qAA (dC (.ty "list")) (qAF)))))) [some d,some d,none,none] S = .ok false S)
  (h4 : qA3 [d] S = .ok (.int ws.length) S) (h5 : qRd [d,d] = some (qEj ws ws)) (ih : ∀ x ∈ ws,F [x,x] S = .ok (.bl true) S) : qAT 4 (qCF F) [d,d] S = .ok (.bl true) S:=by
 rw [qWs]
 obtain ⟨u',v',e⟩:=qSZ F (some d) (some d) S ws ih none none
 have h1' : dTr (d2 gIs (qAD 1) (dC .non)) [some d,some d,none,none] S = .ok false S:=by
  show (Res.bind (gIs d .non S) fun d S1 => qGJ (qDV d S1) S1) = _
  rw [h1]
  rfl
 have h4' : dTr (d2 gNe (qAM qA3 (qAA (qAD 0) (qAF))) (qAM qA3 (qAA (qAD 1) (qAF)))) [some d,some d,none,none] S = .ok false S:=by
  show (Res.bind (Res.bind (qA3 [d] S) fun a S1 => Res.bind (qA3 [d] S1) fun b S2 => gNe a b S2) fun d S1 => qGJ (qDV d S1) S1) = _
  rw [h4]
  show (Res.bind (Res.bind (qA3 [d] S) fun b S2 => gNe (.int ws.length) b S2) fun d S1 => qGJ (qDV d S1) S1) = _
  rw [h4]
  show (Res.bind (gNe (.int ws.length) (.int ws.length) S) fun d S1 => qGJ (qDV d S1) S1) = _
  rw [qVi,decide_eq_false (fun h => h rfl)]
  rfl
 have h5' : qO5 (qAA (qAD 0) (qAA (qAD 1) (qAF))) [some d,some d,none,none] S = .ok (qEj ws ws) S:=by
  show _D.qDn (qRd [d,d]) S = _
  rw [h5]
  rfl
 exact qSz rfl (qA0 (qDy h1' (qBm rfl (qWX (qYs h2 (qA0 (qDy h3 (qBm rfl (qA0 (qDy h4' (qBm rfl (qA0 (qEJ h5' (qBm e (qF4 (qA5 rfl ⟨rfl,rfl⟩))))))))))))))))
theorem qPv (F : DF) (i : Int) (S : Sto) : qAT 4 (qCF F) [.int i,.int i] S = .ok (.bl true) S:=by
 have h : qAT 4 (qCF F) [.int i,.int i] S = .ok (.bl (i == i)) S:=by kernel_rfl!
 rw [h,beq_self_eq_true]
theorem qQ0 (F : DF) (b : Bool) (S : Sto) : qAT 4 (qCF F) [.bl b,.bl b] S = .ok (.bl true) S:=by
 cases b <;> kernel_rfl!
theorem qPw (F : DF) (S : Sto) : qAT 4 (qCF F) [.non,.non] S = .ok (.bl true) S:=by kernel_rfl!
theorem qS2 : ∀ (n : Nat) (d : D) (S : Sto),okD n d → qD1 (n + 1) [d,d] S = .ok (.bl true) S:=by
 intro n
 induction n with
 | zero =>
  intro d S h
  cases d with
  | int i => exact qPv _ i S
  | bl b => exact qQ0 _ b S
  | non => exact qPw _ S
  | _ => exact False.elim h
 | succ n ih =>
  intro d S h
  cases d with
  | tup ws => exact qPu (qD1 (n + 1)) (.tup ws) ws S rfl (by kernel_rfl!) (by kernel_rfl!) rfl rfl fun x hx => ih x S (h x hx)
  | lst ws => exact qPu (qD1 (n + 1)) (.lst ws) ws S rfl (by kernel_rfl!) (by kernel_rfl!) rfl rfl fun x hx => ih x S (h x hx)
  | int i => exact qPv _ i S
  | bl b => exact qQ0 _ b S
  | non => exact qPw _ S
  | _ => exact False.elim h
theorem qKk (S : Sto) : ∀ (n m : Nat) (d : D),okD n d → n ≤ m → qCM m S d = some d:=by
 have mp : ∀ (f : D → Option D) (xs : List D),(∀ x ∈ xs,f x = some x) → mapO f xs = some xs:=by
  intro f xs
  induction xs with
  | nil => exact fun _ => rfl
  | cons x xs ih =>
   intro h
   have h1:=h x (List.mem_cons_self ..)
   have h2:=ih fun y hy => h y (List.mem_cons_of_mem _ hy)
   simp [mapO,h1,h2]
 intro n
 induction n with
 | zero =>
  intro m d h _
  cases d <;> cases m <;> first | rfl | exact False.elim h
 | succ n ih =>
  intro m d h hm
  obtain ⟨m,rfl⟩ : ∃ k,m = k + 1:=⟨m - 1,by omega⟩
  cases d with
  | tup ws =>
   show (mapO (qCM m S) ws).map D.tup = _
   rw [mp _ ws fun x hx => ih m x (h x hx) (by omega)]
   rfl
  | lst ws =>
   show (mapO (qCM m S) ws).map D.lst = _
   rw [mp _ ws fun x hx => ih m x (h x hx) (by omega)]
   rfl
  | int i => rfl
  | bl b => rfl
  | non => rfl
  | _ => exact False.elim h
theorem qKj (S : Sto) (j n : Nat) (xs : List D) (h : S[j]? = some (.lst xs)) (hx : okD n (.lst xs)) (hn : n ≤ 20) : qCM 20 S (.loc j) = some (.lst xs):=by
 have:=qKk S n 20 (.lst xs) hx hn
 show (match S[j]? with | some (.lst xs) => (mapO (qCM 19 S) xs).map D.lst | _ => none) = _
 rw [h]
 exact this
theorem qKM (S : Sto) (a b d : D) (n : Nat) (ha : qCM 20 S a = some d) (hb : qCM 20 S b = some d) (hd : okD n d) (hn : n + 1 = 6) : qET qA2 [a,b] S = .ok (.bl true) S:=by
 have h:=qS2 n d (qGc S) hd
 rw [hn] at h
 unfold qET
 rw [qIa]
 simp only [mapO,qKD,ha,hb]
 rw [h]
 rfl
theorem qTx {cl : List Addr} {C B : Addr} (hC : C ∈ cl) (hB : B ∈ cl) (S : Sto) : qBW cl [.exn (.ref C),.obj B] S = .ok (.bl (C == B)) S:=by
 show (if (cl.contains C && cl.contains B) = true then Res.ok (D.bl (C == B)) S else .bad) = _
 rw [List.contains_iff_mem.mpr hC,List.contains_iff_mem.mpr hB]
 rfl
theorem qVq {cl : List Addr} {C : Addr} (hC : C ∈ cl) (S : Sto) : qBW cl [.exn (.ref C),.ty "ValueError"] S = .ok (.bl true) S:=by
 show (if (cl.contains C && (("ValueError" : String) == "ValueError")) = true then Res.ok (D.bl true) S else .bad) = _
 rw [List.contains_iff_mem.mpr hC]
 rfl
theorem qEU {cl : List Addr} (nd : cl.Nodup) {i j : Nat} {a b : Addr} (ha : cl[i]? = some a) (hb : cl[j]? = some b) (h : i ≠ j) : (a == b) = false:=by
 rw [beq_eq_false_iff_ne]
 rintro rfl
 obtain ⟨h1,e1⟩:=List.getElem?_eq_some_iff.mp ha
 obtain ⟨h2,e2⟩:=List.getElem?_eq_some_iff.mp hb
 exact h ((List.getElem_inj nd).mp (e1.trans e2.symm))
theorem qDx {cl : List Addr} {env : qAH} {S : Sto} {C B : Addr} {b : Bool} (h0 : env[0]? = some (some (.exn (.ref C)))) (hC : C ∈ cl) (hB : B ∈ cl) (e : (C == B) = b) : qAM (qBW cl) (qAA (qAD 0) (qAA (dC (.obj B)) (qAF))) env S = .ok (.bl b) S:=by
 unfold qAM qAA qAD
 rw [h0]
 exact (qTx hC hB S).trans (e ▸ rfl)
theorem qZX {cl : List Addr} {env : qAH} {S : Sto} {C : Addr} (h0 : env[0]? = some (some (.exn (.ref C)))) (hC : C ∈ cl) : qAM (qBW cl) (qAA (qAD 0) (qAA (dC (.ty "ValueError")) (qAF))) env S = .ok (.bl true) S:=by
 unfold qAM qAA qAD
 rw [h0]
 exact qVq hC S
theorem qG8 {f : DE} {g : DA} {env : qAH} {S : Sto} {a : D} {as : List D} (h : f env S = .ok a S) (k : g env S = .ok as S) : qAA f g env S = .ok (a :: as) S:=by
 unfold qAA
 rw [h,Res.bind_ok,k]
 rfl
theorem qTW {g : DA} {env : qAH} {S : Sto} {as : List D} (k : g env S = .ok as S) (h : as.length ≤ lim) : qBK g env S = .ok (.lst as) S:=by
 unfold qBK
 rw [k,Res.bind_ok,if_pos h]
theorem qXq {o : G2} {f g : DE} {env : qAH} {S : Sto} {a b : D} (h1 : f env S = .ok a S) (h2 : g env S = .ok b S) : d2 o f g env S = o a b S:=by
 unfold d2
 rw [h1,Res.bind_ok,h2]
 rfl
theorem qUT {f : DE} {env : qAH} {S : Sto} {b : Bool} (h : f env S = .ok (.bl b) S) : dTr f env S = .ok b S:=by
 unfold dTr
 rw [h]
 rfl
theorem qZb {f : DT} {env : qAH} {S : Sto} {b : Bool} (h : f env S = .ok b S) : qDt f env S = .ok (!b) S:=by
 unfold qDt
 rw [h]
 rfl
theorem qZn {f g : DT} {env : qAH} {S : Sto} (h : f env S = .ok false S) (k : g env S = .ok false S) : qF9 f g env S = .ok false S:=by
 unfold qF9
 rw [h]
 exact k
theorem qMS (c : Cl) (nd : (qBw c).Nodup) (S : Sto) : qCn c [.exn (.ref c.NoNumber)] S = .ok (.str "number") S:=by
 have mN : c.NoNumber ∈ qBw c:=.tail _ (.tail _ (.head _))
 rw [qGK]
 refine qSz (env:=[some (.exn (.ref c.NoNumber)),none,none]) rfl ?_
 refine qA0 (qBZ (qA5 (qTW (qG8 (qDx (env:=[some (.exn (.ref c.NoNumber)),none,none]) rfl mN (.head _) (qEU (i:=2) (j:=0) nd rfl rfl (by decide))) (qG8 (qDx (env:=[some (.exn (.ref c.NoNumber)),none,none]) rfl mN (.tail _ (.head _)) (qEU (i:=2) (j:=1) nd rfl rfl (by decide))) (qG8 (qDx (env:=[some (.exn (.ref c.NoNumber)),none,none]) rfl mN (.tail _ (.tail _ (.head _))) (beq_self_eq_true _)) (qG8 (qDx (env:=[some (.exn (.ref c.NoNumber)),none,none]) rfl mN (.tail _ (.tail _ (.tail _ (.head _)))) (qEU (i:=2) (j:=3) nd rfl rfl (by decide))) rfl)))) (by decide)) ?_))
 refine qA0 (qBZ (qA5 ((qXq (a:=.lst [.bl false,.bl false,.bl true,.bl false]) rfl (qTW (qG8 (qDx (env:=[some (.exn (.ref c.NoNumber)),some (.lst [.bl false,.bl false,.bl true,.bl false]),none]) rfl mN (.tail _ (.tail _ (.tail _ (.tail _ (.head _))))) (qEU (i:=2) (j:=4) nd rfl rfl (by decide))) (qG8 (qDx (env:=[some (.exn (.ref c.NoNumber)),some (.lst [.bl false,.bl false,.bl true,.bl false]),none]) rfl mN (.tail _ (.tail _ (.tail _ (.tail _ (.tail _ (.head _)))))) (qEU (i:=2) (j:=5) nd rfl rfl (by decide))) (qG8 (qDx (env:=[some (.exn (.ref c.NoNumber)),some (.lst [.bl false,.bl false,.bl true,.bl false]),none]) rfl mN (.tail _ (.tail _ (.tail _ (.tail _ (.tail _ (.tail _ (.head _))))))) (qEU (i:=2) (j:=6) nd rfl rfl (by decide))) (qG8 (qDx (env:=[some (.exn (.ref c.NoNumber)),some (.lst [.bl false,.bl false,.bl true,.bl false]),none]) rfl mN (.tail _ (.tail _ (.tail _ (.tail _ (.tail _ (.tail _ (.tail _ (.head _)))))))) (qEU (i:=2) (j:=7) nd rfl rfl (by decide))) rfl)))) (by decide))).trans (c:=.ok (.lst [.bl false,.bl false,.bl true,.bl false,.bl false,.bl false,.bl false,.bl false]) S) (by kernel_rfl!)) ?_))
 refine qA0 (qBZ (qA5 ((qXq (a:=.lst [.bl false,.bl false,.bl true,.bl false,.bl false,.bl false,.bl false,.bl false]) rfl (qTW (qG8 (qDx (env:=[some (.exn (.ref c.NoNumber)),some (.lst [.bl false,.bl false,.bl true,.bl false,.bl false,.bl false,.bl false,.bl false]),none]) rfl mN (.tail _ (.tail _ (.tail _ (.tail _ (.tail _ (.tail _ (.tail _ (.tail _ (.head _))))))))) (qEU (i:=2) (j:=8) nd rfl rfl (by decide))) (qG8 (qDx (env:=[some (.exn (.ref c.NoNumber)),some (.lst [.bl false,.bl false,.bl true,.bl false,.bl false,.bl false,.bl false,.bl false]),none]) rfl mN (.tail _ (.tail _ (.tail _ (.tail _ (.tail _ (.tail _ (.tail _ (.tail _ (.tail _ (.head _)))))))))) (qEU (i:=2) (j:=9) nd rfl rfl (by decide))) (qG8 (qDx (env:=[some (.exn (.ref c.NoNumber)),some (.lst [.bl false,.bl false,.bl true,.bl false,.bl false,.bl false,.bl false,.bl false]),none]) rfl mN (.tail _ (.tail _ (.tail _ (.tail _ (.tail _ (.tail _ (.tail _ (.tail _ (.tail _ (.tail _ (.head _))))))))))) (qEU (i:=2) (j:=10) nd rfl rfl (by decide))) rfl))) (by decide))).trans (c:=.ok (.lst [.bl false,.bl false,.bl true,.bl false,.bl false,.bl false,.bl false,.bl false,.bl false,.bl false,.bl false]) S) (by kernel_rfl!)) ?_))
 refine qA0 (qDy (b:=false) (S1:=S) (qZn (qZb (qUT (qZX (env:=[some (.exn (.ref c.NoNumber)),some (.lst [.bl false,.bl false,.bl true,.bl false,.bl false,.bl false,.bl false,.bl false,.bl false,.bl false,.bl false]),none]) rfl mN))) (by kernel_rfl!)) (qBm (env:=[some (.exn (.ref c.NoNumber)),some (.lst [.bl false,.bl false,.bl true,.bl false,.bl false,.bl false,.bl false,.bl false,.bl false,.bl false,.bl false]),none]) (S:=S) rfl ?_))
 refine qA0 (qDy (qUT (qDx (env:=[some (.exn (.ref c.NoNumber)),some (.lst [.bl false,.bl false,.bl true,.bl false,.bl false,.bl false,.bl false,.bl false,.bl false,.bl false,.bl false]),none]) rfl mN (.tail _ (.tail _ (.tail _ (.tail _ (.tail _ (.tail _ (.tail _ (.tail _ (.tail _ (.head _)))))))))) (qEU (i:=2) (j:=9) nd rfl rfl (by decide)))) (qBm (env:=[some (.exn (.ref c.NoNumber)),some (.lst [.bl false,.bl false,.bl true,.bl false,.bl false,.bl false,.bl false,.bl false,.bl false,.bl false,.bl false]),none]) (S:=S) rfl ?_))
 refine qA0 (qDy (qUT (qDx (env:=[some (.exn (.ref c.NoNumber)),some (.lst [.bl false,.bl false,.bl true,.bl false,.bl false,.bl false,.bl false,.bl false,.bl false,.bl false,.bl false]),none]) rfl mN (.tail _ (.tail _ (.tail _ (.tail _ (.tail _ (.tail _ (.tail _ (.tail _ (.tail _ (.tail _ (.head _))))))))))) (qEU (i:=2) (j:=10) nd rfl rfl (by decide)))) (qBm (env:=[some (.exn (.ref c.NoNumber)),some (.lst [.bl false,.bl false,.bl true,.bl false,.bl false,.bl false,.bl false,.bl false,.bl false,.bl false,.bl false]),none]) (S:=S) rfl ?_))
 exact qZ0 (d:=.str "number") (S:=S) (by kernel_rfl!) ⟨rfl,rfl⟩
end _K
end
section
namespace _K
open PySem _D
abbrev Pt:=Int × Int
noncomputable def ptD (p : Pt) : D:=.tup [.int p.1,.int p.2]
noncomputable def qAI (l : List Pt) : D:=.tup (l.map ptD)
noncomputable def far (p q : Pt) : Int:=(p.1 - q.1) * (p.1 - q.1) + (p.2 - q.2) * (p.2 - q.2)
noncomputable def qI5 (p : Pt) : Prop:=-2000 ≤ p.1 ∧ p.1 ≤ 2000 ∧ -2000 ≤ p.2 ∧ p.2 ≤ 2000
theorem qSQ (p : Pt) (S : Sto) : gIx (ptD p) (.int 0) S = .ok (.int p.1) S:=rfl
theorem qSR (p : Pt) (S : Sto) : gIx (ptD p) (.int 1) S = .ok (.int p.2) S:=rfl
theorem qZv (p q : Pt) (S : Sto) (hp : qI5 p) (hq : qI5 q) : qDG [ptD p,ptD q] S = .ok (.int (far p q)) S:=by
 obtain ⟨a1,a2,a3,a4⟩:=hp
 obtain ⟨b1,b2,b3,b4⟩:=hq
 have m1:=qFP (p.1 - q.1) (p.1 - q.1) S ⟨by omega,by omega⟩
 have m2:=qFP (p.2 - q.2) (p.2 - q.2) S ⟨by omega,by omega⟩
 rw [qGr]
 unfold qEO
 simp [qAT,qEM,qWC,qaq,qWB,qAc,sIf,qAs,qBQ,qB3,qBE,gNm,gSb,gTp,qBC,qDw,qNY,qUB,qRa,dC,qAD,d1,d2,qAA,qAF,qAM,qAO,dTr,qDt,qF9,qE1,qBN,qIE,qTV,qO4,qAu,qBK,qKY,dBm,dSl,qDe,qIg,qCr,qEa,Res.bind,Res.toS,_D.qGJ,_D.qDn,qKT,qar,qat,qay,qav,qaw,qax,qau,qap,qQd,qas,gLt,gLe,gGt,gGe,_D.qEb,qRJ,qSQ,qSR,m1,m2,qC6,far]
theorem qSt (p q : Pt) (S : Sto) (hp : qI5 p) (hq : qI5 q) : qB9 [ptD p,ptD q] S = .ok (.int (far p q)) S:=by
 obtain ⟨a1,a2,a3,a4⟩:=hp
 obtain ⟨b1,b2,b3,b4⟩:=hq
 have pw : ∀ i : Int,-4000 ≤ i → i ≤ 4000 → qHG (.int i) (.int 2) S = .ok (.int (i * i)) S:=fun i h1 h2 => by
  unfold qHG i2 qWw
  have : i.natAbs < 2 ^ 64:=by omega
  have e : i ^ (2 : Nat) = i * i:=by rw [Int.pow_succ,Int.pow_succ]; simp
  simp [this,e]
 rw [qJg]
 unfold qGX
 simp [qAT,qEM,qWC,qaq,qWB,qAc,sIf,qAs,qBQ,qB3,qBE,gNm,gSb,gTp,qBC,qDw,qNY,qUB,qRa,dC,qAD,d1,d2,qAA,qAF,qAM,qAO,dTr,qDt,qF9,qE1,qBN,qIE,qTV,qO4,qAu,qBK,qKY,dBm,dSl,qDe,qIg,qCr,qEa,Res.bind,Res.toS,_D.qGJ,_D.qDn,qKT,qar,qat,qay,qav,qaw,qax,qau,qap,qQd,qas,gLt,gLe,gGt,gGe,_D.qEb,qRJ,qSQ,qSR,pw (p.1 - q.1) (by omega) (by omega),pw (p.2 - q.2) (by omega) (by omega),qC6,far]
noncomputable def iD (n : Nat) : D:=.int (n : Int)
noncomputable def pt (x y : Nat) : Pt:=((x : Int),(y : Int))
noncomputable def qAj (w h : Nat) : List Pt:=(List.range w).flatMap fun (x : Nat) => (List.range h).map fun (y : Nat) => pt x y
theorem qJ4 (w h : Nat) : (qAj w h).length = w * h:=by
 unfold qAj
 induction w with
 | zero => simp
 | succ w ih => rw [List.range_succ,List.flatMap_append,List.length_append,ih]; simp [Nat.succ_mul]
theorem qNh {w h : Nat} {p : Pt} (m : p ∈ qAj w h) : 0 ≤ p.1 ∧ p.1 < w ∧ 0 ≤ p.2 ∧ p.2 < h:=by
 unfold qAj at m
 obtain ⟨x,hx,m⟩:=List.mem_flatMap.mp m
 obtain ⟨y,hy,rfl⟩:=List.mem_map.mp m
 simp at hx hy
 unfold pt
 refine ⟨?_,?_,?_,?_⟩ <;> dsimp only <;> omega
theorem qZz (n : Nat) (h : n ≤ 1000000) : qJa [.int (n : Int)] = some (qCy 0 (n : Int).toNat):=by
 unfold qJa
 have : -(2 ^ 62) ≤ (n : Int) ∧ (n : Int) < 2 ^ 62:=⟨by omega,by omega⟩
 exact if_pos this
theorem qUM (n : Nat) : qCy 0 (n : Int).toNat = (List.range n).map iD:=by
 unfold qCy
 rw [Int.toNat_natCast]
 congr 1
 funext i
 unfold iD
 rw [Int.zero_add]
theorem qWW (n : Nat) (h : n ≤ 1000000) : qJa [.int (n : Int)] = some ((List.range n).map iD):=by
 rw [qZz n h,qUM]
theorem qSx {β : Type} (b : β) (S : Sto) : _D.qDn (some b) S = .ok b S:=rfl
theorem qQc (f : DE) (n : Nat) (env : qAH) (S : Sto) (h : n ≤ 1000000) (e : f env S = .ok (.int (n : Int)) S) : qEa (qAA f qAF) env S = .ok ((List.range n).map iD) S:=by
 have e1 : qAA f qAF env S = .ok [.int (n : Int)] S:=by unfold qAA qAF; rw [e]; rfl
 unfold qEa
 rw [e1,Res.bind_ok,qWW n h,qSx]
theorem qPO (f : DE) (n : Nat) (env : qAH) (S : Sto) (h : n ≤ 1000000) (e : f env S = .ok (.int (n : Int)) S) : qDX (qEa (qAA f qAF)) env S = .ok (none,(List.range n).map iD) S:=by
 unfold qDX
 rw [qQc f n env S h e,Res.bind_ok]
theorem qC1 {α : Type} (l : List α) : l.filter (fun _ => true) = l:=by simp
theorem qQx (w h : Nat) (S : Sto) (hw : w ≤ 12) (hh : h ≤ 12) : qBo [.int (w : Int),.int (h : Int)] S = .ok (.lst ((qAj w h).map ptD)) S:=by
 have eq : ((List.range w).map iD).flatMap (fun d => (((List.range h).map iD).filter (fun _ => true)).map (fun e => D.tup [d,e])) = (qAj w h).map ptD:=by
  rw [List.flatMap_map]
  unfold qAj
  rw [List.map_flatMap]
  congr 1
  funext x
  rw [qC1,List.map_map,List.map_map]
  rfl
 have hl : ((qAj w h).map ptD).length ≤ lim:=by
  rw [List.length_map,qJ4]
  have : w * h ≤ 12 * 12:=Nat.mul_le_mul hw hh
  unfold lim
  omega
 have hc:=qW4 (cap:=[none,none,some 1]) (fi:=qDX (qEa (qAA (qAD 0) (qAF)))) (g:=gNm 0) (t:=qBN) (fi2:=qDX (qEa (qAA (qAD 2) (qAF)))) (g2:=gNm 1) (t2:=qBN) (fe:=qAu (qAA (qAD 0) (qAA (qAD 1) (qAF)))) (env:=[some (.int (w : Int)),some (.int (h : Int))]) (S:=S) (o:=none) (o2:=none) (items:=(List.range w).map iD)
  (qPO _ w _ S (by omega) rfl) trivial trivial (fun _ => (List.range h).map iD) (fun _ _ => true) (fun d e => D.tup [d,e]) (fun env => ∃ a b,env = [a,b,some (.int (h : Int))]) (fun d env => ∃ b,env = [some d,b,some (.int (h : Int))]) ⟨none,none,rfl⟩ (fun d env ⟨b,e⟩ => ⟨_,_,e⟩) (by rw [eq]; exact hl)
  (fun d hd env ⟨a,b,e⟩ => by
   subst e
   exact ⟨[some d,b,some (.int (h : Int))],rfl,⟨b,rfl⟩,rfl,qPO _ h _ S (by omega) rfl⟩)
  (fun d hd x hx env ⟨b,e⟩ => by
   subst e
   have l2 : 2 ≤ lim:=by decide
   exact ⟨[some d,some x,some (.int (h : Int))],rfl,⟨_,rfl⟩,rfl,fun _ => by simp [qAT,qEM,qWC,qaq,qWB,qAc,sIf,qAs,qBQ,qB3,qBE,gNm,gSb,gTp,qBC,qDw,qNY,qUB,qRa,dC,qAD,d1,d2,qAA,qAF,qAM,qAO,dTr,qDt,qF9,qE1,qBN,qIE,qTV,qO4,qAu,qBK,qKY,dBm,dSl,qDe,qIg,qCr,qEa,Res.bind,Res.toS,_D.qGJ,_D.qDn,qKT,qar,qat,qay,qav,qaw,qax,qau,qap,qQd,qas,gLt,gLe,gGt,gGe,_D.qEb,qRJ,l2]⟩)
 rw [eq] at hc
 rw [qGM]
 exact qGo rfl hc
theorem qR6 (h : Nat) (hh : 0 < h) : ∀ w : Nat,(List.range (w * h)).map (fun i => pt (i / h) (i % h)) = qAj w h:=by
 intro w
 induction w with
 | zero => simp [qAj]
 | succ w ih =>
  have e1 : qAj (w + 1) h = qAj w h ++ (List.range h).map fun y => pt w y:=by
   unfold qAj
   rw [List.range_succ,List.flatMap_append]
   simp
  rw [e1,← ih,Nat.succ_mul,List.range_add,List.map_append,List.map_map]
  congr 1
  apply List.map_congr_left
  intro y hy
  have hy : y < h:=List.mem_range.mp hy
  show pt ((w * h + y) / h) ((w * h + y) % h) = pt w y
  have e2 : (w * h + y) / h = w:=by rw [Nat.mul_comm,Nat.mul_add_div hh,Nat.div_eq_of_lt hy]; simp
  have e3 : (w * h + y) % h = y:=by rw [Nat.mul_comm,Nat.mul_add_mod,Nat.mod_eq_of_lt hy]
  rw [e2,e3]
theorem qWq (i j : Int) (S : Sto) (hj : 0 < j ∧ j ≤ 12) : qAu (qAA (d2 qGD (qAD 0) (qAD 1)) (qAA (d2 qGE (qAD 0) (qAD 1)) (qAF))) [some (.int i),some (.int j)] S = .ok (D.tup [.int (i / j),.int (i % j)]) S:=by
 have l2 : 2 ≤ lim:=by decide
 have d1:=qKa i j S ⟨by omega,by omega⟩
 have d2':=qGk i j S (by omega)
 simp [qAT,qEM,qWC,qaq,qWB,qAc,sIf,qAs,qBQ,qB3,qBE,gNm,gSb,gTp,qBC,qDw,qNY,qUB,qRa,dC,qAD,d1,d2,qAA,qAF,qAM,qAO,dTr,qDt,qF9,qE1,qBN,qIE,qTV,qO4,qAu,qBK,qKY,dBm,dSl,qDe,qIg,qCr,qEa,Res.bind,Res.toS,_D.qGJ,_D.qDn,qKT,qar,qat,qay,qav,qaw,qax,qau,qap,qQd,qas,gLt,gLe,gGt,gGe,_D.qEb,qRJ,l2,d1,d2']
theorem qU6 (w h : Nat) (S : Sto) (hwh : w * h ≤ 144) (hw : w ≤ 12) : qDX (qEa (qAA (d2 qCY (qAD 0) (qAD 1)) (qAF))) [some (.int (w : Int)),some (.int (h : Int))] S = .ok (none,(List.range (w * h)).map iD) S:=by
 have m1:=qFP (w : Int) (h : Int) S ⟨by omega,by omega⟩
 have e : (w : Int) * (h : Int) = ((w * h : Nat) : Int):=by push_cast; rfl
 rw [e] at m1
 refine qPO _ (w * h) _ S (by omega) ?_
 exact m1
theorem qPn (w h : Nat) (S : Sto) (hw : w ≤ 12) (hh : 0 < h ∧ h ≤ 12) : qCm [.int (w : Int),.int (h : Int)] S = .ok (.lst ((qAj w h).map ptD)) S:=by
 have hwh : w * h ≤ 144:=Nat.mul_le_mul hw hh.2
 have hc:=qRr (cap:=[none,some 1]) (g:=gNm 0) (t:=qBN) (fe:=qAu (qAA (d2 qGD (qAD 0) (qAD 1)) (qAA (d2 qGE (qAD 0) (qAD 1)) (qAF)))) (qU6 w h S hwh hw) trivial (fun _ => true) (fun d => match d with | .int i => D.tup [.int (i / h),.int (i % h)] | _ => .non) (fun env => ∃ a,env = [a,some (.int (h : Int))]) ⟨none,rfl⟩ (by simp; unfold lim; omega)
  (fun d hd env ⟨a,e⟩ => by
   subst e
   obtain ⟨i,_,rfl⟩:=List.mem_map.mp hd
   exact ⟨[some (iD i),some (.int (h : Int))],rfl,⟨_,rfl⟩,rfl,fun _ => qWq (i : Int) (h : Int) S ⟨by omega,by omega⟩⟩)
 have eq : (((List.range (w * h)).map iD).filter (fun _ => true)).map (fun d => match d with | .int i => D.tup [.int (i / h),.int (i % h)] | _ => .non) = (qAj w h).map ptD:=by
  rw [qC1,List.map_map,← qR6 h hh.1 w,List.map_map]
  apply List.map_congr_left
  intro i _
  show D.tup [.int ((i : Int) / h),.int ((i : Int) % h)] = ptD (pt (i / h) (i % h))
  unfold ptD pt
  simp
 rw [eq] at hc
 rw [qHo]
 exact qGo rfl hc
end _K
end
section
namespace _K
open PySem _D
theorem qO2 (xs : List D) (i : Nat) : qE0 xs (some ((i : Int) + 1)) none = xs.drop (i + 1):=by
 unfold qE0
 have e1 : _H.sIx xs.length 0 (some ((i : Int) + 1)) = min (i + 1) xs.length:=by
  have : ((i : Int) + 1) = ((i + 1 : Nat) : Int):=by omega
  rw [this,_H.sIx_nat]
 rw [e1,_H.sIx_none]
 by_cases h : i + 1 ≤ xs.length
 ·rw [Nat.min_eq_left h,List.take_of_length_le (by simp)]
 ·have : xs.drop (i + 1) = []:=List.drop_eq_nil_of_le (by omega)
  rw [this,Nat.min_eq_right (by omega)]
  simp
noncomputable def eL : Nat → List D → List D
 | _,[] => []
 | k,x :: xs => D.tup [.int (k : Int),x] :: eL (k + 1) xs
theorem qTm (xs : List D) : qER xs = eL 0 xs:=by
 have key : ∀ (xs : List D) (k : Nat),(xs.mapIdx fun i x => D.tup [.int ((i + k : Nat) : Int),x]) = eL k xs:=by
  intro xs
  induction xs with
  | nil => intro k; rfl
  | cons x xs ih =>
   intro k
   rw [List.mapIdx_cons]
   show _ :: _ = D.tup [.int (k : Int),x] :: eL (k + 1) xs
   congr 1
   ·simp
   ·rw [← ih (k + 1)]
    congr 1
    funext i y
    congr 4
    omega
 have:=key xs 0
 simpa [qER] using this
noncomputable def qAx : List Pt → List (Pt × Pt)
 | [] => []
 | p :: ps => ps.map (fun q => (p,q)) ++ qAx ps
noncomputable def qAq (x : Pt × Pt) : Int:=far x.1 x.2
noncomputable def fars (l : List Pt) : List Int:=(qAx l).map qAq
noncomputable def prD (x : Pt × Pt) : D:=.tup [ptD x.1,ptD x.2]
structure GI (n : Nat) (prs : List (Pt × Pt)) (kvs : List (_L.Key × D)) (S : Sto) : Prop where
 dict : S[n]? = some (.dct kvs)
 lists : ∀ kv ∈ kvs,∃ (f : Int) (j : Nat),kv = (.inl f,.loc j) ∧ n < j ∧ S[j]? = some (.lst ((prs.filter fun x => qAq x == f).map prD))
 nd : (kvs.map (·.2)).Nodup
 keys : kvs.map (·.1) = ((prs.map qAq).foldl PyProof.Rows.step_dedup []).map Sum.inl
set_option tactic.hygienic true in
theorem qUR {l : List Int} {k x : Int} : x ∈ PyProof.Rows.step_dedup l k ↔ x ∈ l ∨ x = k:=by
 unfold PyProof.Rows.step_dedup
 split
 ·rename_i h
  simp at h
  constructor
  ·exact fun z => .inl z
  ·rintro (z | rfl)
   ·exact z
   ·exact h
 ·simp
theorem qQ3 {l : List Int} {k : Int} (h : k ∈ l) : PyProof.Rows.step_dedup l k = l:=by
 unfold PyProof.Rows.step_dedup
 rw [if_pos (by simpa using h)]
theorem qP2 {l : List Int} {k : Int} (h : k ∉ l) : PyProof.Rows.step_dedup l k = l ++ [k]:=by
 unfold PyProof.Rows.step_dedup
 rw [if_neg (by simpa using h)]
theorem qJG {ks : List Int} : ∀ {l : List Int} {x : Int},x ∈ ks.foldl PyProof.Rows.step_dedup l ↔ x ∈ l ∨ x ∈ ks:=by
 induction ks with
 | nil => intro l x; simp
 | cons k ks ih =>
  intro l x
  rw [List.foldl_cons,ih,qUR,List.mem_cons]
  constructor
  ·rintro ((h | h) | h)
   ·exact .inl h
   ·exact .inr (.inl h)
   ·exact .inr (.inr h)
  ·rintro (h | h | h)
   ·exact .inl (.inl h)
   ·exact .inl (.inr h)
   ·exact .inr h
theorem qLJ {ks : List Int} : ∀ {l : List Int},(ks.foldl PyProof.Rows.step_dedup l).length ≤ l.length + ks.length:=by
 induction ks with
 | nil => intro l; simp
 | cons k ks ih =>
  intro l
  rw [List.foldl_cons]
  have h1:=ih (l:=PyProof.Rows.step_dedup l k)
  have h2 : (PyProof.Rows.step_dedup l k).length ≤ l.length + 1:=by
   unfold PyProof.Rows.step_dedup
   split <;> simp
  rw [List.length_cons]
  omega
theorem qUY {kvs : List (_L.Key × D)} {k : _L.Key} {d : D} (h : qDD kvs k = some d) : (k,d) ∈ kvs:=by
 unfold qDD at h
 obtain ⟨kv,h1,rfl⟩:=Option.map_eq_some_iff.mp h
 have h2:=List.find?_some h1
 have h3:=List.mem_of_find?_eq_some h1
 have h4 : kv.1 = k:=by simpa using h2
 subst h4
 exact h3
theorem qUX {kvs : List (_L.Key × D)} {k : _L.Key} (h : qDD kvs k = none) : ∀ kv ∈ kvs,kv.1 ≠ k:=by
 unfold qDD at h
 have h1:=Option.map_eq_none_iff.mp h
 intro kv hk e
 have:=List.find?_eq_none.mp h1 kv hk
 simp [e] at this
theorem qU0 {n : Nat} {kvs : List (_L.Key × D)} {S : Sto} {i x : D} {k : _L.Key} (hd : S[n]? = some (.dct kvs)) (hk : qE5 i = some k) : qCt (.loc n) [i,x] S = (match qDD kvs k with | some d => .ok d S | none => if kvs.length < lim then .ok x (S.set n (.dct (qEg kvs k x))) else .bad):=by
 show (match S[n]? with | some (.dct kvs) => (match qE5 i with | some k => (match qDD kvs k with | some d => Res.ok d S | none => if kvs.length < lim then .ok x (S.set n (.dct (qEg kvs k x))) else .bad) | none => .bad) | _ => .bad) = _
 rw [hd,hk]
theorem qWa {n : Nat} {kvs : List (_L.Key × D)} {S : Sto} {i x d : D} {k : _L.Key} (hd : S[n]? = some (.dct kvs)) (hk : qE5 i = some k) (hv : qDD kvs k = some d) : qCt (.loc n) [i,x] S = .ok d S:=by
 rw [qU0 hd hk,hv]
theorem qWZ {n : Nat} {kvs : List (_L.Key × D)} {S : Sto} {i x : D} {k : _L.Key} (hd : S[n]? = some (.dct kvs)) (hk : qE5 i = some k) (hv : qDD kvs k = none) (hl : kvs.length < lim) : qCt (.loc n) [i,x] S = .ok x (S.set n (.dct (qEg kvs k x))):=by
 rw [qU0 hd hk,hv]
 exact if_pos hl
theorem qSe {β γ : Type} {l : List β} {f : β → γ} (nd : (l.map f).Nodup) {x y : β} (hx : x ∈ l) (hy : y ∈ l) (e : f x = f y) : x = y:=by
 obtain ⟨a,ha,rfl⟩:=List.mem_iff_getElem.mp hx
 obtain ⟨b,hb,rfl⟩:=List.mem_iff_getElem.mp hy
 have : a = b:=(List.getElem_inj nd (h₀:=by simpa using ha) (h₁:=by simpa using hb)).mp (by simpa using e)
 subst this
 rfl
set_option tactic.hygienic true in
theorem qVg : ∀ (ks l : List Int),l.Nodup → (ks.foldl PyProof.Rows.step_dedup l).Nodup:=by
 intro ks
 induction ks with
 | nil => exact fun l h => h
 | cons k ks ih =>
  intro l h
  rw [List.foldl_cons]
  apply ih
  unfold PyProof.Rows.step_dedup
  split
  ·exact h
  ·rename_i hn
   rw [List.nodup_append]
   refine ⟨h,by simp,?_⟩
   intro a ha b hb hab
   simp at hb hn
   subst hb; subst hab
   exact hn ha
theorem qVu {kvs : List (_L.Key × D)} {ks : List Int} (h : kvs.map (·.1) = (ks.foldl PyProof.Rows.step_dedup []).map Sum.inl) : (kvs.map (·.1)).Nodup:=by
 rw [h,List.Nodup,List.pairwise_map]
 exact (qVg ks [] List.nodup_nil).imp fun hne e => hne (Sum.inl.inj e)
theorem qVj {n : Nat} {prs : List (Pt × Pt)} {kvs : List (_L.Key × D)} {S : Sto} (I : GI n prs kvs S) (x : Pt × Pt) (hl : prs.length < 4000) :
  ∃ (j : Nat) (S1 S2 : Sto) (kvs' : List (_L.Key × D)),qCt (.loc n) [.int (qAq x),.loc S.length] (S ++ [.lst []]) = .ok (.loc j) S1 ∧ tyD (.loc j) S1 = some "list" ∧ qBg (.loc j) [prD x] S1 = .ok .non S2 ∧ GI n (prs ++ [x]) kvs' S2 ∧ ∀ m,m < n → S2[m]? = S[m]?:=by
 have hnS : n < S.length:=(List.getElem?_eq_some_iff.mp I.dict).1
 have hd : (S ++ [MO.lst []])[n]? = some (.dct kvs):=by rw [List.getElem?_append_left hnS]; exact I.dict
 have hkl : kvs.length ≤ prs.length:=by
  have h1 : kvs.length = (kvs.map (·.1)).length:=by simp
  rw [h1,I.keys,List.length_map]
  have:=qLJ (ks:=prs.map qAq) (l:=[])
  simpa using this
 have hlim : kvs.length < lim:=by unfold lim; omega
 have jlt : ∀ {f : Int} {j : Nat},((Sum.inl f : _L.Key),D.loc j) ∈ kvs → n < j ∧ j < S.length ∧ S[j]? = some (.lst ((prs.filter fun x => qAq x == f).map prD)):=by
  intro f j hm
  obtain ⟨f',j',e,h1,h2⟩:=I.lists _ hm
  cases e
  exact ⟨h1,(List.getElem?_eq_some_iff.mp h2).1,h2⟩
 cases hv : qDD kvs (.inl (qAq x)) with
 | some d =>
  have hm:=qUY hv
  obtain ⟨f,j,e,h1,h2⟩:=I.lists _ hm
  have e1 : f = qAq x:=by
   have:=congrArg Prod.fst e
   exact (Sum.inl.inj this).symm
  have e2 : d = .loc j:=congrArg Prod.snd e
  subst e1; subst e2
  have hjS:=(List.getElem?_eq_some_iff.mp h2).1
  have h2' : (S ++ [MO.lst []])[j]? = some (.lst ((prs.filter fun y => qAq y == qAq x).map prD)):=by rw [List.getElem?_append_left hjS]; exact h2
  have hll : ((prs.filter fun y => qAq y == qAq x).map prD).length < lim:=by
   rw [List.length_map]
   have:=List.length_filter_le (fun y => qAq y == qAq x) prs
   unfold lim
   omega
  refine ⟨j,S ++ [MO.lst []],(S ++ [MO.lst []]).set j (.lst ((prs.filter fun y => qAq y == qAq x).map prD ++ [prD x])),kvs,?_,?_,?_,⟨?_,?_,I.nd,?_⟩,?_⟩
  ·exact qWa hd rfl hv
  ·exact qMY h2'
  ·exact qJ3 h2' hll _
  ·rw [List.getElem?_set_ne (by omega)]; exact hd
  ·intro kv hk
   obtain ⟨f',j',rfl,h3,h4⟩:=I.lists kv hk
   refine ⟨f',j',rfl,h3,?_⟩
   have hj':=(List.getElem?_eq_some_iff.mp h4).1
   by_cases hjj : j = j'
   ·subst hjj
    have hff : f' = qAq x:=Sum.inl.inj (congrArg Prod.fst (qSe (f:=(·.2)) I.nd hk hm rfl))
    subst hff
    rw [List.getElem?_set_self (by simp; omega)]
    rw [List.filter_append]
    simp
   ·rw [List.getElem?_set_ne hjj,List.getElem?_append_left hj',h4]
    have hne : (qAq x == f') = false:=by
     rw [beq_eq_false_iff_ne]
     rintro rfl
     exact hjj (D.loc.inj (congrArg Prod.snd (qSe (f:=(·.1)) (qVu I.keys) hm hk rfl)))
    rw [List.filter_append]
    simp [hne]
  ·rw [List.map_append,List.foldl_append]
   show _ = (PyProof.Rows.step_dedup ((prs.map qAq).foldl PyProof.Rows.step_dedup []) (qAq x)).map Sum.inl
   have hin : qAq x ∈ (prs.map qAq).foldl PyProof.Rows.step_dedup []:=by
    have : (Sum.inl (qAq x) : _L.Key) ∈ kvs.map (·.1):=List.mem_map.mpr ⟨_,hm,rfl⟩
    rw [I.keys] at this
    obtain ⟨y,hy,e⟩:=List.mem_map.mp this
    cases e
    exact hy
   rw [qQ3 hin]
   exact I.keys
  ·intro m hm
   rw [List.getElem?_set_ne (by omega),List.getElem?_append_left (by omega)]
 | none =>
  have hno:=qUX hv
  have hput : qEg kvs (.inl (qAq x)) (.loc S.length) = kvs ++ [(.inl (qAq x),.loc S.length)]:=by
   unfold qEg
   rw [if_neg]
   rw [List.any_eq_true]
   rintro ⟨kv,hk,e⟩
   exact hno kv hk (by simpa using e)
  have hfn : qAq x ∉ prs.map qAq:=by
   intro hin
   have : (Sum.inl (qAq x) : _L.Key) ∈ kvs.map (·.1):=by
    rw [I.keys]
    exact List.mem_map.mpr ⟨_,qJG.mpr (.inr hin),rfl⟩
   obtain ⟨kv,hk,e⟩:=List.mem_map.mp this
   exact hno kv hk e
  have hS1 : ((S ++ [MO.lst []]).set n (.dct (kvs ++ [(Sum.inl (qAq x),.loc S.length)])))[S.length]? = some (.lst []):=by
   rw [List.getElem?_set_ne (by omega)]
   simp
  refine ⟨S.length,(S ++ [MO.lst []]).set n (.dct (kvs ++ [(.inl (qAq x),.loc S.length)])),((S ++ [MO.lst []]).set n (.dct (kvs ++ [(.inl (qAq x),.loc S.length)]))).set S.length (.lst [prD x]),kvs ++ [(.inl (qAq x),.loc S.length)],?_,?_,?_,⟨?_,?_,?_,?_⟩,?_⟩
  ·rw [← hput]
   exact qWZ hd rfl hv hlim
  ·exact qMY hS1
  ·have : (0 : Nat) < lim:=by decide
   exact qJ3 hS1 this _
  ·rw [List.getElem?_set_ne (by omega),List.getElem?_set_self (by simp; omega)]
  ·intro kv hk
   rcases List.mem_append.mp hk with hk | hk
   ·obtain ⟨f',j',rfl,h3,h4⟩:=I.lists kv hk
    have hj':=(List.getElem?_eq_some_iff.mp h4).1
    refine ⟨f',j',rfl,h3,?_⟩
    rw [List.getElem?_set_ne (by omega),List.getElem?_set_ne (by omega),List.getElem?_append_left hj',h4]
    have hne : (qAq x == f') = false:=by
     rw [beq_eq_false_iff_ne]
     intro e
     exact hno _ hk (by rw [e])
    rw [List.filter_append]
    simp [hne]
   ·have : kv = (.inl (qAq x),.loc S.length):=by simpa using hk
    subst this
    refine ⟨qAq x,S.length,rfl,hnS,?_⟩
    rw [List.getElem?_set_self (by simp)]
    have : (prs.filter fun y => qAq y == qAq x) = []:=by
     rw [List.filter_eq_nil_iff]
     intro y hy e
     exact hfn (by rw [← (by simpa using e : qAq y = qAq x)]; exact List.mem_map.mpr ⟨y,hy,rfl⟩)
    rw [List.filter_append,this]
    simp
  ·rw [List.map_append,List.nodup_append]
   refine ⟨I.nd,by simp,?_⟩
   intro a ha b hb hab
   simp at hb
   subst hb
   subst hab
   obtain ⟨kv,hk,e⟩:=List.mem_map.mp ha
   obtain ⟨f',j',rfl,h3,h4⟩:=I.lists kv hk
   have hj':=(List.getElem?_eq_some_iff.mp h4).1
   have : j' = S.length:=D.loc.inj e
   omega
  ·rw [List.map_append,I.keys,List.map_append,List.foldl_append]
   show _ = (PyProof.Rows.step_dedup ((prs.map qAq).foldl PyProof.Rows.step_dedup []) (qAq x)).map Sum.inl
   have hin : qAq x ∉ (prs.map qAq).foldl PyProof.Rows.step_dedup []:=by
    intro h
    rcases qJG.mp h with h | h
    ·simp at h
    ·exact hfn h
   rw [qP2 hin,List.map_append]
   rfl
  ·intro m hm
   rw [List.getElem?_set_ne (by omega),List.getElem?_set_ne (by omega),List.getElem?_append_left (by omega)]
end _K
end
section
namespace _K
open PySem _D
theorem qOi (l : List Pt) : (qAx l).length ≤ l.length * l.length:=by
 induction l with
 | nil => simp [qAx]
 | cons p l ih =>
  have e : (p :: l).length * (p :: l).length = l.length * l.length + l.length + l.length + 1:=by
   simp only [List.length_cons,Nat.add_mul,Nat.mul_add]
   omega
  rw [e]
  simp only [qAx,List.length_append,List.length_map]
  omega
theorem qYe {S S' : Sto} (h : ∀ m,m < S.length → S'[m]? = S[m]?) : S <+: S':=by
 rw [List.prefix_iff_getElem?]
 intro i hi
 rw [h i hi,List.getElem?_eq_getElem hi]
theorem qK8 {l : List Pt} {x : Pt × Pt} (h : x ∈ qAx l) : x.1 ∈ l ∧ x.2 ∈ l:=by
 induction l with
 | nil => simp [qAx] at h
 | cons p l ih =>
  simp only [qAx,List.mem_append,List.mem_map] at h
  rcases h with ⟨q,hq,rfl⟩ | h
  ·exact ⟨List.mem_cons_self ..,List.mem_cons_of_mem _ hq⟩
  ·exact ⟨List.mem_cons_of_mem _ (ih h).1,List.mem_cons_of_mem _ (ih h).2⟩
theorem qMH {l : List Pt} (h : l.length ≤ 41) : (qAx l).length < 4000:=by
 have h1:=qOi l
 have h2 : l.length * l.length ≤ 41 * 41:=Nat.mul_le_mul h h
 omega
inductive IvG1 (l : List Pt) (S : Sto) (ds : List D) (env : qAH) (S' : Sto) : Prop
 | mk (i : Nat) (e2 e3 e4 : Option D) (done : List (Pt × Pt)) (kvs : List (_L.Key × D)) (h_0 : env = [some (qAI l),some (.loc S.length),e2,e3,e4]) (h_1 : ds = eL i ((l.drop i).map ptD)) (h_2 : GI S.length done kvs S') (h_3 : done ++ qAx (l.drop i) = qAx l) (h_4 : ∀ m,m < S.length → S'[m]? = S[m]?) : IvG1 l S ds env S'
inductive IvG2 (l : List Pt) (S : Sto) (i : Nat) (p : Pt) (rest : List Pt) (ds : List D) (env : qAH) (S' : Sto) : Prop
 | mk (r : List Pt) (e4 : Option D) (done : List (Pt × Pt)) (kvs : List (_L.Key × D)) (h_0 : env = [some (qAI l),some (.loc S.length),some (.int (i : Int)),some (ptD p),e4]) (h_1 : ds = r.map ptD) (h_2 : (∀ q ∈ r,q ∈ l)) (h_3 : GI S.length done kvs S') (h_4 : done ++ (r.map (fun q => (p,q)) ++ qAx rest) = qAx l) (h_5 : ∀ m,m < S.length → S'[m]? = S[m]?) : IvG2 l S i p rest ds env S'
theorem qWU (l : List Pt) (S : Sto) (hok : ∀ p ∈ l,qI5 p) (hl : l.length ≤ 41) : ∃ (kvs : List (_L.Key × D)) (S' : Sto),qCG [qAI l] S = .ok (.loc S.length) S' ∧ GI S.length (qAx l) kvs S' ∧ ∀ m,m < S.length → S'[m]? = S[m]?:=by
 have key : Rt (qCp [some (qAI l),none,none,none,none] S) fun d S' => d = .loc S.length ∧ ∃ kvs,GI S.length (qAx l) kvs S' ∧ ∀ m,m < S.length → S'[m]? = S[m]?:=by
  unfold qCp
  refine qA0 (qBZ (qA5 rfl ?_))
  refine qA0 (qEJ (ds:=qER (l.map ptD)) (S1:=S ++ [.dct []]) rfl ?_)
  refine qDP (IvG1 l S) ?_ ?_ ?_
  ·rintro d ds env S' ⟨i,e2,e3,e4,done,kvs,rfl,hds,G,hall,hpre⟩
   cases hdr : l.drop i with
   | nil => rw [hdr] at hds; cases hds
   | cons p rest =>
    rw [hdr] at hds hall
    simp only [List.map_cons,eL] at hds
    injection hds with h1 h2
    subst h1 h2
    have hrest : l.drop (i + 1) = rest:=by
     have:=congrArg List.tail hdr
     simpa [List.tail_drop] using this
    have hmem : ∀ q ∈ p :: rest,q ∈ l:=fun q hq => List.mem_of_mem_drop (hdr ▸ hq)
    refine ⟨[some (qAI l),some (.loc S.length),some (.int (i : Int)),some (ptD p),e4],S',rfl,?_⟩
    have hsl : qCr (dSl (qAD 0) (qDe (d2 qA4 (qAD 2) (dC (.int 1)))) (qIg)) [some (qAI l),some (.loc S.length),some (.int (i : Int)),some (ptD p),e4] S' = .ok (rest.map ptD) S':=by
     have e1 : gSl (qAI l) (some ((i : Int) + 1)) none S' = .ok (.tup (rest.map ptD)) S':=by
      show Res.ok (D.tup (qE0 (l.map ptD) (some ((i : Int) + 1)) none)) S' = _
      rw [qO2,← List.map_drop,hrest]
     simp [qAT,qEM,qWC,qaq,qWB,qAc,sIf,qAs,qBQ,qB3,qBE,gNm,gSb,gTp,qBC,qDw,qNY,qUB,qRa,dC,qAD,d1,d2,qAA,qAF,qAM,qAO,dTr,qDt,qF9,qE1,qBN,qIE,qTV,qO4,qAu,qBK,qKY,dBm,dSl,qDe,qIg,qCr,qEa,Res.bind,Res.toS,_D.qGJ,_D.qDn,qKT,qar,qat,qay,qav,qaw,qax,qau,qap,qQd,qas,gLt,gLe,gGt,gGe,_D.qEb,qRJ,qC6,e1]
    refine qEJ hsl ?_
    refine qDP (IvG2 l S i p rest) ?_ ?_ ?_
    ·rintro d ds env S' ⟨r,e4,done,kvs,rfl,hds,hr,G,hall,hpre⟩
     cases r with
     | nil => cases hds
     | cons q r =>
      injection hds with h1 h2
      subst h1 h2
      have hdl : done.length < 4000:=by
       have:=congrArg List.length hall
       have h3:=qMH hl
       simp only [List.length_append] at this
       omega
      obtain ⟨j,S1,S2,kvs',f1,f2,f3,G',hp'⟩:=qVj G (p,q) hdl
      refine ⟨[some (qAI l),some (.loc S.length),some (.int (i : Int)),some (ptD p),some (ptD q)],S',rfl,?_⟩
      refine qIv ?_
      have hfar:=qZv p q S' (hok p (hmem p (List.mem_cons_self ..))) (hok q (hr q (List.mem_cons_self ..)))
      have hty : tyD (.loc S.length) S' = some "dict":=qS9 G.dict
      have l2 : 2 ≤ lim:=by decide
      have l0 : 0 ≤ lim:=by decide
      have f1' : qCt (.loc S.length) [.int (far p q),.loc S'.length] (S' ++ [MO.lst []]) = .ok (.loc j) S1:=f1
      have f3' : qBg (.loc j) [.tup [ptD p,ptD q]] S1 = .ok .non S2:=f3
      refine qA5 (d:=.non) (S:=S2) ?_ ?_
      ·simp [qAT,qEM,qWC,qaq,qWB,qAc,sIf,qAs,qBQ,qB3,qBE,gNm,gSb,gTp,qBC,qDw,qNY,qUB,qRa,dC,qAD,d1,d2,qAA,qAF,qAM,qAO,dTr,qDt,qF9,qE1,qBN,qIE,qTV,qO4,qAu,qBK,qKY,dBm,dSl,qDe,qIg,qCr,qEa,Res.bind,Res.toS,_D.qGJ,_D.qDn,qKT,qar,qat,qay,qav,qaw,qax,qau,qap,qQd,qas,gLt,gLe,gGt,gGe,_D.qEb,qRJ,hfar,hty,l2,l0,f1',f2,f3']
      ·refine ⟨r,_,done ++ [(p,q)],kvs',rfl,rfl,fun q' hq => hr q' (List.mem_cons_of_mem _ hq),G',?_,fun m hm => (hp' m hm).trans (hpre m hm)⟩
       rw [← hall]
       simp
    ·rintro env S' ⟨r,e4,done,kvs,rfl,hds,hr,G,hall,hpre⟩
     cases r with
     | cons _ _ => cases hds
     | nil =>
      refine ⟨i + 1,_,_,_,done,kvs,rfl,?_,G,?_,hpre⟩
      ·rw [hrest]
      ·rw [hrest]; simpa using hall
    ·exact ⟨rest,e4,done,kvs,rfl,rfl,fun q hq => hmem q (List.mem_cons_of_mem _ hq),G,by simpa [qAx] using hall,hpre⟩
  ·rintro env S' ⟨i,e2,e3,e4,done,kvs,rfl,hds,G,hall,hpre⟩
   refine qF4 (qA5 rfl ⟨rfl,kvs,?_,hpre⟩)
   cases hdr : l.drop i with
   | cons _ _ => rw [hdr] at hds; cases hds
   | nil =>
    rw [hdr] at hall
    have : done = qAx l:=by simpa [qAx] using hall
    rw [← this]
    exact G
  ·refine ⟨0,none,none,none,[],[],rfl,?_,⟨?_,?_,List.nodup_nil,rfl⟩,rfl,?_⟩
   ·rw [qTm]; rfl
   ·simp
   ·intro kv hk; simp at hk
   ·intro m hm; rw [List.getElem?_append_left hm]
 obtain ⟨d,S',e,rfl,kvs,G,hp⟩:=key
 exact ⟨kvs,S',by rw [qGO]; exact qEL rfl e,G,hp⟩
noncomputable def unl (l : List Pt) : Bool:=decide (fars l).Nodup
theorem qRs (ks : List Int) : ks.Nodup ↔ ∀ k ∈ ks,(ks.filter fun x => x == k).length = 1:=by
 induction ks with
 | nil => simp
 | cons a ks ih =>
  rw [List.nodup_cons,ih]
  constructor
  ·rintro ⟨h1,h2⟩ k hk
   rw [List.filter_cons]
   by_cases e : a = k
   ·subst e
    have : ks.filter (fun x => x == a) = []:=by
     rw [List.filter_eq_nil_iff]
     intro y hy z
     have : y = a:=by simpa using z
     subst this
     exact h1 hy
    simp [this]
   ·rcases List.mem_cons.mp hk with z | z
    ·exact absurd z.symm e
    ·have : (a == k) = false:=by simpa using e
     simp only [this,Bool.false_eq_true,if_false]
     exact h2 k z
  ·intro h
   have ha:=h a (List.mem_cons_self ..)
   rw [List.filter_cons] at ha
   simp only [beq_self_eq_true,if_true,List.length_cons] at ha
   have h0 : ks.filter (fun x => x == a) = []:=List.length_eq_zero_iff.mp (by omega)
   have hn : a ∉ ks:=by
    intro hm
    have:=List.filter_eq_nil_iff.mp h0 a hm
    simp at this
   refine ⟨hn,fun k hk => ?_⟩
   have:=h k (List.mem_cons_of_mem _ hk)
   rw [List.filter_cons] at this
   have hne : (a == k) = false:=by
    rw [beq_eq_false_iff_ne]
    rintro rfl
    exact hn hk
   simpa [hne] using this
theorem qPJ (prs : List (Pt × Pt)) (f : Int) : (prs.filter fun x => qAq x == f).length = ((prs.map qAq).filter fun x => x == f).length:=by
 rw [List.filter_map,List.length_map]
 rfl
theorem qQl {S : Sto} {j : Nat} {xs : List D} (h : S[j]? = some (.lst xs)) : qA3 [.loc j] S = .ok (.int xs.length) S:=by
 show (match (match S[j]? with | some (.lst xs) => some xs.length | _ => none : Option Nat) with | some n => Res.ok (D.int n) S | none => .bad) = _
 rw [h]
theorem qRm (bs : List Bool) : qCW (bs.map D.bl) = some bs:=by
 induction bs with
 | nil => rfl
 | cons b bs ih => exact congrArg (Option.map (b :: ·)) ih
theorem qPo (l : List Pt) (S : Sto) (hok : ∀ p ∈ l,qI5 p) (hl : l.length ≤ 41) : ∃ S',qBu [qAI l] S = .ok (.bl (unl l)) S' ∧ S <+: S':=by
 obtain ⟨kvs,S1,e1,G,hp⟩:=qWU l S hok hl
 have hpre : S <+: S1.set S.length .dead:=qYe fun m hm => by rw [List.getElem?_set_ne (by omega)]; exact hp m hm
 have hi : qDX (qLt (qAO 1 qCG (qAA (qAD 0) (qAF)))) [some (qAI l)] S = .ok (none,kvs.map (·.2)) (S1.set S.length .dead):=by
  unfold qDX qLt
  simp [qAT,qEM,qWC,qaq,qWB,qAc,sIf,qAs,qBQ,qB3,qBE,gNm,gSb,gTp,qBC,qDw,qNY,qUB,qRa,dC,qAD,d1,d2,qAA,qAF,qAM,qAO,dTr,qDt,qF9,qE1,qBN,qIE,qTV,qO4,qAu,qBK,qKY,dBm,dSl,qDe,qIg,qCr,qEa,Res.bind,Res.toS,_D.qGJ,_D.qDn,qKT,qar,qat,qay,qav,qaw,qax,qau,qap,qQd,qas,gLt,gLe,gGt,gGe,_D.qEb,qRJ,e1,G.dict]
 have hkl : kvs.length ≤ lim:=by
  have h1 : kvs.length = (kvs.map (·.1)).length:=by simp
  rw [h1,G.keys,List.length_map]
  have:=qLJ (ks:=(qAx l).map qAq) (l:=[])
  have h3:=qMH hl
  simp at this
  unfold lim
  omega
 let sz : D → Nat:=fun d => match d with
  | .loc j => match (S1.set S.length MO.dead)[j]? with
   | some (.lst xs) => xs.length
   | _ => 0
  | _ => 0
 have hsz : ∀ d ∈ kvs.map (·.2),qA3 [d] (S1.set S.length .dead) = .ok (.int (sz d)) (S1.set S.length .dead):=fun d hd => by
  obtain ⟨kv,hk,rfl⟩:=List.mem_map.mp hd
  obtain ⟨f,j,rfl,h1,h2⟩:=G.lists kv hk
  have : (S1.set S.length MO.dead)[j]? = some (.lst (((qAx l).filter fun x => qAq x == f).map prD)):=by rw [List.getElem?_set_ne (by omega)]; exact h2
  have e : sz (.loc j) = (((qAx l).filter fun x => qAq x == f).map prD).length:=by
   show (match (S1.set S.length MO.dead)[j]? with | some (.lst xs) => xs.length | _ => 0) = _
   rw [this]
  exact (qQl this).trans (by rw [e])
 have hc:=qZD (cap:=[none]) (g:=gNm 0) (t:=qBN) (fe:=d2 gEq (qAM qA3 (qAA (qAD 0) (qAF))) (dC (.int 1))) hi trivial (fun _ => true) (fun d => .bl (decide ((sz d : Int) = 1))) (fun env => ∃ a,env = [a]) ⟨none,rfl⟩ (by rw [List.length_map]; exact hkl)
  (fun d hd env S' ⟨a,e⟩ hpr => by
   subst e
   refine ⟨[some d],S',rfl,⟨_,rfl⟩,rfl,List.prefix_refl _,fun _ => ⟨S',?_,List.prefix_refl _⟩⟩
   have h3 : qA3 [d] S' = .ok (.int (sz d)) S':=by
    obtain ⟨kv,hk,rfl⟩:=List.mem_map.mp hd
    obtain ⟨f,j,rfl,h1,h2⟩:=G.lists kv hk
    have h4 : (S1.set S.length MO.dead)[j]? = some (.lst (((qAx l).filter fun x => qAq x == f).map prD)):=by rw [List.getElem?_set_ne (by omega)]; exact h2
    have h5:=qKb h4 hpr
    have e : sz (.loc j) = (((qAx l).filter fun x => qAq x == f).map prD).length:=by
     show (match (S1.set S.length MO.dead)[j]? with | some (.lst xs) => xs.length | _ => 0) = _
     rw [h4]
    exact (qQl h5).trans (by rw [e])
   simp [qAT,qEM,qWC,qaq,qWB,qAc,sIf,qAs,qBQ,qB3,qBE,gNm,gSb,gTp,qBC,qDw,qNY,qUB,qRa,dC,qAD,d1,d2,qAA,qAF,qAM,qAO,dTr,qDt,qF9,qE1,qBN,qIE,qTV,qO4,qAu,qBK,qKY,dBm,dSl,qDe,qIg,qCr,qEa,Res.bind,Res.toS,_D.qGJ,_D.qDn,qKT,qar,qat,qay,qav,qaw,qax,qau,qap,qQd,qas,gLt,gLe,gGt,gGe,_D.qEb,qRJ,h3,qIi])
 obtain ⟨S',ec,hpr⟩:=hc
 refine ⟨S',?_,hpre.trans hpr⟩
 rw [qC1] at ec
 have eb : ((kvs.map (·.2)).map fun d => D.bl (decide ((sz d : Int) = 1))) = ((kvs.map (·.2)).map fun d => decide ((sz d : Int) = 1)).map D.bl:=by simp only [List.map_map,Function.comp_def]
 rw [eb] at ec
 have hall : qM8 false [.lst (((kvs.map (·.2)).map fun d => decide ((sz d : Int) = 1)).map D.bl)] S' = .ok (.bl (unl l)) S':=by
  have e3 : (((kvs.map (·.2)).map fun d => decide ((sz d : Int) = 1)).all id) = unl l:=by
   rw [Bool.eq_iff_iff,List.all_eq_true]
   unfold unl fars
   rw [decide_eq_true_eq,qRs]
   constructor
   ·intro h k hk
    have hkey : (Sum.inl k : _L.Key) ∈ kvs.map (·.1):=by
     rw [G.keys]
     exact List.mem_map.mpr ⟨k,qJG.mpr (.inr hk),rfl⟩
    obtain ⟨kv,hkv,ek⟩:=List.mem_map.mp hkey
    obtain ⟨f,j,rfl,h1,h2⟩:=G.lists kv hkv
    cases ek
    have h4 : (S1.set S.length MO.dead)[j]? = some (.lst (((qAx l).filter fun x => qAq x == k).map prD)):=by rw [List.getElem?_set_ne (by omega)]; exact h2
    have h5:=h (decide ((sz (.loc j) : Int) = 1)) (List.mem_map.mpr ⟨.loc j,List.mem_map.mpr ⟨_,hkv,rfl⟩,rfl⟩)
    have h6 : (sz (.loc j) : Int) = 1:=by simpa using h5
    have h7 : sz (.loc j) = ((qAx l).filter fun x => qAq x == k).length:=by simp [sz,h4]
    rw [← qPJ]
    omega
   ·intro h b hb
    obtain ⟨d,hd,rfl⟩:=List.mem_map.mp hb
    obtain ⟨kv,hkv,rfl⟩:=List.mem_map.mp hd
    obtain ⟨f,j,rfl,h1,h2⟩:=G.lists kv hkv
    have h4 : (S1.set S.length MO.dead)[j]? = some (.lst (((qAx l).filter fun x => qAq x == f).map prD)):=by rw [List.getElem?_set_ne (by omega)]; exact h2
    have h7 : sz (.loc j) = ((qAx l).filter fun x => qAq x == f).length:=by simp [sz,h4]
    have hf : f ∈ (qAx l).map qAq:=by
     have : (Sum.inl f : _L.Key) ∈ kvs.map (·.1):=List.mem_map.mpr ⟨_,hkv,rfl⟩
     rw [G.keys] at this
     obtain ⟨y,hy,e⟩:=List.mem_map.mp this
     cases e
     rcases qJG.mp hy with z | z
     ·simp at z
     ·exact z
    have:=h f hf
    rw [← qPJ] at this
    have h8 : (sz (.loc j) : Int) = 1:=by omega
    simp [h8]
  have hb:=qRm ((kvs.map (·.2)).map fun d => decide ((sz d : Int) = 1))
  simp only [qM8,qQd,Option.bind_some,hb,Bool.false_eq_true,if_false,e3]
 generalize ((kvs.map (·.2)).map fun d => decide ((sz d : Int) = 1)).map D.bl = ds at ec hall
 rw [qHs]
 unfold qEv
 refine qGo rfl ?_
 simp [qAT,qEM,qWC,qaq,qWB,qAc,sIf,qAs,qBQ,qB3,qBE,gNm,gSb,gTp,qBC,qDw,qNY,qUB,qRa,dC,qAD,d1,d2,qAA,qAF,qAM,qAO,dTr,qDt,qF9,qE1,qBN,qIE,qTV,qO4,qAu,qBK,qKY,dBm,dSl,qDe,qIg,qCr,qEa,Res.bind,Res.toS,_D.qGJ,_D.qDn,qKT,qar,qat,qay,qav,qaw,qax,qau,qap,qQd,qas,gLt,gLe,gGt,gGe,_D.qEb,qRJ,ec,hall]
end _K
end
section
namespace _K
open PySem _D
theorem qRi (xs : List D) (i : Nat) (d : D) (h : xs[i]? = some d) : _L.atI xs (i : Int) = some d:=by
 have hl:=(List.getElem?_eq_some_iff.mp h).1
 have e : _L.ixN xs.length (i : Int) = some i:=by
  unfold _L.ixN
  have : (0 : Int) ≤ (i : Int) ∧ (i : Int) < xs.length:=⟨by omega,by omega⟩
  simp [hl]
 unfold _L.atI
 rw [e]
 exact h
inductive IvP (l : List Pt) (S : Sto) (ds : List D) (env : qAH) (S' : Sto) : Prop
 | mk (i : Nat) (e2 : Option D) (done : List (Pt × Pt)) (h_0 : S' = S) (h_1 : env = [some (qAI l),some (.lst (done.map prD)),e2]) (h_2 : ds = (List.range' i (l.length - i)).map iD) (h_3 : done ++ qAx (l.drop i) = qAx l) : IvP l S ds env S'
theorem qUL (l : List Pt) (S : Sto) (hl : l.length ≤ 41) : qCo [qAI l] S = .ok (.lst ((qAx l).map prD)) S:=by
 have key : Rt (qDa [some (qAI l),none,none] S) fun d S' => d = .lst ((qAx l).map prD) ∧ S' = S:=by
  unfold qDa
  have l0 : 0 ≤ lim:=by decide
  refine qA0 (qBZ (qA5 (d:=.lst []) (S:=S) (by simp [qAT,qEM,qWC,qaq,qWB,qAc,sIf,qAs,qBQ,qB3,qBE,gNm,gSb,gTp,qBC,qDw,qNY,qUB,qRa,dC,qAD,d1,d2,qAA,qAF,qAM,qAO,dTr,qDt,qF9,qE1,qBN,qIE,qTV,qO4,qAu,qBK,qKY,dBm,dSl,qDe,qIg,qCr,qEa,Res.bind,Res.toS,_D.qGJ,_D.qDn,qKT,qar,qat,qay,qav,qaw,qax,qau,qap,qQd,qas,gLt,gLe,gGt,gGe,_D.qEb,qRJ,l0]) ?_))
  have hr : qEa (qAA (qAM qA3 (qAA (qAD 0) (qAF))) (qAF)) [some (qAI l),some (.lst []),none] S = .ok ((List.range l.length).map iD) S:=by
   refine qQc _ l.length _ S (by omega) ?_
   have : qA3 [qAI l] S = .ok (.int (l.length : Int)) S:=by unfold qAI; rw [qLS,List.length_map]
   simp [qAT,qEM,qWC,qaq,qWB,qAc,sIf,qAs,qBQ,qB3,qBE,gNm,gSb,gTp,qBC,qDw,qNY,qUB,qRa,dC,qAD,d1,d2,qAA,qAF,qAM,qAO,dTr,qDt,qF9,qE1,qBN,qIE,qTV,qO4,qAu,qBK,qKY,dBm,dSl,qDe,qIg,qCr,qEa,Res.bind,Res.toS,_D.qGJ,_D.qDn,qKT,qar,qat,qay,qav,qaw,qax,qau,qap,qQd,qas,gLt,gLe,gGt,gGe,_D.qEb,qRJ,this]
  refine qA0 (qEJ hr ?_)
  refine qDP (IvP l S) ?_ ?_ ?_
  ·rintro d ds env S' ⟨i,e2,done,rfl,rfl,hds,hall⟩
   by_cases hi : i < l.length
   ·have hr' : List.range' i (l.length - i) = i :: List.range' (i + 1) (l.length - (i + 1)):=by
     have : l.length - i = (l.length - (i + 1)) + 1:=by omega
     rw [this,List.range'_succ]
    rw [hr',List.map_cons] at hds
    injection hds with h1 h2
    subst h1 h2
    have hdr : l.drop i = l[i] :: l.drop (i + 1):=List.drop_eq_getElem_cons hi
    refine ⟨[some (qAI l),some (.lst (done.map prD)),some (.int (i : Int))],S',rfl,?_⟩
    have hsl : gSl (qAI l) (some ((i : Int) + 1)) none S' = .ok (.tup ((l.drop (i + 1)).map ptD)) S':=by
     show Res.ok (D.tup (qE0 (l.map ptD) (some ((i : Int) + 1)) none)) S' = _
     rw [qO2,← List.map_drop]
    have hit : dIt (dSl (qAD 0) (qDe (d2 qA4 (qAD 2) (dC (.int 1)))) (qIg)) [some (qAI l),some (.lst (done.map prD)),some (.int (i : Int))] S' = .ok (none,(l.drop (i + 1)).map ptD) S':=by
     unfold dIt
     simp [qAT,qEM,qWC,qaq,qWB,qAc,sIf,qAs,qBQ,qB3,qBE,gNm,gSb,gTp,qBC,qDw,qNY,qUB,qRa,dC,qAD,d1,d2,qAA,qAF,qAM,qAO,dTr,qDt,qF9,qE1,qBN,qIE,qTV,qO4,qAu,qBK,qKY,dBm,dSl,qDe,qIg,qCr,qEa,Res.bind,Res.toS,_D.qGJ,_D.qDn,qKT,qar,qat,qay,qav,qaw,qax,qau,qap,qQd,qas,gLt,gLe,gGt,gGe,_D.qEb,qRJ,qC6,hsl,itD]
    have hix : gIx (qAI l) (.int (i : Int)) S' = .ok (ptD l[i]) S':=by
     have : _L.atI (l.map ptD) (i : Int) = some (ptD l[i]):=qRi _ i _ (by simp [hi])
     show _D.qDn (_L.atI (l.map ptD) (i : Int)) S' = _
     rw [this]
     rfl
    have hc:=qRr (cap:=[none,some 2,some 0]) (g:=gNm 0) (t:=qBN) (fe:=qAu (qAA (d2 gIx (qAD 2) (qAD 1)) (qAA (qAD 0) (qAF)))) hit trivial (fun _ => true) (fun d => D.tup [ptD l[i],d]) (fun env => ∃ a,env = [a,some (.int (i : Int)),some (qAI l)]) ⟨none,rfl⟩ (by simp; unfold lim; omega)
     (fun d hd env ⟨a,e⟩ => by
      subst e
      refine ⟨[some d,some (.int (i : Int)),some (qAI l)],rfl,⟨_,rfl⟩,rfl,fun _ => ?_⟩
      have l2 : 2 ≤ lim:=by decide
      simp [qAT,qEM,qWC,qaq,qWB,qAc,sIf,qAs,qBQ,qB3,qBE,gNm,gSb,gTp,qBC,qDw,qNY,qUB,qRa,dC,qAD,d1,d2,qAA,qAF,qAM,qAO,dTr,qDt,qF9,qE1,qBN,qIE,qTV,qO4,qAu,qBK,qKY,dBm,dSl,qDe,qIg,qCr,qEa,Res.bind,Res.toS,_D.qGJ,_D.qDn,qKT,qar,qat,qay,qav,qaw,qax,qau,qap,qQd,qas,gLt,gLe,gGt,gGe,_D.qEb,qRJ,hix,l2])
    rw [qC1] at hc
    have eq : ((l.drop (i + 1)).map ptD).map (fun d => D.tup [ptD l[i],d]) = ((l.drop (i + 1)).map fun q => (l[i],q)).map prD:=by simp [prD,Function.comp_def]
    rw [eq] at hc
    have hlen : (done.map prD).length + (((l.drop (i + 1)).map fun q => (l[i],q)).map prD).length ≤ lim:=by
     have h3:=qMH hl
     have h4:=congrArg List.length hall
     rw [hdr] at h4
     simp only [qAx,List.length_append,List.length_map] at h4 ⊢
     unfold lim
     omega
    have hadd : qA4 (.lst (done.map prD)) (.lst (((l.drop (i + 1)).map fun q => (l[i],q)).map prD)) S' = .ok (.lst ((done ++ (l.drop (i + 1)).map fun q => (l[i],q)).map prD)) S':=by
     rw [List.map_append]
     exact qLK hlen S'
    refine qBZ (qA5 (d:=.lst ((done ++ (l.drop (i + 1)).map fun q => (l[i],q)).map prD)) (S:=S') ?_ ?_)
    ·simp only [d2,qAD,List.getElem?_cons_zero,List.getElem?_cons_succ,Res.bind,hc,hadd]
    ·refine ⟨i + 1,_,_,rfl,rfl,rfl,?_⟩
     rw [← hall,hdr]
     simp [qAx]
   ·have : l.length - i = 0:=by omega
    rw [this] at hds
    cases hds
  ·rintro env S' ⟨i,e2,done,rfl,rfl,hds,hall⟩
   by_cases hi : i < l.length
   ·have hr' : List.range' i (l.length - i) = i :: List.range' (i + 1) (l.length - (i + 1)):=by
     have : l.length - i = (l.length - (i + 1)) + 1:=by omega
     rw [this,List.range'_succ]
    rw [hr'] at hds
    cases hds
   ·have : l.drop i = []:=List.drop_eq_nil_of_le (by omega)
    rw [this] at hall
    have : done = qAx l:=by simpa [qAx] using hall
    subst this
    exact qF4 (qA5 rfl ⟨rfl,rfl⟩)
  ·exact ⟨0,none,[],rfl,rfl,by simp [List.range_eq_range'],rfl⟩
 obtain ⟨d,S',e,rfl,rfl⟩:=key
 rw [qHq]
 exact qEL rfl e
theorem qTG (F : DF) (a b d : D) (S : Sto) (h : F [a,b] S = .ok d S) : qAO 2 F (qAA (qAD 0) (qAA (qAD 1) (qAF))) [some a,some b] S = .ok d S:=by
 simp [qAT,qEM,qWC,qaq,qWB,qAc,sIf,qAs,qBQ,qB3,qBE,gNm,gSb,gTp,qBC,qDw,qNY,qUB,qRa,dC,qAD,d1,d2,qAA,qAF,qAM,qAO,dTr,qDt,qF9,qE1,qBN,qIE,qTV,qO4,qAu,qBK,qKY,dBm,dSl,qDe,qIg,qCr,qEa,Res.bind,Res.toS,_D.qGJ,_D.qDn,qKT,qar,qat,qay,qav,qaw,qax,qau,qap,qQd,qas,gLt,gLe,gGt,gGe,_D.qEb,qRJ,h]
theorem qWT (l : List Pt) (S : Sto) (hok : ∀ p ∈ l,qI5 p) (hl : l.length ≤ 41) : qCh [qAI l] S = .ok (.lst ((fars l).map D.int)) S:=by
 have h1:=qUL l S hl
 have hit : dIt (qAO 1 qCo (qAA (qAD 0) (qAF))) [some (qAI l)] S = .ok (none,(qAx l).map prD) S:=by
  unfold dIt
  simp [qAT,qEM,qWC,qaq,qWB,qAc,sIf,qAs,qBQ,qB3,qBE,gNm,gSb,gTp,qBC,qDw,qNY,qUB,qRa,dC,qAD,d1,d2,qAA,qAF,qAM,qAO,dTr,qDt,qF9,qE1,qBN,qIE,qTV,qO4,qAu,qBK,qKY,dBm,dSl,qDe,qIg,qCr,qEa,Res.bind,Res.toS,_D.qGJ,_D.qDn,qKT,qar,qat,qay,qav,qaw,qax,qau,qap,qQd,qas,gLt,gLe,gGt,gGe,_D.qEb,qRJ,h1,itD]
 have hc:=qKX (enc:=prD) (cap:=[none,none]) (g:=gTp 2 (qBC (gNm 0) (qBC (gNm 1) (qDw)))) (t:=qBN) (fe:=qAO 2 (okO qB9) (qAA (qAD 0) (qAA (qAD 1) (qAF)))) hit trivial (fun _ => true)
  (fun x => .int (qAq x)) (fun env => ∃ a b,env = [a,b]) ⟨none,none,rfl⟩ (by have:=qMH hl; unfold lim; omega)
  (fun x hx env ⟨a,b,e⟩ => by
   subst e
   obtain ⟨m1,m2⟩:=qK8 hx
   have hf:=qMJ (qSt x.1 x.2 S (hok _ m1) (hok _ m2))
   exact ⟨[some (ptD x.1),some (ptD x.2)],rfl,⟨_,_,rfl⟩,rfl,fun _ => qTG _ _ _ _ _ hf⟩)
 rw [qC1] at hc
 have eq : ((qAx l).map fun x => D.int (qAq x)) = (fars l).map D.int:=by
  unfold fars
  rw [List.map_map]
  rfl
 rw [eq] at hc
 rw [qIY]
 unfold qFd
 exact qGo rfl hc
theorem qLz (ns : List Int) : qIG ns = ns.length ↔ ns.Nodup:=by
 have key : ∀ (ks l : List Int),(ks.foldl PyProof.Rows.step_dedup l).length = l.length + ks.length ↔ ks.Nodup ∧ ∀ k ∈ ks,k ∉ l:=by
  intro ks
  induction ks with
  | nil => intro l; simp
  | cons k ks ih =>
   intro l
   rw [List.foldl_cons,List.length_cons]
   by_cases h : k ∈ l
   ·rw [qQ3 h]
    have hle:=qLJ (ks:=ks) (l:=l)
    constructor
    ·intro e; omega
    ·rintro ⟨_,h2⟩
     exact absurd h (h2 k (List.mem_cons_self ..))
   ·rw [qP2 h]
    have e1 : l.length + (ks.length + 1) = (l ++ [k]).length + ks.length:=by simp; omega
    rw [e1,ih,List.nodup_cons]
    constructor
    ·rintro ⟨h1,h2⟩
     refine ⟨⟨fun hk => (h2 k hk) (by simp),h1⟩,?_⟩
     intro x hx
     rcases List.mem_cons.mp hx with rfl | hx
     ·exact h
     ·exact fun hl => h2 x hx (List.mem_append_left _ hl)
    ·rintro ⟨⟨h1,h2⟩,h3⟩
     refine ⟨h2,fun x hx hl => ?_⟩
     rcases List.mem_append.mp hl with hl | hl
     ·exact h3 x (List.mem_cons_of_mem _ hx) hl
     ·have : x = k:=by simpa using hl
      subst this
      exact h1 hx
 have:=key ns []
 unfold qIG
 simpa using this
theorem qNc (f : DE) (ns : List Int) (env : qAH) (S S' : Sto) (h : f env S = .ok (.lst (ns.map D.int)) S') (hl : ns.length < 4000) : qFN f env S = .ok (.int (qIG ns)) S':=by
 unfold qFN
 rw [h]
 simp only [Res.bind,qSL,hl,if_true]
end _K
end
section
namespace _K
open PySem _D
theorem qIQ : ∀ (M : Nat) (ks : List Int),(∀ k ∈ ks,0 ≤ k ∧ k < M) → ks.Nodup → ks.length ≤ M
 | 0,ks,h,_ => by
  cases ks with
  | nil => simp
  | cons k ks => have:=h k (List.mem_cons_self ..); omega
 | M + 1,ks,h,nd => by
  by_cases hm : (M : Int) ∈ ks
  ·have h1 : (ks.erase (M : Int)).length = ks.length - 1:=List.length_erase_of_mem hm
   have h2:=qIQ M (ks.erase (M : Int)) (fun k hk => by
    have h3:=(nd.mem_erase_iff).mp hk
    have:=h k h3.2
    have : k ≠ M:=h3.1
    omega) (nd.erase _)
   omega
  ·have:=qIQ M ks (fun k hk => by
    have h1:=h k hk
    have : k ≠ M:=fun e => hm (e ▸ hk)
    omega) nd
   omega
theorem qK9 (l : List Pt) : 2 * (qAx l).length + l.length = l.length * l.length:=by
 induction l with
 | nil => simp [qAx]
 | cons p l ih =>
  simp only [qAx,List.length_append,List.length_map,List.length_cons,Nat.add_mul,Nat.mul_add]
  omega
theorem qU1 {x m : Int} (h1 : -m ≤ x) (h2 : x ≤ m) : 0 ≤ x * x ∧ x * x ≤ m * m:=by
 constructor
 ·rcases Int.le_total 0 x with h | h
  ·exact Int.mul_nonneg h h
  ·have:=Int.mul_nonneg (show 0 ≤ -x by omega) (show 0 ≤ -x by omega)
   rwa [Int.neg_mul_neg] at this
 ·rcases Int.le_total 0 x with h | h
  ·exact Int.mul_le_mul h2 h2 h (by omega)
  ·have:=Int.mul_le_mul (show -x ≤ m by omega) (show -x ≤ m by omega) (by omega) (by omega)
   rwa [Int.neg_mul_neg] at this
noncomputable def qCl (p : Pt) : Prop:=0 ≤ p.1 ∧ p.1 ≤ 11 ∧ 0 ≤ p.2 ∧ p.2 ≤ 11
theorem qEq {p : Pt} (h : qCl p) : qI5 p:=by
 unfold qCl at h
 unfold qI5
 omega
theorem qXf {p q : Pt} (hp : qCl p) (hq : qCl q) : 0 ≤ far p q ∧ far p q < 243:=by
 unfold qCl at hp hq
 have h1:=qU1 (x:=p.1 - q.1) (m:=11) (by omega) (by omega)
 have h2:=qU1 (x:=p.2 - q.2) (m:=11) (by omega) (by omega)
 unfold far
 omega
theorem qP1 {l : List Pt} (hu : unl l = true) (h : ∀ p ∈ l,qCl p) : l.length ≤ 22:=by
 have nd : (fars l).Nodup:=by simpa [unl] using hu
 have h1:=qIQ 243 (fars l) (fun k hk => by
  obtain ⟨x,hx,rfl⟩:=List.mem_map.mp hk
  obtain ⟨m1,m2⟩:=qK8 hx
  exact qXf (h _ m1) (h _ m2)) nd
 have h2 : (fars l).length = (qAx l).length:=by simp [fars]
 have h3:=qK9 l
 rcases Nat.lt_or_ge 22 l.length with g | g
 ·have : 23 * l.length ≤ l.length * l.length:=Nat.mul_le_mul_right _ g
  omega
 ·exact g
theorem qTr (p q : Pt) : far p q = far q p:=by
 unfold far
 have e1 : (p.1 - q.1) * (p.1 - q.1) = (q.1 - p.1) * (q.1 - p.1):=by
  have : p.1 - q.1 = -(q.1 - p.1):=by omega
  rw [this,Int.neg_mul_neg]
 have e2 : (p.2 - q.2) * (p.2 - q.2) = (q.2 - p.2) * (q.2 - p.2):=by
  have : p.2 - q.2 = -(q.2 - p.2):=by omega
  rw [this,Int.neg_mul_neg]
 rw [e1,e2]
theorem qNt (l : List Pt) (p : Pt) : (fars (l ++ [p])).Perm (fars l ++ l.map fun o => far p o):=by
 induction l with
 | nil => simp [fars,qAx]
 | cons a l ih =>
  have e1 : fars (a :: l ++ [p]) = (l.map fun q => far a q) ++ (far a p :: fars (l ++ [p])):=by
   simp [fars,qAx,qAq,Function.comp_def]
  have e2 : fars (a :: l) = (l.map fun q => far a q) ++ fars l:=by
   simp [fars,qAx,qAq,Function.comp_def]
  rw [e1,e2,List.map_cons,List.append_assoc]
  refine List.Perm.append_left _ ?_
  refine (List.Perm.cons _ ih).trans ?_
  rw [qTr a p]
  exact List.perm_middle.symm
noncomputable def qE4 (lot : List Pt) (p : Pt) : List Pt:=if unl (lot ++ [p]) then lot ++ [p] else lot
noncomputable def qJF (pts : List Pt) : List Pt:=pts.foldl qE4 []
theorem qPI {lot : List Pt} {p : Pt} (h : ∀ q ∈ lot,qCl q) (hp : qCl p) : ∀ q ∈ qE4 lot p,qCl q:=by
 unfold qE4
 split
 ·intro q hq
  rcases List.mem_append.mp hq with hq | hq
  ·exact h q hq
  ·have : q = p:=by simpa using hq
   subst this; exact hp
 ·exact h
theorem qUU {S : Sto} {j : Nat} {xs : List D} (h : S[j]? = some (.lst xs)) : qIh [.loc j] S = .ok (.tup xs) S:=by
 show (match S[j]? with | some (.lst xs) => Res.ok (D.tup xs) S | _ => .bad) = _
 rw [h]
theorem qOw (lot : List Pt) (p : Pt) (S : Sto) (h : lot.length ≤ 50) : qA4 (qAI lot) (.tup [ptD p]) S = .ok (qAI (lot ++ [p])) S:=by
 have : (lot.map ptD).length + [ptD p].length ≤ lim:=by
  rw [List.length_map]
  show lot.length + 1 ≤ lim
  unfold lim
  omega
 unfold qAI
 rw [List.map_append]
 exact if_pos this
theorem qVB (lot : List Pt) (p : Pt) (S : Sto) (h : lot.length ≤ 50) : qL1 (qAI lot) (.tup [ptD p]) S = .ok (qAI (lot ++ [p])) S:=by
 have : (lot.map ptD).length + [ptD p].length ≤ lim:=by
  rw [List.length_map]
  show lot.length + 1 ≤ lim
  unfold lim
  omega
 unfold qAI
 rw [List.map_append]
 exact if_pos this
theorem qOr {w h : Nat} (hw : w ≤ 12) (hh : h ≤ 12) : ∀ p ∈ qAj w h,qCl p:=fun p hp => by
 have:=qNh hp
 unfold qCl
 omega
theorem qQ5 : unl [] = true:=rfl
inductive IvF1 (w h : Nat) (S : Sto) (ds : List D) (env : qAH) (S' : Sto) : Prop
 | mk (lot rest : List Pt) (e3 : Option D) (h_0 : env = [some (.int (w : Int)),some (.int (h : Int)),some (qAI lot),e3]) (h_1 : ds = rest.map ptD) (h_2 : (∀ p ∈ rest,qCl p)) (h_3 : (∀ p ∈ lot,qCl p)) (h_4 : unl lot = true) (h_5 : rest.foldl qE4 lot = qJF (qAj w h)) (h_6 : S <+: S') : IvF1 w h S ds env S'
theorem qUK (w h : Nat) (S : Sto) (c : Cl) (hw : 1 ≤ w ∧ w ≤ 12) (hh : 1 ≤ h ∧ h ≤ 12) : ∃ S',qDZ c [.int (w : Int),.int (h : Int)] S = .ok (qAI (qJF (qAj w h))) S' ∧ S <+: S':=by
 have key : Rt (qFK c [some (.int (w : Int)),some (.int (h : Int)),none,none] S) fun d S' => d = qAI (qJF (qAj w h)) ∧ S <+: S':=by
  unfold qFK
  have n1:=qKP (w : Int) 1 12 S c ⟨by omega,by omega⟩
  have n2:=qKP (h : Int) 1 12 S c ⟨by omega,by omega⟩
  have l0 : 0 ≤ lim:=by decide
  have l1 : 1 ≤ lim:=by decide
  refine qA0 (qIv (qA5 (d:=.non) (S:=S) (by simp [qAT,qEM,qWC,qaq,qWB,qAc,sIf,qAs,qBQ,qB3,qBE,gNm,gSb,gTp,qBC,qDw,qNY,qUB,qRa,dC,qAD,d1,d2,qAA,qAF,qAM,qAO,dTr,qDt,qF9,qE1,qBN,qIE,qTV,qO4,qAu,qBK,qKY,dBm,dSl,qDe,qIg,qCr,qEa,Res.bind,Res.toS,_D.qGJ,_D.qDn,qKT,qar,qat,qay,qav,qaw,qax,qau,qap,qQd,qas,gLt,gLe,gGt,gGe,_D.qEb,qRJ,n1]) ?_))
  refine qA0 (qIv (qA5 (d:=.non) (S:=S) (by simp [qAT,qEM,qWC,qaq,qWB,qAc,sIf,qAs,qBQ,qB3,qBE,gNm,gSb,gTp,qBC,qDw,qNY,qUB,qRa,dC,qAD,d1,d2,qAA,qAF,qAM,qAO,dTr,qDt,qF9,qE1,qBN,qIE,qTV,qO4,qAu,qBK,qKY,dBm,dSl,qDe,qIg,qCr,qEa,Res.bind,Res.toS,_D.qGJ,_D.qDn,qKT,qar,qat,qay,qav,qaw,qax,qau,qap,qQd,qas,gLt,gLe,gGt,gGe,_D.qEb,qRJ,n2]) ?_))
  refine qA0 (qBZ (qA5 (d:=qAI []) (S:=S) (by simp [qAT,qEM,qWC,qaq,qWB,qAc,sIf,qAs,qBQ,qB3,qBE,gNm,gSb,gTp,qBC,qDw,qNY,qUB,qRa,dC,qAD,d1,d2,qAA,qAF,qAM,qAO,dTr,qDt,qF9,qE1,qBN,qIE,qTV,qO4,qAu,qBK,qKY,dBm,dSl,qDe,qIg,qCr,qEa,Res.bind,Res.toS,_D.qGJ,_D.qDn,qKT,qar,qat,qay,qav,qaw,qax,qau,qap,qQd,qas,gLt,gLe,gGt,gGe,_D.qEb,qRJ,l0,qAI]) ?_))
  have hb:=qQx w h S hw.2 hh.2
  refine qA0 (qEJ (ds:=(qAj w h).map ptD) (S1:=S) (by simp [qAT,qEM,qWC,qaq,qWB,qAc,sIf,qAs,qBQ,qB3,qBE,gNm,gSb,gTp,qBC,qDw,qNY,qUB,qRa,dC,qAD,d1,d2,qAA,qAF,qAM,qAO,dTr,qDt,qF9,qE1,qBN,qIE,qTV,qO4,qAu,qBK,qKY,dBm,dSl,qDe,qIg,qCr,qEa,Res.bind,Res.toS,_D.qGJ,_D.qDn,qKT,qar,qat,qay,qav,qaw,qax,qau,qap,qQd,qas,gLt,gLe,gGt,gGe,_D.qEb,qRJ,hb]) ?_)
  refine qDP (IvF1 w h S) ?_ ?_ ?_
  ·rintro d ds env S' ⟨lot,rest,e3,rfl,hds,hr,hl,hu,hf,hpre⟩
   cases rest with
   | nil => cases hds
   | cons p rest =>
    injection hds with h1 h2
    subst h1 h2
    refine ⟨[some (.int (w : Int)),some (.int (h : Int)),some (qAI lot),some (ptD p)],S',rfl,?_⟩
    have hs:=qP1 hu hl
    have hp:=hr p (List.mem_cons_self ..)
    obtain ⟨S2,e2,p2⟩:=qPo (lot ++ [p]) S' (fun q hq => by
     rcases List.mem_append.mp hq with hq | hq
     ·exact qEq (hl q hq)
     ·have : q = p:=by simpa using hq
      subst this; exact qEq hp) (by simp; omega)
    have c1:=qOw lot p S' (by omega)
    refine qDy (b:=unl (lot ++ [p])) (S1:=S2) (by simp [qAT,qEM,qWC,qaq,qWB,qAc,sIf,qAs,qBQ,qB3,qBE,gNm,gSb,gTp,qBC,qDw,qNY,qUB,qRa,dC,qAD,d1,d2,qAA,qAF,qAM,qAO,dTr,qDt,qF9,qE1,qBN,qIE,qTV,qO4,qAu,qBK,qKY,dBm,dSl,qDe,qIg,qCr,qEa,Res.bind,Res.toS,_D.qGJ,_D.qDn,qKT,qar,qat,qay,qav,qaw,qax,qau,qap,qQd,qas,gLt,gLe,gGt,gGe,_D.qEb,qRJ,l1,c1,e2]) ?_
    have rest' : ∀ q ∈ rest,qCl q:=fun q hq => hr q (List.mem_cons_of_mem _ hq)
    cases hb2 : unl (lot ++ [p]) with
    | true =>
     have c2:=qVB lot p S2 (by omega)
     refine qBm (env:=[some (.int (w : Int)),some (.int (h : Int)),some (qAI (lot ++ [p])),some (ptD p)]) (S:=S2) (by simp [qAT,qEM,qWC,qaq,qWB,qAc,sIf,qAs,qBQ,qB3,qBE,gNm,gSb,gTp,qBC,qDw,qNY,qUB,qRa,dC,qAD,d1,d2,qAA,qAF,qAM,qAO,dTr,qDt,qF9,qE1,qBN,qIE,qTV,qO4,qAu,qBK,qKY,dBm,dSl,qDe,qIg,qCr,qEa,Res.bind,Res.toS,_D.qGJ,_D.qDn,qKT,qar,qat,qay,qav,qaw,qax,qau,qap,qQd,qas,gLt,gLe,gGt,gGe,_D.qEb,qRJ,l1,c2]) ⟨lot ++ [p],rest,_,rfl,rfl,rest',?_,hb2,?_,hpre.trans p2⟩
     ·have:=qPI hl hp
      unfold qE4 at this
      rw [if_pos hb2] at this
      exact this
     ·rw [← hf,List.foldl_cons]
      congr 1
      unfold qE4
      rw [if_pos hb2]
    | false =>
     refine qBm (env:=[some (.int (w : Int)),some (.int (h : Int)),some (qAI lot),some (ptD p)]) (S:=S2) (by simp [qAT,qEM,qWC,qaq,qWB,qAc,sIf,qAs,qBQ,qB3,qBE,gNm,gSb,gTp,qBC,qDw,qNY,qUB,qRa,dC,qAD,d1,d2,qAA,qAF,qAM,qAO,dTr,qDt,qF9,qE1,qBN,qIE,qTV,qO4,qAu,qBK,qKY,dBm,dSl,qDe,qIg,qCr,qEa,Res.bind,Res.toS,_D.qGJ,_D.qDn,qKT,qar,qat,qay,qav,qaw,qax,qau,qap,qQd,qas,gLt,gLe,gGt,gGe,_D.qEb,qRJ,Res.bind]) ⟨lot,rest,_,rfl,rfl,rest',hl,hu,?_,hpre.trans p2⟩
     rw [← hf,List.foldl_cons]
     congr 1
     unfold qE4
     rw [if_neg (by simp [hb2])]
  ·rintro env S' ⟨lot,rest,e3,rfl,hds,hr,hl,hu,hf,hpre⟩
   cases rest with
   | cons _ _ => cases hds
   | nil => exact qF4 (qA5 rfl ⟨by rw [← hf]; rfl,hpre⟩)
  ·exact ⟨[],qAj w h,none,rfl,rfl,qOr hw.2 hh.2,by simp,qQ5,rfl,List.prefix_refl _⟩
 obtain ⟨d,S',e,rfl,hp⟩:=key
 exact ⟨S',by rw [qIC]; exact qEL rfl e,hp⟩
theorem qQn (xs ys : List D) (S : Sto) (h : xs.length + ys.length ≤ 4000) : qA4 (.lst xs) (.lst ys) S = .ok (.lst (xs ++ ys)) S:=by
 have : xs.length + ys.length ≤ lim:=by unfold lim; omega
 exact qLK this S
inductive IvF2 (pts : List Pt) (S : Sto) (ds : List D) (env : qAH) (S' : Sto) : Prop
 | mk (lot rest : List Pt) (kn : List Int) (e3 e4 : Option D) (h_0 : env = [some (.lst (pts.map ptD)),some (.loc S.length),some (.lst (kn.map D.int)),e3,e4]) (h_1 : ds = rest.map ptD) (h_2 : (∀ p ∈ rest,qCl p)) (h_3 : (∀ p ∈ lot,qCl p)) (h_4 : unl lot = true) (h_5 : kn.Perm (fars lot)) (h_6 : rest.foldl qE4 lot = qJF pts) (h_7 : S' = S ++ [.lst (lot.map ptD)]) : IvF2 pts S ds env S'
theorem qSu (pts : List Pt) (S : Sto) (hp : ∀ p ∈ pts,qCl p) : ∃ S',qDF [.lst (pts.map ptD)] S = .ok (qAI (qJF pts)) S' ∧ S <+: S':=by
 have key : Rt (qDH [some (.lst (pts.map ptD)),none,none,none,none] S) fun d S' => d = qAI (qJF pts) ∧ S <+: S':=by
  unfold qDH
  have l0 : 0 ≤ lim:=by decide
  refine qA0 (qBm (env:=[some (.lst (pts.map ptD)),some (.loc S.length),some (.lst []),none,none]) (S:=S ++ [.lst []]) (by simp [qAT,qEM,qWC,qaq,qWB,qAc,sIf,qAs,qBQ,qB3,qBE,gNm,gSb,gTp,qBC,qDw,qNY,qUB,qRa,dC,qAD,d1,d2,qAA,qAF,qAM,qAO,dTr,qDt,qF9,qE1,qBN,qIE,qTV,qO4,qAu,qBK,qKY,dBm,dSl,qDe,qIg,qCr,qEa,Res.bind,Res.toS,_D.qGJ,_D.qDn,qKT,qar,qat,qay,qav,qaw,qax,qau,qap,qQd,qas,gLt,gLe,gGt,gGe,_D.qEb,qRJ,l0]) ?_)
  refine qA0 (qEJ (ds:=pts.map ptD) (S1:=S ++ [.lst []]) (by simp [qAT,qEM,qWC,qaq,qWB,qAc,sIf,qAs,qBQ,qB3,qBE,gNm,gSb,gTp,qBC,qDw,qNY,qUB,qRa,dC,qAD,d1,d2,qAA,qAF,qAM,qAO,dTr,qDt,qF9,qE1,qBN,qIE,qTV,qO4,qAu,qBK,qKY,dBm,dSl,qDe,qIg,qCr,qEa,Res.bind,Res.toS,_D.qGJ,_D.qDn,qKT,qar,qat,qay,qav,qaw,qax,qau,qap,qQd,qas,gLt,gLe,gGt,gGe,_D.qEb,qRJ,Res.bind]) ?_)
  refine qDP (IvF2 pts S) ?_ ?_ ?_
  ·rintro d ds env S' ⟨lot,rest,kn,e3,e4,rfl,hds,hr,hl,hu,hk,hf,rfl⟩
   cases rest with
   | nil => cases hds
   | cons p rest =>
    injection hds with h1 h2
    subst h1 h2
    refine ⟨[some (.lst (pts.map ptD)),some (.loc S.length),some (.lst (kn.map D.int)),some (ptD p),e4],S ++ [.lst (lot.map ptD)],rfl,?_⟩
    have hs:=qP1 hu hl
    have hpp:=hr p (List.mem_cons_self ..)
    have hat : (S ++ [MO.lst (lot.map ptD)])[S.length]? = some (.lst (lot.map ptD)):=by simp
    have hit : dIt (qAD 1) [some (.lst (pts.map ptD)),some (.loc S.length),some (.lst (kn.map D.int)),some (ptD p),e4] (S ++ [.lst (lot.map ptD)]) = .ok (some (S.length,.lst (lot.map ptD)),lot.map ptD) (S ++ [.lst (lot.map ptD)]):=by
     unfold dIt
     simp only [qAD,List.getElem?_cons_zero,List.getElem?_cons_succ,Res.bind,itD,hat]
    have hc:=qKX (enc:=ptD) (cap:=[none,some 3]) (g:=gNm 0) (t:=qBN) (fe:=qAO 2 (okO qB9) (qAA (qAD 1) (qAA (qAD 0) (qAF)))) hit hat (fun _ => true) (fun o => .int (far p o)) (fun env => ∃ a,env = [a,some (ptD p)]) ⟨none,rfl⟩ (by unfold lim; omega)
     (fun o ho env ⟨a,e⟩ => by
      subst e
      have hf:=qMJ (qSt p o (S ++ [.lst (lot.map ptD)]) (qEq hpp) (qEq (hl o ho)))
      exact ⟨[some (ptD o),some (ptD p)],rfl,⟨_,rfl⟩,rfl,fun _ => by simp [qAT,qEM,qWC,qaq,qWB,qAc,sIf,qAs,qBQ,qB3,qBE,gNm,gSb,gTp,qBC,qDw,qNY,qUB,qRa,dC,qAD,d1,d2,qAA,qAF,qAM,qAO,dTr,qDt,qF9,qE1,qBN,qIE,qTV,qO4,qAu,qBK,qKY,dBm,dSl,qDe,qIg,qCr,qEa,Res.bind,Res.toS,_D.qGJ,_D.qDn,qKT,qar,qat,qay,qav,qaw,qax,qau,qap,qQd,qas,gLt,gLe,gGt,gGe,_D.qEb,qRJ,hf]⟩)
    rw [qC1] at hc
    have em : (lot.map fun o => D.int (far p o)) = (lot.map fun o => far p o).map D.int:=by rw [List.map_map]; rfl
    rw [em] at hc
    refine qCb (qBZ (qA5 hc ?_))
    have hkl : kn.length ≤ 22 * 22:=by
     rw [hk.length_eq]
     have h1:=qOi lot
     have h2 : lot.length * lot.length ≤ 22 * 22:=Nat.mul_le_mul hs hs
     simp only [fars,List.length_map]
     omega
    have c1:=qQn ((lot.map fun o => far p o).map D.int) (kn.map D.int) (S ++ [.lst (lot.map ptD)]) (by simp; omega)
    rw [← List.map_append] at c1
    have hls:=qNc (d2 qA4 (qAD 4) (qAD 2)) ((lot.map fun o => far p o) ++ kn) [some (.lst (pts.map ptD)),some (.loc S.length),some (.lst (kn.map D.int)),some (ptD p),some (.lst ((lot.map fun o => far p o).map D.int))] (S ++ [.lst (lot.map ptD)]) (S ++ [.lst (lot.map ptD)]) (by
     simp only [d2,qAD,List.getElem?_cons_zero,List.getElem?_cons_succ,Res.bind,c1]) (by simp; omega)
    have hb : (decide ((qIG ((lot.map fun o => far p o) ++ kn) : Int) = ((lot.map fun o => far p o).map D.int).length + (kn.map D.int).length)) = unl (lot ++ [p]):=by
     rw [Bool.eq_iff_iff,decide_eq_true_eq]
     have e1 : ((qIG ((lot.map fun o => far p o) ++ kn) : Int) = ((lot.map fun o => far p o).map D.int).length + (kn.map D.int).length) ↔ qIG ((lot.map fun o => far p o) ++ kn) = ((lot.map fun o => far p o) ++ kn).length:=by
      simp only [List.length_map,List.length_append]
      omega
     rw [e1,qLz]
     unfold unl
     rw [decide_eq_true_eq]
     have hpm : ((lot.map fun o => far p o) ++ kn).Perm (fars (lot ++ [p])):=by
      refine List.Perm.trans ?_ (qNt lot p).symm
      exact List.perm_append_comm.trans (List.Perm.append_right _ hk)
     exact hpm.nodup_iff
    refine qDy (b:=unl (lot ++ [p])) (S1:=S ++ [.lst (lot.map ptD)]) ?_ ?_
    ·simp only [List.set_cons_succ,List.set_cons_zero]
     have lb1:=qJR ((lot.map fun o => far p o).map D.int) (S ++ [.lst (lot.map ptD)])
     have lb2:=qJR (kn.map D.int) (S ++ [.lst (lot.map ptD)])
     rw [← hb]
     simp only [dTr,d2,hls,Res.bind,qAM,qAA,qAF,qAD,List.getElem?_cons_zero,List.getElem?_cons_succ,lb1,lb2,qC6,qIi,qKT,_D.qGJ]
    have rest' : ∀ q ∈ rest,qCl q:=fun q hq => hr q (List.mem_cons_of_mem _ hq)
    cases hb2 : unl (lot ++ [p]) with
    | true =>
     have hty : tyD (.loc S.length) (S ++ [MO.lst (lot.map ptD)]) = some "list":=qMY hat
     have hap : qBg (.loc S.length) [ptD p] (S ++ [MO.lst (lot.map ptD)]) = .ok .non (S ++ [MO.lst ((lot ++ [p]).map ptD)]):=by
      have : (lot.map ptD).length < lim:=by rw [List.length_map]; unfold lim; omega
      rw [qJ3 hat this]
      congr 1
      simp
     have c2:=qQn (kn.map D.int) ((lot.map fun o => far p o).map D.int) (S ++ [.lst ((lot ++ [p]).map ptD)]) (by simp; omega)
     rw [← List.map_append] at c2
     refine qBm (env:=[some (.lst (pts.map ptD)),some (.loc S.length),some (.lst ((kn ++ lot.map fun o => far p o).map D.int)),some (ptD p),some (.lst ((lot.map fun o => far p o).map D.int))]) (S:=S ++ [.lst ((lot ++ [p]).map ptD)]) ?_ ⟨lot ++ [p],rest,_,_,_,rfl,rfl,rest',?_,hb2,?_,?_,rfl⟩
     ·simp only [if_true,qAc,qB3,dBm,qAD,qAA,qAF,List.set_cons_succ,List.set_cons_zero,List.getElem?_cons_zero,List.getElem?_cons_succ,Res.bind,hty,beq_self_eq_true,hap,Res.toS,qBE,d2,c2,gNm]
     ·have:=qPI hl hpp
      unfold qE4 at this
      rw [if_pos hb2] at this
      exact this
     ·exact (List.Perm.append_right _ hk).trans (qNt lot p).symm
     ·rw [← hf,List.foldl_cons]
      congr 1
      unfold qE4
      rw [if_pos hb2]
    | false =>
     refine qBm (env:=[some (.lst (pts.map ptD)),some (.loc S.length),some (.lst (kn.map D.int)),some (ptD p),some (.lst ((lot.map fun o => far p o).map D.int))]) (S:=S ++ [.lst (lot.map ptD)]) rfl ⟨lot,rest,kn,_,_,rfl,rfl,rest',hl,hu,hk,?_,rfl⟩
     rw [← hf,List.foldl_cons]
     congr 1
     unfold qE4
     rw [if_neg (by simp [hb2])]
  ·rintro env S' ⟨lot,rest,kn,e3,e4,rfl,hds,hr,hl,hu,hk,hf,rfl⟩
   cases rest with
   | cons _ _ => cases hds
   | nil =>
    have hat : (S ++ [MO.lst (lot.map ptD)])[S.length]? = some (.lst (lot.map ptD)):=by simp
    refine qF4 (qA5 (d:=qAI lot) (S:=S ++ [.lst (lot.map ptD)]) ?_ ⟨by rw [← hf]; rfl,List.prefix_append _ _⟩)
    simp only [qAM,qAA,qAF,qAD,List.getElem?_cons_zero,List.getElem?_cons_succ,Res.bind,qUU hat]
    rfl
  ·exact ⟨[],pts,[],none,none,rfl,rfl,hp,by simp,qQ5,List.Perm.refl _,rfl,rfl⟩
 obtain ⟨d,S',e,rfl,hp⟩:=key
 exact ⟨S',by rw [qGp]; exact qEL rfl e,hp⟩
end _K
end
section
namespace _K
open PySem _D
noncomputable def ltP (p q : Pt) : Bool:=_H.lexLt [p.1,p.2] [q.1,q.2]
noncomputable def qES (l : List Pt) : Pt:=l.getLastD (0,0)
noncomputable def grow (pts : List Pt) (L : List (List Pt)) : List (List Pt):=L.flatMap fun lot => (pts.filter fun p => ltP (qES lot) p).map fun p => lot ++ [p]
noncomputable def next (pts : List Pt) (L : List (List Pt)) : List (List Pt):=(grow pts L).filter unl
theorem qUq (p q : Pt) (S : Sto) : qKF (ptD p) (ptD q) S = .ok (.bl (ltP q p)) S:=rfl
theorem qQf (lot : List Pt) (S : Sto) (h : lot ≠ []) : gIx (qAI lot) (.int (-1)) S = .ok (ptD (qES lot)) S:=by
 have hl : 0 < lot.length:=List.length_pos_iff.mpr h
 have e1 : _L.ixN (lot.map ptD).length (-1) = some (lot.length - 1):=by
  unfold _L.ixN
  rw [List.length_map]
  have h1 : ¬ (0 ≤ (-1 : Int)):=by omega
  simp
  omega
 have e2 : _L.atI (lot.map ptD) (-1) = some (ptD (qES lot)):=by
  unfold _L.atI
  rw [e1]
  show (lot.map ptD)[lot.length - 1]? = _
  rw [List.getElem?_map]
  have : lot[lot.length - 1]? = some (qES lot):=by
   unfold qES
   rw [List.getLastD_eq_getLast?,List.getLast?_eq_getElem?]
   rw [List.getElem?_eq_getElem (by omega)]
   rfl
  rw [this]
  rfl
 show _D.qDn (_L.atI (lot.map ptD) (-1)) S = _
 rw [e2]
 rfl
theorem qJS (pts : List Pt) (L : List (List Pt)) : (grow pts L).length ≤ L.length * pts.length:=by
 refine qQF _ pts.length L fun lot _ => ?_
 rw [List.length_map]
 exact List.length_filter_le _ _
theorem qUr (env : qAH) (S : Sto) : d1 qLL (dC (.int 1)) env S = .ok (.int (-1)) S:=rfl
theorem qWS (pts : List Pt) (L : List (List Pt)) (j : Nat) (S : Sto) (hj : S[j]? = some (.lst (L.map qAI))) (hL : ∀ lot ∈ L,lot ≠ [] ∧ lot.length ≤ 50) (hb : L.length * pts.length ≤ lim) : qGi [.loc j,.lst (pts.map ptD)] S = .ok (.lst ((grow pts L).map qAI)) S:=by
 have eq : (L.flatMap fun lot => (pts.filter fun p => ltP (qES lot) p).map fun p => qAI (lot ++ [p])) = (grow pts L).map qAI:=by
  unfold grow
  rw [List.map_flatMap]
  congr 1
  funext lot
  rw [List.map_map]
  rfl
 have hl : ((grow pts L).map qAI).length ≤ lim:=by
  rw [List.length_map]
  exact Nat.le_trans (qJS pts L) hb
 have hit : dIt (qAD 0) [some (.loc j),some (.lst (pts.map ptD))] S = .ok (some (j,.lst (L.map qAI)),L.map qAI) S:=by
  unfold dIt
  simp only [qAD,List.getElem?_cons_zero,Res.bind,itD,hj]
 have l1 : 1 ≤ lim:=by decide
 have hc:=qVF (enc:=qAI) (enc2:=ptD) (cap:=[none,none,some 1]) (g:=gNm 0) (t:=qBN) (fi2:=dIt (qAD 2)) (g2:=gNm 1) (t2:=qE1 (dTr (d2 qKF (qAD 1) (d2 gIx (qAD 0) (d1 qLL (dC (.int 1)))))) (qBN)) (fe:=d2 qA4 (qAD 0) (qAu (qAA (qAD 1) (qAF)))) (o2:=none) hit hj trivial (fun _ => pts) (fun lot p => ltP (qES lot) p) (fun lot p => qAI (lot ++ [p]))
  (fun env => ∃ a b,env = [a,b,some (.lst (pts.map ptD))]) (fun lot env => ∃ b,env = [some (qAI lot),b,some (.lst (pts.map ptD))]) ⟨none,none,rfl⟩ (fun lot env ⟨b,e⟩ => ⟨_,_,e⟩) (by rw [eq]; exact hl)
  (fun lot hlot env ⟨a,b,e⟩ => by
   subst e
   exact ⟨[some (qAI lot),b,some (.lst (pts.map ptD))],rfl,⟨_,rfl⟩,rfl,rfl⟩)
  (fun lot hlot p hp env ⟨b,e⟩ => by
   subst e
   obtain ⟨n1,n2⟩:=hL lot hlot
   have x1:=qQf lot S n1
   have c1:=qOw lot p S n2
   refine ⟨[some (qAI lot),some (ptD p),some (.lst (pts.map ptD))],rfl,⟨_,rfl⟩,?_,fun _ => ?_⟩
   ·simp only [qE1,dTr,d2,qAD,List.getElem?_cons_zero,List.getElem?_cons_succ,Res.bind,qUr,x1,qUq,qKT,_D.qGJ,qBN]
    cases ltP (qES lot) p <;> rfl
   ·simp [qAT,qEM,qWC,qaq,qWB,qAc,sIf,qAs,qBQ,qB3,qBE,gNm,gSb,gTp,qBC,qDw,qNY,qUB,qRa,dC,qAD,d1,d2,qAA,qAF,qAM,qAO,dTr,qDt,qF9,qE1,qBN,qIE,qTV,qO4,qAu,qBK,qKY,dBm,dSl,qDe,qIg,qCr,qEa,Res.bind,Res.toS,_D.qGJ,_D.qDn,qKT,qar,qat,qay,qav,qaw,qax,qau,qap,qQd,qas,gLt,gLe,gGt,gGe,_D.qEb,qRJ,l1,c1])
 rw [eq] at hc
 rw [qLj]
 exact qGo rfl hc
noncomputable def In4 (p : Pt) : Prop:=0 ≤ p.1 ∧ p.1 ≤ 3 ∧ 0 ≤ p.2 ∧ p.2 ≤ 3
structure Lev (pts : List Pt) (k : Nat) (L : List (List Pt)) : Prop where
 lot : ∀ lot ∈ L,lot.length = k ∧ unl lot = true ∧ ∀ p ∈ lot,In4 p
 len : L.length ≤ 16 ^ k
theorem qZS {p q : Pt} (hp : In4 p) (hq : In4 q) : far p q ∈ [(0 : Int),1,2,4,5,8,9,10,13,18]:=by
 have sq : ∀ x : Int,-3 ≤ x → x ≤ 3 → x * x = 0 ∨ x * x = 1 ∨ x * x = 4 ∨ x * x = 9:=by
  intro x h1 h2
  have : x = -3 ∨ x = -2 ∨ x = -1 ∨ x = 0 ∨ x = 1 ∨ x = 2 ∨ x = 3:=by omega
  rcases this with rfl | rfl | rfl | rfl | rfl | rfl | rfl <;> decide
 unfold In4 at hp hq
 have h1:=sq (p.1 - q.1) (by omega) (by omega)
 have h2:=sq (p.2 - q.2) (by omega) (by omega)
 unfold far
 rcases h1 with h1 | h1 | h1 | h1 <;> rcases h2 with h2 | h2 | h2 | h2 <;> rw [h1,h2] <;> decide
theorem qN1 : ∀ (ks ms : List Int),ks.Nodup → (∀ k ∈ ks,k ∈ ms) → ks.length ≤ ms.length
 | [],ms,_,_ => by simp
 | k :: ks,ms,nd,h => by
  have hk:=h k (List.mem_cons_self ..)
  have nd':=List.nodup_cons.mp nd
  have:=qN1 ks (ms.erase k) nd'.2 (fun x hx => by
   have hx':=h x (List.mem_cons_of_mem _ hx)
   have hne : x ≠ k:=fun e => nd'.1 (e ▸ hx)
   exact (List.mem_erase_of_ne hne).mpr hx')
  rw [List.length_erase_of_mem hk] at this
  have : 0 < ms.length:=List.length_pos_of_mem hk
  simp only [List.length_cons]
  omega
theorem qWb {l : List Pt} (hu : unl l = true) (h : ∀ p ∈ l,In4 p) : l.length ≤ 5:=by
 have nd : (fars l).Nodup:=by simpa [unl] using hu
 have h1:=qN1 (fars l) [(0 : Int),1,2,4,5,8,9,10,13,18] nd (fun k hk => by
  obtain ⟨x,hx,rfl⟩:=List.mem_map.mp hk
  obtain ⟨m1,m2⟩:=qK8 hx
  exact qZS (h _ m1) (h _ m2))
 have h2 : (fars l).length = (qAx l).length:=by simp [fars]
 have h3:=qK9 l
 simp only [List.length_cons,List.length_nil] at h1
 rcases Nat.lt_or_ge 5 l.length with g | g
 ·have : 6 * l.length ≤ l.length * l.length:=Nat.mul_le_mul_right _ g
  omega
 ·exact g
theorem qL7 {p : Pt} (h : In4 p) : qCl p:=by
 unfold In4 at h
 unfold qCl
 omega
theorem Lev.next {pts : List Pt} {k : Nat} {L : List (List Pt)} (hp : ∀ p ∈ pts,In4 p) (hpl : pts.length ≤ 16) (h : Lev pts k L) : Lev pts (k + 1) (next pts L):=by
 refine ⟨fun lot hl => ?_,?_⟩
 ·obtain ⟨h1,h2⟩:=List.mem_filter.mp hl
  unfold grow at h1
  obtain ⟨l0,h3,h4⟩:=List.mem_flatMap.mp h1
  obtain ⟨p,h5,rfl⟩:=List.mem_map.mp h4
  obtain ⟨h6,_⟩:=List.mem_filter.mp h5
  obtain ⟨q1,q2,q3⟩:=h.lot l0 h3
  refine ⟨by simp [q1],h2,fun q hq => ?_⟩
  rcases List.mem_append.mp hq with hq | hq
  ·exact q3 q hq
  ·have : q = p:=by simpa using hq
   subst this
   exact hp q h6
 ·have h1 : (_K.next pts L).length ≤ (grow pts L).length:=List.length_filter_le _ _
  have h2:=qJS pts L
  have h3 : L.length * pts.length ≤ 16 ^ k * 16:=Nat.mul_le_mul h.len hpl
  rw [Nat.pow_succ]
  omega
theorem Lev.small {pts : List Pt} {k : Nat} {L : List (List Pt)} (h : Lev pts k L) (hne : L ≠ []) : k ≤ 5:=by
 cases L with
 | nil => exact absurd rfl hne
 | cons lot L =>
  obtain ⟨h1,h2,h3⟩:=h.lot lot (List.mem_cons_self ..)
  have:=qWb h2 h3
  omega
noncomputable def go : Nat → List Pt → List (List Pt) → List (List Pt) → List (List Pt)
 | 0,_,_,prev => prev
 | n + 1,pts,L,prev => if L.isEmpty then prev else go n pts (next pts L) L
noncomputable def qCZ (pts : List Pt) : List (List Pt):=go 5 pts (next pts (pts.map fun p => [p])) (pts.map fun p => [p])
theorem qRR {pts : List Pt} (hp : ∀ p ∈ pts,In4 p) (hpl : pts.length ≤ 16) : Lev pts 1 (pts.map fun p => [p]):=by
 refine ⟨fun lot hl => ?_,by simpa using hpl⟩
 obtain ⟨p,h1,rfl⟩:=List.mem_map.mp hl
 refine ⟨rfl,rfl,fun q hq => ?_⟩
 have : q = p:=by simpa using hq
 subst this
 exact hp q h1
theorem qSo {k : Nat} (h : k ≤ 5) : 16 ^ k * 16 ≤ lim:=by
 have : 16 ^ k ≤ 16 ^ 5:=Nat.pow_le_pow_right (by omega) h
 unfold lim
 omega
set_option tactic.hygienic true in
theorem qPN {pts : List Pt} (hp : ∀ p ∈ pts,In4 p) (hpl : pts.length ≤ 16) : ∀ n k L prev,n + k = 7 → Lev pts k L → (∀ lot ∈ prev,lot.length ≤ 10 ∧ ∀ p ∈ lot,In4 p) → prev.length ≤ 16 ^ 5 → (∀ lot ∈ go n pts L prev,lot.length ≤ 10 ∧ ∀ p ∈ lot,In4 p) ∧ (go n pts L prev).length ≤ 16 ^ 5
 | 0,k,L,prev,_,_,h1,h2 => ⟨h1,h2⟩
 | n + 1,k,L,prev,hk,hL,h1,h2 => by
  unfold go
  split
  ·exact ⟨h1,h2⟩
  ·rename_i hne
   have hk5:=hL.small (by simpa using hne)
   refine qPN hp hpl n (k + 1) _ _ (by omega) (hL.next hp hpl) (fun lot hl => ?_) ?_
   ·obtain ⟨q1,q2,q3⟩:=hL.lot lot hl
    exact ⟨by omega,q3⟩
   ·exact Nat.le_trans hL.len (Nat.pow_le_pow_right (by omega) hk5)
end _K
end
section
namespace _K
open PySem _D
theorem qYI (p : Pt) : qAI [p] = .tup [ptD p]:=rfl
theorem qNn (pts : List Pt) (fi : DI2) (env : qAH) (S : Sto) (h : fi env S = .ok (none,pts.map ptD) S) (hl : pts.length ≤ 200) : qA1 true [none] fi (gNm 0) qBN (qAy (qAu (qAA (qAD 0) (qAF)))) env S = .ok (.loc S.length) (S ++ [.lst ((pts.map fun p => [p]).map qAI)]):=by
 have l1 : 1 ≤ lim:=by decide
 have hc:=qTP (enc:=ptD) (cap:=[none]) (g:=gNm 0) (t:=qBN) (fe:=qAu (qAA (qAD 0) (qAF))) h trivial (fun _ => true) (fun p => qAI [p]) (fun env => ∃ a,env = [a]) ⟨none,rfl⟩ (by unfold lim; omega)
  (fun p hp env ⟨a,e⟩ => by
   subst e
   exact ⟨[some (ptD p)],rfl,⟨_,rfl⟩,rfl,fun _ => by simp [qAT,qEM,qWC,qaq,qWB,qAc,sIf,qAs,qBQ,qB3,qBE,gNm,gSb,gTp,qBC,qDw,qNY,qUB,qRa,dC,qAD,d1,d2,qAA,qAF,qAM,qAO,dTr,qDt,qF9,qE1,qBN,qIE,qTV,qO4,qAu,qBK,qKY,dBm,dSl,qDe,qIg,qCr,qEa,Res.bind,Res.toS,_D.qGJ,_D.qDn,qKT,qar,qat,qay,qav,qaw,qax,qau,qap,qQd,qas,gLt,gLe,gGt,gGe,_D.qEb,qRJ,l1,qYI]⟩)
 rw [qC1] at hc
 rw [hc,List.map_map]
 rfl
theorem qMk {w h : Nat} (hw : w ≤ 4) (hh : h ≤ 4) : ∀ p ∈ qAj w h,In4 p:=fun p hp => by
 have:=qNh hp
 unfold In4
 omega
theorem qLC {w h : Nat} (hw : w ≤ 4) (hh : h ≤ 4) : (qAj w h).length ≤ 16:=by
 rw [qJ4]
 exact Nat.mul_le_mul hw hh
theorem qI7 {w h : Nat} (hw : 1 ≤ w) (hh : 1 ≤ h) : qAj w h ≠ []:=by
 intro e
 have:=qJ4 w h
 rw [e] at this
 have h2 : 1 * 1 ≤ w * h:=Nat.mul_le_mul hw hh
 simp at this
 omega
theorem qNC {S S' : Sto} (h : S <+: S') : S.length ≤ S'.length:=by
 obtain ⟨r,rfl⟩:=h
 simp
theorem qWe {S : Sto} {j : Nat} {xs : List D} (h : S[j]? = some (.lst xs)) : qDV (.loc j) S = some (!xs.isEmpty):=by
 show (match S[j]? with | some (.lst xs) => some (!xs.isEmpty) | some (.dct kvs) => some (!kvs.isEmpty) | _ => none) = _
 rw [h]
inductive IvW1 (w h : Nat) (pts : List Pt) (S : Sto) (n : Nat) (env : qAH) (S' : Sto) : Prop
 | mk (k : Nat) (L : List (List Pt)) (j : Nat) (d : D) (h_0 : n + k = 7) (h_1 : 1 ≤ k) (h_2 : env = [some (.int (w : Int)),some (.int (h : Int)),some (.lst (pts.map ptD)),some d,some (.loc j)]) (h_3 : Lev pts k L) (h_4 : S'[j]? = some (.lst (L.map qAI))) (h_5 : S.length ≤ j) (h_6 : S <+: S') (h_7 : ((k = 1 ∧ L = pts.map fun p => [p]) ∨ ∃ (prev : List (List Pt)) (j' : Nat),d = .loc j' ∧ S'[j']? = some (.lst (prev.map qAI)) ∧ S.length ≤ j' ∧ go n pts L prev = qCZ pts)) : IvW1 w h pts S n env S'
theorem qJu (w h : Nat) (S : Sto) (c : Cl) (hw : 1 ≤ w ∧ w ≤ 4) (hh : 1 ≤ h ∧ h ≤ 4) : ∃ (j : Nat) (S' : Sto),qBM c [.int (w : Int),.int (h : Int)] S = .ok (.loc j) S' ∧ S'[j]? = some (.lst ((qCZ (qAj w h)).map qAI)) ∧ S.length ≤ j ∧ S <+: S':=by
 have hp:=qMk hw.2 hh.2
 have hpl:=qLC hw.2 hh.2
 have hb:=qQx w h S (by omega) (by omega)
 have hne:=qI7 hw.1 hh.1
 generalize qAj w h = pts at hp hpl hb hne
 have key : Rt (qCQ c [some (.int (w : Int)),some (.int (h : Int)),none,none,none] S) fun d S' => ∃ j,d = .loc j ∧ S'[j]? = some (.lst ((qCZ pts).map qAI)) ∧ S.length ≤ j ∧ S <+: S':=by
  unfold qCQ
  have n1:=qKP (w : Int) 1 4 S c ⟨by omega,by omega⟩
  have n2:=qKP (h : Int) 1 4 S c ⟨by omega,by omega⟩
  have l0 : 0 ≤ lim:=by decide
  refine qA0 (qIv (qA5 (d:=.non) (S:=S) (by simp [qAT,qEM,qWC,qaq,qWB,qAc,sIf,qAs,qBQ,qB3,qBE,gNm,gSb,gTp,qBC,qDw,qNY,qUB,qRa,dC,qAD,d1,d2,qAA,qAF,qAM,qAO,dTr,qDt,qF9,qE1,qBN,qIE,qTV,qO4,qAu,qBK,qKY,dBm,dSl,qDe,qIg,qCr,qEa,Res.bind,Res.toS,_D.qGJ,_D.qDn,qKT,qar,qat,qay,qav,qaw,qax,qau,qap,qQd,qas,gLt,gLe,gGt,gGe,_D.qEb,qRJ,n1]) ?_))
  refine qA0 (qIv (qA5 (d:=.non) (S:=S) (by simp [qAT,qEM,qWC,qaq,qWB,qAc,sIf,qAs,qBQ,qB3,qBE,gNm,gSb,gTp,qBC,qDw,qNY,qUB,qRa,dC,qAD,d1,d2,qAA,qAF,qAM,qAO,dTr,qDt,qF9,qE1,qBN,qIE,qTV,qO4,qAu,qBK,qKY,dBm,dSl,qDe,qIg,qCr,qEa,Res.bind,Res.toS,_D.qGJ,_D.qDn,qKT,qar,qat,qay,qav,qaw,qax,qau,qap,qQd,qas,gLt,gLe,gGt,gGe,_D.qEb,qRJ,n2]) ?_))
  refine qA0 (qBZ (qA5 (d:=.lst (pts.map ptD)) (S:=S) (by simp [qAT,qEM,qWC,qaq,qWB,qAc,sIf,qAs,qBQ,qB3,qBE,gNm,gSb,gTp,qBC,qDw,qNY,qUB,qRa,dC,qAD,d1,d2,qAA,qAF,qAM,qAO,dTr,qDt,qF9,qE1,qBN,qIE,qTV,qO4,qAu,qBK,qKY,dBm,dSl,qDe,qIg,qCr,qEa,Res.bind,Res.toS,_D.qGJ,_D.qDn,qKT,qar,qat,qay,qav,qaw,qax,qau,qap,qQd,qas,gLt,gLe,gGt,gGe,_D.qEb,qRJ,hb]) ?_))
  refine qA0 (qBZ (qA5 (d:=.lst []) (S:=S) (by simp [qAT,qEM,qWC,qaq,qWB,qAc,sIf,qAs,qBQ,qB3,qBE,gNm,gSb,gTp,qBC,qDw,qNY,qUB,qRa,dC,qAD,d1,d2,qAA,qAF,qAM,qAO,dTr,qDt,qF9,qE1,qBN,qIE,qTV,qO4,qAu,qBK,qKY,dBm,dSl,qDe,qIg,qCr,qEa,Res.bind,Res.toS,_D.qGJ,_D.qDn,qKT,qar,qat,qay,qav,qaw,qax,qau,qap,qQd,qas,gLt,gLe,gGt,gGe,_D.qEb,qRJ,l0]) ?_))
  have c0:=qNn pts (dIt (qAD 2)) [some (.int (w : Int)),some (.int (h : Int)),some (.lst (pts.map ptD)),some (.lst []),none] S rfl (by omega)
  refine qA0 (qBZ (qA5 c0 ?_))
  have hbig : 7 < big:=by rw [qRk]; omega
  refine qA0 ?_
  refine qPZ (IvW1 w h pts S) ?_ (n:=6) (by omega) ?_
  ·rintro n env S' ⟨k,L,j,d,hnk,hk1,rfl,hL,hj,hjS,hpre,hd⟩
   have ht : qDV (.loc j) S' = some (!(L.map qAI).isEmpty):=qWe hj
   cases hemp : L.isEmpty with
   | true =>
    have hL0 : L = []:=by simpa using hemp
    subst hL0
    refine ⟨false,S',by simp [qAT,qEM,qWC,qaq,qWB,qAc,sIf,qAs,qBQ,qB3,qBE,gNm,gSb,gTp,qBC,qDw,qNY,qUB,qRa,dC,qAD,d1,d2,qAA,qAF,qAM,qAO,dTr,qDt,qF9,qE1,qBN,qIE,qTV,qO4,qAu,qBK,qKY,dBm,dSl,qDe,qIg,qCr,qEa,Res.bind,Res.toS,_D.qGJ,_D.qDn,qKT,qar,qat,qay,qav,qaw,qax,qau,qap,qQd,qas,gLt,gLe,gGt,gGe,_D.qEb,qRJ,ht],?_⟩
    rcases hd with ⟨h1,h2⟩ | ⟨prev,j',rfl,hj',hjS',hgo⟩
    ·have : pts = []:=by simpa using h2.symm
     exact absurd this hne
    ·simp only [Bool.false_eq_true,if_false]
     refine qF4 (qA5 rfl ⟨j',rfl,?_,hjS',hpre⟩)
     have : go n pts [] prev = prev:=by cases n <;> simp [go]
     rw [this] at hgo
     rw [← hgo]
     exact hj'
   | false =>
    have hLne : L ≠ []:=by
     intro e
     subst e
     simp at hemp
    have hk5:=hL.small hLne
    refine ⟨true,S',by
     have : (L.map qAI).isEmpty = false:=by simpa using hLne
     simp [qAT,qEM,qWC,qaq,qWB,qAc,sIf,qAs,qBQ,qB3,qBE,gNm,gSb,gTp,qBC,qDw,qNY,qUB,qRa,dC,qAD,d1,d2,qAA,qAF,qAM,qAO,dTr,qDt,qF9,qE1,qBN,qIE,qTV,qO4,qAu,qBK,qKY,dBm,dSl,qDe,qIg,qCr,qEa,Res.bind,Res.toS,_D.qGJ,_D.qDn,qKT,qar,qat,qay,qav,qaw,qax,qau,qap,qQd,qas,gLt,gLe,gGt,gGe,_D.qEb,qRJ,ht,this],?_⟩
    simp only [if_true]
    refine qCb (qBZ (qA5 (d:=.loc j) (S:=S') rfl ?_))
    have hg:=qWS pts L j S' hj (fun lot hl => by
     obtain ⟨q1,_,_⟩:=hL.lot lot hl
     refine ⟨?_,by omega⟩
     intro e
     subst e
     simp at q1
     omega) (Nat.le_trans (Nat.mul_le_mul hL.len hpl) (qSo hk5))
    have hit : dIt (qAO 2 qGi (qAA (qAD 3) (qAA (qAD 2) (qAF)))) [some (.int (w : Int)),some (.int (h : Int)),some (.lst (pts.map ptD)),some (.loc j),some (.loc j)] S' = .ok (none,(grow pts L).map qAI) S':=by
     unfold dIt
     simp [qAT,qEM,qWC,qaq,qWB,qAc,sIf,qAs,qBQ,qB3,qBE,gNm,gSb,gTp,qBC,qDw,qNY,qUB,qRa,dC,qAD,d1,d2,qAA,qAF,qAM,qAO,dTr,qDt,qF9,qE1,qBN,qIE,qTV,qO4,qAu,qBK,qKY,dBm,dSl,qDe,qIg,qCr,qEa,Res.bind,Res.toS,_D.qGJ,_D.qDn,qKT,qar,qat,qay,qav,qaw,qax,qau,qap,qQd,qas,gLt,gLe,gGt,gGe,_D.qEb,qRJ,hg,itD]
    have hgl : (grow pts L).length ≤ lim:=Nat.le_trans (qJS pts L) (Nat.le_trans (Nat.mul_le_mul hL.len hpl) (qSo hk5))
    obtain ⟨S2,e2,p2⟩:=qVE (enc:=qAI) (cap:=[none]) (g:=gNm 0) (t:=qE1 (dTr (qAO 1 (okO qBu) (qAA (qAD 0) (qAF)))) (qBN)) (fe:=qAD 0) hit trivial unl qAI (fun env => ∃ a,env = [a]) ⟨none,rfl⟩ hgl
     (fun lot hlot env S3 ⟨a,e⟩ hpr => by
      subst e
      unfold grow at hlot
      obtain ⟨l0,h3,h4⟩:=List.mem_flatMap.mp hlot
      obtain ⟨p,h5,rfl⟩:=List.mem_map.mp h4
      obtain ⟨h6,_⟩:=List.mem_filter.mp h5
      obtain ⟨q1,q2,q3⟩:=hL.lot l0 h3
      obtain ⟨S4,e4,p4⟩:=qPo (l0 ++ [p]) S3 (fun q hq => by
       rcases List.mem_append.mp hq with hq | hq
       ·exact qEq (qL7 (q3 q hq))
       ·have : q = p:=by simpa using hq
        subst this
        exact qEq (qL7 (hp q h6))) (by simp; omega)
      have e5:=qMJ e4
      refine ⟨[some (qAI (l0 ++ [p]))],S4,rfl,⟨_,rfl⟩,?_,p4,fun _ => ⟨S4,rfl,List.prefix_refl _⟩⟩
      simp only [qE1,dTr,qAO,qAA,qAF,qAD,List.getElem?_cons_zero,Res.bind,List.length_cons,List.length_nil,if_true,e5,qKT,_D.qGJ,qBN]
      cases unl (l0 ++ [p]) <;> rfl)
    refine qBZ (qA5 e2 ⟨n - 1,by omega,k + 1,next pts L,S2.length,.loc j,by omega,by omega,rfl,hL.next hp hpl,?_,?_,?_,.inr ⟨L,j,rfl,?_,hjS,?_⟩⟩)
    ·simp [next]
    ·have h1:=qNC hpre
     have h2:=qNC p2
     omega
    ·exact (hpre.trans p2).trans (List.prefix_append _ _)
    ·exact qKb hj (p2.trans (List.prefix_append _ _))
    ·rcases hd with ⟨h1,h2⟩ | ⟨prev,j',_,_,_,hgo⟩
     ·subst h2
      have : n - 1 = 5:=by omega
      rw [this]
      rfl
     ·rw [← hgo]
      obtain ⟨m,rfl⟩ : ∃ m,n = m + 1:=⟨n - 1,by omega⟩
      conv => rhs; unfold go
      rw [hemp]
      simp
  ·exact ⟨1,_,S.length,.lst [],by omega,by omega,rfl,qRR hp hpl,by simp,Nat.le_refl _,List.prefix_append _ _,.inl ⟨rfl,rfl⟩⟩
 obtain ⟨d,S',e,j,rfl,h1,h2,h3⟩:=key
 exact ⟨j,S',by rw [qEY]; exact qEL rfl e,h1,h2,h3⟩
end _K
end
section
namespace _K
open PySem _D
theorem qZi (p : Pt) : okD 1 (ptD p):=by
 intro x hx
 simp at hx
 rcases hx with rfl | rfl <;> trivial
theorem qMM (l : List Pt) : okD 2 (qAI l):=by
 intro x hx
 obtain ⟨p,_,rfl⟩:=List.mem_map.mp hx
 exact qZi p
theorem qFV (L : List (List Pt)) : okD 3 (.lst (L.map qAI)):=by
 intro x hx
 obtain ⟨p,_,rfl⟩:=List.mem_map.mp hx
 exact qMM p
theorem qSm (n : Nat) (i : Int) : pl n (.int i) = true:=by cases n <;> rfl
theorem qZs (n : Nat) (p : Pt) : pl (n + 1) (ptD p) = true:=by
 show ([D.int p.1,D.int p.2].all (pl n)) = true
 rw [List.all_cons,List.all_cons,qSm,qSm]
 rfl
theorem qYb (n : Nat) (l : List Pt) : pl (n + 2) (qAI l) = true:=by
 show ((l.map ptD).all (pl (n + 1))) = true
 rw [List.all_map]
 exact List.all_eq_true.mpr fun p _ => qZs n p
theorem qQv (n : Nat) (L : List (List Pt)) : pl (n + 3) (.lst (L.map qAI)) = true:=by
 show ((L.map qAI).all (pl (n + 2))) = true
 rw [List.all_map]
 exact List.all_eq_true.mpr fun l _ => qYb n l
theorem qQp (S : Sto) (a b : D) (L M : List (List Pt)) (ha : qCM 20 S a = some (.lst (L.map qAI))) (hb : qCM 20 S b = some (.lst (M.map qAI))) : qGg gNe a b S = .ok (.bl (!eqD (.lst (L.map qAI)) (.lst (M.map qAI)))) S:=by
 have h1 : pl qDf (.lst (L.map qAI)) = true:=qQv 27 L
 have h2 : pl qDf (.lst (M.map qAI)) = true:=qQv 27 M
 unfold qGg qKD
 rw [ha,hb]
 show qOZ (gNe (.lst (L.map qAI)) (.lst (M.map qAI)) (qGc S)) S = _
 unfold gNe
 rw [h1,h2]
 rfl
theorem qXc (L : List (List Pt)) : eqD (.lst (L.map qAI)) (.lst []) = L.isEmpty:=by
 cases L <;> rfl
theorem qOV {o : G2} {f g : DE} {env : qAH} {S S1 S2 : Sto} {a b : D} (h1 : f env S = .ok a S1) (h2 : g env S1 = .ok b S2) : d2 o f g env S = o a b S2:=by
 unfold d2
 rw [h1]
 simp only [Res.bind]
 rw [h2]
theorem qY1 (k : Int) (S : Sto) (env : qAH) (f : DE) (hk : 0 ≤ k ∧ k ≤ 100) (hf : f env S = .ok (.int k) S) : d2 qGD (d2 qCY f (d2 qA4 f (dC (.int 1)))) (dC (.int 2)) env S = .ok (.int (k * (k + 1) / 2)) S:=by
 have h1:=qFP k (k + 1) S ⟨by omega,by omega⟩
 have h2:=qKa (k * (k + 1)) 2 S ⟨by omega,by omega⟩
 simp only [d2,hf,Res.bind,dC,qC6,h1,h2]
theorem qY2 (lot : List Pt) (p : Pt) : (decide ((qIG (fars (lot ++ [p])) : Int) = (lot.length : Int) * ((lot.length : Int) + 1) / 2)) = unl (lot ++ [p]):=by
 have h1:=qK9 (lot ++ [p])
 have h2 : (fars (lot ++ [p])).length = (qAx (lot ++ [p])).length:=by simp [fars]
 rw [Bool.eq_iff_iff,decide_eq_true_eq]
 unfold unl
 rw [decide_eq_true_eq,← qLz,h2]
 generalize hd : qIG (fars (lot ++ [p])) = d
 generalize ha : (qAx (lot ++ [p])).length = a at h1
 rw [List.length_append,List.length_singleton] at h1
 generalize lot.length = k at h1
 have e : ((k : Int) * ((k : Int) + 1)) = 2 * (a : Int):=by
  have h3 : k * (k + 1) = 2 * a:=by
   have : (k + 1) * (k + 1) = k * (k + 1) + (k + 1):=by rw [Nat.add_mul,Nat.one_mul]
   omega
  have h4 : ((k * (k + 1) : Nat) : Int) = ((2 * a : Nat) : Int):=by rw [h3]
  simpa using h4
 rw [e]
 omega
inductive IvW2 (pts : List Pt) (S : Sto) (n : Nat) (env : qAH) (S' : Sto) : Prop
 | mk (k : Nat) (L : List (List Pt)) (j : Nat) (d : D) (e3 e4 : Option D) (h_0 : n + k = 7) (h_1 : 1 ≤ k) (h_2 : env = [some (.lst (pts.map ptD)),some d,some (.loc j),e3,e4]) (h_3 : Lev pts k L) (h_4 : S'[j]? = some (.lst (L.map qAI))) (h_5 : S.length ≤ j) (h_6 : S <+: S') (h_7 : ((k = 1 ∧ L = pts.map fun p => [p]) ∨ ∃ (prev : List (List Pt)) (j' : Nat),d = .loc j' ∧ S'[j']? = some (.lst (prev.map qAI)) ∧ S.length ≤ j' ∧ go n pts L prev = qCZ pts)) : IvW2 pts S n env S'
inductive IvL1 (pts : List Pt) (j : Nat) (S' : Sto) (L : List (List Pt)) (ds : List D) (env : qAH) (S2 : Sto) : Prop
 | mk (done rest : List (List Pt)) (e3 e4 : Option D) (h_0 : env = [some (.lst (pts.map ptD)),some (.loc j),some (.loc S'.length),e3,e4]) (h_1 : ds = rest.map qAI) (h_2 : (∀ l ∈ rest,l ∈ L)) (h_3 : done ++ next pts rest = next pts L) (h_4 : S2 = S' ++ [.lst (done.map qAI)]) : IvL1 pts j S' L ds env S2
inductive IvL2 (pts : List Pt) (j : Nat) (S' : Sto) (L : List (List Pt)) (lot : List Pt) (rest : List (List Pt)) (ds : List D) (env : qAH) (S3 : Sto) : Prop
 | mk (dn : List (List Pt)) (ps : List Pt) (e4 : Option D) (h_0 : env = [some (.lst (pts.map ptD)),some (.loc j),some (.loc S'.length),some (qAI lot),e4]) (h_1 : ds = ps.map ptD) (h_2 : (∀ p ∈ ps,p ∈ pts)) (h_3 : dn ++ (ps.map fun p => lot ++ [p]).filter unl ++ next pts rest = next pts L) (h_4 : S3 = S' ++ [.lst (dn.map qAI)]) : IvL2 pts j S' L lot rest ds env S3
theorem qQL (pts : List Pt) (S : Sto) (hp : ∀ p ∈ pts,In4 p) (hpl : pts.length ≤ 16) (hne : pts ≠ []) : ∃ (j : Nat) (S' : Sto),qCT [.lst (pts.map ptD)] S = .ok (.loc j) S' ∧ S'[j]? = some (.lst ((qCZ pts).map qAI)) ∧ S.length ≤ j ∧ S <+: S':=by
 have key : Rt (qCV [some (.lst (pts.map ptD)),none,none,none,none] S) fun d S' => ∃ j,d = .loc j ∧ S'[j]? = some (.lst ((qCZ pts).map qAI)) ∧ S.length ≤ j ∧ S <+: S':=by
  unfold qCV
  have l0 : 0 ≤ lim:=by decide
  have l1 : 1 ≤ lim:=by decide
  refine qA0 (qBZ (qA5 (d:=.lst [.tup []]) (S:=S) (by simp [qAT,qEM,qWC,qaq,qWB,qAc,sIf,qAs,qBQ,qB3,qBE,gNm,gSb,gTp,qBC,qDw,qNY,qUB,qRa,dC,qAD,d1,d2,qAA,qAF,qAM,qAO,dTr,qDt,qF9,qE1,qBN,qIE,qTV,qO4,qAu,qBK,qKY,dBm,dSl,qDe,qIg,qCr,qEa,Res.bind,Res.toS,_D.qGJ,_D.qDn,qKT,qar,qat,qay,qav,qaw,qax,qau,qap,qQd,qas,gLt,gLe,gGt,gGe,_D.qEb,qRJ,l0,l1]) ?_))
  have c0:=qNn pts (dIt (qAD 0)) [some (.lst (pts.map ptD)),some (.lst [.tup []]),none,none,none] S rfl (by omega)
  refine qA0 (qBZ (qA5 c0 ?_))
  have hbig : 7 < big:=by rw [qRk]; omega
  refine qA0 ?_
  refine qPZ (IvW2 pts S) ?_ (n:=6) (by omega) ?_
  ·rintro n env S' ⟨k,L,j,d,e3,e4,hnk,hk1,rfl,hL,hj,hjS,hpre,hd⟩
   have ht : qGg gNe (.loc j) (.lst []) S' = .ok (.bl (!L.isEmpty)) S':=by
    have:=qQp S' (.loc j) (.lst []) L [] (qKj S' j 3 _ hj (qFV L) (by omega)) rfl
    rw [this]
    show Res.ok (D.bl (!eqD (.lst (L.map qAI)) (.lst []))) S' = _
    rw [qXc]
   cases hemp : L.isEmpty with
   | true =>
    have hL0 : L = []:=by simpa using hemp
    subst hL0
    refine ⟨false,S',by simp [qAT,qEM,qWC,qaq,qWB,qAc,sIf,qAs,qBQ,qB3,qBE,gNm,gSb,gTp,qBC,qDw,qNY,qUB,qRa,dC,qAD,d1,d2,qAA,qAF,qAM,qAO,dTr,qDt,qF9,qE1,qBN,qIE,qTV,qO4,qAu,qBK,qKY,dBm,dSl,qDe,qIg,qCr,qEa,Res.bind,Res.toS,_D.qGJ,_D.qDn,qKT,qar,qat,qay,qav,qaw,qax,qau,qap,qQd,qas,gLt,gLe,gGt,gGe,_D.qEb,qRJ,l0,ht],?_⟩
    rcases hd with ⟨h1,h2⟩ | ⟨prev,j',rfl,hj',hjS',hgo⟩
    ·have : pts = []:=by simpa using h2.symm
     exact absurd this hne
    ·simp only [Bool.false_eq_true,if_false]
     refine qF4 (qA5 rfl ⟨j',rfl,?_,hjS',hpre⟩)
     have : go n pts [] prev = prev:=by cases n <;> simp [go]
     rw [this] at hgo
     rw [← hgo]
     exact hj'
   | false =>
    have hLne : L ≠ []:=by
     intro e
     subst e
     simp at hemp
    have hk5:=hL.small hLne
    refine ⟨true,S',by simp [qAT,qEM,qWC,qaq,qWB,qAc,sIf,qAs,qBQ,qB3,qBE,gNm,gSb,gTp,qBC,qDw,qNY,qUB,qRa,dC,qAD,d1,d2,qAA,qAF,qAM,qAO,dTr,qDt,qF9,qE1,qBN,qIE,qTV,qO4,qAu,qBK,qKY,dBm,dSl,qDe,qIg,qCr,qEa,Res.bind,Res.toS,_D.qGJ,_D.qDn,qKT,qar,qat,qay,qav,qaw,qax,qau,qap,qQd,qas,gLt,gLe,gGt,gGe,_D.qEb,qRJ,l0,ht,hemp],?_⟩
    simp only [if_true]
    have hjl : j < S'.length:=(List.getElem?_eq_some_iff.mp hj).1
    refine qCb (qBm (env:=[some (.lst (pts.map ptD)),some (.loc j),some (.loc S'.length),e3,e4]) (S:=S' ++ [.lst []]) (by simp [qAT,qEM,qWC,qaq,qWB,qAc,sIf,qAs,qBQ,qB3,qBE,gNm,gSb,gTp,qBC,qDw,qNY,qUB,qRa,dC,qAD,d1,d2,qAA,qAF,qAM,qAO,dTr,qDt,qF9,qE1,qBN,qIE,qTV,qO4,qAu,qBK,qKY,dBm,dSl,qDe,qIg,qCr,qEa,Res.bind,Res.toS,_D.qGJ,_D.qDn,qKT,qar,qat,qay,qav,qaw,qax,qau,qap,qQd,qas,gLt,gLe,gGt,gGe,_D.qEb,qRJ,l0]) ?_)
    have hj1 : ∀ m,(S' ++ [m])[j]? = some (.lst (L.map qAI)):=fun m => by
     rw [List.getElem?_append_left hjl]
     exact hj
    have hit : dIt (qAD 1) [some (.lst (pts.map ptD)),some (.loc j),some (.loc S'.length),e3,e4] (S' ++ [.lst []]) = .ok (some (j,.lst (L.map qAI)),L.map qAI) (S' ++ [.lst []]):=by
     unfold dIt
     simp only [qAD,List.getElem?_cons_zero,List.getElem?_cons_succ,Res.bind,itD,hj1]
    have hlen : (next pts L).length ≤ 16 ^ 5 * 16:=by
     have h1 : (next pts L).length ≤ (grow pts L).length:=List.length_filter_le _ _
     have h2:=qJS pts L
     have h3 : L.length * pts.length ≤ 16 ^ 5 * 16:=Nat.mul_le_mul (Nat.le_trans hL.len (Nat.pow_le_pow_right (by omega) hk5)) hpl
     omega
    refine qV5 hit ?_
    refine qPY (IvL1 pts j S' L) ?_ ?_ ?_ ?_
    ·rintro ds env S2 ⟨done,rest,e3,e4,rfl,_,_,_,rfl⟩
     exact hj1 _
    ·rintro d2 ds env S2 ⟨done,rest,e3,e4,rfl,hds,hr,hall,rfl⟩
     cases rest with
     | nil => cases hds
     | cons lot rest =>
      injection hds with h1 h2
      subst h1 h2
      refine ⟨[some (.lst (pts.map ptD)),some (.loc j),some (.loc S'.length),some (qAI lot),e4],S' ++ [.lst (done.map qAI)],rfl,?_⟩
      have hlot:=hL.lot lot (hr lot (List.mem_cons_self ..))
      have hlne : lot ≠ []:=by
       intro e
       subst e
       simp at hlot
       omega
      have x1:=qQf lot (S' ++ [.lst (done.map qAI)]) hlne
      have hc:=qKX (enc:=ptD) (xs:=pts) (fi:=dIt (qAD 0)) (env:=[some (.lst (pts.map ptD)),some (.loc j),some (.loc S'.length),some (qAI lot),e4]) (S:=S' ++ [.lst (done.map qAI)]) (o:=none) (cap:=[none,some 3]) (g:=gNm 0) (t:=qE1 (dTr (d2 qKF (qAD 0) (d2 gIx (qAD 1) (d1 qLL (dC (.int 1)))))) (qBN)) (fe:=qAD 0) rfl trivial (fun p => ltP (qES lot) p) ptD (fun env => ∃ a,env = [a,some (qAI lot)]) ⟨none,rfl⟩ (by unfold lim; omega)
       (fun p _ env ⟨a,e⟩ => by
        subst e
        refine ⟨[some (ptD p),some (qAI lot)],rfl,⟨_,rfl⟩,?_,fun _ => rfl⟩
        simp only [qE1,dTr,d2,qAD,List.getElem?_cons_zero,List.getElem?_cons_succ,Res.bind,qUr,x1,qUq,qKT,_D.qGJ,qBN]
        cases ltP (qES lot) p <;> rfl)
      refine qEJ (ds:=(pts.filter fun p => ltP (qES lot) p).map ptD) (S1:=S' ++ [.lst (done.map qAI)]) (by unfold qCr; rw [hc]; rfl) ?_
      refine qDP (IvL2 pts j S' L lot rest) ?_ ?_ ?_
      ·rintro d3 ds env S3 ⟨dn,ps,e4,rfl,hds,hps,hall3,rfl⟩
       cases ps with
       | nil => cases hds
       | cons p ps =>
        injection hds with h1 h2
        subst h1 h2
        refine ⟨[some (.lst (pts.map ptD)),some (.loc j),some (.loc S'.length),some (qAI lot),some (ptD p)],S' ++ [.lst (dn.map qAI)],rfl,?_⟩
        have hpp:=hp p (hps p (List.mem_cons_self ..))
        have cc:=qOw lot p (S' ++ [.lst (dn.map qAI)]) (by omega)
        have lf:=qWT (lot ++ [p]) (S' ++ [.lst (dn.map qAI)]) (fun q hq => by
         rcases List.mem_append.mp hq with hq | hq
         ·exact qEq (qL7 (hlot.2.2 q hq))
         ·have : q = p:=by simpa using hq
          subst this; exact qEq (qL7 hpp)) (by simp; omega)
        have hfl : (fars (lot ++ [p])).length < 4000:=by
         simp only [fars,List.length_map]
         exact qMH (by simp; omega)
        have hls:=qNc (qAO 1 qCh (qAA (d2 qA4 (qAD 3) (qAu (qAA (qAD 4) (qAF)))) (qAF))) (fars (lot ++ [p])) [some (.lst (pts.map ptD)),some (.loc j),some (.loc S'.length),some (qAI lot),some (ptD p)] (S' ++ [.lst (dn.map qAI)]) (S' ++ [.lst (dn.map qAI)]) (by simp [qAT,qEM,qWC,qaq,qWB,qAc,sIf,qAs,qBQ,qB3,qBE,gNm,gSb,gTp,qBC,qDw,qNY,qUB,qRa,dC,qAD,d1,d2,qAA,qAF,qAM,qAO,dTr,qDt,qF9,qE1,qBN,qIE,qTV,qO4,qAu,qBK,qKY,dBm,dSl,qDe,qIg,qCr,qEa,Res.bind,Res.toS,_D.qGJ,_D.qDn,qKT,qar,qat,qay,qav,qaw,qax,qau,qap,qQd,qas,gLt,gLe,gGt,gGe,_D.qEb,qRJ,l1,cc,lf]) hfl
        have htr:=qY1 (lot.length : Int) (S' ++ [.lst (dn.map qAI)]) [some (.lst (pts.map ptD)),some (.loc j),some (.loc S'.length),some (qAI lot),some (ptD p)] (qAM qA3 (qAA (qAD 3) (qAF))) ⟨by omega,by omega⟩ (by
         have : qA3 [qAI lot] (S' ++ [.lst (dn.map qAI)]) = .ok (.int (lot.length : Int)) (S' ++ [.lst (dn.map qAI)]):=by unfold qAI; rw [qLS,List.length_map]
         simp [qAT,qEM,qWC,qaq,qWB,qAc,sIf,qAs,qBQ,qB3,qBE,gNm,gSb,gTp,qBC,qDw,qNY,qUB,qRa,dC,qAD,d1,d2,qAA,qAF,qAM,qAO,dTr,qDt,qF9,qE1,qBN,qIE,qTV,qO4,qAu,qBK,qKY,dBm,dSl,qDe,qIg,qCr,qEa,Res.bind,Res.toS,_D.qGJ,_D.qDn,qKT,qar,qat,qay,qav,qaw,qax,qau,qap,qQd,qas,gLt,gLe,gGt,gGe,_D.qEb,qRJ,this])
        refine qDy (b:=unl (lot ++ [p])) (S1:=S' ++ [.lst (dn.map qAI)]) ?_ ?_
        ·rw [← qY2]
         unfold dTr
         have : d2 gEq (qFN (qAO 1 qCh (qAA (d2 qA4 (qAD 3) (qAu (qAA (qAD 4) (qAF)))) (qAF)))) (d2 qGD (d2 qCY (qAM qA3 (qAA (qAD 3) (qAF))) (d2 qA4 (qAM qA3 (qAA (qAD 3) (qAF))) (dC (.int 1)))) (dC (.int 2))) [some (.lst (pts.map ptD)),some (.loc j),some (.loc S'.length),some (qAI lot),some (ptD p)] (S' ++ [.lst (dn.map qAI)]) = .ok (.bl (decide ((qIG (fars (lot ++ [p])) : Int) = (lot.length : Int) * ((lot.length : Int) + 1) / 2))) (S' ++ [.lst (dn.map qAI)]):=by
          rw [qOV hls htr,qIi]
         rw [this]
         rfl
        ·have hps' : ∀ q ∈ ps,q ∈ pts:=fun q hq => hps q (List.mem_cons_of_mem _ hq)
         cases hb2 : unl (lot ++ [p]) with
         | true =>
          have hat : (S' ++ [MO.lst (dn.map qAI)])[S'.length]? = some (.lst (dn.map qAI)):=by simp
          have hty : tyD (.loc S'.length) (S' ++ [MO.lst (dn.map qAI)]) = some "list":=qMY hat
          have hap : qBg (.loc S'.length) [qAI (lot ++ [p])] (S' ++ [MO.lst (dn.map qAI)]) = .ok .non (S' ++ [MO.lst ((dn ++ [lot ++ [p]]).map qAI)]):=by
           have : (dn.map qAI).length < lim:=by
            have h4:=congrArg List.length hall3
            rw [List.map_cons,List.filter_cons_of_pos (by simpa using hb2)] at h4
            simp only [List.length_append,List.length_cons] at h4
            rw [List.length_map]
            unfold lim
            omega
           rw [qJ3 hat this]
           congr 1
           simp
          refine qBm (env:=[some (.lst (pts.map ptD)),some (.loc j),some (.loc S'.length),some (qAI lot),some (ptD p)]) (S:=S' ++ [MO.lst ((dn ++ [lot ++ [p]]).map qAI)]) ?_ ⟨dn ++ [lot ++ [p]],ps,_,rfl,rfl,hps',?_,rfl⟩
          ·simp only [if_true,qB3,dBm,qAD,qAA,qAF,List.getElem?_cons_zero,List.getElem?_cons_succ,Res.bind,hty,beq_self_eq_true,d2,qAu,List.length_cons,List.length_nil,Nat.zero_add,l1,cc,hap,Res.toS]
          ·rw [← hall3,List.map_cons,List.filter_cons_of_pos (by simpa using hb2)]
           simp
         | false =>
          refine qBm (env:=[some (.lst (pts.map ptD)),some (.loc j),some (.loc S'.length),some (qAI lot),some (ptD p)]) (S:=S' ++ [MO.lst (dn.map qAI)]) rfl ⟨dn,ps,_,rfl,rfl,hps',?_,rfl⟩
          rw [← hall3,List.map_cons,List.filter_cons_of_neg (by simp [hb2])]
      ·rintro env S3 ⟨dn,ps,e4,rfl,hds,hps,hall3,rfl⟩
       cases ps with
       | cons _ _ => cases hds
       | nil =>
        refine ⟨dn,rest,_,_,rfl,rfl,fun l hl => hr l (List.mem_cons_of_mem _ hl),?_,rfl⟩
        simpa using hall3
      ·refine ⟨done,pts.filter fun p => ltP (qES lot) p,e4,rfl,rfl,fun p hp => (List.mem_filter.mp hp).1,?_,rfl⟩
       rw [← hall]
       simp [next,grow]
    ·rintro env S2 ⟨done,rest,e3,e4,rfl,hds,hr,hall,rfl⟩
     cases rest with
     | cons _ _ => cases hds
     | nil =>
      have : done = next pts L:=by simpa [next,grow] using hall
      subst this
      refine ⟨n - 1,by omega,k + 1,next pts L,S'.length,.loc j,e3,e4,by omega,by omega,rfl,hL.next hp hpl,by simp,?_,hpre.trans (List.prefix_append _ _),.inr ⟨L,j,rfl,hj1 _,hjS,?_⟩⟩
      ·have h1:=qNC hpre
       omega
      ·rcases hd with ⟨h1,h2⟩ | ⟨prev,j',_,_,_,hgo⟩
       ·subst h2
        have : n - 1 = 5:=by omega
        rw [this]
        rfl
       ·rw [← hgo]
        obtain ⟨m,rfl⟩ : ∃ m,n = m + 1:=⟨n - 1,by omega⟩
        conv => rhs; unfold go
        rw [hemp]
        simp
    ·exact ⟨[],L,e3,e4,rfl,rfl,fun _ h => h,rfl,rfl⟩
  ·exact ⟨1,_,S.length,.lst [.tup []],none,none,by omega,by omega,rfl,qRR hp hpl,by simp,Nat.le_refl _,List.prefix_append _ _,.inl ⟨rfl,rfl⟩⟩
 obtain ⟨d,S',e,j,rfl,h1,h2,h3⟩:=key
 exact ⟨j,S',by rw [qFo]; exact qEL rfl e,h1,h2,h3⟩
end _K
end
section
namespace _K
open PySem _D
set_option tactic.hygienic true in
theorem qUp (pts : List Pt) : ∀ n L prev,prev ≠ [] → go n pts L prev ≠ []
 | 0,_,_,h => h
 | n + 1,L,prev,h => by
  unfold go
  split
  ·exact h
  ·rename_i h2
   exact qUp pts n _ L (by simpa using h2)
theorem qPM {pts : List Pt} (h : pts ≠ []) : qCZ pts ≠ []:=qUp pts _ _ _ (by simpa using h)
noncomputable def most (pts : List Pt) : Nat:=((qCZ pts).headD []).length
theorem qOj {S : Sto} {j : Nat} {L : List (List Pt)} (hj : S[j]? = some (.lst (L.map qAI))) (h : L ≠ []) : gIx (.loc j) (.int 0) S = .ok (qAI (L.headD [])) S:=by
 refine qMB j 0 _ _ S hj ?_
 cases L with
 | nil => exact absurd rfl h
 | cons l L => exact qRi _ 0 _ rfl
theorem qQm (l : List Pt) (S : Sto) : qA3 [qAI l] S = .ok (.int (l.length : Int)) S:=by
 unfold qAI
 rw [qLS,List.length_map]
theorem qYr (w h : Nat) (S : Sto) (c : Cl) (hw : 1 ≤ w ∧ w ≤ 4) (hh : 1 ≤ h ∧ h ≤ 4) : ∃ S' : Sto,qBh c [.int (w : Int),.int (h : Int)] S = .ok (.int (most (qAj w h) : Int)) S' ∧ S <+: S':=by
 obtain ⟨j,S',e,hj,_,hp⟩:=qJu w h S c hw hh
 have h1:=qOj hj (qPM (qI7 hw.1 hh.1))
 refine ⟨S',?_,hp⟩
 rw [qEW]
 unfold qDI
 refine qGo (env:=[some (.int (w : Int)),some (.int (h : Int))]) rfl ?_
 have h2:=qQm ((qCZ (qAj w h)).headD []) S'
 simp only [qAM,qAA,qAF,d2,qAO,qAD,dC,List.getElem?_cons_zero,List.getElem?_cons_succ,Res.bind,List.length_cons,List.length_nil,if_true,e,h1,h2]
 rfl
noncomputable def No2 (m : Int) (a b : D) : Prop:=qGW 1 m a ∨ ((∃ i : Int,a = .int i ∧ 1 ≤ i ∧ i ≤ m) ∧ qGW 1 m b)
theorem qPD (F : DF) (env : qAH) (S S' : Sto) (i : Nat) (a x : D) (v : Value) (m : Int) (h0 : env[i]? = some (some a)) (h : F [a,.int 1,.int m] S = .ex v x S') : qAO 3 F (qAA (qAD i) (qAA (dC (.int 1)) (qAA (dC (.int m)) (qAF)))) env S = .ex v x S':=by
 simp only [qAO,qAA,qAF,qAD,h0,dC,Res.bind,List.length_cons,List.length_nil,if_true,h]
theorem qT9 (F : DF) (env : qAH) (S S' : Sto) (i : Nat) (a x : D) (m : Int) (h0 : env[i]? = some (some a)) (h : F [a,.int 1,.int m] S = .ok x S') : qAO 3 F (qAA (qAD i) (qAA (dC (.int 1)) (qAA (dC (.int m)) (qAF)))) env S = .ok x S':=by
 simp only [qAO,qAA,qAF,qAD,h0,dC,Res.bind,List.length_cons,List.length_nil,if_true,h]
theorem qSi (m : Int) (a b : D) (rest : DS) (env : qAH) (S : Sto) (c : Cl) (hm : qMG 1 m = true) (h0 : env[0]? = some (some a)) (h1 : env[1]? = some (some b)) (h : No2 m a b) :
  qAc (qB3 (qAO 3 (qA6 c) (qAA (qAD 0) (qAA (dC (.int 1)) (qAA (dC (.int m)) (qAF)))))) (qAc (qB3 (qAO 3 (qA6 c) (qAA (qAD 1) (qAA (dC (.int 1)) (qAA (dC (.int m)) (qAF)))))) rest) env S = .ex (.ref c.NoNumber) .non env S:=by
 rcases h with h | ⟨⟨i,rfl,h2,h3⟩,h⟩
 ·have e:=qPD _ env S S 0 a .non _ m h0 (qN5 a 1 m S c hm h)
  simp only [qAc,qB3,e,Res.toS]
 ·have e:=qT9 _ env S S 0 (.int i) .non m h0 (qKP i 1 m S c ⟨h2,h3⟩)
  have e2:=qPD _ env S S 1 b .non _ m h1 (qN5 b 1 m S c hm h)
  simp only [qAc,qB3,e,Res.toS,e2]
theorem qSy {n : Nat} {g : DS} {ds : List D} {S S' : Sto} {v : Value} {x : D} {env env' : qAH} (hs : qEM n ds = env) (h : g env S = .ex v x env' S') : qAT n g ds S = .ex v x S':=by
 subst hs
 unfold qAT
 rw [h]
 rfl
theorem qX1 : qMG 1 12 = true:=kd
theorem qZZ : qMG 1 4 = true:=kd
theorem qSh (a b : D) (S : Sto) (c : Cl) (h : No2 12 a b) : qDZ c [a,b] S = .ex (.ref c.NoNumber) .non S:=by
 rw [qIC]
 unfold qFK
 exact qSy rfl (qSi 12 a b _ _ S c qX1 rfl rfl h)
theorem qQq (a b : D) (S : Sto) (c : Cl) (h : No2 4 a b) : qBM c [a,b] S = .ex (.ref c.NoNumber) .non S:=by
 rw [qEY]
 unfold qCQ
 exact qSy rfl (qSi 4 a b _ _ S c qZZ rfl rfl h)
theorem qV3 (a b : D) (S : Sto) (c : Cl) (h : No2 4 a b) : qBh c [a,b] S = .ex (.ref c.NoNumber) .non S:=by
 have e:=qQq a b S c h
 rw [qEW]
 unfold qDI
 simp [qAT,qEM,qWC,qaq,qWB,qAc,sIf,qAs,qBQ,qB3,qBE,gNm,gSb,gTp,qBC,qDw,qNY,qUB,qRa,dC,qAD,d1,d2,qAA,qAF,qAM,qAO,dTr,qDt,qF9,qE1,qBN,qIE,qTV,qO4,qAu,qBK,qKY,dBm,dSl,qDe,qIg,qCr,qEa,Res.bind,Res.toS,_D.qGJ,_D.qDn,qKT,qar,qat,qay,qav,qaw,qax,qau,qap,qQd,qas,gLt,gLe,gGt,gGe,_D.qEb,qRJ,e]
theorem qS4 (Fs : List (Nat × DF)) (F : DF) (k : Int) (a b : D) (S : Sto) (h : _L.atI Fs k = some (2,F)) : qMu Fs (qAD 0) (qAA (qAD 1) (qAA (qAD 2) (qAF))) [some (.int k),some a,some b,none] S = F [a,b] S:=by
 simp only [qMu,qAD,qAA,qAF,List.getElem?_cons_zero,List.getElem?_cons_succ,Res.bind,h,List.length_cons,List.length_nil,if_true]
theorem qMp (c : Cl) (k : Int) (a b d : D) (S S' : Sto) (F : DF) (hk : _L.atI [(2,(qDZ c)),(2,(qBh c)),(2,(qBM c))] k = some (2,F)) (h : F [a,b] S = .ok d S') : qAp c [.int k,a,b] S = .ok d S':=by
 rw [qFG]
 unfold qEC
 refine qEL (env:=[some (.int k),some a,some b,none]) rfl ?_
 have e:=qS4 _ F k a b S hk
 rw [h] at e
 simp only [qNZ,qAs,e,Res.toS]
theorem qMo (c : Cl) (nd : (qBw c).Nodup) (k : Int) (a b : D) (S S' : Sto) (F : DF) (hk : _L.atI [(2,(qDZ c)),(2,(qBh c)),(2,(qBM c))] k = some (2,F)) (h : F [a,b] S = .ex (.ref c.NoNumber) .non S') : qAp c [.int k,a,b] S = .ok (.str "number") S':=by
 rw [qFG]
 unfold qEC
 refine qEL (env:=[some (.int k),some a,some b,none]) rfl ?_
 have e:=qS4 _ F k a b S hk
 rw [h] at e
 have hc : (caught c).contains (.ref c.NoNumber) = true:=by
  rw [List.contains_iff_mem]
  simp [caught]
 have hk2:=qMS c nd S'
 simp only [qNZ,qAs,e,Res.toS,hc,if_true]
 simp [qAT,qEM,qWC,qaq,qWB,qAc,sIf,qAs,qBQ,qB3,qBE,gNm,gSb,gTp,qBC,qDw,qNY,qUB,qRa,dC,qAD,d1,d2,qAA,qAF,qAM,qAO,dTr,qDt,qF9,qE1,qBN,qIE,qTV,qO4,qAu,qBK,qKY,dBm,dSl,qDe,qIg,qCr,qEa,Res.bind,Res.toS,_D.qGJ,_D.qDn,qKT,qar,qat,qay,qav,qaw,qax,qau,qap,qQd,qas,gLt,gLe,gGt,gGe,_D.qEb,qRJ,hk2]
theorem qWx (c : Cl) (w h : Nat) (S : Sto) (hw : 1 ≤ w ∧ w ≤ 12) (hh : 1 ≤ h ∧ h ≤ 12) : ∃ S',qAp c [.int 0,.int (w : Int),.int (h : Int)] S = .ok (qAI (qJF (qAj w h))) S' ∧ S <+: S':=by
 obtain ⟨S',e,p⟩:=qUK w h S c hw hh
 exact ⟨S',qMp c 0 _ _ _ S S' _ rfl e,p⟩
theorem qWy (c : Cl) (w h : Nat) (S : Sto) (hw : 1 ≤ w ∧ w ≤ 4) (hh : 1 ≤ h ∧ h ≤ 4) : ∃ S',qAp c [.int 1,.int (w : Int),.int (h : Int)] S = .ok (.int (most (qAj w h) : Int)) S' ∧ S <+: S':=by
 obtain ⟨S',e,p⟩:=qYr w h S c hw hh
 exact ⟨S',qMp c 1 _ _ _ S S' _ rfl e,p⟩
theorem qOv (c : Cl) (w h : Nat) (S : Sto) (hw : 1 ≤ w ∧ w ≤ 4) (hh : 1 ≤ h ∧ h ≤ 4) : ∃ j S',qAp c [.int 2,.int (w : Int),.int (h : Int)] S = .ok (.loc j) S' ∧ S'[j]? = some (.lst ((qCZ (qAj w h)).map qAI)) ∧ S.length ≤ j ∧ S <+: S':=by
 obtain ⟨j,S',e,p⟩:=qJu w h S c hw hh
 exact ⟨j,S',qMp c 2 _ _ _ S S' _ rfl e,p⟩
noncomputable def Way (k m : Int) : Prop:=(k = 0 ∧ m = 12) ∨ (k = 1 ∧ m = 4) ∨ (k = 2 ∧ m = 4)
theorem qTM (c : Cl) (nd : (qBw c).Nodup) (k m : Int) (a b : D) (S : Sto) (hk : Way k m) (h : No2 m a b) : qAp c [.int k,a,b] S = .ok (.str "number") S:=by
 rcases hk with ⟨rfl,rfl⟩ | ⟨rfl,rfl⟩ | ⟨rfl,rfl⟩
 ·exact qMo c nd 0 a b S S _ rfl (qSh a b S c h)
 ·exact qMo c nd 1 a b S S _ rfl (qV3 a b S c h)
 ·exact qMo c nd 2 a b S S _ rfl (qQq a b S c h)
end _K
end
section
namespace _K
open PySem _D
theorem qTt (i j : Int) (S : Sto) : qEb (.int i) (.int j) S = .ok (.int (i - j)) S:=rfl
theorem qKZ (S : Sto) (p : Nat) (m : Int) (env : qAH) (he : env[2]? = some (some (.loc p))) (h : qDo S p) (hm : 0 < m ∧ m < 1073741824) : ∃ (n : Nat) (S' : Sto),d2 qEb (dC (.int m)) (qAO 2 qBX (qAA (qAD 2) (qAA (dC (.int m)) (qAF)))) env S = .ok (.int (n : Int)) S' ∧ qDo S' p ∧ 1 ≤ n ∧ (n : Int) ≤ m:=by
 obtain ⟨r,v,f,e,h1,h2⟩:=qSs S p m h hm
 obtain ⟨n,hn⟩:=Int.eq_ofNat_of_zero_le (show 0 ≤ m - r by omega)
 refine ⟨n,_,?_,qPi h v f,by omega,by omega⟩
 simp only [d2,dC,qAO,qAA,qAF,qAD,he,Res.bind,List.length_cons,List.length_nil,if_true,e,qTt,hn]
theorem qal {f1 f2 f3 f4 : DE} {env : qAH} {S S1 S2 S3 S4 : Sto} {a b c d : D} (h1 : f1 env S = .ok a S1) (h2 : f2 env S1 = .ok b S2) (h3 : f3 env S2 = .ok c S3) (h4 : f4 env S3 = .ok d S4) : qAu (qAA f1 (qAA f2 (qAA f3 (qAA f4 (qAF))))) env S = .ok (.tup [a,b,c,d]) S4:=by
 have l4 : 4 ≤ lim:=by decide
 simp only [qAu,qAA,qAF,h1,h2,h3,h4,Res.bind,List.length_cons,List.length_nil,Nat.zero_add,Nat.reduceAdd,l4,if_true]
theorem qI9 {F : DF} {f1 f2 f3 : DE} {env : qAH} {S : Sto} {a b c : D} (h1 : f1 env S = .ok a S) (h2 : f2 env S = .ok b S) (h3 : f3 env S = .ok c S) : qAO 3 F (qAA f1 (qAA f2 (qAA f3 (qAF)))) env S = F [a,b,c] S:=by
 simp only [qAO,qAA,qAF,h1,h2,h3,Res.bind,List.length_cons,List.length_nil,if_true]
theorem qOU {F : DF} {f1 f2 : DE} {env : qAH} {S S1 S2 : Sto} {a b : D} (h1 : f1 env S = .ok a S1) (h2 : f2 env S1 = .ok b S2) : qAO 2 F (qAA f1 (qAA f2 (qAF))) env S = F [a,b] S2:=by
 simp only [qAO,qAA,qAF,h1,h2,Res.bind,List.length_cons,List.length_nil,if_true]
theorem qRD {F : DF} {f1 : DE} {env : qAH} {S S1 : Sto} {a : D} (h1 : f1 env S = .ok a S1) : qAO 1 F (qAA f1 (qAF)) env S = F [a] S1:=by
 simp only [qAO,qAA,qAF,h1,Res.bind,List.length_cons,List.length_nil,if_true]
theorem qXz {f1 f2 : DE} {env : qAH} {S S1 S2 : Sto} {a b : D} (h1 : f1 env S = .ok a S1) (h2 : f2 env S1 = .ok b S2) : qBK (qAA f1 (qAA f2 (qAF))) env S = .ok (.lst [a,b]) S2:=by
 have l2 : 2 ≤ lim:=by decide
 simp only [qBK,qAA,qAF,h1,h2,Res.bind,List.length_cons,List.length_nil,Nat.zero_add,Nat.reduceAdd,l2,if_true]
theorem qPX {f : DE} {env : qAH} {S S' : Sto} (h : f env S = .ok (.bl true) S') : qDt (dTr f) env S = .ok false S':=by
 simp only [qDt,dTr,h,Res.bind,qKT,_D.qGJ]
 rfl
theorem qPt (S : Sto) (n : Int) (j : Nat) (L : List (List Pt)) (h : S[j]? = some (.lst (L.map qAI))) : qCM 20 S (.lst [.int n,.loc j]) = some (.lst [.int n,.lst (L.map qAI)]):=by
 have h1:=qKk S 3 19 (.lst (L.map qAI)) (qFV L) (by omega)
 have h2 : qCM 19 S (.loc j) = some (.lst (L.map qAI)):=by
  show (match S[j]? with | some (.lst xs) => (mapO (qCM 18 S) xs).map D.lst | _ => none) = _
  rw [h]
  exact h1
 have h3 : qCM 19 S (.int n) = some (.int n):=rfl
 have h4 : mapO (qCM 19 S) [.int n,.loc j] = some [.int n,.lst (L.map qAI)]:=by simp only [mapO,h2,h3]
 show (mapO (qCM 19 S) [.int n,.loc j]).map D.lst = _
 rw [h4]
 rfl
theorem qV9 (n : Int) (L : List (List Pt)) : okD 5 (.lst [.int n,.lst (L.map qAI)]):=by
 refine qPa (n:=4) (by omega) ?_
 intro x hx
 simp at hx
 rcases hx with rfl | rfl
 ·trivial
 ·exact qFV L
theorem qS0 (S : Sto) (i j : Nat) (L : List (List Pt)) (hi : S[i]? = some (.lst (L.map qAI))) (hj : S[j]? = some (.lst (L.map qAI))) : qET qA2 [.loc i,.loc j] S = .ok (.bl true) S :=
 qKM S _ _ _ 5 (qKj S i 3 _ hi (qFV L) (by omega)) (qKj S j 3 _ hj (qFV L) (by omega)) (qPa (by omega) (qFV L)) rfl
theorem qUO (S : Sto) (l : List Pt) : qET qA2 [qAI l,qAI l] S = .ok (.bl true) S :=
 qKM S _ _ _ 5 (qKk S 2 20 _ (qMM l) (by omega)) (qKk S 2 20 _ (qMM l) (by omega)) (qPa (by omega) (qMM l)) rfl
theorem qS1 (S : Sto) (n : Int) (i j : Nat) (L : List (List Pt)) (hi : S[i]? = some (.lst (L.map qAI))) (hj : S[j]? = some (.lst (L.map qAI))) : qET qA2 [.lst [.int n,.loc i],.lst [.int n,.loc j]] S = .ok (.bl true) S :=
 qKM S _ _ _ 5 (qPt S n i L hi) (qPt S n j L hj) (qV9 n L) rfl
theorem qVl : qCZ (qAj 1 1) = [[(0,0)]]:=kd
theorem qXd (S : Sto) (j : Nat) (h : S[j]? = some (.lst ((qCZ (qAj 1 1)).map qAI))) : qGg gNe (.loc j) (.lst [.tup [.tup [.int 0,.int 0]]]) S = .ok (.bl false) S:=by
 have:=qQp S (.loc j) (.lst [.tup [.tup [.int 0,.int 0]]]) _ [[(0,0)]] (qKj S j 3 _ h (qFV _) (by omega)) rfl
 rw [this,qVl]
 have e : eqD (.lst ([[((0 : Int),(0 : Int))]].map qAI)) (.lst ([[((0 : Int),(0 : Int))]].map qAI)) = true:=kd
 rw [e]
 rfl
noncomputable def qI6 (d : D) (m : Int) : List (D × D):=[(d,.int 1),(.int 1,d),(d,d),(.int (m + 1),.int 1),(.int 1,.int (m + 1)),(.int 0,.int 1)]
noncomputable def qJW (x : D × D) : D:=.tup [x.1,x.2]
theorem qVA (d : D) (m : Int) (hm : 1 ≤ m) (hd : qGW 1 m d) : ∀ x ∈ qI6 d m,No2 m x.1 x.2:=by
 intro x hx
 simp only [qI6,List.mem_cons,List.not_mem_nil,or_false] at hx
 rcases hx with rfl | rfl | rfl | rfl | rfl | rfl
 ·exact .inl hd
 ·exact .inr ⟨⟨1,rfl,by omega,hm⟩,hd⟩
 ·exact .inl hd
 ·exact .inl (qF3 (by omega))
 ·exact .inr ⟨⟨1,rfl,by omega,hm⟩,qF3 (by omega)⟩
 ·exact .inl (qF3 (by omega))
theorem gt2 (i j : Nat) (a b : D) (env : qAH) (S : Sto) : gTp 2 (qBC (gNm i) (qBC (gNm j) (qDw))) (.tup [a,b]) env S = .ok ((env.set i (some a)).set j (some b)) S:=rfl
theorem qTQ (c : Cl) (nd : (qBw c).Nodup) (k m : Int) (d : D) (env : qAH) (S : Sto) (hk : Way k m) (hd : qGW 1 m d) (h12 : env[12]? = some (some (.int k))) (h15 : env[15]? = some (some (.lst ((qI6 d m).map qJW)))) :
  qA1 false [none,none,some 12] (dIt (qAD 15)) (gTp 2 (qBC (gNm 0) (qBC (gNm 1) (qDw)))) (qBN) (qAy (qAO 3 (okO (qAp c)) (qAA (qAD 2) (qAA (qAD 0) (qAA (qAD 1) (qAF)))))) env S = .ok (.lst [.str "number",.str "number",.str "number",.str "number",.str "number",.str "number"]) S:=by
 have hm : 1 ≤ m:=by rcases hk with ⟨_,rfl⟩ | ⟨_,rfl⟩ | ⟨_,rfl⟩ <;> omega
 have hit : dIt (qAD 15) env S = .ok (none,(qI6 d m).map qJW) S:=by
  unfold dIt
  simp only [qAD,h15,Res.bind,itD]
 have hcap : qBT [none,none,some 12] env = [none,none,some (.int k)]:=by
  simp only [qBT,List.map_cons,List.map_nil,h12]
  rfl
 have hc:=qKX (enc:=qJW) (cap:=[none,none,some 12]) (g:=gTp 2 (qBC (gNm 0) (qBC (gNm 1) (qDw)))) (t:=qBN) (fe:=qAO 3 (okO (qAp c)) (qAA (qAD 2) (qAA (qAD 0) (qAA (qAD 1) (qAF))))) hit trivial (fun _ => true) (fun _ => .str "number") (fun env => ∃ a b,env = [a,b,some (.int k)]) ⟨none,none,hcap⟩ (by simp [qI6]; decide)
  (fun x hx env ⟨a,b,e⟩ => by
   subst e
   refine ⟨[some x.1,some x.2,some (.int k)],gt2 0 1 _ _ _ _,⟨_,_,rfl⟩,rfl,fun _ => ?_⟩
   have hno:=qMJ (qTM c nd k m x.1 x.2 S hk (qVA d m hm hd x hx))
   rw [qI9 (a:=.int k) (b:=x.1) (c:=x.2) rfl rfl rfl]
   exact hno)
 rw [qC1] at hc
 exact hc
theorem six (S : Sto) : qJH (.lst [.str "number"]) (.int 6) S = .ok (.lst [.str "number",.str "number",.str "number",.str "number",.str "number",.str "number"]) S:=by
 have h : (0 : Int) ≤ 6 ∧ (6 : Int) < 2 ^ 62 ∧ [D.str "number"].length * (6 : Int).toNat ≤ lim:=⟨by omega,by omega,by decide⟩
 simp only [qJH]
 rw [if_pos h]
 rfl
theorem qYv (S : Sto) : gNe (.lst [.str "number",.str "number",.str "number",.str "number",.str "number",.str "number"]) (.lst [.str "number",.str "number",.str "number",.str "number",.str "number",.str "number"]) S = .ok (.bl false) S:=by
 have h1 : pl qDf (.lst [.str "number",.str "number",.str "number",.str "number",.str "number",.str "number"]) = true:=rfl
 have h2 : eqD (.lst [.str "number",.str "number",.str "number",.str "number",.str "number",.str "number"]) (.lst [.str "number",.str "number",.str "number",.str "number",.str "number",.str "number"]) = true:=kd
 simp only [gNe,h1,h2,Bool.and_self,if_true]
 rfl
end _K
end
section
namespace _K
open PySem _D
theorem qYY {S : Sto} {p j : Nat} {m : MO} (h : qDo S p) (hj : p ≠ j) : qDo (S.set j m) p:=by
 obtain ⟨v,f,e⟩:=h
 exact ⟨v,f,by rw [List.getElem?_set_ne (Ne.symm hj)]; exact e⟩
theorem qUS (env : qAH) (S : Sto) : qCr (qBK (qAA (qAu (qAA (dC (.int 0)) (qAA (dC (.int 12)) (qAF)))) (qAA (qAu (qAA (dC (.int 1)) (qAA (dC (.int 4)) (qAF)))) (qAA (qAu (qAA (dC (.int 2)) (qAA (dC (.int 4)) (qAF)))) (qAF))))) env S = .ok ([((0 : Int),(12 : Int)),(1,4),(2,4)].map fun x => D.tup [.int x.1,.int x.2]) S:=by
 have l2 : 2 ≤ lim:=by decide
 have l3 : 3 ≤ lim:=by decide
 simp [qAT,qEM,qWC,qaq,qWB,qAc,sIf,qAs,qBQ,qB3,qBE,gNm,gSb,gTp,qBC,qDw,qNY,qUB,qRa,dC,qAD,d1,d2,qAA,qAF,qAM,qAO,dTr,qDt,qF9,qE1,qBN,qIE,qTV,qO4,qAu,qBK,qKY,dBm,dSl,qDe,qIg,qCr,qEa,Res.bind,Res.toS,_D.qGJ,_D.qDn,qKT,qar,qat,qay,qav,qaw,qax,qau,qap,qQd,qas,gLt,gLe,gGt,gGe,_D.qEb,qRJ,l2,l3]
theorem qU9 (env : qAH) (S : Sto) (d : D) (m : Int) (h13 : env[13]? = some (some (.int m))) (h14 : env[14]? = some (some d)) : qBK (qAA (qAu (qAA (qAD 14) (qAA (dC (.int 1)) (qAF)))) (qAA (qAu (qAA (dC (.int 1)) (qAA (qAD 14) (qAF)))) (qAA (qAu (qAA (qAD 14) (qAA (qAD 14) (qAF)))) (qAA (qAu (qAA (d2 qA4 (qAD 13) (dC (.int 1))) (qAA (dC (.int 1)) (qAF)))) (qAA (qAu (qAA (dC (.int 1)) (qAA (d2 qA4 (qAD 13) (dC (.int 1))) (qAF)))) (qAA (qAu (qAA (dC (.int 0)) (qAA (dC (.int 1)) (qAF)))) (qAF))))))) env S = .ok (.lst ((qI6 d m).map qJW)) S:=by
 have l2 : 2 ≤ lim:=by decide
 have l6 : 6 ≤ lim:=by decide
 simp only [qBK,qAu,qAA,qAF,dC,d2,qAD,h13,h14,qC6,Res.bind,List.length_cons,List.length_nil,Nat.zero_add,Nat.reduceAdd,l2,l6,if_true]
 rfl
theorem qFQ (ns : List Int) (hl : ns.length ≤ 63) (env : qAH) (S : Sto) (h0 : env[0]? = some (some (.lst (ns.map D.int)))) : ∃ ms : List Int,qCr (d2 qA4 (qBK (qAA (qAO 2 qDO (qAA (qAD 0) (qAA (dC (.int 0)) (qAF)))) (qAF))) (dSl (qAD 0) (qDe (dC (.int 1))) (qDe (dC (.int 3))))) env S = .ok (ms.map D.int) S:=by
 obtain ⟨x,hx⟩:=qYq ns S
 obtain ⟨ms,hm,hml⟩:=qVH ns (some 1) (some 3)
 refine ⟨x :: ms,?_⟩
 have l1 : 1 ≤ lim:=by decide
 have hs : gSl (.lst (ns.map D.int)) (some 1) (some 3) S = .ok (.lst (ms.map D.int)) S:=by rw [← hm]; rfl
 have ha : qA4 (.lst [.int x]) (.lst (ms.map D.int)) S = .ok (.lst (.int x :: ms.map D.int)) S:=by
  have : [D.int x].length + (ms.map D.int).length ≤ lim:=by
   rw [List.length_map]
   show 1 + ms.length ≤ lim
   unfold lim
   omega
  exact qLK this S
 simp only [qCr,d2,qBK,qAO,qAA,qAF,qAD,h0,dC,Res.bind,List.length_cons,List.length_nil,Nat.zero_add,l1,if_true,hx,dSl,qDe,hs,ha,qQd]
 rfl
structure Fit (S : Sto) (p g : Nat) (L : List (List Pt)) : Prop where
 pen : qDo S p
 lots : S[g]? = some (.lst (L.map qAI))
theorem Fit.pre {S S' : Sto} {p g : Nat} {L : List (List Pt)} (h : Fit S p g L) (e : S <+: S') : Fit S' p g L:=⟨qQt h.pen e,qKb h.lots e⟩
theorem Fit.lt {S : Sto} {p g : Nat} {L : List (List Pt)} (h : Fit S p g L) : p < S.length ∧ g < S.length:=by
 obtain ⟨v,f,e⟩:=h.pen
 exact ⟨(List.getElem?_eq_some_iff.mp e).1,(List.getElem?_eq_some_iff.mp h.lots).1⟩
theorem Fit.set {S : Sto} {p g j : Nat} {L : List (List Pt)} {m : MO} (h : Fit S p g L) (h1 : p ≠ j) (h2 : g ≠ j) : Fit (S.set j m) p g L :=
 ⟨qYY h.pen h1,by rw [List.getElem?_set_ne (Ne.symm h2)]; exact h.lots⟩
theorem qU7 (env : qAH) (S : Sto) : qEa (qAA (dC (.int 2)) (qAF)) env S = .ok [.int 0,.int 1] S:=by
 have h : qJa [.int 2] = some [.int 0,.int 1]:=rfl
 simp [qAT,qEM,qWC,qaq,qWB,qAc,sIf,qAs,qBQ,qB3,qBE,gNm,gSb,gTp,qBC,qDw,qNY,qUB,qRa,dC,qAD,d1,d2,qAA,qAF,qAM,qAO,dTr,qDt,qF9,qE1,qBN,qIE,qTV,qO4,qAu,qBK,qKY,dBm,dSl,qDe,qIg,qCr,qEa,Res.bind,Res.toS,_D.qGJ,_D.qDn,qKT,qar,qat,qay,qav,qaw,qax,qau,qap,qQd,qas,gLt,gLe,gGt,gGe,_D.qEb,qRJ,h]
theorem qRg (S : Sto) (j : Nat) (L : List (List Pt)) (env : qAH) (x : D) (h9 : env[9]? = some (some (.lst [x,.loc j]))) (hj : S[j]? = some (.lst (L.map qAI))) (hl : L.length < lim) : qB3 (dBm "list" qBg (d2 gIx (qAD 9) (dC (.int 1))) (qAA (qAu (qAF)) (qAF))) env S = .nx env (S.set j (.lst (L.map qAI ++ [.tup []]))):=by
 have l0 : 0 ≤ lim:=by decide
 have h1 : gIx (.lst [x,.loc j]) (.int 1) S = .ok (.loc j) S:=rfl
 have hty : tyD (.loc j) S = some "list":=qMY hj
 have hap : qBg (.loc j) [.tup []] S = .ok .non (S.set j (.lst (L.map qAI ++ [.tup []]))):=by
  have : (L.map qAI).length < lim:=by rwa [List.length_map]
  exact qJ3 hj this _
 simp only [qB3,dBm,d2,qAD,h9,dC,Res.bind,h1,hty,beq_self_eq_true,if_true,qAA,qAF,qAu,List.length_nil,l0,hap,Res.toS]
theorem qSH {w h : Nat} (hw : w ≤ 4) (hh : h ≤ 4) : (qCZ (qAj w h)).length < lim:=by
 have hp:=qMk hw hh
 have hpl:=qLC hw hh
 have l1:=qRR hp hpl
 have:=(qPN hp hpl 5 2 _ ((qAj w h).map fun p => [p]) rfl (l1.next hp hpl) (fun lot hl => by
  obtain ⟨q1,_,q3⟩:=l1.lot lot hl
  exact ⟨by omega,q3⟩) (by have:=l1.len; omega)).2
 show (go 5 _ _ _).length < lim
 unfold lim
 omega
inductive IvA (ns : List Int) (ds : List D) (env : qAH) (S : Sto) : Prop
 | mk (ms : List Int) (e1 e2 e3 e4 e5 e6 e7 e8 e9 e10 e11 e12 e13 e14 e15 : Option D) (h_0 : ds = ms.map D.int) (h_1 : env = [some (.lst (ns.map D.int)),e1,e2,e3,e4,e5,e6,e7,e8,e9,e10,e11,e12,e13,e14,e15]) : IvA ns ds env S
inductive IvB (ns : List Int) (y : Int) (p a b w h g : Nat) (e10 e11 e12 e13 e14 e15 : Option D) (ds : List D) (env : qAH) (S : Sto) : Prop
 | mk (e8 e9 : Option D) (h_0 : env = [some (.lst (ns.map D.int)),some (.int y),some (.loc p),some (.int (a : Int)),some (.int (b : Int)),some (.int (w : Int)),some (.int (h : Int)),some (.loc g),e8,e9,e10,e11,e12,e13,e14,e15]) (h_1 : Fit S p g (qCZ (qAj w h))) : IvB ns y p a b w h g e10 e11 e12 e13 e14 e15 ds env S
inductive IvC (ns : List Int) (y : Int) (p a b w h g i j : Nat) (e8 e9 : Option D) (ds : List D) (env : qAH) (S : Sto) : Prop
 | mk (xs : List (Int × Int)) (e12 e13 e14 e15 : Option D) (h_0 : ds = xs.map (fun x => D.tup [.int x.1,.int x.2])) (h_1 : (∀ x ∈ xs,Way x.1 x.2)) (h_2 : env = [some (.lst (ns.map D.int)),some (.int y),some (.loc p),some (.int (a : Int)),some (.int (b : Int)),some (.int (w : Int)),some (.int (h : Int)),some (.loc g),e8,e9,some (.loc i),some (.loc j),e12,e13,e14,e15]) (h_3 : qDo S p) : IvC ns y p a b w h g i j e8 e9 ds env S
theorem qT2 (c : Cl) (nd : (qBw c).Nodup) (ns : List Int) (hl : ns.length ≤ 63) : ∃ S,qAT 16 (qOT c) [.lst (ns.map D.int)] [] = .ok (.bl true) S:=by
 have key : Rt (qOT c [some (.lst (ns.map D.int)),none,none,none,none,none,none,none,none,none,none,none,none,none,none,none] []) fun d _ => d = .bl true:=by
  unfold qOT
  obtain ⟨ms,hms⟩:=qFQ ns hl [some (.lst (ns.map D.int)),none,none,none,none,none,none,none,none,none,none,none,none,none,none,none] [] rfl
  refine qA0 (qEJ hms ?_)
  refine qDP (IvA ns) ?_ ?_ ?_
  ·rintro d ds env S ⟨ms,e1,e2,e3,e4,e5,e6,e7,e8,e9,e10,e11,e12,e13,e14,e15,hds,rfl⟩
   cases ms with
   | nil => cases hds
   | cons y ms =>
    injection hds with h1 h2
    subst h1 h2
    refine ⟨[some (.lst (ns.map D.int)),some (.int y),e2,e3,e4,e5,e6,e7,e8,e9,e10,e11,e12,e13,e14,e15],S,rfl,?_⟩
    obtain ⟨f,hpen⟩:=qZw y S
    refine qCb (qBZ (qA5 ((qRD (a:=.int y) rfl).trans hpen) ?_))
    have p0 : qDo (S ++ [.lst [.int y,.int f]]) S.length:=⟨y,f,by simp⟩
    generalize S ++ [.lst [.int y,.int f]] = S0 at p0
    generalize S.length = p at p0
    simp only [List.set_cons_succ,List.set_cons_zero]
    obtain ⟨a,S1,d1,p1,a1,a2⟩:=qKZ S0 p 12 [some (.lst (ns.map D.int)),some (.int y),some (.loc p),e3,e4,e5,e6,e7,e8,e9,e10,e11,e12,e13,e14,e15] rfl p0 (by omega)
    obtain ⟨b,S2,d2',p2,b1,b2⟩:=qKZ S1 p 12 [some (.lst (ns.map D.int)),some (.int y),some (.loc p),e3,e4,e5,e6,e7,e8,e9,e10,e11,e12,e13,e14,e15] rfl p1 (by omega)
    obtain ⟨w,S3,d3,p3,w1,w2⟩:=qKZ S2 p 4 [some (.lst (ns.map D.int)),some (.int y),some (.loc p),e3,e4,e5,e6,e7,e8,e9,e10,e11,e12,e13,e14,e15] rfl p2 (by omega)
    obtain ⟨h,S4,d4,p4,h1,h2⟩:=qKZ S3 p 4 [some (.lst (ns.map D.int)),some (.int y),some (.loc p),e3,e4,e5,e6,e7,e8,e9,e10,e11,e12,e13,e14,e15] rfl p3 (by omega)
    have t4:=qal d1 d2' d3 d4
    refine qCb (qBm (env:=[some (.lst (ns.map D.int)),some (.int y),some (.loc p),some (.int (a : Int)),some (.int (b : Int)),some (.int (w : Int)),some (.int (h : Int)),e7,e8,e9,e10,e11,e12,e13,e14,e15]) (S:=S4) (by
     unfold qBE
     rw [t4]
     rfl) ?_)
    have ha : 1 ≤ a ∧ a ≤ 12:=by omega
    have hb : 1 ≤ b ∧ b ≤ 12:=by omega
    have hw : 1 ≤ w ∧ w ≤ 4:=by omega
    have hh : 1 ≤ h ∧ h ≤ 4:=by omega
    clear d1 d2' d3 d4 t4 p0 p1 p2 p3 a1 a2 b1 b2 w1 w2 h1 h2 hpen hms
    obtain ⟨g,S5,hg,g1,_,g3⟩:=qQL (qAj w h) S4 (qMk hw.2 hh.2) (qLC hw.2 hh.2) (qI7 hw.1 hh.1)
    have hbd:=qPn w h S4 (by omega) ⟨by omega,by omega⟩
    refine qCb (qBZ (qA5 ((qRD (a:=.lst ((qAj w h).map ptD)) (S1:=S4) ((qOU (a:=.int (w : Int)) (b:=.int (h : Int)) rfl rfl).trans hbd)).trans hg) ?_))
    simp only [List.set_cons_succ,List.set_cons_zero]
    have F5 : Fit S5 p g (qCZ (qAj w h)):=⟨qQt p4 g3,g1⟩
    clear hg hbd g1 g3 p4
    have hgl:=qSH hw.2 hh.2
    have hgn:=qPM (qI7 hw.1 hh.1)
    refine qCb (qEJ (qU7 _ _) ?_)
    refine qDP (IvB ns y p a b w h g e10 e11 e12 e13 e14 e15) ?_ ?_ ⟨e8,e9,rfl,F5⟩
    ·rintro d ds env S ⟨e8,e9,rfl,F⟩
     refine ⟨[some (.lst (ns.map D.int)),some (.int y),some (.loc p),some (.int (a : Int)),some (.int (b : Int)),some (.int (w : Int)),some (.int (h : Int)),some (.loc g),some d,e9,e10,e11,e12,e13,e14,e15],S,rfl,?_⟩
     obtain ⟨S1,c1,q1⟩:=qWx c a b S ha hb
     have F1:=F.pre q1
     have hbd:=qPn a b S1 (by omega) ⟨by omega,by omega⟩
     obtain ⟨S2,c2,q2⟩:=qSu (qAj a b) S1 (qOr ha.2 hb.2)
     have F2:=F1.pre q2
     refine qCb (qDy (b:=false) (S1:=S2) (qPX ?_) ?_)
     ·exact (qOU (a:=qAI (qJF (qAj a b))) (b:=qAI (qJF (qAj a b))) (S1:=S1) (S2:=S2) ((qI9 (a:=.int 0) (b:=.int (a : Int)) (c:=.int (b : Int)) rfl rfl rfl).trans c1) ((qRD (a:=.lst ((qAj a b).map ptD)) (S1:=S1) ((qOU (a:=.int (a : Int)) (b:=.int (b : Int)) rfl rfl).trans hbd)).trans c2)).trans (qUO S2 _)
     refine qBm (env:=[some (.lst (ns.map D.int)),some (.int y),some (.loc p),some (.int (a : Int)),some (.int (b : Int)),some (.int (w : Int)),some (.int (h : Int)),some (.loc g),some d,e9,e10,e11,e12,e13,e14,e15]) (S:=S2) rfl ?_
     clear c1 c2 hbd q1 q2 F1 F
     obtain ⟨S3,c3,q3⟩:=qWy c w h S2 hw hh
     obtain ⟨j,S4,c4,j1,j2,q4⟩:=qOv c w h S3 hw hh
     have F4:=(F2.pre q3).pre q4
     have hj3 : p < j ∧ g < j:=by
      have:=(F2.pre q3).lt
      omega
     refine qCb (qBZ (qA5 (qXz ((qI9 (a:=.int 1) (b:=.int (w : Int)) (c:=.int (h : Int)) rfl rfl rfl).trans c3) ((qI9 (a:=.int 2) (b:=.int (w : Int)) (c:=.int (h : Int)) rfl rfl rfl).trans c4)) ?_))
     simp only [List.set_cons_succ,List.set_cons_zero]
     have hfirst:=qOj F4.lots hgn
     have hlen:=qQm ((qCZ (qAj w h)).headD []) S4
     refine qCb (qDy (b:=false) (S1:=S4) (qPX ?_) ?_)
     ·refine (qOU (a:=.lst [.int (most (qAj w h) : Int),.loc j]) (b:=.lst [.int (most (qAj w h) : Int),.loc g]) (S1:=S4) (S2:=S4) rfl (qXz (S1:=S4) (S2:=S4) ?_ rfl)).trans (qS1 S4 _ j g _ j1 F4.lots)
      have hix : d2 gIx (qAD 7) (dC (.int 0)) [some (.lst (ns.map D.int)),some (.int y),some (.loc p),some (.int (a : Int)),some (.int (b : Int)),some (.int (w : Int)),some (.int (h : Int)),some (.loc g),some d,some (.lst [.int (most (qAj w h) : Int),.loc j]),e10,e11,e12,e13,e14,e15] S4 = .ok (qAI ((qCZ (qAj w h)).headD [])) S4:=(qOV rfl rfl).trans hfirst
      simp only [qAM,qAA,qAF,hix,Res.bind]
      exact hlen
     refine qBm (env:=[some (.lst (ns.map D.int)),some (.int y),some (.loc p),some (.int (a : Int)),some (.int (b : Int)),some (.int (w : Int)),some (.int (h : Int)),some (.loc g),some d,some (.lst [.int (most (qAj w h) : Int),.loc j]),e10,e11,e12,e13,e14,e15]) (S:=S4) rfl ?_
     exact qBm (qRg S4 j _ _ _ rfl j1 hgl) ⟨_,_,rfl,F4.set (by omega) (by omega)⟩
    ·rintro env S ⟨e8,e9,rfl,F⟩
     obtain ⟨i,S1,c1,i1,_,q1⟩:=qOv c w h S hw hh
     obtain ⟨j,S2,c2,j1,_,q2⟩:=qOv c 1 1 S1 (by omega) (by omega)
     have F2:=(F.pre q1).pre q2
     have i2:=qKb i1 q2
     refine qCb (qBm (env:=[some (.lst (ns.map D.int)),some (.int y),some (.loc p),some (.int (a : Int)),some (.int (b : Int)),some (.int (w : Int)),some (.int (h : Int)),some (.loc g),e8,e9,some (.loc i),some (.loc j),e12,e13,e14,e15]) (S:=S2) (by
      have k1:=(qI9 (F:=qAp c) (f1:=dC (.int 2)) (f2:=qAD 5) (f3:=qAD 6) (env:=[some (.lst (ns.map D.int)),some (.int y),some (.loc p),some (.int (a : Int)),some (.int (b : Int)),some (.int (w : Int)),some (.int (h : Int)),some (.loc g),e8,e9,e10,e11,e12,e13,e14,e15]) (S:=S) (a:=.int 2) (b:=.int (w : Int)) (c:=.int (h : Int)) rfl rfl rfl).trans c1
      have k2:=(qI9 (F:=qAp c) (f1:=dC (.int 2)) (f2:=dC (.int 1)) (f3:=dC (.int 1)) (env:=[some (.lst (ns.map D.int)),some (.int y),some (.loc p),some (.int (a : Int)),some (.int (b : Int)),some (.int (w : Int)),some (.int (h : Int)),some (.loc g),e8,e9,e10,e11,e12,e13,e14,e15]) (S:=S1) (a:=.int 2) (b:=.int 1) (c:=.int 1) rfl rfl rfl).trans c2
      generalize qAO 3 (qAp c) (qAA (dC (.int 2)) (qAA (qAD 5) (qAA (qAD 6) (qAF)))) = x1 at k1 ⊢
      generalize qAO 3 (qAp c) (qAA (dC (.int 2)) (qAA (dC (.int 1)) (qAA (dC (.int 1)) (qAF)))) = x2 at k2 ⊢
      unfold qNY
      simp only [qAA,qAF,k1,k2,Res.bind,Res.toS,qUB,List.set_cons_succ,List.set_cons_zero]) ?_)
     have l1 : 1 ≤ lim:=by decide
     have l2 : 2 ≤ lim:=by decide
     refine qCb (qDy (b:=false) (S1:=S2) (by
      have k1:=qXd S2 j j1
      have k2:=qS0 S2 i g _ i2 F2.lots
      simp [qAT,qEM,qWC,qaq,qWB,qAc,sIf,qAs,qBQ,qB3,qBE,gNm,gSb,gTp,qBC,qDw,qNY,qUB,qRa,dC,qAD,d1,d2,qAA,qAF,qAM,qAO,dTr,qDt,qF9,qE1,qBN,qIE,qTV,qO4,qAu,qBK,qKY,dBm,dSl,qDe,qIg,qCr,qEa,Res.bind,Res.toS,_D.qGJ,_D.qDn,qKT,qar,qat,qay,qav,qaw,qax,qau,qap,qQd,qas,gLt,gLe,gGt,gGe,_D.qEb,qRJ,l1,l2,k1,k2]) ?_)
     refine qBm (env:=[some (.lst (ns.map D.int)),some (.int y),some (.loc p),some (.int (a : Int)),some (.int (b : Int)),some (.int (w : Int)),some (.int (h : Int)),some (.loc g),e8,e9,some (.loc i),some (.loc j),e12,e13,e14,e15]) (S:=S2) rfl ?_
     refine qEJ (qUS _ _) ?_
     refine qDP (IvC ns y p a b w h g i j e8 e9) ?_ ?_ ⟨_,e12,e13,e14,e15,rfl,?_,rfl,F2.pen⟩
     ·rintro d ds env S ⟨xs,e12,e13,e14,e15,hds,hx,rfl,hp⟩
      cases xs with
      | nil => cases hds
      | cons x xs =>
       injection hds with h1 h2
       subst h1 h2
       obtain ⟨k,m⟩:=x
       have hk : Way k m:=hx _ (List.mem_cons_self ..)
       have hm : 1 ≤ m ∧ m ≤ 12:=by rcases hk with ⟨_,rfl⟩ | ⟨_,rfl⟩ | ⟨_,rfl⟩ <;> omega
       refine ⟨[some (.lst (ns.map D.int)),some (.int y),some (.loc p),some (.int (a : Int)),some (.int (b : Int)),some (.int (w : Int)),some (.int (h : Int)),some (.loc g),e8,e9,some (.loc i),some (.loc j),some (.int k),some (.int m),e14,e15],S,rfl,?_⟩
       obtain ⟨d,v,f,hno,hd⟩:=qQM S p 1 m hp (by omega)
       refine qCb (qBZ (qA5 ((qI9 (a:=.loc p) (b:=.int 1) (c:=.int m) rfl rfl rfl).trans hno) ?_))
       have hp2:=qPi hp v f
       generalize S.set p (.lst [.int v,.int f]) = S3 at hp2
       simp only [List.set_cons_succ,List.set_cons_zero]
       refine qCb (qBZ (qA5 (qU9 _ S3 d m rfl rfl) ?_))
       simp only [List.set_cons_succ,List.set_cons_zero]
       refine qDy (b:=false) (S1:=S3) ?_ (qBm (env:=[some (.lst (ns.map D.int)),some (.int y),some (.loc p),some (.int (a : Int)),some (.int (b : Int)),some (.int (w : Int)),some (.int (h : Int)),some (.loc g),e8,e9,some (.loc i),some (.loc j),some (.int k),some (.int m),some d,some (.lst ((qI6 d m).map qJW))]) (S:=S3) rfl ⟨xs,_,_,_,_,rfl,fun x hx' => hx x (List.mem_cons_of_mem _ hx'),rfl,hp2⟩)
       have k1:=qTQ c nd k m d [some (.lst (ns.map D.int)),some (.int y),some (.loc p),some (.int (a : Int)),some (.int (b : Int)),some (.int (w : Int)),some (.int (h : Int)),some (.loc g),e8,e9,some (.loc i),some (.loc j),some (.int k),some (.int m),some d,some (.lst ((qI6 d m).map qJW))] S3 hk hd rfl rfl
       have k2 : d2 qJH (qBK (qAA (dC (.str "number")) (qAF))) (dC (.int 6)) [some (.lst (ns.map D.int)),some (.int y),some (.loc p),some (.int (a : Int)),some (.int (b : Int)),some (.int (w : Int)),some (.int (h : Int)),some (.loc g),e8,e9,some (.loc i),some (.loc j),some (.int k),some (.int m),some d,some (.lst ((qI6 d m).map qJW))] S3 = _:=(qOV (a:=.lst [.str "number"]) (S1:=S3) (by simp [qAT,qEM,qWC,qaq,qWB,qAc,sIf,qAs,qBQ,qB3,qBE,gNm,gSb,gTp,qBC,qDw,qNY,qUB,qRa,dC,qAD,d1,d2,qAA,qAF,qAM,qAO,dTr,qDt,qF9,qE1,qBN,qIE,qTV,qO4,qAu,qBK,qKY,dBm,dSl,qDe,qIg,qCr,qEa,Res.bind,Res.toS,_D.qGJ,_D.qDn,qKT,qar,qat,qay,qav,qaw,qax,qau,qap,qQd,qas,gLt,gLe,gGt,gGe,_D.qEb,qRJ,l1]) rfl).trans (six S3)
       unfold dTr
       rw [qOV k1 k2,qYv]
       rfl
     ·rintro env S ⟨xs,e12,e13,e14,e15,hds,hx,rfl,hp⟩
      exact ⟨ms,_,_,_,_,_,_,_,_,_,_,_,_,_,_,_,rfl,rfl⟩
     ·intro x hx
      simp only [List.mem_cons,List.not_mem_nil,or_false] at hx
      rcases hx with rfl | rfl | rfl
      ·exact .inl ⟨rfl,rfl⟩
      ·exact .inr (.inl ⟨rfl,rfl⟩)
      ·exact .inr (.inr ⟨rfl,rfl⟩)
  ·rintro env S ⟨ms,e1,e2,e3,e4,e5,e6,e7,e8,e9,e10,e11,e12,e13,e14,e15,hds,rfl⟩
   exact qF4 (qA5 rfl rfl)
  ·exact ⟨ms,_,_,_,_,_,_,_,_,_,_,_,_,_,_,_,rfl,rfl⟩
 obtain ⟨d,S',e,rfl⟩:=key
 exact ⟨S',qEL rfl e⟩
end _K
end
section
namespace _K
open PySem PySem.Spec PyProof.Rows _L _D
theorem qLm (kV doc pm : Value) (an : Option Addr) (cdv ct : Value) : ∀ (us : List Value),us.length = ["w","h"].length → bindArgs (PySem.W.fnOf "board_points" "board_points" (qAP (top 1)) (qAN (top 1)) (qAB (top 1)) .none kV doc pm an cdv ct) ⟨us,[]⟩ = pure (List.zip (["w","h"] : List Str) us):=by
 intro us h; obtain ⟨_,_,rfl⟩:=us2 h; rfl
theorem qTI (kV doc pm : Value) (an : Option Addr) (cdv ct : Value) : ∀ (us : List Value),us.length = ["lots","points"].length → bindArgs (PySem.W.fnOf "grown" "grown" (qAP (top 2)) (qAN (top 2)) (qAB (top 2)) .none kV doc pm an cdv ct) ⟨us,[]⟩ = pure (List.zip (["lots","points"] : List Str) us):=by
 intro us h; obtain ⟨_,_,rfl⟩:=us2 h; rfl
theorem qP9 (kV doc pm : Value) (an : Option Addr) (cdv ct : Value) : ∀ (us : List Value),us.length = ["thing"].length → bindArgs (PySem.W.fnOf "is_whole" "is_whole" (qAP (top 17)) (qAN (top 17)) (qAB (top 17)) .none kV doc pm an cdv ct) ⟨us,[]⟩ = pure (List.zip (["thing"] : List Str) us):=by
 intro us h; obtain ⟨_,rfl⟩:=us1 h; rfl
theorem qOp (kV doc pm : Value) (an : Option Addr) (cdv ct : Value) : ∀ (us : List Value),us.length = ["thing","least","most"].length → bindArgs (PySem.W.fnOf "is_within" "is_within" (qAP (top 18)) (qAN (top 18)) (qAB (top 18)) .none kV doc pm an cdv ct) ⟨us,[]⟩ = pure (List.zip (["thing","least","most"] : List Str) us):=by
 intro us h; obtain ⟨_,_,_,rfl⟩:=us3 h; rfl
theorem qMi (kV doc pm : Value) (an : Option Addr) (cdv ct : Value) : ∀ (us : List Value),us.length = ["thing","least","most"].length → bindArgs (PySem.W.fnOf "need_within" "need_within" (qAP (top 19)) (qAN (top 19)) (qAB (top 19)) .none kV doc pm an cdv ct) ⟨us,[]⟩ = pure (List.zip (["thing","least","most"] : List Str) us):=by
 intro us h; obtain ⟨_,_,_,rfl⟩:=us3 h; rfl
theorem qMg (kV doc pm : Value) (an : Option Addr) (cdv ct : Value) : ∀ (us : List Value),us.length = ["one","other"].length → bindArgs (PySem.W.fnOf "far_between" "far_between" (qAP (top 21)) (qAN (top 21)) (qAB (top 21)) .none kV doc pm an cdv ct) ⟨us,[]⟩ = pure (List.zip (["one","other"] : List Str) us):=by
 intro us h; obtain ⟨_,_,rfl⟩:=us2 h; rfl
theorem qLn (kV doc pm : Value) (an : Option Addr) (cdv ct : Value) : ∀ (us : List Value),us.length = ["points"].length → bindArgs (PySem.W.fnOf "pairs_by_far" "pairs_by_far" (qAP (top 22)) (qAN (top 22)) (qAB (top 22)) .none kV doc pm an cdv ct) ⟨us,[]⟩ = pure (List.zip (["points"] : List Str) us):=by
 intro us h; obtain ⟨_,rfl⟩:=us1 h; rfl
theorem qOC (kV doc pm : Value) (an : Option Addr) (cdv ct : Value) : ∀ (us : List Value),us.length = ["points"].length → bindArgs (PySem.W.fnOf "are_unlike" "are_unlike" (qAP (top 26)) (qAN (top 26)) (qAB (top 26)) .none kV doc pm an cdv ct) ⟨us,[]⟩ = pure (List.zip (["points"] : List Str) us):=by
 intro us h; obtain ⟨_,rfl⟩:=us1 h; rfl
theorem qRj (kV doc pm : Value) (an : Option Addr) (cdv ct : Value) : ∀ (us : List Value),us.length = ["w","h"].length → bindArgs (PySem.W.fnOf "filled" "filled" (qAP (top 27)) (qAN (top 27)) (qAB (top 27)) .none kV doc pm an cdv ct) ⟨us,[]⟩ = pure (List.zip (["w","h"] : List Str) us):=by
 intro us h; obtain ⟨_,_,rfl⟩:=us2 h; rfl
theorem qMh (kV doc pm : Value) (an : Option Addr) (cdv ct : Value) : ∀ (us : List Value),us.length = ["w","h"].length → bindArgs (PySem.W.fnOf "most_unlike" "most_unlike" (qAP (top 28)) (qAN (top 28)) (qAB (top 28)) .none kV doc pm an cdv ct) ⟨us,[]⟩ = pure (List.zip (["w","h"] : List Str) us):=by
 intro us h; obtain ⟨_,_,rfl⟩:=us2 h; rfl
theorem qMj (kV doc pm : Value) (an : Option Addr) (cdv ct : Value) : ∀ (us : List Value),us.length = ["w","h"].length → bindArgs (PySem.W.fnOf "unlike_lots" "unlike_lots" (qAP (top 29)) (qAN (top 29)) (qAB (top 29)) .none kV doc pm an cdv ct) ⟨us,[]⟩ = pure (List.zip (["w","h"] : List Str) us):=by
 intro us h; obtain ⟨_,_,rfl⟩:=us2 h; rfl
theorem qOl (kV doc pm : Value) (an : Option Addr) (cdv ct : Value) : ∀ (us : List Value),us.length = ["_law_script","_law_k"].length → bindArgs (PySem.W.fnOf "_law_cell" "_law_cell" (qAP (top 31)) (qAN (top 31)) (qAB (top 31)) .none kV doc pm an cdv ct) ⟨us,[]⟩ = pure (List.zip (["_law_script","_law_k"] : List Str) us):=by
 intro us h; obtain ⟨_,_,rfl⟩:=us2 h; rfl
theorem qP8 (kV doc pm : Value) (an : Option Addr) (cdv ct : Value) : ∀ (us : List Value),us.length = ["_law_cell_here"].length → bindArgs (PySem.W.fnOf "_law_pen" "_law_pen" (qAP (top 32)) (qAN (top 32)) (qAB (top 32)) .none kV doc pm an cdv ct) ⟨us,[]⟩ = pure (List.zip (["_law_cell_here"] : List Str) us):=by
 intro us h; obtain ⟨_,rfl⟩:=us1 h; rfl
theorem qOm (kV doc pm : Value) (an : Option Addr) (cdv ct : Value) : ∀ (us : List Value),us.length = ["_law_pen_here","_law_many"].length → bindArgs (PySem.W.fnOf "_law_draw" "_law_draw" (qAP (top 33)) (qAN (top 33)) (qAB (top 33)) .none kV doc pm an cdv ct) ⟨us,[]⟩ = pure (List.zip (["_law_pen_here","_law_many"] : List Str) us):=by
 intro us h; obtain ⟨_,_,rfl⟩:=us2 h; rfl
theorem qOo (kV doc pm : Value) (an : Option Addr) (cdv ct : Value) : ∀ (us : List Value),us.length = ["_law_found","_law_due"].length → bindArgs (PySem.W.fnOf "_law_same" "_law_same" (qAP (top 34)) (qAN (top 34)) (qAB (top 34)) .none kV doc pm an cdv ct) ⟨us,[]⟩ = pure (List.zip (["_law_found","_law_due"] : List Str) us):=by
 intro us h; obtain ⟨_,_,rfl⟩:=us2 h; rfl
theorem qLl (kV doc pm : Value) (an : Option Addr) (cdv ct : Value) : ∀ (us : List Value),us.length = ["_law_e"].length → bindArgs (PySem.W.fnOf "_law_kind_of" "_law_kind_of" (qAP (top 35)) (qAN (top 35)) (qAB (top 35)) .none kV doc pm an cdv ct) ⟨us,[]⟩ = pure (List.zip (["_law_e"] : List Str) us):=by
 intro us h; obtain ⟨_,rfl⟩:=us1 h; rfl
theorem qKo (kV doc pm : Value) (an : Option Addr) (cdv ct : Value) : ∀ (us : List Value),us.length = ["_law_pen_here","_law_low","_law_high"].length → bindArgs (PySem.W.fnOf "_law_no_number" "_law_no_number" (qAP (top 36)) (qAN (top 36)) (qAB (top 36)) .none kV doc pm an cdv ct) ⟨us,[]⟩ = pure (List.zip (["_law_pen_here","_law_low","_law_high"] : List Str) us):=by
 intro us h; obtain ⟨_,_,_,rfl⟩:=us3 h; rfl
theorem qP7 (kV doc pm : Value) (an : Option Addr) (cdv ct : Value) : ∀ (us : List Value),us.length = ["_law_one","_law_other"].length → bindArgs (PySem.W.fnOf "_law_far" "_law_far" (qAP (top 37)) (qAN (top 37)) (qAB (top 37)) .none kV doc pm an cdv ct) ⟨us,[]⟩ = pure (List.zip (["_law_one","_law_other"] : List Str) us):=by
 intro us h; obtain ⟨_,_,rfl⟩:=us2 h; rfl
theorem qOB (kV doc pm : Value) (an : Option Addr) (cdv ct : Value) : ∀ (us : List Value),us.length = ["_law_lot"].length → bindArgs (PySem.W.fnOf "_law_pairs" "_law_pairs" (qAP (top 38)) (qAN (top 38)) (qAB (top 38)) .none kV doc pm an cdv ct) ⟨us,[]⟩ = pure (List.zip (["_law_lot"] : List Str) us):=by
 intro us h; obtain ⟨_,rfl⟩:=us1 h; rfl
theorem qOn (kV doc pm : Value) (an : Option Addr) (cdv ct : Value) : ∀ (us : List Value),us.length = ["_law_lot"].length → bindArgs (PySem.W.fnOf "_law_fars" "_law_fars" (qAP (top 39)) (qAN (top 39)) (qAB (top 39)) .none kV doc pm an cdv ct) ⟨us,[]⟩ = pure (List.zip (["_law_lot"] : List Str) us):=by
 intro us h; obtain ⟨_,rfl⟩:=us1 h; rfl
theorem qOA (kV doc pm : Value) (an : Option Addr) (cdv ct : Value) : ∀ (us : List Value),us.length = ["_law_w","_law_h"].length → bindArgs (PySem.W.fnOf "_law_board" "_law_board" (qAP (top 40)) (qAN (top 40)) (qAB (top 40)) .none kV doc pm an cdv ct) ⟨us,[]⟩ = pure (List.zip (["_law_w","_law_h"] : List Str) us):=by
 intro us h; obtain ⟨_,_,rfl⟩:=us2 h; rfl
theorem qOk (kV doc pm : Value) (an : Option Addr) (cdv ct : Value) : ∀ (us : List Value),us.length = ["_law_way","_law_w","_law_h"].length → bindArgs (PySem.W.fnOf "_law_came" "_law_came" (qAP (top 41)) (qAN (top 41)) (qAB (top 41)) .none kV doc pm an cdv ct) ⟨us,[]⟩ = pure (List.zip (["_law_way","_law_w","_law_h"] : List Str) us):=by
 intro us h; obtain ⟨_,_,_,rfl⟩:=us3 h; rfl
theorem qMf (kV doc pm : Value) (an : Option Addr) (cdv ct : Value) : ∀ (us : List Value),us.length = ["_law_points"].length → bindArgs (PySem.W.fnOf "_law_filled" "_law_filled" (qAP (top 42)) (qAN (top 42)) (qAB (top 42)) .none kV doc pm an cdv ct) ⟨us,[]⟩ = pure (List.zip (["_law_points"] : List Str) us):=by
 intro us h; obtain ⟨_,rfl⟩:=us1 h; rfl
theorem qLB (kV doc pm : Value) (an : Option Addr) (cdv ct : Value) : ∀ (us : List Value),us.length = ["_law_points"].length → bindArgs (PySem.W.fnOf "_law_greatest" "_law_greatest" (qAP (top 43)) (qAN (top 43)) (qAB (top 43)) .none kV doc pm an cdv ct) ⟨us,[]⟩ = pure (List.zip (["_law_points"] : List Str) us):=by
 intro us h; obtain ⟨_,rfl⟩:=us1 h; rfl
theorem qWt (kV doc pm : Value) (an : Option Addr) (cdv ct : Value) : ∀ (us : List Value),us.length = ["_law_script"].length → bindArgs (PySem.W.fnOf "law" "law" (qAP (top 44)) (qAN (top 44)) (qAB (top 44)) .none kV doc pm an cdv ct) ⟨us,[]⟩ = pure (List.zip (["_law_script"] : List Str) us):=by
 intro us h; obtain ⟨_,rfl⟩:=us1 h; rfl
theorem qY4 {K : PySem.W.Frag} {h : Heap} {mg : Str → Option Value} (X : K.In h) (G : h.Ns mainGlobals mg) {f_15 f_18 f_19 f_20 f_22 f_16 f_23 f_14 f_17 f_21 f_24 f_3 f_12 f_4 f_13 f_9 f_10 f_5 f_11 f_6 f_1 f_2 f_7 f_8 f_law C_FarError C_NoPoint C_NoLot C_NoNumber C_NoCircle C_NoMarks C_NoFars C_NoText C_NoLine C_NoDeed C_Alike C_TooMany : Addr}
  {oc_15 kV_15 doc_15 pm_15 cd_15 ct_15 : Value} {od_15 an_15 : Option Addr} {sl_15 : Array (Option Value)} (a_15 : PySem.W.nsIn K mainGlobals "board_points" = some (some (.ref f_15)))
  (l_15 : K.lookup f_15 = some ⟨oc_15,od_15,.func (PySem.W.fnOf "board_points" "board_points" (qAP (top 1)) (qAN (top 1)) (qAB (top 1)) .none kV_15 doc_15 pm_15 an_15 cd_15 ct_15),sl_15⟩) (c_15 : PySem.W.codeIn K cd_15 "board_points" = true) (k_15 : PySem.W.keepIn K (.ref f_15) = true)
  {oc_18 kV_18 doc_18 pm_18 cd_18 ct_18 : Value} {od_18 an_18 : Option Addr} {sl_18 : Array (Option Value)} (a_18 : PySem.W.nsIn K mainGlobals "grown" = some (some (.ref f_18)))
  (l_18 : K.lookup f_18 = some ⟨oc_18,od_18,.func (PySem.W.fnOf "grown" "grown" (qAP (top 2)) (qAN (top 2)) (qAB (top 2)) .none kV_18 doc_18 pm_18 an_18 cd_18 ct_18),sl_18⟩) (c_18 : PySem.W.codeIn K cd_18 "grown" = true) (k_18 : PySem.W.keepIn K (.ref f_18) = true)
  {oc_19 kV_19 doc_19 pm_19 cd_19 ct_19 : Value} {od_19 an_19 : Option Addr} {sl_19 : Array (Option Value)} (a_19 : PySem.W.nsIn K mainGlobals "is_whole" = some (some (.ref f_19)))
  (l_19 : K.lookup f_19 = some ⟨oc_19,od_19,.func (PySem.W.fnOf "is_whole" "is_whole" (qAP (top 17)) (qAN (top 17)) (qAB (top 17)) .none kV_19 doc_19 pm_19 an_19 cd_19 ct_19),sl_19⟩) (c_19 : PySem.W.codeIn K cd_19 "is_whole" = true) (k_19 : PySem.W.keepIn K (.ref f_19) = true)
  {oc_20 kV_20 doc_20 pm_20 cd_20 ct_20 : Value} {od_20 an_20 : Option Addr} {sl_20 : Array (Option Value)} (a_20 : PySem.W.nsIn K mainGlobals "is_within" = some (some (.ref f_20)))
  (l_20 : K.lookup f_20 = some ⟨oc_20,od_20,.func (PySem.W.fnOf "is_within" "is_within" (qAP (top 18)) (qAN (top 18)) (qAB (top 18)) .none kV_20 doc_20 pm_20 an_20 cd_20 ct_20),sl_20⟩) (c_20 : PySem.W.codeIn K cd_20 "is_within" = true) (k_20 : PySem.W.keepIn K (.ref f_20) = true)
  {oc_22 kV_22 doc_22 pm_22 cd_22 ct_22 : Value} {od_22 an_22 : Option Addr} {sl_22 : Array (Option Value)} (a_22 : PySem.W.nsIn K mainGlobals "need_within" = some (some (.ref f_22)))
  (l_22 : K.lookup f_22 = some ⟨oc_22,od_22,.func (PySem.W.fnOf "need_within" "need_within" (qAP (top 19)) (qAN (top 19)) (qAB (top 19)) .none kV_22 doc_22 pm_22 an_22 cd_22 ct_22),sl_22⟩) (c_22 : PySem.W.codeIn K cd_22 "need_within" = true) (k_22 : PySem.W.keepIn K (.ref f_22) = true)
  {oc_16 kV_16 doc_16 pm_16 cd_16 ct_16 : Value} {od_16 an_16 : Option Addr} {sl_16 : Array (Option Value)} (a_16 : PySem.W.nsIn K mainGlobals "far_between" = some (some (.ref f_16)))
  (l_16 : K.lookup f_16 = some ⟨oc_16,od_16,.func (PySem.W.fnOf "far_between" "far_between" (qAP (top 21)) (qAN (top 21)) (qAB (top 21)) .none kV_16 doc_16 pm_16 an_16 cd_16 ct_16),sl_16⟩) (c_16 : PySem.W.codeIn K cd_16 "far_between" = true) (k_16 : PySem.W.keepIn K (.ref f_16) = true)
  {oc_23 kV_23 doc_23 pm_23 cd_23 ct_23 : Value} {od_23 an_23 : Option Addr} {sl_23 : Array (Option Value)} (a_23 : PySem.W.nsIn K mainGlobals "pairs_by_far" = some (some (.ref f_23)))
  (l_23 : K.lookup f_23 = some ⟨oc_23,od_23,.func (PySem.W.fnOf "pairs_by_far" "pairs_by_far" (qAP (top 22)) (qAN (top 22)) (qAB (top 22)) .none kV_23 doc_23 pm_23 an_23 cd_23 ct_23),sl_23⟩) (c_23 : PySem.W.codeIn K cd_23 "pairs_by_far" = true) (k_23 : PySem.W.keepIn K (.ref f_23) = true)
  {oc_14 kV_14 doc_14 pm_14 cd_14 ct_14 : Value} {od_14 an_14 : Option Addr} {sl_14 : Array (Option Value)} (a_14 : PySem.W.nsIn K mainGlobals "are_unlike" = some (some (.ref f_14)))
  (l_14 : K.lookup f_14 = some ⟨oc_14,od_14,.func (PySem.W.fnOf "are_unlike" "are_unlike" (qAP (top 26)) (qAN (top 26)) (qAB (top 26)) .none kV_14 doc_14 pm_14 an_14 cd_14 ct_14),sl_14⟩) (c_14 : PySem.W.codeIn K cd_14 "are_unlike" = true) (k_14 : PySem.W.keepIn K (.ref f_14) = true)
  {oc_17 kV_17 doc_17 pm_17 cd_17 ct_17 : Value} {od_17 an_17 : Option Addr} {sl_17 : Array (Option Value)} (a_17 : PySem.W.nsIn K mainGlobals "filled" = some (some (.ref f_17)))
  (l_17 : K.lookup f_17 = some ⟨oc_17,od_17,.func (PySem.W.fnOf "filled" "filled" (qAP (top 27)) (qAN (top 27)) (qAB (top 27)) .none kV_17 doc_17 pm_17 an_17 cd_17 ct_17),sl_17⟩) (c_17 : PySem.W.codeIn K cd_17 "filled" = true) (k_17 : PySem.W.keepIn K (.ref f_17) = true)
  {oc_21 kV_21 doc_21 pm_21 cd_21 ct_21 : Value} {od_21 an_21 : Option Addr} {sl_21 : Array (Option Value)} (a_21 : PySem.W.nsIn K mainGlobals "most_unlike" = some (some (.ref f_21)))
  (l_21 : K.lookup f_21 = some ⟨oc_21,od_21,.func (PySem.W.fnOf "most_unlike" "most_unlike" (qAP (top 28)) (qAN (top 28)) (qAB (top 28)) .none kV_21 doc_21 pm_21 an_21 cd_21 ct_21),sl_21⟩) (c_21 : PySem.W.codeIn K cd_21 "most_unlike" = true) (k_21 : PySem.W.keepIn K (.ref f_21) = true)
  {oc_24 kV_24 doc_24 pm_24 cd_24 ct_24 : Value} {od_24 an_24 : Option Addr} {sl_24 : Array (Option Value)} (a_24 : PySem.W.nsIn K mainGlobals "unlike_lots" = some (some (.ref f_24)))
  (l_24 : K.lookup f_24 = some ⟨oc_24,od_24,.func (PySem.W.fnOf "unlike_lots" "unlike_lots" (qAP (top 29)) (qAN (top 29)) (qAB (top 29)) .none kV_24 doc_24 pm_24 an_24 cd_24 ct_24),sl_24⟩) (c_24 : PySem.W.codeIn K cd_24 "unlike_lots" = true) (k_24 : PySem.W.keepIn K (.ref f_24) = true)
  {oc_3 kV_3 doc_3 pm_3 cd_3 ct_3 : Value} {od_3 an_3 : Option Addr} {sl_3 : Array (Option Value)} (a_3 : PySem.W.nsIn K mainGlobals "_law_cell" = some (some (.ref f_3)))
  (l_3 : K.lookup f_3 = some ⟨oc_3,od_3,.func (PySem.W.fnOf "_law_cell" "_law_cell" (qAP (top 31)) (qAN (top 31)) (qAB (top 31)) .none kV_3 doc_3 pm_3 an_3 cd_3 ct_3),sl_3⟩) (c_3 : PySem.W.codeIn K cd_3 "_law_cell" = true) (k_3 : PySem.W.keepIn K (.ref f_3) = true)
  {oc_12 kV_12 doc_12 pm_12 cd_12 ct_12 : Value} {od_12 an_12 : Option Addr} {sl_12 : Array (Option Value)} (a_12 : PySem.W.nsIn K mainGlobals "_law_pen" = some (some (.ref f_12)))
  (l_12 : K.lookup f_12 = some ⟨oc_12,od_12,.func (PySem.W.fnOf "_law_pen" "_law_pen" (qAP (top 32)) (qAN (top 32)) (qAB (top 32)) .none kV_12 doc_12 pm_12 an_12 cd_12 ct_12),sl_12⟩) (c_12 : PySem.W.codeIn K cd_12 "_law_pen" = true) (k_12 : PySem.W.keepIn K (.ref f_12) = true)
  {oc_4 kV_4 doc_4 pm_4 cd_4 ct_4 : Value} {od_4 an_4 : Option Addr} {sl_4 : Array (Option Value)} (a_4 : PySem.W.nsIn K mainGlobals "_law_draw" = some (some (.ref f_4)))
  (l_4 : K.lookup f_4 = some ⟨oc_4,od_4,.func (PySem.W.fnOf "_law_draw" "_law_draw" (qAP (top 33)) (qAN (top 33)) (qAB (top 33)) .none kV_4 doc_4 pm_4 an_4 cd_4 ct_4),sl_4⟩) (c_4 : PySem.W.codeIn K cd_4 "_law_draw" = true) (k_4 : PySem.W.keepIn K (.ref f_4) = true)
  {oc_13 kV_13 doc_13 pm_13 cd_13 ct_13 : Value} {od_13 an_13 : Option Addr} {sl_13 : Array (Option Value)} (a_13 : PySem.W.nsIn K mainGlobals "_law_same" = some (some (.ref f_13)))
  (l_13 : K.lookup f_13 = some ⟨oc_13,od_13,.func (PySem.W.fnOf "_law_same" "_law_same" (qAP (top 34)) (qAN (top 34)) (qAB (top 34)) .none kV_13 doc_13 pm_13 an_13 cd_13 ct_13),sl_13⟩) (c_13 : PySem.W.codeIn K cd_13 "_law_same" = true) (k_13 : PySem.W.keepIn K (.ref f_13) = true)
  {oc_9 kV_9 doc_9 pm_9 cd_9 ct_9 : Value} {od_9 an_9 : Option Addr} {sl_9 : Array (Option Value)} (a_9 : PySem.W.nsIn K mainGlobals "_law_kind_of" = some (some (.ref f_9)))
  (l_9 : K.lookup f_9 = some ⟨oc_9,od_9,.func (PySem.W.fnOf "_law_kind_of" "_law_kind_of" (qAP (top 35)) (qAN (top 35)) (qAB (top 35)) .none kV_9 doc_9 pm_9 an_9 cd_9 ct_9),sl_9⟩) (c_9 : PySem.W.codeIn K cd_9 "_law_kind_of" = true) (k_9 : PySem.W.keepIn K (.ref f_9) = true)
  {oc_10 kV_10 doc_10 pm_10 cd_10 ct_10 : Value} {od_10 an_10 : Option Addr} {sl_10 : Array (Option Value)} (a_10 : PySem.W.nsIn K mainGlobals "_law_no_number" = some (some (.ref f_10)))
  (l_10 : K.lookup f_10 = some ⟨oc_10,od_10,.func (PySem.W.fnOf "_law_no_number" "_law_no_number" (qAP (top 36)) (qAN (top 36)) (qAB (top 36)) .none kV_10 doc_10 pm_10 an_10 cd_10 ct_10),sl_10⟩) (c_10 : PySem.W.codeIn K cd_10 "_law_no_number" = true) (k_10 : PySem.W.keepIn K (.ref f_10) = true)
  {oc_5 kV_5 doc_5 pm_5 cd_5 ct_5 : Value} {od_5 an_5 : Option Addr} {sl_5 : Array (Option Value)} (a_5 : PySem.W.nsIn K mainGlobals "_law_far" = some (some (.ref f_5)))
  (l_5 : K.lookup f_5 = some ⟨oc_5,od_5,.func (PySem.W.fnOf "_law_far" "_law_far" (qAP (top 37)) (qAN (top 37)) (qAB (top 37)) .none kV_5 doc_5 pm_5 an_5 cd_5 ct_5),sl_5⟩) (c_5 : PySem.W.codeIn K cd_5 "_law_far" = true) (k_5 : PySem.W.keepIn K (.ref f_5) = true)
  {oc_11 kV_11 doc_11 pm_11 cd_11 ct_11 : Value} {od_11 an_11 : Option Addr} {sl_11 : Array (Option Value)} (a_11 : PySem.W.nsIn K mainGlobals "_law_pairs" = some (some (.ref f_11)))
  (l_11 : K.lookup f_11 = some ⟨oc_11,od_11,.func (PySem.W.fnOf "_law_pairs" "_law_pairs" (qAP (top 38)) (qAN (top 38)) (qAB (top 38)) .none kV_11 doc_11 pm_11 an_11 cd_11 ct_11),sl_11⟩) (c_11 : PySem.W.codeIn K cd_11 "_law_pairs" = true) (k_11 : PySem.W.keepIn K (.ref f_11) = true)
  {oc_6 kV_6 doc_6 pm_6 cd_6 ct_6 : Value} {od_6 an_6 : Option Addr} {sl_6 : Array (Option Value)} (a_6 : PySem.W.nsIn K mainGlobals "_law_fars" = some (some (.ref f_6)))
  (l_6 : K.lookup f_6 = some ⟨oc_6,od_6,.func (PySem.W.fnOf "_law_fars" "_law_fars" (qAP (top 39)) (qAN (top 39)) (qAB (top 39)) .none kV_6 doc_6 pm_6 an_6 cd_6 ct_6),sl_6⟩) (c_6 : PySem.W.codeIn K cd_6 "_law_fars" = true) (k_6 : PySem.W.keepIn K (.ref f_6) = true)
  {oc_1 kV_1 doc_1 pm_1 cd_1 ct_1 : Value} {od_1 an_1 : Option Addr} {sl_1 : Array (Option Value)} (a_1 : PySem.W.nsIn K mainGlobals "_law_board" = some (some (.ref f_1)))
  (l_1 : K.lookup f_1 = some ⟨oc_1,od_1,.func (PySem.W.fnOf "_law_board" "_law_board" (qAP (top 40)) (qAN (top 40)) (qAB (top 40)) .none kV_1 doc_1 pm_1 an_1 cd_1 ct_1),sl_1⟩) (c_1 : PySem.W.codeIn K cd_1 "_law_board" = true) (k_1 : PySem.W.keepIn K (.ref f_1) = true)
  {oc_2 kV_2 doc_2 pm_2 cd_2 ct_2 : Value} {od_2 an_2 : Option Addr} {sl_2 : Array (Option Value)} (a_2 : PySem.W.nsIn K mainGlobals "_law_came" = some (some (.ref f_2)))
  (l_2 : K.lookup f_2 = some ⟨oc_2,od_2,.func (PySem.W.fnOf "_law_came" "_law_came" (qAP (top 41)) (qAN (top 41)) (qAB (top 41)) .none kV_2 doc_2 pm_2 an_2 cd_2 ct_2),sl_2⟩) (c_2 : PySem.W.codeIn K cd_2 "_law_came" = true) (k_2 : PySem.W.keepIn K (.ref f_2) = true)
  {oc_7 kV_7 doc_7 pm_7 cd_7 ct_7 : Value} {od_7 an_7 : Option Addr} {sl_7 : Array (Option Value)} (a_7 : PySem.W.nsIn K mainGlobals "_law_filled" = some (some (.ref f_7)))
  (l_7 : K.lookup f_7 = some ⟨oc_7,od_7,.func (PySem.W.fnOf "_law_filled" "_law_filled" (qAP (top 42)) (qAN (top 42)) (qAB (top 42)) .none kV_7 doc_7 pm_7 an_7 cd_7 ct_7),sl_7⟩) (c_7 : PySem.W.codeIn K cd_7 "_law_filled" = true) (k_7 : PySem.W.keepIn K (.ref f_7) = true)
  {oc_8 kV_8 doc_8 pm_8 cd_8 ct_8 : Value} {od_8 an_8 : Option Addr} {sl_8 : Array (Option Value)} (a_8 : PySem.W.nsIn K mainGlobals "_law_greatest" = some (some (.ref f_8)))
  (l_8 : K.lookup f_8 = some ⟨oc_8,od_8,.func (PySem.W.fnOf "_law_greatest" "_law_greatest" (qAP (top 43)) (qAN (top 43)) (qAB (top 43)) .none kV_8 doc_8 pm_8 an_8 cd_8 ct_8),sl_8⟩) (c_8 : PySem.W.codeIn K cd_8 "_law_greatest" = true) (k_8 : PySem.W.keepIn K (.ref f_8) = true)
  {oc_law kV_law doc_law pm_law cd_law ct_law : Value} {od_law an_law : Option Addr} {sl_law : Array (Option Value)} (a_law : PySem.W.nsIn K mainGlobals "law" = some (some (.ref f_law)))
  (l_law : K.lookup f_law = some ⟨oc_law,od_law,.func (PySem.W.fnOf "law" "law" (qAP (top 44)) (qAN (top 44)) (qAB (top 44)) .none kV_law doc_law pm_law an_law cd_law ct_law),sl_law⟩) (c_law : PySem.W.codeIn K cd_law "law" = true) (k_law : PySem.W.keepIn K (.ref f_law) = true)
  (z_ValueError : PySem.W.nsIn K mainGlobals "ValueError" = some none)
  (qMZ : PySem.W.nsIn K mainGlobals "all" = some none)
  (z_bool : PySem.W.nsIn K mainGlobals "bool" = some none)
  (z_enumerate : PySem.W.nsIn K mainGlobals "enumerate" = some none)
  (qMa : PySem.W.nsIn K mainGlobals "int" = some none)
  (z_isinstance : PySem.W.nsIn K mainGlobals "isinstance" = some none)
  (qDE : PySem.W.nsIn K mainGlobals "len" = some none)
  (z_list : PySem.W.nsIn K mainGlobals "list" = some none)
  (z_range : PySem.W.nsIn K mainGlobals "range" = some none)
  (qKm : PySem.W.nsIn K mainGlobals "set" = some none)
  (z_str : PySem.W.nsIn K mainGlobals "str" = some none)
  (z_tuple : PySem.W.nsIn K mainGlobals "tuple" = some none)
  (z_zip : PySem.W.nsIn K mainGlobals "zip" = some none)
  (q_FarError : PySem.W.nsIn K mainGlobals "FarError" = some (some (.ref C_FarError)))
  (q_NoPoint : PySem.W.nsIn K mainGlobals "NoPoint" = some (some (.ref C_NoPoint)))
  (q_NoLot : PySem.W.nsIn K mainGlobals "NoLot" = some (some (.ref C_NoLot)))
  (q_NoNumber : PySem.W.nsIn K mainGlobals "NoNumber" = some (some (.ref C_NoNumber)))
  (q_NoCircle : PySem.W.nsIn K mainGlobals "NoCircle" = some (some (.ref C_NoCircle)))
  (q_NoMarks : PySem.W.nsIn K mainGlobals "NoMarks" = some (some (.ref C_NoMarks)))
  (q_NoFars : PySem.W.nsIn K mainGlobals "NoFars" = some (some (.ref C_NoFars)))
  (q_NoText : PySem.W.nsIn K mainGlobals "NoText" = some (some (.ref C_NoText)))
  (q_NoLine : PySem.W.nsIn K mainGlobals "NoLine" = some (some (.ref C_NoLine)))
  (q_NoDeed : PySem.W.nsIn K mainGlobals "NoDeed" = some (some (.ref C_NoDeed)))
  (q_Alike : PySem.W.nsIn K mainGlobals "Alike" = some (some (.ref C_Alike)))
  (q_TooMany : PySem.W.nsIn K mainGlobals "TooMany" = some (some (.ref C_TooMany)))
  {t_MOST_SIDE : Tok} (gi_MOST_SIDE : PySem.W.nsIn K mainGlobals "MOST_SIDE" = some (some (.int (4) t_MOST_SIDE)))
  {t_MOST_FILLED_SIDE : Tok} (gi_MOST_FILLED_SIDE : PySem.W.nsIn K mainGlobals "MOST_FILLED_SIDE" = some (some (.int (12) t_MOST_FILLED_SIDE)))
  (e1 : (qBw ⟨C_FarError,C_NoPoint,C_NoLot,C_NoNumber,C_NoCircle,C_NoMarks,C_NoFars,C_NoText,C_NoLine,C_NoDeed,C_Alike,C_TooMany⟩).all (qO0 K) = true) (e2 : qTO K = true) (e3 : qW2 K (qBw ⟨C_FarError,C_NoPoint,C_NoLot,C_NoNumber,C_NoCircle,C_NoMarks,C_NoFars,C_NoText,C_NoLine,C_NoDeed,C_Alike,C_TooMany⟩) = true) (e4 : qaJ K (caught ⟨C_FarError,C_NoPoint,C_NoLot,C_NoNumber,C_NoCircle,C_NoMarks,C_NoFars,C_NoText,C_NoLine,C_NoDeed,C_Alike,C_TooMany⟩) C_FarError = true) (e5 : qaH K [C_NoPoint,C_NoLot,C_NoNumber,C_NoCircle,C_NoMarks,C_NoFars,C_NoText,C_NoLine,C_NoDeed] C_FarError = true) (e6 : qaI K (C_FarError :: qBw ⟨C_FarError,C_NoPoint,C_NoLot,C_NoNumber,C_NoCircle,C_NoMarks,C_NoFars,C_NoText,C_NoLine,C_NoDeed,C_Alike,C_TooMany⟩) = true) (e7 : (qBw ⟨C_FarError,C_NoPoint,C_NoLot,C_NoNumber,C_NoCircle,C_NoMarks,C_NoFars,C_NoText,C_NoLine,C_NoDeed,C_Alike,C_TooMany⟩).Nodup) : Txt K mg ⟨C_FarError,C_NoPoint,C_NoLot,C_NoNumber,C_NoCircle,C_NoMarks,C_NoFars,C_NoText,C_NoLine,C_NoDeed,C_Alike,C_TooMany⟩:=by
 have k6:=List.all_eq_true.mp e6
 have k5:=List.all_eq_true.mp e5
 exact {
  s_board_points:=qBF X G a_15 l_15 c_15 k_15 qLm
  s_grown:=qBF X G a_18 l_18 c_18 k_18 qTI
  s_is_whole:=qBF X G a_19 l_19 c_19 k_19 qP9
  s_is_within:=qBF X G a_20 l_20 c_20 k_20 qOp
  s_need_within:=qBF X G a_22 l_22 c_22 k_22 qMi
  s_far_between:=qBF X G a_16 l_16 c_16 k_16 qMg
  s_pairs_by_far:=qBF X G a_23 l_23 c_23 k_23 qLn
  s_are_unlike:=qBF X G a_14 l_14 c_14 k_14 qOC
  s_filled:=qBF X G a_17 l_17 c_17 k_17 qRj
  s_most_unlike:=qBF X G a_21 l_21 c_21 k_21 qMh
  s_unlike_lots:=qBF X G a_24 l_24 c_24 k_24 qMj
  s__law_cell:=qBF X G a_3 l_3 c_3 k_3 qOl
  s__law_pen:=qBF X G a_12 l_12 c_12 k_12 qP8
  s__law_draw:=qBF X G a_4 l_4 c_4 k_4 qOm
  s__law_same:=qBF X G a_13 l_13 c_13 k_13 qOo
  s__law_kind_of:=qBF X G a_9 l_9 c_9 k_9 qLl
  s__law_no_number:=qBF X G a_10 l_10 c_10 k_10 qKo
  s__law_far:=qBF X G a_5 l_5 c_5 k_5 qP7
  s__law_pairs:=qBF X G a_11 l_11 c_11 k_11 qOB
  s__law_fars:=qBF X G a_6 l_6 c_6 k_6 qOn
  s__law_board:=qBF X G a_1 l_1 c_1 k_1 qOA
  s__law_came:=qBF X G a_2 l_2 c_2 k_2 qOk
  s__law_filled:=qBF X G a_7 l_7 c_7 k_7 qMf
  s__law_greatest:=qBF X G a_8 l_8 c_8 k_8 qLB
  s_law:=qBF X G a_law l_law c_law k_law qWt
  n_ValueError:=PySem.W.mg_none_of X G z_ValueError
  n_all:=PySem.W.mg_none_of X G qMZ
  n_bool:=PySem.W.mg_none_of X G z_bool
  n_enumerate:=PySem.W.mg_none_of X G z_enumerate
  n_int:=PySem.W.mg_none_of X G qMa
  n_isinstance:=PySem.W.mg_none_of X G z_isinstance
  n_len:=PySem.W.mg_none_of X G qDE
  n_list:=PySem.W.mg_none_of X G z_list
  n_range:=PySem.W.mg_none_of X G z_range
  n_set:=PySem.W.mg_none_of X G qKm
  n_str:=PySem.W.mg_none_of X G z_str
  n_tuple:=PySem.W.mg_none_of X G z_tuple
  n_zip:=PySem.W.mg_none_of X G z_zip
  c_FarError:=PySem.W.mg_of X G q_FarError
  k_FarError:=k6 _ (.head _)
  c_NoPoint:=PySem.W.mg_of X G q_NoPoint
  k_NoPoint:=k6 _ (.tail _ (.head _))
  c_NoLot:=PySem.W.mg_of X G q_NoLot
  k_NoLot:=k6 _ (.tail _ (.tail _ (.head _)))
  c_NoNumber:=PySem.W.mg_of X G q_NoNumber
  k_NoNumber:=k6 _ (.tail _ (.tail _ (.tail _ (.head _))))
  c_NoCircle:=PySem.W.mg_of X G q_NoCircle
  k_NoCircle:=k6 _ (.tail _ (.tail _ (.tail _ (.tail _ (.head _)))))
  c_NoMarks:=PySem.W.mg_of X G q_NoMarks
  k_NoMarks:=k6 _ (.tail _ (.tail _ (.tail _ (.tail _ (.tail _ (.head _))))))
  c_NoFars:=PySem.W.mg_of X G q_NoFars
  k_NoFars:=k6 _ (.tail _ (.tail _ (.tail _ (.tail _ (.tail _ (.tail _ (.head _)))))))
  c_NoText:=PySem.W.mg_of X G q_NoText
  k_NoText:=k6 _ (.tail _ (.tail _ (.tail _ (.tail _ (.tail _ (.tail _ (.tail _ (.head _))))))))
  c_NoLine:=PySem.W.mg_of X G q_NoLine
  k_NoLine:=k6 _ (.tail _ (.tail _ (.tail _ (.tail _ (.tail _ (.tail _ (.tail _ (.tail _ (.head _)))))))))
  c_NoDeed:=PySem.W.mg_of X G q_NoDeed
  k_NoDeed:=k6 _ (.tail _ (.tail _ (.tail _ (.tail _ (.tail _ (.tail _ (.tail _ (.tail _ (.tail _ (.head _))))))))))
  c_Alike:=PySem.W.mg_of X G q_Alike
  k_Alike:=k6 _ (.tail _ (.tail _ (.tail _ (.tail _ (.tail _ (.tail _ (.tail _ (.tail _ (.tail _ (.tail _ (.head _)))))))))))
  c_TooMany:=PySem.W.mg_of X G q_TooMany
  k_TooMany:=k6 _ (.tail _ (.tail _ (.tail _ (.tail _ (.tail _ (.tail _ (.tail _ (.tail _ (.tail _ (.tail _ (.tail _ (.head _))))))))))))
  x_NoNumber:=k5 C_NoNumber (.tail _ (.tail _ (.head _)))
  cls:=qW3 e1 e2 e3
  caught:=fun v hv => of_decide_eq_true (List.all_eq_true.mp e4 v hv)
  g_MOST_SIDE:=⟨_,PySem.W.mg_of X G gi_MOST_SIDE⟩
  g_MOST_FILLED_SIDE:=⟨_,PySem.W.mg_of X G gi_MOST_FILLED_SIDE⟩
  nd:=e7 }
end _K
end
namespace _K
open PySem PySem.Spec PyProof.Rows _L _D
theorem qV0 {P : Program} {w : World} {K : PySem.W.Frag} {mg : Str → Option Value} {base : Heap} {c : Cl} (T : Txt K mg c) : ∃ F,qOg P w K mg base true 7 "law" ["_law_script"] F ∧ ∀ ns : List Int,ns.length ≤ 63 → ∃ S,F [.lst (ns.map D.int)] [] = .ok (.bl true) S:=by
 have d_15 : Def P w K mg base true 1 "board_points" 2 qBo:=qGM ▸ qML T 
 have d_18 : Def P w K mg base true 1 "grown" 2 qGi:=qLj ▸ qUA T 
 have d_19 : Def P w K mg base true 1 "is_whole" 1 qDp:=qF5 ▸ qQK T 
 have d_20 : Def P w K mg base true 2 "is_within" 3 qCi:=qFH ▸ qPf T d_19
 have d_22 : Def P w K mg base true 3 "need_within" 3 (qA6 c):=qEX c ▸ qNP T d_20
 have d_16 : Def P w K mg base true 1 "far_between" 2 qDG:=qGr ▸ qNN T 
 have d_23 : Def P w K mg base true 2 "pairs_by_far" 1 qCG:=qGO ▸ qMN T d_16
 have d_14 : Def P w K mg base true 3 "are_unlike" 1 qBu:=qHs ▸ qON T d_23
 have d_17 : Def P w K mg base true 4 "filled" 2 (qDZ c):=qIC c ▸ qSj T d_15 d_14 d_22
 have d_24 : Def P w K mg base true 4 "unlike_lots" 2 (qBM c):=qEY c ▸ qNQ T d_18 d_14 d_15 d_22
 have d_21 : Def P w K mg base true 5 "most_unlike" 2 (qBh c):=qEW c ▸ qNO T d_24
 have d_3 : Def P w K mg base true 1 "_law_cell" 2 qDO:=qIU ▸ qPc T 
 have d_12 : Def P w K mg base true 1 "_law_pen" 1 qEu:=qJi ▸ qQJ T 
 have d_4 : Def P w K mg base true 1 "_law_draw" 2 qBX:=qIW ▸ qPd T 
 have s0 : Def P w K mg base true 0 "_law_same" 2 (qD1 0):=qVN T.s__law_same
 have s1 : Def P w K mg base true 1 "_law_same" 2 (qD1 1):=qCw T s0
 have s2 : Def P w K mg base true 2 "_law_same" 2 (qD1 2):=qCw T s1
 have s3 : Def P w K mg base true 3 "_law_same" 2 (qD1 3):=qCw T s2
 have s4 : Def P w K mg base true 4 "_law_same" 2 (qD1 4):=qCw T s3
 have s5 : Def P w K mg base true 5 "_law_same" 2 (qD1 5):=qCw T s4
 have s6 : Def P w K mg base true 6 "_law_same" 2 (qD1 6):=qCw T s5
 have d_13 : Def P w K mg base true 6 "_law_same" 2 qA2:=qIa ▸ s6
 have d_9 : Def P w K mg base false 1 "_law_kind_of" 1 (qCn c):=qGK c ▸ qMK T 
 have d_10 : Def P w K mg base true 2 "_law_no_number" 3 qCJ:=qFB ▸ qKv T d_4
 have d_5 : Def P w K mg base true 1 "_law_far" 2 qB9:=qJg ▸ qQI T 
 have d_11 : Def P w K mg base true 1 "_law_pairs" 1 qCo:=qHq ▸ qOM T 
 have d_6 : Def P w K mg base true 2 "_law_fars" 1 qCh:=qIY ▸ qPe T d_11 d_5
 have d_1 : Def P w K mg base true 1 "_law_board" 2 qCm:=qHo ▸ qOL T 
 have d_2 : Def P w K mg base true 6 "_law_came" 3 (qAp c):=qFG c ▸ qPb T d_24 d_21 d_17 d_9
 have d_7 : Def P w K mg base true 2 "_law_filled" 1 qDF:=qGp ▸ qNM T d_5
 have d_8 : Def P w K mg base true 3 "_law_greatest" 1 qCT:=qFo ▸ qLb T d_6
 exact ⟨_,qYG T d_3 d_2 d_10 d_13 d_1 d_7 d_8 d_4 d_12,qT2 c T.nd⟩
theorem qXw {P : Program} {w : World} {K : PySem.W.Frag} {mg : Str → Option Value} {c : Cl} {fa : Addr} (T : Txt K mg c) (hfa : mg "law" = some (.ref fa)) :
  ∃ fd : FuncData,(∀ (s : Shared) (v : Value),BindsTo s fd ⟨[v],[]⟩ [("_law_script",v)]) ∧ ∀ base : Heap,K.In base → base.Ns mainGlobals mg → FnOk P w K mg base (CXd P w) 7 fa fd ["_law_script"] (qOd K) :=
 qV1 T.s_law hfa (fun kV doc pm an cdv ct s v => .of_eq rfl) fun base => qV0 T
theorem qZ8 {q : Program} {loose : List Str} {XP : (Str → Option Value) → Heap → Prop} {r : PySem.W.RowW} {d : DefRec} {kwd : List (Str × Expr)} {run : Value → List Value → Sem Value} {K : Params → PySem.W.Frag} {as : List Addr} {n t : Nat} (e : ∀ P,as = (K P).map (·.1))
  (h : PySem.W.WalkO q loose XP (fun w h => (K w.params).In h) r d kwd run) : PySem.W.WalkX q loose XP (PySem.W.X.obsZ as) (PySem.W.X.valZ K n t) r d kwd run :=
 fun w s₀ s₁ mg mb G Y a o pm cd doc dV kV h1 h2 h3 h4 h5 h6 args vals as' L => h w s₀ s₁ mg mb G (PySem.W.InK.keeps w _ _ (PySem.W.X.z_facts e Y).2.1 L.keeps) a o pm cd doc dV kV h1 h2 h3 h4 h5 h6 args vals as'
end _K
open PySem PySem.W PyProof.Rows
set_option maxRecDepth 100000 in
set_option maxHeartbeats 0 in
theorem PySem.Challenge.cw_fewdistances_k32_boards_filled_and_great_holds : PySem.Challenge.rw_fewdistances_k32_boards_filled_and_great.Holds := by
 w_on; o_law; z_head; (case hw => w_witness2)
 refine _K.qZ8 (fun _ => by kernel_rfl) ?_
 refine _D.qZ7 (l:=PySem.Challenge.rw_fewdistances_k32_boards_filled_and_great) (k:=7) (x:="_law_script") rfl rfl ⟨rfl,by decide,by decide⟩ (fun w h Y => Y) ?F
 case F =>
  intro w mg fa h KX G hmg
  refine' _K.qXw (_K.qY4 KX G ?a_15 ?l_15 ?c_15 ?k_15 ?a_18 ?l_18 ?c_18 ?k_18 ?a_19 ?l_19 ?c_19 ?k_19 ?a_20 ?l_20 ?c_20 ?k_20 ?a_22 ?l_22 ?c_22 ?k_22 ?a_16 ?l_16 ?c_16 ?k_16 ?a_23 ?l_23 ?c_23 ?k_23 ?a_14 ?l_14 ?c_14 ?k_14 ?a_17 ?l_17 ?c_17 ?k_17 ?a_21 ?l_21 ?c_21 ?k_21 ?a_24 ?l_24 ?c_24 ?k_24 ?a_3 ?l_3 ?c_3 ?k_3 ?a_12 ?l_12 ?c_12 ?k_12 ?a_4 ?l_4 ?c_4 ?k_4 ?a_13 ?l_13 ?c_13 ?k_13 ?a_9 ?l_9 ?c_9 ?k_9 ?a_10 ?l_10 ?c_10 ?k_10 ?a_5 ?l_5 ?c_5 ?k_5 ?a_11 ?l_11 ?c_11 ?k_11 ?a_6 ?l_6 ?c_6 ?k_6 ?a_1 ?l_1 ?c_1 ?k_1 ?a_2 ?l_2 ?c_2 ?k_2 ?a_7 ?l_7 ?c_7 ?k_7 ?a_8 ?l_8 ?c_8 ?k_8 ?a_law ?l_law ?c_law ?k_law ?z_ValueError ?qMZ ?z_bool ?z_enumerate ?qMa ?z_isinstance ?qDE ?z_list ?z_range ?qKm ?z_str ?z_tuple ?z_zip ?q_FarError ?q_NoPoint ?q_NoLot ?q_NoNumber ?q_NoCircle ?q_NoMarks ?q_NoFars ?q_NoText ?q_NoLine ?q_NoDeed ?q_Alike ?q_TooMany ?gi_MOST_SIDE ?gi_MOST_FILLED_SIDE ?e1 ?e2 ?e3 ?e4 ?e5 ?e6 ?e7) hmg
  (case a_15 => k_is)
  (case l_15 => k_is)
  (case c_15 => k_is)
  (case k_15 => k_is)
  (case a_18 => k_is)
  (case l_18 => k_is)
  (case c_18 => k_is)
  (case k_18 => k_is)
  (case a_19 => k_is)
  (case l_19 => k_is)
  (case c_19 => k_is)
  (case k_19 => k_is)
  (case a_20 => k_is)
  (case l_20 => k_is)
  (case c_20 => k_is)
  (case k_20 => k_is)
  (case a_22 => k_is)
  (case l_22 => k_is)
  (case c_22 => k_is)
  (case k_22 => k_is)
  (case a_16 => k_is)
  (case l_16 => k_is)
  (case c_16 => k_is)
  (case k_16 => k_is)
  (case a_23 => k_is)
  (case l_23 => k_is)
  (case c_23 => k_is)
  (case k_23 => k_is)
  (case a_14 => k_is)
  (case l_14 => k_is)
  (case c_14 => k_is)
  (case k_14 => k_is)
  (case a_17 => k_is)
  (case l_17 => k_is)
  (case c_17 => k_is)
  (case k_17 => k_is)
  (case a_21 => k_is)
  (case l_21 => k_is)
  (case c_21 => k_is)
  (case k_21 => k_is)
  (case a_24 => k_is)
  (case l_24 => k_is)
  (case c_24 => k_is)
  (case k_24 => k_is)
  (case a_3 => k_is)
  (case l_3 => k_is)
  (case c_3 => k_is)
  (case k_3 => k_is)
  (case a_12 => k_is)
  (case l_12 => k_is)
  (case c_12 => k_is)
  (case k_12 => k_is)
  (case a_4 => k_is)
  (case l_4 => k_is)
  (case c_4 => k_is)
  (case k_4 => k_is)
  (case a_13 => k_is)
  (case l_13 => k_is)
  (case c_13 => k_is)
  (case k_13 => k_is)
  (case a_9 => k_is)
  (case l_9 => k_is)
  (case c_9 => k_is)
  (case k_9 => k_is)
  (case a_10 => k_is)
  (case l_10 => k_is)
  (case c_10 => k_is)
  (case k_10 => k_is)
  (case a_5 => k_is)
  (case l_5 => k_is)
  (case c_5 => k_is)
  (case k_5 => k_is)
  (case a_11 => k_is)
  (case l_11 => k_is)
  (case c_11 => k_is)
  (case k_11 => k_is)
  (case a_6 => k_is)
  (case l_6 => k_is)
  (case c_6 => k_is)
  (case k_6 => k_is)
  (case a_1 => k_is)
  (case l_1 => k_is)
  (case c_1 => k_is)
  (case k_1 => k_is)
  (case a_2 => k_is)
  (case l_2 => k_is)
  (case c_2 => k_is)
  (case k_2 => k_is)
  (case a_7 => k_is)
  (case l_7 => k_is)
  (case c_7 => k_is)
  (case k_7 => k_is)
  (case a_8 => k_is)
  (case l_8 => k_is)
  (case c_8 => k_is)
  (case k_8 => k_is)
  (case a_law => k_is)
  (case l_law => k_is)
  (case c_law => k_is)
  (case k_law => k_is)
  (case z_ValueError => k_is)
  (case qMZ => k_is)
  (case z_bool => k_is)
  (case z_enumerate => k_is)
  (case qMa => k_is)
  (case z_isinstance => k_is)
  (case qDE => k_is)
  (case z_list => k_is)
  (case z_range => k_is)
  (case qKm => k_is)
  (case z_str => k_is)
  (case z_tuple => k_is)
  (case z_zip => k_is)
  (case q_FarError => k_is)
  (case q_NoPoint => k_is)
  (case q_NoLot => k_is)
  (case q_NoNumber => k_is)
  (case q_NoCircle => k_is)
  (case q_NoMarks => k_is)
  (case q_NoFars => k_is)
  (case q_NoText => k_is)
  (case q_NoLine => k_is)
  (case q_NoDeed => k_is)
  (case q_Alike => k_is)
  (case q_TooMany => k_is)
  (case gi_MOST_SIDE => k_is)
  (case gi_MOST_FILLED_SIDE => k_is)
  (case e1 => rfl)
  (case e2 => rfl)
  (case e3 => rfl)
  (case e4 => rfl)
  (case e5 => rfl)
  (case e6 => rfl)
  (case e7 => decide)
