import PyProof.Rows.All
import Wide.All
import OpenK.AllK
import Wide.FinOn
import Lean
import PyProof.EqAt
import PyProof.EqKinds
import PyProof.TupleCall
import PyProof.NeKinds
import PyProof.ZipIter
import KE.KTryMore
import KE.KIsAll
import PyProof.Rows.CountFlat
import PyProof.Rows.FStr
import PyProof.EnumMake
import PyProof.EnumStmt
import KE.KDictLaws
import PyProof.DictWalks
import PyProof.Rows.SetFrom
import KE.KItemsList
import PySem.Challenge.RW_fewdistances_k41_sums_and_circles_by_pri
set_option Elab.async false
set_option linter.all false
set_option maxRecDepth 100000
set_option maxHeartbeats 0
set_option tactic.hygienic false
set_option bootstrap.genMatcherCode false
set_option genSizeOf false
set_option compiler.extract_closed false
theorem kd {p : Prop} [Decidable p] (h : p := by decide +kernel) : p := h
theorem au1 (h : 0 = 0 := by first | exact .inl rfl | exact .inr rfl | assumption) (k : 0 = 0) : 0 = 0 := k
theorem au2 (h : 0 = 0 := by decide) : 0 = 0 := h
theorem au3 (h : 0 = 0 := by rfl) : 0 = 0 := h
theorem au4 (h : 0 = 0 := by intro _; rfl) (k : 0 = 0) : 0 = 0 := k
theorem au5 (h : 0 = 0 := by intro _ _; rfl) (k : 0 = 0) : 0 = 0 := k
theorem au6 (h : 0 = 0 := by with_unfolding_all rfl) : 0 = 0 := h
theorem au7 (h : 0 = 0 := by first | exact Or.inl rfl | exact Or.inr rfl) (k : 0 = 0) : 0 = 0 := k
section
namespace L2
open PySem PySem.Spec PyProof.Rows
abbrev Key := Sum Int Str
noncomputable def qIk : Key → Value → Bool
 | .inl k, v => Value.isInt k v
 | .inr x, v => Value.isStrOf x v
noncomputable def qZK (w : World) : Key → Int
 | .inl k => hashInt k
 | .inr x => hashStr w x
theorem qBi : ∀ {k : Key} {v : Value}, qIk k v = true → (∃ i t, k = Sum.inl i ∧ v = Value.int i t) ∨ (∃ x t, k = Sum.inr x ∧ v = Value.str x t)
 | .inl i, v, h => by
  obtain ⟨t, e⟩ := Value.isInt_shape (k := i) (v := v) h
  exact .inl ⟨i, t, rfl, e⟩
 | .inr x, v, h => by
  obtain ⟨t, e⟩ := Value.isStrOf_shape (x := x) (v := v) h
  exact .inr ⟨x, t, rfl, e⟩
theorem qRq (i : Int) (t : Tok) : qIk (.inl i) (.int i t) = true := by simp [qIk, Value.isInt]
theorem qRr (x : Str) (t : Tok) : qIk (.inr x) (.str x t) = true := by simp [qIk, Value.isStrOf]
theorem qWu (a b : Int) : decide ((Sum.inl a : Key) = Sum.inl b) = (a == b) := by
 by_cases e : a = b
 ·subst e; simp
 ·have h : ¬ (Sum.inl a : Key) = Sum.inl b := fun q => e (Sum.inl.inj q)
  rw [decide_eq_false h]
  exact (beq_eq_false_iff_ne.mpr e).symm
theorem qWx (a b : Str) : decide ((Sum.inr a : Key) = Sum.inr b) = decide (a = b) := by
 by_cases e : a = b
 ·subst e; simp
 ·have h : ¬ (Sum.inr a : Key) = Sum.inr b := fun q => e (Sum.inr.inj q)
  rw [decide_eq_false h, decide_eq_false e]
theorem qWv (a : Int) (b : Str) : decide ((Sum.inl a : Key) = Sum.inr b) = false := decide_eq_false (fun q => nomatch q)
theorem qWw (a : Str) (b : Int) : decide ((Sum.inr a : Key) = Sum.inl b) = false := decide_eq_false (fun q => nomatch q)
noncomputable def qBJ (prog : Program) (w : World) : PySem.KeyKind prog w Key where
 is := qIk
 hash := qZK w
 inj := fun v a b ha hb => by
  rcases qBi ha with ⟨i, t, rfl, rfl⟩ | ⟨x, t, rfl, rfl⟩
  ·rcases qBi hb with ⟨j, u, rfl, e⟩ | ⟨y, u, rfl, e⟩
   ·injection e with e1 _; rw [e1]
   ·exact nomatch e
  ·rcases qBi hb with ⟨j, u, rfl, e⟩ | ⟨y, u, rfl, e⟩
   ·exact nomatch e
   ·injection e with e1 _; rw [e1]
 byValue := fun k v h => by
  rcases qBi h with ⟨i, t, rfl, rfl⟩ | ⟨x, t, rfl, rfl⟩ <;> rfl
 pyHash := fun hv h => by
  rcases qBi hv with ⟨i, t, rfl, rfl⟩ | ⟨x, t, rfl, rfl⟩
  ·exact wpAny_pyHash_int h
  ·exact wpAny_pyHash_str h
 eqBool := fun hu hv h => by
  rcases qBi hu with ⟨i, t, rfl, rfl⟩ | ⟨x, t, rfl, rfl⟩
  ·rcases qBi hv with ⟨j, u, rfl, rfl⟩ | ⟨y, u, rfl, rfl⟩
   ·rw [qWu] at h; exact wpAny_eqBool_int h
   ·rw [qWv] at h; exact SeqAt.EqAt.int_str i t y u _ _ _ _ h
  ·rcases qBi hv with ⟨j, u, rfl, rfl⟩ | ⟨y, u, rfl, rfl⟩
   ·rw [qWw] at h; exact SeqAt.EqAt.str_int x t j u _ _ _ _ h
   ·rw [qWx] at h; exact wpAny_eqBool_str h
 «strs» := fun k x t v h => by
  rcases qBi h with ⟨i, u, rfl, e⟩ | ⟨y, u, rfl, e⟩
  ·exact nomatch e
  ·injection e with e1 _
   subst e1
   cases v <;> rfl
theorem qPs (prog : Program) (w : World) (i : Int) (t : Tok) : (qBJ prog w).is (.inl i) (.int i t) = true := qRq i t
theorem qPt (prog : Program) (w : World) (x : Str) (t : Tok) : (qBJ prog w).is (.inr x) (.str x t) = true := qRr x t
end L2
namespace L2
open PySem PySem.Spec PyProof.Rows
inductive V where
 | non | bl (b : Bool) | int (i : Int) | str (x : Str) | byt (b : Array UInt8) | flt (b : UInt64) | ref (a : Addr) | ty (n : String)
 deriving DecidableEq
noncomputable def qAR : V → Value → Prop
 | .non, u => u = Value.none
 | .bl b, u => u = Value.bool b
 | .int i, u => ∃ t, u = Value.int i t
 | .str x, u => ∃ t, u = Value.str x t
 | .byt b, u => ∃ t, u = Value.bytes b t
 | .flt b, u => ∃ t, u = Value.float b t
 | .ref a, u => u = Value.ref a
 | .ty n, u => u = Value.type n
abbrev qAZ : List V → List Value → Prop := Paired qAR
theorem qAZ.length {xs : List V} {us : List Value} (r : qAZ xs us) : xs.length = us.length := Paired.length r
theorem qAZ.get : ∀ {xs : List V} {us : List Value} {i : Nat} {x : V}, qAZ xs us → xs[i]? = some x → ∃ u, us[i]? = some u ∧ qAR x u
 | _, _, _, _, .nil, e => by simp at e
 | _, _, 0, _, .cons r _, e => by simp at e; subst e; exact ⟨_, rfl, r⟩
 | _, _, i + 1, x, .cons _ t, e => by
  obtain ⟨u, h1, h2⟩ := qAZ.get (i := i) (x := x) t (by simpa using e)
  exact ⟨u, by simpa using h1, h2⟩
theorem qAZ.set {x : V} {u : Value} (r : qAR x u) : ∀ {xs : List V} {us : List Value} (i : Nat), qAZ xs us → qAZ (xs.set i x) (us.set i u)
 | _, _, _, .nil => .nil
 | _, _, 0, .cons _ t => .cons r t
 | _, _, i + 1, .cons q t => .cons q (qAZ.set r i t)
theorem qAZ.append : ∀ {xs ys : List V} {us ws : List Value}, qAZ xs us → qAZ ys ws → qAZ (xs ++ ys) (us ++ ws)
 | _, _, _, _, .nil, s => s
 | _, _, _, _, .cons r t, s => .cons r (qAZ.append t s)
theorem qAZ.take : ∀ {xs : List V} {us : List Value} (n : Nat), qAZ xs us → qAZ (xs.take n) (us.take n)
 | _, _, 0, _ => .nil
 | _, _, _ + 1, .nil => .nil
 | _, _, n + 1, .cons r t => .cons r (qAZ.take n t)
theorem qAZ.drop : ∀ {xs : List V} {us : List Value} (n : Nat), qAZ xs us → qAZ (xs.drop n) (us.drop n)
 | _, _, 0, r => r
 | _, _, _ + 1, .nil => .nil
 | _, _, n + 1, .cons _ t => qAZ.drop n t
noncomputable def qE8 : Option V → Option Value → Prop
 | some v, some u => qAR v u
 | none, none => True
 | _, _ => False
noncomputable def KV {κ : Type} : List (κ × V) → List (κ × Value) → Prop := Paired fun (p : κ × V) (q : κ × Value) => p.1 = q.1 ∧ qAR p.2 q.2
noncomputable def kV : Key → V
 | .inl i => .int i
 | .inr x => .str x
inductive HO where
  | lst (xs : List V)
  | tup (xs : List V)
  | dK (kvs : List (Key × V)) | dT (kvs : List (List Key × V))
  | set (S : Int → Bool) (n : Nat)
  | ins (C dx : Addr) (fs : List (Str × V))
  | own (x : Addr)
  | xd (fs : List (Str × V))
  | met (f x : Addr)
  | rng (lo hi : Int)
  | frz (o : Obj) (u : HO)
  | tbl (ps : Array Value)
  | ext (φ : Heap → Prop)
abbrev Hp := Addr → Option HO
noncomputable def upd (H : Hp) (a : Addr) (o : HO) : Hp := fun b => if b = a then some o else H b
theorem qA5 {H : Hp} {a : Addr} {o : HO} : upd H a o a = some o := by unfold upd; rw [if_pos rfl]
theorem qAa {H : Hp} {a b : Addr} {o : HO} (h : b ≠ a) : upd H a o b = H b := by unfold upd; rw [if_neg h]
theorem qYQ {H : Hp} {a b : Addr} {o u : HO} (h : H a = some o) (h' : H b = some u) (d : o ≠ u) : a ≠ b := by
 intro e; subst e; rw [h] at h'; exact d (Option.some.inj h')
theorem qAw {H : Hp} {a b : Addr} {o : HO} (h : H a = some o) (h' : H b = none) : a ≠ b := by
 intro e; subst e; rw [h] at h'; cases h'
section
variable (P : Program) (w : World)
noncomputable def qBD (H : Hp) (h : Heap) (a : Addr) : HO → Prop
 | .lst xs => xs.length ≤ sizeLine ∧ ∃ (its : List Value) (n : Nat), qAZ xs its ∧ h.get? a = some { cls := .type "list", data := .seq its.toArray n }
 | .tup xs => xs.length ≤ sizeLine ∧ ∃ its : List Value, qAZ xs its ∧ IsTup h a its.toArray
 | .dK kvs => kvs.length ≤ sizeLine ∧ (a == sysModules) = false ∧ ∃ vs, KV kvs vs ∧ h.DictOf (qBJ P w) a vs
 | .dT kvs => kvs.length ≤ sizeLine ∧ (a == sysModules) = false ∧ ∃ xs : List (List Key × Addr × Value),
   Paired (fun (p : List Key × V) (q : List Key × Addr × Value) => p.1 = q.1 ∧ H q.2.1 = some (.tup (p.1.map kV)) ∧ qAR p.2 q.2.2) kvs xs ∧
   ∃ o es ep, h.get? a = some o ∧ o.ExactDict ∧ o.data = .dict es ep ∧ es.toList = xs.map (entryOfKey (tupleKind (qBJ P w))) ∧ (xs.map (·.1)).Nodup
 | .set S n => h.SetOf (intKind P w) a S n
 | .ins C dx fs => H dx = some (.own a) ∧ fs.length ≤ 1000 ∧ dx ≠ a ∧ h.get? a = some (PySem.W.instObj C dx) ∧
   ∃ mA, h.Ns1 dx mA ∧ (∀ f, qE8 (fs.lookup f) (mA f)) ∧ PySem.Within mA (fs.map (·.1))
 | .own _ => ∃ o, h.get? a = some o
 | .xd fs => ∃ mA, h.Ns1 a mA ∧ ∀ f, qE8 (fs.lookup f) (mA f)
 | .rng lo hi => ∃ t u v, h.get? a = some { cls := .type "range", data := .fields #[.int lo t, .int hi u, .int 1 v] }
 | .frz o u => h.get? a = some o ∧ qBD H h a u
 | .tbl ps => h.get? a = some { cls := .none, data := .fields ps }
 | .met f x => h.get? a = some (PySem.W.methodObj (.ref f) (.ref x))
 | .ext φ => φ h ∧ (∃ o, h.get? a = some o) ∧ ∀ h1 h2 : Heap, φ h1 → (∀ o, h1.get? a = some o → h2.get? a = some o) → φ h2
noncomputable def HOk (H : Hp) (h : Heap) : Prop := ∀ a o, H a = some o → qBD P w H h a o
end
section
variable {P : Program} {w : World} {H H' : Hp} {h h' : Heap} {a : Addr} {o : HO}
theorem qBD.lt (x : qBD P w H h a o) : a < h.objs.size := by
 cases o with
 | lst xs => obtain ⟨_, _, _, _, e⟩ := x; exact Heap.lt_size e
 | tup xs => obtain ⟨_, _, _, p⟩ := x; exact p.lt
 | dK kvs => obtain ⟨_, _, _, _, o, _, _, e, _⟩ := x; exact Heap.lt_size e
 | dT kvs => obtain ⟨_, _, _, _, o, _, _, e, _⟩ := x; exact Heap.lt_size e
 | set S n => obtain ⟨o, _, _, _, e, _⟩ := x; exact Heap.lt_size e
 | ins C dx fs => obtain ⟨_, _, _, e, _⟩ := x; exact Heap.lt_size e
 | own y => obtain ⟨_, e⟩ := x; exact Heap.lt_size e
 | xd fs => obtain ⟨_, ⟨_, _, _, e, _⟩, _⟩ := x; exact Heap.lt_size e
 | rng lo hi => obtain ⟨_, _, _, e⟩ := x; exact Heap.lt_size e
 | frz ob u => obtain ⟨e, _⟩ := x; exact Heap.lt_size e
 | tbl ps => exact Heap.lt_size (show h.get? a = some _ from x)
 | met f y => exact Heap.lt_size (show h.get? a = some _ from x)
 | ext φ => obtain ⟨_, ⟨_, e⟩, _⟩ := x; exact Heap.lt_size e
theorem Paired.mapP {α β : Type} {F G : α → β → Prop} : ∀ {l₁ : List α} {l₂ : List β}, Paired F l₁ l₂ → (∀ a b, F a b → G a b) → Paired G l₁ l₂
 | _, _, .nil, _ => .nil
 | _, _, .cons r t, f => .cons (f _ _ r) (Paired.mapP t f)
theorem qBD.stay (x : qBD P w H h a o) (k : ∀ b u, (b = a ∨ H b = some (.own a)) → h.get? b = some u → h'.get? b = some u)
  (ho : ∀ b, H b = some (.own a) → H' b = some (.own a)) (ht : ∀ b xs, H b = some (.tup xs) → H' b = some (.tup xs)) : qBD P w H' h' a o := by
 induction o with
 | lst xs => obtain ⟨z, its, n, r, e⟩ := x; exact ⟨z, its, n, r, k _ _ (.inl rfl) e⟩
 | tup xs => obtain ⟨z, its, r, ob, e, c⟩ := x; exact ⟨z, its, r, ob, k _ _ (.inl rfl) e, c⟩
 | dK kvs => obtain ⟨z, y, vs, r, ob, es, ep, e, c⟩ := x; exact ⟨z, y, vs, r, ob, es, ep, k _ _ (.inl rfl) e, c⟩
 | dT kvs =>
  obtain ⟨z, y, xs, r, ob, es, ep, e, c⟩ := x
  exact ⟨z, y, xs, Paired.mapP r fun p q z => ⟨z.1, ht _ _ z.2.1, z.2.2⟩, ob, es, ep, k _ _ (.inl rfl) e, c⟩
 | set S n => obtain ⟨ob, es, ep, t, e, c⟩ := x; exact ⟨ob, es, ep, t, k _ _ (.inl rfl) e, c⟩
 | ins C dx fs =>
  obtain ⟨d, z, ne, e, mA, ⟨od, es, ep, e2, c⟩, r⟩ := x
  exact ⟨ho _ d, z, ne, k _ _ (.inl rfl) e, mA, ⟨od, es, ep, k _ _ (.inr d) e2, c⟩, r⟩
 | own y => obtain ⟨ob, e⟩ := x; exact ⟨ob, k _ _ (.inl rfl) e⟩
 | xd fs => obtain ⟨mA, ⟨od, es, ep, e, c⟩, r⟩ := x; exact ⟨mA, ⟨od, es, ep, k _ _ (.inl rfl) e, c⟩, r⟩
 | rng lo hi => obtain ⟨t, u, v, e⟩ := x; exact ⟨t, u, v, k _ _ (.inl rfl) e⟩
 | frz ob u ih => obtain ⟨e, q⟩ := x; exact ⟨k _ _ (.inl rfl) e, ih q⟩
 | tbl ps =>
  have e : h.get? a = some { cls := .none, data := .fields ps } := x
  show h'.get? a = some { cls := .none, data := .fields ps }
  exact k a _ (.inl rfl) e
 | met f y =>
  have e : h.get? a = some (PySem.W.methodObj (.ref f) (.ref y)) := x
  show h'.get? a = some (PySem.W.methodObj (.ref f) (.ref y))
  exact k a _ (.inl rfl) e
 | ext φ => obtain ⟨p, ⟨o, e⟩, st⟩ := x; exact ⟨st _ _ p fun o q => k _ _ (.inl rfl) q, ⟨o, k _ _ (.inl rfl) e⟩, st⟩
theorem HOk.lt (x : HOk P w H h) (e : H a = some o) : a < h.objs.size := (x a o e).lt
theorem HOk.fresh (x : HOk P w H h) (e : h.objs.size ≤ a) : H a = none := by
 cases q : H a with
 | none => rfl
 | some u => exact absurd (Nat.lt_of_lt_of_le (x.lt q) e) (Nat.lt_irrefl _)
theorem HOk.kept (x : HOk P w H h) (k : ∀ b u, h.get? b = some u → h'.get? b = some u) : HOk P w H h' := fun a o e =>
 (x a o e).stay (fun b u _ q => k b u q) (fun _ q => q) fun _ _ q => q
theorem HOk.laid (x : HOk P w H h) (k : ∀ b u, h.get? b = some u → h'.get? b = some u) (hp : h.objs.size ≤ a) (new : qBD P w (upd H a o) h' a o) : HOk P w (upd H a o) h' := fun b u e => by
 have hn := x.fresh hp
 by_cases hb : b = a
 ·subst hb; rw [qA5] at e; cases e; exact new
 ·rw [qAa hb] at e
  exact (x b u e).stay (fun c v _ q => k c v q) (fun c q => by rw [qAa (qAw q hn)]; exact q) fun c xs q => by rw [qAa (qAw q hn)]; exact q
end
noncomputable def Rd (H : Hp) (a : Addr) (u : HO) : Prop := H a = some u ∨ ∃ o, H a = some (.frz o u)
theorem Rd.ok {P : Program} {w : World} {H : Hp} {h : Heap} {a : Addr} {u : HO} (r : Rd H a u) (x : HOk P w H h) : qBD P w H h a u := by
 rcases r with r | ⟨o, r⟩
 ·exact x a u r
 ·obtain ⟨_, q⟩ := x a _ r
  exact q
noncomputable def Mut : Option HO → Prop
 | some (.lst _) => True
 | some (.dK _) => True
 | some (.dT _) => True
 | some (.set _ _) => True
 | some (.ins _ _ _) => True
 | some (.ext _) => True
 | _ => False
section
variable {P : Program} {w : World} {H : Hp} {h h' : Heap} {x e : Addr} {o' : HO}
theorem HOk.write (ok : HOk P w H h) (mu : Mut (H x)) (he : e = x ∨ H e = some (.own x)) (k : ∀ b u, b ≠ e → h.get? b = some u → h'.get? b = some u) (heo : ∃ u, h'.get? e = some u)
  (new : qBD P w (upd H x o') h' x o') : HOk P w (upd H x o') h' := fun b u q => by
 have nown : ∀ c y, H c = some (.own y) → c ≠ x := fun c y r z => by subst z; rw [r] at mu; exact mu
 have ntup : ∀ c xs, H c = some (.tup xs) → c ≠ x := fun c xs r z => by subst z; rw [r] at mu; exact mu
 by_cases hb : b = x
 ·subst hb; rw [qA5] at q; cases q; exact new
 ·rw [qAa hb] at q
  by_cases hbe : b = e
  ·have q' : H b = some (.own x) := by
    rcases he with z | z
    ·exact absurd (hbe.trans z) hb
    ·rw [hbe]; exact z
   rw [q] at q'; cases q'
   obtain ⟨v, hv⟩ := heo
   exact ⟨v, by rw [hbe]; exact hv⟩
  ·refine (ok b u q).stay (fun c v hc r => k c v ?_ r) (fun c r => by rw [qAa (nown c b r)]; exact r) fun c xs r => by rw [qAa (ntup c xs r)]; exact r
   rcases hc with rfl | hc
   ·exact hbe
   ·rintro rfl
    rcases he with z | z
    ·exact nown c b hc z
    ·rw [hc] at z; cases z; exact hb rfl
end
structure Un (fs ex : List Addr) (H H' : Hp) (h h' : Heap) : Prop where
 keep : ∀ b o, h.get? b = some o → H b = none → b ∉ fs → b ∉ ex → h'.get? b = some o
 slot : ∀ b o, h.get? b = some o → H b = none → b ∈ fs → b ∉ ex → ∃ sl, h'.get? b = some { o with slots := sl }
 free : ∀ b o, h.get? b = some o → H b = none → b ∉ ex → H' b = none
 there : ∀ b o, h.get? b = some o → b ∉ ex → ∃ o', h'.get? b = some o'
 tups : ∀ b xs, H b = some (.tup xs) → H' b = some (.tup xs)
 frzs : ∀ b o u, H b = some (.frz o u) → H' b = some (.frz o u)
 tbls : ∀ b ps, H b = some (.tbl ps) → ∃ more, H' b = some (.tbl (ps ++ more))
section
variable {fs fs' ex ex' : List Addr} {H H1 H2 : Hp} {h h1 h2 h' : Heap} {a x e : Addr} {o : HO}
theorem Un.any (u : Un fs ex H H1 h h1) {b : Addr} {ob : Obj} (q : h.get? b = some ob) (n : H b = none) (hx : b ∉ ex) : ∃ sl, h1.get? b = some { ob with slots := sl } := by
 by_cases hb : b ∈ fs
 ·exact u.slot b ob q n hb hx
 ·exact ⟨ob.slots, u.keep b ob q n hb hx⟩
theorem Un.kept (k : ∀ b u, h.get? b = some u → h'.get? b = some u) : Un fs ex H H h h' :=
 ⟨fun b ob q _ _ _ => k b ob q, fun b ob q _ _ _ => ⟨ob.slots, k b ob q⟩, fun _ _ _ n _ => n, fun b ob q _ => ⟨ob, k b ob q⟩, fun _ _ q => q, fun _ _ _ q => q, fun _ ps q => ⟨#[], by rw [q]; simp⟩⟩
theorem Un.refl : Un fs ex H H h h := Un.kept fun _ _ q => q
theorem Un.laid (k : ∀ b u, h.get? b = some u → h'.get? b = some u) (hp : h.objs.size ≤ a) (hn : H a = none) : Un fs ex H (upd H a o) h h' where
 keep := fun b u q _ _ _ => k b u q
 slot := fun b u q _ _ _ => ⟨u.slots, k b u q⟩
 free := fun b u q n _ => by rw [qAa (Nat.ne_of_lt (Nat.lt_of_lt_of_le (Heap.lt_size q) hp))]; exact n
 there := fun b u q _ => ⟨u, k b u q⟩
 tups := fun b xs q => by rw [qAa (qAw q hn)]; exact q
 frzs := fun b u xs q => by rw [qAa (qAw q hn)]; exact q
 tbls := fun b ps q => ⟨#[], by rw [qAa (qAw q hn), q]; simp⟩
theorem Un.write (mu : Mut (H x)) (he : e = x ∨ H e = some (.own x)) (k : ∀ b u, b ≠ e → h.get? b = some u → h'.get? b = some u) (heo : ∃ u, h'.get? e = some u) : Un fs ex H (upd H x o) h h' := by
 have hx : ∀ b, H b = none → b ≠ x := fun b n z => by subst z; rw [n] at mu; exact mu
 have hb : ∀ b, H b = none → b ≠ e := fun b n z => by
  subst z
  rcases he with r | r
  ·exact hx b n r
  ·rw [n] at r; cases r
 have hm : ∀ b u, H b = some u → ¬ Mut (some u) → b ≠ x := fun b u q nm z => by subst z; rw [q] at mu; exact nm mu
 refine ⟨fun b u q n _ _ => k b u (hb b n) q, fun b u q n _ _ => ⟨u.slots, k b u (hb b n) q⟩, fun b u q n _ => by rw [qAa (hx b n)]; exact n, fun b u q _ => ?_,
  fun b xs q => by rw [qAa (hm b _ q fun z => z)]; exact q, fun b u xs q => by rw [qAa (hm b _ q fun z => z)]; exact q, fun b ps q => ⟨#[], by rw [qAa (hm b _ q fun z => z), q]; simp⟩⟩
 by_cases hbe : b = e
 ·subst hbe; exact heo
 ·exact ⟨u, k b u hbe q⟩
end
noncomputable def trk (h : Heap) (H : Hp) : List Addr := (List.range h.objs.size).filter fun a => (H a).isSome
noncomputable def qIj (h : Heap) (H : Hp) : Heap := PySem.W.hideAll h (trk h H)
theorem qRk (h : Heap) (H : Hp) : (qIj h H).objs.size = h.objs.size := PySem.W.hideAll_size _ _
theorem qS4 {h : Heap} {H : Hp} {b : Addr} {o : Obj} (e : h.get? b = some o) (n : H b = none) : (qIj h H).get? b = some o :=
 PySem.W.hideAll_get _ e fun hm => by
  have q : (H b).isSome = true := (List.mem_filter.mp hm).2
  rw [n] at q; simp at q
theorem qVJ {h : Heap} {H : Hp} {b : Addr} {o : Obj} (e : (qIj h H).get? b = some o) : h.get? b = some o ∧ H b = none := by
 have e' : h.get? b = some o := PySem.W.of_hideAll (trk h H) e
 refine ⟨e', ?_⟩
 cases q : H b with
 | none => rfl
 | some x =>
  have hm : b ∈ trk h H := List.mem_filter.mpr ⟨List.mem_range.mpr (Heap.lt_size e'), by simp [q]⟩
  have z : (qIj h H).get? b = none := PySem.W.hideAll_none (trk h H) hm
  rw [z] at e; cases e
noncomputable def qUC (g h : Heap) (L : Addr) : List (Addr × Obj) := (List.range h.objs.size).filterMap fun a => if a = L ∨ (g.get? a).isSome = true then none else (h.get? a).map fun o => (a, o)
noncomputable def rest (g h : Heap) (L d : Addr) : List (Addr × Obj) := (qUC g h L).filter fun p => decide (p.1 ≠ d)
end L2
namespace L2
open PySem PySem.Spec PyProof.Rows
structure Mod (K : PySem.W.Frag) (mg : Str → Option Value) (base : Heap) : Prop where
 kin : K.In base
 glob : base.Ns mainGlobals mg
 blt : ∃ mb, base.Ns builtinsNs mb ∧ ∀ x : Str, x ≠ "__name__" → mb x = bootBuiltins x
 nolimit : base.NoLimit
set_option genInjectivity false in
structure Cx where
 prog : Program
 w : World
 K : PySem.W.Frag
 mg : Str → Option Value
 base : Heap
 A : Around
 N : List Str
 s₀ : Shared
 H₀ : Hp
 env : Env
 outer : List Env
 stack : List Env
 ex : List Addr
 fn : Str → Bool
 calm : Bool
 pn : List (Addr × Obj)
 xe : Value → Shared → Prop
noncomputable def frs (l : List Env) : List Addr := l.filterMap (·.frame)
noncomputable abbrev Cx.fs (X : Cx) : List Addr := frs X.outer
noncomputable def Vis (sc : Scope) (x : Str) : Prop := sc.names.lookup x = some .local ∨ sc.names.lookup x = some .cell ∨ sc.names.lookup x = some .free
noncomputable def Loc (sc : Scope) (x : Str) : Prop := sc.names.lookup x = some .local ∨ sc.names.lookup x = some .cell
noncomputable def qVr (env : Env) (h : Heap) (m : Str → Option Value) (x : Str) (u : Value) : Prop :=
 (env.kindOf x = some .local ∧ m x = some u) ∨ ((env.kindOf x = some .cell ∨ env.kindOf x = some .free) ∧ ∃ c, env.cells.lookup x = some c ∧ h.IsCell c (some u))
set_option genInjectivity false in
structure Cx.Ok (X : Cx) : Prop where
 mod : Mod X.K X.mg X.base
 kind : X.env.scope.kind = .function
 glob : X.env.globals = mainGlobals
 blt : X.env.builtins = builtinsNs
 above : X.s₀.heap.objs.size ≤ X.env.locals
 inj : ∀ x y c, X.env.cells.lookup x = some c → X.env.cells.lookup y = some c → x = y
 has : ∀ x, (X.env.kindOf x = some .cell ∨ X.env.kindOf x = some .free) → ∃ c, X.env.cells.lookup x = some c
 cab : ∀ x c, X.fn x = true → X.env.cells.lookup x = some c → X.s₀.heap.objs.size ≤ c
 hd : X.calm = true → X.A.handled = none
 frames : X.A.frames = some X.stack
 stk : X.stack = X.outer ∨ (X.stack = X.env :: X.outer ∧ X.env.frame = some X.env.locals)
 exf : ∀ b ∈ X.ex, b ≠ X.env.locals ∧ ∀ x c, X.env.cells.lookup x = some c → c ≠ b
 bs : ∀ b o, X.base.get? b = some o → X.s₀.heap.get? b = some o ∧ X.H₀ b = none
 bsz : X.base.objs.size ≤ X.s₀.heap.objs.size
 noex : ∀ b o, X.base.get? b = some o → b ∉ X.ex
 exfs : ∀ b ∈ X.ex, b ∉ X.fs
 funs : X.s₀.heap.FunFrames X.base X.outer
 frf : ∀ b ∈ X.fs, X.H₀ b = none
structure Inv (X : Cx) (pins : List (Addr × Obj)) (σ : List (Option V)) (H : Hp) (s : Shared) : Prop where
 ok : X.Ok
 os : s.os = X.s₀.os
 bare : AllBare s.gens
 base : Un X.fs X.ex X.H₀ H X.s₀.heap s.heap
 loc : ∃ m, s.heap.Ns X.env.locals m ∧ ∀ (i : Nat) (x : Str) (v : V), X.N[i]? = some x → σ[i]? = some (some v) → Vis X.env.scope x → ∃ u, qAR v u ∧ qVr X.env s.heap m x u
 cell : ∀ x c, X.env.cells.lookup x = some c → ∃ v, s.heap.IsCell c v
 free : H X.env.locals = none
 freeC : ∀ x c, X.env.cells.lookup x = some c → H c = none
 pin : ∀ p ∈ X.pn ++ pins, s.heap.get? p.1 = some p.2 ∧ H p.1 = none ∧ p.1 ≠ X.env.locals ∧ p.1 ∉ X.fs ∧ ∀ v, p.2.data ≠ .cell v
 hok : HOk X.prog X.w H s.heap
 len : σ.length = X.N.length
section
variable {X : Cx} {pins : List (Addr × Obj)} {σ : List (Option V)} {H H' : Hp} {s : Shared} {h' : Heap}
theorem Cx.Ok.nofr (ok : X.Ok) {b : Addr} {o : Obj} (e : X.base.get? b = some o) : b ∉ X.fs := fun hb => by
 have := (ok.funs.mem hb).1
 rw [e] at this; cases this
theorem Inv.bs (I : Inv X pins σ H s) : ∀ b o, X.base.get? b = some o → s.heap.get? b = some o ∧ H b = none := fun b o e =>
 ⟨I.base.keep b o (I.ok.bs b o e).1 (I.ok.bs b o e).2 (I.ok.nofr e) (I.ok.noex b o e), I.base.free b o (I.ok.bs b o e).1 (I.ok.bs b o e).2 (I.ok.noex b o e)⟩
theorem Inv.bk (I : Inv X pins σ H s) : ∀ b o, X.base.get? b = some o → s.heap.get? b = some o := fun b o e => (I.bs b o e).1
theorem Inv.mod (I : Inv X pins σ H s) : Mod X.K X.mg X.base := I.ok.mod
theorem Inv.kIn (I : Inv X pins σ H s) : X.K.In s.heap := I.ok.mod.kin.keeps I.bk
theorem Inv.lt (I : Inv X pins σ H s) : X.env.locals < s.heap.objs.size := let ⟨_, hn, _⟩ := I.loc; hn.lt
theorem Inv.sz (I : Inv X pins σ H s) : X.s₀.heap.objs.size ≤ s.heap.objs.size := Nat.le_trans I.ok.above (Nat.le_of_lt I.lt)
theorem Inv.nofs (I : Inv X pins σ H s) {a : Addr} (h : s.heap.objs.size ≤ a) : a ∉ X.fs := fun hb => by
 obtain ⟨_, o, ho, _⟩ := I.ok.funs.mem hb
 exact absurd (Nat.lt_of_lt_of_le (Heap.lt_size ho) (Nat.le_trans I.sz h)) (Nat.lt_irrefl _)
theorem Inv.cne (I : Inv X pins σ H s) : ∀ x c, X.env.cells.lookup x = some c → c ≠ X.env.locals := fun x c e z => by
 obtain ⟨v, o, ho, hd⟩ := I.cell x c e
 obtain ⟨m, ⟨o', es, ep, ho', hd', _⟩, _⟩ := I.loc
 rw [z, ho'] at ho; cases ho; rw [hd'] at hd; cases hd
theorem Inv.funs (I : Inv X pins σ H s) : s.heap.FunFrames X.base X.outer := by
 have all : ∀ (l : List Env), (∀ b ∈ frs l, b ∈ X.fs) → X.s₀.heap.FunFrames X.base l → s.heap.FunFrames X.base l := by
  intro l
  induction l with
  | nil => intro _ _; trivial
  | cons env r ih =>
   intro hs hl
   obtain ⟨hk, ⟨L, o, hf, hn, ho, hd⟩, hr⟩ := hl
   have hL : L ∈ X.fs := hs L (by unfold frs; rw [List.filterMap_cons, hf]; exact List.mem_cons_self)
   obtain ⟨sl, e⟩ := I.base.slot L o ho (I.ok.frf L hL) hL fun z => I.ok.exfs L z hL
   exact ⟨hk, ⟨L, _, hf, hn, e, hd⟩, ih (fun b hb => hs b (by unfold frs; rw [List.filterMap_cons, hf]; exact List.mem_cons_of_mem _ hb)) hr⟩
 exact all X.outer (fun _ hb => hb) I.ok.funs
theorem Inv.stack (I : Inv X pins σ H s) : s.heap.FunFrames X.base X.stack := by
 rcases I.ok.stk with e | ⟨e, hf⟩
 ·rw [e]; exact I.funs
 ·rw [e]
  obtain ⟨m, hn, _⟩ := I.loc
  refine .cons (by rw [I.ok.kind]; decide) hf hn ?_ I.funs
  exact Heap.get?_none_of_le (Nat.le_trans I.ok.bsz I.ok.above)
theorem Inv.stkSub (I : Inv X pins σ H s) : ∀ b ∈ frs X.stack, b ∈ X.env.locals :: X.fs := fun b hb => by
 rcases I.ok.stk with e | ⟨e, hf⟩
 ·rw [e] at hb; exact List.mem_cons_of_mem _ hb
 ·rw [e] at hb
  unfold frs at hb
  rw [List.filterMap_cons, hf] at hb
  exact hb
theorem Inv.stkFree (I : Inv X pins σ H s) : ∀ b ∈ frs X.stack, H b = none := fun b hb => by
 rcases List.mem_cons.mp (I.stkSub b hb) with e | hb
 ·rw [e]; exact I.free
 ·obtain ⟨_, o, ho, _⟩ := I.ok.funs.mem hb
  exact I.base.free b o ho (I.ok.frf b hb) fun z => I.ok.exfs b z hb
theorem Inv.step {g' : Array GenState} {t' : Nat} {d' : Drawn} {ch : List Addr} (I : Inv X pins σ H s)
  (hch : ∀ b ∈ ch, (b ∈ X.ex ∨ X.s₀.heap.objs.size ≤ b) ∧ b ≠ X.env.locals ∧ (∀ x c, X.env.cells.lookup x = some c → c ≠ b) ∧ ∀ p ∈ X.pn ++ pins, p.1 ≠ b)
  (keep : ∀ b o, b ≠ X.env.locals → b ∉ X.fs → b ∉ ch → s.heap.get? b = some o → H b = none → h'.get? b = some o)
  (slot : ∀ b o, b ≠ X.env.locals → b ∈ X.fs → b ∉ ch → s.heap.get? b = some o → H b = none → ∃ sl, h'.get? b = some { o with slots := sl }) (free : ∀ b o, b ∉ ch → s.heap.get? b = some o → H b = none → H' b = none)
  (there : ∀ b o, b ∉ ch → s.heap.get? b = some o → ∃ o', h'.get? b = some o')
  (tups : ∀ b xs, H b = some (.tup xs) → H' b = some (.tup xs)) (frzs : ∀ b o u, H b = some (.frz o u) → H' b = some (.frz o u)) (tbls : ∀ b ps, H b = some (.tbl ps) → ∃ more, H' b = some (.tbl (ps ++ more)))
  (ns : ∀ m, s.heap.Ns X.env.locals m → h'.Ns X.env.locals m) (hok : HOk X.prog X.w H' h') (hg : AllBare g') :
  Inv X pins σ H' { s with heap := h', gens := g', drawn := d', toks := t' } := by
 have neL : ∀ b o, X.s₀.heap.get? b = some o → b ≠ X.env.locals := fun b o e => Nat.ne_of_lt (Nat.lt_of_lt_of_le (Heap.lt_size e) I.ok.above)
 have neC : ∀ b o, X.s₀.heap.get? b = some o → b ∉ X.ex → b ∉ ch := fun b o e hx hb => by
  rcases (hch b hb).1 with z | z
  ·exact hx z
  ·exact absurd (Nat.lt_of_lt_of_le (Heap.lt_size e) z) (Nat.lt_irrefl _)
 have cellK : ∀ x c, X.env.cells.lookup x = some c → ∀ v, s.heap.IsCell c v → h'.IsCell c v := fun x c e v ⟨o, ho, hd⟩ => by
  have nch : c ∉ ch := fun z => (hch c z).2.2.1 x c e rfl
  by_cases hc : c ∈ X.fs
  ·obtain ⟨sl, q⟩ := slot c o (I.cne x c e) hc nch ho (I.freeC x c e)
   exact ⟨_, q, hd⟩
  ·exact ⟨o, keep c o (I.cne x c e) hc nch ho (I.freeC x c e), hd⟩
 refine ⟨I.ok, I.os, hg, ⟨fun b o e n hb hx => ?_, fun b o e n hb hx => ?_, fun b o e n hx => ?_, fun b o e hx => ?_, fun b xs e => tups b xs (I.base.tups b xs e), fun b o xs e => frzs b o xs (I.base.frzs b o xs e), fun b ps e => ?_⟩, ?_, fun x c e => ?_, ?_, fun x c e => ?_, fun p hp => ?_, hok, I.len⟩
 ·exact keep b o (neL b o e) hb (neC b o e hx) (I.base.keep b o e n hb hx) (I.base.free b o e n hx)
 ·obtain ⟨sl, e1⟩ := I.base.slot b o e n hb hx
  obtain ⟨sl', e2⟩ := slot b _ (neL b o e) hb (neC b o e hx) e1 (I.base.free b o e n hx)
  exact ⟨sl', e2⟩
 ·obtain ⟨o', e1⟩ := I.base.there b o e hx
  exact free b o' (neC b o e hx) e1 (I.base.free b o e n hx)
 ·obtain ⟨o', e1⟩ := I.base.there b o e hx
  exact there b o' (neC b o e hx) e1
 ·obtain ⟨m1, e1⟩ := I.base.tbls b ps e
  obtain ⟨m2, e2⟩ := tbls b _ e1
  exact ⟨m1 ++ m2, by rw [e2, Array.append_assoc]⟩
 ·obtain ⟨m, hn, hl⟩ := I.loc
  refine ⟨m, ns m hn, fun i x v e1 e2 e3 => ?_⟩
  obtain ⟨u, r, l⟩ := hl i x v e1 e2 e3
  refine ⟨u, r, ?_⟩
  rcases l with l | ⟨k, c, e, z⟩
  ·exact .inl l
  ·exact .inr ⟨k, c, e, cellK x c e _ z⟩
 ·obtain ⟨v, z⟩ := I.cell x c e
  exact ⟨v, cellK x c e v z⟩
 ·obtain ⟨m, ⟨o, _, _, ho, _⟩, _⟩ := I.loc
  exact free _ o (fun z => (hch _ z).2.1 rfl) ho I.free
 ·obtain ⟨v, o, ho, hd⟩ := I.cell x c e
  exact free c o (fun z => (hch c z).2.2.1 x c e rfl) ho (I.freeC x c e)
 ·obtain ⟨e, n, ne, nf, d⟩ := I.pin p hp
  have nch : p.1 ∉ ch := fun z => (hch p.1 z).2.2.2 p hp rfl
  exact ⟨keep p.1 p.2 ne nf nch e n, free p.1 p.2 nch e n, ne, nf, d⟩
theorem Inv.un {t' : Nat} (I : Inv X pins σ H s) (u : Un X.fs [] H H' s.heap h') (hok : HOk X.prog X.w H' h') : Inv X pins σ H' { s with heap := h', toks := t' } := by
 obtain ⟨m, ⟨o, es, ep, ho, r⟩, _⟩ := id I.loc
 obtain ⟨sl, hL⟩ := u.any ho I.free (by simp)
 exact I.step (g' := s.gens) (d' := s.drawn) (ch := []) (fun _ z => nomatch z) (fun b o _ hb _ e n => u.keep b o e n hb (by simp)) (fun b o _ hb _ e n => u.slot b o e n hb (by simp)) (fun b o _ e n => u.free b o e n (by simp)) (fun b o _ e => u.there b o e (by simp)) u.tups u.frzs u.tbls (fun m' hm => by
  obtain ⟨o', es', ep', ho', r'⟩ := hm
  rw [ho] at ho'; cases ho'
  exact ⟨_, es', ep', hL, r'⟩) hok I.bare
theorem Inv.call {g' : Array GenState} {t' : Nat} {d' : Drawn} {ch : List Addr} (I : Inv X pins σ H s) (u : Un (frs X.stack) ch H H' s.heap h') (hok : HOk X.prog X.w H' h') (hg : AllBare g')
  (hch : ∀ b ∈ ch, (b ∈ X.ex ∨ X.s₀.heap.objs.size ≤ b) ∧ b ≠ X.env.locals ∧ (∀ x c, X.env.cells.lookup x = some c → c ≠ b) ∧ ∀ p ∈ X.pn ++ pins, p.1 ≠ b) :
  Inv X pins σ H' { s with heap := h', gens := g', drawn := d', toks := t' } := by
 obtain ⟨m, ⟨o, es, ep, ho, r⟩, _⟩ := id I.loc
 obtain ⟨sl, hL⟩ := u.any ho I.free fun z => (hch _ z).2.1 rfl
 exact I.step (ch := ch) hch (fun b o hL hb hc e n => u.keep b o e n (fun z => (List.mem_cons.mp (I.stkSub b z)).elim hL hb) hc) (fun b o _ _ hc e n => u.any e n hc) (fun b o hc e n => u.free b o e n hc) (fun b o hc e => u.there b o e hc) u.tups u.frzs u.tbls (fun m' hm => by
  obtain ⟨o', es', ep', ho', r'⟩ := hm
  rw [ho] at ho'; cases ho'
  exact ⟨_, es', ep', hL, r'⟩) hok hg
theorem Inv.turned {t' : Nat} {it : Addr} (I : Inv X pins σ H s) (k : ∀ b o, b ≠ it → s.heap.get? b = some o → h'.get? b = some o) (hn : H it = none) (hL : it ≠ X.env.locals)
  (h1 : it ∈ X.ex ∨ X.s₀.heap.objs.size ≤ it) (h2 : ∀ x c, X.env.cells.lookup x = some c → c ≠ it) (h3 : ∀ p ∈ X.pn ++ pins, p.1 ≠ it) : Inv X pins σ H { s with heap := h', toks := t' } := by
 have nit : ∀ b u, H b = some u → b ≠ it := fun b u e z => by rw [z, hn] at e; cases e
 refine I.step (g' := s.gens) (d' := s.drawn) (ch := [it]) (fun b hb => ?_) (fun b o _ _ hc e _ => k b o (fun z => hc (by simp [z])) e) (fun b o _ _ hc e _ => ⟨o.slots, k b o (fun z => hc (by simp [z])) e⟩) (fun _ _ _ _ n => n)
  (fun b o hc e => ⟨o, k b o (fun z => hc (by simp [z])) e⟩) (fun _ _ e => e) (fun _ _ _ e => e) (fun b ps e => ⟨#[], by rw [e]; simp⟩) (fun m hm => ?_) (fun b u e => ?_) I.bare
 ·have e : b = it := by simpa using hb
  subst e
  exact ⟨h1, hL, h2, h3⟩
 ·obtain ⟨o, es, ep, ho, r⟩ := hm
  exact ⟨o, es, ep, k _ o (Ne.symm hL) ho, r⟩
 ·refine (I.hok b u e).stay (fun c v hc q => k c v ?_ q) (fun _ q => q) fun _ _ q => q
  rcases hc with z | z
  ·rw [z]; exact nit b u e
  ·exact nit c _ z
theorem Inv.tok (I : Inv X pins σ H s) (t : Nat) : Inv X pins σ H { s with toks := t } := I.un (h' := s.heap) (t' := t) Un.refl I.hok
theorem Inv.kept {t' : Nat} (I : Inv X pins σ H s) (k : ∀ b u, s.heap.get? b = some u → h'.get? b = some u) : Inv X pins σ H { s with heap := h', toks := t' } := I.un (Un.kept k) (I.hok.kept k)
theorem Inv.laid {a : Addr} {o : HO} {t' : Nat} (I : Inv X pins σ H s) (k : ∀ b u, s.heap.get? b = some u → h'.get? b = some u) (hp : s.heap.objs.size ≤ a) (new : qBD X.prog X.w (upd H a o) h' a o) :
  Inv X pins σ (upd H a o) { s with heap := h', toks := t' } := I.un (Un.laid k hp (I.hok.fresh hp)) (I.hok.laid k hp new)
theorem Inv.write {x e : Addr} {o : HO} {t' : Nat} (I : Inv X pins σ H s) (mu : Mut (H x)) (he : e = x ∨ H e = some (.own x)) (k : ∀ b u, b ≠ e → s.heap.get? b = some u → h'.get? b = some u) (heo : ∃ u, h'.get? e = some u)
  (new : qBD X.prog X.w (upd H x o) h' x o) : Inv X pins σ (upd H x o) { s with heap := h', toks := t' } := I.un (Un.write mu he k heo) (I.hok.write mu he k heo new)
theorem Inv.pins_of {pins' : List (Addr × Obj)} (I : Inv X pins σ H s) (h : ∀ p ∈ pins', s.heap.get? p.1 = some p.2 ∧ H p.1 = none ∧ p.1 ≠ X.env.locals ∧ p.1 ∉ X.fs ∧ ∀ v, p.2.data ≠ .cell v) : Inv X pins' σ H s :=
 ⟨I.ok, I.os, I.bare, I.base, I.loc, I.cell, I.free, I.freeC, fun p hp => (List.mem_append.mp hp).elim (fun z => I.pin p (List.mem_append_left _ z)) (h p), I.hok, I.len⟩
theorem qLJ {N : List Str} (hN : N.Nodup) {i j : Nat} {x : Str} (a : N[i]? = some x) (b : N[j]? = some x) : i = j := by
 obtain ⟨h1, e1⟩ := List.getElem?_eq_some_iff.mp a
 obtain ⟨h2, e2⟩ := List.getElem?_eq_some_iff.mp b
 exact (List.getElem_inj hN).mp (e1.trans e2.symm)
theorem qSO {M : Model} {A : Around} {E : Value → Shared → Prop} {i : Nat} {x : Str} {v : V} {u : Value} {Q : Unit → Shared → Prop} (I : Inv X pins σ H s) (hN : X.N.Nodup) (hi : X.N[i]? = some x) (hx : Loc X.env.scope x) (r : qAR v u)
  (h : ∀ s', Inv X pins (σ.set i (some v)) H s' → (∃ a, Heap.SameBut a s.heap s'.heap ∧ (a = X.env.locals ∨ X.env.cells.lookup x = some a)) → Q () s') (hf : autoParam (X.fn x = true ∨ X.env.scope.names.lookup x = some .local) au1._auto_1) : wpAny M A (storeName X.env x u) Q E s := by
 obtain ⟨m, hn, hl⟩ := id I.loc
 have hcls : (X.env.scope.kind == .class || (X.env.scope.kind == .module && X.env.locals != X.env.globals)) = false := by rw [I.ok.kind]; rfl
 have hiσ : i < σ.length := by rw [I.len]; exact (List.getElem?_eq_some_iff.mp hi).1
 have cne := I.cne
 have tracked : ∀ {a : Addr} {h' : Heap}, (∃ o, s.heap.get? a = some o ∧ H a = none) → Heap.SameBut a s.heap h' → HOk X.prog X.w H h' := fun {a h'} ha hs b ob e => by
  obtain ⟨_, _, hfree⟩ := ha
  refine (I.hok b ob e).stay (fun c w' hc q => (hs.2 c ?_).trans q) (fun _ q => q) fun _ _ q => q
  rintro rfl
  rcases hc with rfl | hc
  ·rw [hfree] at e; cases e
  ·rw [hfree] at hc; cases hc
 rcases hx with hk | hk
 ·refine wpAny_storeName_local hk hn (fun h' hn' hs => ?_) hcls
  obtain ⟨oL, _, _, hoL, _⟩ := id hn
  refine h _ ⟨I.ok, I.os, I.bare, ⟨fun b o e n hb hx => ?_, fun b o e n hb hx => ?_, I.base.free, fun b o e hx => ?_, I.base.tups, I.base.frzs, I.base.tbls⟩, ⟨_, hn', fun j y v' e1 e2 e3 => ?_⟩, fun y c e => ?_, I.free, I.freeC, fun p hp => ?_, tracked ⟨oL, hoL, I.free⟩ hs, by simpa using I.len⟩ ⟨_, hs, .inl rfl⟩
  ·exact (hs.2 b (Nat.ne_of_lt (Nat.lt_of_lt_of_le (Heap.lt_size e) I.ok.above))).trans (I.base.keep b o e n hb hx)
  ·obtain ⟨sl, e1⟩ := I.base.slot b o e n hb hx
   exact ⟨sl, (hs.2 b (Nat.ne_of_lt (Nat.lt_of_lt_of_le (Heap.lt_size e) I.ok.above))).trans e1⟩
  ·obtain ⟨o', e1⟩ := I.base.there b o e hx
   exact ⟨o', (hs.2 b (Nat.ne_of_lt (Nat.lt_of_lt_of_le (Heap.lt_size e) I.ok.above))).trans e1⟩
  ·by_cases hj : j = i
   ·subst hj
    rw [hi] at e1; cases e1
    rw [List.getElem?_set_self hiσ] at e2
    cases e2
    exact ⟨u, r, .inl ⟨hk, by simp⟩⟩
   ·rw [List.getElem?_set_ne (Ne.symm hj)] at e2
    obtain ⟨u', r', q⟩ := hl j y v' e1 e2 e3
    refine ⟨u', r', ?_⟩
    rcases q with ⟨k, e⟩ | ⟨k, c, e, z⟩
    ·refine .inl ⟨k, ?_⟩
     have : y ≠ x := fun e => hj (qLJ hN e1 (e ▸ hi))
     simp [this, e]
    ·exact .inr ⟨k, c, e, z.sameBut hs (cne y c e)⟩
  ·obtain ⟨w', z⟩ := I.cell y c e
   exact ⟨w', z.sameBut hs (cne y c e)⟩
  ·obtain ⟨e, n, ne, nf, d⟩ := I.pin p hp
   exact ⟨(hs.2 p.1 ne).trans e, n, ne, nf, d⟩
 ·have hfn : X.fn x = true := by
   rcases hf with z | z
   ·exact z
   ·rw [z] at hk; cases hk
  obtain ⟨c, hc⟩ := I.ok.has x (.inl hk)
  obtain ⟨w', z⟩ := I.cell x c hc
  refine wpAny_storeName_cell I.ok.kind hk hc z (fun h' hc' hs => ?_)
  obtain ⟨oc, hoc, hocd⟩ := id z
  refine h { s with heap := h' } ⟨I.ok, I.os, I.bare, ⟨fun b o e n hb hx => ?_, fun b o e n hb hx => ?_, I.base.free, fun b o e hx => ?_, I.base.tups, I.base.frzs, I.base.tbls⟩, ⟨m, hn.sameBut hs (Ne.symm (cne x c hc)), fun j y v' e1 e2 e3 => ?_⟩, fun y c' e => ?_, I.free, I.freeC, fun p hp => ?_, tracked ⟨oc, hoc, I.freeC x c hc⟩ hs, by simpa using I.len⟩ ⟨c, hs, .inr hc⟩
  ·exact (hs.2 b (Nat.ne_of_lt (Nat.lt_of_lt_of_le (Heap.lt_size e) (I.ok.cab x c hfn hc)))).trans (I.base.keep b o e n hb hx)
  ·obtain ⟨sl, e1⟩ := I.base.slot b o e n hb hx
   exact ⟨sl, (hs.2 b (Nat.ne_of_lt (Nat.lt_of_lt_of_le (Heap.lt_size e) (I.ok.cab x c hfn hc)))).trans e1⟩
  ·obtain ⟨o', e1⟩ := I.base.there b o e hx
   exact ⟨o', (hs.2 b (Nat.ne_of_lt (Nat.lt_of_lt_of_le (Heap.lt_size e) (I.ok.cab x c hfn hc)))).trans e1⟩
  ·by_cases hj : j = i
   ·subst hj
    rw [hi] at e1; cases e1
    rw [List.getElem?_set_self hiσ] at e2
    cases e2
    exact ⟨u, r, .inr ⟨.inl hk, c, hc, hc'⟩⟩
   ·rw [List.getElem?_set_ne (Ne.symm hj)] at e2
    obtain ⟨u', r', q⟩ := hl j y v' e1 e2 e3
    refine ⟨u', r', ?_⟩
    rcases q with q | ⟨k, c', e, z'⟩
    ·exact .inl q
    ·refine .inr ⟨k, c', e, z'.sameBut hs ?_⟩
     rintro rfl
     exact hj (qLJ hN e1 (I.ok.inj _ _ _ e hc ▸ hi))
  ·by_cases hcc : c' = c
   ·subst hcc; exact ⟨_, hc'⟩
   ·obtain ⟨w2, z2⟩ := I.cell y c' e
    exact ⟨w2, z2.sameBut hs hcc⟩
  ·obtain ⟨e, n, ne, nf, d⟩ := I.pin p hp
   refine ⟨(hs.2 p.1 ?_).trans e, n, ne, nf, d⟩
   intro q
   rw [q, hoc] at e
   have q' : oc = p.2 := Option.some.inj e
   exact d w' (by rw [← q']; exact hocd)
theorem qC8 {M : Model} {A : Around} {E : Value → Shared → Prop} {i : Nat} {x : Str} {v : V} {u : Value} {Q : Unit → Shared → Prop} (I : Inv X pins σ H s) (hN : X.N.Nodup) (hi : X.N[i]? = some x) (hx : Loc X.env.scope x) (r : qAR v u)
  (h : ∀ s', Inv X pins (σ.set i (some v)) H s' → Q () s') (hf : autoParam (X.fn x = true ∨ X.env.scope.names.lookup x = some .local) au1._auto_1) : wpAny M A (storeName X.env x u) Q E s :=
 qSO I hN hi hx r (fun s' I' _ => h s' I') hf
theorem Inv.call' {s' : Shared} {ch : List Addr} (I : Inv X pins σ H s) (ho : s'.os = s.os) (u : Un (frs X.stack) ch H H' s.heap s'.heap) (hok : HOk X.prog X.w H' s'.heap) (hg : AllBare s'.gens)
  (hch : ∀ b ∈ ch, (b ∈ X.ex ∨ X.s₀.heap.objs.size ≤ b) ∧ b ≠ X.env.locals ∧ (∀ x c, X.env.cells.lookup x = some c → c ≠ b) ∧ ∀ p ∈ X.pn ++ pins, p.1 ≠ b) : Inv X pins σ H' s' := by
 obtain ⟨h', g', d', t', o'⟩ := s'
 have e : o' = s.os := ho
 subst e
 exact I.call (g' := g') (t' := t') (d' := d') u hok hg hch
end
abbrev XK := Value → Option Addr → Hp → Prop
abbrev St := List (Option V)
abbrev VK := V → Hp → Prop
abbrev TE := St → Hp → VK → Prop
abbrev TT := St → Hp → (Bool → Hp → Prop) → Prop
abbrev TA := St → Hp → (List V → Hp → Prop) → Prop
structure Ends where
 nx : St → Hp → Prop
 rt : VK
 bk : St → Hp → Prop := fun _ _ => False
 ct : St → Hp → Prop := fun _ _ => False
abbrev TS := Ends → St → Hp → Prop
inductive EP (X : Cx) (pins : List (Addr × Obj)) (σ : St) (Q : VK) (u : Value) (s' : Shared) : Prop
 | mk (v : V) (H' : Hp) (I : Inv X pins σ H' s') (r : qAR v u) (q : Q v H') : EP X pins σ Q u s'
inductive TP (X : Cx) (pins : List (Addr × Obj)) (σ : St) (Q : Bool → Hp → Prop) (b : Bool) (s' : Shared) : Prop
 | mk (H' : Hp) (I : Inv X pins σ H' s') (q : Q b H') : TP X pins σ Q b s'
inductive AP (X : Cx) (pins : List (Addr × Obj)) (σ : St) (Q : List V → Hp → Prop) (us : List Value) (s' : Shared) : Prop
 | mk (vs : List V) (H' : Hp) (I : Inv X pins σ H' s') (r : qAZ vs us) (q : Q vs H') : AP X pins σ Q us s'
noncomputable def SP (X : Cx) (pins : List (Addr × Obj)) (D : Ends) (f : Flow) (s' : Shared) : Prop :=
 match f with
 | .next => ∃ σ' H', Inv X pins σ' H' s' ∧ D.nx σ' H'
 | .brk => ∃ σ' H', Inv X pins σ' H' s' ∧ D.bk σ' H'
 | .cont => ∃ σ' H', Inv X pins σ' H' s' ∧ D.ct σ' H'
 | .ret u => ∃ v σ' H', Inv X pins σ' H' s' ∧ qAR v u ∧ D.rt v H'
noncomputable def PE (X : Cx) (e : Expr) (t : TE) : Prop :=
 ∀ (pins : List (Addr × Obj)) (s : Shared) (σ : St) (H : Hp) (Q : VK), Inv X pins σ H s → t σ H Q → wpAny (model X.prog X.w) X.A (eval e X.env) (EP X pins σ Q) X.xe s
noncomputable def PT (X : Cx) (e : Expr) (t : TT) : Prop :=
 ∀ (pins : List (Addr × Obj)) (s : Shared) (σ : St) (H : Hp) (Q : Bool → Hp → Prop), Inv X pins σ H s → t σ H Q → wpAny (model X.prog X.w) X.A (isTrue e X.env (eval e X.env)) (TP X pins σ Q) X.xe s
noncomputable def PW (X : Cx) (e : Expr) (t : TT) : Prop :=
 ∀ (whole : Sem Value) (pins : List (Addr × Obj)) (s : Shared) (σ : St) (H : Hp) (Q : Bool → Hp → Prop), Inv X pins σ H s → t σ H Q → wpAny (model X.prog X.w) X.A (isTrue e X.env whole) (TP X pins σ Q) X.xe s
noncomputable def PA (X : Cx) (es : List Expr) (t : TA) : Prop :=
 ∀ (pos : Pos) (pins : List (Addr × Obj)) (s : Shared) (σ : St) (H : Hp) (Q : List V → Hp → Prop), Inv X pins σ H s → t σ H Q → wpAny (model X.prog X.w) X.A (spliced (backTo pos (starEach es X.env))) (AP X pins σ Q) X.xe s
noncomputable def PS (X : Cx) (st : Stmt) (t : TS) : Prop :=
 ∀ (pins : List (Addr × Obj)) (s : Shared) (σ : St) (H : Hp) (D : Ends), Inv X pins σ H s → t D σ H → wpAny (model X.prog X.w) X.A (exec st X.env) (SP X pins D) X.xe s
noncomputable def PSs (X : Cx) (st : List Stmt) (t : TS) : Prop :=
 ∀ (pins : List (Addr × Obj)) (s : Shared) (σ : St) (H : Hp) (D : Ends), Inv X pins σ H s → t D σ H → wpAny (model X.prog X.w) X.A (execs st X.env) (SP X pins D) X.xe s
theorem thn {α : Type} {t : Sem α} {Q Q' : α → Shared → Prop} {M : Model} {A : Around} {E : Value → Shared → Prop} {s : Shared} (h : wpAny M A t Q E s) (hQ : ∀ a s, Q a s → Q' a s) : wpAny M A t Q' E s := wpAny_mono h hQ fun _ _ x => x
end L2
namespace L2
open PySem PySem.Spec PyProof.Rows
section
variable {X : Cx}
noncomputable def qXt (i : Nat) : TE := fun σ H Q => ∃ v, σ[i]? = some (some v) ∧ Q v H
noncomputable def tC (v : V) : TE := fun _ H Q => Q v H
theorem qXU {i : Nat} {x : Str} {pos : Pos} (hN : X.N[i]? = some x) (hv : Vis X.env.scope x) (hd : autoParam ((x == ("__debug__" : Str)) = false) au2._auto_1) (hcd : autoParam ((x == ("__classdict__" : Str)) = false) au2._auto_1) : PE X (.Name x pos) (qXt i) := by
 intro pins s σ H Q I h
 obtain ⟨v, e, h⟩ := h
 obtain ⟨m, hn, hl⟩ := I.loc
 obtain ⟨u, r, l⟩ := hl i x v hN e hv
 have fin : EP X pins σ Q u s := ⟨v, H, I, r, h⟩
 rcases l with ⟨hk, hm⟩ | ⟨hk, c, hc, hcell⟩
 ·exact wpAny_Name (wpAny_loadName_local I.ok.kind hk hn hm fin) hd
 ·rcases hk with hk | hk
  ·exact wpAny_Name (wpAny_loadName_cell I.ok.kind hk hc hcell fin) hd
  ·exact wpAny_Name (wpAny_loadName_free I.ok.kind hk hc hcell fin hcd) hd
theorem qXP {i j pos} : PE X (.Constant (.int i) j pos) (tC (.int i)) := fun _ _ _ H _ I h => wpAny_Constant_int ⟨.int i, H, I.tok _, ⟨_, rfl⟩, h⟩
theorem qYe {b j pos} : PE X (.Constant (.bool b) j pos) (tC (.bl b)) := fun _ _ _ H _ I h => Constant_bool ⟨.bl b, H, I, rfl, h⟩
theorem qXQ {j pos} : PE X (.Constant .none j pos) (tC .non) := fun _ _ _ H _ I h => Constant_none ⟨.non, H, I, rfl, h⟩
theorem qXS {x j pos} : PE X (.Constant (.str x) j pos) (tC (.str x)) := fun _ _ _ H _ I h => Calls.Constant_str ⟨.str x, H, I.tok _, ⟨_, rfl⟩, h⟩
noncomputable def Gl (X : Cx) (x : Str) : Prop := X.env.kindOf x = some .globalImplicit
theorem qIA {E : Value → Shared → Prop} {pins : List (Addr × Obj)} {s : Shared} {σ : St} {H : Hp} {x : Str} {u : Value} {pos : Pos} {Q : Value → Shared → Prop} (I : Inv X pins σ H s) (hg : Gl X x) (hm : X.mg x = some u) (h : Q u s)
  (hd : autoParam ((x == ("__debug__" : Str)) = false) au2._auto_1) : wpAny (model X.prog X.w) X.A (eval (.Name x pos) X.env) Q E s :=
 Calls.Name_function_global I.ok.kind hg (Calls.loadGlobal_global (by rw [I.ok.glob]; exact I.mod.glob.keeps I.bk) hm h) hd
theorem qH9 {E : Value → Shared → Prop} {pins : List (Addr × Obj)} {s : Shared} {σ : St} {H : Hp} {x : Str} {u : Value} {pos : Pos} {Q : Value → Shared → Prop} (I : Inv X pins σ H s) (hg : Gl X x) (hm : X.mg x = none) (hv : bootBuiltins x = some u) (h : Q u s)
  (hn : autoParam (x ≠ "__name__") au2._auto_1) (hd : autoParam ((x == ("__debug__" : Str)) = false) au2._auto_1) : wpAny (model X.prog X.w) X.A (eval (.Name x pos) X.env) Q E s := by
 obtain ⟨mb, h1, h2⟩ := I.mod.blt
 exact Calls.Name_function_global I.ok.kind hg (Calls.loadGlobal_builtin (by rw [I.ok.glob]; exact I.mod.glob.keeps I.bk) hm (by rw [I.ok.blt]; exact h1.keeps I.bk) ((h2 x hn).trans hv) h) hd
theorem qVO {x : Str} {v : V} {u : Value} {pos : Pos} (hg : Gl X x) (hm : X.mg x = some u) (r : qAR v u) (hd : autoParam ((x == ("__debug__" : Str)) = false) au2._auto_1) : PE X (.Name x pos) (tC v) :=
 fun _ _ _ H _ I h => qIA I hg hm ⟨v, H, I, r, h⟩ hd
theorem qVN {x : Str} {v : V} {u : Value} {pos : Pos} (hg : Gl X x) (hm : X.mg x = none) (hv : bootBuiltins x = some u) (r : qAR v u) (hn : autoParam (x ≠ "__name__") au2._auto_1) (hd : autoParam ((x == ("__debug__" : Str)) = false) au2._auto_1) : PE X (.Name x pos) (tC v) :=
 fun _ _ _ H _ I h => qH9 I hg hm hv ⟨v, H, I, r, h⟩ hn hd
variable {a b : Expr} {ta tb : TE} {pos : Pos}
variable {tA tB' : TT} {rest : List Expr}
theorem qVW (ha : PT X a tA) : PW X (.BoolOp .And [a] pos) tA := by
 intro wh pins s σ H Q I h
 refine isTrue_and (thn (ha pins s σ H Q I h) fun c s1 e => ?_)
 cases c with
 | true => exact isTrue_and_nil e
 | false => exact e
theorem qXd (ha : PT X a tA) : PW X (.BoolOp .Or [a] pos) tA := by
 intro wh pins s σ H Q I h
 refine isTrue_or (thn (ha pins s σ H Q I h) fun c s1 e => ?_)
 cases c with
 | false => exact isTrue_or_nil e
 | true => exact e
theorem qXR {op} {t : TE} (h : PE X a t) : PE X (.BoolOp op [a] pos) t := fun pins s σ H Q I hw => BoolOp_one (h pins s σ H Q I hw)
end
end L2
namespace L2
open PySem PySem.Spec PyProof.Rows
noncomputable def SqL (K : PySem.W.Frag) (H : Hp) (a : Addr) (xs : List V) : Prop :=
 Rd H a (.lst xs) ∨
  ∃ (o : Obj) (its : Array Value) (n : Nat), K.lookup a = some o ∧ o.cls = .type "list" ∧ o.dict = none ∧ o.data = .seq its n ∧ its.size ≤ sizeLine ∧ qAZ xs its.toList
noncomputable def SqT (K : PySem.W.Frag) (H : Hp) (a : Addr) (xs : List V) : Prop :=
 Rd H a (.tup xs) ∨
  ∃ (o : Obj) (its : Array Value) (n : Nat), K.lookup a = some o ∧ o.cls = .type "tuple" ∧ o.data = .seq its n ∧ its.size ≤ sizeLine ∧ qAZ xs its.toList
noncomputable def qY9 : Value → Option V
 | .none => some .non
 | .bool b => some (.bl b)
 | .int i _ => some (.int i)
 | .str x _ => some (.str x)
 | .bytes b _ => some (.byt b)
 | .float b _ => some (.flt b)
 | .ref a => some (.ref a)
 | .type n => some (.ty n)
 | _ => none
theorem qAR.abs {x : V} {u : Value} (r : qAR x u) : qY9 u = some x := by
 cases x with
 | non => cases r; rfl
 | bl _ => cases r; rfl
 | int _ => obtain ⟨t, rfl⟩ := r; rfl
 | str _ => obtain ⟨t, rfl⟩ := r; rfl
 | byt _ => obtain ⟨t, rfl⟩ := r; rfl
 | flt _ => obtain ⟨t, rfl⟩ := r; rfl
 | ref _ => cases r; rfl
 | ty _ => cases r; rfl
theorem qAR.inj {x y : V} {u : Value} (r : qAR x u) (q : qAR y u) : x = y := Option.some.inj (r.abs.symm.trans q.abs)
theorem qAZ.inj : ∀ {xs ys : List V} {us : List Value}, qAZ xs us → qAZ ys us → xs = ys
 | _, _, _, .nil, .nil => rfl
 | _, _, _, .cons r t, .cons r' t' => by rw [r.inj r', qAZ.inj t t']
section
variable {X : Cx} {pins : List (Addr × Obj)} {σ : St} {H : Hp} {s : Shared} {a : Addr} {xs ys : List V}
theorem SqL.of {K : PySem.W.Frag} (h : H a = some (.lst xs)) : SqL K H a xs := .inl (.inl h)
theorem SqT.of {K : PySem.W.Frag} (h : H a = some (.tup xs)) : SqT K H a xs := .inl (.inl h)
theorem Inv.list (I : Inv X pins σ H s) (h : SqL X.K H a xs) : ∃ its : List Value, qAZ xs its ∧ PlainL s.heap a its.toArray ∧ xs.length ≤ sizeLine := by
 rcases h with h | ⟨o, its, n, hk, hc, hd, hs, hz, r⟩
 ·obtain ⟨z, its, n, r, e⟩ := h.ok I.hok
  exact ⟨its, r, ⟨_, n, e, rfl, rfl, rfl⟩, z⟩
 ·refine ⟨its.toList, r, ⟨o, n, I.kIn a o hk, hc, hd, by simpa using hs⟩, ?_⟩
  have e := r.length
  simp only [Array.length_toList] at e
  omega
theorem Inv.tuple (I : Inv X pins σ H s) (h : SqT X.K H a xs) : ∃ its : List Value, qAZ xs its ∧ IsTup s.heap a its.toArray ∧ xs.length ≤ sizeLine := by
 rcases h with h | ⟨o, its, n, hk, hc, hs, hz, r⟩
 ·obtain ⟨z, its, r, p⟩ := h.ok I.hok
  exact ⟨its, r, p, z⟩
 ·refine ⟨its.toList, r, ⟨o, I.kIn a o hk, hc, n, by simpa using hs⟩, ?_⟩
  have e := r.length
  simp only [Array.length_toList] at e
  omega
theorem Inv.list_inj (I : Inv X pins σ H s) (h : SqL X.K H a xs) (h' : SqL X.K H a ys) : xs = ys := by
 obtain ⟨its, r, ⟨o, n, e, _, _, d⟩, _⟩ := I.list h
 obtain ⟨its', r', ⟨o', n', e', _, _, d'⟩, _⟩ := I.list h'
 rw [e] at e'; cases e'
 rw [d] at d'
 injection d' with d1 _
 have : its = its' := by simpa using congrArg Array.toList d1
 subst this
 exact r.inj r'
theorem Inv.tuple_inj (I : Inv X pins σ H s) (h : SqT X.K H a xs) (h' : SqT X.K H a ys) : xs = ys := by
 obtain ⟨its, r, ⟨o, e, _, n, d⟩, _⟩ := I.tuple h
 obtain ⟨its', r', ⟨o', e', _, n', d'⟩, _⟩ := I.tuple h'
 rw [e] at e'; cases e'
 rw [d] at d'
 injection d' with d1 _
 have : its = its' := by simpa using congrArg Array.toList d1
 subst this
 exact r.inj r'
end
abbrev Cx.wish (X : Cx) (E : Value → Shared → Prop) : Cx := { X with xe := E }
abbrev Cx.nox (X : Cx) : Cx := X.wish fun _ _ => False
section
variable {X : Cx} {st : Stmt} {rest : List Stmt} {t u : TS} {e : Expr} {te : TE} {pos : Pos}
noncomputable def qYw : TS := fun D σ H => D.nx σ H
noncomputable def qZc (t u : TS) : TS := fun D σ H => t { D with nx := u D } σ H
theorem qVU : PSs X [] qYw := fun _ _ σ H _ I h => wpAny_execs_nil ⟨σ, H, I, h⟩
theorem qTT (h1 : PS X st t) (h2 : PSs X rest u) : PSs X (st :: rest) (qZc t u) := by
 intro pins s σ H D I h
 refine wpAny_execs_cons (thn (h1 pins s σ H { D with nx := u D } I h) fun f s1 q => ?_)
 cases f with
 | next =>
  obtain ⟨σ', H', I', q⟩ := q
  exact h2 pins s1 σ' H' D I' q
 | ret v => exact q
 | brk => exact q
 | cont => exact q
theorem qVV (h1 : PS X st t) : PSs X [st] t := by
 intro pins s σ H D I h
 refine wpAny_execs_cons (thn (h1 pins s σ H D I h) fun f s1 q => ?_)
 cases f with
 | next => exact wpAny_execs_nil q
 | ret v => exact q
 | brk => exact q
 | cont => exact q
theorem Inv.quiet {pins : List (Addr × Obj)} {σ : St} {H : Hp} {s : Shared} (I : Inv X pins σ H s) : interactive X.env = false := by simp [interactive, I.ok.kind]
end
abbrev TG := V → St → Hp → (St → Hp → Prop) → Prop
abbrev TGs := List V → St → Hp → (St → Hp → Prop) → Prop
noncomputable def PG (X : Cx) (target : Expr) (t : TG) : Prop :=
 ∀ (pins : List (Addr × Obj)) (s : Shared) (σ : St) (H : Hp) (v : V) (u : Value) (Q : St → Hp → Prop), Inv X pins σ H s → qAR v u → t v σ H Q →
  wpAny (model X.prog X.w) X.A (assign target X.env u) (fun _ s' => ∃ σ' H', Inv X pins σ' H' s' ∧ Q σ' H') X.xe s
noncomputable def PGs (X : Cx) (ts : List Expr) (t : TGs) : Prop :=
 ∀ (pins : List (Addr × Obj)) (s : Shared) (σ : St) (H : Hp) (vs : List V) (us : List Value) (Q : St → Hp → Prop), Inv X pins σ H s → qAZ vs us → t vs σ H Q →
  wpAny (model X.prog X.w) X.A (assignInOrder ((assignEach ts X.env).map (·.2)) us) (fun _ s' => ∃ σ' H', Inv X pins σ' H' s' ∧ Q σ' H') X.xe s
abbrev qSc := V → V → V → Hp → (Hp → Prop) → Prop
noncomputable def qN2 (X : Cx) (t : qSc) : Prop :=
 ∀ (pins : List (Addr × Obj)) (s : Shared) (σ : St) (H : Hp) (o i v : V) (ov iv u : Value) (Q : Hp → Prop), Inv X pins σ H s → qAR o ov → qAR i iv → qAR v u → t o i v H Q →
  wpAny (model X.prog X.w) X.A (setItem ov iv u) (fun _ s' => ∃ H', Inv X pins σ H' s' ∧ Q H') X.xe s
abbrev TIp := V → V → Hp → VK → Prop
noncomputable def PIp (X : Cx) (op : Operator) (t : TIp) : Prop :=
 ∀ (pins : List (Addr × Obj)) (s : Shared) (σ : St) (H : Hp) (x y : V) (v u : Value) (Q : VK), Inv X pins σ H s → qAR x v → qAR y u → t x y H Q →
  wpAny (model X.prog X.w) X.A (inplaceOp op v u) (EP X pins σ Q) X.xe s
section
variable {X : Cx} {pos : Pos}
noncomputable def qYL (i : Nat) : TG := fun v σ H Q => Q (σ.set i (some v)) H
theorem qVP {i : Nat} {x : Str} (hN : X.N.Nodup) (hi : X.N[i]? = some x) (hx : Loc X.env.scope x) (hf : autoParam (X.fn x = true ∨ X.env.scope.names.lookup x = some .local) au1._auto_1) : PG X (.Name x pos) (qYL i) := by
 intro pins s σ H v u Q I r h
 exact wpAny_assign_Name (qC8 I hN hi hx r (fun s' I' => ⟨_, H, I', h⟩) hf)
noncomputable def qZI : TGs := fun vs σ H Q => vs = [] ∧ Q σ H
noncomputable def qYK (t : TG) (u : TGs) : TGs := fun vs σ H Q => ∃ v r, vs = v :: r ∧ t v σ H fun σ' H' => u r σ' H' Q
theorem qVQ : PGs X [] qZI := by
 intro pins s σ H vs us Q I r h
 obtain ⟨e, h⟩ := h
 subst e
 cases r
 exact assignInOrder_nil ⟨σ, H, I, h⟩
theorem qTQ {e : Expr} {es : List Expr} {t : TG} {u : TGs} (h1 : PG X e t) (h2 : PGs X es u)
  (hs : autoParam ((assignEach (e :: es) X.env).map (·.2) = assign e X.env :: (assignEach es X.env).map (·.2)) au3._auto_1) : PGs X (e :: es) (qYK t u) := by
 intro pins s σ H vs us Q I r h
 obtain ⟨v, vr, e1, h⟩ := h
 subst e1
 cases r with
 | cons r rr =>
  rw [hs]
  refine assignInOrder_cons (thn (h1 pins s σ H _ _ _ I r h) fun _ s1 ⟨σ1, H1, I1, q1⟩ => ?_)
  exact h2 pins s1 σ1 H1 _ _ Q I1 rr q1
noncomputable def qZJ (K : PySem.W.Frag) (n : Nat) (t : TGs) : TG := fun v σ H Q => ∃ a xs, v = .ref a ∧ SqT K H a xs ∧ xs.length = n ∧ t xs σ H Q
theorem qXV {es : List Expr} {k : Nat} {t : TGs} {n : Nat} (hc : X.calm = true) (h : PGs X es t)
  (hn : autoParam ((assignEach es X.env).length = n) au3._auto_1) (hst : autoParam ((assignEach es X.env).findIdx? (·.1) = none) au3._auto_1) : PG X (.Tuple es k pos) (qZJ X.K n t) := by
 intro pins s σ H v u Q I r hw
 obtain ⟨a, xs, e1, hq, hl, hw⟩ := hw
 subst e1
 cases r
 obtain ⟨its, rv, ht, hz⟩ := I.tuple hq
 refine assign_Tuple_tuple (I.ok.hd hc) ht (by simp [hn, ← hl, rv.length]) hst fun h' hx => ?_
 have I1 : Inv X pins σ H { s with heap := h' } := I.kept (t' := s.toks) fun b o e => hx b o (Nat.ne_of_lt (Heap.lt_size e)) e
 exact h pins _ σ H xs _ Q I1 (by simpa using rv) hw
noncomputable def qEb (to ti : TE) (t : qSc) : TG := fun v σ H Q => to σ H fun o H1 => ti σ H1 fun i H2 => t o i v H2 fun H3 => Q σ H3
noncomputable def qZb (i j : Nat) (ta : TA) : TS := fun D σ H => ta σ H fun vs H1 => ∃ v w, vs = [v, w] ∧ D.nx ((σ.set i (some v)).set j (some w)) H1
theorem qXb {i j : Nat} {x y : Str} {a b : Expr} {ta : TA} {px py pt : Pos} {kt k2 pt2} (hc : X.calm = true) (hN : X.N.Nodup) (hi : X.N[i]? = some x) (hj : X.N[j]? = some y) (hij : i ≠ j)
  (hx : X.env.scope.names.lookup x = some .local) (hy : X.env.scope.names.lookup y = some .local) (ha : PA X [a, b] ta)
  (hw : swappedStores [.Tuple [.Name x px, .Name y py] kt pt] (.Tuple [a, b] k2 pt2) X.env = pure (some [x, y]))
  (hs : autoParam (swapsWithSole [.Tuple [.Name x px, .Name y py] kt pt] (.Tuple [a, b] k2 pt2) pos.line X.env = pure false) au3._auto_1) :
  PS X (.Assign [.Tuple [.Name x px, .Name y py] kt pt] (.Tuple [a, b] k2 pt2) pos) (qZb i j ta) := by
 intro pins s σ H D I h
 rw [exec_Assign_arm]
 refine wpAny_bind (wpAny_standAt ?_)
 rw [hs]
 refine wpAny_bind (wpAny_pure ?_)
 rw [if_neg (by decide)]
 refine wpAny_bind (Tuple_ (thn (ha _ pins s σ H _ I h) fun us s1 ⟨vs, H1, I1, r1, q1⟩ => ?_))
 obtain ⟨v, w, e1, q1⟩ := q1
 subst e1
 obtain ⟨u1, u2, rfl, rv, rw'⟩ : ∃ u1 u2, us = [u1, u2] ∧ qAR v u1 ∧ qAR w u2 := by
  cases r1 with
  | cons p q =>
   cases q with
   | cons p' q' =>
    cases q'
    exact ⟨_, _, rfl, p, p'⟩
 refine wpAny_newObj_type ?_ (by show 2 ≤ sizeLine; decide)
 have I2 : Inv X pins σ H1 { s1 with heap := s1.heap.push { cls := .type "tuple", data := .seq [u1, u2].toArray } } := I1.kept (t' := s1.toks) fun b o e => Heap.get?_push_of_some _ e
 rw [hw]
 refine wpAny_bind (wpAny_pure ?_)
 show wpAny (model X.prog X.w) X.A (do rule "assign.swapped-stores"; let items ← unpackItems (.ref s1.heap.objs.size) 2 none; assignInOrder [fun v => bindName X.env y v, fun v => bindName X.env x v] items.reverse; pure Flow.next) _ _ _
 refine wpAny_bind (wpAny_rule (wpAny_bind (unpackItems_tuple (items := #[u1, u2]) (I.ok.hd hc) (IsTup.new s1.heap _) fun h' hx' => ?_)))
 have I3 := I2.kept (h' := h') (t' := s1.toks) fun b o e => hx' b o (Nat.ne_of_lt (Heap.lt_size e)) e
 show wpAny _ _ (assignInOrder [fun v => bindName X.env y v, fun v => bindName X.env x v] [u2, u1] >>= fun _ => pure Flow.next) _ _ _
 refine wpAny_bind (assignInOrder_cons (wpAny_bindName (qC8 I3 hN hj (.inl hy) rw' (fun s2 I4 => ?_) (.inr hy))))
 refine assignInOrder_cons (wpAny_bindName (qC8 I4 hN hi (.inl hx) rv (fun s3 I5 => assignInOrder_nil (wpAny_pure ?_)) (.inr hx)))
 rw [List.set_comm _ _ (Ne.symm hij)] at I5
 exact ⟨_, H1, I5, q1⟩
noncomputable def qZW (i : Nat) (te : TE) (ti : TIp) : TS := fun D σ H => ∃ x, σ[i]? = some (some x) ∧ te σ H fun y H1 => ti x y H1 fun z H2 => D.nx (σ.set i (some z)) H2
theorem qXa {i : Nat} {x : Str} {e : Expr} {te : TE} {op : Operator} {ti : TIp} {pos' : Pos} (hN : X.N.Nodup) (hi : X.N[i]? = some x) (hx : Loc X.env.scope x) (he : PE X e te) (ho : PIp X op ti) (hf : autoParam (X.fn x = true ∨ X.env.scope.names.lookup x = some .local) au1._auto_1) :
  PS X (.AugAssign (.Name x pos') op e pos) (qZW i te ti) := by
 intro pins s σ H D I h
 obtain ⟨v, e1, h⟩ := h
 obtain ⟨m, hn, hl⟩ := I.loc
 have vis : Vis X.env.scope x := by rcases hx with k | k; exact .inl k; exact .inr (.inl k)
 obtain ⟨u, r, l⟩ := hl i x v hi e1 vis
 refine wpAny_AugAssign_Name ?_
 have go : wpAny (model X.prog X.w) X.A (eval e X.env) (fun w s₂ => wpAny (model X.prog X.w) X.A (inplaceOp op u w) (fun r s₃ => wpAny (model X.prog X.w) X.A (storeName X.env x r) (fun _ => SP X pins D .next) X.xe s₃) X.xe s₂) X.xe s := by
  refine thn (he pins s σ H _ I h) fun w s1 ⟨y, H1, I1, r1, q1⟩ => ?_
  refine thn (ho pins s1 σ H1 v y u w _ I1 r r1 q1) fun z s2 ⟨zv, H2, I2, r2, q2⟩ => ?_
  exact qC8 I2 hN hi hx r2 (fun s3 I3 => ⟨_, H2, I3, q2⟩) hf
 rcases l with ⟨hk, hm⟩ | ⟨hk, c, hc, hcell⟩
 ·exact wpAny_loadName_local I.ok.kind hk hn hm go
 ·rcases hk with hk | hk
  ·exact wpAny_loadName_cell I.ok.kind hk hc hcell go
  ·rcases hx with k | k
   ·have : X.env.scope.names.lookup x = some .free := hk
    rw [k] at this; cases this
   ·have : X.env.scope.names.lookup x = some .free := hk
    rw [k] at this; cases this
noncomputable def ipI (f : Int → Int → Int) : TIp := fun x y H Q => ∃ i j, x = .int i ∧ y = .int j ∧ Q (.int (f i j)) H
theorem qWo : PIp X .Add (ipI fun i j => i + j) := by
 intro pins s σ H x y v u Q I r1 r2 h
 obtain ⟨i, j, e1, e2, q⟩ := h
 subst e1; subst e2
 obtain ⟨t, rfl⟩ := r1
 obtain ⟨t', rfl⟩ := r2
 exact iadd_int ⟨.int _, H, I.tok _, ⟨_, rfl⟩, q⟩
end
section
variable {X : Cx} {pos : Pos}
noncomputable def qXu (c : TT) (tb : TS) : TS := fun D σ H => ∃ W : Nat → St → Hp → Prop, (∃ m, W m σ H) ∧ ∀ m σ H, W m σ H →
 c σ H fun b H1 => if b = true then ∃ N : St → Hp → Prop, (∀ σ' H', N σ' H' → ∃ m', m' < m ∧ W m' σ' H') ∧ tb { D with nx := N, ct := N, bk := D.nx } σ H1 else D.nx σ H1
theorem qTS {c : Expr} {body : List Stmt} {tc : TT} {tb : TS} (hp : PassesOwn (model X.prog X.w) X.A X.env X.xe) (hc : PT X c tc) (hb : PSs X body tb) : PS X (.While c body [] pos) (qXu tc tb) := by
 intro pins s σ H D I h
 obtain ⟨W, ⟨m0, w0⟩, turn⟩ := h
 refine wpAny_While (codeAny_whileLoop (fun n s' => ∃ σ' H', Inv X pins σ' H' s' ∧ W n σ' H') ?_ m0 ⟨σ, H, I, w0⟩)
 rintro n s1 ⟨σ1, H1, I1, w1⟩
 refine wpAny_passesOwn hp (thn (hc pins s1 σ1 H1 _ I1 (turn n σ1 H1 w1)) fun b s2 ⟨H2, I2, q2⟩ => ?_)
 cases b with
 | true =>
  obtain ⟨N, hN, q2⟩ := q2
  rw [if_pos rfl]
  refine wpAny_passesOwn hp (thn (hb pins s2 σ1 H2 _ I2 q2) fun f s3 q3 => ?_)
  cases f with
  | next =>
   obtain ⟨σ3, H3, I3, n3⟩ := q3
   obtain ⟨m', hm, w3⟩ := hN σ3 H3 n3
   exact ⟨m', hm, σ3, H3, I3, w3⟩
  | cont =>
   obtain ⟨σ3, H3, I3, n3⟩ := q3
   obtain ⟨m', hm, w3⟩ := hN σ3 H3 n3
   exact ⟨m', hm, σ3, H3, I3, w3⟩
  | brk => exact q3
  | ret v => exact q3
 | false =>
  rw [if_neg Bool.false_ne_true]
  exact wpAny_execs_nil ⟨σ1, H2, I2, q2⟩
end
structure It where
 go : Nat → Hp → Prop
 yld : Nat → Hp → V → Hp → Prop
 stop : Nat → Hp → Prop
noncomputable def qCM (X : Cx) (pins : List (Addr × Obj)) (H : Hp) (b : Addr) : Prop :=
 H b = none ∧ b ≠ X.env.locals ∧ b ∉ X.fs ∧ (b ∈ X.ex ∨ X.s₀.heap.objs.size ≤ b) ∧ (∀ x c, X.env.cells.lookup x = some c → c ≠ b) ∧ ∀ p ∈ X.pn ++ pins, p.1 ≠ b
theorem Inv.fpOk {X : Cx} {pins : List (Addr × Obj)} {σ : St} {H H' : Hp} {s : Shared} {b : Addr} (I : Inv X pins σ H s) (hb : s.heap.objs.size ≤ b) (hn : H' b = none) : qCM X pins H' b := by
 refine ⟨hn, Nat.ne_of_gt (Nat.lt_of_lt_of_le I.lt hb), I.nofs hb, .inr (Nat.le_trans I.sz hb), fun x c e z => ?_, fun p hp z => ?_⟩
 ·obtain ⟨v, q⟩ := I.cell x c e
  exact absurd (Nat.lt_of_lt_of_le q.lt (by rw [z]; exact hb)) (Nat.lt_irrefl _)
 ·exact absurd (Nat.lt_of_lt_of_le (Heap.lt_size (I.pin p hp).1) (by rw [z]; exact hb)) (Nat.lt_irrefl _)
structure Turn (P : Program) (w : World) (K : PySem.W.Frag) (tg : Expr) (J : It) (fp : List Addr) (it : Addr) (tn : Nat → Heap → Prop) : Prop where
 mem : it ∈ fp
 obj : ∀ i h, tn i h → ∀ b ∈ fp, ∃ o, h.get? b = some o ∧ ∀ v, o.data ≠ .cell v
 keep : ∀ i h h', tn i h → (∀ b ∈ fp, ∀ o, h.get? b = some o → h'.get? b = some o) → tn i h'
 item : ∀ (X : Cx), X.prog = P → X.w = w → X.K = K → X.calm = true → ∀ (i : Nat) (pins : List (Addr × Obj)) (s : Shared) (σ : St) (H : Hp) (E : Value → Shared → Prop), Inv X pins σ H s → (∀ b ∈ fp, qCM X pins H b) → tn i s.heap → J.go i H →
  wpAny (model P w) X.A (pyNext (.ref it)) (fun r s1 => ∃ u, r = some u ∧
   wpAny (model P w) X.A (letOwnedTupleGo tg (.ref it) u) (fun _ s2 => ∃ x H', Inv X pins σ H' s2 ∧ qAR x u ∧ J.yld i H x H' ∧ tn (i + 1) s2.heap ∧ ∀ b ∈ fp, H' b = none) E s1) E s
 done : ∀ (X : Cx), X.prog = P → X.w = w → X.K = K → X.calm = true → ∀ (i : Nat) (pins : List (Addr × Obj)) (s : Shared) (σ : St) (H : Hp) (E : Value → Shared → Prop), Inv X pins σ H s → (∀ b ∈ fp, qCM X pins H b) → tn i s.heap → J.stop i H →
  wpAny (model P w) X.A (pyNext (.ref it)) (fun r s1 => r = none ∧ Inv X pins σ H s1) E s
 self : ∀ (A : Around) (i : Nat) (s : Shared) (Q : Value → Shared → Prop) (E : Value → Shared → Prop), tn i s.heap → Q (.ref it) s → wpAny (model P w) A (pyIter (.ref it)) Q E s
abbrev TI := St → Hp → (It → Hp → Prop) → Prop
inductive PIE (X : Cx) (pins : List (Addr × Obj)) (σ : St) (tg : Expr) (R : It → Hp → Prop) (itv : Value) (s2 : Shared) : Prop
 | mk (it : Addr) (fp : List Addr) (tn : Nat → Heap → Prop) (J : It) (H' : Hp) (e : itv = .ref it) (I : Inv X pins σ H' s2) (t : Turn X.prog X.w X.K tg J fp it tn) (z : tn 0 s2.heap) (f : ∀ b ∈ fp, qCM X pins H' b) (q : R J H') : PIE X pins σ tg R itv s2
noncomputable def PI (X : Cx) (tg iter : Expr) (wi : TI) : Prop :=
 ∀ (pins : List (Addr × Obj)) (s : Shared) (σ : St) (H : Hp) (R : It → Hp → Prop), Inv X pins σ H s → wi σ H R →
  wpAny (model X.prog X.w) X.A (eval iter X.env) (fun v s1 => wpAny (model X.prog X.w) X.A (pyIter v) (PIE X pins σ tg R) X.xe s1) X.xe s
theorem qNu {M : Model} {A : Around} {E : Value → Shared → Prop} {s : Shared} {tg : Expr} {it : Addr} {u : Value} {o : Obj} {n : String} {vs : Array Value} {Q : Unit → Shared → Prop} (ho : s.heap.get? it = some o) (hc : o.cls = .type n) (hd : o.data = .fields vs)
    (hn : ["enumerate", "zip", "dict_itemiterator", "dict_reverseitemiterator", "odict_iterator", "itertools.zip_longest", "itertools.pairwise"].contains n = false) (hQ : Q () s) : wpAny M A (letOwnedTupleGo tg (.ref it) u) Q E s := by
  unfold letOwnedTupleGo
  cases tg <;> first
    | exact wpAny_pure hQ
    | (cases u <;> first
        | exact wpAny_pure hQ
        | (refine wpAny_bind (wpAny_load ho ?_)
           rw [hc, hd]
           show wpAny M A (if (["enumerate", "zip", "dict_itemiterator", "dict_reverseitemiterator", "odict_iterator", "itertools.zip_longest", "itertools.pairwise"].contains n && vs[0]? == some (rawInt _)) = true then _ else _) Q E s
           rw [if_neg (by intro h; rw [hn, Bool.false_and] at h; cases h)]
           exact wpAny_pure hQ))
noncomputable def Itl (K : PySem.W.Frag) (a : Addr) : It :=
 ⟨fun i H => ∃ xs x, SqL K H a xs ∧ xs[i]? = some x, fun i H x H' => H' = H ∧ ∀ xs, SqL K H a xs → xs[i]? = some x, fun i H => ∃ xs, SqL K H a xs ∧ xs.length ≤ i⟩
noncomputable def Itt (K : PySem.W.Frag) (a : Addr) : It :=
 ⟨fun i H => ∃ xs x, SqT K H a xs ∧ xs[i]? = some x, fun i H x H' => H' = H ∧ ∀ xs, SqT K H a xs → xs[i]? = some x, fun i H => ∃ xs, SqT K H a xs ∧ xs.length ≤ i⟩
noncomputable def Itr (lo : Int) (n : Nat) : It := ⟨fun i _ => i < n, fun i H x H' => H' = H ∧ x = .int (lo + i), fun i _ => n ≤ i⟩
theorem qNe {P : Program} {w : World} {K : PySem.W.Frag} {tg : Expr} (a it : Addr) : Turn P w K tg (Itl K a) [it] it (fun i h => h.IsListIter it a i) where
 mem := by simp
 obj := fun i h st b hb => by
  have e : b = it := by simpa using hb
  subst e
  obtain ⟨o, e, c, d⟩ := st
  exact ⟨o, e, fun v z => by rw [d] at z; cases z⟩
 keep := fun i h h' st k => st.at fun o e => k it (by simp) o e
 item := by
  intro X hP hw hK hc i pins s σ H E I hf st hg
  subst hP hw hK
  obtain ⟨xs, x, hq, hx⟩ := hg
  obtain ⟨its, rv, p, hz⟩ := I.list hq
  obtain ⟨u, hu, ru⟩ := rv.get hx
  obtain ⟨f0, f1, f2, f3, f4, f5⟩ := hf it (by simp)
  refine wpAny_pyNext_list_item st p.isList (x := u) (by simpa using hu) fun h' st' sb => ?_
  have I1 : Inv X pins σ H { s with heap := h' } := I.turned (t' := s.toks) (fun b o hb e => (sb.2 b hb).trans e) f0 f1 f3 f4 f5
  obtain ⟨o, e, c, d⟩ := id st'
  exact ⟨u, rfl, qNu (s := { s with heap := h' }) e c d (by decide) ⟨x, H, I1, ru, ⟨rfl, fun ys hy => by rw [I.list_inj hy hq]; exact hx⟩, st', fun b hb => (hf b hb).1⟩⟩
 done := by
  intro X hP hw hK hc i pins s σ H E I hf st hg
  subst hP hw hK
  obtain ⟨xs, hq, hx⟩ := hg
  obtain ⟨its, rv, p, hz⟩ := I.list hq
  obtain ⟨f0, f1, f2, f3, f4, f5⟩ := hf it (by simp)
  have hl := rv.length
  exact wpAny_pyNext_list_end (I.ok.hd hc) st p.isList (by simp; omega) fun h' eb => ⟨rfl, I.turned (t' := s.toks) (fun b o hb e => eb b o hb e) f0 f1 f3 f4 f5⟩
 self := fun _ _ _ _ _ st h => wpAny_pyIter_listiter st h
theorem qRD {P : Program} {w : World} {K : PySem.W.Frag} {tg : Expr} (a it : Addr) : Turn P w K tg (Itt K a) [it] it (fun i h => h.IsTupleIter it a i) where
 mem := by simp
 obj := fun i h st b hb => by
  have e : b = it := by simpa using hb
  subst e
  obtain ⟨o, e, c, d⟩ := st
  exact ⟨o, e, fun v z => by rw [d] at z; cases z⟩
 keep := fun i h h' st k => st.at fun o e => k it (by simp) o e
 item := by
  intro X hP hw hK hc i pins s σ H E I hf st hg
  subst hP hw hK
  obtain ⟨xs, x, hq, hx⟩ := hg
  obtain ⟨its, rv, p, hz⟩ := I.tuple hq
  obtain ⟨u, hu, ru⟩ := rv.get hx
  obtain ⟨f0, f1, f2, f3, f4, f5⟩ := hf it (by simp)
  refine wpAny_pyNext_tuple_item st (show s.heap.IsTuple a its.toArray from p) (x := u) (by simpa using hu) fun h' st' sb => ?_
  have I1 : Inv X pins σ H { s with heap := h' } := I.turned (t' := s.toks) (fun b o hb e => (sb.2 b hb).trans e) f0 f1 f3 f4 f5
  obtain ⟨o, e, c, d⟩ := id st'
  exact ⟨u, rfl, qNu (s := { s with heap := h' }) e c d (by decide) ⟨x, H, I1, ru, ⟨rfl, fun ys hy => by rw [I.tuple_inj hy hq]; exact hx⟩, st', fun b hb => (hf b hb).1⟩⟩
 done := by
  intro X hP hw hK hc i pins s σ H E I hf st hg
  subst hP hw hK
  obtain ⟨xs, hq, hx⟩ := hg
  obtain ⟨its, rv, p, hz⟩ := I.tuple hq
  obtain ⟨f0, f1, f2, f3, f4, f5⟩ := hf it (by simp)
  have hl := rv.length
  exact wpAny_pyNext_tuple_end (I.ok.hd hc) st (show s.heap.IsTuple a its.toArray from p) (by simp; omega) fun h' eb => ⟨rfl, I.turned (t' := s.toks) (fun b o hb e => eb b o hb e) f0 f1 f3 f4 f5⟩
 self := fun _ _ _ _ _ st h => wpAny_pyIter_tupleiter st h
theorem qRC {P : Program} {w : World} {K : PySem.W.Frag} {tg : Expr} (it : Addr) (lo : Int) (n : Nat) : Turn P w K tg (Itr lo n) [it] it (fun i h => IsRangeIter h it (lo + (i : Nat) * 1) ((n : Int) - (i : Nat)) 1) where
 mem := by simp
 obj := fun i h st b hb => by
  have e : b = it := by simpa using hb
  subst e
  exact ⟨_, st, fun v z => by
   have z' : Data.fields _ = Data.cell v := z
   cases z'⟩
 keep := fun i h h' st k => k it (by simp) _ st
 item := by
  intro X hP hw hK hc i pins s σ H E I hf st hg
  subst hP hw hK
  obtain ⟨f0, f1, f2, f3, f4, f5⟩ := hf it (by simp)
  have W := Walks.range (prog := X.prog) (w := X.w) (I.ok.hd hc) it lo 1 n
  refine W.item i s _ _ hg st fun v h' tk hv st' kk => ?_
  obtain ⟨t, rfl⟩ := hv
  have I1 : Inv X pins σ H { s with heap := h', toks := tk } := I.turned (fun b o hb e => kk b o (by simpa using hb) e) f0 f1 f3 f4 f5
  refine ⟨_, rfl, qNu (s := { s with heap := h', toks := tk }) (n := "range_iterator") st' rfl rfl (by decide) ⟨.int (lo + i), H, I1, ⟨t, ?_⟩, ⟨rfl, rfl⟩, st', fun b hb => (hf b hb).1⟩⟩
  rw [Int.mul_one]
 done := by
  intro X hP hw hK hc i pins s σ H E I hf st hg
  subst hP hw hK
  obtain ⟨f0, f1, f2, f3, f4, f5⟩ := hf it (by simp)
  exact wpAny_pyNext_range_end (I.ok.hd hc) st (by have : n ≤ i := hg; omega) fun h' eb => ⟨rfl, I.turned (t' := s.toks) (fun b o hb e => eb b o hb e) f0 f1 f3 f4 f5⟩
 self := fun _ _ _ _ _ st h => wpAny_pyIter_rangeiter st h
end L2
namespace L2
open PySem PySem.Spec PyProof.Rows
section
variable {X : Cx} {tg : Expr}
theorem qPJ {pins : List (Addr × Obj)} {σ : St} {H : Hp} {s : Shared} {R : It → Hp → Prop} {E : Value → Shared → Prop} {lo hi : Int} {t u v : Tok} {tk : Nat} (I : Inv X pins σ H s) (h1 : -(2 ^ 62) ≤ lo) (h2 : lo < 2 ^ 62) (h3 : -(2 ^ 62) ≤ hi) (h4 : hi < 2 ^ 62)
  (q : R (Itr lo (hi - lo).toNat) H) : wpAny (model X.prog X.w) X.A (pyIter (.ref s.heap.objs.size)) (PIE X pins σ tg R) E { s with heap := s.heap.push { cls := .type "range", data := .fields #[.int lo t, .int hi u, .int 1 v] }, toks := tk } := by
 refine wpAny_pyIter_range (IsRange.new ..) (small_one h1 h2 h3 h4) ?_
 have I1 : Inv X pins σ H { s with heap := s.heap.push { cls := .type "range", data := .fields #[.int lo t, .int hi u, .int 1 v] }, toks := tk } := I.kept fun b o e => Heap.get?_push_of_some _ e
 refine ⟨(s.heap.push { cls := .type "range", data := .fields #[.int lo t, .int hi u, .int 1 v] }).objs.size, [(s.heap.push { cls := .type "range", data := .fields #[.int lo t, .int hi u, .int 1 v] }).objs.size], _, _, H, rfl,
  I1.kept (t' := tk) fun b o e => Heap.get?_push_of_some _ e, qRC _ lo (hi - lo).toNat, ?_, fun b hb => ?_, q⟩
 ·have e1 : lo + ((0 : Nat) : Int) * 1 = lo := by simp
  have e2 : (((hi - lo).toNat : Nat) : Int) - ((0 : Nat) : Int) = Builtin.Range.rangeSize lo hi 1 := by rw [rangeSize_one]; split <;> omega
  show IsRangeIter _ _ (lo + ((0 : Nat) : Int) * 1) ((((hi - lo).toNat : Nat) : Int) - ((0 : Nat) : Int)) 1
  rw [e1, e2]
  exact Heap.get?_push_size _ rfl
 ·have e : b = (s.heap.push { cls := .type "range", data := .fields #[.int lo t, .int hi u, .int 1 v] }).objs.size := by simpa using hb
  subst e
  exact I1.fpOk (Nat.le_refl _) (I1.hok.fresh (Nat.le_refl _))
noncomputable def qZX (wi : TI) (g : TG) (tb : TS) : TS := fun D σ H => wi σ H fun J H1 => ∃ W : Nat → Nat → St → Hp → Prop, (∃ m, W 0 m σ H1) ∧ ∀ i m σ H, W i m σ H →
 (J.stop i H ∧ D.nx σ H) ∨ (J.go i H ∧ ∃ N : St → Hp → Prop, (∀ σ' H', N σ' H' → ∃ m', m' < m ∧ W (i + 1) m' σ' H') ∧ ∀ x H', J.yld i H x H' → g x σ H' fun σ2 H2 => tb { D with nx := N, ct := N, bk := D.nx } σ2 H2)
noncomputable def qEe (fp : List Addr) (h : Heap) : List (Addr × Obj) := fp.filterMap fun b => (h.get? b).map fun o => (b, o)
theorem qGE {fp : List Addr} {h : Heap} {b : Addr} {o : Obj} (hb : b ∈ fp) (e : h.get? b = some o) : (b, o) ∈ qEe fp h := List.mem_filterMap.mpr ⟨b, hb, by rw [e]; rfl⟩
theorem qNZ {fp : List Addr} {h : Heap} {p : Addr × Obj} (hp : p ∈ qEe fp h) : p.1 ∈ fp ∧ h.get? p.1 = some p.2 := by
 obtain ⟨b, hb, e⟩ := List.mem_filterMap.mp hp
 cases q : h.get? b with
 | none => rw [q] at e; cases e
 | some o =>
  rw [q] at e
  have e' : (b, o) = p := Option.some.inj e
  subst e'
  exact ⟨hb, q⟩
theorem Inv.pinned {pins : List (Addr × Obj)} {σ : St} {H : Hp} {s : Shared} {fp : List Addr} (I : Inv X pins σ H s) (hf : ∀ b ∈ fp, qCM X pins H b) (ho : ∀ b ∈ fp, ∃ o, s.heap.get? b = some o ∧ ∀ v, o.data ≠ .cell v) : Inv X (pins ++ qEe fp s.heap) σ H s :=
 I.pins_of fun p hp => (List.mem_append.mp hp).elim (fun z => I.pin p (List.mem_append_right _ z)) fun z => by
  obtain ⟨hb, e⟩ := qNZ z
  obtain ⟨f0, f1, f2, _⟩ := hf p.1 hb
  obtain ⟨o, e', d⟩ := ho p.1 hb
  rw [e] at e'; cases e'
  exact ⟨e, f0, f1, f2, d⟩
theorem Inv.unpinned {pins pl : List (Addr × Obj)} {σ : St} {H : Hp} {s : Shared} (I : Inv X (pins ++ pl) σ H s) : Inv X pins σ H s := I.pins_of fun p hp => I.pin p (List.mem_append_right _ (List.mem_append_left _ hp))
theorem qSB {iter : Expr} {body : List Stmt} {wi : TI} {g : TG} {tb : TS} {pos : Pos} (hp : PassesOwn (model X.prog X.w) X.A X.env X.xe) (hc : X.calm = true) (hi : PI X tg iter wi) (hg : PG X tg g) (hb : PSs X body tb)
  (hs : autoParam (∀ x, foldedSetIterable iter X.env x = pure x) au4._auto_1) : PS X (.For tg iter body [] pos) (qZX wi g tb) := by
 intro pins s σ H D I h
 refine wpAny_For (thn (hi pins s σ H _ I h) fun v s1 h1 => thn h1 fun itv s2 h2 => ?_) hs
 obtain ⟨it, fp, tn, J, H2, e, I2, T, st2, f2, W, ⟨m0, w0⟩, turn⟩ := h2
 subst e
 have stat : ∀ {H' : Hp}, (∀ b ∈ fp, H' b = none) → ∀ b ∈ fp, qCM X pins H' b := fun hn b hb => ⟨hn b hb, (f2 b hb).2⟩
 refine codeAny_forLoop_any (fun n s' => ∃ i σ' H', Inv X pins σ' H' s' ∧ tn i s'.heap ∧ (∀ b ∈ fp, H' b = none) ∧ W i n σ' H') ?_ m0 ⟨0, σ, H2, I2, st2, fun b hb => (f2 b hb).1, w0⟩
 rintro n s3 ⟨i, σ3, H3, I3, st3, fr3, w3⟩
 rcases turn i n σ3 H3 w3 with ⟨stop, qn⟩ | ⟨go, N, hN, step⟩
 ·refine wpAny_passesOwn hp (thn (T.done X rfl rfl rfl hc i pins s3 σ3 H3 X.xe I3 (stat fr3) st3 stop) fun r s4 ⟨hr, I4⟩ => ?_)
  subst hr
  exact wpAny_execs_nil ⟨σ3, H3, I4, qn⟩
 ·refine wpAny_passesOwn hp (thn (T.item X rfl rfl rfl hc i pins s3 σ3 H3 X.xe I3 (stat fr3) st3 go) fun r s4 ⟨u, hr, h4⟩ => ?_)
  subst hr
  refine wpAny_passesOwn hp (thn h4 fun _ s5 ⟨x, H5, I5, r5, y5, st5, fr5⟩ => ?_)
  have I5' := I5.pinned (stat fr5) (T.obj _ _ st5)
  refine wpAny_passesOwn hp (thn (hg _ s5 σ3 H5 x u _ I5' r5 (step x H5 y5)) fun _ s6 ⟨σ6, H6, I6, q6⟩ => ?_)
  refine wpAny_passesOwn hp (thn (hb _ s6 σ6 H6 _ I6 q6) fun f s7 q7 => ?_)
  have again : ∀ {σ7 : St} {H7 : Hp}, Inv X (pins ++ qEe fp s5.heap) σ7 H7 s7 → N σ7 H7 → ∃ m, m < n ∧ ∃ i σ' H', Inv X pins σ' H' s7 ∧ tn i s7.heap ∧ (∀ b ∈ fp, H' b = none) ∧ W i m σ' H' := fun {σ7 H7} I7 n7 => by
   obtain ⟨m', hm, w7⟩ := hN σ7 H7 n7
   refine ⟨m', hm, i + 1, σ7, H7, I7.unpinned, T.keep _ _ _ st5 fun b hb o e => (I7.pin (b, o) (List.mem_append_right _ (List.mem_append_right _ (qGE hb e)))).1, fun b hb => ?_, w7⟩
   obtain ⟨o, e, d⟩ := T.obj _ _ st5 b hb
   exact (I7.pin (b, o) (List.mem_append_right _ (List.mem_append_right _ (qGE hb e)))).2.1
  cases f with
  | next => obtain ⟨σ7, H7, I7, n7⟩ := q7; exact again I7 n7
  | cont => obtain ⟨σ7, H7, I7, n7⟩ := q7; exact again I7 n7
  | brk => obtain ⟨σ7, H7, I7, q7⟩ := q7; exact ⟨σ7, H7, I7.unpinned, q7⟩
  | ret v => obtain ⟨x7, σ7, H7, I7, r7, q7⟩ := q7; exact ⟨x7, σ7, H7, I7.unpinned, r7, q7⟩
end
end L2
namespace L2
open PySem PySem.Spec PyProof.Rows
abbrev R2 := V → V → Hp → VK → Prop
noncomputable def OpR (X : Cx) (f : Value → Value → Sem Value) (r : R2) : Prop :=
 ∀ (pins : List (Addr × Obj)) (s : Shared) (σ : St) (H : Hp) (x y : V) (v u : Value) (Q : VK), Inv X pins σ H s → qAR x v → qAR y u → r x y H Q →
  wpAny (model X.prog X.w) X.A (f v u) (EP X pins σ Q) X.xe s
noncomputable def UnR (X : Cx) (f : Value → Sem Value) (r : V → Hp → VK → Prop) : Prop :=
 ∀ (pins : List (Addr × Obj)) (s : Shared) (σ : St) (H : Hp) (x : V) (v : Value) (Q : VK), Inv X pins σ H s → qAR x v → r x H Q →
  wpAny (model X.prog X.w) X.A (f v) (EP X pins σ Q) X.xe s
noncomputable def qTr (X : Cx) (f : Value) (r : List V → Hp → VK → Prop) : Prop :=
 ∀ (pins : List (Addr × Obj)) (s : Shared) (σ : St) (H : Hp) (xs : List V) (us : List Value) (Q : VK), Inv X pins σ H s → qAZ xs us → r xs H Q →
  wpAny (model X.prog X.w) X.A (call f us) (EP X pins σ Q) X.xe s
noncomputable def qY8 (X : Cx) (r : V → Hp → (Bool → Hp → Prop) → Prop) : Prop :=
 ∀ (pins : List (Addr × Obj)) (s : Shared) (σ : St) (H : Hp) (x : V) (v : Value) (Q : Bool → Hp → Prop), Inv X pins σ H s → qAR x v → r x H Q →
  wpAny (model X.prog X.w) X.A (truthy v) (TP X pins σ Q) X.xe s
noncomputable def tOp (r : R2) (ta tb : TE) : TE := fun σ H Q => ta σ H fun x H1 => tb σ H1 fun y H2 => r x y H2 Q
noncomputable def rI (C : Int → Int → Prop) (g : Int → Int → V) : R2 := fun x y H Q => ∃ i j, x = .int i ∧ y = .int j ∧ C i j ∧ Q (g i j) H
noncomputable def rI0 (g : Int → Int → V) : R2 := fun x y H Q => ∃ i j, x = .int i ∧ y = .int j ∧ Q (g i j) H
noncomputable def rU (g : Int → V) : V → Hp → VK → Prop := fun x H Q => ∃ i, x = .int i ∧ Q (g i) H
section
variable {X : Cx} {a b c : Expr} {ta tb tc : TE} {pos : Pos}
theorem qZB (ha : PE X a ta) (hb : PE X b tb) {pins : List (Addr × Obj)} {s : Shared} {σ : St} {H : Hp} {R : V → V → Hp → Prop} (I : Inv X pins σ H s)
  (h : ta σ H fun x H1 => tb σ H1 fun y H2 => R x y H2) {Q : Value → Shared → Prop} {f : Value → Value → Sem Value}
  (hf : ∀ v u s2 x y H2, Inv X pins σ H2 s2 → qAR x v → qAR y u → R x y H2 → wpAny (model X.prog X.w) X.A (f v u) Q X.xe s2) :
  wpAny (model X.prog X.w) X.A (eval a X.env) (fun v s₁ => wpAny (model X.prog X.w) X.A (eval b X.env) (fun u s₂ => wpAny (model X.prog X.w) X.A (f v u) Q X.xe s₂) X.xe s₁) X.xe s := by
 refine thn (ha pins s σ H _ I h) fun v s1 ⟨x, H1, I1, r1, q1⟩ => ?_
 refine thn (hb pins s1 σ H1 _ I1 q1) fun u s2 ⟨y, H2, I2, r2, q2⟩ => ?_
 exact hf v u s2 x y H2 I2 r1 r2 q2
theorem opI {f : Value → Value → Sem Value} {C : Int → Int → Prop} {g : Int → Int → Int}
  (rule : ∀ (i j : Int) (t u : Tok) (s : Shared) (Q : Value → Shared → Prop) (E : Value → Shared → Prop), C i j → Q (.int (g i j) s.toks) { s with toks := s.toks + 1 } → wpAny (model X.prog X.w) X.A (f (.int i t) (.int j u)) Q E s) :
  OpR X f (rI C fun i j => .int (g i j)) := by
 intro pins s σ H x y v u Q I rx ry h
 obtain ⟨i, j, rfl, rfl, hc, q⟩ := h
 obtain ⟨t, rfl⟩ := rx
 obtain ⟨t', rfl⟩ := ry
 exact rule i j t t' s _ _ hc ⟨.int (g i j), H, I.tok _, ⟨_, rfl⟩, q⟩
theorem qXG {f : Value → Value → Sem Value} {g : Int → Int → Int}
  (rule : ∀ (i j : Int) (t u : Tok) (s : Shared) (Q : Value → Shared → Prop) (E : Value → Shared → Prop), Q (.int (g i j) s.toks) { s with toks := s.toks + 1 } → wpAny (model X.prog X.w) X.A (f (.int i t) (.int j u)) Q E s) :
  OpR X f (rI0 fun i j => .int (g i j)) := by
 intro pins s σ H x y v u Q I rx ry h
 obtain ⟨i, j, rfl, rfl, q⟩ := h
 obtain ⟨t, rfl⟩ := rx
 obtain ⟨t', rfl⟩ := ry
 exact rule i j t t' s _ _ ⟨.int (g i j), H, I.tok _, ⟨_, rfl⟩, q⟩
theorem qQ5 {f : Value → Value → Sem Value} {g : Int → Int → Bool}
  (rule : ∀ (i j : Int) (t u : Tok) (s : Shared) (Q : Value → Shared → Prop) (E : Value → Shared → Prop), Q (.bool (g i j)) s → wpAny (model X.prog X.w) X.A (f (.int i t) (.int j u)) Q E s) :
  OpR X f (rI0 fun i j => .bl (g i j)) := by
 intro pins s σ H x y v u Q I rx ry h
 obtain ⟨i, j, rfl, rfl, q⟩ := h
 obtain ⟨t, rfl⟩ := rx
 obtain ⟨t', rfl⟩ := ry
 exact rule i j t t' s _ _ ⟨.bl (g i j), H, I, rfl, q⟩
noncomputable def qY5 (i j : Int) : Prop := 0 < j ∧ j < 1073741824
noncomputable def qY6 (i j : Int) : Prop := 0 ≤ j ∧ j ≤ 1000000 ∧ i.natAbs < 2 ^ 64
noncomputable def qQh (i j : Int) : Prop := (-(2 ^ 64) < i ∧ i < 2 ^ 64) ∨ (-(2 ^ 64) < j ∧ j < 2 ^ 64)
theorem qQh.ok {i j : Int} (h : qQh i j) : IntMulOk i j := by
 rcases h with ⟨h1, h2⟩ | ⟨h1, h2⟩
 ·exact .of_left (intBits_le_64 h1 h2)
 ·exact .of_right (intBits_le_64 h1 h2)
theorem qXI : OpR X (binaryOp .Add) (rI0 fun i j => .int (i + j)) := qXG fun _ _ _ _ _ _ _ q => add_int q
theorem qXN : OpR X (binaryOp .Sub) (rI0 fun i j => .int (i - j)) := qXG fun _ _ _ _ _ _ _ q => sub_int q
theorem qXL : OpR X (binaryOp .Mult) (rI qQh fun i j => .int (i * j)) := opI fun _ _ _ _ _ _ _ hc q => mul_int q hc.ok
theorem qVL : OpR X (binaryOp .FloorDiv) (rI qY5 fun i j => .int (i / j)) := opI fun i j _ _ _ _ _ hc q => by
 have h1 : (0 : Int) < j := hc.1
 have h2 : j < 1073741824 := hc.2
 exact floordiv_int (by omega) (by rw [Int.fdiv_eq_ediv_of_nonneg i (by omega)]; exact q) (.inl (PyProof.noPylong_small (by omega)))
theorem qXK : OpR X (binaryOp .Mod) (rI (fun _ j => 0 < j) fun i j => .int (i % j)) := opI fun i j _ _ _ _ _ hc q => by
 have h1 : (0 : Int) < j := hc
 exact mod_int' (by omega) (by rw [Int.fmod_eq_emod_of_nonneg i (by omega)]; exact q)
theorem qXM : OpR X (binaryOp .Pow) (rI qY6 fun i j => .int (i ^ j.toNat)) := opI fun _ _ _ _ _ _ _ hc q => pow_int_small hc.1 hc.2.1 hc.2.2 q
theorem unI {f : Value → Sem Value} {g : Int → Int}
  (rule : ∀ (i : Int) (t : Tok) (s : Shared) (Q : Value → Shared → Prop) (E : Value → Shared → Prop), Q (.int (g i) s.toks) { s with toks := s.toks + 1 } → wpAny (model X.prog X.w) X.A (f (.int i t)) Q E s) :
  UnR X f (rU fun i => .int (g i)) := by
 intro pins s σ H x v Q I rx h
 obtain ⟨i, rfl, q⟩ := h
 obtain ⟨t, rfl⟩ := rx
 exact rule i t s _ _ ⟨.int (g i), H, I.tok _, ⟨_, rfl⟩, q⟩
theorem qXz : UnR X (unaryOp .USub) (rU fun i => .int (-i)) := unI fun _ _ _ _ _ q => neg_int q
end
section
variable {X : Cx} {a b c : Expr} {ta tb tc : TE} {pos : Pos}
theorem qWg {pins : List (Addr × Obj)} {σ : St} {H : Hp} {s : Shared} {Q : VK} {k k' : Bool} (I : Inv X pins σ H s) (q : Q (.bl k) H) (e : k = k') : EP X pins σ Q (.bool k') s := by
 subst e
 exact ⟨.bl k, H, I, rfl, q⟩
theorem qYc : OpR X (compareOp .Lt) (rI0 fun i j => .bl (decide (i < j))) := qQ5 fun _ _ _ _ _ _ _ q => lt_int q
theorem qYb : OpR X (compareOp .LtE) (rI0 fun i j => .bl (decide (i ≤ j))) := qQ5 fun _ _ _ _ _ _ _ q => le_int q
theorem qYa : OpR X (compareOp .Gt) (rI0 fun i j => .bl (decide (j < i))) := qQ5 fun _ _ _ _ _ _ _ q => gt_int q
theorem qYZ : OpR X (compareOp .GtE) (rI0 fun i j => .bl (decide (j ≤ i))) := qQ5 fun _ _ _ _ _ _ _ q => ge_int q
theorem qXJ : OpR X (compareOp .Is) (fun x y H Q => y = .non ∧ Q (.bl (decide (x = .non))) H) := by
 intro pins s σ H x y v u Q I rx ry h
 obtain ⟨rfl, q⟩ := h
 cases ry
 refine is_none_gen (qWg I q ?_)
 cases x <;> first
  | (cases rx; rfl)
  | (obtain ⟨t, rfl⟩ := rx; rfl)
theorem qL6 (b : Expr) {op : CmpOp} (h : autoParam (op ≠ .In) au2._auto_1) (h2 : autoParam (op ≠ .NotIn) au2._auto_1) : behindInMarks op b = false := by
 have e1 : (op == CmpOp.In) = false := by cases op <;> first | rfl | exact absurd rfl h
 have e2 : (op == CmpOp.NotIn) = false := by cases op <;> first | rfl | exact absurd rfl h2
 cases b <;> simp [behindInMarks, e1, e2]
noncomputable def qQj (K : PySem.W.Frag) (x : V) (H : Hp) (k : Bool) : Prop :=
 match x with
 | .non => k = false
 | .bl b => k = b
 | .int i => k = (i != 0)
 | .str y => y.length ≤ sizeLine ∧ k = ((y.length : Int) != 0)
 | .byt y => y.size ≤ sizeLine ∧ k = ((y.size : Int) != 0)
 | .ref p => (∃ xs, SqL K H p xs ∧ k = !xs.isEmpty) ∨ (∃ xs, SqT K H p xs ∧ k = !xs.isEmpty) ∨ ∃ kvs, H p = some (.dK kvs) ∧ k = !kvs.isEmpty
 | _ => False
theorem qQz {κ : Type} {kvs : List (κ × V)} {vs : List (κ × Value)} (r : KV kvs vs) : (!vs.isEmpty) = !kvs.isEmpty := by
 cases r <;> rfl
theorem qL1 {xs : List V} {its : List Value} (r : qAZ xs its) : (!its.toArray.isEmpty) = !xs.isEmpty := by
 cases r <;> simp
theorem qJg : (sizeLine : Nat) < 2 ^ 63 := by rw [sizeLine_eq]; decide
theorem qMG : qY8 X (fun x H Q => ∃ k, qQj X.K x H k ∧ Q k H) := by
 intro pins s σ H x v Q I rx h
 obtain ⟨k, e, q⟩ := h
 have hl := qJg
 have hs : sizeLine = 16777216 := sizeLine_eq
 cases x with
 | non =>
  cases rx
  have e' : k = false := e
  subst e'
  exact truthy_none ⟨H, I, q⟩
 | bl b =>
  cases rx
  have e' : k = b := e
  subst e'
  exact wpAny_truthy_bool ⟨H, I, q⟩
 | int i =>
  obtain ⟨t, rfl⟩ := rx
  have e' : k = (i != 0) := e
  subst e'
  exact PySem.P.truthy_int ⟨H, I, q⟩
 | str y =>
  obtain ⟨t, rfl⟩ := rx
  obtain ⟨hy, e'⟩ : y.length ≤ sizeLine ∧ k = ((y.length : Int) != 0) := e
  subst e'
  exact PySem.P.truthy_str (by omega) ⟨H, I.tok _, q⟩
 | byt y =>
  obtain ⟨t, rfl⟩ := rx
  obtain ⟨hy, e'⟩ : y.size ≤ sizeLine ∧ k = ((y.size : Int) != 0) := e
  subst e'
  exact PySem.W.truthy_bytes (by omega) ⟨H, I.tok _, q⟩
 | ref p =>
  cases rx
  have e' : (∃ xs, SqL X.K H p xs ∧ k = !xs.isEmpty) ∨ (∃ xs, SqT X.K H p xs ∧ k = !xs.isEmpty) ∨ ∃ kvs, H p = some (.dK kvs) ∧ k = !kvs.isEmpty := e
  rcases e' with ⟨xs, hx, e'⟩ | ⟨xs, hx, e'⟩ | ⟨kvs, hx, e'⟩
  ·subst e'
   obtain ⟨its, r, pl, hz⟩ := I.list hx
   have hlen := r.length
   exact wpAny_truthy_list pl.isList (by simp only [List.size_toArray]; omega) ⟨H, I.tok _, by rw [qL1 r]; exact q⟩
  ·subst e'
   obtain ⟨its, r, pl, hz⟩ := I.tuple hx
   have hlen := r.length
   exact truthy_tuple pl (by simp only [List.size_toArray]; omega) ⟨H, I.tok _, by rw [qL1 r]; exact q⟩
  ·subst e'
   obtain ⟨hz, hS, vs, r, m⟩ : kvs.length ≤ sizeLine ∧ (p == sysModules) = false ∧ ∃ vs, KV kvs vs ∧ s.heap.DictOf (qBJ X.prog X.w) p vs := I.hok p _ hx
   have hlen : kvs.length = vs.length := Paired.length r
   exact wpAny_truthy_dict hS m (by omega) ⟨H, I.tok _, by rw [qQz r]; exact q⟩
 | _ => exact (show False from e).elim
theorem qQ6 : OpR X (binaryOp .Add) (fun x y H Q => ∃ i j, x = .str i ∧ y = .str j ∧ i.length + j.length ≤ sizeLine ∧ Q (.str (i ++ j)) H) := by
 intro pins s σ H x y v u Q I rx ry h
 obtain ⟨i, j, rfl, rfl, hz, q⟩ := h
 obtain ⟨t, rfl⟩ := rx
 obtain ⟨t', rfl⟩ := ry
 exact add_str (fun t' tk => ⟨.str (i ++ j), H, I.tok _, ⟨_, rfl⟩, q⟩) hz
theorem qMH {x : V} {us : List Value} (r : qAZ [x] us) : ∃ u, us = [u] ∧ qAR x u := by
 cases r with
 | cons r1 r2 => cases r2; exact ⟨_, rfl, r1⟩
theorem qUA {x y : V} {us : List Value} (r : qAZ [x, y] us) : ∃ u w', us = [u, w'] ∧ qAR x u ∧ qAR y w' := by
 cases r with
 | cons r1 r2 =>
  cases r2 with
  | cons r3 r4 => cases r4; exact ⟨_, _, rfl, r1, r3⟩
theorem qNN : qTr X (.type "int") (fun xs H Q => (∃ i, xs = [.int i] ∧ Q (.int i) H) ∨ ∃ k, xs = [.bl k] ∧ Q (.int (if k then 1 else 0)) H) := by
 intro pins s σ H xs us Q I r h
 rcases h with ⟨i, rfl, q⟩ | ⟨k, rfl, q⟩
 ·obtain ⟨u, rfl, t, rfl⟩ := qMH r
  exact call_int_int ⟨.int i, H, I, ⟨_, rfl⟩, q⟩
 ·obtain ⟨u, rfl, r1⟩ := qMH r
  cases r1
  exact call_int_bool ⟨.int (if k then 1 else 0), H, I.tok _, ⟨_, rfl⟩, q⟩
noncomputable def qY7 (K : PySem.W.Frag) (x : V) (H : Hp) (n : Nat) : Prop :=
 match x with
 | .str y => y.length ≤ sizeLine ∧ n = y.length
 | .byt y => y.size ≤ sizeLine ∧ n = y.size
 | .ref p => (∃ xs, SqL K H p xs ∧ n = xs.length) ∨ ∃ xs, SqT K H p xs ∧ n = xs.length
 | _ => False
theorem qSd : qTr X (.builtin "len") (fun xs H Q => ∃ x n, xs = [x] ∧ qY7 X.K x H n ∧ Q (.int n) H) := by
 intro pins s σ H xs us Q I r h
 obtain ⟨x, n, rfl, e, q⟩ := h
 obtain ⟨u, rfl, rx⟩ := qMH r
 have hl := qJg
 have hs : sizeLine = 16777216 := sizeLine_eq
 cases x with
 | str y =>
  obtain ⟨t, rfl⟩ := rx
  obtain ⟨hy, e'⟩ : y.length ≤ sizeLine ∧ n = y.length := e
  subst e'
  exact len_str (by omega) ⟨.int _, H, I.tok _, ⟨_, rfl⟩, q⟩
 | byt y =>
  obtain ⟨t, rfl⟩ := rx
  obtain ⟨hy, e'⟩ : y.size ≤ sizeLine ∧ n = y.size := e
  subst e'
  exact PySem.W.len_bytes (by omega) ⟨.int _, H, I.tok _, ⟨_, rfl⟩, q⟩
 | ref p =>
  cases rx
  have e' : (∃ xs, SqL X.K H p xs ∧ n = xs.length) ∨ ∃ xs, SqT X.K H p xs ∧ n = xs.length := e
  rcases e' with ⟨xs, hx, e'⟩ | ⟨xs, hx, e'⟩
  ·subst e'
   obtain ⟨its, r', pl, hz⟩ := I.list hx
   have hlen := r'.length
   exact Calls.call_len_list pl.isList (by simp only [List.size_toArray]; omega) ⟨.int xs.length, H, I.tok _, ⟨_, by simp only [List.size_toArray]; rw [hlen]⟩, q⟩
  ·subst e'
   obtain ⟨its, r', pl, hz⟩ := I.tuple hx
   have hlen := r'.length
   exact len_tuple pl (by simp only [List.size_toArray]; omega) ⟨.int xs.length, H, I.tok _, ⟨_, by simp only [List.size_toArray]; rw [hlen]⟩, q⟩
 | _ => exact (show False from e).elim
end
end L2
namespace L2
open PySem PySem.Spec PyProof.Rows
structure ObjM (h : Heap) (x dx C : Addr) (mA : Str → Option Value) : Prop where
 obj : h.get? x = some (PySem.W.instObj C dx)
 ns : h.Ns1 dx mA
 ne : dx ≠ x
set_option tactic.hygienic true in
theorem qRu {h : Heap} {dx : Addr} {mA : Str → Option Value} (n : h.Ns1 dx mA) : ∃ od, h.get? dx = some od ∧ ∀ name, PySem.W.lookIn name od = some (mA name) := by
 obtain ⟨o, es, ep, ho, hd, hk, _, hm⟩ := n
 refine ⟨o, ho, fun name => ?_⟩
 have e := hm name
 unfold nsFind findBy at e
 rw [← Array.find?_toList] at e
 unfold PySem.W.lookIn
 rw [hd]
 dsimp only
 split
 ·rename_i y q
  rw [q] at e
  exact congrArg some e
 ·rename_i q
  rw [q] at e
  have a : es.toList.any (·.refKey) = false := by
   rw [List.any_eq_false]
   intro y hy
   obtain ⟨z, t, hkey⟩ := hk y (Array.mem_toList_iff.mp hy)
   simp [DictEntry.refKey, hkey]
  have a' : ¬ es.toList.any (·.refKey) = true := by rw [a]; exact Bool.false_ne_true
  rw [if_neg a']
  exact congrArg some e
theorem ObjM.look {h : Heap} {x dx C : Addr} {mA : Str → Option Value} (I : ObjM h x dx C mA) : ∃ od, PySem.W.InstAt h x (PySem.W.instObj C dx) C (some od) ∧ ∀ name, PySem.W.lookIn name od = some (mA name) :=
 let ⟨od, ho, hl⟩ := qRu I.ns
 ⟨od, ⟨I.obj, rfl, rfl, ho⟩, hl⟩
theorem qE8.some_of {v : V} {o : Option Value} (r : qE8 (some v) o) : ∃ u, o = some u ∧ qAR v u := by
 cases o with
 | none => exact (show False from r).elim
 | some u => exact ⟨u, rfl, r⟩
section
variable {P : Program} {w : World} {H H' : Hp} {h h' : Heap} {a C dx : Addr} {fs fs' : List (Str × V)}
theorem qUt (hok : HOk P w H h) (e : H a = some (.ins C dx fs)) : ∃ mA, ObjM h a dx C mA ∧ (∀ f, qE8 (fs.lookup f) (mA f)) ∧ PySem.Within mA (fs.map (·.1)) ∧ fs.length ≤ 1000 ∧ H dx = some (.own a) := by
 obtain ⟨d, z, ne, ob, mA, n, r, q⟩ := (show qBD P w H h a (.ins C dx fs) from hok a _ e)
 exact ⟨mA, ⟨ob, n, ne⟩, r, q, z, d⟩
end
structure Cls (K : PySem.W.Frag) (C : Addr) : Prop where
 pg : PySem.W.plainGet K C Str.empty = true
 hd : PySem.W.hasDictIn K C = true
 po : PySem.W.plainOver K C = true
 sa : PySem.W.findIn K (.ref C) "__setattr__" = some (some (.builtin "object.__setattr__"))
theorem Cls.get {K : PySem.W.Frag} {C : Addr} (c : Cls K C) (f : Str) : PySem.W.plainGet K C f = true := c.pg
section
variable {X : Cx} {pins : List (Addr × Obj)} {σ : St} {H : Hp} {s : Shared} {A : Around} {E : Value → Shared → Prop} {Q : Value → Shared → Prop} {c : Value} {b : Bool}
inductive TyOf (K : PySem.W.Frag) (H : Hp) : V → Value → Prop where
 | non : TyOf K H .non (.type "NoneType")
 | bl (x : Bool) : TyOf K H (.bl x) (.type "bool")
 | int (i : Int) : TyOf K H (.int i) (.type "int")
 | str (x : Str) : TyOf K H (.str x) (.type "str")
 | flt (x : UInt64) : TyOf K H (.flt x) (.type "float")
 | lst {a : Addr} {xs : List V} (e : H a = some (.lst xs)) : TyOf K H (.ref a) (.type "list")
 | frz {a : Addr} {o : Obj} {xs : List V} (e : H a = some (.frz o (.lst xs))) : TyOf K H (.ref a) (.type "list")
 | tup {a : Addr} {xs : List V} (e : H a = some (.tup xs)) : TyOf K H (.ref a) (.type "tuple")
 | dK {a : Addr} {kvs : List (Key × V)} (e : H a = some (.dK kvs)) : TyOf K H (.ref a) (.type "dict")
 | dT {a : Addr} {kvs : List (List Key × V)} (e : H a = some (.dT kvs)) : TyOf K H (.ref a) (.type "dict")
 | ins {a C dx : Addr} {fs : List (Str × V)} (e : H a = some (.ins C dx fs)) (cl : Cls K C) (ha : PySem.W.findIn K (.ref C) "__class__" = some (some (.builtin "object.__class__")))
   (hn : PySem.W.specialIn K (.builtin "object.__class__") "__get__" = some (some (.builtin "getset_descriptor.__get__"))) (htk : PySem.W.takesIn K (.builtin "object.__class__") = some true)
   (hm : PySem.W.mroIn K C (.type "object") = some true) : TyOf K H (.ref a) (.ref C)
theorem qRo {x : V} {u t : Value} (I : Inv X pins σ H s) (rx : qAR x u) (ty : TyOf X.K H x t) (e : PySem.W.kitOne X.K t c = some b) (h : ∀ tk, Q (.bool b) { s with toks := tk }) :
  wpAny (model X.prog X.w) A (call (.builtin "isinstance") [u, c]) Q E s := by
 cases ty with
 | non => cases (show u = Value.none from rx); exact PySem.W.kia_one PySem.W.kitx_none I.kIn True.intro e (fun z => nomatch z) h
 | bl y => cases (show u = Value.bool y from rx); exact PySem.W.kia_one PySem.W.kitx_bool I.kIn True.intro e (fun z => nomatch z) h
 | int i => obtain ⟨t, q⟩ := (show ∃ t, u = Value.int i t from rx); cases q; exact PySem.W.kia_one PySem.W.kitx_int I.kIn True.intro e (fun z => nomatch z) h
 | str y => obtain ⟨t, q⟩ := (show ∃ t, u = Value.str y t from rx); cases q; exact PySem.W.kia_one PySem.W.kitx_str I.kIn True.intro e (fun z => nomatch z) h
 | flt y => obtain ⟨t, q⟩ := (show ∃ t, u = Value.float y t from rx); cases q; exact PySem.W.kia_one PySem.W.kitx_float I.kIn True.intro e (fun z => nomatch z) h
 | @lst a xs ea =>
  cases (show u = Value.ref a from rx)
  obtain ⟨_, _, n, _, h1⟩ := (show qBD X.prog X.w H s.heap a (.lst xs) from I.hok a _ ea)
  exact PySem.W.kia_one PySem.W.kitx_list I.kIn ⟨_, h1, rfl⟩ e (fun z => nomatch z) h
 | @frz a ob xs ea =>
  cases (show u = Value.ref a from rx)
  obtain ⟨_, _, _, n, _, h1⟩ := (show qBD X.prog X.w H s.heap a (.frz ob (.lst xs)) from I.hok a _ ea)
  exact PySem.W.kia_one PySem.W.kitx_list I.kIn ⟨_, h1, rfl⟩ e (fun z => nomatch z) h
 | @tup a xs ea =>
  cases (show u = Value.ref a from rx)
  obtain ⟨_, _, _, p⟩ := (show qBD X.prog X.w H s.heap a (.tup xs) from I.hok a _ ea)
  obtain ⟨o, h1, h2, _⟩ := p
  exact PySem.W.kia_one PySem.W.kitx_tuple I.kIn ⟨o, h1, h2⟩ e (fun z => nomatch z) h
 | @dK a kvs ea =>
  cases (show u = Value.ref a from rx)
  obtain ⟨_, _, vs, _, p⟩ := (show qBD X.prog X.w H s.heap a (.dK kvs) from I.hok a _ ea)
  obtain ⟨o, es, ep, h1, h2, _⟩ := p
  exact PySem.W.kia_one PySem.W.kitx_dict I.kIn ⟨o, h1, h2.1⟩ e (fun z => nomatch z) h
 | @dT a kvs ea =>
  cases (show u = Value.ref a from rx)
  obtain ⟨_, _, xs, _, o, es, ep, h1, h2, _⟩ := (show qBD X.prog X.w H s.heap a (.dT kvs) from I.hok a _ ea)
  exact PySem.W.kia_one PySem.W.kitx_dict I.kIn ⟨o, h1, h2.1⟩ e (fun z => nomatch z) h
 | @ins a C dx fs ea cl ha hn htk hm =>
  cases (show u = Value.ref a from rx)
  obtain ⟨mA, O, _⟩ := qUt I.hok ea
  obtain ⟨od, J, _⟩ := O.look
  exact PySem.W.kia_one (PySem.W.kitx_own (cl.get _) cl.hd ha hn htk hm) I.kIn J e (fun z => nomatch z) h
end
end L2
namespace L2
open PySem PySem.Spec PyProof.Rows
structure Room (k : Nat) (A : Around) : Prop where
 hd : A.handled = none
 dp : A.depth + 3 * k + 5 < recursionLimit
 un : A.units + 16 * k + 200 < cLine
noncomputable def qZa : TA := fun _ H Q => Q [] H
section
variable {X : Cx} {e : Expr} {es : List Expr} {te : TE} {t : TA} {pos : Pos}
theorem qXO : PA X [] qZa := fun _ _ _ _ H Q I h => Calls.spliced_nil ⟨[], H, I, .nil, h⟩
noncomputable def qZd (t : TA) : TE := fun σ H Q => t σ H fun xs H1 => xs.length ≤ sizeLine ∧ ∀ p, H1 p = none → Q (.ref p) (upd H1 p (.tup xs))
noncomputable def qZZ (t : TA) : TE := fun σ H Q => t σ H fun xs H1 => xs.length ≤ sizeLine ∧ ∀ p, H1 p = none → Q (.ref p) (upd H1 p (.lst xs))
theorem qXT {x1} (h : PA X es t) : PE X (.Tuple es x1 pos) (qZd t) := by
 intro pins s σ H Q I hq
 refine wpAny_Tuple_spliced (thn (h pos pins s σ H _ I hq) fun us s1 ⟨xs, H1, I1, r, z, q⟩ => ⟨by rw [← r.length]; exact z, ?_⟩)
 have hf : H1 s1.heap.objs.size = none := I1.hok.fresh (Nat.le_refl _)
 refine ⟨.ref s1.heap.objs.size, upd H1 s1.heap.objs.size (.tup xs), I1.laid (t' := s1.toks) (fun b u e => Heap.get?_push_of_some _ e) (Nat.le_refl _) ?_, rfl, q _ hf⟩
 exact ⟨z, us, r, ⟨_, Heap.get?_push_size _ rfl, rfl, _, rfl⟩⟩
theorem qR7 (h : PA X es t) : PE X (.List es pos) (qZZ t) := by
 intro pins s σ H Q I hq
 refine wpAny_List_spliced (thn (h pos pins s σ H _ I hq) fun us s1 ⟨xs, H1, I1, r, z, q⟩ => ⟨by rw [← r.length]; exact z, ?_⟩)
 have hf : H1 s1.heap.objs.size = none := I1.hok.fresh (Nat.le_refl _)
 refine ⟨.ref s1.heap.objs.size, upd H1 s1.heap.objs.size (.lst xs), I1.laid (t' := s1.toks) (fun b u e => Heap.get?_push_of_some _ e) (Nat.le_refl _) ?_, rfl, q _ hf⟩
 exact ⟨z, us, 0, r, Heap.get?_push_size _ rfl⟩
end
abbrev Sp := List V → Hp → VK → XK → Prop
abbrev CXT := List Env → Hp → Shared → XK → Value → Shared → Prop
structure Env0 (P : Program) (w : World) (K : PySem.W.Frag) (mg : Str → Option Value) (base : Heap) (A : Around) (outer : List Env) (s : Shared) (H : Hp) : Prop where
 frames : A.frames = some outer
 mod : Mod K mg base
 bs : ∀ b o, base.get? b = some o → s.heap.get? b = some o ∧ H b = none
 bsz : base.objs.size ≤ s.heap.objs.size
 funs : s.heap.FunFrames base outer
 frf : ∀ b ∈ frs outer, H b = none
 hok : HOk P w H s.heap
 bare : AllBare s.gens
noncomputable def CE (outer : List Env) (P : Program) (w : World) (H : Hp) (s : Shared) (Q : VK) (u : Value) (s' : Shared) : Prop :=
 ∃ v H', s'.os = s.os ∧ AllBare s'.gens ∧ Un (frs outer) [] H H' s.heap s'.heap ∧ HOk P w H' s'.heap ∧ qAR v u ∧ Q v H'
noncomputable def CR (CX : CXT) (outer : List Env) (P : Program) (w : World) (H : Hp) (s : Shared) (Q : VK) (E : XK) (r : Result) (s' : Shared) : Prop :=
 match r with
 | .ok (.ret u) => CE outer P w H s Q u s'
 | .ok _ => False
 | .error e => CX outer H s E e s'
structure FnOk (P : Program) (w : World) (K : PySem.W.Frag) (mg : Str → Option Value) (base : Heap) (CX : CXT) (k : Nat) (f : Addr) (fd : FuncData) (ps : List Str) (sp : Sp) : Prop where
 len : ∀ vs H Q E, sp vs H Q E → vs.length = ps.length
 run : ∀ (A : Around) (outer : List Env) (s : Shared) (H : Hp) (args : Args) (us : List Value) (vs : List V) (Q : VK) (E : XK), Room k A → Env0 P w K mg base A outer s H → BindsTo s fd args (ps.zip us) → qAZ vs us → sp vs H Q E →
  codeAny (model P w) A (.call (.ref f) args) (CR CX outer P w H s Q E) s
section
variable {X : Cx} {pins : List (Addr × Obj)} {σ : St} {H : Hp} {s s' : Shared}
theorem Inv.env0 (I : Inv X pins σ H s) : Env0 X.prog X.w X.K X.mg X.base X.A X.stack s H :=
 ⟨I.ok.frames, I.ok.mod, I.bs, Nat.le_trans I.ok.bsz I.sz, I.stack, I.stkFree, I.hok, I.bare⟩
theorem Inv.after {Q : VK} {u : Value} (I : Inv X pins σ H s) (h : CE X.stack X.prog X.w H s Q u s') : EP X pins σ Q u s' := by
 obtain ⟨v, H', os, bare, un, hok, r, q⟩ := h
 obtain ⟨hh, g, d, t, os'⟩ := s'
 obtain rfl : os' = s.os := os
 exact ⟨v, H', I.call (h' := hh) (g' := g) (d' := d) (t' := t) (ch := []) un hok bare (fun b z => absurd z (by simp)), r, q⟩
end
noncomputable def qFO (K : PySem.W.Frag) (fd : FuncData) (ps : List Str) (ds : List Value) : Prop :=
 ∀ (s : Shared) (us : List Value), K.In s.heap → (us ++ ds).length = ps.length → BindsTo s fd ⟨us, []⟩ (ps.zip (us ++ ds))
theorem qFO.all {K : PySem.W.Frag} {fd : FuncData} {ps : List Str} (h : ∀ us : List Value, us.length = ps.length → bindArgs fd ⟨us, []⟩ = pure (ps.zip us)) : qFO K fd ps [] := fun s us _ hl => by
 rw [List.append_nil] at hl ⊢
 exact .of_eq (h us hl)
structure FnScope (N P : List Str) (sc : Scope) : Prop where
 kind : sc.kind = .function
 co : sc.isCoroutine = false
 gen : sc.isGenerator = false
 nd : N.Nodup
 pre : N.take P.length = P
 par : ∀ x ∈ P, sc.names.lookup x = some .local ∨ sc.names.lookup x = some .cell
 nofree : ∀ y ∈ sc.names, y.2 ≠ .free
theorem qNL {kindOf : Str → Option NameKind} {x : Str} : ∀ {binds : List (Str × Value)} {m : Str → Option Value}, (∀ v, (x, v) ∉ binds) → bindL kindOf binds m x = m x
 | [], _, _ => rfl
 | (n, v) :: r, m, h => by
  unfold bindL
  rw [qNL fun w hw => h w (List.mem_cons_of_mem _ hw)]
  split
  ·have : x ≠ n := by rintro rfl; exact h v List.mem_cons_self
   simp [this]
  ·rfl
theorem qNJ {kindOf : Str → Option NameKind} {x : Str} : ∀ {binds : List (Str × Value)} {m : Str → Option Value}, (∀ v, (x, v) ∉ binds) → bindC kindOf binds m x = m x
 | [], _, _ => rfl
 | (n, v) :: r, m, h => by
  unfold bindC
  rw [qNJ fun w hw => h w (List.mem_cons_of_mem _ hw)]
  split
  ·rfl
  ·have : x ≠ n := by rintro rfl; exact h v List.mem_cons_self
   simp [this]
theorem qNK {kindOf : Str → Option NameKind} {x : Str} {v : Value} : ∀ {P : List Str} {vs : List Value} {i : Nat} {m : Str → Option Value}, P.Nodup → P[i]? = some x → vs[i]? = some v → kindOf x = some .local →
  bindL kindOf (P.zip vs) m x = some v
 | [], _, _, _, _, h, _, _ => by simp at h
 | _ :: _, [], _, _, _, _, h, _ => by simp at h
 | p :: P, w :: vs, 0, m, nd, h1, h2, hk => by
  simp at h1 h2; subst h1; subst h2
  show bindL kindOf ((p, w) :: P.zip vs) m p = _
  unfold bindL
  rw [qNL fun v hv => (List.nodup_cons.mp nd).1 (List.of_mem_zip hv).1, if_pos hk]
  simp
 | p :: P, w :: vs, i + 1, m, nd, h1, h2, hk => by
  show bindL kindOf ((p, w) :: P.zip vs) m x = _
  unfold bindL
  exact qNK (i := i) (List.nodup_cons.mp nd).2 (by simpa using h1) (by simpa using h2) hk
theorem qNI {kindOf : Str → Option NameKind} {x : Str} {v : Value} : ∀ {P : List Str} {vs : List Value} {i : Nat} {m : Str → Option Value}, P.Nodup → P[i]? = some x → vs[i]? = some v → kindOf x ≠ some .local →
  bindC kindOf (P.zip vs) m x = some v
 | [], _, _, _, _, h, _, _ => by simp at h
 | _ :: _, [], _, _, _, _, h, _ => by simp at h
 | p :: P, w :: vs, 0, m, nd, h1, h2, hk => by
  simp at h1 h2; subst h1; subst h2
  show bindC kindOf ((p, w) :: P.zip vs) m p = _
  unfold bindC
  rw [qNJ fun v hv => (List.nodup_cons.mp nd).1 (List.of_mem_zip hv).1, if_neg hk]
  simp
 | p :: P, w :: vs, i + 1, m, nd, h1, h2, hk => by
  show bindC kindOf ((p, w) :: P.zip vs) m x = _
  unfold bindC
  exact qNI (i := i) (List.nodup_cons.mp nd).2 (by simpa using h1) (by simpa using h2) hk
noncomputable def qEi (N : List Str) (vs : List V) : St := vs.map some ++ List.replicate (N.length - vs.length) none
noncomputable def qV5 (CX : CXT) (P : Program) (w : World) (K : PySem.W.Frag) (mg : Str → Option Value) (base : Heap) (N : List Str) (qual : Str) (scope : Scope) (f : Addr) (cd : Value) (A : Around) (outer : List Env) (s : Shared) (H : Hp) (E : XK) : Cx where
 prog := P
 w := w
 K := K
 mg := mg
 base := base
 A := A.deeper (envOfC qual scope s.heap.objs.size f cd)
 N := N
 s₀ := s
 H₀ := H
 env := envOfC qual scope s.heap.objs.size f cd
 outer := outer
 stack := envOfC qual scope s.heap.objs.size f cd :: outer
 ex := []
 calm := true
 fn := fun _ => true
 pn := []
 xe := fun e s' => wpAny (model P w) (A.deeper (envOfC qual scope s.heap.objs.size f cd)) (leaving (envOfC qual scope s.heap.objs.size f cd) e) (fun _ s'' => CX outer H s E e s'') (fun e' s'' => CX outer H s E e' s'') s'
theorem qOG {sc : Scope} {n : Nat} {x : Str} (h : sc.names.lookup x = some .cell) : ∃ c, (cellsFrom n sc.names []).lookup x = some c := by
 have q := PySem.W.cellsFrom_some sc.names n [] (.inl h)
 exact Option.isSome_iff_exists.mp q
theorem qRn {CX : CXT} {P : Program} {w : World} {K : PySem.W.Frag} {mg : Str → Option Value} {base : Heap} {N ps : List Str} {qual : Str} {scope : Scope} {f : Addr} {cd : Value} {A : Around} {outer : List Env} {s s1 : Shared} {H : Hp} {E : XK} {us : List Value} {vs : List V}
  (S : FnScope N ps scope) (hd : A.handled = none) (e0 : Env0 P w K mg base A outer s H) (hl : vs.length = ps.length) (r : qAZ vs us)
  (x : InCallC s s.heap.objs.size (bindL (envOfC qual scope s.heap.objs.size f cd).kindOf (ps.zip us) fun _ => none) (cellsFrom (s.heap.objs.size + 1) scope.names []) (bindC (envOfC qual scope s.heap.objs.size f cd).kindOf (ps.zip us) fun _ => none) s1) :
  Inv (qV5 CX P w K mg base N qual scope f cd A outer s H E) [] (qEi N vs) H s1 := by
 have hpl : ps.length ≤ N.length := by have := congrArg List.length S.pre; rw [List.length_take] at this; omega
 obtain ⟨h1, tk, rfl, hk⟩ := x.done
 have noA : ∀ b : Addr, b ∉ (qV5 CX P w K mg base N qual scope f cd A outer s H E).ex := fun b z => absurd (show b ∈ ([] : List Addr) from z) (by simp)
 refine ⟨⟨e0.mod, S.kind, rfl, rfl, Nat.le_refl _, fun y z c h1 h2 => ?_, fun y hy => ?_, fun y c _ h => ?_, fun _ => hd, Around.frames_deeper e0.frames, .inr ⟨rfl, rfl⟩, fun b z => absurd z (noA b), e0.bs, e0.bsz, fun b _ _ => noA b, fun b z => absurd z (noA b), e0.funs, e0.frf⟩,
  rfl, e0.bare, Un.kept hk, ⟨_, x.toInCall.ns, fun i y v h1 h2 h3 => ?_⟩, fun y c h => ⟨_, x.cell y c h⟩, e0.hok.fresh (Nat.le_refl _), fun y c h => ?_, fun p hp => absurd (show p ∈ ([] : List (Addr × Obj)) from hp) (by simp), e0.hok.kept hk, ?_⟩
 ·exact name_of_addr x.apart (PySem.mem_of_lookup h1) (PySem.mem_of_lookup h2)
 ·have hy : scope.names.lookup y = some .cell ∨ scope.names.lookup y = some .free := hy
  rcases hy with hy | hy
  ·exact qOG hy
  ·exact absurd rfl (S.nofree _ (PySem.mem_of_lookup hy))
 ·exact Nat.le_of_lt (x.above y c (PySem.mem_of_lookup h))
 ·have hi : i < vs.length := by
   unfold qEi at h2
   by_cases hi : i < vs.length
   ·exact hi
   ·rw [List.getElem?_append_right (by simpa using hi)] at h2
    rw [List.getElem?_replicate] at h2
    split at h2 <;> cases h2
  have ha : vs[i]? = some v := by
   unfold qEi at h2
   rw [List.getElem?_append_left (by simpa using hi), List.getElem?_map] at h2
   cases e : vs[i]? with
   | none => rw [e] at h2; cases h2
   | some a => rw [e] at h2; cases h2; rfl
  obtain ⟨u, hu, rv⟩ := r.get ha
  have hp : ps[i]? = some y := by
   rw [← S.pre, List.getElem?_take_of_lt (by omega)]; exact h1
  have ndP : ps.Nodup := by rw [← S.pre]; exact S.nd.sublist (List.take_sublist _ _)
  refine ⟨u, rv, ?_⟩
  rcases S.par y (List.mem_of_getElem? hp) with k | k
  ·exact .inl ⟨k, qNK ndP hp hu k⟩
  ·obtain ⟨c, e⟩ := qOG (n := s.heap.objs.size + 1) k
   refine .inr ⟨.inl k, c, e, ?_⟩
   have q := x.cell y c e
   rw [qNI ndP hp hu (by show scope.names.lookup y ≠ _; rw [k]; decide)] at q
   exact q
 ·exact e0.hok.fresh (Nat.le_of_lt (x.above y c (PySem.mem_of_lookup h)))
 ·unfold qEi
  show _ = N.length
  rw [List.length_append, List.length_map, List.length_replicate]
  omega
end L2
namespace HT
open PySem PyProof.Rows
section
variable {prog : Program} {w : World} {A : Around} {E : Value → Shared → Prop} {s : Shared}
theorem cat_tup {t b : Addr} {vs ws : List Value} {Q : Value → Shared → Prop} (ht : IsTup s.heap t vs.toArray) (hb : IsTup s.heap b ws.toArray) (hv : vs ≠ [])
  (h1 : ws = [] → Q (.ref t) s) (h2 : ws ≠ [] → Q (.ref s.heap.objs.size) { s with heap := s.heap.push { cls := .type "tuple", data := .seq (vs ++ ws).toArray } })
  (hsz : vs.length + ws.length ≤ sizeLine) : wpAny (model prog w) A (binaryOp .Add (.ref t) (.ref b)) Q E s := by
 obtain ⟨⟨cls, dd, data, sl⟩, ho, hc, n, hd⟩ := id ht
 obtain ⟨⟨cls2, dd2, data2, sl2⟩, ho2, hc2, n2, hd2⟩ := id hb
 simp only at hc hd hc2 hd2
 subst hc hd hc2 hd2
 have e : vs.toArray ++ ws.toArray = (vs ++ ws).toArray := by simp
 by_cases hw : ws = []
 ·exact concat_meets ⟨_, ho, rfl⟩ ⟨_, ho2, rfl⟩ noFill_tuple_add seq_tuple_add PySem.F.slot_tuple_add PySem.F.entry_tuple_add (PySem.F.args_tuple_add_2 _ _)
   (tuple_addW1 t b vs.toArray ws.toArray n n2 dd dd2 sl sl2 (by simpa using hv) (by simp [hw])) ⟨ho, ho2, h1 hw⟩
 ·refine concat_meets ⟨_, ho, rfl⟩ ⟨_, ho2, rfl⟩ noFill_tuple_add seq_tuple_add PySem.F.slot_tuple_add PySem.F.entry_tuple_add (PySem.F.args_tuple_add_2 _ _)
   (tuple_addW2 t b vs.toArray ws.toArray n n2 dd dd2 sl sl2 (by simpa using hv) (by simpa using hw) (by rw [List.size_toArray, List.size_toArray]; exact hsz)) ⟨ho, ho2, ?_⟩
  rw [e]
  exact h2 hw
noncomputable def sIx (n d : Nat) : Option Int → Nat
 | none => d
 | some v => if v < 0 then (v + (n : Int)).toNat else min v.toNat n
theorem qXp (n d : Nat) (hd : d ≤ n) (o : Option Int) : sIx n d o ≤ n := by
 cases o with
 | none => exact hd
 | some v =>
  show (if v < 0 then (v + (n : Int)).toNat else min v.toNat n) ≤ n
  by_cases hv : v < 0
  ·rw [if_pos hv]; omega
  ·rw [if_neg hv]; exact Nat.min_le_right _ _
theorem qP3 (v : Int) (n d : Nat) : (if v < 0 then max (v + (n : Int)) 0 else min v (n : Int)) = ((sIx n d (some v) : Nat) : Int) := by
 show (if v < 0 then max (v + (n : Int)) 0 else min v (n : Int)) = (((if v < 0 then (v + (n : Int)).toNat else min v.toNat n) : Nat) : Int)
 by_cases hv : v < 0
 ·simp only [if_pos hv]; omega
 ·simp only [if_neg hv]; omega
theorem qQk (lo hi : Option Int) (n : Nat) : Builtin.Slice.sliceAdjust lo hi 1 (n : Int) = (((sIx n 0 lo : Nat) : Int), ((sIx n n hi : Nat) : Int)) := by
 have h1 : ¬ ((1 : Int) < 0) := by omega
 unfold Builtin.Slice.sliceAdjust
 simp only [h1, if_false]
 refine Prod.ext ?_ ?_
 ·cases lo with
  | none => rfl
  | some v => exact qP3 v n 0
 ·cases hi with
  | none => rfl
  | some v => exact qP3 v n n
theorem qQ8 (i j : Nat) : Builtin.Slice.slicePlaces (i : Int) (j : Int) 1 = j - i := by
 unfold Builtin.Slice.slicePlaces
 have h1 : (1 : Int) > 0 := by omega
 simp only [h1, if_true, Int.ediv_one]
 split <;> omega
theorem qMF {v : Value} {o : Option Int} {Q : Option Int → Shared → Prop} (p : IsPart v o) (h : Q o s) : wpAny (model prog w) A (Builtin.Slice.slicePartIndex v) Q E s := by
 cases p with
 | none => exact slicePart_none h
 | int i t => exact slicePart_int h
theorem qGw {sl : Addr} {vl vu : Value} {lo hi : Option Int} {n : Nat} {Q : Int × Int × Nat → Shared → Prop} (hs : s.heap.IsSliceOf sl vl vu .none) (pl : IsPart vl lo) (pu : IsPart vu hi)
  (h : Q (((sIx n 0 lo : Nat) : Int), 1, sIx n n hi - sIx n 0 lo) s) : wpAny (model prog w) A (Builtin.Slice.sliceApplied (.ref sl) (pure (n : Int))) Q E s := by
 obtain ⟨os, hos, hcs, hds⟩ := id hs
 unfold Builtin.Slice.sliceApplied Builtin.Slice.sliceFields
 refine wpAny_bind (wpAny_bind (wpAny_field hos hds (x := vl) rfl (wpAny_bind (wpAny_field hos hds (x := vu) rfl (wpAny_bind (wpAny_field hos hds (x := .none) rfl (wpAny_pure ?_)))))))
 refine wpAny_bind (slicePart_none ?_)
 show wpAny _ _ (if ((1 : Int) == 0) = true then _ else _) _ _ s
 rw [if_neg (by decide)]
 refine wpAny_bind (qMF pl (wpAny_bind (qMF pu (wpAny_bind (wpAny_pure ?_)))))
 show wpAny _ _ (match Builtin.Slice.sliceAdjust lo hi 1 (n : Int) with | (lo, hi) => pure (lo, (1 : Int), Builtin.Slice.slicePlaces lo hi 1)) _ _ s
 rw [qQk lo hi n]
 show wpAny _ _ (pure (((sIx n 0 lo : Nat) : Int), (1 : Int), Builtin.Slice.slicePlaces ((sIx n 0 lo : Nat) : Int) ((sIx n n hi : Nat) : Int) 1)) _ _ s
 rw [qQ8]
 exact wpAny_pure h
theorem qTR (xs : Array Value) (i k : Nat) : ((List.range k).filterMap fun (m : Nat) => xs[((i : Int) + (m : Int) * 1).toNat]?).toArray = ((xs.toList.drop i).take k).toArray := by
 have e : (fun (m : Nat) => xs[((i : Int) + (m : Int) * 1).toNat]?) = fun m => xs[i + m]? := by
  funext m
  have : ((i : Int) + (m : Int) * 1).toNat = i + m := by omega
  rw [this]
 rw [e]
 have := pick_run xs i k
 rw [List.filterMap_map] at this
 have e2 : ((fun x => xs[x]?) ∘ fun x => i + x) = fun m => xs[i + m]? := rfl
 rw [e2] at this
 rw [this]
theorem getItem_tuple_cut {t sl : Addr} {items : Array Value} {vl vu : Value} {lo hi : Option Int} {Q : Value → Shared → Prop} (ht : IsTup s.heap t items) (hs : s.heap.IsSliceOf sl vl vu .none) (pl : IsPart vl lo) (pu : IsPart vu hi)
  (hw : ¬ (sIx items.size 0 lo = 0 ∧ sIx items.size items.size hi = items.size))
  (h : Q (.ref s.heap.objs.size) { s with heap := s.heap.push { cls := .type "tuple", data := .seq ((items.toList.drop (sIx items.size 0 lo)).take (sIx items.size items.size hi - sIx items.size 0 lo)).toArray } })
  (hsz : items.size ≤ sizeLine) : wpAny (model prog w) A (getItem (.ref t) (.ref sl)) Q E s := by
 have htake : sizeOk (.seq ((items.toList.drop (sIx items.size 0 lo)).take (sIx items.size items.size hi - sIx items.size 0 lo)).toArray) := by
  show ((items.toList.drop (sIx items.size 0 lo)).take (sIx items.size items.size hi - sIx items.size 0 lo)).toArray.size ≤ sizeLine
  rw [List.size_toArray, List.length_take, List.length_drop, Array.length_toList]
  omega
 have hj : sIx items.size items.size hi ≤ items.size := qXp _ _ (Nat.le_refl _) hi
 obtain ⟨os, hos, hcs, hds⟩ := id hs
 have hTs : s.TypeIs (.ref sl) "slice" := ⟨os, hos, hcs⟩
 unfold getItem
 try with_reducible refine wpAny_holding ?_
 first | refine wpAny_bind (wpAny_pure ?_) | skip
 refine wpAny_bind (wpAny_sequenceKey ht.typeIs (by decide) ?_)
 refine wpAny_bind (wpAny_callSpecial?_slot (name := Str.ofString "__getitem__") ht.typeIs PyProof.Rows.slot_tuple_getitem
  (wpAny_call_entry PyProof.Rows.slot_tuple_getitem ht.typeIs entry_tuple_getitem ?_ (args_tuple_getitem _ _)))
 show wpAny _ _ (Builtin.Tuple.tupleItemsOf (.ref t) >>= _) _ _ s
 refine wpAny_bind (tupleItemsOf_ ht ?_)
 refine wpAny_bind (wpAny_typeOf hTs ?_)
 rw [if_pos (by decide)]
 refine wpAny_bind (qGw hs pl pu ?_)
 have hno : ¬ ((((sIx items.size 0 lo : Nat) : Int) == 0 && (1 : Int) == 1 && (sIx items.size items.size hi - sIx items.size 0 lo) == items.size) = true) := by
  intro q
  rw [Bool.and_eq_true, Bool.and_eq_true] at q
  have q1 : ((sIx items.size 0 lo : Nat) : Int) = 0 := eq_of_beq q.1.1
  have q2 : sIx items.size items.size hi - sIx items.size 0 lo = items.size := eq_of_beq q.2
  exact hw ⟨by omega, by omega⟩
 show wpAny _ _ (if (((sIx items.size 0 lo : Nat) : Int) == 0 && (1 : Int) == 1 && (sIx items.size items.size hi - sIx items.size 0 lo) == items.size) = true then _ else _) _ _ s
 rw [if_neg hno, qTR]
 first
  | exact wpAny_bind (m := Builtin.Tuple.tupleExact _) (wpAny_newObj_type (wpAny_pure ⟨_, rfl, wpAny_pure h⟩) htake)
  | exact wpAny_bind (m := Builtin.Tuple.tupleExact _) (wpAny_newObj_type (wpAny_bind (wpAny_pure (wpAny_pure ⟨_, rfl, wpAny_pure h⟩))) htake)
  | exact wpAny_bind (wpAny_bind (m := Builtin.Tuple.tupleExact _) (wpAny_newObj_type (wpAny_pure (wpAny_pure ⟨_, rfl, wpAny_pure h⟩)) htake))
  | exact wpAny_bind (wpAny_bind (m := Builtin.Tuple.tupleExact _) (wpAny_newObj_type (wpAny_pure ⟨_, rfl, wpAny_pure h⟩) htake))
end
end HT
namespace L2
open PySem PySem.Spec PyProof.Rows
abbrev TO := St → Hp → (Option Int → Hp → Prop) → Prop
noncomputable def PO (X : Cx) (e : Option Expr) (t : TO) : Prop :=
 ∀ (pins : List (Addr × Obj)) (s : Shared) (σ : St) (H : Hp) (Q : Option Int → Hp → Prop), Inv X pins σ H s → t σ H Q →
  wpAny (model X.prog X.w) X.A (evalPart e X.env) (fun u s' => ∃ o H', Inv X pins σ H' s' ∧ IsPart u o ∧ Q o H') X.xe s
noncomputable def qYx (t : TE) : TO := fun σ H Q => t σ H fun x H1 => ∃ i, x = .int i ∧ Q (some i) H1
section
variable {X : Cx} {e : Expr} {te : TE} {lo hi : Option Expr} {tl th : TO} {pos p2 : Pos}
theorem qVT (h : PE X e te) : PO X (some e) (qYx te) := by
 intro pins s σ H Q I hw
 rw [evalPart_some]
 refine thn (h pins s σ H _ I hw) fun u s1 ⟨x, H1, I1, r1, q1⟩ => ?_
 obtain ⟨i, rfl, q⟩ := q1
 obtain ⟨t, rfl⟩ := r1
 exact ⟨some i, H1, I1, .int i t, q⟩
noncomputable def SlR (X : Cx) (r : V → Option Int → Option Int → Hp → VK → Prop) : Prop :=
 ∀ (pins : List (Addr × Obj)) (s : Shared) (σ : St) (H : Hp) (x : V) (v vl vu : Value) (lo hi : Option Int) (sl : Addr) (Q : VK), Inv X pins σ H s → qAR x v → s.heap.IsSliceOf sl vl vu .none → IsPart vl lo → IsPart vu hi → r x lo hi H Q →
  ∃ T id, typeLookup (.type T) "__getitem__" = pure (some (.builtin id)) ∧ s.TypeIs v T ∧ wpAny (model X.prog X.w) X.A (getItem v (.ref sl)) (EP X pins σ Q) X.xe s
noncomputable def tSl (r : V → Option Int → Option Int → Hp → VK → Prop) (te : TE) (tl th : TO) : TE := fun σ H Q => te σ H fun x H1 => tl σ H1 fun l H2 => th σ H2 fun u H3 => r x l u H3 Q
theorem qTP {r : V → Option Int → Option Int → Hp → VK → Prop} (hr : SlR X r) (he : PE X e te) (hl : PO X lo tl) (hu : PO X hi th) : PE X (.Subscript e (.Slice lo hi none p2) pos) (tSl r te tl th) := by
 intro pins s σ H Q I h
 refine Subscript_ (thn (he pins s σ H _ I h) fun v s1 ⟨x, H1, I1, r1, q1⟩ => ?_)
 refine wpAny_Slice (thn (hl pins s1 σ H1 _ I1 q1) fun vl s2 ⟨l, H2, I2, pl, q2⟩ => thn (hu pins s2 σ H2 _ I2 q2) fun vu s3 ⟨u, H3, I3, pu, q3⟩ => ?_)
 rw [evalPart_none]
 refine wpAny_pure ?_
 have I4 : Inv X pins σ H3 { s3 with heap := s3.heap.push { cls := .type "slice", data := .fields #[vl, vu, .none] } } := I3.kept (t' := s3.toks) fun b ob q => Heap.get?_push_of_some _ q
 obtain ⟨T, id, hT, ht, hg⟩ := hr pins { s3 with heap := s3.heap.push { cls := .type "slice", data := .fields #[vl, vu, .none] } } σ H3 x v vl vu l u s3.heap.objs.size Q I4 r1 (Heap.IsSliceOf.new ..) pl pu q3
 show wpAny (model X.prog X.w) X.A (subscriptTail e (.Slice lo hi none p2) v (.ref s3.heap.objs.size)) (EP X pins σ Q) X.xe { s3 with heap := s3.heap.push { cls := .type "slice", data := .fields #[vl, vu, .none] } }
 exact tail_any (ops := [.ref s3.heap.objs.size, v]) ht hT hg (by with_unfolding_all rfl)
noncomputable def qJU (xs : List V) (lo hi : Option Int) : List V := (xs.drop (HT.sIx xs.length 0 lo)).take (HT.sIx xs.length xs.length hi - HT.sIx xs.length 0 lo)
theorem qKb (xs : List V) (lo hi : Option Int) : (qJU xs lo hi).length ≤ xs.length := by
 unfold qJU
 rw [List.length_take, List.length_drop]
 omega
noncomputable def qZT (K : PySem.W.Frag) : V → Option Int → Option Int → Hp → VK → Prop := fun x lo hi H Q => ∃ a xs, x = .ref a ∧ SqT K H a xs ∧
 ¬ (HT.sIx xs.length 0 lo = 0 ∧ HT.sIx xs.length xs.length hi = xs.length) ∧ ∀ p, H p = none → Q (.ref p) (upd H p (.tup (qJU xs lo hi)))
theorem qXr : SlR X (qZT X.K) := by
 intro pins s σ H x v vl vu lo hi sl Q I rx hs pl pu h
 obtain ⟨a, xs, rfl, hx, hw, q⟩ := h
 cases rx
 obtain ⟨its, r, ht, hz⟩ := I.tuple hx
 have hlen : its.toArray.size = xs.length := by rw [List.size_toArray]; exact r.length.symm
 refine ⟨"tuple", _, PyProof.Rows.slot_tuple_getitem.lookup, ht.typeIs, ?_⟩
 refine HT.getItem_tuple_cut ht hs pl pu (by rw [hlen]; exact hw) ?_ (by rw [hlen]; exact hz)
 rw [hlen]
 refine ⟨.ref s.heap.objs.size, _, I.laid (t' := s.toks) (o := .tup (qJU xs lo hi)) (fun b ob q => Heap.get?_push_of_some _ q) (Nat.le_refl _) ?_, rfl, q _ (I.hok.fresh (Nat.le_refl _))⟩
 exact ⟨Nat.le_trans (qKb xs lo hi) hz, _, (r.drop (HT.sIx xs.length 0 lo)).take (HT.sIx xs.length xs.length hi - HT.sIx xs.length 0 lo), IsTup.new _ _⟩
end
end L2
namespace L2
open PySem PySem.Spec PyProof.Rows
noncomputable def ixN (n : Nat) (i : Int) : Option Nat := if 0 ≤ i then (if i < n then some i.toNat else none) else if -(n : Int) ≤ i then some (i + n).toNat else none
noncomputable def atI {α : Type} (xs : List α) (i : Int) : Option α := (ixN xs.length i).bind fun j => xs[j]?
theorem qQF {n : Nat} {i : Int} {j : Nat} (h : ixN n i = some j) : seqIndex? i n = some j ∧ j < n ∧ -(n : Int) ≤ i ∧ i < n := by
 unfold ixN at h
 by_cases h0 : 0 ≤ i
 ·rw [if_pos h0] at h
  by_cases h1 : i < n
  ·rw [if_pos h1] at h
   have e : i.toNat = j := Option.some.inj h
   exact ⟨by rw [seqIndex_of h0 h1, e], by omega, by omega, h1⟩
  ·rw [if_neg h1] at h; cases h
 ·rw [if_neg h0] at h
  by_cases h1 : -(n : Int) ≤ i
  ·rw [if_pos h1] at h
   have e : (i + n).toNat = j := Option.some.inj h
   exact ⟨by rw [seqIndex_neg (by omega) h1, e], by omega, h1, by omega⟩
  ·rw [if_neg h1] at h; cases h
theorem qP0 {α : Type} {xs : List α} {i : Int} {v : α} (h : atI xs i = some v) : ∃ j, seqIndex? i xs.length = some j ∧ xs[j]? = some v ∧ j < xs.length ∧ -(xs.length : Int) ≤ i ∧ i < xs.length := by
 unfold atI at h
 cases e : ixN xs.length i with
 | none => rw [e] at h; cases h
 | some j =>
  rw [e] at h
  obtain ⟨h1, h2, h3, h4⟩ := qQF e
  exact ⟨j, h1, h, h2, h3, h4⟩
noncomputable def qHc (b : Expr) : Prop := ∀ o i, subscripted b false o i = operate [o, i] (getItem o i)
noncomputable def IxR (X : Cx) (r : R2) : Prop :=
 ∀ (value slice : Expr) (pins : List (Addr × Obj)) (s : Shared) (σ : St) (H : Hp) (x y : V) (v u : Value) (Q : VK), Inv X pins σ H s → qAR x v → qAR y u → r x y H Q →
  subscripted slice false v u = operate [v, u] (getItem v u) → wpAny (model X.prog X.w) X.A (subscriptTail value slice v u) (EP X pins σ Q) X.xe s
noncomputable def MtR (X : Cx) (id : String) (r : V → List V → Hp → VK → Prop) : Prop :=
 ∀ (pins : List (Addr × Obj)) (s : Shared) (σ : St) (H : Hp) (x : V) (xs : List V) (v : Value) (us : List Value) (Q : VK), Inv X pins σ H s → qAR x v → qAZ xs us → r x xs H Q →
  wpAny (model X.prog X.w) X.A (call (.builtin id) (v :: us)) (EP X pins σ Q) X.xe s
section
variable {X : Cx} {a b : Expr} {ta tb : TE} {pos : Pos}
theorem qYf {r : R2} (hr : IxR X r) (ha : PE X a ta) (hb : PE X b tb) (hs : qHc b) : PE X (.Subscript a b pos) (tOp r ta tb) := by
 intro pins s σ H Q I h
 exact Subscript_ (qZB ha hb I h fun v u s2 x y H2 I2 rx ry q => hr a b pins s2 σ H2 x y v u Q I2 rx ry q (hs _ _))
noncomputable def qZP (K : PySem.W.Frag) : R2 := fun x y H Q => ∃ p xs i v, x = .ref p ∧ y = .int i ∧ SqL K H p xs ∧ atI xs i = some v ∧ Q v H
noncomputable def qZQ (K : PySem.W.Frag) : R2 := fun x y H Q => ∃ p xs i v, x = .ref p ∧ y = .int i ∧ SqT K H p xs ∧ atI xs i = some v ∧ Q v H
theorem qQG : IxR X (qZP X.K) := by
 intro value slice pins s σ H x y v u Q I rx ry h hs
 obtain ⟨p, xs, i, z, rfl, rfl, hq, he, q⟩ := h
 cases rx
 obtain ⟨t, rfl⟩ := ry
 obtain ⟨its, r, pl, hz⟩ := I.list hq
 obtain ⟨j, h1, h2, h3, h4, h5⟩ := qP0 he
 obtain ⟨w, ew, rw'⟩ := r.get h2
 have hl := r.length
 have hn := qJg
 have fin : EP X pins σ Q w s := ⟨z, H, I, rw', q⟩
 by_cases h0 : 0 ≤ i
 ·have hj : i.toNat = j := by
   rw [seqIndex_of h0 h5] at h1
   exact Option.some.inj h1
  exact item_listR pl.isList h0 (by omega) (by rw [hj]; simpa using ew) fin hs
 ·have hj : (i + (its.toArray.size : Int)).toNat = j := by
   rw [seqIndex_neg (by omega) h4] at h1
   rw [List.size_toArray, ← hl]
   exact Option.some.inj h1
  exact subscriptTail_builtinR (x := w) pl.isList.typeIs slot_list_getitem.lookup
   (wpAny_getItem_list_neg (Q := fun r s' => r = w ∧ EP X pins σ Q r s') pl.isList (by omega) (by rw [List.size_toArray] <;> omega) (by omega) (by rw [hj]; simpa using ew) ⟨rfl, fin⟩) hs
theorem qWs : IxR X (qZQ X.K) := by
 intro value slice pins s σ H x y v u Q I rx ry h hs
 obtain ⟨p, xs, i, z, rfl, rfl, hq, he, q⟩ := h
 cases rx
 obtain ⟨t, rfl⟩ := ry
 obtain ⟨its, r, pl, hz⟩ := I.tuple hq
 obtain ⟨j, h1, h2, h3, h4, h5⟩ := qP0 he
 obtain ⟨w, ew, rw'⟩ := r.get h2
 have hl := r.length
 have hn := qJg
 have fin : EP X pins σ Q w s := ⟨z, H, I, rw', q⟩
 exact subscriptTail_builtinR (x := w) pl.typeIs slot_tuple_getitem.lookup
  (getItem_tuple (j := j) (Q := fun r s' => r = w ∧ EP X pins σ Q r s') pl (by omega) (by omega) (by rw [List.size_toArray, ← hl]; exact h1) (by simpa using ew) ⟨rfl, fin⟩) hs
theorem qQ3 (its : List Value) (n j : Nat) (u : Value) : Obj.mapSeq (·.setIfInBounds j u) { cls := .type "list", data := .seq its.toArray n } = { cls := .type "list", data := .seq (its.set j u).toArray n } := by
 simp [Obj.mapSeq]
theorem Inv.lst {pins : List (Addr × Obj)} {σ : St} {H : Hp} {s : Shared} {p : Addr} {xs : List V} (I : Inv X pins σ H s) (h : H p = some (.lst xs)) :
  ∃ (its : List Value) (n : Nat), qAZ xs its ∧ s.heap.get? p = some { cls := .type "list", data := .seq its.toArray n } ∧ xs.length ≤ sizeLine := by
 obtain ⟨z, its, n, r, e⟩ := I.hok p _ h
 exact ⟨its, n, r, e, z⟩
theorem Inv.lstUpd {pins : List (Addr × Obj)} {σ : St} {H : Hp} {s : Shared} {p : Addr} {xs ys : List V} {its its' : List Value} {n n' : Nat} {f : Obj → Obj} (I : Inv X pins σ H s) (h : H p = some (.lst xs))
  (ho : s.heap.get? p = some { cls := .type "list", data := .seq its.toArray n }) (hf : f { cls := .type "list", data := .seq its.toArray n } = { cls := .type "list", data := .seq its'.toArray n' }) (r : qAZ ys its') (hz : ys.length ≤ sizeLine) (t : Nat) :
  Inv X pins σ (upd H p (.lst ys)) { s with heap := s.heap.update p f, toks := t } := by
 have e : (s.heap.update p f).get? p = some { cls := .type "list", data := .seq its'.toArray n' } := by
  rw [Heap.get?_update_self f ho (by rw [hf] <;> rfl), hf]
 refine I.write (x := p) (e := p) (by rw [h]; trivial) (.inl rfl) (fun b u hb q => (Heap.get?_update_other _ _ (Ne.symm hb)).trans q) ⟨_, e⟩ ?_
 exact ⟨hz, its', n', r, e⟩
noncomputable def qYm : V → V → V → Hp → (Hp → Prop) → Prop := fun o i v H Q => ∃ p xs k j, o = .ref p ∧ i = .int k ∧ H p = some (.lst xs) ∧ ixN xs.length k = some j ∧ Q (upd H p (.lst (xs.set j v)))
theorem qTa : qN2 X qYm := by
 intro pins s σ H o i v ov iv u Q I ro ri rv h
 obtain ⟨p, xs, k, j, rfl, rfl, hp, hj, q⟩ := h
 cases ro
 obtain ⟨t, rfl⟩ := ri
 obtain ⟨its, n, r, ho, hz⟩ := I.lst hp
 obtain ⟨h1, h2, h3, h4⟩ := qQF hj
 have hl := r.length
 have hn := qJg
 have I' : Inv X pins σ (upd H p (.lst (xs.set j v))) { s with heap := s.heap.update p (Obj.mapSeq (·.setIfInBounds j u)) } :=
  I.lstUpd hp ho (qQ3 its n j u) (r.set rv j) (by rw [List.length_set]; exact hz) s.toks
 by_cases h0 : 0 ≤ k
 ·have hk : k.toNat = j := by
   rw [seqIndex_of h0 h4] at h1
   exact Option.some.inj h1
  exact PySem.W.ki_setAt ho h0 (by omega) (by rw [List.size_toArray, ← hl]; exact h4) (by rw [hk]; exact ⟨_, I', q⟩)
 ·have hk : (k + (its.toArray.size : Int)).toNat = j := by
   rw [seqIndex_neg (by omega) h3] at h1
   rw [List.size_toArray, ← hl]
   exact Option.some.inj h1
  exact PySem.W.ki_setBack ho (by omega) (by rw [List.size_toArray, ← hl]; exact h3) (by omega) (by rw [hk]; exact ⟨_, I', q⟩)
theorem qPT (lo hi : Option Int) (n : Nat) : (sliceBounds lo hi none n).1 = ((HT.sIx n 0 lo : Nat) : Int) ∧ (sliceBounds lo hi none n).2.1 = ((HT.sIx n n hi : Nat) : Int) ∧ (sliceBounds lo hi none n).2.2 = 1 := by
 refine ⟨?_, ?_, rfl⟩
 ·cases lo with
  | none => simp [sliceBounds, HT.sIx]
  | some i =>
   simp only [sliceBounds, HT.sIx, Option.getD_none, show (1 : Int) > 0 by decide, if_true]
   by_cases h : i < 0
   ·simp only [h, if_true] <;> omega
   ·simp only [h, if_false] <;> omega
 ·cases hi with
  | none => simp [sliceBounds, HT.sIx]
  | some i =>
   simp only [sliceBounds, HT.sIx, Option.getD_none, show (1 : Int) > 0 by decide, if_true]
   by_cases h : i < 0
   ·simp only [h, if_true] <;> omega
   ·simp only [h, if_false] <;> omega
theorem qNq (its : List Value) (lo hi : Option Int) : slicePick its.toArray lo hi none = ((its.drop (HT.sIx its.length 0 lo)).take (HT.sIx its.length its.length hi - HT.sIx its.length 0 lo)).toArray := by
 obtain ⟨h1, h2, h3⟩ := qPT lo hi its.toArray.size
 unfold slicePick
 rw [h1, h2, h3]
 simp only [sliceRange_one, pick_run, List.size_toArray] <;> rfl
noncomputable def qZS (K : PySem.W.Frag) : V → Option Int → Option Int → Hp → VK → Prop := fun x lo hi H Q => ∃ a xs, x = .ref a ∧ SqL K H a xs ∧ ∀ p, H p = none → Q (.ref p) (upd H p (.lst (qJU xs lo hi)))
theorem qQd : SlR X (qZS X.K) := by
 intro pins s σ H x v vl vu lo hi sl Q I rx hs pl pu h
 obtain ⟨a, xs, rfl, hx, q⟩ := h
 cases rx
 obtain ⟨its, r, ht, hz⟩ := I.list hx
 have hlen := r.length
 refine ⟨"list", _, slot_list_getitem.lookup, ht.isList.typeIs, ?_⟩
 refine wpAny_getItem_list_slice ht.isList hs pl pu .none (by simp) ?_ (by rw [List.size_toArray] <;> omega)
 rw [qNq, ← hlen]
 refine ⟨.ref s.heap.objs.size, _, I.laid (t' := s.toks) (o := .lst (qJU xs lo hi)) (fun b ob q => Heap.get?_push_of_some _ q) (Nat.le_refl _) ?_, rfl, q _ (I.hok.fresh (Nat.le_refl _))⟩
 exact ⟨Nat.le_trans (qKb xs lo hi) hz, _, 0, (r.drop (HT.sIx xs.length 0 lo)).take (HT.sIx xs.length xs.length hi - HT.sIx xs.length 0 lo), Heap.get?_push_size _ rfl⟩
noncomputable def tyV (K : PySem.W.Frag) (T : String) (x : V) (H : Hp) : Prop := match x with
 | .str _ => T = "str"
 | .int _ => T = "int"
 | .ref p => (T = "list" ∧ ∃ xs, SqL K H p xs) ∨ (T = "tuple" ∧ ∃ o, K.lookup p = some o ∧ o.cls = .type "tuple" ∧ o.dict = none) ∨
   (T = "dict" ∧ ((∃ kvs, H p = some (.dK kvs)) ∨ ∃ kvs, H p = some (.dT kvs))) ∨ (T = "set" ∧ ∃ S n, H p = some (.set S n))
 | _ => False
theorem qSS {pins : List (Addr × Obj)} {σ : St} {H : Hp} {s : Shared} {T : String} {x : V} {v : Value} (I : Inv X pins σ H s) (r : qAR x v) (ty : tyV X.K T x H) :
  s.TypeIs v T ∧ ∀ a, v = .ref a → ∃ ob, s.heap.get? a = some ob ∧ ob.dict = none := by
 cases x with
 | str z =>
  obtain ⟨t, rfl⟩ := r
  cases (show T = "str" from ty)
  exact ⟨typeIs_str s z t, fun _ e => nomatch e⟩
 | int i =>
  obtain ⟨t, rfl⟩ := r
  cases (show T = "int" from ty)
  exact ⟨typeIs_int s i t, fun _ e => nomatch e⟩
 | ref p =>
  cases r
  rcases ty with ⟨rfl, xs, hq⟩ | ⟨rfl, o, hk, hc, hd⟩ | ⟨rfl, hk⟩ | ⟨rfl, S, n, hk⟩
  ·obtain ⟨its, _, pl, _⟩ := I.list hq
   refine ⟨pl.isList.typeIs, fun a e => ?_⟩
   cases e
   obtain ⟨o, n, e, c, hd, _⟩ := pl
   exact ⟨o, e, hd⟩
  ·refine ⟨⟨o, I.kIn p o hk, hc⟩, fun a e => ?_⟩
   cases e
   exact ⟨o, I.kIn _ o hk, hd⟩
  ·have z : ∃ o, s.heap.get? p = some o ∧ o.ExactDict := by
    rcases hk with ⟨kvs, hk⟩ | ⟨kvs, hk⟩
    ·obtain ⟨_, _, _, _, o, _, _, e, ex, _⟩ := I.hok p _ hk
     exact ⟨o, e, ex⟩
    ·obtain ⟨_, _, _, _, o, _, _, e, ex, _⟩ := I.hok p _ hk
     exact ⟨o, e, ex⟩
   obtain ⟨o, e, ex⟩ := z
   refine ⟨⟨o, e, ex.1⟩, fun a e2 => ?_⟩
   cases e2
   exact ⟨o, e, ex.2.1⟩
  ·obtain ⟨o, _, _, _, e, ex, _⟩ := I.hok p _ hk
   refine ⟨⟨o, e, ex.1⟩, fun a e2 => ?_⟩
   cases e2
   exact ⟨o, e, ex.2.1⟩
 | _ => exact False.elim ty
variable {o e : Expr} {es : List Expr} {to : TE} {t : TA} {name : Str} {apos cpos : Pos} {T id : String} {r : V → List V → Hp → VK → Prop}
/- xs.append(e), list.index on a module's tuple .. are MtR facts of 06m -/
end
end L2
namespace L2
open PySem PySem.Spec PyProof.Rows
noncomputable def MtM (X : Cx) (id : String) (r : V → List V → Hp → VK → Prop) : Prop :=
 ∀ (pins : List (Addr × Obj)) (s : Shared) (σ : St) (H : Hp) (x : V) (xs : List V) (v : Value) (us : List Value) (Q : VK), Inv X pins σ H s → qAR x v → qAZ xs us → r x xs H Q →
  wpAny (model X.prog X.w) X.A (call (.builtin id) (v :: us)) (EP X pins σ Q) X.xe s
theorem qAZ.one : ∀ {x : V} {us : List Value}, qAZ [x] us → ∃ u, us = [u] ∧ qAR x u
 | _, _, .cons r .nil => ⟨_, rfl, r⟩
theorem qAZ.rep {xs : List V} {us : List Value} (h : qAZ xs us) : ∀ k : Nat, qAZ (List.replicate k xs).flatten (List.replicate k us).flatten
 | 0 => .nil
 | k + 1 => by
  rw [List.replicate_succ, List.replicate_succ, List.flatten_cons, List.flatten_cons]
  exact qAZ.append h (qAZ.rep h k)
theorem qNU (its : List Value) : ∀ (k : Nat) (acc : List Value),
  List.foldl (fun x1 x2 => x1 ++ x2) acc.toArray (List.replicate k its.toArray) = (acc ++ (List.replicate k its).flatten).toArray
 | 0, acc => by simp
 | k + 1, acc => by
  have e : acc.toArray ++ its.toArray = (acc ++ its).toArray := by simp
  have e2 : (acc ++ its) ++ (List.replicate k its).flatten = acc ++ (List.replicate (k + 1) its).flatten := by
   rw [List.replicate_succ, List.flatten_cons, List.append_assoc]
  rw [← e2, ← qNU its k (acc ++ its), ← e, List.replicate_succ, List.foldl_cons]
section
variable {X : Cx} {pins : List (Addr × Obj)} {σ : St} {H : Hp} {s : Shared} {l b : Addr} {xs ys zs : List V}
theorem Inv.lset {its its' : List Value} {n : Nat} {f : Array Value → Array Value} {t' : Nat} (I : Inv X pins σ H s) (hH : H l = some (.lst xs))
  (e : s.heap.get? l = some { cls := .type "list", data := .seq its.toArray n }) (hf : f its.toArray = its'.toArray) (hv : qAZ ys its') (hz : ys.length ≤ sizeLine) :
  Inv X pins σ (upd H l (.lst ys)) { s with heap := s.heap.update l (Obj.mapSeq f), toks := t' } := by
 have q := PySem.IsL.update e f
 rw [hf] at q
 refine I.write (x := l) (e := l) (by rw [hH]; exact trivial) (.inl rfl) (fun b' u hb hu => (Heap.get?_update_other s.heap (Obj.mapSeq f) (Ne.symm hb)).trans hu) ⟨_, q⟩ ?_
 exact ⟨hz, its', _, hv, q⟩
theorem Inv.lstM (I : Inv X pins σ H s) (hH : H l = some (.lst xs)) : xs.length ≤ sizeLine ∧ ∃ (its : List Value) (n : Nat), qAZ xs its ∧ xs.length = its.length ∧ s.heap.get? l = some { cls := .type "list", data := .seq its.toArray n } := by
 obtain ⟨z, its, n, r, e⟩ := I.hok l _ hH
 exact ⟨z, its, n, r, r.length, e⟩
theorem qTL {n : Nat} (h : n ≤ sizeLine) : Builtin.List.listTooLong n = false := by
 unfold Builtin.List.listTooLong
 exact decide_eq_false (by omega)
end
section
variable {X : Cx}
noncomputable def qVc : V → List V → Hp → VK → Prop := fun x vs H Q => ∃ l xs y, x = .ref l ∧ vs = [y] ∧ H l = some (.lst xs) ∧ xs.length < sizeLine ∧ Q .non (upd H l (.lst (xs ++ [y])))
theorem qRz : MtM X "list.append" qVc := by
 intro pins s σ H x vs v us Q I rx rv h
 obtain ⟨l, xs, y, rfl, rfl, hH, hz, q⟩ := h
 cases rx
 obtain ⟨u, rfl, ru⟩ := rv.one
 obtain ⟨z, its, n, r, hl, e⟩ := I.lstM hH
 refine call_meets F.slot_list_append ⟨_, e, rfl⟩ F.entry_list_append (F.args_list_append_2 _ _) (PySem.list_append l its.toArray n u (by rw [List.size_toArray]; omega)) ⟨e, ?_⟩
 refine ⟨.non, _, I.lset (its' := its ++ [u]) hH e (by simp) (r.append (.cons ru .nil)) ?_, rfl, q⟩
 rw [List.length_append, List.length_singleton]
 omega
theorem qVB {α : Type} (xs : List α) (k : Nat) : (List.replicate k xs).flatten.length = k * xs.length := by
 induction k with
 | zero => simp
 | succ k ih => rw [List.replicate_succ, List.flatten_cons, List.length_append, ih, Nat.succ_mul, Nat.add_comm]
end
end L2
namespace L2
open PySem PySem.Spec PyProof.Rows
section
variable {κ : Type} [DecidableEq κ]
noncomputable def qDQ (kvs : List (κ × V)) (k : κ) : Option V := (kvs.find? fun kv => decide (kv.1 = k)).map (·.2)
noncomputable def qFG (kvs : List (κ × V)) (k : κ) (v : V) : List (κ × V) :=
 if (kvs.any fun kv => decide (kv.1 = k)) = true then kvs.map (fun kv => if kv.1 = k then (kv.1, v) else kv) else kvs ++ [(k, v)]
theorem qLY {p : κ × V} {r : List (κ × V)} {k : κ} (e : p.1 = k) : qDQ (p :: r) k = some p.2 := by simp [qDQ, List.find?_cons, e]
theorem qLX {p : κ × V} {r : List (κ × V)} {k : κ} (e : ¬ p.1 = k) : qDQ (p :: r) k = qDQ r k := by simp [qDQ, List.find?_cons, e]
theorem qPZ (k : κ) : ∀ kvs : List (κ × V), (kvs.any fun kv => decide (kv.1 = k)) = (qDQ kvs k).isSome
 | [] => rfl
 | p :: r => by
  rw [List.any_cons]
  by_cases e : p.1 = k
  ·simp only [qLY e, decide_eq_true e, Bool.true_or, Option.isSome_some]
  ·rw [qLX e, decide_eq_false e, Bool.false_or]; exact qPZ k r
theorem qKd (kvs : List (κ × V)) (k : κ) (v : V) : (qFG kvs k v).length ≤ kvs.length + 1 := by
 unfold qFG
 split
 ·rw [List.length_map]; omega
 ·rw [List.length_append, List.length_cons, List.length_nil]; omega
theorem qE8.isSome_eq {o : Option V} {u : Option Value} (r : qE8 o u) : o.isSome = u.isSome := by
 cases o with
 | none => cases u with
  | none => rfl
  | some _ => exact (show False from r).elim
 | some _ => cases u with
  | none => exact (show False from r).elim
  | some _ => rfl
theorem qE8.getD {o : Option V} {u : Option Value} {d : V} {d' : Value} (r : qE8 o u) (rd : qAR d d') : qAR (o.getD d) (u.getD d') := by
 cases o with
 | none => cases u with
  | none => exact rd
  | some _ => exact (show False from r).elim
 | some _ => cases u with
  | none => exact (show False from r).elim
  | some _ => exact r
theorem KV.val {kvs : List (κ × V)} {vs : List (κ × Value)} (r : KV kvs vs) (k : κ) : qE8 (qDQ kvs k) (valueAt vs k) := by
 unfold KV at r
 induction r with
 | nil => exact True.intro
 | @cons p q ps qs h t ih =>
  obtain ⟨h1, h2⟩ := h
  by_cases e : p.1 = k
  ·have e' : q.1 = k := h1.symm.trans e
   have b : valueAt (q :: qs) k = some q.2 := by simp [valueAt, List.find?_cons, e']
   rw [qLY e, b]; exact h2
  ·have e' : ¬ q.1 = k := fun z => e (h1.trans z)
   have b : valueAt (q :: qs) k = valueAt qs k := by simp [valueAt, List.find?_cons, e']
   rw [qLX e, b]; exact ih
theorem KV.any {kvs : List (κ × V)} {vs : List (κ × Value)} (r : KV kvs vs) (k : κ) : (kvs.any fun kv => decide (kv.1 = k)) = vs.any fun kv => decide (kv.1 = k) := by
 unfold KV at r
 induction r with
 | nil => rfl
 | cons h t ih => rw [List.any_cons, List.any_cons, ih, h.1]
theorem KV.repl {kvs : List (κ × V)} {vs : List (κ × Value)} (r : KV kvs vs) (k : κ) {y : V} {u : Value} (ry : qAR y u) :
  KV (kvs.map fun kv => if kv.1 = k then (kv.1, y) else kv) (vs.map fun kv => if kv.1 = k then (kv.1, u) else kv) := by
 unfold KV at r ⊢
 induction r with
 | nil => exact .nil
 | @cons p q ps qs h t ih =>
  rw [List.map_cons, List.map_cons]
  refine .cons ?_ ih
  obtain ⟨h1, h2⟩ := h
  by_cases e : p.1 = k
  ·rw [if_pos e, if_pos (h1.symm.trans e)]; exact ⟨h1, ry⟩
  ·rw [if_neg e, if_neg (fun z => e (h1.trans z))]; exact ⟨h1, h2⟩
theorem KV.put {kvs : List (κ × V)} {vs : List (κ × Value)} (r : KV kvs vs) (k : κ) {y : V} {u : Value} (ry : qAR y u) : KV (qFG kvs k y) (stored vs k u) := by
 unfold qFG stored
 rw [r.any k]
 by_cases e : (vs.any fun kv => decide (kv.1 = k)) = true
 ·rw [if_pos e, if_pos e]; exact r.repl k ry
 ·rw [if_neg e, if_neg e]; exact Paired.snoc r ⟨rfl, ry⟩
theorem KV.keys {kvs : List (κ × V)} {vs : List (κ × Value)} (r : KV kvs vs) : kvs.map (·.1) = vs.map (·.1) := by
 unfold KV at r
 induction r with
 | nil => rfl
 | cons h t ih => rw [List.map_cons, List.map_cons, ih, h.1]
theorem KV.length {kvs : List (κ × V)} {vs : List (κ × Value)} (r : KV kvs vs) : kvs.length = vs.length := Paired.length r
end
theorem qNv {P : Program} {w : World} {k : Key} {u : Value} (r : qAR (kV k) u) : (qBJ P w).is k u = true := by
 cases k with
 | inl i => obtain ⟨t, e⟩ := (show ∃ t, u = Value.int i t from r); subst e; exact qPs P w i t
 | inr x => obtain ⟨t, e⟩ := (show ∃ t, u = Value.str x t from r); subst e; exact qPt P w x t
theorem qNW {P : Program} {w : World} : ∀ {ks : List Key} {us : List Value}, qAZ (ks.map kV) us → ItemsAre (qBJ P w) ks us
 | [], _, r => by rw [List.map_nil] at r; cases r; exact .nil
 | k :: ks, _, r => by
  rw [List.map_cons] at r
  cases r with
  | cons h t => exact .cons (qNv h) (qNW t)
abbrev KT (H : Hp) : List (List Key × V) → List (List Key × Addr × Value) → Prop := Paired fun p q => p.1 = q.1 ∧ H q.2.1 = some (.tup (p.1.map kV)) ∧ qAR p.2 q.2.2
theorem KT.val {H : Hp} {kvs : List (List Key × V)} {xs : List (List Key × Addr × Value)} (r : KT H kvs xs) (k : List Key) : qE8 (qDQ kvs k) ((atKey xs k).map (·.2)) := by
 induction r with
 | nil => exact True.intro
 | @cons p q ps qs h t ih =>
  obtain ⟨h1, _, h2⟩ := h
  by_cases e : p.1 = k
  ·have e' : q.1 = k := h1.symm.trans e
   have b : atKey (q :: qs) k = some q.2 := by simp [atKey, List.find?_cons, e']
   rw [qLY e, b]; exact h2
  ·have e' : ¬ q.1 = k := fun z => e (h1.trans z)
   have b : atKey (q :: qs) k = atKey qs k := by simp [atKey, List.find?_cons, e']
   rw [qLX e, b]; exact ih
theorem KT.repl {H : Hp} {kvs : List (List Key × V)} {xs : List (List Key × Addr × Value)} (r : KT H kvs xs) (k : List Key) {y : V} {u : Value} (ry : qAR y u) :
  KT H (kvs.map fun kv => if kv.1 = k then (kv.1, y) else kv) (xs.map (putAt k u)) := by
 induction r with
 | nil => exact .nil
 | @cons p q ps qs h t ih =>
  rw [List.map_cons, List.map_cons]
  refine .cons ?_ ih
  obtain ⟨h1, h2, h3⟩ := h
  unfold putAt
  by_cases e : p.1 = k
  ·rw [if_pos e, if_pos (h1.symm.trans e)]; exact ⟨h1, h2, ry⟩
  ·rw [if_neg e, if_neg (fun z => e (h1.trans z))]; exact ⟨h1, h2, h3⟩
theorem KT.put {H : Hp} {kvs : List (List Key × V)} {xs : List (List Key × Addr × Value)} (r : KT H kvs xs) (k : List Key) {b : Addr} {y : V} {u : Value} (hb : H b = some (.tup (k.map kV))) (ry : qAR y u) :
  KT H (qFG kvs k y) (storedH xs k b u) := by
 have e : (kvs.any fun kv => decide (kv.1 = k)) = (atKey xs k).isSome := by
  rw [qPZ, (r.val k).isSome_eq, Option.isSome_map]
 unfold qFG storedH
 rw [e]
 by_cases q : (atKey xs k).isSome = true
 ·rw [if_pos q, if_pos q]; exact r.repl k ry
 ·rw [if_neg q, if_neg q]; exact Paired.snoc r ⟨rfl, hb, ry⟩
theorem KT.keeps {H H' : Hp} {kvs : List (List Key × V)} {xs : List (List Key × Addr × Value)} (r : KT H kvs xs) (ht : ∀ b ys, H b = some (.tup ys) → H' b = some (.tup ys)) : KT H' kvs xs :=
 Paired.mapP r fun _ _ z => ⟨z.1, ht _ _ z.2.1, z.2.2⟩
section
variable {P : Program} {w : World} {H : Hp} {h : Heap} {a : Addr}
theorem qT9 {u : HO} (ok : HOk P w H h) (e : Rd H a u) : qBD P w H h a u := e.ok ok
theorem qNs {kvs : List (Key × V)} (ok : HOk P w H h) (e : Rd H a (.dK kvs)) : kvs.length ≤ sizeLine ∧ (a == sysModules) = false ∧ ∃ vs, KV kvs vs ∧ h.DictOf (qBJ P w) a vs :=
 show qBD P w H h a (.dK kvs) from qT9 ok e
theorem qQq {kvs : List (Key × V)} (ok : HOk P w H h) (e : H a = some (.dK kvs)) : kvs.length ≤ sizeLine ∧ (a == sysModules) = false ∧ ∃ vs, KV kvs vs ∧ h.DictOf (qBJ P w) a vs := qNs ok (.inl e)
theorem qFe {ks : List Key} (ok : HOk P w H h) (e : H a = some (.tup (ks.map kV))) : (tupleKind (qBJ P w)).is h ks a := by
 obtain ⟨_, its, r, o, h1, h2, n, h3⟩ := (show qBD P w H h a (.tup (ks.map kV)) from ok a _ e)
 exact ⟨o, its.toArray, n, h1, h2, h3, by simpa using qNW r⟩
theorem qNt {kvs : List (List Key × V)} (ok : HOk P w H h) (e : Rd H a (.dT kvs)) : kvs.length ≤ sizeLine ∧ (a == sysModules) = false ∧
  ∃ xs, KT H kvs xs ∧ h.DictOfH (tupleKind (qBJ P w)) a xs := by
 obtain ⟨z, y, xs, r, o, es, ep, h1, h2, h3, h4, h5⟩ := (show qBD P w H h a (.dT kvs) from qT9 ok e)
 refine ⟨z, y, xs, r, o, es, ep, h1, h2, h3, h4, fun x hx => ?_, h5⟩
 have all : ∀ {l : List (List Key × V)} {m : List (List Key × Addr × Value)}, KT H l m → ∀ x ∈ m, (tupleKind (qBJ P w)).is h x.1 x.2.1 := by
  intro l m q
  induction q with
  | nil => intro x hx; exact nomatch hx
  | @cons p q ps qs hq t ih =>
   intro x hx
   rcases List.mem_cons.mp hx with e | hx
   ·subst e
    exact qFe ok (by rw [← hq.1]; exact hq.2.1)
   ·exact ih x hx
 exact all r x hx
theorem qYG {kvs : List (List Key × V)} (ok : HOk P w H h) (e : H a = some (.dT kvs)) : kvs.length ≤ sizeLine ∧ (a == sysModules) = false ∧
  ∃ xs, KT H kvs xs ∧ h.DictOfH (tupleKind (qBJ P w)) a xs := qNt ok (.inl e)
end
noncomputable def qKg (H : Hp) (a : Addr) (y : V) (r : Option V) : Prop :=
 (∃ kvs k, Rd H a (.dK kvs) ∧ y = kV k ∧ r = qDQ kvs k) ∨ ∃ kvs k b, Rd H a (.dT kvs) ∧ y = .ref b ∧ H b = some (.tup (k.map kV)) ∧ r = qDQ kvs k
noncomputable def qQi (H : Hp) (a : Addr) (y v : V) (H' : Hp) : Prop :=
 (∃ kvs k, H a = some (.dK kvs) ∧ y = kV k ∧ kvs.length < sizeLine ∧ H' = upd H a (.dK (qFG kvs k v))) ∨
 ∃ kvs k b, H a = some (.dT kvs) ∧ y = .ref b ∧ H b = some (.tup (k.map kV)) ∧ kvs.length < sizeLine ∧ H' = upd H a (.dT (qFG kvs k v))
theorem qKg.k {H : Hp} {a : Addr} {kvs : List (Key × V)} {k : Key} (e : H a = some (.dK kvs)) : qKg H a (kV k) (qDQ kvs k) := .inl ⟨kvs, k, .inl e, rfl, rfl⟩
theorem qQi.k {H : Hp} {a : Addr} {kvs : List (Key × V)} {k : Key} {v : V} (e : H a = some (.dK kvs)) (hl : kvs.length < sizeLine) : qQi H a (kV k) v (upd H a (.dK (qFG kvs k v))) := .inl ⟨kvs, k, e, rfl, hl, rfl⟩
section
variable {X : Cx} {pins : List (Addr × Obj)} {σ : St} {H : Hp} {s : Shared} {a : Addr} {y v : V} {u r : Value} {o : Option V} {A : Around} {E : Value → Shared → Prop}
theorem Inv.big (I : Inv X pins σ H s) : sysModules < s.heap.objs.size := by
 have h : mainGlobals < s.heap.objs.size := (I.mod.glob.keeps I.bk).lt
 exact Nat.lt_trans (by decide) h
theorem qRQ {Q : Value → Shared → Prop} (hu : A.units + 1 < cLine) (I : Inv X pins σ H s) (g : qKg H a y (some v)) (ry : qAR y u) (h : ∀ w' s', Inv X pins σ H s' → qAR v w' → Q w' s') :
  wpAny (model X.prog X.w) A (getItem (.ref a) u) Q E s := by
 rcases g with ⟨kvs, k, e, ey, l⟩ | ⟨kvs, k, b, e, ey, eb, l⟩
 ·subst ey
  obtain ⟨z, hd, vs, rel, dd⟩ := qNs I.hok e
  obtain ⟨w', hw, rw'⟩ := qE8.some_of (v := v) (o := valueAt vs k) (by rw [l]; exact rel.val k)
  exact wpAny_getItem_of (qNv ry) dd.mapOf hw (h w' _ (I.tok _) rw')
 ·subst ey
  cases (show u = Value.ref b from ry)
  obtain ⟨z, hd, xs, rel, dd⟩ := qNt I.hok e
  obtain ⟨w', hw, rw'⟩ := qE8.some_of (v := v) (o := (atKey xs k).map (·.2)) (by rw [l]; exact rel.val k)
  obtain ⟨p, hp, hp2⟩ := Option.map_eq_some_iff.mp hw
  refine wpAny_getItem_heap (tupleKind_room_in1 hu) (qFe I.hok eb) dd hp ?_
  rw [hp2]
  exact h w' _ (I.tok _) rw'
theorem qP5 {h' : Heap} {t' : Nat} {ob : HO} (I : Inv X pins σ H s) (mu : Mut (H a)) (hs : Heap.SameBut a s.heap h') (he : ∃ q, h'.get? a = some q) (new : qBD X.prog X.w (upd H a ob) h' a ob) :
  Inv X pins σ (upd H a ob) { s with heap := h', toks := t' } :=
 I.write (x := a) (e := a) mu (.inl rfl) (fun b q hb z => (hs.2 b hb).trans z) he new
theorem qWQ {P : Program} {w : World} {H' : Hp} {h' : Heap} {kvs : List (Key × V)} {vs : List (Key × Value)} (z : kvs.length ≤ sizeLine) (hd : (a == sysModules) = false) (rel : KV kvs vs) (dd : h'.DictOf (qBJ P w) a vs) :
  qBD P w H' h' a (.dK kvs) := ⟨z, hd, vs, rel, dd⟩
theorem qRR {H' : Hp} {Q : Unit → Shared → Prop} (hu : A.units + 1 < cLine) (I : Inv X pins σ H s) (g : qQi H a y v H') (ry : qAR y u) (rv : qAR v r) (h : ∀ s', Inv X pins σ H' s' → Q () s') :
  wpAny (model X.prog X.w) A (setItem (.ref a) u r) Q E s := by
 rcases g with ⟨kvs, k, e, ey, l, eH⟩ | ⟨kvs, k, b, e, ey, eb, l, eH⟩
 ·subst ey eH
  obtain ⟨z, hd, vs, rel, dd⟩ := qQq I.hok e
  have hz : vs.length ≤ sizeLine := by rw [← rel.length]; exact z
  have hl : (qFG kvs k v).length ≤ sizeLine := by have := qKd kvs k v; omega
  refine wpAny_setItem_pairs (hsz := hz) (qNv ry) dd fun h' dd' hs => h _ ?_
  have he : ∃ q, h'.get? a = some q := let ⟨q, _, _, hq, _⟩ := dd'; ⟨q, hq⟩
  exact qP5 I (by rw [e]; exact True.intro) hs he (qWQ hl hd (rel.put k rv) dd')
 ·subst ey eH
  cases (show u = Value.ref b from ry)
  obtain ⟨z, hd, xs, rel, dd⟩ := qYG I.hok e
  have hz : xs.length ≤ sizeLine := by rw [← Paired.length rel]; exact z
  have hl : (qFG kvs k v).length ≤ sizeLine := by have := qKd kvs k v; omega
  refine wpAny_setItem_heap (hsz := hz) (tupleKind_room_in1 hu) (qFe I.hok eb) dd fun h' dd' hs => h _ ?_
  obtain ⟨q, es, ep, hq, h2, h3, h4, _, h5⟩ := dd'
  refine qP5 I (by rw [e]; exact True.intro) hs ⟨q, hq⟩ ⟨hl, hd, _, (rel.put k eb rv).keeps fun c ys ec => ?_, q, es, ep, hq, h2, h3, h4, h5⟩
  rw [qAa (qYQ ec e (fun z => nomatch z))]
  exact ec
end
noncomputable def qSa (i : Expr) : Prop := ∀ ov iv, subscripted i false ov iv = operate [ov, iv] (getItem ov iv)
theorem qVj {prog : Program} {w : World} {A : Around} {E : Value → Shared → Prop} {s : Shared} {env : Env} {value slice : Expr} {pos : Pos} {T id : String} {Q : Value → Shared → Prop}
  (hl : typeLookup (.type T) "__getitem__" = pure (some (.builtin id))) (hs : qSa slice)
  (h : wpAny (model prog w) A (eval value env) (fun o s₁ => wpAny (model prog w) A (eval slice env) (fun i s₂ => s₂.TypeIs o T ∧ wpAny (model prog w) A (getItem o i) Q E s₂) E s₁) E s) :
  wpAny (model prog w) A (eval (.Subscript value slice pos) env) Q E s := by
 refine Subscript_ (wpAny_mono h (fun o s₁ h₁ => wpAny_mono h₁ (fun i s₂ h₂ => ?_) fun _ _ x => x) fun _ _ x => x)
 obtain ⟨hT, h₂⟩ := h₂
 unfold subscriptTail
 refine wpAny_bind ?_
 rw [getitemInPython_of_ne hT.not_modules]
 refine wpAny_bind (wpAny_specialOf hT hl ?_)
 have fin : wpAny (model prog w) A (subscripted slice false o i) (fun r s₃ => wpAny (model prog w) A (letTemporaryGo value o r >>= fun _ => pure r) Q E s₃) E s₂ := by
  rw [hs o i]
  exact wpAny_operating (wpAny_mono h₂ (fun r s₃ h₃ => wpAny_bind (wpAny_letTemporaryGo (wpAny_pure h₃))) fun _ _ x => x)
 first
  | exact wpAny_pure (wpAny_bind fin)
  | exact wpAny_bind (wpAny_pure (wpAny_bind fin))
  | exact wpAny_bind fin
theorem qPq {X : Cx} {pins : List (Addr × Obj)} {σ : St} {H : Hp} {s : Shared} {a : Addr} {y : V} {o : Option V} (I : Inv X pins σ H s) (g : qKg H a y o) : s.TypeIs (.ref a) "dict" := by
 rcases g with ⟨kvs, k, e, _, _⟩ | ⟨kvs, k, b, e, _, _, _⟩
 ·obtain ⟨_, _, vs, _, dd⟩ := qNs I.hok e
  exact dd.typeIs
 ·obtain ⟨_, _, xs, _, dd⟩ := qNt I.hok e
  exact dd.typeIs
theorem qSu {P : Program} {w : World} {H : Hp} (h : Heap) (hb : sysModules < h.objs.size) : qBD P w H (h.push { cls := .type "dict", data := .dict #[] }) h.objs.size (.dK []) :=
 ⟨Nat.zero_le _, beq_eq_false_iff_ne.mpr (Ne.symm (Nat.ne_of_lt hb)), [], .nil, Heap.DictOf.new h⟩
noncomputable def qXs : TE := fun _ H Q => ∀ p, H p = none → Q (.ref p) (upd H p (.dK []))
section
variable {X : Cx} {pos : Pos}
theorem qTO : PE X (.Dict [] [] pos) qXs := fun pins s σ H Q I h =>
 wpAny_Dict_empty ⟨.ref s.heap.objs.size, _, I.laid (a := s.heap.objs.size) (o := .dK []) (t' := s.toks) (fun _ _ q => Heap.get?_push_of_some _ q) (Nat.le_refl _) (qSu s.heap I.big), rfl, h _ (I.hok.fresh (Nat.le_refl _))⟩
end
section
variable {X : Cx} {pins : List (Addr × Obj)} {σ : St} {H : Hp} {s : Shared} {a : Addr} {y d : V} {u r : Value} {o : Option V} {A : Around} {E : Value → Shared → Prop}
theorem qV6 {Q : Value → Shared → Prop} (hu : A.units + 1 < cLine) (I : Inv X pins σ H s) (g : qKg H a y o) (ry : qAR y u) (rd : qAR d r) (h : ∀ w' s', Inv X pins σ H s' → qAR (o.getD d) w' → Q w' s') :
  wpAny (model X.prog X.w) A (call (.builtin "dict.get") [.ref a, u, r]) Q E s := by
 rcases g with ⟨kvs, k, e, ey, l⟩ | ⟨kvs, k, b, e, ey, eb, l⟩
 ·subst ey
  obtain ⟨z, hd, vs, rel, dd⟩ := qNs I.hok e
  refine call_meetsIn PySem.F.slot_dict_get dd.typeIs PySem.F.entry_dict_get (PySem.F.args_dict_get_3 _ _ _) (meets_dict_get_default (qBJ X.prog X.w) a (qNv ry) hd r) ⟨_, dd.mapOf, h _ _ (I.tok _) ?_⟩
  rw [l]
  exact (rel.val k).getD rd
 ·subst ey
  cases (show u = Value.ref b from ry)
  obtain ⟨z, hd, xs, rel, dd⟩ := qNt I.hok e
  refine call_meetsIn PySem.F.slot_dict_get dd.typeIs PySem.F.entry_dict_get (PySem.F.args_dict_get_3 _ _ _) (meetsH_dict_get_default (tupleKind (qBJ X.prog X.w)) a b hd r) ⟨tupleKind_room_in1 hu, k, xs, qFe I.hok eb, dd, h _ _ (I.tok _) ?_⟩
  rw [l]
  exact (rel.val k).getD rd
end
end L2
namespace Att
open PySem PySem.W PySem.Calls PyProof.Rows
theorem qL0 {P : Params} {h : Heap} : ∀ (ns : List Int) (vs : List Value), WellAll P h vs (ns.map WData.int) → IntsAre vs ns := by
 intro ns
 induction ns with
 | nil =>
  intro vs w
  rw [List.map_nil] at w
  cases w
  exact .nil
 | cons n ns ih =>
  intro vs w
  rw [List.map_cons] at w
  cases w with
  | cons a b =>
   cases a
   exact .cons _ _ (ih _ b)
theorem qSN {l : OpenLaw} {n : Nat} (hn : l.most = some n) {P : Params} {h : Heap} {args : List WData} {vals : List Value}
  (hpre : l.row.toRowW.claim.pre args = true) (hwl : WellAll P h vals args) :
  ∃ a vs ns, vals = [Value.ref a] ∧ args = [WData.list (ns.map WData.int)] ∧ h.get? a = some { cls := .type "list", data := .seq vs.toArray } ∧ IntsAre vs ns ∧ ns.length ≤ n := by
 have hsh : WShape.hasAll [] args [.list .int] = true := (pre_splitW hpre).1
 have hc : l.pre.holds [] { args := args } = true := (pre_splitW hpre).2
 obtain ⟨d, r, rfl, h1, h2⟩ := hasAllW_cons hsh
 obtain rfl := hasAllW_nil h2
 obtain ⟨xs, rfl, h3⟩ := hasW_list h1
 obtain ⟨ns, rfl⟩ := items_int h3
 have hlen : ns.length ≤ n := by
  unfold OpenLaw.pre at hc
  have h4 : (WTm.not (.lt (.lit (.int (n : Int))) (.len (.arg 0)))).holds [] { args := [.list (ns.map .int)] } = true := by
   have h4 := (holds_andW hc).1
   rw [hn] at h4
   exact h4
  have h5 := condW_of h4 (w_not (w_lt w_lit (w_len_list (w_arg rfl))))
  rw [List.length_map] at h5
  refine Nat.le_of_not_lt fun q => ?_
  have q' : (n : Int) < ((ns.length : Nat) : Int) := by omega
  first
   | (rw [decide_eq_true q'] at h5; exact absurd h5 (by decide))
   | (simp at h5; omega)
 cases hwl with
 | cons w1 w2 =>
  cases w2
  cases w1 with
  | list ho hall => exact ⟨_, _, ns, rfl, rfl, ho, qL0 ns _ hall, hlen⟩
theorem qR8 (l : OpenLaw) (args : List WData) : l.row.toRowW.claim.post args (.bool true) args = true :=
 postW_of (r := l.row.toRowW) (X := (true == true))
  (show WShape.has [] (.bool true) .bool = true by first | rfl | decide | simp [WShape.has, WShape.arms, WShape.armsAll])
  (show (WTm.eq .res (.lit (.bool true))).value [] { args := args, res := some (.bool true), after := args } = some (.bool (true == true)) from w_eq_bool (w_res rfl) w_lit) rfl
theorem attach_call {l : OpenLaw} {n : Nat} {q : Program} {loose : List Str} {XP : (Str → Option Value) → Heap → Prop} {YP : World → Heap → Prop} {d : DefRec}
  (hn : l.most = some n) (hdf : d.params.defaults = [])
  (call : ∀ (w : World) (s₀ s₁ : Shared) (mg mb : Str → Option Value) (fa : Addr) (o : Obj) (pm cd doc : Value) (a : Addr) (vs : List Value) (ns : List Int),
   Ground q loose [] XP w s₀ mg mb s₁.heap → YP w s₁.heap →
   s₁.heap.get? fa = some o → o.data = .func (docDef d.name d.params d.body d.scope pm cd doc) → s₁.heap.CodeRec cd d.name → mg d.name = some (.ref fa) →
   s₁.heap.get? a = some { cls := .type "list", data := .seq vs.toArray } → IntsAre vs ns → ns.length ≤ n → s₁.gens = #[] →
   codeAny (model l.prog w) callerA (.call (.ref fa) ⟨[.ref a], []⟩) (fun r s' => r = .ok (.ret (.bool true)) ∧ OldK s₁.heap s'.heap ∧ s'.os = s₁.os ∧ AllBare s'.gens) s₁) :
  WalkO q loose XP YP l.row.toRowW d [] (fun f vs => PySem.call f vs) := by
 intro w s₀ s₁ mg mb G Y fa o pm cd doc dV kV ho hd hcd hD hmg hg args vals as hpre hlay hrd hwl hlo
 obtain rfl : dV = .none := Dflts.none hD hdf
 obtain rfl : kV = .none := Dflts.noKw hD
 obtain ⟨a, vs, ns, rfl, rfl, hobj, hints, hlen⟩ := qSN hn hpre hwl
 refine enter_call (codeAny_mono (call w s₀ s₁ mg mb fa o pm cd doc a vs ns G Y ho (fd_plain hd) hcd hmg hobj hints hlen hg) fun r s' hq => ?_)
 obtain ⟨rfl, h2, h3, h4⟩ := hq
 exact ⟨.inl ⟨.bool true, .bool true, [], rfl, fun _ => rfl, .bool true, qR8 l _, fun _ => ⟨List.Pairwise.nil, fun _ hm => (nomatch hm)⟩⟩, h2, h3, h4⟩
end Att
namespace L2
open PySem PySem.Spec PyProof.Rows
theorem qNf : ∀ {vs : List Value} {ns : List Int}, IntsAre vs ns → qAZ (ns.map V.int) vs
 | _, _, .nil => .nil
 | _, _, .cons n t h => .cons ⟨t, rfl⟩ (qNf h)
noncomputable def SqX (K : PySem.W.Frag) (H : Hp) (a : Addr) (xs : List V) : Prop :=
 Rd H a (.lst xs) ∨ ∃ (its : List Value) (n : Nat), K.lookup a = some { cls := .type "list", data := .seq its.toArray n } ∧ xs.length ≤ sizeLine ∧ qAZ xs its
theorem SqX.l {K : PySem.W.Frag} {H : Hp} {a : Addr} {xs : List V} (h : SqX K H a xs) : SqL K H a xs := by
 rcases h with h | ⟨its, n, e, l, v⟩
 ·exact .inl h
 ·exact .inr ⟨_, its.toArray, n, e, rfl, rfl, rfl, by rw [List.size_toArray, ← v.length]; exact l, by simpa using v⟩
noncomputable def qSb (H : Hp) : Prop := ∀ b, H b = none ∨ ∃ o xs, H b = some (.frz o (.lst xs))
theorem qS9 {P : Program} {w : World} {K : PySem.W.Frag} {mg mb : Str → Option Value} {CX : CXT} {k : Nat} {fa a : Addr} {fd : FuncData} {x : Str} {sp : Sp} {s₁ : Shared} {vs : List Value} {ns : List Int}
  (KX : K.In s₁.heap) (hns : s₁.heap.Ns mainGlobals mg) (hb : s₁.heap.Ns builtinsNs mb) (hbb : ∀ x : Str, x ≠ "__name__" → mb x = bootBuiltins x) (hlim : s₁.heap.NoLimit) (hg : s₁.gens = #[])
  (ha : s₁.heap.get? a = some { cls := .type "list", data := .seq vs.toArray }) (hi : IntsAre vs ns) (hl : ns.length ≤ sizeLine) (hr : Room k callerA)
  (F : ∀ base : Heap, K.In base → base.Ns mainGlobals mg → FnOk P w K mg base CX k fa fd [x] sp) (hbind : ∀ (s : Shared) (u : Value), BindsTo s fd ⟨[u], []⟩ [(x, u)])
  (hsp : ∀ H : Hp, qSb H → SqX K H a (ns.map V.int) → sp [.ref a] H (fun v _ => v = .bl true) fun _ _ _ => False)
  (hCX : ∀ H e s', CX [] H s₁ (fun _ _ _ => False) e s' → False) :
  codeAny (model P w) callerA (.call (.ref fa) ⟨[.ref a], []⟩) (fun r s' => r = .ok (.ret (.bool true)) ∧ OldK s₁.heap s'.heap ∧ s'.os = s₁.os ∧ AllBare s'.gens) s₁ := by
 have rv := qNf hi
 have lenV := hi.length
 have core : ∀ H : Hp, qSb H → SqX K H a (ns.map V.int) → HOk P w H s₁.heap → (∀ b, H b ≠ none → b = a) → (H a ≠ none → K.lookup a = none) →
   codeAny (model P w) callerA (.call (.ref fa) ⟨[.ref a], []⟩) (fun r s' => r = .ok (.ret (.bool true)) ∧ OldK s₁.heap s'.heap ∧ s'.os = s₁.os ∧ AllBare s'.gens) s₁ := by
  intro H hO hS hok hA hK
  have base_of : ∀ {b : Addr} {o : Obj}, s₁.heap.get? b = some o → H b = none → (qIj s₁.heap H).get? b = some o := fun e n => qS4 e n
  have noA : ∀ {b : Addr} {o : Obj} {es : Array DictEntry} {ep : Nat}, s₁.heap.get? b = some o → o.data = .dict es ep → H b = none := fun {b o es ep} e d => by
   cases q : H b with
   | none => rfl
   | some u =>
    have e' : b = a := hA b (by rw [q]; simp)
    subst e'
    rw [ha] at e; cases e
    have d' : Data.seq vs.toArray _ = Data.dict es ep := d
    cases d'
  have nsK : ∀ {b : Addr} {m : Str → Option Value}, s₁.heap.Ns b m → (qIj s₁.heap H).Ns b m := fun {b m} ⟨o, es, ep, e, d, r⟩ => ⟨o, es, ep, base_of e (noA e d), d, r⟩
  have hKb : K.In (qIj s₁.heap H) := fun b o e => base_of (KX b o e) (by
   cases q : H b with
   | none => rfl
   | some u =>
    have e' : b = a := hA b (by rw [q]; simp)
    subst e'
    rw [hK (by rw [q]; simp)] at e; cases e)
  have hM : Mod K mg (qIj s₁.heap H) := ⟨hKb, nsK hns, ⟨mb, nsK hb, hbb⟩, let ⟨mc, h1, h2⟩ := hlim; ⟨mc, nsK h1, h2⟩⟩
  have e0 : Env0 P w K mg (qIj s₁.heap H) callerA [] s₁ H := ⟨rfl, hM, fun b o e => qVJ e, Nat.le_of_eq (qRk _ _), trivial, fun b hb => absurd (show b ∈ ([] : List Addr) from hb) (by simp), hok, .of_eq hg⟩
  refine codeAny_mono ((F _ hKb (nsK hns)).run callerA [] s₁ H ⟨[.ref a], []⟩ [.ref a] [.ref a] _ _ hr e0 (hbind s₁ (.ref a)) (.cons rfl .nil) (hsp H hO hS)) fun r s' h => ?_
  cases r with
  | error e => exact (hCX H e s' h).elim
  | ok fl =>
   cases fl with
   | next => exact False.elim h
   | brk => exact False.elim h
   | cont => exact False.elim h
   | ret u =>
    obtain ⟨v, H', os, bare, un, hok', r', q⟩ := h
    have q' : v = .bl true := q
    subst q'
    obtain rfl : u = Value.bool true := r'
    refine ⟨rfl, OldK.of_keep fun b o e => ?_, os, bare⟩
    cases q : H b with
    | none => exact un.keep b o e q (by intro z; exact absurd (show b ∈ ([] : List Addr) from z) (by simp)) (by simp)
    | some u =>
     rcases hO b with z | ⟨ob, xs, z⟩
     ·rw [q] at z; cases z
     ·have z2 := un.frzs b ob _ z
      obtain ⟨e1, _⟩ := hok b _ z
      obtain ⟨e2, _⟩ := hok' b _ z2
      rw [e] at e1; cases e1
      exact e2
 cases hk : K.lookup a with
 | some o =>
  have e := KX a o hk
  rw [ha] at e
  cases e
  refine core (fun _ => none) (fun _ => .inl rfl) (.inr ⟨vs, _, hk, by rw [List.length_map]; exact hl, rv⟩) (fun b u z => by have z' : (none : Option HO) = some u := z; cases z') (fun b z => absurd rfl z) fun z => absurd rfl z
 | none =>
  refine core (fun b => if b = a then some (.frz { cls := .type "list", data := .seq vs.toArray } (.lst (ns.map V.int))) else none) (fun b => ?_) (.inl (.inr ⟨{ cls := .type "list", data := .seq vs.toArray }, if_pos rfl⟩)) (fun b u z => ?_) (fun b z => ?_) fun _ => hk
  ·by_cases hb : b = a
   ·exact .inr ⟨_, _, if_pos hb⟩
   ·exact .inl (if_neg hb)
  ·by_cases hb : b = a
   ·have z' := (if_pos hb).symm.trans z
    cases z'
    subst hb
    exact ⟨ha, by rw [List.length_map]; exact hl, vs, _, rv, ha⟩
   ·have z' := (if_neg hb).symm.trans z
    cases z'
  ·by_cases hb : b = a
   ·exact hb
   ·exact absurd (if_neg hb) z
end L2
namespace L2
open PySem PySem.Spec PyProof.Rows
theorem qVn {l : PySem.W.OpenLaw} {n k : Nat} {q : Program} {loose : List Str} {XP : (Str → Option Value) → Heap → Prop} {YP : World → Heap → Prop} {d : DefRec} {K : Params → PySem.W.Frag} {CX : World → CXT} {sp : World → Sp} {x : Str}
  (hn : l.most = some n) (hn2 : n ≤ sizeLine) (hdf : d.params.defaults = []) (hr : Room k callerA)
  (hY : ∀ (w : World) (h : Heap), YP w h → (K w.params).In h)
  (F : ∀ (w : World) (mg : Str → Option Value) (fa : Addr) (h : Heap), (K w.params).In h → h.Ns mainGlobals mg → mg d.name = some (.ref fa) →
   ∃ fd : FuncData, (∀ (s : Shared) (u : Value), BindsTo s fd ⟨[u], []⟩ [(x, u)]) ∧
    ∀ base : Heap, (K w.params).In base → base.Ns mainGlobals mg → FnOk l.prog w (K w.params) mg base (CX w) k fa fd [x] (sp w))
  (hsp : ∀ (w : World) (H : Hp) (a : Addr) (ns : List Int), ns.length ≤ n → qSb H → SqX (K w.params) H a (ns.map V.int) → sp w [.ref a] H (fun v _ => v = .bl true) fun _ _ _ => False)
  (hCX : ∀ (w : World) (H : Hp) (s : Shared) (e : Value) (s' : Shared), CX w [] H s (fun _ _ _ => False) e s' → False) :
  PySem.W.WalkO q loose XP YP l.row.toRowW d [] (fun f vs => PySem.call f vs) := by
 refine Att.attach_call hn hdf fun w s₀ s₁ mg mb fa o pm cd doc a vs ns G Y ho hd hcd hmg hobj hints hlen hg => ?_
 have KX := hY w _ Y
 obtain ⟨fd, hb, hF⟩ := F w mg fa _ KX G.T.g hmg
 exact qS9 KX G.T.g G.T.b G.T.builtins G.T.nolimit hg hobj hints (Nat.le_trans hlen hn2) hr hF hb (fun H hO hS => hsp w H a ns hlen hO hS) fun H e s' => hCX w H s₁ e s'
end L2
namespace L2
open PySem PySem.Spec PyProof.Rows
noncomputable def qAX (s : Stmt) : Arguments := match s with
 | .FunctionDef _ a _ _ _ _ _ _ _ _ => a
 | _ => { posonlyargs := [], args := [], vararg := none, kwonlyargs := [], kw_defaults := [], kwarg := none, defaults := [] }
noncomputable def qAP (s : Stmt) : List Stmt := match s with
 | .FunctionDef _ _ b _ _ _ _ _ _ _ => b
 | _ => []
noncomputable def qAB (s : Stmt) : Scope := match s with
 | .FunctionDef _ _ _ _ _ _ sc _ _ _ => sc
 | _ => { kind := .function, names := [], isGenerator := false, isCoroutine := false }
abbrev CX0 : CXT := fun _ _ _ _ _ _ => False
structure Fun (K : PySem.W.Frag) (x qual : Str) (st : Stmt) (f : Addr) (fd : FuncData) : Prop where
 ex : ∃ (oc : Value) (od : Option Addr) (kV doc pm : Value) (an : Option Addr) (cdv ct : Value) (osl : Array (Option Value)),
  fd = PySem.W.fnOf x qual (qAX st) (qAP st) (qAB st) .none kV doc pm an cdv ct ∧ K.lookup f = some ⟨oc, od, .func fd, osl⟩ ∧ PySem.W.codeIn K cdv qual = true
 kp : PySem.W.keepIn K (.ref f) = true
section
variable {P : Program} {w : World} {K : PySem.W.Frag} {mg : Str → Option Value} {base : Heap}
theorem Fun.binds {x qual : Str} {st : Stmt} {f : Addr} {fd : FuncData} {ps : List Str} (F : Fun K x qual st f fd)
  (h : ∀ (kV doc pm : Value) (an : Option Addr) (cdv ct : Value) (us : List Value), us.length = ps.length → bindArgs (PySem.W.fnOf x qual (qAX st) (qAP st) (qAB st) .none kV doc pm an cdv ct) ⟨us, []⟩ = pure (ps.zip us)) : qFO K fd ps [] := by
 obtain ⟨oc, od, kV, doc, pm, an, cdv, ct, osl, rfl, lk, hcd⟩ := F.ex
 exact .all (h kV doc pm an cdv ct)
theorem qWl {x qual : Str} {st : Stmt} {f : Addr} {oc : Value} {od an : Option Addr} {osl : Array (Option Value)} {kV doc pm cdv ct : Value} (l : K.lookup f = some ⟨oc, od, .func (PySem.W.fnOf x qual (qAX st) (qAP st) (qAB st) .none kV doc pm an cdv ct), osl⟩)
  (c : PySem.W.codeIn K cdv qual = true) (k : PySem.W.keepIn K (.ref f) = true) : Fun K x qual st f (PySem.W.fnOf x qual (qAX st) (qAP st) (qAB st) .none kV doc pm an cdv ct) := ⟨⟨oc, od, kV, doc, pm, an, cdv, ct, osl, rfl, l, c⟩, k⟩
end
noncomputable def qAJ (H H' : Hp) : Prop := ∀ b o, H b = some o → H' b = some o
theorem qAJ.refl (H : Hp) : qAJ H H := fun _ _ h => h
theorem qAJ.trans {H H1 H2 : Hp} (a : qAJ H H1) (b : qAJ H1 H2) : qAJ H H2 := fun c o h => b c o (a c o h)
theorem qAJ.seq {K : PySem.W.Frag} {H H' : Hp} {a : Addr} {xs : List V} (e : qAJ H H') (h : SqL K H a xs) : SqL K H' a xs := by
 rcases h with (h | ⟨o, h⟩) | h
 ·exact .inl (.inl (e _ _ h))
 ·exact .inl (.inr ⟨o, e _ _ h⟩)
 ·exact .inr h
end L2
end
section
namespace DL
open PySem PySem.Spec PyProof.Rows L2
inductive D where
 | non | bl (b : Bool) | int (i : Int) | str (x : Str) | ty (n : String) | obj (a : Addr) | tup (xs : List D) | lst (xs : List D) | dct0 | loc (i : Nat) | exn (c : Value) | fd (ks : List Key) (ds : List D)
noncomputable def qOZ (a : Addr) (c : Value) : HO := .ext fun h => ∃ ob, h.get? a = some ob ∧ ob.cls = c
inductive MO where
 | dead | lst (xs : List D) | dct (kvs : List (Key × D)) | ins (C : Addr) (fs : List (Str × D))
abbrev Sto := List MO
inductive Res (β : Type) where
 | ok (d : β) (S : Sto) | ex (c : Value) (x : D) (S : Sto) | bad
noncomputable def Res.bind {β γ : Type} (r : Res β) (f : β → Sto → Res γ) : Res γ :=
 match r with
 | .ok d S => f d S
 | .ex c x S => .ex c x S
 | .bad => .bad
theorem Res.bind_ok {β γ : Type} (d : β) (S : Sto) (f : β → Sto → Res γ) : (Res.ok d S).bind f = f d S := rfl
section
variable (K : PySem.W.Frag) (P : Hp) (α : List Addr)
mutual
noncomputable def Rep : D → V → Prop
 | .non, v => v = .non
 | .bl b, v => v = .bl b
 | .int i, v => v = .int i
 | .str x, v => v = .str x
 | .ty n, v => v = .ty n
 | .obj a, v => v = .ref a ∧ PySem.W.keepIn K (.ref a) = true
 | .tup ds, v => ∃ a vs, v = .ref a ∧ SqT K P a vs ∧ qAL ds vs
 | .lst ds, v => ∃ a vs, v = .ref a ∧ SqX K P a vs ∧ qAL ds vs
 | .dct0, v => ∃ a, v = .ref a ∧ P a = some (.dK [])
 | .loc i, v => ∃ a, v = .ref a ∧ α[i]? = some a
 | .exn c, v => ∃ a, v = .ref a ∧ P a = some (qOZ a c)
 | .fd ks ds, v => ∃ a o vs, v = .ref a ∧ P a = some (.frz o (.dK (ks.zip vs))) ∧ ks.length = vs.length ∧ qAL ds vs
noncomputable def qAL : List D → List V → Prop
 | [], vs => vs = []
 | d :: ds, vs => ∃ w ws, vs = w :: ws ∧ Rep d w ∧ qAL ds ws
end
end
section
variable {K : PySem.W.Frag} {P P' : Hp} {α α' : List Addr}
theorem qFK (e : qAJ P P') {a : Addr} {xs : List V} (h : SqT K P a xs) : SqT K P' a xs := by
 rcases h with (h | ⟨o, h⟩) | h
 ·exact .inl (.inl (e _ _ h))
 ·exact .inl (.inr ⟨o, e _ _ h⟩)
 ·exact .inr h
theorem qQV (e : qAJ P P') {a : Addr} {u : HO} (h : Rd P a u) : Rd P' a u := by
 rcases h with h | ⟨o, h⟩
 ·exact .inl (e _ _ h)
 ·exact .inr ⟨o, e _ _ h⟩
theorem qC5 (e : qAJ P P') {a : Addr} {xs : List V} (h : SqX K P a xs) : SqX K P' a xs := by
 rcases h with h | h
 ·exact .inl (qQV e h)
 ·exact .inr h
theorem qJ7 {i : Nat} {a : Addr} (h : α <+: α') (e : α[i]? = some a) : α'[i]? = some a := by
 obtain ⟨r, rfl⟩ := h
 rw [List.getElem?_append_left (List.getElem?_eq_some_iff.mp e).1]
 exact e
mutual
theorem Rep.mono (e : qAJ P P') (h : α <+: α') : ∀ (d : D) (v : V), Rep K P α d v → Rep K P' α' d v
 | .non, _, r => by simpa only [Rep] using r
 | .bl _, _, r => by simpa only [Rep] using r
 | .int _, _, r => by simpa only [Rep] using r
 | .str _, _, r => by simpa only [Rep] using r
 | .ty _, _, r => by simpa only [Rep] using r
 | .obj _, _, r => by simpa only [Rep] using r
 | .tup ds, v, r => by
  simp only [Rep] at r ⊢
  obtain ⟨a, vs, rfl, q, t⟩ := r
  exact ⟨a, vs, rfl, qFK e q, qAL.mono e h ds vs t⟩
 | .lst ds, v, r => by
  simp only [Rep] at r ⊢
  obtain ⟨a, vs, rfl, q, t⟩ := r
  exact ⟨a, vs, rfl, qC5 e q, qAL.mono e h ds vs t⟩
 | .dct0, v, r => by
  simp only [Rep] at r ⊢
  obtain ⟨a, rfl, q⟩ := r
  exact ⟨a, rfl, e _ _ q⟩
 | .loc i, v, r => by
  simp only [Rep] at r ⊢
  obtain ⟨a, rfl, q⟩ := r
  exact ⟨a, rfl, qJ7 h q⟩
 | .exn c, v, r => by
  simp only [Rep] at r ⊢
  obtain ⟨a, rfl, q⟩ := r
  exact ⟨a, rfl, e _ _ q⟩
 | .fd ks ds, v, r => by
  simp only [Rep] at r ⊢
  obtain ⟨a, o, vs, rfl, q, hl, t⟩ := r
  exact ⟨a, o, vs, rfl, e _ _ q, hl, qAL.mono e h ds vs t⟩
theorem qAL.mono (e : qAJ P P') (h : α <+: α') : ∀ (ds : List D) (vs : List V), qAL K P α ds vs → qAL K P' α' ds vs
 | [], vs, r => by simpa only [qAL] using r
 | d :: ds, vs, r => by
  simp only [qAL] at r ⊢
  obtain ⟨w, ws, rfl, r1, r2⟩ := r
  exact ⟨w, ws, rfl, Rep.mono e h d w r1, qAL.mono e h ds ws r2⟩
end
theorem qAL.nil : qAL K P α [] [] := by simp only [qAL]
theorem qAL.cons {d : D} {v : V} {ds : List D} {vs : List V} (r : Rep K P α d v) (t : qAL K P α ds vs) : qAL K P α (d :: ds) (v :: vs) := by
 simp only [qAL]; exact ⟨v, vs, rfl, r, t⟩
theorem qAL.nil_inv {vs : List V} (r : qAL K P α [] vs) : vs = [] := by simpa only [qAL] using r
theorem qAL.cons_inv {d : D} {ds : List D} {vs : List V} (r : qAL K P α (d :: ds) vs) : ∃ w ws, vs = w :: ws ∧ Rep K P α d w ∧ qAL K P α ds ws := by simpa only [qAL] using r
theorem qAL.length : ∀ {ds : List D} {vs : List V}, qAL K P α ds vs → ds.length = vs.length
 | [], vs, r => by rw [r.nil_inv]; rfl
 | d :: ds, vs, r => by
  obtain ⟨w, ws, rfl, _, t⟩ := r.cons_inv
  rw [List.length_cons, List.length_cons, t.length]
theorem qAL.append : ∀ {ds es : List D} {vs ws : List V}, qAL K P α ds vs → qAL K P α es ws → qAL K P α (ds ++ es) (vs ++ ws)
 | [], es, vs, ws, r, t => by rw [r.nil_inv]; exact t
 | d :: ds, es, vs, ws, r, t => by
  obtain ⟨w, us, rfl, r1, r2⟩ := r.cons_inv
  exact .cons r1 (r2.append t)
theorem qAL.get : ∀ {ds : List D} {vs : List V} {i : Nat} {d : D}, qAL K P α ds vs → ds[i]? = some d → ∃ v, vs[i]? = some v ∧ Rep K P α d v
 | [], _, _, _, _, e => by simp at e
 | d :: ds, vs, i, d', r, e => by
  obtain ⟨w, ws, rfl, r1, r2⟩ := r.cons_inv
  cases i with
  | zero => simp at e; subst e; exact ⟨w, rfl, r1⟩
  | succ i =>
   obtain ⟨v, h1, h2⟩ := r2.get (i := i) (d := d') (by simpa using e)
   exact ⟨v, by simpa using h1, h2⟩
theorem qAL.drop : ∀ {ds : List D} {vs : List V} (n : Nat), qAL K P α ds vs → qAL K P α (ds.drop n) (vs.drop n)
 | ds, vs, 0, r => by simpa using r
 | [], vs, n + 1, r => by rw [r.nil_inv]; exact .nil
 | d :: ds, vs, n + 1, r => by
  obtain ⟨w, ws, rfl, _, r2⟩ := r.cons_inv
  simpa using r2.drop n
theorem qAL.take : ∀ {ds : List D} {vs : List V} (n : Nat), qAL K P α ds vs → qAL K P α (ds.take n) (vs.take n)
 | ds, vs, 0, r => by simpa using qAL.nil
 | [], vs, n + 1, r => by rw [r.nil_inv]; exact .nil
 | d :: ds, vs, n + 1, r => by
  obtain ⟨w, ws, rfl, r1, r2⟩ := r.cons_inv
  simpa using qAL.cons r1 (r2.take n)
theorem qAL.set {d : D} {v : V} (q : Rep K P α d v) : ∀ {ds : List D} {vs : List V} (n : Nat), qAL K P α ds vs → qAL K P α (ds.set n d) (vs.set n v)
 | [], vs, n, r => by rw [r.nil_inv]; exact .nil
 | e :: ds, vs, 0, r => by
  obtain ⟨w, ws, rfl, r1, r2⟩ := r.cons_inv
  exact .cons q r2
 | e :: ds, vs, n + 1, r => by
  obtain ⟨w, ws, rfl, r1, r2⟩ := r.cons_inv
  exact .cons r1 (r2.set q n)
end
abbrev qAI := List (Option D)
noncomputable def qAu (K : PySem.W.Frag) (P : Hp) (α : List Addr) (σ : L2.St) (env : qAI) : Prop := env.length = σ.length ∧ ∀ (i : Nat) (d : D), env[i]? = some (some d) → ∃ v, σ[i]? = some (some v) ∧ Rep K P α d v
noncomputable def KVs (K : PySem.W.Frag) (P : Hp) (α : List Addr) {κ : Type} : List (κ × D) → List (κ × V) → Prop := Paired fun (p : κ × D) (q : κ × V) => p.1 = q.1 ∧ Rep K P α p.2 q.2
noncomputable def MOk (K : PySem.W.Frag) (H P : Hp) (α : List Addr) (a : Addr) : MO → Prop
 | .dead => True
 | .lst ds => ∃ vs, H a = some (.lst vs) ∧ qAL K P α ds vs
 | .dct kvs => ∃ vs, H a = some (.dK vs) ∧ KVs K P α kvs vs
 | .ins C fs => ∃ dx vs, H a = some (.ins C dx vs) ∧ KVs K P α fs vs
structure Rel (K : PySem.W.Frag) (H P : Hp) (α : List Addr) (S : Sto) : Prop where
 sub : qAJ P H
 len : α.length = S.length
 nd : α.Nodup
 sep : ∀ (i : Nat) (a : Addr) (o : MO), α[i]? = some a → S[i]? = some o → o ≠ .dead → P a = none
 at' : ∀ (i : Nat) (a : Addr) (o : MO), α[i]? = some a → S[i]? = some o → MOk K H P α a o
 own : ∀ (i : Nat) (a : Addr), α[i]? = some a → H a ≠ none
section
variable {K : PySem.W.Frag} {H P P' : Hp} {α α' : List Addr} {S : Sto}
theorem qAu.mono {σ : L2.St} {env : qAI} (e : qAJ P P') (h : α <+: α') (r : qAu K P α σ env) : qAu K P' α' σ env :=
 ⟨r.1, fun i d q => let ⟨v, h1, h2⟩ := r.2 i d q; ⟨v, h1, Rep.mono e h d v h2⟩⟩
theorem KVs.mono {κ : Type} (e : qAJ P P') (h : α <+: α') {kvs : List (κ × D)} {vs : List (κ × V)} (r : KVs K P α kvs vs) : KVs K P' α' kvs vs := by
 refine Paired.mapP r fun p q z => ⟨z.1, Rep.mono e h _ _ z.2⟩
theorem MOk.mono {a : Addr} (e : qAJ P P') (h : α <+: α') : ∀ {o : MO}, MOk K H P α a o → MOk K H P' α' a o
 | .dead, _ => trivial
 | .lst _, ⟨vs, q, r⟩ => ⟨vs, q, qAL.mono e h _ _ r⟩
 | .dct _, ⟨vs, q, r⟩ => ⟨vs, q, r.mono e h⟩
 | .ins _ _, ⟨dx, vs, q, r⟩ => ⟨dx, vs, q, r.mono e h⟩
theorem Rel.grow {H' : Hp} (r : Rel K H P α S) (e : qAJ H H') : Rel K H' P α S where
 sub := r.sub.trans e
 len := r.len
 nd := r.nd
 sep := r.sep
 at' := fun i a o q1 q2 => by
  have m := r.at' i a o q1 q2
  cases o with
  | dead => trivial
  | lst ds => obtain ⟨vs, q, t⟩ := m; exact ⟨vs, e _ _ q, t⟩
  | dct kvs => obtain ⟨vs, q, t⟩ := m; exact ⟨vs, e _ _ q, t⟩
  | ins C fs => obtain ⟨dx, vs, q, t⟩ := m; exact ⟨dx, vs, e _ _ q, t⟩
 own := fun i a q => by
  have m := r.own i a q
  cases z : H a with
  | none => exact absurd z m
  | some o => rw [e _ _ z]; intro w; cases w
theorem qIr {H : Hp} {a : Addr} {o : HO} (h : H a = none) : qAJ H (upd H a o) := fun b u e => by rw [qAa (qAw e h)]; exact e
theorem Rel.pure {a : Addr} {o : HO} (r : Rel K H P α S) (h : H a = none) : Rel K (upd H a o) (upd P a o) α S ∧ qAJ P (upd P a o) := by
 have hP : P a = none := by
  cases z : P a with
  | none => rfl
  | some u => rw [r.sub _ _ z] at h; cases h
 have sP : qAJ P (upd P a o) := qIr hP
 have r1 := r.grow (qIr (o := o) h)
 refine ⟨⟨fun b u e => ?_, r.len, r.nd, fun i b u q1 q2 q3 => ?_, fun i b u q1 q2 => (r1.at' i b u q1 q2).mono sP (List.prefix_refl _), r1.own⟩, sP⟩
 ·by_cases hb : b = a
  ·subst hb; rw [qA5] at e ⊢; exact e
  ·rw [qAa hb] at e ⊢; exact r.sub _ _ e
 ·have hb : b ≠ a := by rintro rfl; exact r.own i b q1 h
  rw [qAa hb]
  exact r.sep i b u q1 q2 q3
theorem Rel.new {a : Addr} {o : HO} {m : MO} (r : Rel K H P α S) (h : H a = none) (hm : MOk K (upd H a o) P (α ++ [a]) a m) : Rel K (upd H a o) P (α ++ [a]) (S ++ [m]) := by
 have hP : P a = none := by
  cases z : P a with
  | none => rfl
  | some u => rw [r.sub _ _ z] at h; cases h
 have r1 := r.grow (qIr (o := o) h)
 have hp : α <+: α ++ [a] := List.prefix_append _ _
 have split : ∀ (i : Nat) (b : Addr), (α ++ [a])[i]? = some b → (i < α.length ∧ α[i]? = some b) ∨ (i = α.length ∧ b = a) := fun i b q => by
  by_cases hi : i < α.length
  ·rw [List.getElem?_append_left hi] at q; exact .inl ⟨hi, q⟩
  ·rw [List.getElem?_append_right (by omega)] at q
   cases hk : i - α.length with
   | zero => rw [hk] at q; simp at q; exact .inr ⟨by omega, q.symm⟩
   | succ k => rw [hk] at q; simp at q
 refine ⟨r1.sub, by simp [r.len], ?_, fun i b u q1 q2 q3 => ?_, fun i b u q1 q2 => ?_, fun i b q => ?_⟩
 ·rw [List.nodup_append]
  refine ⟨r.nd, by simp, fun b hb c hc e => ?_⟩
  simp at hc; subst hc; subst e
  obtain ⟨i, hi, e⟩ := List.mem_iff_getElem.mp hb
  exact r.own i b (by rw [List.getElem?_eq_getElem hi, e]) h
 ·rcases split i b q1 with ⟨hi, z⟩ | ⟨hi, rfl⟩
  ·rw [List.getElem?_append_left (by rw [← r.len]; exact hi)] at q2
   exact r.sep i b u z q2 q3
  ·exact hP
 ·rcases split i b q1 with ⟨hi, z⟩ | ⟨hi, rfl⟩
  ·rw [List.getElem?_append_left (by rw [← r.len]; exact hi)] at q2
   exact (r1.at' i b u z q2).mono (qAJ.refl _) hp
  ·rw [hi, r.len, List.getElem?_append_right (Nat.le_refl _)] at q2
   simp at q2; subst q2
   exact hm
 ·rcases split i b q with ⟨_, z⟩ | ⟨_, rfl⟩
  ·exact r1.own i b z
  ·rw [qA5]; intro z; cases z
theorem qNY {N : List Addr} (hN : N.Nodup) {i j : Nat} {x : Addr} (a : N[i]? = some x) (b : N[j]? = some x) : i = j := by
 obtain ⟨h1, e1⟩ := List.getElem?_eq_some_iff.mp a
 obtain ⟨h2, e2⟩ := List.getElem?_eq_some_iff.mp b
 exact (List.getElem_inj hN).mp (e1.trans e2.symm)
theorem Rel.put {a : Addr} {i : Nat} {o : HO} {m m' : MO} (r : Rel K H P α S) (ha : α[i]? = some a) (hs : S[i]? = some m) (hd : m ≠ .dead) (hm : MOk K (upd H a o) P α a m') : Rel K (upd H a o) P α (S.set i m') := by
 have hP := r.sep i a m ha hs hd
 have hi : i < S.length := (List.getElem?_eq_some_iff.mp hs).1
 refine ⟨fun b u e => ?_, by simp [r.len], r.nd, fun j b u q1 q2 q3 => ?_, fun j b u q1 q2 => ?_, fun j b q => ?_⟩
 ·have hb : b ≠ a := by rintro rfl; rw [hP] at e; cases e
  rw [qAa hb]; exact r.sub _ _ e
 ·by_cases hj : j = i
  ·subst hj; rw [ha] at q1; cases q1; exact hP
  ·rw [List.getElem?_set_ne (Ne.symm hj)] at q2; exact r.sep j b u q1 q2 q3
 ·by_cases hj : j = i
  ·subst hj; rw [ha] at q1; cases q1
   rw [List.getElem?_set_self hi] at q2; cases q2
   exact hm
  ·rw [List.getElem?_set_ne (Ne.symm hj)] at q2
   have hb : b ≠ a := by rintro rfl; exact hj (qNY r.nd q1 ha)
   have z := r.at' j b u q1 q2
   cases u with
   | dead => trivial
   | lst ds => obtain ⟨vs, q, t⟩ := z; exact ⟨vs, by rw [qAa hb]; exact q, t⟩
   | dct kvs => obtain ⟨vs, q, t⟩ := z; exact ⟨vs, by rw [qAa hb]; exact q, t⟩
   | ins C fs => obtain ⟨dx, vs, q, t⟩ := z; exact ⟨dx, vs, by rw [qAa hb]; exact q, t⟩
 ·by_cases hb : b = a
  ·subst hb; rw [qA5]; intro z; cases z
  ·rw [qAa hb]; exact r.own j b q
end
end DL
end
section
namespace DL
open PySem PySem.Spec PyProof.Rows L2
abbrev DE := qAI → Sto → Res D
abbrev DT := qAI → Sto → Res Bool
abbrev DA := qAI → Sto → Res (List D)
inductive Out where
 | nx (env : qAI) (S : Sto) | rt (d : D) (S : Sto) | bk (env : qAI) (S : Sto) | ct (env : qAI) (S : Sto) | ex (c : Value) (x : D) (env : qAI) (S : Sto) | bad
abbrev DS := qAI → Sto → Out
noncomputable def Old (X : Cx) (pins : List (Addr × Obj)) (H : Hp) (b : Addr) : Prop :=
 (∃ o, X.s₀.heap.get? b = some o) ∨ H b ≠ none ∨ (∃ p ∈ X.pn ++ pins, p.1 = b) ∨ ∃ x, X.env.cells.lookup x = some b
noncomputable def Cv (X : Cx) (pins : List (Addr × Obj)) (H : Hp) (B h : Heap) : Prop := ∀ b o, h.get? b = some o → Old X pins H b → b ∉ frs X.stack → B.get? b = some o
inductive FlyX (X : Cx) (pins : List (Addr × Obj)) (H : Hp) (c : Value) (e : Addr) (h : Heap) : Prop where
 | new (g : Heap) (args : List Value) : Heap.MadeExcOf g h e c args → g.FunFrames X.base X.stack → (∀ b o, h.get? b = some o → Old X pins H b → g.get? b = some o) → FlyX X pins H c e h
 | fly (B : Heap) (a0 : Value) : Heap.FlyingW B X.stack e c a0 h → Cv X pins H B h → FlyX X pins H c e h
inductive XOk (X : Cx) (P : Hp) (α : List Addr) (c : Value) (x : D) (S : Sto) (u : Value) (s : Shared) : Prop
 | mk (e : Addr) (pins : List (Addr × Obj)) (σ : L2.St) (H : Hp) (P' : Hp) (α' : List Addr) (e1 : u = .ref e) (I : Inv X pins σ H s) (r : Rel X.K H P' α' S) (q1 : qAJ P P') (q2 : α <+: α') (q3 : X.ex = [] ∧ X.stack = X.env :: X.outer ∧ X.env.frame = some X.env.locals) (q4 : FlyX X pins H c e s.heap) : XOk X P α c x S u s
theorem XOk.base {X : Cx} {P P1 : Hp} {α α1 : List Addr} {c : Value} {x : D} {S : Sto} {u : Value} {s : Shared} (e : qAJ P P1) (h : α <+: α1) (k : XOk X P1 α1 c x S u s) : XOk X P α c x S u s := by
 obtain ⟨a, pins, σ, H, P', α', e1, I, r, q1, q2, q3, q4⟩ := k
 exact ⟨a, pins, σ, H, P', α', e1, I, r, e.trans q1, h.trans q2, q3, q4⟩
section
variable (X : Cx)
noncomputable def qAY {β : Type} (P : Hp) (α : List Addr) (r : Res β) (Ok : β → Sto → Prop) : Prop :=
 match r with
 | .ok d S' => Ok d S'
 | .ex c x S' => ∀ u s', XOk X P α c x S' u s' → X.xe u s'
 | .bad => False
noncomputable def OkV (P : Hp) (α : List Addr) (Q : VK) (d : D) (S' : Sto) : Prop := ∀ v H' P' α', Rel X.K H' P' α' S' → qAJ P P' → α <+: α' → Rep X.K P' α' d v → Q v H'
noncomputable def OkT (P : Hp) (α : List Addr) (Q : Bool → Hp → Prop) (b : Bool) (S' : Sto) : Prop := ∀ H' P' α', Rel X.K H' P' α' S' → qAJ P P' → α <+: α' → Q b H'
noncomputable def OkA (P : Hp) (α : List Addr) (Q : List V → Hp → Prop) (ds : List D) (S' : Sto) : Prop := ∀ vs H' P' α', Rel X.K H' P' α' S' → qAJ P P' → α <+: α' → qAL X.K P' α' ds vs → Q vs H'
abbrev qAp (P : Hp) (α : List Addr) (r : Res D) (Q : VK) : Prop := qAY X P α r (OkV X P α Q)
abbrev qGK (P : Hp) (α : List Addr) (r : Res Bool) (Q : Bool → Hp → Prop) : Prop := qAY X P α r (OkT X P α Q)
abbrev qJM (P : Hp) (α : List Addr) (r : Res (List D)) (Q : List V → Hp → Prop) : Prop := qAY X P α r (OkA X P α Q)
noncomputable def qAi (P : Hp) (α : List Addr) (r : Out) (D : Ends) : Prop :=
 match r with
 | .nx env' S' => ∀ σ' H' P' α', Rel X.K H' P' α' S' → qAu X.K P' α' σ' env' → qAJ P P' → α <+: α' → D.nx σ' H'
 | .bk env' S' => ∀ σ' H' P' α', Rel X.K H' P' α' S' → qAu X.K P' α' σ' env' → qAJ P P' → α <+: α' → D.bk σ' H'
 | .ct env' S' => ∀ σ' H' P' α', Rel X.K H' P' α' S' → qAu X.K P' α' σ' env' → qAJ P P' → α <+: α' → D.ct σ' H'
 | .rt d S' => ∀ v H' P' α', Rel X.K H' P' α' S' → qAJ P P' → α <+: α' → Rep X.K P' α' d v → D.rt v H'
 | .ex c x _ S' => ∀ u s', XOk X P α c x S' u s' → X.xe u s'
 | .bad => False
inductive tD (f : DE) (σ : L2.St) (H : Hp) (Q : VK) : Prop
 | mk (P : Hp) (α : List Addr) (env : qAI) (S : Sto) (r : Rel X.K H P α S) (re : qAu X.K P α σ env) (af : qAp X P α (f env S) Q) : tD f σ H Q
inductive tDT (f : DT) (σ : L2.St) (H : Hp) (Q : Bool → Hp → Prop) : Prop
 | mk (P : Hp) (α : List Addr) (env : qAI) (S : Sto) (r : Rel X.K H P α S) (re : qAu X.K P α σ env) (af : qGK X P α (f env S) Q) : tDT f σ H Q
inductive tDA (f : DA) (σ : L2.St) (H : Hp) (Q : List V → Hp → Prop) : Prop
 | mk (P : Hp) (α : List Addr) (env : qAI) (S : Sto) (r : Rel X.K H P α S) (re : qAu X.K P α σ env) (af : qJM X P α (f env S) Q) : tDA f σ H Q
inductive tDS (f : DS) (D : Ends) (σ : L2.St) (H : Hp) : Prop
 | mk (P : Hp) (α : List Addr) (env : qAI) (S : Sto) (r : Rel X.K H P α S) (re : qAu X.K P α σ env) (af : qAi X P α (f env S) D) : tDS f D σ H
end
section
variable {X : Cx} {P P1 : Hp} {α α1 : List Addr}
theorem qAp.base {r : Res D} {Q : VK} (e : qAJ P P1) (h : α <+: α1) (k : qAp X P α r Q) : qAp X P1 α1 r Q := by
 cases r with
 | ok d S => exact fun v H' P' α' r q1 q2 q3 => k v H' P' α' r (e.trans q1) (h.trans q2) q3
 | ex c x S => exact fun u s' q => k u s' (q.base e h)
 | bad => exact k
theorem qGK.base {r : Res Bool} {Q : Bool → Hp → Prop} (e : qAJ P P1) (h : α <+: α1) (k : qGK X P α r Q) : qGK X P1 α1 r Q := by
 cases r with
 | ok d S => exact fun H' P' α' r q1 q2 => k H' P' α' r (e.trans q1) (h.trans q2)
 | ex c x S => exact fun u s' q => k u s' (q.base e h)
 | bad => exact k
theorem qJM.base {r : Res (List D)} {Q : List V → Hp → Prop} (e : qAJ P P1) (h : α <+: α1) (k : qJM X P α r Q) : qJM X P1 α1 r Q := by
 cases r with
 | ok d S => exact fun v H' P' α' r q1 q2 q3 => k v H' P' α' r (e.trans q1) (h.trans q2) q3
 | ex c x S => exact fun u s' q => k u s' (q.base e h)
 | bad => exact k
theorem qAi.base {r : Out} {D : Ends} (e : qAJ P P1) (h : α <+: α1) (k : qAi X P α r D) : qAi X P1 α1 r D := by
 cases r with
 | nx env S => exact fun v H' P' α' r q0 q1 q2 => k v H' P' α' r q0 (e.trans q1) (h.trans q2)
 | bk env S => exact fun v H' P' α' r q0 q1 q2 => k v H' P' α' r q0 (e.trans q1) (h.trans q2)
 | ct env S => exact fun v H' P' α' r q0 q1 q2 => k v H' P' α' r q0 (e.trans q1) (h.trans q2)
 | rt d S => exact fun v H' P' α' r q1 q2 q3 => k v H' P' α' r (e.trans q1) (h.trans q2) q3
 | ex c x env S => exact fun u s' q => k u s' (q.base e h)
 | bad => exact k
theorem xr {Q : VK} {v : V} {H : Hp} {d : D} {S : Sto} (k : OkV X P α Q d S) (r : Rel X.K H P α S) (q : Rep X.K P α d v) : Q v H := k v H P α r (qAJ.refl _) (List.prefix_refl _) q
end
section
variable {X : Cx} {a b e : Expr} {pos : Pos}
theorem peW {t t' : TE} (h : PE X e t) (w : ∀ σ H Q, t' σ H Q → t σ H Q) : PE X e t' := fun pins s σ H Q I q => h pins s σ H Q I (w σ H Q q)
theorem psW {st : Stmt} {t t' : TS} (h : PS X st t) (w : ∀ D σ H, t' D σ H → t D σ H) : PS X st t' := fun pins s σ H D I q => h pins s σ H D I (w D σ H q)
theorem qXc {st : List Stmt} {t t' : TS} (h : PSs X st t) (w : ∀ D σ H, t' D σ H → t D σ H) : PSs X st t' := fun pins s σ H D I q => h pins s σ H D I (w D σ H q)
theorem paW {es : List Expr} {t t' : TA} (h : PA X es t) (w : ∀ σ H Q, t' σ H Q → t σ H Q) : PA X es t' := fun pos pins s σ H Q I q => h pos pins s σ H Q I (w σ H Q q)
structure Got (X : Cx) (pins : List (Addr × Obj)) (σ : L2.St) (env : qAI) (P : Hp) (α : List Addr) (u : Value) (s1 : Shared) (v : V) (H1 P1 : Hp) (α1 : List Addr) (d : D) (S1 : Sto) : Prop where
 inv : Inv X pins σ H1 s1
 val : qAR v u
 rel : Rel X.K H1 P1 α1 S1
 env : qAu X.K P1 α1 σ env
 rep : Rep X.K P1 α1 d v
 same : qAJ P P1
 pre : α <+: α1
inductive GotG (X : Cx) (pins : List (Addr × Obj)) (σ : L2.St) (env : qAI) (P : Hp) (α : List Addr) (u : Value) (s1 : Shared) {γ : Type} (g : D → Sto → Res γ) (Ok : γ → Sto → Prop) : Prop
 | mk (v : V) (H1 P1 : Hp) (α1 : List Addr) (d : D) (S1 : Sto) (G : Got X pins σ env P α u s1 v H1 P1 α1 d S1) (q : qAY X P α (g d S1) Ok) : GotG X pins σ env P α u s1 g Ok
inductive GotAG (X : Cx) (pins : List (Addr × Obj)) (σ : L2.St) (env : qAI) (P : Hp) (α : List Addr) (us : List Value) (s1 : Shared) {γ : Type} (g : List D → Sto → Res γ) (Ok : γ → Sto → Prop) : Prop
 | mk (vs : List V) (H1 P1 : Hp) (α1 : List Addr) (ds : List D) (S1 : Sto) (I : Inv X pins σ H1 s1) (rv : qAZ vs us) (r : Rel X.K H1 P1 α1 S1) (re : qAu X.K P1 α1 σ env) (rp : qAL X.K P1 α1 ds vs) (e1 : qAJ P P1) (e2 : α <+: α1) (q : qAY X P α (g ds S1) Ok) : GotAG X pins σ env P α us s1 g Ok
inductive GotT (X : Cx) (pins : List (Addr × Obj)) (σ : L2.St) (env : qAI) (P : Hp) (α : List Addr) (b : Bool) (s1 : Shared) {γ : Type} (g : Bool → Sto → Res γ) (Ok : γ → Sto → Prop) : Prop
 | mk (H1 P1 : Hp) (α1 : List Addr) (S1 : Sto) (I : Inv X pins σ H1 s1) (r : Rel X.K H1 P1 α1 S1) (re : qAu X.K P1 α1 σ env) (e1 : qAJ P P1) (e2 : α <+: α1) (q : qAY X P α (g b S1) Ok) : GotT X pins σ env P α b s1 g Ok
theorem qBd {γ : Type} {f : DE} {g : D → Sto → Res γ} {Ok : γ → Sto → Prop} {pins : List (Addr × Obj)} {s : Shared} {σ : L2.St} {H P : Hp} {α : List Addr} {env : qAI} {S : Sto} (he : PE X e (tD X f)) (I : Inv X pins σ H s) (r : Rel X.K H P α S)
  (re : qAu X.K P α σ env) (af : qAY X P α ((f env S).bind g) Ok) :
  wpAny (model X.prog X.w) X.A (eval e X.env) (fun u s1 => GotG X pins σ env P α u s1 g Ok) X.xe s := by
 refine thn (he pins s σ H (fun v H1 => ∃ P1 α1 d S1, Rel X.K H1 P1 α1 S1 ∧ qAu X.K P1 α1 σ env ∧ Rep X.K P1 α1 d v ∧ qAJ P P1 ∧ α <+: α1 ∧ qAY X P α (g d S1) Ok) I ⟨P, α, env, S, r, re, ?_⟩) fun u s1 ⟨v, H1, I1, rv, P1, α1, d, S1, q1, q2, q3, q4, q5, q6⟩ => ⟨v, H1, P1, α1, d, S1, ⟨I1, rv, q1, q2, q3, q4, q5⟩, q6⟩
 cases q : f env S with
 | bad => rw [q] at af; exact af
 | ex c x S' => rw [q] at af; exact af
 | ok d S' =>
  rw [q] at af
  exact fun v H' P' α' r' e1 e2 rp => ⟨P', α', d, S', r', re.mono e1 e2, rp, e1, e2, af⟩
theorem qDx {γ : Type} {es : List Expr} {f : DA} {g : List D → Sto → Res γ} {Ok : γ → Sto → Prop} {pins : List (Addr × Obj)} {s : Shared} {σ : L2.St} {H P : Hp} {α : List Addr} {env : qAI} {S : Sto} (he : PA X es (tDA X f)) (I : Inv X pins σ H s) (r : Rel X.K H P α S)
  (re : qAu X.K P α σ env) (af : qAY X P α ((f env S).bind g) Ok) (pos : Pos) :
  wpAny (model X.prog X.w) X.A (spliced (backTo pos (starEach es X.env))) (fun us s1 => GotAG X pins σ env P α us s1 g Ok) X.xe s := by
 refine thn (he pos pins s σ H (fun vs H1 => ∃ P1 α1 ds S1, Rel X.K H1 P1 α1 S1 ∧ qAu X.K P1 α1 σ env ∧ qAL X.K P1 α1 ds vs ∧ qAJ P P1 ∧ α <+: α1 ∧ qAY X P α (g ds S1) Ok) I ⟨P, α, env, S, r, re, ?_⟩) fun u s1 ⟨v, H1, I1, rv, P1, α1, d, S1, q1, q2, q3, q4, q5, q6⟩ => ⟨v, H1, P1, α1, d, S1, I1, rv, q1, q2, q3, q4, q5, q6⟩
 cases q : f env S with
 | bad => rw [q] at af; exact af
 | ex c x S' => rw [q] at af; exact af
 | ok d S' =>
  rw [q] at af
  exact fun v H' P' α' r' e1 e2 rp => ⟨P', α', d, S', r', re.mono e1 e2, rp, e1, e2, af⟩
theorem qHs {γ : Type} {f : DT} {g : Bool → Sto → Res γ} {Ok : γ → Sto → Prop} {pins : List (Addr × Obj)} {s : Shared} {σ : L2.St} {H P : Hp} {α : List Addr} {env : qAI} {S : Sto} {m : Sem Bool}
  (he : ∀ (Q : Bool → Hp → Prop), tDT X f σ H Q → wpAny (model X.prog X.w) X.A m (TP X pins σ Q) X.xe s) (r : Rel X.K H P α S) (re : qAu X.K P α σ env) (af : qAY X P α ((f env S).bind g) Ok) :
  wpAny (model X.prog X.w) X.A m (fun b s1 => GotT X pins σ env P α b s1 g Ok) X.xe s := by
 refine thn (he (fun b H1 => ∃ P1 α1 S1, Rel X.K H1 P1 α1 S1 ∧ qAu X.K P1 α1 σ env ∧ qAJ P P1 ∧ α <+: α1 ∧ qAY X P α (g b S1) Ok) ⟨P, α, env, S, r, re, ?_⟩) fun b s1 ⟨H1, I1, P1, α1, S1, q1, q2, q4, q5, q6⟩ => ⟨H1, P1, α1, S1, I1, q1, q2, q4, q5, q6⟩
 cases q : f env S with
 | bad => rw [q] at af; exact af
 | ex c x S' => rw [q] at af; exact af
 | ok d S' =>
  rw [q] at af
  exact fun H' P' α' r' e1 e2 => ⟨P', α', S', r', re.mono e1 e2, e1, e2, af⟩
noncomputable def dC (d : D) : DE := fun _ S => .ok d S
noncomputable def qAD (i : Nat) : DE := fun env S => match env[i]? with
 | some (some d) => .ok d S
 | _ => .bad
theorem qWE {i j} : PE X (.Constant (.int i) j pos) (tD X (dC (.int i))) := peW qXP fun σ H Q ⟨P, α, env, S, r, re, af⟩ => xr af r (by simp only [Rep])
theorem qX7 {i j} : PE X (.Constant (.bool i) j pos) (tD X (dC (.bl i))) := peW qYe fun σ H Q ⟨P, α, env, S, r, re, af⟩ => xr af r (by simp only [Rep])
theorem qWI {i j} : PE X (.Constant (.str i) j pos) (tD X (dC (.str i))) := peW qXS fun σ H Q ⟨P, α, env, S, r, re, af⟩ => xr af r (by simp only [Rep])
theorem qWF {j} : PE X (.Constant .none j pos) (tD X (dC .non)) := peW qXQ fun σ H Q ⟨P, α, env, S, r, re, af⟩ => xr af r (by simp only [Rep])
set_option tactic.hygienic true in
theorem qVk {i : Nat} {σ : L2.St} {H : Hp} {Q : VK} (h : tD X (qAD i) σ H Q) : qXt i σ H Q := by
 obtain ⟨P, α, env, S, r, re, af⟩ := h
 unfold qAD at af
 split at af
 ·rename_i d q
  obtain ⟨v, h1, h2⟩ := re.2 i d q
  exact ⟨v, h1, xr af r h2⟩
 ·exact False.elim af
theorem dv (i : Nat) {x : Str} (hN : autoParam (X.N[i]? = some x) au3._auto_1) (hv : Vis X.env.scope x := by first | exact Or.inl rfl | exact Or.inr (Or.inl rfl) | exact Or.inr (Or.inr rfl)) (hd : (x == ("__debug__" : Str)) = false := by decide)
  (hcd : autoParam ((x == ("__classdict__" : Str)) = false) au2._auto_1) : PE X (.Name x pos) (tD X (qAD i)) := peW (qXU hN hv hd hcd) fun σ H Q h => qVk h
theorem qUT {x : Str} {d : D} {v : V} {u : Value} (hg : Gl X x) (hm : X.mg x = some u) (r : qAR v u) (q : ∀ P α, Rep X.K P α d v) (hd : autoParam ((x == ("__debug__" : Str)) = false) au2._auto_1) : PE X (.Name x pos) (tD X (dC d)) :=
 peW (qVO hg hm r hd) fun σ H Q ⟨P, α, env, S, r, re, af⟩ => xr af r (q _ _)
theorem qUQ {x : Str} {n : String} (hg : Gl X x) (hm : X.mg x = none) (hv : bootBuiltins x = some (.type n)) (hn : autoParam (x ≠ "__name__") au2._auto_1) (hd : autoParam ((x == ("__debug__" : Str)) = false) au2._auto_1) : PE X (.Name x pos) (tD X (dC (.ty n))) :=
 peW (qVN (v := .ty n) hg hm hv rfl hn hd) fun σ H Q ⟨P, α, env, S, r, re, af⟩ => xr af r (by simp only [Rep])
abbrev G2 := D → D → Sto → Res D
noncomputable def OpD (X : Cx) (f : Value → Value → Sem Value) (g : G2) : Prop :=
 ∀ (pins : List (Addr × Obj)) (σ : L2.St) (H : Hp) (s : Shared) (P : Hp) (α : List Addr) (S : Sto) (v u : V) (vv uu : Value) (a b : D) (Q : VK), Inv X pins σ H s → Rel X.K H P α S → qAR v vv → qAR u uu → Rep X.K P α a v → Rep X.K P α b u → qAp X P α (g a b S) Q →
  wpAny (model X.prog X.w) X.A (f vv uu) (EP X pins σ Q) X.xe s
theorem OpD.of {f : Value → Value → Sem Value} {r : R2} {g : G2} (h : OpR X f r) (w : ∀ H P α S v u a b Q, Rel X.K H P α S → Rep X.K P α a v → Rep X.K P α b u → qAp X P α (g a b S) Q → r v u H Q) : OpD X f g :=
 fun pins σ H s P α S v u vv uu a b Q I rl r1 r2 p1 p2 af => h pins s σ H v u vv uu Q I r1 r2 (w H P α S v u a b Q rl p1 p2 af)
noncomputable def UnD (X : Cx) (f : Value → Sem Value) (g : D → Sto → Res D) : Prop :=
 ∀ (pins : List (Addr × Obj)) (σ : L2.St) (H : Hp) (s : Shared) (P : Hp) (α : List Addr) (S : Sto) (v : V) (vv : Value) (a : D) (Q : VK), Inv X pins σ H s → Rel X.K H P α S → qAR v vv → Rep X.K P α a v → qAp X P α (g a S) Q →
  wpAny (model X.prog X.w) X.A (f vv) (EP X pins σ Q) X.xe s
noncomputable def IxD (X : Cx) (g : G2) : Prop :=
 ∀ (value slice : Expr) (pins : List (Addr × Obj)) (σ : L2.St) (H : Hp) (s : Shared) (P : Hp) (α : List Addr) (S : Sto) (v u : V) (vv uu : Value) (a b : D) (Q : VK), Inv X pins σ H s → Rel X.K H P α S → qAR v vv → qAR u uu → Rep X.K P α a v → Rep X.K P α b u → qAp X P α (g a b S) Q →
  subscripted slice false vv uu = operate [vv, uu] (getItem vv uu) → wpAny (model X.prog X.w) X.A (subscriptTail value slice vv uu) (EP X pins σ Q) X.xe s
noncomputable def qF9 (X : Cx) (f : Value) (g : List D → Sto → Res D) : Prop :=
 ∀ (pins : List (Addr × Obj)) (σ : L2.St) (H : Hp) (s : Shared) (P : Hp) (α : List Addr) (S : Sto) (vs : List V) (us : List Value) (ds : List D) (Q : VK), Inv X pins σ H s → Rel X.K H P α S → qAZ vs us → qAL X.K P α ds vs → qAp X P α (g ds S) Q →
  wpAny (model X.prog X.w) X.A (call f us) (EP X pins σ Q) X.xe s
noncomputable def d2 (g : G2) (fa fb : DE) : DE := fun env S => (fa env S).bind fun x S1 => (fb env S1).bind fun y S2 => g x y S2
noncomputable def d1 (g : D → Sto → Res D) (fa : DE) : DE := fun env S => (fa env S).bind g
variable {fa fb : DE}
theorem qOL {g : G2} {f : Value → Value → Sem Value} {pins : List (Addr × Obj)} {s : Shared} {σ : L2.St} {H : Hp} {Q : VK} (ho : OpD X f g) (ha : PE X a (tD X fa)) (hb : PE X b (tD X fb)) (I : Inv X pins σ H s) (h : tD X (d2 g fa fb) σ H Q) :
  wpAny (model X.prog X.w) X.A (eval a X.env) (fun v s₁ => wpAny (model X.prog X.w) X.A (eval b X.env) (fun u s₂ => wpAny (model X.prog X.w) X.A (f v u) (EP X pins σ Q) X.xe s₂) X.xe s₁) X.xe s := by
 obtain ⟨P, α, env, S, r, re, af⟩ := h
 refine thn (qBd ha I r re af) fun vv s1 ⟨v, H1, P1, α1, d, S1, G1, af1⟩ => ?_
 refine thn (qBd hb G1.inv G1.rel G1.env (P := P1) (α := α1) (Ok := OkV X P1 α1 Q) (g := fun y S2 => g d y S2) ?_) fun uu s2 ⟨u, H2, P2, α2, d', S2, G2, af2⟩ => ?_
 ·exact qAp.base G1.same G1.pre af1
 ·exact ho pins σ H2 s2 P2 α2 S2 v u vv uu d d' Q G2.inv G2.rel G1.val G2.val (Rep.mono G2.same G2.pre _ _ G1.rep) G2.rep (qAp.base G2.same G2.pre af2)
theorem qYA {op : Operator} {g : G2} (ho : OpD X (binaryOp op) g) (ha : PE X a (tD X fa)) (hb : PE X b (tD X fb)) : PE X (.BinOp a op b pos) (tD X (d2 g fa fb)) :=
 fun pins s σ H Q I h => wpAny_BinOp (qOL ho ha hb I h)
theorem qWA {op : CmpOp} {g : G2} (ho : OpD X (compareOp op) g) (ha : PE X a (tD X fa)) (hb : PE X b (tD X fb)) (hm : behindInMarks op b = false := by first | exact qL6 _ | with_unfolding_all rfl) : PE X (.Compare a [op] [b] pos) (tD X (d2 g fa fb)) :=
 fun pins s σ H Q I h => wpAny_Compare1 (qOL ho ha hb I h) hm
theorem qYC {op : UnaryOp} {g : D → Sto → Res D} (ho : UnD X (unaryOp op) g) (ha : PE X a (tD X fa)) : PE X (.UnaryOp op a pos) (tD X (d1 g fa)) := by
 intro pins s σ H Q I h
 obtain ⟨P, α, env, S, r, re, af⟩ := h
 exact UnaryOp_ (thn (qBd ha I r re af) fun vv s1 ⟨v, H1, P1, α1, d, S1, G1, af1⟩ => ho pins σ H1 s1 P1 α1 S1 v vv d Q G1.inv G1.rel G1.val G1.rep (qAp.base G1.same G1.pre af1))
theorem qTz {g : G2} (ho : IxD X g) (ha : PE X a (tD X fa)) (hb : PE X b (tD X fb)) (hs : autoParam (qHc b) au5._auto_1) : PE X (.Subscript a b pos) (tD X (d2 g fa fb)) := by
 intro pins s σ H Q I h
 obtain ⟨P, α, env, S, r, re, af⟩ := h
 have IxR' : IxR X (fun x y H Q => ∃ P α S a b, Rel X.K H P α S ∧ Rep X.K P α a x ∧ Rep X.K P α b y ∧ qAp X P α (g a b S) Q) := fun value slice pins s σ H x y v u Q I rx ry ⟨P, α, S, a, b, r, p1, p2, af⟩ hsl =>
  ho value slice pins σ H s P α S x y v u a b Q I r rx ry p1 p2 af hsl
 refine peW (qYf IxR' ha hb hs) (t' := tD X (d2 g fa fb)) (fun σ H Q h => ?_) pins s σ H Q I ⟨P, α, env, S, r, re, af⟩
 obtain ⟨P, α, env, S, r, re, af⟩ := h
 refine ⟨P, α, env, S, r, re, ?_⟩
 unfold d2 at af
 cases q : fa env S with
 | bad => rw [q] at af; exact af
 | ex c x S' => rw [q] at af; exact af
 | ok d S1 =>
  rw [q] at af
  intro v H1 P1 α1 r1 e1 e2 rp
  refine ⟨P1, α1, env, S1, r1, re.mono e1 e2, ?_⟩
  have af' : qAp X P α ((fb env S1).bind fun y S2 => g d y S2) Q := af
  cases q2 : fb env S1 with
  | bad => rw [q2] at af'; exact af'
  | ex c x S' => rw [q2] at af'; exact fun u s' z => af' u s' (z.base e1 e2)
  | ok d' S2 =>
   rw [q2] at af'
   intro u H2 P2 α2 r2 e3 e4 rp2
   exact ⟨P2, α2, S2, d, d', r2, Rep.mono e3 e4 _ _ rp, rp2, qAp.base (e1.trans e3) (e2.trans e4) af'⟩
noncomputable def qAE : DA := fun _ S => .ok [] S
noncomputable def qAA (f : DE) (g : DA) : DA := fun env S => (f env S).bind fun x S1 => (g env S1).bind fun xs S2 => .ok (x :: xs) S2
theorem qRS : PA X [] (tDA X qAE) := paW qXO fun σ H Q ⟨P, α, env, S, r, re, af⟩ => af [] H P α r (qAJ.refl _) (List.prefix_refl _) .nil
theorem qP6 {es : List Expr} {g : DA} (ha : PE X e (tD X fa)) (hr : PA X es (tDA X g)) (hs : autoParam (starEach (e :: es) X.env = (false, eval e X.env) :: starEach es X.env) au3._auto_1) : PA X (e :: es) (tDA X (qAA fa g)) := by
 intro pos pins s σ H Q I h
 obtain ⟨P, α, env, S, r, re, af⟩ := h
 rw [hs]
 show wpAny _ _ (spliced ((false, eval e X.env) :: backTo pos (starEach es X.env))) _ _ s
 refine Calls.spliced_cons (thn (qBd ha I r re af) fun u s1 ⟨x, H1, P1, α1, d, S1, G1, af1⟩ => ?_)
 refine thn (qDx hr G1.inv G1.rel G1.env (P := P1) (α := α1) (Ok := OkA X P1 α1 Q) (qJM.base G1.same G1.pre af1) pos) fun us s2 ⟨xs, H2, P2, α2, ds, S2, I2, rv, r2, re2, rp2, e1, e2, af2⟩ => ?_
 exact ⟨x :: xs, H2, I2, .cons G1.val rv, af2 _ _ _ _ r2 e1 e2 (.cons (Rep.mono e1 e2 _ _ G1.rep) rp2)⟩
noncomputable def lim : Nat := 16777216
theorem qBg : lim = sizeLine := sizeLine_eq.symm
noncomputable def qBH (f : DA) : DE := fun env S => (f env S).bind fun xs S1 => if xs.length ≤ lim then .ok (.tup xs) S1 else .bad
noncomputable def qAv (f : DA) : DE := fun env S => (f env S).bind fun xs S1 => if xs.length ≤ lim then .ok (.lst xs) S1 else .bad
noncomputable def qJ2 (f : DA) : DE := fun env S => (f env S).bind fun xs S1 => if xs.length ≤ lim then .ok (.loc S1.length) (S1 ++ [.lst xs]) else .bad
theorem qQW {K : PySem.W.Frag} {P : Hp} {α : List Addr} {a : Addr} {ds : List D} {vs : List V} (h : SqT K P a vs) (r : qAL K P α ds vs) : Rep K P α (.tup ds) (.ref a) := by simp only [Rep]; exact ⟨a, vs, rfl, h, r⟩
theorem qM4 {K : PySem.W.Frag} {P : Hp} {α : List Addr} {a : Addr} {ds : List D} {vs : List V} (h : SqX K P a vs) (r : qAL K P α ds vs) : Rep K P α (.lst ds) (.ref a) := by simp only [Rep]; exact ⟨a, vs, rfl, h, r⟩
theorem qLO {H P : Hp} {α : List Addr} {S : Sto} {p : Addr} {ds : List D} {vs : List V} {Q : VK} (r : Rel X.K H P α S) (hp : H p = none) (rp : qAL X.K P α ds vs) (af : OkV X P α Q (.tup ds) S) : Q (.ref p) (upd H p (.tup vs)) := by
 obtain ⟨r1, e1⟩ := r.pure (o := .tup vs) hp
 exact af _ _ _ α r1 e1 (List.prefix_refl _) (qQW (.of qA5) (qAL.mono e1 (List.prefix_refl _) _ _ rp))
theorem qGr {H P : Hp} {α : List Addr} {S : Sto} {p : Addr} {ds : List D} {vs : List V} {Q : VK} (r : Rel X.K H P α S) (hp : H p = none) (rp : qAL X.K P α ds vs) (af : OkV X P α Q (.lst ds) S) : Q (.ref p) (upd H p (.lst vs)) := by
 obtain ⟨r1, e1⟩ := r.pure (o := .lst vs) hp
 exact af _ _ _ α r1 e1 (List.prefix_refl _) (qM4 (.inl (.inl qA5)) (qAL.mono e1 (List.prefix_refl _) _ _ rp))
theorem qQN {H P : Hp} {α : List Addr} {S : Sto} {p : Addr} {ds : List D} {vs : List V} {Q : VK} (r : Rel X.K H P α S) (hp : H p = none) (rp : qAL X.K P α ds vs) (af : OkV X P α Q (.loc S.length) (S ++ [.lst ds])) : Q (.ref p) (upd H p (.lst vs)) := by
 have hpre : α <+: α ++ [p] := List.prefix_append _ _
 have r1 := r.new (o := .lst vs) (m := .lst ds) hp ⟨vs, qA5, qAL.mono (qAJ.refl _) hpre _ _ rp⟩
 refine af _ _ _ _ r1 (qAJ.refl _) hpre ?_
 simp only [Rep]
 exact ⟨p, rfl, by rw [← r.len]; simp⟩
theorem qMY {f : DA} {σ : L2.St} {H : Hp} {Q : VK} {G : List D → Sto → Res D} {mk : List V → HO} (h : tD X (fun env S => (f env S).bind fun xs S1 => if xs.length ≤ lim then G xs S1 else .bad) σ H Q)
  (k : ∀ H1 P1 α1 S1 ds vs p, Rel X.K H1 P1 α1 S1 → H1 p = none → qAL X.K P1 α1 ds vs → qAp X P1 α1 (G ds S1) Q → Q (.ref p) (upd H1 p (mk vs))) :
  tDA X f σ H fun vs H1 => vs.length ≤ sizeLine ∧ ∀ p, H1 p = none → Q (.ref p) (upd H1 p (mk vs)) := by
 obtain ⟨P, α, env, S, r, re, af⟩ := h
 refine ⟨P, α, env, S, r, re, ?_⟩
 have af' : qAp X P α ((f env S).bind fun xs S1 => if xs.length ≤ lim then G xs S1 else .bad) Q := af
 cases q : f env S with
 | bad => rw [q] at af'; exact af'
 | ex c x S' => rw [q] at af'; exact af'
 | ok ds S1 =>
  rw [q] at af'
  intro vs H1 P1 α1 r1 e1 e2 rp
  have af2 : qAp X P α (if ds.length ≤ lim then G ds S1 else .bad) Q := af'
  by_cases hl : ds.length ≤ lim
  ·rw [if_pos hl] at af2
   exact ⟨by rw [← rp.length, ← qBg]; exact hl, fun p hp => k H1 P1 α1 S1 ds vs p r1 hp rp (qAp.base e1 e2 af2)⟩
  ·rw [if_neg hl] at af2; exact False.elim af2
theorem qWK {es : List Expr} {f : DA} {x1} (h : PA X es (tDA X f)) : PE X (.Tuple es x1 pos) (tD X (qBH f)) :=
 peW (qXT h) fun σ H Q q => qMY (G := fun xs S1 => .ok (.tup xs) S1) (mk := .tup) q fun H1 P1 α1 S1 ds vs p r hp rp af => qLO r hp rp af
theorem qRd {es : List Expr} {f : DA} (h : PA X es (tDA X f)) : PE X (.List es pos) (tD X (qAv f)) :=
 peW (qR7 h) fun σ H Q q => qMY (G := fun xs S1 => .ok (.lst xs) S1) (mk := .lst) q fun H1 P1 α1 S1 ds vs p r hp rp af => qGr r hp rp af
theorem qUV {es : List Expr} {f : DA} (h : PA X es (tDA X f)) : PE X (.List es pos) (tD X (qJ2 f)) :=
 peW (qR7 h) fun σ H Q q => qMY (G := fun xs S1 => .ok (.loc S1.length) (S1 ++ [MO.lst xs])) (mk := .lst) q fun H1 P1 α1 S1 ds vs p r hp rp af => qQN r hp rp af
end
end DL
end
section
namespace DL
open PySem PySem.Spec PyProof.Rows L2
section
variable {X : Cx} {a b c e : Expr} {pos : Pos} {fa fb fc : DE} {ta tb : DT}
noncomputable def qCt : D → Sto → Option Bool
 | .non, _ => some false
 | .bl b, _ => some b
 | .int i, _ => some (i != 0)
 | .str x, _ => if x.length ≤ lim then some ((x.length : Int) != 0) else none
 | .tup xs, _ => some (!xs.isEmpty)
 | .lst xs, _ => some (!xs.isEmpty)
 | .dct0, _ => some false
 | .loc i, S => match S[i]? with
  | some (.lst xs) => some (!xs.isEmpty)
  | some (.dct kvs) => some (!kvs.isEmpty)
  | _ => none
 | _, _ => none
theorem qAL.isEmpty {K : PySem.W.Frag} {P : Hp} {α : List Addr} {ds : List D} {vs : List V} (r : qAL K P α ds vs) : (!ds.isEmpty) = !vs.isEmpty := by
 cases ds with
 | nil => rw [r.nil_inv]; rfl
 | cons d ds => obtain ⟨w, ws, rfl, _, _⟩ := r.cons_inv; rfl
theorem qDF {K : PySem.W.Frag} {H P : Hp} (e : qAJ P H) {a : Addr} {xs : List V} (h : SqT K P a xs) : SqT K H a xs := qFK e h
set_option tactic.hygienic true in
theorem qGJ {H P : Hp} {α : List Addr} {S : Sto} {v : V} {d : D} {k : Bool} (r : Rel X.K H P α S) (p : Rep X.K P α d v) (h : qCt d S = some k) : qQj X.K v H k := by
 cases d with
 | non => simp only [Rep] at p; subst p; cases h; rfl
 | bl b => simp only [Rep] at p; subst p; cases h; rfl
 | int i => simp only [Rep] at p; subst p; cases h; rfl
 | str x =>
  simp only [Rep] at p; subst p
  simp only [qCt] at h
  split at h
  ·rename_i hl; cases h; exact ⟨by rw [← qBg]; exact hl, rfl⟩
  ·cases h
 | tup xs =>
  simp only [Rep] at p
  obtain ⟨a, vs, rfl, q, t⟩ := p
  cases h
  exact .inr (.inl ⟨vs, qDF r.sub q, t.isEmpty⟩)
 | lst xs =>
  simp only [Rep] at p
  obtain ⟨a, vs, rfl, q, t⟩ := p
  cases h
  exact .inl ⟨vs, (qC5 r.sub q).l, t.isEmpty⟩
 | dct0 =>
  simp only [Rep] at p
  obtain ⟨a, rfl, q⟩ := p
  cases h
  exact .inr (.inr ⟨[], r.sub _ _ q, rfl⟩)
 | loc i =>
  simp only [Rep] at p
  obtain ⟨a, rfl, q⟩ := p
  simp only [qCt] at h
  split at h
  ·rename_i xs hs
   cases h
   obtain ⟨vs, z, t⟩ := r.at' i a _ q hs
   exact .inl ⟨vs, .of z, t.isEmpty⟩
  ·rename_i kvs hs
   cases h
   obtain ⟨vs, z, t⟩ := r.at' i a _ q hs
   refine .inr (.inr ⟨vs, z, ?_⟩)
   cases t <;> rfl
  ·cases h
 | ty n => cases h
 | obj a => cases h
 | exn c => cases h
 | fd ks ds => cases h
theorem qYy {pins : List (Addr × Obj)} {s : Shared} {σ : L2.St} {H P : Hp} {α : List Addr} {S : Sto} {v : V} {vv : Value} {d : D} {k : Bool} {Q : Bool → Hp → Prop} (I : Inv X pins σ H s) (r : Rel X.K H P α S) (rv : qAR v vv) (p : Rep X.K P α d v) (h : qCt d S = some k) (q : Q k H) :
  wpAny (model X.prog X.w) X.A (truthy vv) (TP X pins σ Q) X.xe s := qMG pins s σ H v vv Q I rv ⟨k, qGJ r p h, q⟩
noncomputable def qFr (o : Option Bool) (S : Sto) : Res Bool := match o with
 | some b => .ok b S
 | none => .bad
noncomputable def dTr (f : DE) : DT := fun env S => (f env S).bind fun d S1 => qFr (qCt d S1) S1
theorem qQX {o : Option Bool} {S : Sto} {P : Hp} {α : List Addr} {Ok : Bool → Sto → Prop} (h : qAY X P α (qFr o S) Ok) : ∃ b, o = some b ∧ Ok b S := by
 cases o with
 | none => exact False.elim h
 | some b => exact ⟨b, rfl, h⟩
theorem qWc (ha : PE X a (tD X fa)) (he : autoParam (∀ whole, isTrue a X.env whole = (do let v ← whole; standAt a.pos; holding [v] (truthy v))) au4._auto_1) : PT X a (tDT X (dTr fa)) := by
 intro pins s σ H Q I h
 obtain ⟨P, α, env, S, r, re, af⟩ := h
 refine isTrue_plain (thn (qBd ha I r re af) fun vv s1 ⟨v, H1, P1, α1, d, S1, G1, af1⟩ => ?_) (he _)
 obtain ⟨k, e1, q⟩ := qQX af1
 exact qYy G1.inv G1.rel G1.val G1.rep e1 (q H1 P1 α1 G1.rel G1.same G1.pre)
theorem qWa {op : CmpOp} {g : G2} (ho : OpD X (compareOp op) g) (ha : PE X a (tD X fa)) (hb : PE X b (tD X fb)) (hm : behindInMarks op b = false := by first | exact qL6 _ | with_unfolding_all rfl) : PT X (.Compare a [op] [b] pos) (tDT X (dTr (d2 g fa fb))) := by
 intro pins s σ H Q I h
 obtain ⟨P, α, env, S, r, re, af⟩ := h
 refine wpAny_isTrue_Compare1 ?_ hm
 have key : tD X (d2 g fa fb) σ H (fun v H1 => ∃ k, qQj X.K v H1 k ∧ Q k H1) := by
  refine ⟨P, α, env, S, r, re, ?_⟩
  have af' : qAY X P α ((d2 g fa fb env S).bind fun d S1 => qFr (qCt d S1) S1) (OkT X P α Q) := af
  cases q : d2 g fa fb env S with
  | bad => rw [q] at af'; exact af'
  | ex c x S' => rw [q] at af'; exact af'
  | ok d S1 =>
   rw [q] at af'
   obtain ⟨k, e1, qk⟩ := qQX (X := X) af'
   exact fun v H1 P1 α1 r1 e3 e4 rp => ⟨k, qGJ r1 rp e1, qk H1 P1 α1 r1 e3 e4⟩
 exact thn (qOL ho ha hb I key) fun v s1 h1 => thn h1 fun u s2 h2 => thn h2 fun x s3 ⟨y, H3, I3, r3, k, tk, qk⟩ => qMG pins s3 σ H3 y x Q I3 r3 ⟨k, tk, qk⟩
noncomputable def qOM (g g' : G2) (fa fb fc : DE) : DE := fun env S => (fa env S).bind fun x S1 => (fb env S1).bind fun y S2 => (g x y S2).bind fun z S3 =>
 match qCt z S3 with
 | some true => (fc env S3).bind fun w S4 => g' y w S4
 | some false => .ok z S3
 | none => .bad
inductive GotO (X : Cx) (pins : List (Addr × Obj)) (σ : L2.St) (P : Hp) (α : List Addr) (w : Value) (s1 : Shared) {γ : Type} (k : D → Sto → Res γ) (Ok : γ → Sto → Prop) : Prop
 | mk (y : V) (H1 P1 : Hp) (α1 : List Addr) (d : D) (S1 : Sto) (I : Inv X pins σ H1 s1) (rv : qAR y w) (r : Rel X.K H1 P1 α1 S1) (rp : Rep X.K P1 α1 d y) (e1 : qAJ P P1) (e2 : α <+: α1) (q : qAY X P α (k d S1) Ok) : GotO X pins σ P α w s1 k Ok
theorem qXH {γ : Type} {f : Value → Value → Sem Value} {g : G2} {k : D → Sto → Res γ} {Ok : γ → Sto → Prop} {pins : List (Addr × Obj)} {σ : L2.St} {H : Hp} {s : Shared} {P : Hp} {α : List Addr} {S : Sto} {v u : V} {vv uu : Value} {a b : D} (ho : OpD X f g) (I : Inv X pins σ H s) (r : Rel X.K H P α S)
  (rv : qAR v vv) (ru : qAR u uu) (pa : Rep X.K P α a v) (pb : Rep X.K P α b u) (af : qAY X P α ((g a b S).bind k) Ok) :
  wpAny (model X.prog X.w) X.A (f vv uu) (fun w s1 => GotO X pins σ P α w s1 k Ok) X.xe s := by
 refine thn (ho pins σ H s P α S v u vv uu a b (fun y H1 => ∃ P1 α1 d S1, Rel X.K H1 P1 α1 S1 ∧ Rep X.K P1 α1 d y ∧ qAJ P P1 ∧ α <+: α1 ∧ qAY X P α (k d S1) Ok) I r rv ru pa pb ?_) fun w s1 ⟨y, H1, I1, r1, P1, α1, d, S1, q1, q2, q3, q4, q5⟩ => ⟨y, H1, P1, α1, d, S1, I1, r1, q1, q2, q3, q4, q5⟩
 cases q : g a b S with
 | bad => rw [q] at af; exact af
 | ex c x S' => rw [q] at af; exact af
 | ok d S' =>
  rw [q] at af
  exact fun v H' P' α' r' e1 e2 rp => ⟨P', α', d, S', r', rp, e1, e2, af⟩
theorem qAY.base' {β : Type} {P P1 : Hp} {α α1 : List Addr} {r : Res β} {Ok Ok1 : β → Sto → Prop} (e : qAJ P P1) (h : α <+: α1) (ho : ∀ d S, Ok d S → Ok1 d S) (k : qAY X P α r Ok) : qAY X P1 α1 r Ok1 := by
 cases r with
 | ok d S => exact ho d S k
 | ex c x S => exact fun u s' q => k u s' (q.base e h)
 | bad => exact k
theorem qSp {op op' : CmpOp} {g g' : G2} (ho : OpD X (compareOp op) g) (ho' : OpD X (compareOp op') g') (ha : PE X a (tD X fa)) (hb : PE X b (tD X fb)) (hc : PE X c (tD X fc))
  (hm : autoParam (lastMarks [op, op'] [b, c] = false) au6._auto_1) : PE X (.Compare a [op, op'] [b, c] pos) (tD X (qOM g g' fa fb fc)) := by
 intro pins s σ H Q I h
 obtain ⟨P, α, env, S, r, re, af⟩ := h
 refine Compare_chain (thn (qBd ha I r re af) fun vv s1 ⟨v, H1, P1, α1, d, S1, G1, af1⟩ => chain_link (thn (qBd hb G1.inv G1.rel G1.env (qAp.base G1.same G1.pre af1)) fun uu s2 ⟨u, H2, P2, α2, d', S2, G2, af2⟩ =>
  thn (qXH ho G2.inv G2.rel G1.val G2.val (Rep.mono G2.same G2.pre _ _ G1.rep) G2.rep (qAp.base G2.same G2.pre af2)) fun w s3 ⟨y, H3, P3, α3, z, S3, I3, r3, rl3, rp3, e3, e4, af3⟩ => ?_)) hm
 cases ht : qCt z S3 with
 | none => simp only [ht] at af3; exact False.elim af3
 | some k =>
  simp only [ht] at af3
  have tv := qGJ rl3 rp3 ht
  refine thn (qMG pins s3 σ H3 y w (fun k' H' => k' = k ∧ H' = H3) I3 r3 ⟨k, tv, rfl, rfl⟩) fun k' s4 ⟨H4, I4, hk, hH⟩ => ?_
  subst hk; subst hH
  cases k' with
  | false => exact ite_ff ⟨y, H4, I4, r3, af3 y H4 P3 α3 rl3 e3 e4 rp3⟩
  | true =>
   refine ite_tt (chain_last (thn (qBd hc I4 rl3 (G2.env.mono e3 e4) (qAp.base e3 e4 af3)) fun ww s5 ⟨w', H5, P5, α5, d5, S5, G5, af5⟩ => ?_))
   exact ho' pins σ H5 s5 P5 α5 S5 u w' uu ww d' d5 Q G5.inv G5.rel G2.val G5.val (Rep.mono (e3.trans G5.same) (e4.trans G5.pre) _ _ G2.rep) G5.rep (qAp.base G5.same G5.pre af5)
noncomputable def qCQ (t : DT) : DT := fun env S => (t env S).bind fun b S1 => .ok (!b) S1
noncomputable def qEW (t u : DT) : DT := fun env S => (t env S).bind fun b S1 => if b then u env S1 else .ok false S1
noncomputable def qGR (t u : DT) : DT := fun env S => (t env S).bind fun b S1 => if b then .ok true S1 else u env S1
theorem qWb (ha : PT X a (tDT X ta)) : PT X (.UnaryOp .Not a pos) (tDT X (qCQ ta)) := by
 intro pins s σ H Q I h
 obtain ⟨P, α, env, S, r, re, af⟩ := h
 refine isTrue_not (thn (qHs (fun Q' q => ha pins s σ H Q' I q) r re af) fun b s1 ⟨H1, P1, α1, S1, I1, r1, re1, e1, e2, af1⟩ => ⟨H1, I1, af1 H1 P1 α1 r1 e1 e2⟩)
noncomputable def PWD (X : Cx) (e : Expr) (t : DT) : Prop := PW X e (tDT X t)
theorem PWD.pt {t : DT} (h : PWD X e t) : PT X e (tDT X t) := h _
theorem qUh (ha : PT X a (tDT X ta)) : PWD X (.BoolOp .And [a] pos) ta := qVW ha
theorem qWe (ha : PT X a (tDT X ta)) : PWD X (.BoolOp .Or [a] pos) ta := qXd ha
theorem qWd {rest : List Expr} (ha : PT X a (tDT X ta)) (hb : PWD X (.BoolOp .And (b :: rest) pos) tb) : PWD X (.BoolOp .And (a :: b :: rest) pos) (qEW ta tb) := by
 intro wh pins s σ H Q I h
 obtain ⟨P, α, env, S, r, re, af⟩ := h
 refine isTrue_and (thn (qHs (fun Q' q => ha pins s σ H Q' I q) r re af) fun k s1 ⟨H1, P1, α1, S1, I1, r1, re1, e1, e2, af1⟩ => ?_)
 cases k with
 | true => exact hb wh pins s1 σ H1 Q I1 ⟨P1, α1, env, S1, r1, re1, qGK.base e1 e2 af1⟩
 | false => exact ⟨H1, I1, af1 H1 P1 α1 r1 e1 e2⟩
theorem qYH {rest : List Expr} (ha : PT X a (tDT X ta)) (hb : PWD X (.BoolOp .Or (b :: rest) pos) tb) : PWD X (.BoolOp .Or (a :: b :: rest) pos) (qGR ta tb) := by
 intro wh pins s σ H Q I h
 obtain ⟨P, α, env, S, r, re, af⟩ := h
 refine isTrue_or (thn (qHs (fun Q' q => ha pins s σ H Q' I q) r re af) fun k s1 ⟨H1, P1, α1, S1, I1, r1, re1, e1, e2, af1⟩ => ?_)
 cases k with
 | true => exact ⟨H1, I1, af1 H1 P1 α1 r1 e1 e2⟩
 | false => exact hb wh pins s1 σ H1 Q I1 ⟨P1, α1, env, S1, r1, re1, qGK.base e1 e2 af1⟩
noncomputable def qHL (f g : DE) : DE := fun env S => (f env S).bind fun x S1 => match qCt x S1 with
 | some true => g env S1
 | some false => .ok x S1
 | none => .bad
noncomputable def dOr (f g : DE) : DE := fun env S => (f env S).bind fun x S1 => match qCt x S1 with
 | some true => .ok x S1
 | some false => g env S1
 | none => .bad
noncomputable def qSl (f : DE) : DE := fun env S => (f env S).bind fun x S1 => match qCt x S1 with
 | some b => .ok (.bl (!b)) S1
 | none => .bad
theorem qWH {op} (h : PE X a (tD X fa)) : PE X (.BoolOp op [a] pos) (tD X fa) := qXR h
theorem qTe {pins : List (Addr × Obj)} {s : Shared} {σ : L2.St} {H : Hp} {v : V} {vv : Value} {k : Bool} {R : Bool → Shared → Prop} (I : Inv X pins σ H s) (rv : qAR v vv) (t : qQj X.K v H k) (h : ∀ s', Inv X pins σ H s' → R k s') :
  wpAny (model X.prog X.w) X.A (truthy vv) R X.xe s := thn (qMG pins s σ H v vv (fun k' H' => k' = k ∧ H' = H) I rv ⟨k, t, rfl, rfl⟩) fun k' s4 ⟨H4, I4, hk, hH⟩ => by subst hk; subst hH; exact h s4 I4
theorem qV8 {rest : List Expr} (ha : PE X a (tD X fa)) (hb : PE X (.BoolOp .And (b :: rest) pos) (tD X fb)) : PE X (.BoolOp .And (a :: b :: rest) pos) (tD X (qHL fa fb)) := by
 intro pins s σ H Q I h
 obtain ⟨P, α, env, S, r, re, af⟩ := h
 refine BoolOp_and (thn (qBd ha I r re af) fun vv s1 ⟨v, H1, P1, α1, d, S1, G1, af1⟩ => ?_)
 cases ht : qCt d S1 with
 | none => simp only [ht] at af1; exact False.elim af1
 | some k =>
  simp only [ht] at af1
  refine qTe G1.inv G1.val (qGJ G1.rel G1.rep ht) fun s2 I2 => ?_
  cases k with
  | true => exact hb pins s2 σ H1 Q I2 ⟨P1, α1, env, S1, G1.rel, G1.env, qAp.base G1.same G1.pre af1⟩
  | false => exact ⟨v, H1, I2, G1.val, af1 v H1 P1 α1 G1.rel G1.same G1.pre G1.rep⟩
theorem qYB {rest : List Expr} (ha : PE X a (tD X fa)) (hb : PE X (.BoolOp .Or (b :: rest) pos) (tD X fb)) : PE X (.BoolOp .Or (a :: b :: rest) pos) (tD X (dOr fa fb)) := by
 intro pins s σ H Q I h
 obtain ⟨P, α, env, S, r, re, af⟩ := h
 refine BoolOp_or (thn (qBd ha I r re af) fun vv s1 ⟨v, H1, P1, α1, d, S1, G1, af1⟩ => ?_)
 cases ht : qCt d S1 with
 | none => simp only [ht] at af1; exact False.elim af1
 | some k =>
  simp only [ht] at af1
  refine qTe G1.inv G1.val (qGJ G1.rel G1.rep ht) fun s2 I2 => ?_
  cases k with
  | false => exact hb pins s2 σ H1 Q I2 ⟨P1, α1, env, S1, G1.rel, G1.env, qAp.base G1.same G1.pre af1⟩
  | true => exact ⟨v, H1, I2, G1.val, af1 v H1 P1 α1 G1.rel G1.same G1.pre G1.rep⟩
theorem qWG (ha : PE X a (tD X fa)) : PE X (.UnaryOp .Not a pos) (tD X (qSl fa)) := by
 intro pins s σ H Q I h
 obtain ⟨P, α, env, S, r, re, af⟩ := h
 refine UnaryOp_ (thn (qBd ha I r re af) fun vv s1 ⟨v, H1, P1, α1, d, S1, G1, af1⟩ => ?_)
 cases ht : qCt d S1 with
 | none => simp only [ht] at af1; exact False.elim af1
 | some k =>
  simp only [ht] at af1
  exact not_of (qTe G1.inv G1.val (qGJ G1.rel G1.rep ht) fun s2 I2 => ⟨.bl (!k), H1, I2, rfl, af1 (.bl (!k)) H1 P1 α1 G1.rel G1.same G1.pre (by simp only [Rep])⟩)
noncomputable def dIf (t : DT) (f g : DE) : DE := fun env S => (t env S).bind fun b S1 => if b then f env S1 else g env S1
theorem qX9 (hc : PT X c (tDT X ta)) (ha : PE X a (tD X fa)) (hb : PE X b (tD X fb)) : PE X (.IfExp c a b pos) (tD X (dIf ta fa fb)) := by
 intro pins s σ H Q I h
 obtain ⟨P, α, env, S, r, re, af⟩ := h
 refine wpAny_IfExp (thn (qHs (fun Q' q => hc pins s σ H Q' I q) r re af) fun k s1 ⟨H1, P1, α1, S1, I1, r1, re1, e1, e2, af1⟩ => ?_)
 cases k with
 | true => exact ha pins s1 σ H1 Q I1 ⟨P1, α1, env, S1, r1, re1, qAp.base e1 e2 af1⟩
 | false => exact hb pins s1 σ H1 Q I1 ⟨P1, α1, env, S1, r1, re1, qAp.base e1 e2 af1⟩
end
end DL
end
section
namespace DL
open PySem PySem.Spec PyProof.Rows L2
noncomputable def Res.toS {β : Type} (env : qAI) (r : Res β) (k : β → Sto → Out) : Out :=
 match r with
 | .ok d S => k d S
 | .ex c x S => .ex c x env S
 | .bad => .bad
section
variable {X : Cx} {a b c e : Expr} {pos : Pos} {fa fb fc : DE} {ta tb : DT} {f g : DS} {st : Stmt} {rest : List Stmt}
noncomputable def qAz : DS := fun env S => .nx env S
noncomputable def qAW (f g : DS) : DS := fun env S => match f env S with
 | .nx env1 S1 => g env1 S1
 | o => o
theorem qWU : PSs X [] (tDS X qAz) := qXc qVU fun D σ H ⟨P, α, env, S, r, re, af⟩ => af σ H P α r re (qAJ.refl _) (List.prefix_refl _)
theorem qUc (h1 : PS X st (tDS X f)) (h2 : PSs X rest (tDS X g)) : PSs X (st :: rest) (tDS X (qAW f g)) := qXc (qTT h1 h2) fun D σ H ⟨P, α, env, S, r, re, af⟩ => by
 refine ⟨P, α, env, S, r, re, ?_⟩
 unfold qAW at af
 cases q : f env S with
 | nx env1 S1 =>
  rw [q] at af
  exact fun σ' H' P' α' r' re' e1 e2 => ⟨P', α', env1, S1, r', re', qAi.base e1 e2 af⟩
 | rt d S1 => rw [q] at af; exact af
 | bk env1 S1 => rw [q] at af; exact af
 | ct env1 S1 => rw [q] at af; exact af
 | ex c x env1 S1 => rw [q] at af; exact af
 | bad => rw [q] at af; exact af
theorem qWV (h1 : PS X st (tDS X f)) : PSs X [st] (tDS X f) := qVV h1
theorem qB1 {β : Type} {P : Hp} {α : List Addr} {env : qAI} {r : Res β} {k : β → Sto → Out} {D : Ends} (h : qAi X P α (r.toS env k) D) : qAY X P α r fun d S => qAi X P α (k d S) D := by
 cases r with
 | ok d S => exact h
 | ex c x S => exact h
 | bad => exact h
inductive GotS (X : Cx) (pins : List (Addr × Obj)) (σ : L2.St) (env : qAI) (P : Hp) (α : List Addr) (u : Value) (s1 : Shared) (k : D → Sto → Out) (E : Ends) : Prop
 | mk (v : V) (H1 P1 : Hp) (α1 : List Addr) (d : D) (S1 : Sto) (G : Got X pins σ env P α u s1 v H1 P1 α1 d S1) (q : qAi X P1 α1 (k d S1) E) : GotS X pins σ env P α u s1 k E
theorem qLl {k : D → Sto → Out} {pins : List (Addr × Obj)} {s : Shared} {σ : L2.St} {H P : Hp} {α : List Addr} {env : qAI} {S : Sto} {D : Ends} (he : PE X e (tD X fa)) (I : Inv X pins σ H s) (r : Rel X.K H P α S)
  (re : qAu X.K P α σ env) (af : qAi X P α ((fa env S).toS env k) D) :
  wpAny (model X.prog X.w) X.A (eval e X.env) (fun u s1 => GotS X pins σ env P α u s1 k D) X.xe s := by
 have af1 : qAY X P α ((fa env S).bind fun d S => .ok d S) fun d S => qAi X P α (k d S) D := by
  have := qB1 af
  cases q : fa env S <;> rw [q] at this <;> exact this
 exact thn (qBd he I r re af1) fun u s1 ⟨v, H1, P1, α1, d, S1, G, q⟩ => ⟨v, H1, P1, α1, d, S1, G, qAi.base G.same G.pre q⟩
noncomputable def qD7 (f : DE) : DS := fun env S => (f env S).toS env fun _ S1 => .nx env S1
theorem qUd (he : PE X e (tD X fa)) (hs : autoParam (swapsWith e none pos.line X.env = pure false) au3._auto_1) : PS X (.Expr e pos) (tDS X (qD7 fa)) := by
 intro pins s σ H D I h
 obtain ⟨P, α, env, S, r, re, af⟩ := h
 exact wpAny_Expr_any (thn (qLl he I r re af) fun v s1 ⟨x, H1, P1, α1, d, S1, G, q⟩ => ⟨σ, H1, G.inv, q σ H1 P1 α1 G.rel G.env (qAJ.refl _) (List.prefix_refl _)⟩) I.quiet hs
noncomputable def qAl (f : DE) : DS := fun env S => (f env S).toS env fun d S1 => .rt d S1
theorem qWX (he : PE X e (tD X fa)) : PS X (.Return (some e) pos) (tDS X (qAl fa)) := by
 intro pins s σ H D I h
 obtain ⟨P, α, env, S, r, re, af⟩ := h
 exact wpAny_Return_some (thn (qLl he I r re af) fun v s1 ⟨x, H1, P1, α1, d, S1, G, q⟩ => ⟨x, σ, H1, G.inv, G.val, q x H1 P1 α1 G.rel (qAJ.refl _) (List.prefix_refl _) G.rep⟩)
noncomputable def qZn : DS := fun _ S => .rt .non S
noncomputable def sIf (t : DT) (f g : DS) : DS := fun env S => (t env S).toS env fun b S1 => if b then f env S1 else g env S1
theorem qYF {c : Expr} {as bs : List Stmt} (hc : PT X c (tDT X ta)) (ha : PSs X as (tDS X f)) (hb : PSs X bs (tDS X g)) : PS X (.If c as bs pos) (tDS X (sIf ta f g)) := by
 intro pins s σ H D I h
 obtain ⟨P, α, env, S, r, re, af⟩ := h
 have af1 : qAY X P α ((ta env S).bind fun d S => .ok d S) fun b S => qAi X P α (if b then f env S else g env S) D := by
  have := qB1 af
  cases q : ta env S <;> rw [q] at this <;> exact this
 refine wpAny_If (thn (qHs (fun Q' q => hc pins s σ H Q' I q) r re af1) fun k s1 ⟨H1, P1, α1, S1, I1, r1, re1, e1, e2, af2⟩ => ?_)
 cases k with
 | true => exact ha pins s1 σ H1 D I1 ⟨P1, α1, env, S1, r1, re1, qAi.base e1 e2 af2⟩
 | false => exact hb pins s1 σ H1 D I1 ⟨P1, α1, env, S1, r1, re1, qAi.base e1 e2 af2⟩
abbrev DG := D → qAI → Sto → Res qAI
abbrev DGs := List D → qAI → Sto → Res qAI
noncomputable def OkE (X : Cx) (P : Hp) (α : List Addr) (Q : L2.St → Hp → Prop) (env' : qAI) (S' : Sto) : Prop := ∀ σ' H' P' α', Rel X.K H' P' α' S' → qAu X.K P' α' σ' env' → qAJ P P' → α <+: α' → Q σ' H'
noncomputable def tDG (X : Cx) (g : DG) : TG := fun v σ H Q => ∃ P α env S d, Rel X.K H P α S ∧ qAu X.K P α σ env ∧ Rep X.K P α d v ∧ qAY X P α (g d env S) (OkE X P α Q)
noncomputable def qPU (X : Cx) (g : DGs) : TGs := fun vs σ H Q => ∃ P α env S ds, Rel X.K H P α S ∧ qAu X.K P α σ env ∧ qAL X.K P α ds vs ∧ qAY X P α (g ds env S) (OkE X P α Q)
theorem qAu.set {K : PySem.W.Frag} {P : Hp} {α : List Addr} {σ : L2.St} {env : qAI} {d : D} {v : V} (re : qAu K P α σ env) (i : Nat) (rp : Rep K P α d v) : qAu K P α (σ.set i (some v)) (env.set i (some d)) := by
 refine ⟨by simp [re.1], fun j d' e => ?_⟩
 by_cases hj : i = j
 ·subst hj
  by_cases hi : i < env.length
  ·rw [List.getElem?_set_self hi] at e
   cases e
   exact ⟨v, by rw [List.getElem?_set_self (by rw [← re.1]; exact hi)], rp⟩
  ·rw [List.getElem?_eq_none (by simp; omega)] at e; cases e
 ·rw [List.getElem?_set_ne hj] at e ⊢
  exact re.2 j d' e
noncomputable def gNm (i : Nat) : DG := fun d env S => .ok (env.set i (some d)) S
theorem qUY {i : Nat} {x : Str} (hN : X.N.Nodup) (hi : autoParam (X.N[i]? = some x) au3._auto_1) (hx : autoParam (Loc X.env.scope x) au7._auto_1) (hf : X.fn x = true ∨ X.env.scope.names.lookup x = some .local := by first | exact .inl rfl | exact .inr rfl | assumption) : PG X (.Name x pos) (tDG X (gNm i)) := by
 intro pins s σ H v u Q I rv h
 obtain ⟨P, α, env, S, d, r, re, rp, af⟩ := h
 exact qVP hN hi hx hf pins s σ H v u Q I rv (af _ H P α r (re.set i rp) (qAJ.refl _) (List.prefix_refl _))
noncomputable def qD5 : DGs := fun ds env S => match ds with
 | [] => .ok env S
 | _ => .bad
noncomputable def qBX (g : DG) (gs : DGs) : DGs := fun ds env S => match ds with
 | d :: r => (g d env S).bind fun env1 S1 => gs r env1 S1
 | [] => .bad
theorem qUZ : PGs X [] (qPU X qD5) := by
 intro pins s σ H vs us Q I rv h
 obtain ⟨P, α, env, S, ds, r, re, rp, af⟩ := h
 cases ds with
 | nil => exact qVQ pins s σ H vs us Q I rv ⟨rp.nil_inv, af σ H P α r re (qAJ.refl _) (List.prefix_refl _)⟩
 | cons d ds => exact False.elim af
theorem qSs {es : List Expr} {g : DG} {gs : DGs} (h1 : PG X e (tDG X g)) (h2 : PGs X es (qPU X gs)) (hs : autoParam ((assignEach (e :: es) X.env).map (·.2) = assign e X.env :: (assignEach es X.env).map (·.2)) au3._auto_1) : PGs X (e :: es) (qPU X (qBX g gs)) := by
 intro pins s σ H vs us Q I rv h
 obtain ⟨P, α, env, S, ds, r, re, rp, af⟩ := h
 cases ds with
 | nil => exact False.elim af
 | cons d ds =>
  obtain ⟨w, ws, rfl, p1, p2⟩ := rp.cons_inv
  refine qTQ h1 h2 hs pins s σ H _ us Q I rv ⟨w, ws, rfl, P, α, env, S, d, r, re, p1, ?_⟩
  have af' : qAY X P α ((g d env S).bind fun env1 S1 => gs ds env1 S1) (OkE X P α Q) := af
  cases q : g d env S with
  | bad => rw [q] at af'; exact af'
  | ex c x S' => rw [q] at af'; exact af'
  | ok env1 S1 =>
   rw [q] at af'
   intro σ' H' P' α' r' re' e1 e2
   refine ⟨P', α', env1, S1, ds, r', re', qAL.mono e1 e2 _ _ p2, qAY.base' e1 e2 (fun env' S' ok σ2 H2 P2 α2 r2 re2 e3 e4 => ok σ2 H2 P2 α2 r2 re2 (e1.trans e3) (e2.trans e4)) af'⟩
noncomputable def gTp (n : Nat) (gs : DGs) : DG := fun d env S => match d with
 | .tup xs => if xs.length = n then gs xs env S else .bad
 | _ => .bad
set_option tactic.hygienic true in
theorem qWN {es : List Expr} {k : Nat} {gs : DGs} {n : Nat} (hc : X.calm = true) (h : PGs X es (qPU X gs)) (hn : autoParam ((assignEach es X.env).length = n) au3._auto_1) (hst : autoParam ((assignEach es X.env).findIdx? (·.1) = none) au3._auto_1) : PG X (.Tuple es k pos) (tDG X (gTp n gs)) := by
 intro pins s σ H v u Q I rv hw
 obtain ⟨P, α, env, S, d, r, re, rp, af⟩ := hw
 cases d with
 | tup xs =>
  simp only [Rep] at rp
  obtain ⟨a, vs, rfl, q, t⟩ := rp
  simp only [gTp] at af
  split at af
  ·rename_i hl
   exact qXV hc h hn hst pins s σ H _ u Q I rv ⟨a, vs, rfl, qDF r.sub q, by rw [← t.length]; exact hl, P, α, env, S, xs, r, re, t, af⟩
  ·exact False.elim af
 | _ => exact False.elim af
abbrev G3 := D → D → D → Sto → Res Unit
noncomputable def OkU (X : Cx) (P : Hp) (α : List Addr) (Q : Hp → Prop) (_ : Unit) (S' : Sto) : Prop := ∀ H' P' α', Rel X.K H' P' α' S' → qAJ P P' → α <+: α' → Q H'
noncomputable def qN0 (X : Cx) (g : G3) : qSc := fun o i v H Q => ∃ P α S a b d, Rel X.K H P α S ∧ Rep X.K P α a o ∧ Rep X.K P α b i ∧ Rep X.K P α d v ∧ qAY X P α (g a b d S) (OkU X P α Q)
noncomputable def gSb (fo fi : DE) (g : G3) : DG := fun d env S => (fo env S).bind fun o S1 => (fi env S1).bind fun i S2 => (g o i d S2).bind fun _ S3 => .ok env S3
theorem qWM {o i : Expr} {fo fi : DE} {g : G3} (ho : PE X o (tD X fo)) (hi : PE X i (tD X fi)) (hs : qN2 X (qN0 X g))
  (ha : autoParam (∀ v, assign (.Subscript o i pos) X.env v = (do
   let ov ← holding [v] (eval o X.env)
   let iv ← holding [v, ov] (eval i X.env)
   standAt pos
   holding [v, ov, iv] (setItem ov iv v)
   release [v, ov, iv] [])) au4._auto_1) : PG X (.Subscript o i pos) (tDG X (gSb fo fi g)) := by
 intro pins s σ H v u Q I rv h
 obtain ⟨P, α, env, S, d, r, re, rp, af⟩ := h
 rw [ha]
 refine wpAny_bind (wpAny_holding (thn (qBd ho I r re af) fun ov s1 ⟨x, H1, P1, α1, d1, S1, G1, af1⟩ => ?_))
 refine wpAny_bind (wpAny_holding (thn (qBd hi G1.inv G1.rel G1.env (P := P1) (α := α1) (Ok := OkE X P1 α1 Q) (qAY.base' G1.same G1.pre (fun env' S' ok σ2 H2 P2 α2 r2 re2 e3 e4 => ok σ2 H2 P2 α2 r2 re2 (G1.same.trans e3) (G1.pre.trans e4)) af1)) fun iv s2 ⟨y, H2, P2, α2, d2, S2, G2, af2⟩ => ?_))
 refine wpAny_bind (wpAny_standAt (wpAny_bind (wpAny_holding (thn (hs pins s2 σ H2 x y v ov iv u (fun H3 => Q σ H3) G2.inv G1.val G2.val rv ⟨P2, α2, S2, d1, d2, d, G2.rel, Rep.mono G2.same G2.pre _ _ G1.rep, G2.rep, Rep.mono (G1.same.trans G2.same) (G1.pre.trans G2.pre) _ _ rp, ?_⟩) fun _ s3 ⟨H3, I3, q3⟩ => ?_))))
 ·cases q : g d1 d2 d S2 with
  | bad => rw [q] at af2; exact af2
  | ex c x S' => rw [q] at af2; exact fun u s' z => af2 u s' (z.base G2.same G2.pre)
  | ok w S3 =>
   rw [q] at af2
   exact fun H' P' α' r' e1 e2 => af2 σ H' P' α' r' (G2.env.mono e1 e2) (G2.same.trans e1) (G2.pre.trans e2)
 ·exact wpAny_release ⟨σ, H3, I3, q3⟩
noncomputable def qAs (f : DE) (g : DG) : DS := fun env S => (f env S).toS env fun d S1 => (g d env S1).toS env fun env' S2 => .nx env' S2
theorem qRH {g : DG} {d : D} {env : qAI} {S : Sto} {P : Hp} {α : List Addr} {D' : Ends} (h : qAi X P α ((g d env S).toS env fun env' S2 => .nx env' S2) D') : qAY X P α (g d env S) (OkE X P α D'.nx) := by
 cases q : g d env S with
 | bad => rw [q] at h; exact h
 | ex c x S' => rw [q] at h; exact h
 | ok env1 S1 => rw [q] at h; exact h
theorem qWR {tg e : Expr} {g : DG} (he : PE X e (tD X fa)) (hg : PG X tg (tDG X g)) (hs : autoParam (swapsWithSole [tg] e pos.line X.env = pure false) au3._auto_1) (hw : autoParam (swappedStores [tg] e X.env = pure none) au3._auto_1)
  (h1 : autoParam ((assignEach [tg] X.env).map (·.2) = [assign tg X.env]) au3._auto_1) : PS X (.Assign [tg] e pos) (tDS X (qAs fa g)) := by
 intro pins s σ H D I h
 obtain ⟨P, α, env, S, r, re, af⟩ := h
 refine wpAny_Assign_stores (thn (qLl he I r re af) fun v s1 ⟨x, H1, P1, α1, d, S1, G, q⟩ => ?_) hs hw
 rw [h1]
 exact thn (hg pins s1 σ H1 x v _ G.inv G.val ⟨P1, α1, env, S1, d, G.rel, G.env, G.rep, qRH q⟩) fun _ s2 q => q
theorem qWY {i : Nat} {x : Str} {e : Expr} {pos' : Pos} (hN : X.N.Nodup) (he : PE X e (tD X fa)) (hi : autoParam (X.N[i]? = some x) au3._auto_1) (hx : autoParam (Loc X.env.scope x) au7._auto_1) (hs : swapsWith e (some (.Name x pos')) pos.line X.env = pure false := by rfl)
  (hf : autoParam (X.fn x = true ∨ X.env.scope.names.lookup x = some .local) au1._auto_1) : PS X (.Assign [.Name x pos'] e pos) (tDS X (qAs fa (gNm i))) := by
 intro pins s σ H D I h
 obtain ⟨P, α, env, S, r, re, af⟩ := h
 refine wpAny_Assign_Name (thn (qLl he I r re af) fun v s1 ⟨y, H1, P1, α1, d, S1, G, q⟩ => ?_) hs
 exact qC8 G.inv hN hi hx G.val (fun s2 I2 => ⟨_, H1, I2, q _ H1 P1 α1 G.rel (G.env.set i G.rep) (qAJ.refl _) (List.prefix_refl _)⟩) hf
noncomputable def qMB (i j : Nat) (env : qAI) (S1 : Sto) : List D → Out
 | [x, y] => .nx ((env.set i (some x)).set j (some y)) S1
 | _ => .bad
noncomputable def qLT (i j : Nat) (f : DA) : DS := fun env S => (f env S).toS env fun ds S1 => qMB i j env S1 ds
theorem qWW {i j : Nat} {x y : Str} {a b : Expr} {f : DA} {px py pt : Pos} {kt k2 pt2} (hc : X.calm = true) (hN : X.N.Nodup) (ha : PA X [a, b] (tDA X f)) (hi : autoParam (X.N[i]? = some x) au3._auto_1) (hj : autoParam (X.N[j]? = some y) au3._auto_1) (hij : autoParam (i ≠ j) au2._auto_1)
  (hx : autoParam (X.env.scope.names.lookup x = some .local) au3._auto_1) (hy : autoParam (X.env.scope.names.lookup y = some .local) au3._auto_1)
  (hw : autoParam (swappedStores [.Tuple [.Name x px, .Name y py] kt pt] (.Tuple [a, b] k2 pt2) X.env = pure (some [x, y])) au3._auto_1)
  (hs : autoParam (swapsWithSole [.Tuple [.Name x px, .Name y py] kt pt] (.Tuple [a, b] k2 pt2) pos.line X.env = pure false) au3._auto_1) :
  PS X (.Assign [.Tuple [.Name x px, .Name y py] kt pt] (.Tuple [a, b] k2 pt2) pos) (tDS X (qLT i j f)) := psW (qXb hc hN hi hj hij hx hy ha hw hs) fun D σ H ⟨P, α, env, S, r, re, af⟩ => by
 refine ⟨P, α, env, S, r, re, ?_⟩
 have af1 := qB1 af
 cases q : f env S with
 | bad => rw [q] at af1; exact af1
 | ex c x S' => rw [q] at af1; exact af1
 | ok ds S1 =>
  rw [q] at af1
  intro vs H' P' α' r' e1 e2 rp
  have af2 : qAi X P α (qMB i j env S1 ds) D := af1
  cases ds with
  | nil => exact False.elim af2
  | cons d ds => cases ds with
   | nil => exact False.elim af2
   | cons d' ds => cases ds with
    | cons _ _ => exact False.elim af2
    | nil =>
     obtain ⟨w, ws, rfl, p1, t⟩ := rp.cons_inv
     obtain ⟨w', ws', rfl, p2, t⟩ := t.cons_inv
     rw [t.nil_inv]
     exact ⟨w, w', rfl, af2 _ _ P' α' r' (((re.mono e1 e2).set i p1).set j p2) e1 e2⟩
end
end DL
end
section
namespace DL
open PySem PySem.Spec PyProof.Rows L2
structure ItD (K : PySem.W.Frag) (J : It) (P : Hp) (α : List Addr) (ds : List D) : Prop where
 go : ∀ i H P1 α1 S, i < ds.length → Rel K H P1 α1 S → qAJ P P1 → α <+: α1 → J.go i H
 yld : ∀ i H x H' P1 α1 S, i < ds.length → Rel K H P1 α1 S → qAJ P P1 → α <+: α1 → J.yld i H x H' → ∃ P2 d, ds[i]? = some d ∧ Rel K H' P2 α1 S ∧ qAJ P1 P2 ∧ Rep K P2 α1 d x
 stop : ∀ i H P1 α1 S, ds.length ≤ i → Rel K H P1 α1 S → qAJ P P1 → α <+: α1 → J.stop i H
abbrev DI := qAI → Sto → Res (List D)
noncomputable def OkI (X : Cx) (P : Hp) (α : List Addr) (R : It → Hp → Prop) (ds : List D) (S' : Sto) : Prop := ∀ J H' P' α', Rel X.K H' P' α' S' → qAJ P P' → α <+: α' → ItD X.K J P' α' ds → R J H'
inductive tDI (X : Cx) (f : DI) (σ : L2.St) (H : Hp) (R : It → Hp → Prop) : Prop
 | mk (P : Hp) (α : List Addr) (env : qAI) (S : Sto) (r : Rel X.K H P α S) (re : qAu X.K P α σ env) (af : qAY X P α (f env S) (OkI X P α R)) : tDI X f σ H R
noncomputable def qFJ {β : Type} (o : Option β) (S : Sto) : Res β := match o with
 | some b => .ok b S
 | none => .bad
theorem qGI {X : Cx} {β : Type} {o : Option β} {S : Sto} {P : Hp} {α : List Addr} {Ok : β → Sto → Prop} (h : qAY X P α (qFJ o S) Ok) : ∃ b, o = some b ∧ Ok b S := by
 cases o with
 | none => exact False.elim h
 | some b => exact ⟨b, rfl, h⟩
theorem qL4 {X : Cx} {β : Type} {c : Prop} [Decidable c] {r : Res β} {P : Hp} {α : List Addr} {Ok : β → Sto → Prop} (h : qAY X P α (if c then r else .bad) Ok) : c ∧ qAY X P α r Ok := by
 by_cases z : c
 ·rw [if_pos z] at h; exact ⟨z, h⟩
 ·rw [if_neg z] at h; exact False.elim h
noncomputable def qT7 {β : Type} (S : Sto) (n : Nat) (f : List D → Res β) : Res β := match S[n]? with
 | some (.lst xs) => f xs
 | _ => .bad
theorem qO8 {X : Cx} {β : Type} {S : Sto} {n : Nat} {f : List D → Res β} {P : Hp} {α : List Addr} {Ok : β → Sto → Prop} (h : qAY X P α (qT7 S n f) Ok) : ∃ xs, S[n]? = some (.lst xs) ∧ qAY X P α (f xs) Ok := by
 unfold qT7 at h
 cases e : S[n]? with
 | none => rw [e] at h; exact False.elim h
 | some m =>
  rw [e] at h
  cases m with
  | lst xs => exact ⟨xs, rfl, h⟩
  | _ => exact False.elim h
noncomputable def qJf : D → Option (List D)
 | .tup xs => some xs
 | .lst xs => some xs
 | _ => none
noncomputable def qCO (f : DE) : DI := fun env S => (f env S).bind fun d S1 => qFJ (qJf d) S1
section
variable {X : Cx} {K : PySem.W.Frag} {tg e : Expr} {fa : DE} {pos : Pos}
theorem qS7 {P : Hp} {α : List Addr} {a : Addr} {ds : List D} {vs : List V} (q : SqL K P a vs) (t : qAL K P α ds vs) : ItD K (Itl K a) P α ds where
 go := fun i H P1 α1 S hi r e _ => ⟨vs, vs[i]'(by rw [← t.length]; exact hi), (e.trans r.sub).seq q, by simp⟩
 yld := fun i H x H' P1 α1 S hi r e e2 y => by
  obtain ⟨rfl, y⟩ := y
  have hx := y vs ((e.trans r.sub).seq q)
  obtain ⟨v, h1, h2⟩ := t.get (List.getElem?_eq_getElem hi)
  rw [hx] at h1; cases h1
  exact ⟨P1, _, List.getElem?_eq_getElem hi, r, qAJ.refl _, Rep.mono e e2 _ _ h2⟩
 stop := fun i H P1 α1 S hi r e _ => ⟨vs, (e.trans r.sub).seq q, by rw [← t.length]; exact hi⟩
theorem qU3 {P : Hp} {α : List Addr} {a : Addr} {ds : List D} {vs : List V} (q : SqT K P a vs) (t : qAL K P α ds vs) : ItD K (Itt K a) P α ds where
 go := fun i H P1 α1 S hi r e _ => ⟨vs, vs[i]'(by rw [← t.length]; exact hi), qFK (e.trans r.sub) q, by simp⟩
 yld := fun i H x H' P1 α1 S hi r e e2 y => by
  obtain ⟨rfl, y⟩ := y
  have hx := y vs (qFK (e.trans r.sub) q)
  obtain ⟨v, h1, h2⟩ := t.get (List.getElem?_eq_getElem hi)
  rw [hx] at h1; cases h1
  exact ⟨P1, _, List.getElem?_eq_getElem hi, r, qAJ.refl _, Rep.mono e e2 _ _ h2⟩
 stop := fun i H P1 α1 S hi r e _ => ⟨vs, qFK (e.trans r.sub) q, by rw [← t.length]; exact hi⟩
theorem qOh {pins : List (Addr × Obj)} {σ : L2.St} {H P : Hp} {α : List Addr} {S : Sto} {s : Shared} {v : V} {vv : Value} {d : D} {ds : List D} {R : It → Hp → Prop} (I : Inv X pins σ H s) (r : Rel X.K H P α S) (rv : qAR v vv) (rp : Rep X.K P α d v) (hd : qJf d = some ds)
  (q : OkI X P α R ds S) : wpAny (model X.prog X.w) X.A (pyIter vv) (PIE X pins σ tg R) X.xe s := by
 cases d with
 | tup xs =>
  cases hd
  simp only [Rep] at rp
  obtain ⟨a, vs, rfl, sq, t⟩ := rp
  cases rv
  obtain ⟨its, rv, p, hz⟩ := I.tuple (qDF r.sub sq)
  refine wpAny_pyIter_tuple (show s.heap.IsTuple a its.toArray from p) ?_
  refine ⟨s.heap.objs.size, [s.heap.objs.size], _, _, H, rfl, I.kept (t' := s.toks) fun b o e => Heap.get?_push_of_some _ e, qRD a _, ⟨_, Heap.get?_push_size _ rfl, rfl, rfl⟩, fun b hb => ?_, q _ _ P α r (qAJ.refl _) (List.prefix_refl _) (qU3 sq t)⟩
  have e : b = s.heap.objs.size := by simpa using hb
  subst e
  exact I.fpOk (Nat.le_refl _) (I.hok.fresh (Nat.le_refl _))
 | lst xs =>
  cases hd
  simp only [Rep] at rp
  obtain ⟨a, vs, rfl, sq, t⟩ := rp
  cases rv
  obtain ⟨its, rv, p, hz⟩ := I.list ((qC5 r.sub sq).l)
  refine wpAny_pyIter_list p.isList ?_
  refine ⟨s.heap.objs.size, [s.heap.objs.size], _, _, H, rfl, I.kept (t' := s.toks) fun b o e => Heap.get?_push_of_some _ e, qNe a _, ⟨_, Heap.get?_push_size _ rfl, rfl, rfl⟩, fun b hb => ?_, q _ _ P α r (qAJ.refl _) (List.prefix_refl _) (qS7 sq.l t)⟩
  have e : b = s.heap.objs.size := by simpa using hb
  subst e
  exact I.fpOk (Nat.le_refl _) (I.hok.fresh (Nat.le_refl _))
 | _ => cases hd
theorem OkI.base {P P1 : Hp} {α α1 : List Addr} {R : It → Hp → Prop} {ds : List D} {S : Sto} (e : qAJ P P1) (h : α <+: α1) (k : OkI X P α R ds S) : OkI X P1 α1 R ds S := fun J H' P' α' r q1 q2 q3 => k J H' P' α' r (e.trans q1) (h.trans q2) q3
theorem qWO (ha : PE X e (tD X fa)) : PI X tg e (tDI X (qCO fa)) := by
 intro pins s σ H R I h
 obtain ⟨P, α, env, S, r, re, af⟩ := h
 refine thn (qBd ha I r re af) fun vv s1 ⟨v, H1, P1, α1, d, S1, G1, af1⟩ => ?_
 obtain ⟨ds, e1, q⟩ := qGI af1
 exact qOh G1.inv G1.rel G1.val G1.rep e1 (q.base G1.same G1.pre)
noncomputable def qCq (lo : Int) (n : Nat) : List D := (List.range n).map fun (i : Nat) => D.int (lo + (i : Int))
theorem qIo (lo : Int) (n : Nat) : (qCq lo n).length = n := by simp [qCq]
theorem qNV {P : Hp} {α : List Addr} {lo : Int} {n : Nat} : ItD K (Itr lo n) P α (qCq lo n) where
 go := fun i H P1 α1 S hi r e _ => by rw [qIo] at hi; exact hi
 yld := fun i H x H' P1 α1 S hi r e e2 y => by
  obtain ⟨rfl, rfl⟩ := y
  rw [qIo] at hi
  exact ⟨P1, .int (lo + i), by simp [qCq, hi], r, qAJ.refl _, by simp only [Rep]⟩
 stop := fun i H P1 α1 S hi r e _ => by rw [qIo] at hi; exact hi
noncomputable def qIp (ds : List D) : Option (List D) := match ds with
 | [.int j] => if -(2 ^ 62) ≤ j ∧ j < 2 ^ 62 then some (qCq 0 j.toNat) else none
 | [.int i, .int j] => if -(2 ^ 62) ≤ i ∧ i < 2 ^ 62 ∧ -(2 ^ 62) ≤ j ∧ j < 2 ^ 62 then some (qCq i (j - i).toNat) else none
 | _ => none
noncomputable def qEX (f : DA) : DI := fun env S => (f env S).bind fun ds S1 => qFJ (qIp ds) S1
noncomputable def asI : D → Option Int
 | .int i => some i
 | _ => none
theorem nn {β : Type} {a : β} {p : Prop} (h : (none : Option β) = some a) : p := by cases h
theorem qKh {d : D} {i : Int} (h : asI d = some i) : d = .int i := by
 cases d with
 | int k => exact congrArg D.int (Option.some.inj h)
 | _ => exact nn h
theorem qOg {β : Type} {c : Prop} [Decidable c] {a b : β} (h : (if c then some a else none) = some b) : c ∧ a = b := by
 by_cases z : c
 ·rw [if_pos z] at h; exact ⟨z, Option.some.inj h⟩
 ·rw [if_neg z] at h; exact nn h
inductive RngV : List D → List D → Prop
 | one (j : Int) (h : -(2 ^ 62) ≤ j ∧ j < 2 ^ 62) : RngV [.int j] (qCq 0 j.toNat)
 | two (i j : Int) (h : -(2 ^ 62) ≤ i ∧ i < 2 ^ 62 ∧ -(2 ^ 62) ≤ j ∧ j < 2 ^ 62) : RngV [.int i, .int j] (qCq i (j - i).toNat)
theorem qYr (d : D) : qIp [d] = (asI d).bind fun j => if -(2 ^ 62) ≤ j ∧ j < 2 ^ 62 then some (qCq 0 j.toNat) else none := by cases d <;> rfl
theorem qYs (d d' : D) : qIp [d, d'] = (asI d).bind fun i => (asI d').bind fun j => if -(2 ^ 62) ≤ i ∧ i < 2 ^ 62 ∧ -(2 ^ 62) ≤ j ∧ j < 2 ^ 62 then some (qCq i (j - i).toNat) else none := by
 cases d with
 | int i => cases d' <;> rfl
 | _ => rfl
theorem qVe {ds its : List D} (h : qIp ds = some its) : RngV ds its := by
 cases ds with
 | nil => exact nn h
 | cons d ds =>
  cases ds with
  | nil =>
   obtain ⟨j, e, h⟩ := Option.bind_eq_some_iff.mp ((qYr d).symm.trans h)
   obtain ⟨c, rfl⟩ := qOg h
   rw [qKh e]
   exact .one j c
  | cons d' ds =>
   cases ds with
   | nil =>
    obtain ⟨i, e, h⟩ := Option.bind_eq_some_iff.mp ((qYs d d').symm.trans h)
    obtain ⟨j, e', h⟩ := Option.bind_eq_some_iff.mp h
    obtain ⟨c, rfl⟩ := qOg h
    rw [qKh e, qKh e']
    exact .two i j c
   | cons _ _ =>
    have h0 : ∀ d'' t, qIp (d :: d' :: d'' :: t) = none := fun d'' t => by cases d <;> first | rfl | (cases d' <;> rfl)
    exact nn ((h0 _ _).symm.trans h)
theorem qM5 {K : PySem.W.Frag} {P : Hp} {α : List Addr} {i : Int} {vs : List V} {ds : List D} (r : qAL K P α (.int i :: ds) vs) : ∃ ws, vs = .int i :: ws ∧ qAL K P α ds ws := by
 obtain ⟨w, ws, rfl, p, t⟩ := r.cons_inv
 exact ⟨ws, congrArg (· :: ws) (by simpa only [Rep] using p), t⟩
end
section
variable {X : Cx} {tg a b : Expr} {f : DA} {p pos : Pos}
theorem qSt {e : Expr} {es : List Expr} (hg : Gl X "range") (hm : X.mg "range" = none) (ha : PA X (e :: es) (tDA X f)) (hs : autoParam (starEach (e :: es) X.env = (false, eval e X.env) :: starEach es X.env) au3._auto_1) (hpl : autoParam ((backTo pos (starEach es X.env)).any (·.1) = false) au3._auto_1) :
  PI X tg (.Call (.Name "range" p) (e :: es) [] pos) (tDI X (qEX f)) := by
 intro pins s σ H R I h
 obtain ⟨P, α, env, S, r, re, af⟩ := h
 refine Call_ (qH9 I hg hm boot_range (PyProof.Rows.callWith_type1 (thn (qDx ha I r re af pos) fun us s1 ⟨vs, H1, P1, α1, ds, S1, I1, rv, r1, re1, rp, e1, e2, af1⟩ => ?_) hs hpl))
 obtain ⟨its, hi, q⟩ := qGI af1
 cases qVe hi with
 | one j c =>
  obtain ⟨ws, rfl, t1⟩ := qM5 rp
  cases t1.nil_inv
  obtain ⟨u, rfl, t, rfl⟩ := qMH rv
  refine call_range_1 (qPJ I1 (by omega) (by omega) c.1 c.2 ?_)
  have z := q (Itr 0 j.toNat) H1 P1 α1 r1 e1 e2 qNV
  rw [Int.sub_zero]
  exact z
 | two i j c =>
  obtain ⟨ws, rfl, t1⟩ := qM5 rp
  obtain ⟨ws2, rfl, t2⟩ := qM5 t1
  cases t2.nil_inv
  obtain ⟨u, u', rfl, ⟨t, rfl⟩, t', rfl⟩ := qUA rv
  exact call_range_2 (qPJ I1 c.1 c.2.1 c.2.2.1 c.2.2.2 (q (Itr i (j - i).toNat) H1 P1 α1 r1 e1 e2 qNV))
noncomputable def qCD (g : DG) (f : DS) : List D → qAI → Sto → Out
 | [], env, S => .nx env S
 | d :: ds, env, S => (g d env S).toS env fun env1 S1 => match f env1 S1 with
  | .nx env2 S2 => qCD g f ds env2 S2
  | .ct env2 S2 => qCD g f ds env2 S2
  | .bk env2 S2 => .nx env2 S2
  | o => o
noncomputable def qCr (fi : DI) (g : DG) (f : DS) : DS := fun env S => (fi env S).toS env fun ds S1 => qCD g f ds env S1
noncomputable def qTt (X : Cx) (P1 : Hp) (α1 : List Addr) (g : DG) (f : DS) (ds : List D) (D : Ends) (i m : Nat) (σ : L2.St) (H : Hp) : Prop :=
 i ≤ ds.length ∧ m = ds.length - i ∧ ∃ P2 α2 env2 S2, Rel X.K H P2 α2 S2 ∧ qAu X.K P2 α2 σ env2 ∧ qAJ P1 P2 ∧ α1 <+: α2 ∧ qAi X P2 α2 (qCD g f (ds.drop i) env2 S2) D
theorem qWT {iter : Expr} {body : List Stmt} {fi : DI} {g : DG} {f : DS} (hp : PassesOwn (model X.prog X.w) X.A X.env X.xe) (hc : X.calm = true) (hi : PI X tg iter (tDI X fi)) (hg : PG X tg (tDG X g)) (hb : PSs X body (tDS X f))
  (hs : autoParam (∀ x, foldedSetIterable iter X.env x = pure x) au4._auto_1) : PS X (.For tg iter body [] pos) (tDS X (qCr fi g f)) := psW (qSB hp hc hi hg hb hs) fun D σ H ⟨P, α, env, S, r, re, af⟩ => by
 refine ⟨P, α, env, S, r, re, ?_⟩
 have af1 := qB1 af
 cases q : fi env S with
 | bad => rw [q] at af1; exact af1
 | ex c x S' => rw [q] at af1; exact af1
 | ok ds S1 =>
  rw [q] at af1
  have af2 : qAi X P α (qCD g f ds env S1) D := af1
  intro J H1 P1 α1 r1 e1 e2 it
  refine ⟨qTt X P1 α1 g f ds D,
   ⟨ds.length, Nat.zero_le _, rfl, P1, α1, env, S1, r1, re.mono e1 e2, qAJ.refl _, List.prefix_refl _, qAi.base e1 e2 af2⟩, ?_⟩
  rintro i m σ2 H2 ⟨hi, rfl, P2, α2, env2, S2, r2, re2, e3, e4, af3⟩
  by_cases hlt : i < ds.length
  ·refine .inr ⟨it.go i H2 P2 α2 S2 hlt r2 e3 e4, qTt X P1 α1 g f ds D (i + 1) (ds.length - (i + 1)), fun σ' H' w => ⟨_, ?_, w⟩, fun x H3 y => ?_⟩
   ·omega
   ·obtain ⟨P3, d, hd, r3, e5, rp⟩ := it.yld i H2 x H3 P2 α2 S2 hlt r2 e3 e4 y
    have hdr : ds.drop i = d :: ds.drop (i + 1) := by
     rw [List.drop_eq_getElem_cons hlt]
     rw [List.getElem?_eq_getElem hlt] at hd
     rw [Option.some.inj hd]
    rw [hdr] at af3
    have af4 := qB1 (qAi.base e5 (List.prefix_refl _) af3)
    refine ⟨P3, α2, env2, S2, d, r3, re2.mono e5 (List.prefix_refl _), rp, ?_⟩
    cases q2 : g d env2 S2 with
    | bad => rw [q2] at af4; exact af4
    | ex c x S' => rw [q2] at af4; exact af4
    | ok env3 S3 =>
     rw [q2] at af4
     intro σ4 H4 P4 α4 r4 re4 e6 e7
     refine ⟨P4, α4, env3, S3, r4, re4, ?_⟩
     have af5 := qAi.base e6 e7 af4
     cases q3 : f env3 S3 with
     | bad => simp only [q3] at af5; exact af5
     | ex c x env4 S4 => simp only [q3] at af5; exact af5
     | rt d4 S4 => simp only [q3] at af5; exact af5
     | bk env4 S4 => simp only [q3] at af5; exact af5
     | nx env4 S4 =>
      simp only [q3] at af5
      exact fun σ5 H5 P5 α5 r5 re5 e8 e9 => ⟨hlt, rfl, P5, α5, env4, S4, r5, re5, ((e3.trans e5).trans e6).trans e8, (e4.trans e7).trans e9, qAi.base e8 e9 af5⟩
     | ct env4 S4 =>
      simp only [q3] at af5
      exact fun σ5 H5 P5 α5 r5 re5 e8 e9 => ⟨hlt, rfl, P5, α5, env4, S4, r5, re5, ((e3.trans e5).trans e6).trans e8, (e4.trans e7).trans e9, qAi.base e8 e9 af5⟩
  ·have hdr : ds.drop i = [] := List.drop_eq_nil_of_le (by omega)
   rw [hdr] at af3
   exact .inl ⟨it.stop i H2 P2 α2 S2 (by omega) r2 e3 e4, af3 σ2 H2 P2 α2 r2 re2 (qAJ.refl _) (List.prefix_refl _)⟩
end
end DL
end
section
namespace DL
open PySem PySem.Spec PyProof.Rows L2
abbrev DF := List D → Sto → Res D
section
variable {X : Cx} {x : Str} {p pos : Pos} {e : Expr} {es : List Expr} {F : DF} {fa : DA}
noncomputable def qAO (F : DF) (fa : DA) : DE := fun env S => (fa env S).bind fun ds S1 => F ds S1
theorem qNM {F : DF} {u : Value} {pins : List (Addr × Obj)} {s1 : Shared} {σ : L2.St} {H1 P P1 : Hp} {α α1 : List Addr} {vs : List V} {us : List Value} {ds : List D} {S1 : Sto} {Q : VK} (hc : qF9 X u F) (I1 : Inv X pins σ H1 s1) (r1 : Rel X.K H1 P1 α1 S1) (rv : qAZ vs us)
  (rp : qAL X.K P1 α1 ds vs) (e1 : qAJ P P1) (e2 : α <+: α1) (af : qAY X P α (F ds S1) (OkV X P α Q)) : wpAny (model X.prog X.w) X.A (call u us) (EP X pins σ Q) X.xe s1 := hc pins σ H1 s1 P1 α1 S1 vs us ds Q I1 r1 rv rp (qAp.base e1 e2 af)
theorem qSo {id : String} (hc : qF9 X (.builtin id) F) (hg : Gl X x) (hm : X.mg x = none) (hv : bootBuiltins x = some (.builtin id)) (ha : PA X (e :: es) (tDA X fa)) (hn : autoParam (x ≠ "__name__") au2._auto_1) (hdb : autoParam ((x == ("__debug__" : Str)) = false) au2._auto_1)
  (he : autoParam (starEach (e :: es) X.env = (false, eval e X.env) :: starEach es X.env) au3._auto_1) (hpl : autoParam ((backTo pos (starEach es X.env)).any (·.1) = false) au3._auto_1) : PE X (.Call (.Name x p) (e :: es) [] pos) (tD X (qAO F fa)) := by
 intro pins s σ H Q I h
 obtain ⟨P, α, env, S, r, re, af⟩ := h
 refine wpAny_Call_Name_kw (qH9 I hg hm hv ?_ hn hdb)
 exact PyProof.Rows.callWith_builtin1 (thn (qDx ha I r re af pos) fun us s1 ⟨vs, H1, P1, α1, ds, S1, I1, rv, r1, re1, rp, e1, e2, af1⟩ => qNM hc I1 r1 rv rp e1 e2 af1) he hpl
theorem qRa {T : String} (hc : qF9 X (.type T) F) (hg : Gl X x) (hm : X.mg x = none) (hv : bootBuiltins x = some (.type T)) (ha : PA X (e :: es) (tDA X fa)) (hn : autoParam (x ≠ "__name__") au2._auto_1) (hdb : autoParam ((x == ("__debug__" : Str)) = false) au2._auto_1)
  (he : autoParam (starEach (e :: es) X.env = (false, eval e X.env) :: starEach es X.env) au3._auto_1) (hpl : autoParam ((backTo pos (starEach es X.env)).any (·.1) = false) au3._auto_1) : PE X (.Call (.Name x p) (e :: es) [] pos) (tD X (qAO F fa)) := by
 intro pins s σ H Q I h
 obtain ⟨P, α, env, S, r, re, af⟩ := h
 refine wpAny_Call_Name_kw (qH9 I hg hm hv ?_ hn hdb)
 exact PyProof.Rows.callWith_type1 (thn (qDx ha I r re af pos) fun us s1 ⟨vs, H1, P1, α1, ds, S1, I1, rv, r1, re1, rp, e1, e2, af1⟩ => qNM hc I1 r1 rv rp e1 e2 af1) he hpl
end
end DL
end
section
namespace DL
open PySem PySem.Spec PyProof.Rows L2
theorem qLV {α : Type} {t : Sem α} {Q Q' : α → Shared → Prop} {M : Model} {A : Around} {E : Value → Shared → Prop} {s : Shared} (h : wpAny M A t Q (fun _ _ => False) s) (hQ : ∀ a s, Q a s → Q' a s) : wpAny M A t Q' E s := wpAny_mono h hQ fun _ _ x => x.elim
noncomputable def qGx (ifs : List Expr) (env : Env) : Sem Bool := forIn ifs true fun c r => if r = true then do let ok ← PySem.isTrue c env (eval c env); pure (ForInStep.yield ok) else pure (ForInStep.yield r)
noncomputable def PTs (X : Cx) (ifs : List Expr) (t : DT) : Prop :=
 ∀ (pins : List (Addr × Obj)) (s : Shared) (σ : L2.St) (H : Hp) (Q : Bool → Hp → Prop), Inv X pins σ H s → tDT X t σ H Q → wpAny (model X.prog X.w) X.A (qGx ifs X.env) (TP X pins σ Q) X.xe s
noncomputable def qIe : DT := fun _ S => .ok true S
section
variable {X : Cx}
theorem qKf {prog : Program} {w : World} {A : Around} {E : Value → Shared → Prop} {env : Env} {Q : Bool → Shared → Prop} : ∀ (ifs : List Expr) {s : Shared}, Q false s →
  wpAny (model prog w) A (forIn ifs false fun c r => if r = true then do let ok ← PySem.isTrue c env (eval c env); pure (ForInStep.yield ok) else pure (ForInStep.yield r)) Q E s
 | [], s, h => by rw [List.forIn_nil]; exact wpAny_pure h
 | c :: cs, s, h => by
  rw [List.forIn_cons]
  rw [if_neg (by simp)]
  refine wpAny_bind (wpAny_pure ?_)
  exact qKf cs h
theorem qUg : PTs X [] qIe := fun pins s σ H Q I ⟨P, α, env, S, r, re, af⟩ => by
 unfold qGx
 rw [List.forIn_nil]
 exact wpAny_pure ⟨H, I, af H P α r (qAJ.refl _) (List.prefix_refl _)⟩
theorem qSx {c : Expr} {cs : List Expr} {t u : DT} (h1 : PT X c (tDT X t)) (h2 : PTs X cs u) : PTs X (c :: cs) (qEW t u) := fun pins s σ H Q I ⟨P, α, env, S, r, re, af⟩ => by
 unfold qGx
 rw [List.forIn_cons, if_pos rfl]
 refine wpAny_bind (wpAny_bind (thn (qHs (fun Q' q => h1 pins s σ H Q' I q) r re af) fun b s1 ⟨H1, P1, α1, S1, I1, r1, re1, e1, e2, af1⟩ => wpAny_pure ?_))
 cases b with
 | true => exact h2 pins s1 σ H1 Q I1 ⟨P1, α1, env, S1, r1, re1, qGK.base e1 e2 af1⟩
 | false => exact qKf cs ⟨H1, I1, af1 H1 P1 α1 r1 e1 e2⟩
theorem qZN {e : Expr} {f : DE} {pins : List (Addr × Obj)} {s : Shared} {σ : L2.St} {H P : Hp} {α : List Addr} {env : qAI} {S : Sto} {d : D} {S1 : Sto} (he : PE X e (tD X f)) (I : Inv X pins σ H s) (r : Rel X.K H P α S) (re : qAu X.K P α σ env) (q : f env S = .ok d S1) :
  wpAny (model X.prog X.w) X.A (eval e X.env) (fun u s1 => ∃ v H1 P1 α1, Got X pins σ env P α u s1 v H1 P1 α1 d S1) X.xe s := by
 refine thn (qBd (g := fun d S => Res.ok d S) (Ok := fun d' S' => d' = d ∧ S' = S1) he I r re (by rw [q]; exact ⟨rfl, rfl⟩)) fun u s1 ⟨v, H1, P1, α1, d', S', G, h1, h2⟩ => ?_
 have e1 : d' = d := h1
 have e2 : S' = S1 := h2
 subst e1; subst e2
 exact ⟨v, H1, P1, α1, G⟩
theorem qYi {ifs : List Expr} {t : DT} {pins : List (Addr × Obj)} {s : Shared} {σ : L2.St} {H P : Hp} {α : List Addr} {env : qAI} {S : Sto} {b : Bool} {S1 : Sto} (he : PTs X ifs t) (I : Inv X pins σ H s) (r : Rel X.K H P α S) (re : qAu X.K P α σ env) (q : t env S = .ok b S1) :
  wpAny (model X.prog X.w) X.A (qGx ifs X.env) (fun b' s1 => b' = b ∧ ∃ H1 P1 α1, Inv X pins σ H1 s1 ∧ Rel X.K H1 P1 α1 S1 ∧ qAu X.K P1 α1 σ env ∧ qAJ P P1 ∧ α <+: α1) X.xe s := by
 refine thn (he pins s σ H (fun b' H1 => b' = b ∧ ∃ P1 α1, Rel X.K H1 P1 α1 S1 ∧ qAu X.K P1 α1 σ env ∧ qAJ P P1 ∧ α <+: α1) I ⟨P, α, env, S, r, re, ?_⟩) fun b' s1 ⟨H1, I1, e, P1, α1, q1, q2, q3, q4⟩ => ⟨e, H1, P1, α1, I1, q1, q2, q3, q4⟩
 rw [q]
 exact fun H' P' α' r' e1 e2 => ⟨rfl, P', α', r', re.mono e1 e2, e1, e2⟩
theorem qZO {tg : Expr} {g : DG} {pins : List (Addr × Obj)} {s : Shared} {σ : L2.St} {H P : Hp} {α : List Addr} {env env1 : qAI} {S : Sto} {d : D} {v : V} {u : Value} {S1 : Sto} (hg : PG X tg (tDG X g)) (I : Inv X pins σ H s) (r : Rel X.K H P α S) (re : qAu X.K P α σ env) (rv : qAR v u)
  (rp : Rep X.K P α d v) (q : g d env S = .ok env1 S1) :
  wpAny (model X.prog X.w) X.A (assign tg X.env u) (fun _ s1 => ∃ σ1 H1 P1 α1, Inv X pins σ1 H1 s1 ∧ Rel X.K H1 P1 α1 S1 ∧ qAu X.K P1 α1 σ1 env1 ∧ qAJ P P1 ∧ α <+: α1) X.xe s := by
 refine thn (hg pins s σ H v u (fun σ1 H1 => ∃ P1 α1, Rel X.K H1 P1 α1 S1 ∧ qAu X.K P1 α1 σ1 env1 ∧ qAJ P P1 ∧ α <+: α1) I rv ⟨P, α, env, S, d, r, re, rp, ?_⟩) fun _ s1 ⟨σ1, H1, I1, P1, α1, q1, q2, q3, q4⟩ => ⟨σ1, H1, P1, α1, I1, q1, q2, q3, q4⟩
 rw [q]
 exact fun σ' H' P' α' r' re' e1 e2 => ⟨P', α', r', re', e1, e2⟩
noncomputable def qMJ (K : PySem.W.Frag) (P : Hp) (α : List Addr) (ds : List D) (o : Obj) : Prop := ∃ (its : List Value) (n : Nat) (vs : List V), o = { cls := .type "list", data := .seq its.toArray n } ∧ qAZ vs its ∧ qAL K P α ds vs ∧ ds.length ≤ lim
theorem qMJ.mono {K : PySem.W.Frag} {P P1 : Hp} {α α1 : List Addr} {ds : List D} {o : Obj} (e : qAJ P P1) (h : α <+: α1) (a : qMJ K P α ds o) : qMJ K P1 α1 ds o := by
 obtain ⟨its, n, vs, q1, q2, q3, q4⟩ := a
 exact ⟨its, n, vs, q1, q2, qAL.mono e h _ _ q3, q4⟩
theorem qMJ.cell {K : PySem.W.Frag} {P : Hp} {α : List Addr} {ds : List D} {o : Obj} (a : qMJ K P α ds o) : ∀ v, o.data ≠ .cell v := by
 obtain ⟨its, n, vs, rfl, _⟩ := a
 intro v z; cases z
theorem Inv.pin1 {pins : List (Addr × Obj)} {σ : L2.St} {H : Hp} {s : Shared} {a : Addr} {o : Obj} (I : Inv X pins σ H s) (f : qCM X pins H a) (e : s.heap.get? a = some o) (d : ∀ v, o.data ≠ .cell v) : Inv X (pins ++ [(a, o)]) σ H s :=
 I.pins_of fun p hp => (List.mem_append.mp hp).elim (fun z => I.pin p (List.mem_append_right _ z)) fun z => by
  have e' : p = (a, o) := by simpa using z
  subst e'
  exact ⟨e, f.1, f.2.1, f.2.2.1, d⟩
theorem Inv.pinned1 {pins : List (Addr × Obj)} {σ : L2.St} {H : Hp} {s : Shared} {a : Addr} {o : Obj} (I : Inv X (pins ++ [(a, o)]) σ H s) : s.heap.get? a = some o ∧ H a = none := by
 have := I.pin (a, o) (List.mem_append_right _ (List.mem_append_right _ (by simp)))
 exact ⟨this.1, this.2.1⟩
end
end DL
end
section
namespace DL
open PySem PySem.Spec PyProof.Rows L2
structure TurnSt (Y : Cx) (pins : List (Addr × Obj)) (P1 : Hp) (α1 : List Addr) (fp : List Addr) (acc : Addr) (env : qAI) (S : Sto) (ds : List D) (s : Shared) (σ : L2.St) (H P : Hp) (α : List Addr) (o : Obj) : Prop where
 inv : Inv Y pins σ H s
 rel : Rel Y.K H P α S
 env : qAu Y.K P α σ env
 same : qAJ P1 P
 pre : α1 <+: α
 fpn : ∀ b ∈ fp, H b = none
 acn : H acc = none
 at' : s.heap.get? acc = some o
 acc : qMJ Y.K P α ds o
end DL
end
section
namespace DL
open PySem PySem.Spec PyProof.Rows L2
noncomputable def qC2 (cells : List (Str × Addr)) : List (Str × NameKind) → List (Str × Addr) → List (Str × Addr)
 | [], cs => cs
 | (n, k) :: r, cs => qC2 cells r (if k == .free then (n, (cells.lookup n).getD 0) :: cs else cs)
theorem qNj {env : Env} {scope : Scope} (h : ∀ y ∈ scope.names, y.2 = .free → ∃ c, env.cells.lookup y.1 = some c) : closureFor scope env = pure (qC2 env.cells scope.names []) := by
 have go : ∀ (l : List (Str × NameKind)) (cs : List (Str × Addr)), (∀ y ∈ l, y.2 = .free → ∃ c, env.cells.lookup y.1 = some c) →
   (forIn l cs fun x cs => match x with | (name, kind) => if (kind == NameKind.free) = true then do let a ← cellOf env name; pure (ForInStep.yield ((name, a) :: cs)) else pure (ForInStep.yield cs) : Sem (List (Str × Addr))) = pure (qC2 env.cells l cs) := by
  intro l
  induction l with
  | nil => intro cs _; rfl
  | cons y r ih =>
   intro cs hl
   obtain ⟨n, k⟩ := y
   rw [List.forIn_cons]
   by_cases hk : k = .free
   ·subst hk
    obtain ⟨c, hc⟩ := hl (n, .free) List.mem_cons_self rfl
    have hc' : env.cells.lookup n = some c := hc
    have e : cellOf env n = pure c := by unfold cellOf; rw [hc']
    simp only [beq_self_eq_true, if_true, e, pure_bind]
    rw [ih _ fun z hz => hl z (List.mem_cons_of_mem _ hz)]
    simp only [qC2, beq_self_eq_true, if_true, hc', Option.getD_some]
   ·have hb : (k == NameKind.free) = false := by simpa using hk
    simp only [hb, Bool.false_eq_true, if_false, pure_bind]
    rw [ih _ fun z hz => hl z (List.mem_cons_of_mem _ hz)]
    simp only [qC2, hb, Bool.false_eq_true, if_false]
 unfold closureFor
 have := go scope.names [] h
 simp only [bind_pure]
 exact this
theorem qKZ {cells : List (Str × Addr)} {x : Str} {c : Addr} : ∀ (l : List (Str × NameKind)) (cs : List (Str × Addr)), (qC2 cells l cs).lookup x = some c → cs.lookup x = some c ∨ ((x, NameKind.free) ∈ l ∧ c = (cells.lookup x).getD 0)
 | [], cs, h => .inl h
 | (n, k) :: r, cs, h => by
  rcases qKZ r _ h with h | ⟨h1, h2⟩
  ·by_cases hk : k = .free
   ·subst hk
    simp only [beq_self_eq_true, if_true, List.lookup_cons] at h
    cases hb : x == n with
    | true =>
     rw [hb] at h
     have e : x = n := by simpa using hb
     subst e
     exact .inr ⟨List.mem_cons_self, (Option.some.inj h).symm⟩
    | false => rw [hb] at h; exact .inl h
   ·have hb : (k == NameKind.free) = false := by simpa using hk
    simp only [hb, Bool.false_eq_true, if_false] at h
    exact .inl h
  ·exact .inr ⟨List.mem_cons_of_mem _ h1, h2⟩
theorem qJT {cells : List (Str × Addr)} {x : Str} : ∀ (l : List (Str × NameKind)) (cs : List (Str × Addr)), ((x, NameKind.free) ∈ l ∨ ∃ c, cs.lookup x = some c) → ∃ c, (qC2 cells l cs).lookup x = some c
 | [], cs, h => by
  rcases h with h | h
  ·cases h
  ·exact h
 | (n, k) :: r, cs, h => by
  refine qJT r _ ?_
  rcases h with h | ⟨c, h⟩
  ·rcases List.mem_cons.mp h with e | h
   ·cases e
    exact .inr ⟨(cells.lookup x).getD 0, by simp only [beq_self_eq_true, if_true, List.lookup_cons]⟩
   ·exact .inl h
  ·by_cases hk : k = .free
   ·subst hk
    simp only [beq_self_eq_true, if_true, List.lookup_cons]
    cases hb : x == n with
    | true => exact .inr ⟨_, rfl⟩
    | false => exact .inr ⟨c, h⟩
   ·have hb : (k == NameKind.free) = false := by simpa using hk
    simp only [hb, Bool.false_eq_true, if_false]
    exact .inr ⟨c, h⟩
structure CompSc (scX : Scope) (NX : List Str) (scope : Scope) (N' : List Str) (cap : List (Option Nat)) : Prop where
 kind : scope.kind = .function
 names : ∀ y ∈ scope.names, y.2 = .local → scope.names.lookup y.1 = some .local
 nocell : ∀ y ∈ scope.names, y.2 ≠ .cell
 free : ∀ y ∈ scope.names, y.2 = .free → scX.names.lookup y.1 = some .cell ∨ scX.names.lookup y.1 = some .free
 fr2 : ∀ y ∈ scope.names, y.2 = .free → scope.names.lookup y.1 = some .free
 len : cap.length = N'.length
 caps : ((cap.zip N').all fun p => match p.1 with | none => true | some i => NX[i]? == some p.2 && scope.names.lookup p.2 == some .free) = true
 nd : N'.Nodup
noncomputable def qEk (cap : List (Option Nat)) (σ : L2.St) : L2.St := cap.map fun o => match o with
 | none => none
 | some i => (σ[i]?).join
noncomputable def qEj (cap : List (Option Nat)) (env : qAI) : qAI := cap.map fun o => match o with
 | none => none
 | some i => (env[i]?).join
theorem qSH {K : PySem.W.Frag} {P : Hp} {α : List Addr} {σ : L2.St} {env : qAI} (re : qAu K P α σ env) (cap : List (Option Nat)) : qAu K P α (qEk cap σ) (qEj cap env) := by
 refine ⟨by simp [qEk, qEj], fun j d e => ?_⟩
 unfold qEj at e
 unfold qEk
 rw [List.getElem?_map] at e ⊢
 cases q : cap[j]? with
 | none => rw [q] at e; cases e
 | some o =>
  rw [q] at e
  cases o with
  | none => cases e
  | some i =>
   have e' : (env[i]?).join = some d := by simpa using e
   cases z : env[i]? with
   | none => rw [z] at e'; cases e'
   | some w =>
    rw [z] at e'
    have e'' : w = some d := e'
    subst e''
    obtain ⟨v, h1, h2⟩ := re.2 i d z
    exact ⟨v, by simp [h1], h2⟩
noncomputable def qBN (X : Cx) (N' : List Str) (scope : Scope) (cl : List (Str × Addr)) (C : Addr) (ex : List Addr) (s₀ : Shared) (H₀ : Hp) : Cx :=
 { X with N := N', s₀ := s₀, H₀ := H₀, env := compEnvC scope cl C X.env, outer := X.stack, stack := X.stack, ex := ex, fn := fun _ => false, pn := [], xe := fun _ _ => False }
theorem qGu {scope : Scope} {env : Env} : ∀ {names : List (Str × NameKind)} {x : Str} {k : NameKind},
  (names.map fun (n, k) => if (k == NameKind.free && env.scope.kind == .function && env.kindOf n == some .cell) then (n, NameKind.cell) else (n, k)).lookup x = some k →
  names.lookup x = some k ∨ (k = .cell ∧ names.lookup x = some .free)
 | [], _, _, h => by simp at h
 | (n, k0) :: r, x, k, h => by
  rw [List.map_cons, List.lookup_cons] at h
  rw [List.lookup_cons]
  dsimp only at h
  cases hb : (k0 == NameKind.free && env.scope.kind == .function && env.kindOf n == some .cell) with
  | true =>
   rw [hb] at h
   simp only [if_true] at h
   cases hx : x == n with
   | true =>
    rw [hx] at h
    have e : NameKind.cell = k := Option.some.inj h
    have hk : k0 = .free := by
     have := (Bool.and_eq_true _ _).mp hb
     have := (Bool.and_eq_true _ _).mp this.1
     simpa using this.1
    subst hk
    exact .inr ⟨e.symm, rfl⟩
   | false => rw [hx] at h; exact qGu (scope := scope) h
  | false =>
   rw [hb] at h
   simp only [Bool.false_eq_true, if_false] at h
   cases hx : x == n with
   | true => rw [hx] at h; exact .inl h
   | false => rw [hx] at h; exact qGu (scope := scope) h
section
variable {X : Cx} {scope : Scope} {N' : List Str} {cap : List (Option Nat)} {pins : List (Addr × Obj)} {σ : L2.St} {H2 : Hp} {s2 : Shared} {fp : List Addr}
theorem qIb (S : CompSc X.env.scope X.N scope N' cap) {x : Str} {k : NameKind} (h : (relabel scope X.env).names.lookup x = some k) : scope.names.lookup x = some k ∨ (k = .cell ∧ scope.names.lookup x = some .free) := qGu (scope := scope) h
theorem qCT (S : CompSc X.env.scope X.N scope N' cap) (ok : X.Ok) {x : Str} {c : Addr} (h : (qC2 X.env.cells scope.names []).lookup x = some c) : X.env.cells.lookup x = some c := by
 rcases qKZ _ _ h with h | ⟨hm, hc⟩
 ·cases h
 ·have := S.free _ hm rfl
  obtain ⟨c', hc'⟩ := ok.has x this
  rw [hc', Option.getD_some] at hc
  rw [hc', hc]
theorem qUN {C : Addr} (S : CompSc X.env.scope X.N scope N' cap) (I2 : Inv X pins σ H2 s2) (hf : ∀ b ∈ fp, qCM X pins H2 b) (hlt : ∀ b ∈ fp, b < s2.heap.objs.size) (hC : s2.heap.objs.size ≤ C) :
  (qBN X N' scope (qC2 X.env.cells scope.names []) C fp s2 H2).Ok where
 mod := I2.ok.mod
 kind := S.kind
 glob := I2.ok.glob
 blt := I2.ok.blt
 above := hC
 inj := fun x y c h1 h2 => I2.ok.inj x y c (qCT S I2.ok h1) (qCT S I2.ok h2)
 has := fun x hx => by
  have hx' : (relabel scope X.env).names.lookup x = some .cell ∨ (relabel scope X.env).names.lookup x = some .free := hx
  have hf : scope.names.lookup x = some .free := by
   rcases hx' with h | h
   ·rcases qIb S h with h | ⟨_, h⟩
    ·exact absurd rfl (S.nocell _ (PySem.mem_of_lookup h))
    ·exact h
   ·rcases qIb S h with h | ⟨z, _⟩
    ·exact h
    ·cases z
  exact qJT _ _ (.inl (PySem.mem_of_lookup hf))
 cab := fun x c h _ => by cases h
 hd := I2.ok.hd
 frames := I2.ok.frames
 stk := .inl rfl
 exf := fun b hb => ⟨Nat.ne_of_lt (Nat.lt_of_lt_of_le (hlt b hb) hC), fun x c h => (hf b hb).2.2.2.2.1 x c (qCT S I2.ok h)⟩
 bs := I2.bs
 bsz := Nat.le_trans I2.ok.bsz I2.sz
 noex := fun b o e hb => by
  obtain ⟨_, _, _, h, _⟩ := hf b hb
  rcases h with h | h
  ·exact I2.ok.noex b o e h
  ·exact absurd (Nat.lt_of_lt_of_le (Heap.lt_size e) (Nat.le_trans I2.ok.bsz h)) (Nat.lt_irrefl _)
 exfs := fun b hb hb2 => by
  obtain ⟨_, h1, h2, _⟩ := hf b hb
  rcases List.mem_cons.mp (I2.stkSub b hb2) with z | z
  ·exact h1 z
  ·exact h2 z
 funs := I2.stack
 frf := I2.stkFree
theorem qSi {s4 : Shared} {C : Addr} {m : Str → Option Value} (S : CompSc X.env.scope X.N scope N' cap) (I2 : Inv X pins σ H2 s2) (hf : ∀ b ∈ fp, qCM X pins H2 b) (hlt : ∀ b ∈ fp, b < s2.heap.objs.size) (hC : s2.heap.objs.size ≤ C)
  (hn : s4.heap.Ns C m) (os : s4.os = s2.os) (gens : s4.gens = s2.gens) (keep : ∀ b o, s2.heap.get? b = some o → s4.heap.get? b = some o) :
  Inv (qBN X N' scope (qC2 X.env.cells scope.names []) C fp s2 H2) [] (qEk cap σ) H2 s4 where
 ok := qUN S I2 hf hlt hC
 os := os
 bare := gens ▸ I2.bare
 base := Un.kept keep
 loc := by
  refine ⟨m, hn, fun j x v h1 h2 h3 => ?_⟩
  have h1' : N'[j]? = some x := h1
  unfold qEk at h2
  rw [List.getElem?_map] at h2
  cases q : cap[j]? with
  | none => rw [q] at h2; cases h2
  | some o =>
   rw [q] at h2
   cases o with
   | none => cases h2
   | some i =>
    have e' : (σ[i]?).join = some v := by simpa using h2
    have hσ : σ[i]? = some (some v) := by
     cases z : σ[i]? with
     | none => rw [z] at e'; cases e'
     | some w => rw [z] at e'; have : w = some v := e'; rw [this]
    have hz : (some i, x) ∈ cap.zip N' := by
     refine List.mem_iff_getElem?.mpr ⟨j, ?_⟩
     rw [List.getElem?_zip_eq_some]
     exact ⟨q, h1'⟩
    have hc := List.all_eq_true.mp S.caps _ hz
    simp only [Bool.and_eq_true, beq_iff_eq] at hc
    obtain ⟨hN, hfr⟩ := hc
    have hk := S.free _ (PySem.mem_of_lookup hfr) rfl
    obtain ⟨mo, hmo, hl⟩ := I2.loc
    have vis : Vis X.env.scope x := by
     rcases hk with k | k
     ·exact .inr (.inl k)
     ·exact .inr (.inr k)
    obtain ⟨u, ru, lk⟩ := hl i x v hN hσ vis
    refine ⟨u, ru, ?_⟩
    rcases lk with ⟨kl, _⟩ | ⟨_, c, hcl, hcell⟩
    ·have kl' : X.env.scope.names.lookup x = some .local := kl
     rcases hk with k | k
     ·have k' : X.env.scope.names.lookup x = some .cell := k
      rw [kl'] at k'; cases k'
     ·have k' : X.env.scope.names.lookup x = some .free := k
      rw [kl'] at k'; cases k'
    ·obtain ⟨c', hc'⟩ := qJT (cells := X.env.cells) scope.names [] (.inl (PySem.mem_of_lookup hfr))
     have e2 := qCT S I2.ok hc'
     rw [hcl] at e2; cases e2
     refine .inr ⟨?_, c, hc', ?_⟩
     ·have h3' : Vis (relabel scope X.env) x := h3
      rcases h3' with h | h | h
      ·rcases qIb S h with h | ⟨z, _⟩
       ·rw [hfr] at h; cases h
       ·cases z
      ·exact .inl h
      ·exact .inr h
     ·obtain ⟨ob, hob, hd⟩ := hcell
      exact ⟨ob, keep c ob hob, hd⟩
 cell := fun x c h => by
  obtain ⟨v, ob, hob, hd⟩ := I2.cell x c (qCT S I2.ok h)
  exact ⟨v, ob, keep c ob hob, hd⟩
 free := I2.hok.fresh hC
 freeC := fun x c h => I2.freeC x c (qCT S I2.ok h)
 pin := fun p hp => absurd (show p ∈ ([] : List (Addr × Obj)) from hp) (by simp)
 hok := I2.hok.kept keep
 len := by
  show (qEk cap σ).length = N'.length
  simp [qEk, S.len]
end
end DL
end
section
namespace DL
open PySem PySem.Spec PyProof.Rows L2
theorem qRm {P : Program} {w : World} {H : Hp} {h : Heap} {a : Addr} {o : HO} (x : HOk P w H h) (hn : H a = none) (new : qBD P w (upd H a o) h a o) : HOk P w (upd H a o) h := fun b u e => by
 by_cases hb : b = a
 ·subst hb; rw [qA5] at e; cases e; exact new
 ·rw [qAa hb] at e
  exact (x b u e).stay (fun c v _ q => q) (fun c q => by rw [qAa (qAw q hn)]; exact q) fun c xs q => by rw [qAa (qAw q hn)]; exact q
theorem qRl {P : Program} {w : World} {H : Hp} {h h' : Heap} {C : Addr} (x : HOk P w H h) (hn : H C = none) (k : ∀ b o, b ≠ C → h.get? b = some o → h'.get? b = some o) : HOk P w H h' := fun b u e =>
 (x b u e).stay (fun c v hc q => k c v (by
  rintro rfl
  rcases hc with z | z
  ·subst z; rw [hn] at e; cases e
  ·rw [hn] at z; cases z) q) (fun _ q => q) fun _ _ q => q
section
variable {X : Cx} {elt tg iter : Expr} {ifs : List Expr} {scope : Scope} {pos : Pos} {N' : List Str} {cap : List (Option Nat)} {fi : DI} {g : DG} {t : DT} {fe : DE}
noncomputable def qJz (X : Cx) (pins : List (Addr × Obj)) (σ : L2.St) (P1 : Hp) (α1 : List Addr) (ds : List D) (SF : Sto) (acc C : Addr) (s : Shared) : Prop :=
 ∃ (H' P' : Hp) (α' : List Addr) (vs : List V), Inv X pins σ (upd H' acc (.lst vs)) s ∧ Rel X.K H' P' α' SF ∧ H' acc = none ∧ qAJ P1 P' ∧ α1 <+: α' ∧ qAL X.K P' α' ds vs ∧ H' C = none
theorem qSh {Y : Cx} {pins : List (Addr × Obj)} {σ σ' : L2.St} {H2 : Hp} {s2 s' : Shared} {fp : List Addr} {acc C : Addr} {P1 : Hp} {α1 : List Addr} {H' P' : Hp} {α' : List Addr} {envF : qAI} {SF : Sto} {ds : List D} {o : Obj} {cl : List (Str × Addr)} (I2 : Inv X pins σ H2 s2)
  (hf : ∀ b ∈ fp, qCM X pins H2 b) (hY : Y = qBN X N' scope cl C fp s2 H2) (hC : s2.heap.objs.size ≤ C) (hA : s2.heap.objs.size ≤ acc) (hne : acc ≠ C) (st : TurnSt Y [] P1 α1 fp acc envF SF ds s' σ' H' P' α' o)
  {h' : Heap} (sb : Heap.SameBut C s'.heap h') : qJz X pins σ P1 α1 ds SF acc C { s' with heap := h' } := by
 subst hY
 obtain ⟨its, n, vs, rfl, rv, rp, hz⟩ := st.acc
 have kC : ∀ b o, b ≠ C → s'.heap.get? b = some o → h'.get? b = some o := fun b o hb e => (sb.2 b hb).trans e
 have nC : ∀ b o, s2.heap.get? b = some o → b ≠ C := fun b o e => Nat.ne_of_lt (Nat.lt_of_lt_of_le (Heap.lt_size e) hC)
 have nA : ∀ b o, s2.heap.get? b = some o → b ≠ acc := fun b o e => Nat.ne_of_lt (Nat.lt_of_lt_of_le (Heap.lt_size e) hA)
 have base : Un (frs X.stack) fp H2 H' s2.heap s'.heap := st.inv.base
 have nt : ∀ b u, H' b = some u → b ≠ acc := fun b u e => qAw e st.acn
 have un : Un (frs X.stack) fp H2 (upd H' acc (.lst vs)) s2.heap h' := by
  refine ⟨fun b ob q hn hb hx => kC b ob (nC b ob q) (base.keep b ob q hn hb hx), fun b ob q hn hb hx => ?_, fun b ob q hn hx => ?_, fun b ob q hx => ?_, fun b xs q => ?_, fun b ob u q => ?_, fun b ps q => ?_⟩
  ·obtain ⟨sl, e⟩ := base.slot b ob q hn hb hx
   exact ⟨sl, kC b _ (nC b ob q) e⟩
  ·rw [qAa (nA b ob q)]; exact base.free b ob q hn hx
  ·obtain ⟨o', e⟩ := base.there b ob q hx
   exact ⟨o', kC b o' (nC b ob q) e⟩
  ·have := base.tups b xs q; rw [qAa (nt _ _ this)]; exact this
  ·have := base.frzs b ob u q; rw [qAa (nt _ _ this)]; exact this
  ·obtain ⟨more, e⟩ := base.tbls b ps q
   exact ⟨more, by rw [qAa (nt _ _ e)]; exact e⟩
 have hok' : HOk X.prog X.w H' h' := qRl st.inv.hok st.inv.free kC
 have hat : h'.get? acc = some { cls := .type "list", data := .seq its.toArray n } := kC acc _ hne st.at'
 have hok : HOk X.prog X.w (upd H' acc (.lst vs)) h' := qRm hok' st.acn ⟨by rw [← rp.length, ← qBg]; exact hz, its, n, rv, hat⟩
 refine ⟨H', P', α', vs, ?_, st.rel, st.acn, st.same, st.pre, rp, st.inv.free⟩
 exact I2.call' (s' := { s' with heap := h' }) (ch := fp) (st.inv.os) un hok st.inv.bare fun b hb => by
  obtain ⟨_, h1, h2, h3, h4, h5⟩ := hf b hb
  exact ⟨h3, h1, h4, h5⟩
theorem qUK (S : CompSc X.env.scope X.N scope N' cap) (ok : X.Ok) : closureFor scope X.env = pure (qC2 X.env.cells scope.names []) := qNj fun y hy hk => ok.has y.1 (S.free y hy hk)
theorem qUi {pins : List (Addr × Obj)} {σ : L2.St} {P1 : Hp} {α1 : List Addr} {ds : List D} {SF : Sto} {acc C : Addr} {s : Shared} {Q : VK} (c : qJz X pins σ P1 α1 ds SF acc C s) (ok : OkV X P1 α1 Q (.lst ds) SF) : EP X pins σ Q (.ref acc) s := by
 obtain ⟨H', P', α', vs, I, r, hn, e1, e2, rp, _⟩ := c
 exact ⟨.ref acc, _, I, rfl, qGr r hn rp fun v H2 P2 α2 r2 q1 q2 q3 => ok v H2 P2 α2 r2 (e1.trans q1) (e2.trans q2) q3⟩
end
end DL
end
section
namespace DL
open PySem PySem.Spec PyProof.Rows L2 PySem.SeqAt
noncomputable def b01 (b : Bool) : Int := if b then 1 else 0
mutual
noncomputable def eqD : D → D → Bool
 | .non, .non => true
 | .bl a, .bl b => a == b
 | .bl a, .int b => b01 a == b
 | .int a, .bl b => a == b01 b
 | .int a, .int b => a == b
 | .str a, .str b => a == b
 | .tup xs, .tup ys => qDG xs ys
 | .lst xs, .lst ys => qDG xs ys
 | _, _ => false
noncomputable def qDG : List D → List D → Bool
 | [], [] => true
 | x :: xs, y :: ys => eqD x y && qDG xs ys
 | _, _ => false
end
noncomputable def pl : Nat → D → Bool
 | _, .non => true
 | _, .bl _ => true
 | _, .int _ => true
 | _, .str _ => true
 | n + 1, .tup xs => xs.all (pl n)
 | n + 1, .lst xs => xs.all (pl n)
 | _, _ => false
theorem qRf (x y : D) (xs ys : List D) : qDG (x :: xs) (y :: ys) = (eqD x y && qDG xs ys) := rfl
theorem qGX : ∀ (xs ys : List D), qDG xs ys = ((List.range (min xs.length ys.length)).all (fun j => eqD (xs.getD j .non) (ys.getD j .non)) && xs.length == ys.length)
 | [], [] => rfl
 | [], y :: ys => rfl
 | x :: xs, [] => rfl
 | x :: xs, y :: ys => by
  have ih := qGX xs ys
  rw [qRf, ih, List.length_cons, List.length_cons, Nat.succ_min_succ, List.range_succ_eq_map, List.all_cons, List.all_map, Bool.and_assoc]
  have e : (xs.length + 1 == ys.length + 1) = (xs.length == ys.length) := by simp
  rw [e]
  rfl
theorem qSz {xs ys : List D} (h : xs.length ≠ ys.length) : qDG xs ys = false := by
 rw [qGX]
 simp [h]
theorem qMa (xs ys : List D) : eqD (.tup xs) (.tup ys) = qDG xs ys := rfl
theorem qMZ (xs ys : List D) : eqD (.lst xs) (.lst ys) = qDG xs ys := rfl
section
variable {X : Cx} {pins : List (Addr × Obj)} {σ : L2.St} {H P : Hp} {α : List Addr} {S : Sto} {s : Shared}
inductive Kd (X : Cx) (P : Hp) (α : List Addr) (s : Shared) : D → Value → Prop where
 | non : Kd X P α s .non .none
 | bl (b : Bool) : Kd X P α s (.bl b) (.bool b)
 | int (i : Int) (t : Tok) : Kd X P α s (.int i) (.int i t)
 | str (x : Str) (t : Tok) : Kd X P α s (.str x) (.str x t)
 | tup (a : Addr) (xs : List D) (its : List Value) (vs : List V) (rp : qAL X.K P α xs vs) (rv : qAZ vs its) (h : s.heap.IsTuple a its.toArray) (q : SqT X.K P a vs) : Kd X P α s (.tup xs) (.ref a)
 | lst (a : Addr) (xs : List D) (its : List Value) (vs : List V) (rp : qAL X.K P α xs vs) (rv : qAZ vs its) (h : s.heap.IsList a its.toArray) (q : SqX X.K P a vs) : Kd X P α s (.lst xs) (.ref a)
theorem qHI (I : Inv X pins σ H s) (r : Rel X.K H P α S) {n : Nat} {d : D} {v : V} {u : Value} (h : pl n d = true) (p : Rep X.K P α d v) (rv : qAR v u) : Kd X P α s d u := by
 cases d with
 | non => simp only [Rep] at p; subst p; cases rv; exact .non
 | bl b => simp only [Rep] at p; subst p; cases rv; exact .bl b
 | int i => simp only [Rep] at p; subst p; obtain ⟨t, rfl⟩ := rv; exact .int i t
 | str x => simp only [Rep] at p; subst p; obtain ⟨t, rfl⟩ := rv; exact .str x t
 | tup xs =>
  simp only [Rep] at p
  obtain ⟨a, vs, rfl, q, t⟩ := p
  cases rv
  obtain ⟨its, r1, p1, _⟩ := I.tuple (qDF r.sub q)
  exact .tup a xs its vs t r1 p1 q
 | lst xs =>
  simp only [Rep] at p
  obtain ⟨a, vs, rfl, q, t⟩ := p
  cases rv
  obtain ⟨its, r1, p1, _⟩ := I.list ((qC5 r.sub q).l)
  exact .lst a xs its vs t r1 p1.isList q
 | _ => cases n <;> exact Bool.noConfusion h
theorem qED {ds : List D} {vs : List V} {its : List Value} (rp : qAL X.K P α ds vs) (rv : qAZ vs its) {j : Nat} (h : j < its.toArray.size) : ∃ v, Rep X.K P α (ds.getD j .non) v ∧ qAR v its.toArray[j] ∧ ds.getD j .non ∈ ds := by
 have l1 := rp.length
 have l2 := rv.length
 have hj : j < its.length := by simpa using h
 have hd : j < ds.length := by omega
 obtain ⟨v, e1, p⟩ := rp.get (List.getElem?_eq_getElem hd)
 obtain ⟨u, e2, q⟩ := rv.get e1
 have e3 : its.toArray[j] = u := by
  have : its[j]? = some its[j] := List.getElem?_eq_getElem hj
  rw [this] at e2
  simpa using Option.some.inj e2
 have e4 : ds.getD j .non = ds[j] := by simp [List.getD, hd]
 rw [e3, e4]
 exact ⟨v, p, q, List.getElem_mem hd⟩
theorem qHJ {n : Nat} {ds : List D} (h : ds.all (pl n) = true) {d : D} (hd : d ∈ ds) : pl n d = true := List.all_eq_true.mp h d hd
theorem qUy {h : Heap} {a : Addr} {xs ys : Array Value} (h1 : h.IsTuple a xs) (h2 : h.IsTuple a ys) : xs = ys := by
 obtain ⟨o, e, _, n, d⟩ := h1
 obtain ⟨o', e', _, n', d'⟩ := h2
 cases e.symm.trans e'
 cases d.symm.trans d'
 rfl
theorem qUx {h : Heap} {a : Addr} {xs ys : Array Value} (h1 : h.IsList a xs) (h2 : h.IsList a ys) : xs = ys := by
 obtain ⟨o, e, _, n, d⟩ := h1
 obtain ⟨o', e', _, n', d'⟩ := h2
 cases e.symm.trans e'
 cases d.symm.trans d'
 rfl
theorem qWq {h : Heap} {a : Addr} {xs ys : Array Value} (h1 : h.IsTuple a xs) (h2 : h.IsList a ys) : False := by
 obtain ⟨o, e, c, _⟩ := h1
 obtain ⟨o', e', c', _⟩ := h2
 cases e.symm.trans e'
 exact absurd (c.symm.trans c') (by decide)
inductive Seqs (X : Cx) (P : Hp) (α : List Addr) (xs ys : List D) (its its2 : List Value) : Prop
 | mk (vs ws : List V) (rp : qAL X.K P α xs vs) (rv : qAZ vs its) (rp2 : qAL X.K P α ys ws) (rv2 : qAZ ws its2) : Seqs X P α xs ys its its2
theorem Seqs.len1 {xs ys : List D} {its its2 : List Value} (q : Seqs X P α xs ys its its2) : xs.length = its.length := by
 obtain ⟨vs, ws, rp, rv, _, _⟩ := q
 exact rp.length.trans rv.length
theorem Seqs.len2 {xs ys : List D} {its its2 : List Value} (q : Seqs X P α xs ys its its2) : ys.length = its2.length := by
 obtain ⟨vs, ws, _, _, rp, rv⟩ := q
 exact rp.length.trans rv.length
inductive SameR (X : Cx) (P : Hp) (α : List Addr) : D → D → Prop
 | eq {d d' : D} (h : eqD d d' = true) : SameR X P α d d'
 | tt (xs ys : List D) (its : List Value) (q : Seqs X P α xs ys its its) : SameR X P α (.tup xs) (.tup ys)
 | ll (xs ys : List D) (its : List Value) (q : Seqs X P α xs ys its its) : SameR X P α (.lst xs) (.lst ys)
theorem qQb {d d' : D} {u : Value} (k1 : Kd X P α s d u) (k2 : Kd X P α s d' u) : SameR X P α d d' := by
 cases k1 with
 | non => cases k2; exact .eq rfl
 | bl b => cases k2; exact .eq (beq_self_eq_true _)
 | int i t => cases k2; exact .eq (beq_self_eq_true _)
 | str x t => cases k2; exact .eq (beq_self_eq_true _)
 | tup a xs its vs rp rv h q =>
  cases k2 with
  | tup _ ys its2 ws rp2 rv2 h2 q2 =>
   cases qUy h h2
   exact .tt xs ys its ⟨vs, ws, rp, rv, rp2, rv2⟩
  | lst _ ys its2 ws rp2 rv2 h2 q2 => exact (qWq h h2).elim
 | lst a xs its vs rp rv h q =>
  cases k2 with
  | lst _ ys its2 ws rp2 rv2 h2 q2 =>
   cases qUx h h2
   exact .ll xs ys its ⟨vs, ws, rp, rv, rp2, rv2⟩
  | tup _ ys its2 ws rp2 rv2 h2 q2 => exact (qWq h2 h).elim
theorem qNT (I : Inv X pins σ H s) (r : Rel X.K H P α S) {m : Nat} (ih : ∀ (d d' : D) (u : Value), pl m d = true → pl m d' = true → Kd X P α s d u → Kd X P α s d' u → eqD d d' = true) {xs ys : List D} {its : List Value} (h1 : xs.all (pl m) = true) (h2 : ys.all (pl m) = true) (q : Seqs X P α xs ys its its) : qDG xs ys = true := by
 obtain ⟨vs, ws, rp, rv, rp2, rv2⟩ := q
 have l1 := rp.length.trans rv.length
 have l2 := rp2.length.trans rv2.length
 rw [qGX, l1, l2, Nat.min_self, Bool.and_eq_true]
 refine ⟨List.all_eq_true.mpr fun j hj => ?_, BEq.rfl⟩
 have hj : j < its.toArray.size := List.mem_range.mp hj
 obtain ⟨w1, y1, z1, m1⟩ := qED rp rv hj
 obtain ⟨w2, y2, z2, m2⟩ := qED rp2 rv2 hj
 exact ih _ _ _ (qHJ h1 m1) (qHJ h2 m2) (qHI I r (qHJ h1 m1) y1 z1) (qHI I r (qHJ h2 m2) y2 z2)
theorem qP7 (I : Inv X pins σ H s) (r : Rel X.K H P α S) : ∀ (n : Nat) (d d' : D) (u : Value), pl n d = true → pl n d' = true → Kd X P α s d u → Kd X P α s d' u → eqD d d' = true := by
 intro n
 induction n with
 | zero =>
  intro d d' u h1 h2 k1 k2
  cases qQb k1 k2 with
  | eq h => exact h
  | tt => exact Bool.noConfusion h1
  | ll => exact Bool.noConfusion h1
 | succ m ih =>
  intro d d' u h1 h2 k1 k2
  cases qQb k1 k2 with
  | eq h => exact h
  | tt xs ys its q => exact (qMa xs ys).trans (qNT I r ih h1 h2 q)
  | ll xs ys its q => exact (qMZ xs ys).trans (qNT I r ih h1 h2 q)
structure E3 (A : Around) (s : Shared) (u u' : Value) (b : Bool) : Prop where
 eq : EqAt A s u u' b
 rc : RcAt A s u u' b
 ne : RcNeAt A s u u' (!b)
inductive EqR (X : Cx) (P : Hp) (α : List Addr) (A : Around) (s : Shared) : D → D → Value → Value → Prop
 | of {d d' : D} {u u' : Value} (b : Bool) (e : eqD d d' = b) (h : E3 A s u u' b) : EqR X P α A s d d' u u'
 | tt (a b : Addr) (xs ys : List D) (its its2 : List Value) (ha : s.heap.IsTuple a its.toArray) (hb : s.heap.IsTuple b its2.toArray) (q : Seqs X P α xs ys its its2) : EqR X P α A s (.tup xs) (.tup ys) (.ref a) (.ref b)
 | ll (a b : Addr) (xs ys : List D) (its its2 : List Value) (ha : s.heap.IsList a its.toArray) (hb : s.heap.IsList b its2.toArray) (q : Seqs X P α xs ys its its2) : EqR X P α A s (.lst xs) (.lst ys) (.ref a) (.ref b)
theorem qT0 {A : Around} {d d' : D} {u u' : Value} (hu : A.units < cLine) (k1 : Kd X P α s d u) (k2 : Kd X P α s d' u') : EqR X P α A s d d' u u' := by
 cases k1 with
 | non  =>
  cases k2 with
  | non  => exact .of _ rfl ⟨EqAt.same _, RcAt.none_none, RcNeAt.none_none⟩
  | bl b => exact .of _ rfl ⟨EqAt.none_bool b, RcAt.none_bool b, RcNeAt.none_bool b⟩
  | int b tb => exact .of _ rfl ⟨EqAt.none_int b tb, RcAt.none_int b tb, RcNeAt.none_int b tb⟩
  | str b tb => exact .of _ rfl ⟨EqAt.none_str b tb, RcAt.none_str b tb, RcNeAt.none_str b tb⟩
  | tup b ys its2 ws rp2 rv2 hb qb => exact .of _ rfl ⟨EqAt.none_tuple hb hu, RcAt.none_tuple hb hu, RcNeAt.none_tuple hb hu⟩
  | lst b ys its2 ws rp2 rv2 hb qb => exact .of _ rfl ⟨EqAt.none_list hb hu, RcAt.none_list hb hu, RcNeAt.none_list hb hu⟩
 | bl a =>
  cases k2 with
  | non  => exact .of _ rfl ⟨EqAt.bool_none a, RcAt.bool_none a, RcNeAt.bool_none a⟩
  | bl b => exact .of _ rfl ⟨EqAt.bool_bool a b, RcAt.bool_bool a b, RcNeAt.bool_bool a b⟩
  | int b tb => exact .of _ rfl ⟨EqAt.bool_int a b tb, RcAt.bool_int a b tb, RcNeAt.bool_int a b tb⟩
  | str b tb => exact .of _ rfl ⟨EqAt.bool_str a b tb, RcAt.bool_str a b tb, RcNeAt.bool_str a b tb⟩
  | tup b ys its2 ws rp2 rv2 hb qb => exact .of _ rfl ⟨EqAt.bool_tuple a hb hu, RcAt.bool_tuple a hb hu, RcNeAt.bool_tuple a hb hu⟩
  | lst b ys its2 ws rp2 rv2 hb qb => exact .of _ rfl ⟨EqAt.bool_list a hb hu, RcAt.bool_list a hb hu, RcNeAt.bool_list a hb hu⟩
 | int a ta =>
  cases k2 with
  | non  => exact .of _ rfl ⟨EqAt.int_none a ta, RcAt.int_none a ta, RcNeAt.int_none a ta⟩
  | bl b => exact .of _ rfl ⟨EqAt.int_bool a ta b, RcAt.int_bool a ta b, RcNeAt.int_bool a ta b⟩
  | int b tb => exact .of _ rfl ⟨EqAt.int_int a ta b tb, RcAt.int_int a ta b tb, RcNeAt.int_int a ta b tb⟩
  | str b tb => exact .of _ rfl ⟨EqAt.int_str a ta b tb, RcAt.int_str a ta b tb, RcNeAt.int_str a ta b tb⟩
  | tup b ys its2 ws rp2 rv2 hb qb => exact .of _ rfl ⟨EqAt.int_tuple a ta hb hu, RcAt.int_tuple a ta hb hu, RcNeAt.int_tuple a ta hb hu⟩
  | lst b ys its2 ws rp2 rv2 hb qb => exact .of _ rfl ⟨EqAt.int_list a ta hb hu, RcAt.int_list a ta hb hu, RcNeAt.int_list a ta hb hu⟩
 | str a ta =>
  cases k2 with
  | non  => exact .of _ rfl ⟨EqAt.str_none a ta, RcAt.str_none a ta, RcNeAt.str_none a ta⟩
  | bl b => exact .of _ rfl ⟨EqAt.str_bool a ta b, RcAt.str_bool a ta b, RcNeAt.str_bool a ta b⟩
  | int b tb => exact .of _ rfl ⟨EqAt.str_int a ta b tb, RcAt.str_int a ta b tb, RcNeAt.str_int a ta b tb⟩
  | str b tb => exact .of _ rfl ⟨EqAt.str_str a ta b tb, RcAt.str_str a ta b tb, RcNeAt.str_str a ta b tb⟩
  | tup b ys its2 ws rp2 rv2 hb qb => exact .of _ rfl ⟨EqAt.str_tuple a ta hb hu, RcAt.str_tuple a ta hb hu, RcNeAt.str_tuple a ta hb hu⟩
  | lst b ys its2 ws rp2 rv2 hb qb => exact .of _ rfl ⟨EqAt.str_list a ta hb hu, RcAt.str_list a ta hb hu, RcNeAt.str_list a ta hb hu⟩
 | tup a xs its vs rp rv ha qa =>
  cases k2 with
  | non  => exact .of _ rfl ⟨EqAt.tuple_none ha hu, RcAt.tuple_none ha hu, RcNeAt.tuple_none ha hu⟩
  | bl b => exact .of _ rfl ⟨EqAt.tuple_bool b ha hu, RcAt.tuple_bool b ha hu, RcNeAt.tuple_bool b ha hu⟩
  | int b tb => exact .of _ rfl ⟨EqAt.tuple_int b tb ha hu, RcAt.tuple_int b tb ha hu, RcNeAt.tuple_int b tb ha hu⟩
  | str b tb => exact .of _ rfl ⟨EqAt.tuple_str b tb ha hu, RcAt.tuple_str b tb ha hu, RcNeAt.tuple_str b tb ha hu⟩
  | tup b ys its2 ws rp2 rv2 hb qb => exact .tt a b xs ys its its2 ha hb ⟨vs, ws, rp, rv, rp2, rv2⟩
  | lst b ys its2 ws rp2 rv2 hb qb => exact .of _ rfl ⟨EqAt.tuple_list ha hb hu, RcAt.tuple_list ha hb hu, RcNeAt.tuple_list ha hb hu⟩
 | lst a xs its vs rp rv ha qa =>
  cases k2 with
  | non  => exact .of _ rfl ⟨EqAt.list_none ha hu, RcAt.list_none ha hu, RcNeAt.list_none ha hu⟩
  | bl b => exact .of _ rfl ⟨EqAt.list_bool b ha hu, RcAt.list_bool b ha hu, RcNeAt.list_bool b ha hu⟩
  | int b tb => exact .of _ rfl ⟨EqAt.list_int b tb ha hu, RcAt.list_int b tb ha hu, RcNeAt.list_int b tb ha hu⟩
  | str b tb => exact .of _ rfl ⟨EqAt.list_str b tb ha hu, RcAt.list_str b tb ha hu, RcNeAt.list_str b tb ha hu⟩
  | tup b ys its2 ws rp2 rv2 hb qb => exact .of _ rfl ⟨EqAt.list_tuple ha hb hu, RcAt.list_tuple ha hb hu, RcNeAt.list_tuple ha hb hu⟩
  | lst b ys its2 ws rp2 rv2 hb qb => exact .ll a b xs ys its its2 ha hb ⟨vs, ws, rp, rv, rp2, rv2⟩
theorem E3.cast {A : Around} {u u' : Value} {b c : Bool} (e : c = b) (h : E3 A s u u' b) : E3 A s u u' c := e ▸ h
theorem qYJ {A : Around} {a b : Addr} {xs ys : List D} {its its2 : List Value} (hu : A.units < cLine) (ha : s.heap.IsTuple a its.toArray) (hb : s.heap.IsTuple b its2.toArray) (l1 : xs.length = its.length) (l2 : ys.length = its2.length)
  (sub : ∀ j (h1 : j < its.toArray.size) (h2 : j < its2.toArray.size), EqAt A.in1 s its.toArray[j] its2.toArray[j] (eqD (xs.getD j .non) (ys.getD j .non))) (same : a = b → qDG xs ys = true) : E3 A s (.ref a) (.ref b) (qDG xs ys) := by
 have e : qDG xs ys = ((List.range (min its.toArray.size its2.toArray.size)).all (fun j => eqD (xs.getD j .non) (ys.getD j .non)) && its.toArray.size == its2.toArray.size) := by rw [qGX, l1, l2]; rfl
 have R1 := RcAt.tuples ha hb hu sub
 have R2 := RcNeAt.tuples ha hb hu sub
 rw [← e] at R1 R2
 refine ⟨?_, R1, R2⟩
 by_cases hab : a = b
 ·rw [same hab, hab]
  exact EqAt.same _
 ·exact EqAt.of_refs hab R1
theorem qYI {A : Around} {a b : Addr} {xs ys : List D} {its its2 : List Value} (hu : A.units < cLine) (ha : s.heap.IsList a its.toArray) (hb : s.heap.IsList b its2.toArray) (l1 : xs.length = its.length) (l2 : ys.length = its2.length)
  (sub : ∀ j (h1 : j < its.toArray.size) (h2 : j < its2.toArray.size), EqAt A.in1 s its.toArray[j] its2.toArray[j] (eqD (xs.getD j .non) (ys.getD j .non))) (same : a = b → qDG xs ys = true) : E3 A s (.ref a) (.ref b) (qDG xs ys) := by
 have R : RcAt A s (.ref a) (.ref b) (qDG xs ys) ∧ RcNeAt A s (.ref a) (.ref b) (!qDG xs ys) := by
  by_cases hl : its.length = its2.length
  ·have e : qDG xs ys = (List.range its.toArray.size).all (fun j => eqD (xs.getD j .non) (ys.getD j .non)) := by rw [qGX, l1, l2, ← hl, Nat.min_self, BEq.rfl, Bool.and_true]; rfl
   rw [e]
   exact ⟨RcAt.lists ha hb hl hu sub, RcNeAt.lists ha hb hl hu sub⟩
  ·rw [qSz (by rw [l1, l2]; exact hl)]
   have hn : (its.toArray.size != its2.toArray.size) = true := bne_iff_ne.mpr hl
   exact ⟨RcAt.lists_lengths ha hb hn hu, RcNeAt.lists_lengths ha hb hn hu⟩
 refine ⟨?_, R.1, R.2⟩
 by_cases hab : a = b
 ·rw [same hab, hab]
  exact EqAt.same _
 ·exact EqAt.of_refs hab R.1
theorem qRe (I : Inv X pins σ H s) (r : Rel X.K H P α S) : ∀ (n : Nat) (A : Around) (d d' : D) (u u' : Value), A.units + n < cLine → pl n d = true → pl n d' = true → Kd X P α s d u → Kd X P α s d' u' → E3 A s u u' (eqD d d') := by
 intro n
 induction n with
 | zero =>
  intro A d d' u u' hu h1 h2 k1 k2
  cases qT0 hu k1 k2 with
  | of b e h => exact h.cast e
  | tt => exact Bool.noConfusion h1
  | ll => exact Bool.noConfusion h1
 | succ m ih =>
  intro A d d' u u' hu h1 h2 k1 k2
  have hu0 : A.units < cLine := Nat.lt_of_le_of_lt (Nat.le_add_right _ _) hu
  have hu1 : A.in1.units + m < cLine := by show A.units + 1 + m < cLine; omega
  have sub : ∀ {xs ys : List D} {its its2 : List Value}, xs.all (pl m) = true → ys.all (pl m) = true → Seqs X P α xs ys its its2 →
    ∀ j (h1 : j < its.toArray.size) (h2 : j < its2.toArray.size), EqAt A.in1 s its.toArray[j] its2.toArray[j] (eqD (xs.getD j .non) (ys.getD j .non)) := fun {xs ys its its2} a1 a2 ⟨vs, ws, b1, b2, c1, c2⟩ j g1 g2 => by
   obtain ⟨w1, y1, z1, m1⟩ := qED b1 b2 g1
   obtain ⟨w2, y2, z2, m2⟩ := qED c1 c2 g2
   exact (ih A.in1 _ _ _ _ hu1 (qHJ a1 m1) (qHJ a2 m2) (qHI I r (qHJ a1 m1) y1 z1) (qHI I r (qHJ a2 m2) y2 z2)).eq
  cases qT0 hu0 k1 k2 with
  | of b e h => exact h.cast e
  | tt a b xs ys its its2 ha hb q => exact (qYJ hu0 ha hb q.len1 q.len2 (sub h1 h2 q) fun e => by subst e; exact (qMa xs ys).symm.trans (qP7 I r (m + 1) _ _ _ h1 h2 k1 k2)).cast (qMa xs ys)
  | ll a b xs ys its its2 ha hb q => exact (qYI hu0 ha hb q.len1 q.len2 (sub h1 h2 q) fun e => by subst e; exact (qMZ xs ys).symm.trans (qP7 I r (m + 1) _ _ _ h1 h2 k1 k2)).cast (qMZ xs ys)
noncomputable def qEa : Nat := 30
noncomputable def gEq : G2 := fun a b S => if pl qEa a && pl qEa b then .ok (.bl (eqD a b)) S else .bad
noncomputable def gNe : G2 := fun a b S => if pl qEa a && pl qEa b then .ok (.bl (!eqD a b)) S else .bad
set_option tactic.hygienic true in
theorem qYS (hu : X.A.units + 64 < cLine) : OpD X (compareOp .Eq) gEq := by
 intro pins σ H s P α S v u vv uu a b Q I r rv ru pa pb af
 unfold gEq at af
 split at af
 ·rename_i h
  rw [Bool.and_eq_true] at h
  exact (qRe I r qEa X.A a b vv uu (by unfold qEa; omega) h.1 h.2 (qHI I r h.1 pa rv) (qHI I r h.2 pb ru)).rc _ _ _ _ ⟨.bl _, H, I, rfl, xr af r (by simp only [Rep])⟩
 ·exact False.elim af
set_option tactic.hygienic true in
theorem qYY (hu : X.A.units + 64 < cLine) : OpD X (compareOp .NotEq) gNe := by
 intro pins σ H s P α S v u vv uu a b Q I r rv ru pa pb af
 unfold gNe at af
 split at af
 ·rename_i h
  rw [Bool.and_eq_true] at h
  exact (qRe I r qEa X.A a b vv uu (by unfold qEa; omega) h.1 h.2 (qHI I r h.1 pa rv) (qHI I r h.2 pb ru)).ne _ _ _ _ ⟨.bl _, H, I, rfl, xr af r (by simp only [Rep])⟩
 ·exact False.elim af
end
end DL
end
section
namespace DL
open PySem PySem.Spec PyProof.Rows L2
section
variable {X : Cx}
noncomputable def i2 (C : Int → Int → Bool) (f : Int → Int → D) : G2 := fun a b S => match a, b with
 | .int i, .int j => if C i j then .ok (f i j) S else .bad
 | _, _ => .bad
theorem qLz {C : Int → Int → Bool} {f : Int → Int → D} {a b : D} {S : Sto} {P : Hp} {α : List Addr} {Ok : D → Sto → Prop} (h : qAY X P α (i2 C f a b S) Ok) : ∃ i j, a = .int i ∧ b = .int j ∧ C i j = true ∧ Ok (f i j) S := by
 cases a with
 | int i =>
  cases b with
  | int j =>
   obtain ⟨hc, h⟩ := qL4 (X := X) h
   exact ⟨i, j, rfl, rfl, hc, h⟩
  | _ => exact False.elim h
 | _ => exact False.elim h
theorem qBa {P : Hp} {α : List Addr} {i : Int} {v : V} (r : Rep X.K P α (.int i) v) : v = .int i := by simpa only [Rep] using r
theorem qMA {f : Value → Value → Sem Value} {C' : Int → Int → Prop} {v : Int → Int → V} {C : Int → Int → Bool} {d : Int → Int → D} (h : OpR X f (rI C' v)) (hC : ∀ i j, C i j = true → C' i j) (hv : ∀ P α i j, Rep X.K P α (d i j) (v i j)) : OpD X f (i2 C d) :=
 OpD.of h fun H P α S x y a b Q r p1 p2 af => by
  obtain ⟨i, j, rfl, rfl, hc, ok⟩ := qLz af
  exact ⟨i, j, qBa p1, qBa p2, hC i j hc, xr ok r (hv P α i j)⟩
theorem qJn {f : Value → Value → Sem Value} {v : Int → Int → V} {d : Int → Int → D} (h : OpR X f (rI0 v)) (hv : ∀ P α i j, Rep X.K P α (d i j) (v i j)) : OpD X f (i2 (fun _ _ => true) d) :=
 OpD.of h fun H P α S x y a b Q r p1 p2 af => by
  obtain ⟨i, j, rfl, rfl, _, ok⟩ := qLz af
  exact ⟨i, j, qBa p1, qBa p2, xr ok r (hv P α i j)⟩
noncomputable def qEb : G2 := i2 (fun _ _ => true) fun i j => .int (i - j)
theorem qXC : OpD X (binaryOp .Sub) qEb := qJn qXN fun P α i j => by simp only [Rep]
noncomputable def qMQ (i j : Int) : Bool := decide (-(2 ^ 64) < i ∧ i < 2 ^ 64) || decide (-(2 ^ 64) < j ∧ j < 2 ^ 64)
theorem qVH : OpD X (binaryOp .Mult) (i2 qMQ fun i j => .int (i * j)) := qMA qXL (fun i j h => by
 unfold qMQ at h
 rw [Bool.or_eq_true] at h
 rcases h with h | h
 ·exact .inl (of_decide_eq_true h)
 ·exact .inr (of_decide_eq_true h)) fun P α i j => by simp only [Rep]
noncomputable def qV0 (i j : Int) : Bool := decide (0 < j ∧ j < 1073741824)
noncomputable def qIf : G2 := i2 qV0 fun i j => .int (i / j)
theorem qW8 : OpD X (binaryOp .FloorDiv) qIf := qMA qVL (fun i j h => (of_decide_eq_true h : 0 < j ∧ j < 1073741824)) fun P α i j => by simp only [Rep]
noncomputable def qCP : G2 := i2 (fun _ j => decide (0 < j)) fun i j => .int (i % j)
theorem qXA : OpD X (binaryOp .Mod) qCP := qMA qXK (fun i j h => of_decide_eq_true h) fun P α i j => by simp only [Rep]
noncomputable def qZC (i j : Int) : Bool := decide (0 ≤ j ∧ j ≤ 1000000 ∧ i.natAbs < 2 ^ 64)
noncomputable def qB5 : G2 := i2 qZC fun i j => .int (i ^ j.toNat)
theorem qXB : OpD X (binaryOp .Pow) qB5 := qMA qXM (fun i j h => (of_decide_eq_true h : 0 ≤ j ∧ j ≤ 1000000 ∧ i.natAbs < 2 ^ 64)) fun P α i j => by simp only [Rep]
noncomputable def gLt : G2 := i2 (fun _ _ => true) fun i j => .bl (decide (i < j))
noncomputable def gLe : G2 := i2 (fun _ _ => true) fun i j => .bl (decide (i ≤ j))
noncomputable def gGt : G2 := i2 (fun _ _ => true) fun i j => .bl (decide (j < i))
noncomputable def gGe : G2 := i2 (fun _ _ => true) fun i j => .bl (decide (j ≤ i))
theorem qYX : OpD X (compareOp .Lt) gLt := qJn qYc fun P α i j => by simp only [Rep]
theorem qYW : OpD X (compareOp .LtE) gLe := qJn qYb fun P α i j => by simp only [Rep]
theorem qYU : OpD X (compareOp .Gt) gGt := qJn qYa fun P α i j => by simp only [Rep]
theorem qYT : OpD X (compareOp .GtE) gGe := qJn qYZ fun P α i j => by simp only [Rep]
noncomputable def qS2 : D → Sto → Res D := fun a S => match a with
 | .int i => .ok (.int (-i)) S
 | _ => .bad
theorem qXy : UnD X (unaryOp .USub) qS2 := by
 intro pins σ H s P α S v vv a Q I r rv p af
 cases a with
 | int i => exact qXz pins s σ H v vv Q I rv ⟨i, qBa p, xr af r (by simp only [Rep])⟩
 | _ => exact False.elim af
noncomputable def gIs : G2 := fun a b S => match b with
 | .non => match a with
  | .non => .ok (.bl true) S
  | _ => .ok (.bl false) S
 | _ => .bad
theorem qVD {P : Hp} {α : List Addr} {d : D} {v : V} (r : Rep X.K P α d v) : decide (v = .non) = (match d with | .non => true | _ => false) := by
 cases d <;> simp only [Rep] at r
 case non => subst r; rfl
 case bl => subst r; rfl
 case int => subst r; rfl
 case str => subst r; rfl
 case ty => subst r; rfl
 case obj => obtain ⟨rfl, _⟩ := r; rfl
 case tup => obtain ⟨a, vs, rfl, _⟩ := r; rfl
 case lst => obtain ⟨a, vs, rfl, _⟩ := r; rfl
 case dct0 => obtain ⟨a, rfl, _⟩ := r; rfl
 case loc => obtain ⟨a, rfl, _⟩ := r; rfl
 case exn => obtain ⟨a, rfl, _⟩ := r; rfl
 case fd => obtain ⟨a, o, vs, rfl, _⟩ := r; rfl
theorem qYV : OpD X (compareOp .Is) gIs := OpD.of qXJ fun H P α S x y a b Q r p1 p2 af => by
 cases b with
 | non =>
  simp only [Rep] at p2
  refine ⟨p2, ?_⟩
  rw [qVD p1]
  cases a <;> exact xr af r (by simp only [Rep])
 | _ => exact False.elim af
noncomputable def qAx : G2 := fun a b S => match a, b with
 | .int i, .int j => .ok (.int (i + j)) S
 | .str x, .str y => if x.length + y.length ≤ lim then .ok (.str (x ++ y)) S else .bad
 | .tup xs, .tup ys => if xs.length + ys.length ≤ lim then .ok (.tup (xs ++ ys)) S else .bad
 | .lst xs, .lst ys => if xs.length + ys.length ≤ lim then .ok (.lst (xs ++ ys)) S else .bad
 | _, _ => .bad
theorem qSQ {pins : List (Addr × Obj)} {σ : L2.St} {H P : Hp} {α : List Addr} {S : Sto} {s : Shared} {xs : List D} {v : V} (I : Inv X pins σ H s) (r : Rel X.K H P α S) (p : Rep X.K P α (.tup xs) v) :
  ∃ a vs its, v = .ref a ∧ SqT X.K P a vs ∧ qAL X.K P α xs vs ∧ qAZ vs its ∧ IsTup s.heap a its.toArray ∧ xs.length = its.length ∧ xs.length ≤ lim := by
 simp only [Rep] at p
 obtain ⟨a, vs, rfl, q, t⟩ := p
 obtain ⟨its, rv, p1, z⟩ := I.tuple (qDF r.sub q)
 exact ⟨a, vs, its, rfl, q, t, rv, p1, by rw [t.length, rv.length], by rw [t.length, qBg]; exact z⟩
theorem qJj {pins : List (Addr × Obj)} {σ : L2.St} {H P : Hp} {α : List Addr} {S : Sto} {s : Shared} {xs : List D} {v : V} (I : Inv X pins σ H s) (r : Rel X.K H P α S) (p : Rep X.K P α (.lst xs) v) :
  ∃ a vs its n, v = .ref a ∧ SqX X.K P a vs ∧ qAL X.K P α xs vs ∧ qAZ vs its ∧ s.heap.get? a = some { cls := .type "list", data := .seq its.toArray n } ∧ xs.length = its.length ∧ xs.length ≤ lim := by
 simp only [Rep] at p
 obtain ⟨a, vs, rfl, q, t⟩ := p
 have : ∃ its n, qAZ vs its ∧ s.heap.get? a = some { cls := .type "list", data := .seq its.toArray n } ∧ vs.length ≤ sizeLine := by
  rcases q with q | ⟨its, n, e, z, rv⟩
  ·obtain ⟨z, its, n, rv, e⟩ := (qQV r.sub q).ok I.hok
   exact ⟨its, n, rv, e, z⟩
  ·exact ⟨its, n, rv, I.kIn _ _ e, z⟩
 obtain ⟨its, n, rv, e, z⟩ := this
 exact ⟨a, vs, its, n, rfl, q, t, rv, e, by rw [t.length, rv.length], by rw [t.length, qBg]; exact z⟩
theorem qS8 {pins : List (Addr × Obj)} {σ : L2.St} {H P : Hp} {α : List Addr} {S : Sto} {s : Shared} {xs : List D} {vs : List V} {its : List Value} {Q : VK} (I : Inv X pins σ H s) (r : Rel X.K H P α S) (t : qAL X.K P α xs vs) (rv : qAZ vs its) (hz : xs.length ≤ lim)
  (ok : OkV X P α Q (.tup xs) S) : EP X pins σ Q (.ref s.heap.objs.size) { s with heap := s.heap.push { cls := .type "tuple", data := .seq its.toArray } } := by
 refine ⟨.ref s.heap.objs.size, _, I.laid (t' := s.toks) (o := .tup vs) (fun b ob q => Heap.get?_push_of_some _ q) (Nat.le_refl _) ⟨by rw [← t.length, ← qBg]; exact hz, its, rv, IsTup.new _ _⟩, rfl, qLO r (I.hok.fresh (Nat.le_refl _)) t ok⟩
theorem qOn {pins : List (Addr × Obj)} {σ : L2.St} {H P : Hp} {α : List Addr} {S : Sto} {s : Shared} {xs : List D} {vs : List V} {its : List Value} {Q : VK} (I : Inv X pins σ H s) (r : Rel X.K H P α S) (t : qAL X.K P α xs vs) (rv : qAZ vs its) (hz : xs.length ≤ lim)
  (ok : OkV X P α Q (.lst xs) S) : EP X pins σ Q (.ref s.heap.objs.size) { s with heap := s.heap.push { cls := .type "list", data := .seq its.toArray } } := by
 refine ⟨.ref s.heap.objs.size, _, I.laid (t' := s.toks) (o := .lst vs) (fun b ob q => Heap.get?_push_of_some _ q) (Nat.le_refl _) ⟨by rw [← t.length, ← qBg]; exact hz, its, 0, rv, Heap.get?_push_size _ rfl⟩, rfl, qGr r (I.hok.fresh (Nat.le_refl _)) t ok⟩
theorem qVt {pins : List (Addr × Obj)} {σ : L2.St} {H P : Hp} {α : List Addr} {S : Sto} {s : Shared} {xs ys : List D} {v u : V} {vv uu : Value} {Q : VK} (I : Inv X pins σ H s) (r : Rel X.K H P α S) (rv : qAR v vv) (ru : qAR u uu) (pa : Rep X.K P α (.tup xs) v) (pb : Rep X.K P α (.tup ys) u) (hl : xs.length + ys.length ≤ lim) (af : OkV X P α Q (.tup (xs ++ ys)) S) :
  wpAny (model X.prog X.w) X.A (binaryOp .Add vv uu) (EP X pins σ Q) X.xe s := by
 obtain ⟨a, vs, its, rfl, q1, t1, rv1, h1, l1, _⟩ := qSQ I r pa
 obtain ⟨b, ws, its2, rfl, q2, t2, rv2, h2, l2, _⟩ := qSQ I r pb
 cases rv
 cases ru
 by_cases hx : its = []
 ·obtain ⟨⟨cls, dd, data, sl⟩, ho, hc, n, hd⟩ := id h1
  obtain ⟨⟨cls2, dd2, data2, sl2⟩, ho2, hc2, n2, hd2⟩ := id h2
  simp only at hc hd hc2 hd2
  subst hc hd hc2 hd2
  have hxs : xs = [] := List.length_eq_zero_iff.mp (by rw [l1, hx]; rfl)
  subst hxs
  exact concat_meets ⟨_, ho, rfl⟩ ⟨_, ho2, rfl⟩ noFill_tuple_add seq_tuple_add PySem.F.slot_tuple_add PySem.F.entry_tuple_add (PySem.F.args_tuple_add_2 _ _) (tuple_addW0 a b its.toArray its2.toArray n n2 dd dd2 sl sl2 (by simp [hx]))
   ⟨ho, ho2, ⟨.ref b, H, I, rfl, xr af r pb⟩⟩
 ·refine HT.cat_tup h1 h2 hx (fun z => ⟨.ref a, H, I, rfl, xr af r ?_⟩) (fun z => ?_) (by rw [← l1, ← l2, ← qBg]; exact hl)
  ·have hys : ys = [] := List.length_eq_zero_iff.mp (by rw [l2, z]; rfl)
   rw [hys, List.append_nil]; exact pa
  ·exact qS8 I r (t1.append t2) (rv1.append rv2) (by rw [List.length_append]; exact hl) af
theorem qVs {pins : List (Addr × Obj)} {σ : L2.St} {H P : Hp} {α : List Addr} {S : Sto} {s : Shared} {xs ys : List D} {v u : V} {vv uu : Value} {Q : VK} (I : Inv X pins σ H s) (r : Rel X.K H P α S) (rv : qAR v vv) (ru : qAR u uu) (pa : Rep X.K P α (.lst xs) v) (pb : Rep X.K P α (.lst ys) u) (hl : xs.length + ys.length ≤ lim) (af : OkV X P α Q (.lst (xs ++ ys)) S) :
  wpAny (model X.prog X.w) X.A (binaryOp .Add vv uu) (EP X pins σ Q) X.xe s := by
 obtain ⟨a, vs, its, n, rfl, q1, t1, rv1, h1, l1, _⟩ := qJj I r pa
 obtain ⟨b, ws, its2, n2, rfl, q2, t2, rv2, h2, l2, _⟩ := qJj I r pb
 cases rv
 cases ru
 refine PySem.P.add_list h1 h2 ?_ (by rw [List.size_toArray, List.size_toArray, ← l1, ← l2, ← qBg]; exact hl)
 rw [List.append_toArray]
 exact qOn I r (t1.append t2) (rv1.append rv2) (by rw [List.length_append]; exact hl) af
inductive AddV (a b : D) (S : Sto) : Prop
 | bad (e : qAx a b S = .bad)
 | int (i j : Int) (ea : a = .int i) (eb : b = .int j)
 | str (x y : Str) (ea : a = .str x) (eb : b = .str y)
 | tup (x y : List D) (ea : a = .tup x) (eb : b = .tup y)
 | lst (x y : List D) (ea : a = .lst x) (eb : b = .lst y)
theorem qZA (a b : D) (S : Sto) : AddV a b S := by
 cases a with
 | int i => cases b with
  | int j => exact .int i j rfl rfl
  | _ => exact .bad rfl
 | str i => cases b with
  | str j => exact .str i j rfl rfl
  | _ => exact .bad rfl
 | tup i => cases b with
  | tup j => exact .tup i j rfl rfl
  | _ => exact .bad rfl
 | lst i => cases b with
  | lst j => exact .lst i j rfl rfl
  | _ => exact .bad rfl
 | _ => exact .bad rfl
theorem qW7 : OpD X (binaryOp .Add) qAx := by
 intro pins σ H s P α S v u vv uu a b Q I r rv ru pa pb af
 cases qZA a b S with
 | bad e => rw [e] at af; exact False.elim af
 | int i j ea eb =>
  subst ea eb
  exact qXI pins s σ H v u vv uu Q I rv ru ⟨i, j, qBa pa, qBa pb, xr af r (by simp only [Rep])⟩
 | str x y ea eb =>
  subst ea eb
  obtain ⟨hl, af⟩ := qL4 (X := X) af
  simp only [Rep] at pa pb
  exact qQ6 pins s σ H v u vv uu Q I rv ru ⟨x, y, pa, pb, by rw [← qBg]; exact hl, xr af r (by simp only [Rep])⟩
 | tup xs ys ea eb =>
  subst ea eb
  obtain ⟨hl, af⟩ := qL4 (X := X) af
  exact qVt I r rv ru pa pb hl af
 | lst xs ys ea eb =>
  subst ea eb
  obtain ⟨hl, af⟩ := qL4 (X := X) af
  exact qVs I r rv ru pa pb hl af
noncomputable def gIx : G2 := fun a b S => match b with
 | .int k => match a with
  | .tup xs => qFJ (atI xs k) S
  | .lst xs => qFJ (atI xs k) S
  | .loc i => match S[i]? with
   | some (.lst xs) => qFJ (atI xs k) S
   | _ => .bad
  | _ => .bad
 | _ => .bad
theorem qML {P : Hp} {α : List Addr} {ds : List D} {vs : List V} {k : Int} {d : D} (rp : qAL X.K P α ds vs) (h : atI ds k = some d) : ∃ v, atI vs k = some v ∧ Rep X.K P α d v := by
 unfold atI at h ⊢
 rw [← rp.length]
 cases q : ixN ds.length k with
 | none => rw [q] at h; cases h
 | some j =>
  rw [q] at h
  obtain ⟨v, h1, h2⟩ := rp.get (show ds[j]? = some d from h)
  exact ⟨v, h1, h2⟩
theorem qWr : IxD X gIx := by
 intro value slice pins σ H s P α S v u vv uu a b Q I r rv ru pa pb af hs
 cases b with
 | int k =>
  have hk := qBa pb
  cases a with
  | tup xs =>
   obtain ⟨d, e, ok⟩ := qGI (X := X) af
   simp only [Rep] at pa
   obtain ⟨p, vs, rfl, q, t⟩ := pa
   obtain ⟨w, e1, rw'⟩ := qML t e
   exact qWs value slice pins s σ H _ u vv uu Q I rv ru ⟨p, vs, k, w, rfl, hk, qDF r.sub q, e1, xr ok r rw'⟩ hs
  | lst xs =>
   obtain ⟨d, e, ok⟩ := qGI (X := X) af
   simp only [Rep] at pa
   obtain ⟨p, vs, rfl, q, t⟩ := pa
   obtain ⟨w, e1, rw'⟩ := qML t e
   exact qQG value slice pins s σ H _ u vv uu Q I rv ru ⟨p, vs, k, w, rfl, hk, (qC5 r.sub q).l, e1, xr ok r rw'⟩ hs
  | loc i =>
   obtain ⟨xs, hS, af⟩ := qO8 (X := X) (f := fun xs => qFJ (atI xs k) S) af
   obtain ⟨d, e, ok⟩ := qGI (X := X) af
   simp only [Rep] at pa
   obtain ⟨p, rfl, q⟩ := pa
   obtain ⟨vs, z, t⟩ := r.at' i p _ q hS
   obtain ⟨w, e1, rw'⟩ := qML t e
   exact qQG value slice pins s σ H _ u vv uu Q I rv ru ⟨p, vs, k, w, rfl, hk, .of z, e1, xr ok r rw'⟩ hs
  | _ => exact False.elim af
 | _ => exact False.elim af
noncomputable def qOb : G3 := fun o i d S => match o, i with
 | .loc n, .int k => match S[n]? with
  | some (.lst xs) => match ixN xs.length k with
   | some j => .ok () (S.set n (.lst (xs.set j d)))
   | none => .bad
  | _ => .bad
 | _, _ => .bad
theorem qYv : qN2 X (qN0 X qOb) := by
 intro pins s σ H o i v ov iv u Q I ro ri rv h
 obtain ⟨P, α, S, a, b, d, r, pa, pb, pd, af⟩ := h
 cases a with
 | loc n =>
  cases b with
  | int k =>
   obtain ⟨xs, hS, af⟩ := qO8 (X := X) (f := fun xs => match ixN xs.length k with | some j => .ok () (S.set n (.lst (xs.set j d))) | none => .bad) af
   cases hj : ixN xs.length k with
   | none => rw [hj] at af; exact False.elim af
   | some j =>
    rw [hj] at af
    simp only [Rep] at pa
    obtain ⟨p, rfl, q⟩ := pa
    obtain ⟨vs, z, t⟩ := r.at' n p _ q hS
    refine qTa pins s σ H _ i v ov iv u Q I ro ri rv ⟨p, vs, k, j, rfl, qBa pb, z, by rw [← t.length]; exact hj, ?_⟩
    refine af _ P α (r.put (m' := .lst (xs.set j d)) q hS (by intro z; cases z) ⟨vs.set j v, qA5, t.set pd j⟩) (qAJ.refl _) (List.prefix_refl _)
  | _ => exact False.elim af
 | _ => exact False.elim af
noncomputable def qQ0 : D → Sto → Option Nat
 | .tup xs, _ => some xs.length
 | .lst xs, _ => some xs.length
 | .str x, _ => if x.length ≤ lim then some x.length else none
 | .dct0, _ => some 0
 | .loc i, S => match S[i]? with
  | some (.lst xs) => some xs.length
  | _ => none
 | _, _ => none
noncomputable def qQr : DF := fun ds S => match ds with
 | [d] => match qQ0 d S with
  | some n => .ok (.int n) S
  | none => .bad
 | _ => .bad
end
end DL
end
section
namespace DL
open PySem PySem.Spec PyProof.Rows L2
section
variable {X : Cx}
theorem qJ9 {P : Hp} {α : List Addr} {d : D} {vs : List V} {us : List Value} (rp : qAL X.K P α [d] vs) (rv : qAZ vs us) : ∃ v u, vs = [v] ∧ us = [u] ∧ Rep X.K P α d v ∧ qAR v u := by
 obtain ⟨v, ws, rfl, p, t⟩ := rp.cons_inv
 have := t.nil_inv; subst this
 obtain ⟨u, rfl, q⟩ := qMH rv
 exact ⟨v, u, rfl, rfl, p, q⟩
theorem qKA {P : Hp} {α : List Addr} {d e : D} {vs : List V} {us : List Value} (rp : qAL X.K P α [d, e] vs) (rv : qAZ vs us) : ∃ v w u x, vs = [v, w] ∧ us = [u, x] ∧ Rep X.K P α d v ∧ Rep X.K P α e w ∧ qAR v u ∧ qAR w x := by
 obtain ⟨v, ws, rfl, p, t⟩ := rp.cons_inv
 obtain ⟨w, ws, rfl, p', t⟩ := t.cons_inv
 have := t.nil_inv; subst this
 obtain ⟨u, x, rfl, q, q'⟩ := qUA rv
 exact ⟨v, w, u, x, rfl, rfl, p, p', q, q'⟩
set_option tactic.hygienic true in
theorem qV2 (hD : True) : qF9 X (.builtin "len") (fun ds S => match ds with | [.dct0] => .bad | _ => qQr ds S) := by
 intro pins σ H s P α S vs us ds Q I r rv rp af
 have key : ∀ d n, ds = [d] → qQ0 d S = some n → (∀ z, d ≠ .dct0 ∨ z = 0) → OkV X P α Q (.int n) S → wpAny (model X.prog X.w) X.A (call (.builtin "len") us) (EP X pins σ Q) X.xe s := by
  intro d n hd hn hz ok
  subst hd
  obtain ⟨v, u, rfl, rfl, p, q⟩ := qJ9 rp rv
  refine qSd pins s σ H _ _ Q I rv ⟨v, n, rfl, ?_, xr ok r (by simp only [Rep])⟩
  cases d with
  | str x =>
   simp only [Rep] at p; subst p
   simp only [qQ0] at hn
   split at hn
   ·rename_i hl; cases hn; exact ⟨by rw [← qBg]; exact hl, rfl⟩
   ·cases hn
  | tup xs =>
   simp only [Rep] at p
   obtain ⟨a, ws, rfl, sq, t⟩ := p
   cases hn
   exact .inr ⟨ws, qDF r.sub sq, t.length⟩
  | lst xs =>
   simp only [Rep] at p
   obtain ⟨a, ws, rfl, sq, t⟩ := p
   cases hn
   exact .inl ⟨ws, (qC5 r.sub sq).l, t.length⟩
  | loc i =>
   simp only [Rep] at p
   obtain ⟨a, rfl, e⟩ := p
   simp only [qQ0] at hn
   split at hn
   ·rename_i xs hS
    cases hn
    obtain ⟨ws, z, t⟩ := r.at' i a _ e hS
    exact .inl ⟨ws, .of z, t.length⟩
   ·cases hn
  | dct0 => exact absurd (hz 1) (by rintro (h | h); exact h rfl; cases h)
  | _ => cases hn
 cases ds with
 | nil => exact False.elim af
 | cons d ds =>
  cases ds with
  | cons _ _ => cases d <;> exact False.elim af
  | nil =>
   by_cases hd : d = .dct0
   ·subst hd; exact False.elim af
   ·have af' : qAY X P α (qQr [d] S) (OkV X P α Q) := by
     cases d <;> first | exact af | exact absurd rfl hd
    simp only [qQr] at af'
    split at af'
    ·rename_i n hn; exact key d n rfl hn (fun z => .inl hd) af'
    ·exact False.elim af'
noncomputable def tyD : D → Sto → Option String
 | .non, _ => some "NoneType"
 | .bl _, _ => some "bool"
 | .int _, _ => some "int"
 | .str _, _ => some "str"
 | .tup _, _ => some "tuple"
 | .lst _, _ => some "list"
 | .dct0, _ => some "dict"
 | .loc i, S => match S[i]? with
  | some (.lst _) => some "list"
  | some (.dct _) => some "dict"
  | _ => none
 | _, _ => none
noncomputable def qL2 (a b : String) : Bool := a == b || (a == "bool" && b == "int")
noncomputable def qO0 (b : String) : Bool := b == "int" || b == "bool" || b == "tuple" || b == "list" || b == "str" || b == "dict"
noncomputable def qZL (a b : String) : Option Bool := if (Value.type a == Value.type b) = true then some true else if PySem.W.kitMeta b = true then (fastBuiltinMro a).map (·.contains (.type b)) else none
theorem qU6 {K : PySem.W.Frag} {a b : String} (ha : a = "NoneType" ∨ a = "bool" ∨ a = "int" ∨ a = "str" ∨ a = "tuple" ∨ a = "list" ∨ a = "dict") (hb : qO0 b = true) : PySem.W.kitOne K (.type a) (.type b) = some (qL2 a b) := by
 have hb' : b = "int" ∨ b = "bool" ∨ b = "tuple" ∨ b = "list" ∨ b = "str" ∨ b = "dict" := by simpa [qO0, or_assoc] using hb
 rcases ha with rfl | rfl | rfl | rfl | rfl | rfl | rfl <;> rcases hb' with rfl | rfl | rfl | rfl | rfl | rfl <;> (show qZL _ _ = _; decide +kernel)
noncomputable def qBI : DF := fun ds S => match ds with
 | [d, .ty b] => if qO0 b then match tyD d S with
   | some a => .ok (.bl (qL2 a b)) S
   | none => .bad
  else .bad
 | _ => .bad
set_option tactic.hygienic true in
theorem qY0 {pins : List (Addr × Obj)} {σ : L2.St} {H P : Hp} {α : List Addr} {S : Sto} {s : Shared} {d : D} {v : V} {a : String} (I : Inv X pins σ H s) (r : Rel X.K H P α S) (p : Rep X.K P α d v) (h : tyD d S = some a) :
  (∃ t, TyOf X.K H v t ∧ t = .type a ∨ (∃ p' vs, v = .ref p' ∧ (SqT X.K H p' vs ∧ a = "tuple" ∨ SqL X.K H p' vs ∧ a = "list"))) ∧ (a = "NoneType" ∨ a = "bool" ∨ a = "int" ∨ a = "str" ∨ a = "tuple" ∨ a = "list" ∨ a = "dict") := by
 cases d with
 | non => cases h; simp only [Rep] at p; subst p; exact ⟨⟨_, .inl ⟨.non, rfl⟩⟩, by simp⟩
 | bl b => cases h; simp only [Rep] at p; subst p; exact ⟨⟨_, .inl ⟨.bl b, rfl⟩⟩, by simp⟩
 | int i => cases h; simp only [Rep] at p; subst p; exact ⟨⟨_, .inl ⟨.int i, rfl⟩⟩, by simp⟩
 | str x => cases h; simp only [Rep] at p; subst p; exact ⟨⟨_, .inl ⟨.str x, rfl⟩⟩, by simp⟩
 | tup xs =>
  cases h
  simp only [Rep] at p
  obtain ⟨a, vs, rfl, q, t⟩ := p
  exact ⟨⟨.none, .inr ⟨a, vs, rfl, .inl ⟨qDF r.sub q, rfl⟩⟩⟩, by simp⟩
 | lst xs =>
  cases h
  simp only [Rep] at p
  obtain ⟨a, vs, rfl, q, t⟩ := p
  exact ⟨⟨.none, .inr ⟨a, vs, rfl, .inr ⟨(qC5 r.sub q).l, rfl⟩⟩⟩, by simp⟩
 | dct0 =>
  cases h
  simp only [Rep] at p
  obtain ⟨a, rfl, q⟩ := p
  exact ⟨⟨_, .inl ⟨.dK (r.sub _ _ q), rfl⟩⟩, by simp⟩
 | loc i =>
  simp only [Rep] at p
  obtain ⟨a, rfl, q⟩ := p
  simp only [tyD] at h
  split at h
  ·rename_i xs hS
   cases h
   obtain ⟨vs, z, t⟩ := r.at' i a _ q hS
   exact ⟨⟨_, .inl ⟨.lst z, rfl⟩⟩, by simp⟩
  ·rename_i kvs hS
   cases h
   obtain ⟨vs, z, t⟩ := r.at' i a _ q hS
   exact ⟨⟨_, .inl ⟨.dK z, rfl⟩⟩, by simp⟩
  ·cases h
 | _ => cases h
set_option tactic.hygienic true in
theorem qRN : qF9 X (.builtin "isinstance") qBI := by
 intro pins σ H s P α S vs us ds Q I r rv rp af
 unfold qBI at af
 split at af
 ·rename_i d b
  split at af
  ·rename_i hb
   split at af
   ·rename_i a ha
    obtain ⟨v, w, u, x, rfl, rfl, p, p', q, q'⟩ := qKA rp rv
    simp only [Rep] at p'
    subst p'
    have e : x = Value.type b := q'
    subst e
    obtain ⟨⟨t, ht⟩, hn⟩ := qY0 I r p ha
    have kit := qU6 (K := X.K) hn hb
    have fin : ∀ tk, EP X pins σ Q (.bool (qL2 a b)) { s with toks := tk } := fun tk => ⟨.bl _, H, I.tok tk, rfl, xr af r (by simp only [Rep])⟩
    rcases ht with ⟨ht, rfl⟩ | ⟨p', ws, rfl, ⟨sq, rfl⟩ | ⟨sq, rfl⟩⟩
    ·exact qRo I q ht kit fin
    ·cases (show u = Value.ref p' from q)
     obtain ⟨its, rv', ⟨o, h1, h2, _⟩, _⟩ := I.tuple sq
     exact PySem.W.kia_one PySem.W.kitx_tuple I.kIn ⟨o, h1, h2⟩ kit (fun z => nomatch z) fin
    ·cases (show u = Value.ref p' from q)
     obtain ⟨its, rv', ⟨o, _, h1, h2, _⟩, _⟩ := I.list sq
     exact PySem.W.kia_one PySem.W.kitx_list I.kIn ⟨o, h1, h2⟩ kit (fun z => nomatch z) fin
   ·exact False.elim af
  ·exact False.elim af
 ·exact False.elim af
noncomputable def qHo : List D → Option (List Bool)
 | [] => some []
 | .bl b :: r => (qHo r).map (b :: ·)
 | _ => none
theorem qIZ {P : Hp} {α : List Addr} : ∀ {ds : List D} {bs : List Bool} {vs : List V} {us : List Value}, qHo ds = some bs → qAL X.K P α ds vs → qAZ vs us → us = bs.map Value.bool
 | [], bs, vs, us, h, rp, rv => by
  cases h
  have := rp.nil_inv; subst this
  cases rv; rfl
 | d :: ds, bs, vs, us, h, rp, rv => by
  cases d with
  | bl b =>
   simp only [qHo] at h
   cases q : qHo ds with
   | none => rw [q] at h; cases h
   | some bs' =>
    rw [q] at h
    cases h
    obtain ⟨w, ws, rfl, p, t⟩ := rp.cons_inv
    simp only [Rep] at p; subst p
    cases rv with
    | cons q1 q2 =>
     cases (show _ = Value.bool b from q1)
     rw [qIZ q t q2]
     rfl
  | _ => cases h
noncomputable def qHM : DF := fun ds S => match ds with
 | [.int i] => .ok (.int i) S
 | [.bl b] => .ok (.int (b01 b)) S
 | _ => .bad
theorem qV1 : qF9 X (.type "int") qHM := by
 intro pins σ H s P α S vs us ds Q I r rv rp af
 unfold qHM at af
 split at af
 ·obtain ⟨v, u, rfl, rfl, p, q⟩ := qJ9 rp rv
  exact qNN pins s σ H _ _ Q I rv (.inl ⟨_, by rw [qBa p], xr af r (by simp only [Rep])⟩)
 ·obtain ⟨v, u, rfl, rfl, p, q⟩ := qJ9 rp rv
  simp only [Rep] at p; subst p
  exact qNN pins s σ H _ _ Q I rv (.inr ⟨_, rfl, xr af r (by simp only [Rep]; rfl)⟩)
 ·exact False.elim af
end
end DL
end
section
namespace DL
open PySem PySem.Spec PyProof.Rows L2
noncomputable def qBW (tp : Bool) (h : Heap) (it l : Addr) (k : Nat) : Prop := if tp then h.IsTupleIter it l k else h.IsListIter it l k
noncomputable def qCb (tp : Bool) (h : Heap) (l : Addr) (xs : Array Value) : Prop := if tp then h.IsTuple l xs else h.IsList l xs
theorem qBW.keep {tp : Bool} {h h' : Heap} {it l : Addr} {k : Nat} (x : qBW tp h it l k) (q : ∀ o, h.get? it = some o → h'.get? it = some o) : qBW tp h' it l k := by
 cases tp <;> (obtain ⟨o, e, r⟩ := x; exact ⟨o, q o e, r⟩)
theorem qCb.keep {tp : Bool} {h h' : Heap} {l : Addr} {xs : Array Value} (x : qCb tp h l xs) (q : ∀ o, h.get? l = some o → h'.get? l = some o) : qCb tp h' l xs := by
 cases tp <;> (obtain ⟨o, e, r⟩ := x; exact ⟨o, q o e, r⟩)
theorem qBW.there {tp : Bool} {h : Heap} {it l : Addr} {k : Nat} (x : qBW tp h it l k) : ∃ o, h.get? it = some o ∧ ∀ v, o.data ≠ .cell v := by
 cases tp <;> (obtain ⟨o, e, _, d⟩ := x; exact ⟨o, e, fun v z => by rw [d] at z; cases z⟩)
section
variable {prog : Program} {w : World} {A : Around} {E : Value → Shared → Prop} {s : Shared}
theorem qTK {it t : Addr} {i : Nat} {items : Array Value} {x : Value} {Q : Value → Shared → Prop} (hit : s.heap.IsTupleIter it t i) (ht : s.heap.IsTuple t items) (hx : items[i]? = some x)
  (hQ : ∀ h', h'.IsTupleIter it t (i + 1) → Heap.SameBut it s.heap h' → Q x { s with heap := h' }) : wpAny (model prog w) A (Builtin.SmallTypes.nextOf (.ref it)) Q E s := by
 obtain ⟨o, e, c, d⟩ := id hit
 obtain ⟨u, eu, _, m, du⟩ := ht
 unfold Builtin.SmallTypes.nextOf
 refine wpAny_bind (wpAny_callSpecial?_slot (name := Str.ofString "__next__") hit.typeIs F.slot_tuple_iterator_next (wpAny_call_entry F.slot_tuple_iterator_next hit.typeIs F.entry_tuple_iterator_next ?_ (F.args_tuple_iterator_next_1 _)))
 show wpAny _ _ (field (.ref it) 0 >>= _) _ _ s; refine wpAny_bind (wpAny_field e d (x := .ref t) rfl ?_)
 show wpAny _ _ (if (Value.ref t == Value.none) = true then _ else _) _ _ s; rw [if_neg (show ¬ ((Value.ref t == Value.none) = true) from Bool.false_ne_true)]
 show wpAny _ _ (field (.ref it) 1 >>= _) _ _ s; refine wpAny_bind (wpAny_field e d (x := .int i 0) rfl ?_)
 show wpAny _ _ (seqItems? (.ref t) >>= _) _ _ s; refine wpAny_bind (wpAny_seqItems eu du ?_)
 simp only [Int.toNat_natCast, hx]
 refine wpAny_bind (wpAny_setField e d (by simp) (wpAny_pure ⟨x, rfl, wpAny_pure (hQ _ ⟨_, Heap.get?_update_self _ e (Obj.isFreed_of_fields (Obj.data_mapFields d _)), (Obj.cls_mapFields ..).trans c, ?_⟩ (Heap.SameBut.update ..))⟩))
 rw [Obj.data_mapFields d]; simp [rawInt]
theorem qOy {it t : Addr} {i : Nat} {items : Array Value} {Q : Value → Shared → Prop} (hh : A.handled = none) (hit : s.heap.IsTupleIter it t i) (ht : s.heap.IsTuple t items) (hx : items[i]? = none)
  (hE : ∀ h' e, Heap.ExtBut it s.heap h' → (∃ o, h'.get? e = some o ∧ o.cls = .type "StopIteration") → E (.ref e) { s with heap := h' }) : wpAny (model prog w) A (Builtin.SmallTypes.nextOf (.ref it)) Q E s := by
 obtain ⟨o, e, c, d⟩ := id hit
 obtain ⟨u, eu, _, m, du⟩ := ht
 unfold Builtin.SmallTypes.nextOf
 refine wpAny_bind (wpAny_callSpecial?_slot (name := Str.ofString "__next__") hit.typeIs F.slot_tuple_iterator_next (wpAny_call_entry F.slot_tuple_iterator_next hit.typeIs F.entry_tuple_iterator_next ?_ (F.args_tuple_iterator_next_1 _)))
 show wpAny _ _ (field (.ref it) 0 >>= _) _ _ s; refine wpAny_bind (wpAny_field e d (x := .ref t) rfl ?_)
 show wpAny _ _ (if (Value.ref t == Value.none) = true then _ else _) _ _ s; rw [if_neg (show ¬ ((Value.ref t == Value.none) = true) from Bool.false_ne_true)]
 show wpAny _ _ (field (.ref it) 1 >>= _) _ _ s; refine wpAny_bind (wpAny_field e d (x := .int i 0) rfl ?_)
 show wpAny _ _ (seqItems? (.ref t) >>= _) _ _ s; refine wpAny_bind (wpAny_seqItems eu du ?_)
 simp only [Int.toNat_natCast, hx]; refine wpAny_bind (wpAny_rule (wpAny_bind (wpAny_setField e d (by simp) ?_)))
 show wpAny _ _ (newExc (.type "StopIteration") [] >>= _) _ _ _; refine wpAny_bind ?_
 simp only [newExc, newTuple]; refine wpAny_bind (wpAny_newObj_type ?_ (by size_fits))
 refine wpAny_bind (m := firstArgMember _ _) (wpAny_of_eq (a := Value.none) (by first | rfl | (simp only [firstArgMember]; rfl)) (wpAny_newObj_type ?_ (by size_fits)))
 simp only [raiseNew]; refine wpAny_bind (wpAny_handled ?_)
 first | rw [show A.in1.handled = none from hh] | rw [hh]
 exact wpAny_bind (wpAny_pure (wpAny_throw (hE _ _ (((Heap.SameBut.update ..).extBut.push _).push _) ⟨_, Heap.get?_push_size _ rfl, rfl⟩)))
theorem qLH {tp : Bool} {it l : Addr} {k : Nat} {xs : Array Value} {x : Value} {Q : Value → Shared → Prop} (hit : qBW tp s.heap it l k) (hl : qCb tp s.heap l xs) (hx : xs[k]? = some x)
  (hQ : ∀ h', qBW tp h' it l (k + 1) → Heap.SameBut it s.heap h' → Q x { s with heap := h' }) : wpAny (model prog w) A (Builtin.SmallTypes.nextOf (.ref it)) Q E s := by
 cases tp with
 | false => exact wpAny_nextOf_list_item hit hl hx hQ
 | true => exact qTK hit hl hx hQ
theorem qJk {tp : Bool} {it l : Addr} {k : Nat} {xs : Array Value} {Q : Value → Shared → Prop} (hh : A.handled = none) (hit : qBW tp s.heap it l k) (hl : qCb tp s.heap l xs) (hx : xs[k]? = none)
  (hE : ∀ h' e, Heap.ExtBut it s.heap h' → (∃ o, h'.get? e = some o ∧ o.cls = .type "StopIteration") → E (.ref e) { s with heap := h' }) : wpAny (model prog w) A (Builtin.SmallTypes.nextOf (.ref it)) Q E s := by
 cases tp with
 | false => exact wpAny_nextOf_list_end hh hit hl hx hE
 | true => exact qOy hh hit hl hx hE
structure ZA (z I O i j : Addr) : Prop where
 Iz : I ≠ z
 Oz : O ≠ z
 iz : i ≠ z
 jz : j ≠ z
 IO : I ≠ O
 Ii : I ≠ i
 Ij : I ≠ j
 Oi : O ≠ i
 Oj : O ≠ j
 ij : i ≠ j
structure Off (z O i j a : Addr) : Prop where
 z : a ≠ z
 O : a ≠ O
 i : a ≠ i
 j : a ≠ j
abbrev qSZ (z O i j : Addr) (h h' : Heap) : Prop := ∀ c o, c ≠ z → c ≠ O → c ≠ i → c ≠ j → h.get? c = some o → h'.get? c = some o
theorem qTn {tp tq : Bool} {z I O i j a b : Addr} {k : Nat} {xs ys : Array Value} {x y p q : Value} {Q : Value → Shared → Prop} (D : ZA z I O i j) (Da : Off z O i j a) (Db : Off z O i j b)
  (hz : IsZip s.heap z I O .none) (hI : IsPair s.heap I (.ref i) (.ref j)) (hO : IsPair s.heap O p q) (h1 : qBW tp s.heap i a k) (h2 : qBW tq s.heap j b k) (ha : qCb tp s.heap a xs) (hb : qCb tq s.heap b ys) (hx : xs[k]? = some x) (hy : ys[k]? = some y)
  (hQ : ∀ h', IsZip h' z I O (rawInt s.heap.objs.size) → IsPair h' O x y → qBW tp h' i a (k + 1) → qBW tq h' j b (k + 1) → IsPair h' s.heap.objs.size x y → h'.objs.size = s.heap.objs.size + 1 → qSZ z O i j s.heap h' → Q (.ref s.heap.objs.size) { s with heap := h' }) :
  wpAny (model prog w) A (Builtin.«zip.__next__» ⟨[.ref z], []⟩) (fun fin s' => ∃ v, fin = .done (.ret v) ∧ Q v s') E s := by
 show wpAny _ _ (field (.ref z) 2 >>= _) _ _ _; refine wpAny_bind (wpAny_field hz rfl (x := .bool false) rfl ?_)
 show wpAny _ _ (field (.ref z) 3 >>= _) _ _ _; refine wpAny_bind (wpAny_field hz rfl (x := .ref I) rfl (wpAny_bind (wpAny_seqItems hI rfl ?_)))
 show wpAny _ _ (Builtin.SmallTypes.ownedTupleIsFree (.ref z) >>= _) _ _ _; refine wpAny_bind ?_
 unfold Builtin.SmallTypes.ownedTupleIsFree; refine wpAny_bind (wpAny_field hz rfl (x := .none) rfl (wpAny_pure ?_))
 simp only [if_true]; refine wpAny_bind (wpAny_rule (wpAny_bind (wpAny_field hz rfl (x := .ref O) rfl (wpAny_bind (wpAny_setField_rec hz (by simp) fun g1 z1 s1 => ?_)))))
 replace z1 : IsZip g1 z I O .ellipsis := z1
 refine wpAny_bind ?_; simp only [List.zipIdx_cons, List.zipIdx_nil, List.forIn_cons, List.forIn_nil]
 refine wpAny_bind (wpAny_bind (wpAny_onRaise ?_)); show wpAny _ _ (Builtin.SmallTypes.nextOf (.ref i) >>= _) _ _ _
 refine wpAny_bind (qLH (h1.keep fun o e => s1.extBut _ _ D.iz e) (ha.keep fun o e => s1.extBut _ _ Da.z e) hx fun g2 i2 s2 => wpAny_pure ?_)
 have O2 : IsPair g2 O p q := s2.extBut _ _ D.Oi (s1.extBut _ _ D.Oz hO)
 refine wpAny_bind (wpAny_seqItems O2 rfl (wpAny_bind (wpAny_updateSeq_pair O2 fun g3 O3 s3 => wpAny_bind (wpAny_letGo (wpAny_pure ?_)))))
 replace O3 : IsPair g3 O x q := O3
 refine wpAny_bind (wpAny_bind (wpAny_onRaise ?_)); show wpAny _ _ (Builtin.SmallTypes.nextOf (.ref j) >>= _) _ _ _
 refine wpAny_bind (qLH (h2.keep fun o e => s3.extBut _ _ D.Oj.symm (s2.extBut _ _ D.ij.symm (s1.extBut _ _ D.jz e))) (hb.keep fun o e => s3.extBut _ _ Db.O (s2.extBut _ _ Db.i (s1.extBut _ _ Db.z e))) hy fun g4 j4 s4 => wpAny_pure ?_)
 have O4 : IsPair g4 O x q := s4.extBut _ _ D.Oj O3
 refine wpAny_bind (wpAny_seqItems O4 rfl (wpAny_bind (wpAny_updateSeq_pair O4 fun g5 O5 s5 => wpAny_bind (wpAny_letGo (wpAny_pure (wpAny_pure ?_))))))
 replace O5 : IsPair g5 O x y := O5
 refine wpAny_bind (wpAny_seqItems O5 rfl (wpAny_bind (wpAny_newTuple ?_)))
 have sz : g5.objs.size = s.heap.objs.size := by rw [s5.1, s4.1, s3.1, s2.1, s1.1]
 have z5 : IsZip g5 z I O .ellipsis := s5.extBut _ _ D.Oz.symm (s4.extBut _ _ D.jz.symm (s3.extBut _ _ D.Oz.symm (s2.extBut _ _ D.iz.symm z1)))
 have k5 : qSZ z O i j s.heap g5 := fun c o c1 c2 c3 c4 e => s5.extBut _ _ c2 (s4.extBut _ _ c4 (s3.extBut _ _ c2 (s2.extBut _ _ c3 (s1.extBut _ _ c1 e))))
 have i5 : qBW tp g5 i a (k + 1) := i2.keep fun o e => s5.extBut _ _ D.Oi.symm (s4.extBut _ _ D.ij (s3.extBut _ _ D.Oi.symm e))
 have j5 : qBW tq g5 j b (k + 1) := j4.keep fun o e => s5.extBut _ _ D.Oj.symm e
 have zl : z < g5.objs.size := Heap.lt_size z5
 show wpAny _ _ (Builtin.SmallTypes.ownedTupleHandOut (.ref z) (.ref g5.objs.size) >>= _) _ _ _
 refine wpAny_bind ?_; unfold Builtin.SmallTypes.ownedTupleHandOut
 have z6 : IsZip (g5.push { cls := .type "tuple", data := .seq #[x, y] }) z I O .ellipsis := Heap.get?_push_of_some _ z5
 refine wpAny_bind (wpAny_setField_rec z6 (by simp) fun g7 z7 s7 => ?_)
 replace z7 : IsZip g7 z I O (rawInt g5.objs.size) := z7
 refine wpAny_setField_rec z7 (by simp) fun g8 z8 s8 => ?_
 replace z8 : IsZip g8 z I O (rawInt g5.objs.size) := z8
 have up : ∀ c o, c ≠ z → g5.get? c = some o → g8.get? c = some o := fun c o c1 e => s8.extBut _ _ c1 (s7.extBut _ _ c1 (Heap.get?_push_of_some _ e))
 have T8 : IsPair g8 g5.objs.size x y := s8.extBut _ _ (Nat.ne_of_gt zl) (s7.extBut _ _ (Nat.ne_of_gt zl) (Heap.get?_push_size _ rfl))
 have sz8 : g8.objs.size = g5.objs.size + 1 := by rw [s8.1, s7.1, Heap.size_push]
 rw [sz] at z8 T8 sz8
 refine wpAny_pure ⟨_, rfl, ?_⟩
 show Q (.ref g5.objs.size) _
 rw [sz]
 exact hQ g8 z8 (up _ _ D.Oz O5) (i5.keep fun o e => up _ o D.iz e) (j5.keep fun o e => up _ o D.jz e) T8 sz8 fun c o c1 c2 c3 c4 e => up c o c1 (k5 c o c1 c2 c3 c4 e)
end
end DL
end
section
namespace DL
open PySem PySem.Spec PyProof.Rows L2
theorem qBD.there {P : Program} {w : World} {H : Hp} {h : Heap} {a : Addr} {o : HO} (x : qBD P w H h a o) : ∃ ob, h.get? a = some ob := by
 cases o with
 | lst xs => obtain ⟨_, _, _, _, e⟩ := x; exact ⟨_, e⟩
 | tup xs => obtain ⟨_, _, _, ob, e, _⟩ := x; exact ⟨_, e⟩
 | dK kvs => obtain ⟨_, _, _, _, o, _, _, e, _⟩ := x; exact ⟨_, e⟩
 | dT kvs => obtain ⟨_, _, _, _, o, _, _, e, _⟩ := x; exact ⟨_, e⟩
 | set S n => obtain ⟨o, _, _, _, e, _⟩ := x; exact ⟨_, e⟩
 | ins C dx fs => obtain ⟨_, _, _, e, _⟩ := x; exact ⟨_, e⟩
 | own y => obtain ⟨_, e⟩ := x; exact ⟨_, e⟩
 | xd fs => obtain ⟨_, ⟨_, _, _, e, _⟩, _⟩ := x; exact ⟨_, e⟩
 | rng lo hi => obtain ⟨_, _, _, e⟩ := x; exact ⟨_, e⟩
 | frz ob u => obtain ⟨e, _⟩ := x; exact ⟨_, e⟩
 | tbl ps => exact ⟨_, show h.get? a = some _ from x⟩
 | met f y => exact ⟨_, show h.get? a = some _ from x⟩
 | ext φ => obtain ⟨_, e, _⟩ := x; exact e
section
variable {X : Cx} {pins : List (Addr × Obj)} {σ : L2.St} {H : Hp} {s : Shared} {B h' : Heap}
abbrev Fn1 (X : Cx) : Prop := X.ex = [] ∧ X.stack = X.env :: X.outer ∧ X.env.frame = some X.env.locals
theorem Fn1.mem (F : Fn1 X) {b : Addr} : b ∈ frs X.stack ↔ b = X.env.locals ∨ b ∈ X.fs := by
 rw [F.2.1]
 unfold frs
 rw [List.filterMap_cons, F.2.2]
 exact List.mem_cons
theorem Old.there (I : Inv X pins σ H s) (F : Fn1 X) {b : Addr} (o : Old X pins H b) : ∃ ob, s.heap.get? b = some ob := by
 rcases o with ⟨o, e⟩ | e | ⟨p, hp, rfl⟩ | ⟨x, e⟩
 ·exact I.base.there b o e (by rw [F.1]; simp)
 ·cases q : H b with
  | none => exact absurd q e
  | some u => exact qBD.there (I.hok b u q)
 ·exact ⟨_, (I.pin p hp).1⟩
 ·obtain ⟨v, ob, ho, _⟩ := I.cell x b e
  exact ⟨ob, ho⟩
theorem Inv.fly (I : Inv X pins σ H s) (F : Fn1 X) (cv : Cv X pins H B s.heap) (st : B.StaysIn h') (up : s.heap.UpToSlots h') : Inv X pins σ H { s with heap := h' } ∧ Cv X pins H B h' := by
 have kp : ∀ b o, s.heap.get? b = some o → Old X pins H b → b ∉ frs X.stack → h'.get? b = some o := fun b o e q n => st b o (cv b o e q n)
 have neL : ∀ b o, X.s₀.heap.get? b = some o → b ≠ X.env.locals := fun b o e => Nat.ne_of_lt (Nat.lt_of_lt_of_le (Heap.lt_size e) I.ok.above)
 have nofr : ∀ b o, X.s₀.heap.get? b = some o → b ∉ X.fs → b ∉ frs X.stack := fun b o e n z => (F.mem.mp z).elim (neL b o e) n
 have nx : ∀ b, b ∉ X.ex := fun b => by rw [F.1]; simp
 have frU : ∀ b, b ∈ frs X.stack → ∀ o, s.heap.get? b = some o → ∃ sl, h'.get? b = some { o with slots := sl } := fun b hb o e => by
  obtain ⟨_, o', e', nf⟩ := I.stack.mem hb
  rw [e] at e'; cases e'
  exact up b o e nf
 have cellK : ∀ x c, X.env.cells.lookup x = some c → ∀ v, s.heap.IsCell c v → h'.IsCell c v := fun x c e v ⟨o, ho, hd⟩ => by
  obtain ⟨sl, q⟩ := up c o ho fun vs z => by rw [hd] at z; cases z
  exact ⟨_, q, hd⟩
 refine ⟨⟨I.ok, I.os, I.bare, ⟨fun b o e n hb hx => ?_, fun b o e n hb hx => ?_, I.base.free, fun b o e hx => ?_, I.base.tups, I.base.frzs, I.base.tbls⟩, ?_, fun x c e => ?_, I.free, I.freeC, fun p hp => ?_, fun a o e => ?_, I.len⟩, fun b o e q n => ?_⟩
 ·exact kp b o (I.base.keep b o e n hb hx) (.inl ⟨o, e⟩) (nofr b o e hb)
 ·obtain ⟨sl, e1⟩ := I.base.slot b o e n hb hx
  obtain ⟨sl', e2⟩ := frU b (F.mem.mpr (.inr hb)) _ e1
  exact ⟨sl', e2⟩
 ·obtain ⟨o', e1⟩ := I.base.there b o e hx
  by_cases hb : b ∈ frs X.stack
  ·obtain ⟨sl, e2⟩ := frU b hb _ e1
   exact ⟨_, e2⟩
  ·exact ⟨o', kp b o' e1 (.inl ⟨o, e⟩) hb⟩
 ·obtain ⟨m, hn, hl⟩ := I.loc
  refine ⟨m, up.ns hn, fun i x v e1 e2 e3 => ?_⟩
  obtain ⟨u, r, l⟩ := hl i x v e1 e2 e3
  refine ⟨u, r, ?_⟩
  rcases l with l | ⟨k, c, e, z⟩
  ·exact .inl l
  ·exact .inr ⟨k, c, e, cellK x c e _ z⟩
 ·obtain ⟨v, z⟩ := I.cell x c e
  exact ⟨v, cellK x c e v z⟩
 ·obtain ⟨e, n, ne, nf, d⟩ := I.pin p hp
  exact ⟨kp p.1 p.2 e (.inr (.inr (.inl ⟨p, hp, rfl⟩))) fun z => (F.mem.mp z).elim ne nf, n, ne, nf, d⟩
 ·refine (I.hok a o e).stay (fun b u hb q => ?_) (fun _ q => q) fun _ _ q => q
  have hn : H b ≠ none := by
   rcases hb with rfl | hb
   ·rw [e]; intro z; cases z
   ·rw [hb]; intro z; cases z
  exact kp b u q (.inr (.inl hn)) fun z => hn (I.stkFree b z)
 ·obtain ⟨o1, e1⟩ := Old.there I F q
  have e2 := cv b o1 e1 q n
  have e3 := st b o1 e2
  rw [e] at e3; cases e3
  exact e2
theorem qR1 {c : Value} {e : Addr} {g : Heap} {args : List Value} (I : Inv X pins σ H s) (hm : Heap.MadeExcOf g s.heap e c args) (hf : g.FunFrames X.base X.stack) (hk : ∀ b o, s.heap.get? b = some o → Old X pins H b → g.get? b = some o) :
  (PySem.W.hideAll g (frs X.stack)).StaysIn g ∧ g.FunFrames (PySem.W.hideAll g (frs X.stack)) X.stack ∧ Cv X pins H (PySem.W.hideAll g (frs X.stack)) s.heap :=
 ⟨fun b o q => PySem.W.of_hideAll _ q, PySem.W.funFrames_hide hf fun env he a ha => List.mem_filterMap.mpr ⟨env, he, ha⟩, fun b o e q n => PySem.W.hideAll_get _ (hk b o e q) n⟩
theorem qRt {M : Model} {A : Around} {E : Value → Shared → Prop} {c : Value} {e : Addr} {Q : Unit → Shared → Prop} (I : Inv X pins σ H s) (F : Fn1 X) (hA : A.frames = some X.stack) (f : FlyX X pins H c e s.heap)
  (hQ : ∀ h' B a0, Heap.FlyingW B X.outer e c a0 h' → Inv X pins σ H { s with heap := h' } → Cv X pins H B h' → Q () { s with heap := h' }) : wpAny M A (leaving X.env (.ref e)) Q E s := by
 cases f with
 | new g args hm hf hk =>
  obtain ⟨k1, k2, k3⟩ := qR1 I hm hf hk
  rw [F.2.1] at hA
  refine wpAny_leaves_madeW hA F.2.2 k1 (by rw [← F.2.1]; exact k2) hm fun h' t x1 x2 x3 x4 => ?_
  obtain ⟨I1, cv1⟩ := Inv.fly I F k3 x1.1 x4
  exact hQ h' _ _ x1 I1 cv1
 | fly B a0 fl cv =>
  rw [F.2.1] at hA
  refine wpAny_leaves_onW hA F.2.2 (by rw [← F.2.1]; exact fl) fun h' x1 x2 => ?_
  obtain ⟨I1, cv1⟩ := Inv.fly I F cv x1.1 x2
  exact hQ h' _ _ x1 I1 cv1
end
noncomputable def CXd (P : Program) (w : World) : CXT := fun outer H s E u s' =>
 ∃ e c H' B a0, u = .ref e ∧ s'.os = s.os ∧ AllBare s'.gens ∧ Un (frs outer) [] H H' s.heap s'.heap ∧ HOk P w H' s'.heap ∧ Heap.FlyingW B outer e c a0 s'.heap ∧
  (∀ b o, s'.heap.get? b = some o → ((∃ o, s.heap.get? b = some o) ∨ H' b ≠ none) → b ∉ frs outer → B.get? b = some o) ∧ E c none H'
section
variable {X : Cx} {pins : List (Addr × Obj)} {σ : L2.St} {H : Hp} {s s' : Shared}
theorem qWj {E : XK} {u : Value} (I : Inv X pins σ H s) (F : Fn1 X) (h : CXd X.prog X.w X.stack H s E u s') : ∃ e c H', u = .ref e ∧ Inv X pins σ H' s' ∧ FlyX X pins H' c e s'.heap ∧ E c none H' := by
 obtain ⟨e, c, H', B, a0, rfl, os, bare, un, hok, fl, cov, q⟩ := h
 have I' : Inv X pins σ H' s' := Inv.call' I os un hok bare (ch := []) fun b z => absurd z (by simp)
 refine ⟨e, c, H', rfl, I', .fly B a0 fl fun b o eb old n => cov b o eb ?_ n, q⟩
 rcases old with ⟨o, z⟩ | z | ⟨p, hp, rfl⟩ | ⟨x, z⟩
 ·exact .inl (I.base.there b o z (by rw [F.1]; simp))
 ·exact .inr z
 ·exact .inl ⟨_, (I.pin p hp).1⟩
 ·obtain ⟨v, ob, ho, _⟩ := I.cell x b z
  exact .inl ⟨ob, ho⟩
end
end DL
end
section
namespace DL
open PySem PySem.Spec PyProof.Rows L2
structure RoomC (cm : Bool) (k : Nat) (A : Around) : Prop where
 hd : cm = true → A.handled = none
 dp : A.depth + 3 * k + 5 < recursionLimit
 un : A.units + 16 * k + 200 < cLine
theorem RoomC.mono {cm : Bool} {j k : Nat} {A : Around} (r : RoomC cm k A) (h : autoParam (j ≤ k) au2._auto_1) : RoomC cm j A := ⟨r.hd, by have := r.dp; omega, by have := r.un; omega⟩
theorem RoomC.deeper {cm : Bool} {k : Nat} {A : Around} (r : RoomC cm (k + 1) A) (env : Env) : RoomC cm k (A.deeper env) :=
 ⟨r.hd, by have := r.dp; show A.depth + 1 + 3 * k + 5 < _; omega, by have := r.un; show A.units + 3 + 16 * k + 200 < _; omega⟩
theorem RoomC.depth {cm : Bool} {k : Nat} {A : Around} (r : RoomC cm k A) : A.depth < recursionLimit := by have := r.dp; omega
theorem RoomC.units {cm : Bool} {k : Nat} {A : Around} (r : RoomC cm k A) : A.units + 64 < cLine := by have := r.un; omega
theorem RoomC.of {k : Nat} {A : Around} (r : Room k A) : RoomC true k A := ⟨fun _ => r.hd, r.dp, r.un⟩
theorem RoomC.any {cm : Bool} {k : Nat} {A : Around} (r : RoomC cm k A) : RoomC false k A := ⟨(fun z => nomatch z), r.dp, r.un⟩
theorem RoomC.mark {cm : Bool} {k : Nat} {A : Around} (r : RoomC cm k A) (h : Option Value) : RoomC false k (A.mark h) := ⟨(fun z => nomatch z), r.dp, r.un⟩
abbrev Cx.re (X : Cx) (A : Around) (cm : Bool) (E : Value → Shared → Prop) : Cx := { X with A := A, calm := cm, xe := E }
theorem Inv.re {X : Cx} {pins : List (Addr × Obj)} {σ : L2.St} {H : Hp} {s : Shared} (I : Inv X pins σ H s) (A : Around) (cm : Bool) (E : Value → Shared → Prop) (hf : A.frames = some X.stack) (hh : cm = true → A.handled = none) : Inv (Cx.re X A cm E) pins σ H s :=
 ⟨⟨I.ok.mod, I.ok.kind, I.ok.glob, I.ok.blt, I.ok.above, I.ok.inj, I.ok.has, I.ok.cab, hh, hf, I.ok.stk, I.ok.exf, I.ok.bs, I.ok.bsz, I.ok.noex, I.ok.exfs, I.ok.funs, I.ok.frf⟩, I.os, I.bare, I.base, I.loc, I.cell, I.free, I.freeC, I.pin, I.hok, I.len⟩
theorem Inv.unre {X : Cx} {pins : List (Addr × Obj)} {σ : L2.St} {H : Hp} {s : Shared} {A : Around} {cm : Bool} {E : Value → Shared → Prop} (I : Inv (Cx.re X A cm E) pins σ H s) (hf : X.A.frames = some X.stack) (hh : X.calm = true → X.A.handled = none) : Inv X pins σ H s :=
 ⟨⟨I.ok.mod, I.ok.kind, I.ok.glob, I.ok.blt, I.ok.above, I.ok.inj, I.ok.has, I.ok.cab, hh, hf, I.ok.stk, I.ok.exf, I.ok.bs, I.ok.bsz, I.ok.noex, I.ok.exfs, I.ok.funs, I.ok.frf⟩, I.os, I.bare, I.base, I.loc, I.cell, I.free, I.freeC, I.pin, I.hok, I.len⟩
structure FnX (P : Program) (w : World) (K : PySem.W.Frag) (mg : Str → Option Value) (base : Heap) (cm : Bool) (k : Nat) (f : Addr) (fd : FuncData) (ps : List Str) (sp : Sp) : Prop where
 len : ∀ vs H Q E, sp vs H Q E → vs.length = ps.length
 run : ∀ (A : Around) (outer : List Env) (s : Shared) (H : Hp) (args : Args) (us : List Value) (vs : List V) (Q : VK) (E : XK), RoomC cm k A → Env0 P w K mg base A outer s H → BindsTo s fd args (ps.zip us) → qAZ vs us → sp vs H Q E →
  codeAny (model P w) A (.call (.ref f) args) (CR (CXd P w) outer P w H s Q E) s
theorem FnX.ok {P : Program} {w : World} {K : PySem.W.Frag} {mg : Str → Option Value} {base : Heap} {k : Nat} {f : Addr} {fd : FuncData} {ps : List Str} {sp : Sp} (F : FnX P w K mg base true k f fd ps sp) : FnOk P w K mg base (CXd P w) k f fd ps sp :=
 ⟨F.len, fun A outer s H args us vs Q E hr => F.run A outer s H args us vs Q E (.of hr)⟩
theorem FnX.imp {P : Program} {w : World} {K : PySem.W.Frag} {mg : Str → Option Value} {base : Heap} {cm : Bool} {k : Nat} {f : Addr} {fd : FuncData} {ps : List Str} {sp sp' : Sp} (F : FnX P w K mg base cm k f fd ps sp)
  (h : ∀ vs H Q E, sp' vs H Q E → sp vs H Q E) : FnX P w K mg base cm k f fd ps sp' :=
 ⟨fun vs H Q E q => F.len vs H Q E (h _ _ _ _ q), fun A outer s H args us vs Q E hr he hb hv hs => F.run A outer s H args us vs Q E hr he hb hv (h _ _ _ _ hs)⟩
noncomputable def cxC (cm : Bool) (P : Program) (w : World) (K : PySem.W.Frag) (mg : Str → Option Value) (base : Heap) (N : List Str) (qual : Str) (scope : Scope) (f : Addr) (cd : Value) (A : Around) (outer : List Env) (s : Shared) (H : Hp) (E : XK) : Cx where
 prog := P
 w := w
 K := K
 mg := mg
 base := base
 A := A.deeper (envOfC qual scope s.heap.objs.size f cd)
 N := N
 s₀ := s
 H₀ := H
 env := envOfC qual scope s.heap.objs.size f cd
 outer := outer
 stack := envOfC qual scope s.heap.objs.size f cd :: outer
 ex := []
 calm := cm
 fn := fun _ => true
 pn := []
 xe := fun e s' => wpAny (model P w) (A.deeper (envOfC qual scope s.heap.objs.size f cd)) (leaving (envOfC qual scope s.heap.objs.size f cd) e) (fun _ s'' => CXd P w outer H s E e s'') (fun e' s'' => CXd P w outer H s E e' s'') s'
section
variable {P : Program} {w : World} {K : PySem.W.Frag} {mg : Str → Option Value} {base : Heap} {cm : Bool} {N : List Str} {qual : Str} {scope : Scope} {f : Addr} {cd : Value} {A : Around} {outer : List Env} {s : Shared} {H : Hp} {E : XK}
theorem qSk : PassesOwn (model P w) (A.deeper (envOfC qual scope s.heap.objs.size f cd)) (envOfC qual scope s.heap.objs.size f cd) (cxC cm P w K mg base N qual scope f cd A outer s H E).xe := PassesOwn.leaving (Q₁ := fun e s'' => CXd P w outer H s E e s'')
theorem qRP {P0 : Hp} {α : List Addr} {c : Value} {x : D} {S : Sto} {u : Value} {s' : Shared} (k : XOk (cxC cm P w K mg base N qual scope f cd A outer s H E) P0 α c x S u s')
  (q : ∀ H' P' α', Rel K H' P' α' S → qAJ P0 P' → α <+: α' → E c none H') : (cxC cm P w K mg base N qual scope f cd A outer s H E).xe u s' := by
 obtain ⟨e, pins, σ, H1, P1, α1, rfl, I, r, e1, e2, F, fl⟩ := k
 refine qRt (X := cxC cm P w K mg base N qual scope f cd A outer s H E) I F I.ok.frames fl fun h' B a0 x1 I1 cv => ?_
 refine ⟨e, c, H1, B, a0, rfl, I1.os, I1.bare, I1.base, I1.hok, x1, fun b o eb hb n => cv b o eb ?_ fun z => ?_, q H1 P1 α1 r e1 e2⟩
 ·rcases hb with z | z
  ·exact .inl z
  ·exact .inr (.inl z)
 ·rcases (Fn1.mem F).mp z with z | z
  ·subst z
   rcases hb with ⟨o', e'⟩ | z
   ·exact absurd (Heap.lt_size e') (Nat.not_lt.mpr I1.ok.above)
   ·exact z I1.free
  ·exact n z
theorem qQy {ps : List Str} {s1 : Shared} {us : List Value} {vs : List V} (S : FnScope N ps scope) (hd : cm = true → A.handled = none) (e0 : Env0 P w K mg base A outer s H) (hl : vs.length = ps.length) (r : qAZ vs us)
  (x : InCallC s s.heap.objs.size (bindL (envOfC qual scope s.heap.objs.size f cd).kindOf (ps.zip us) fun _ => none) (cellsFrom (s.heap.objs.size + 1) scope.names []) (bindC (envOfC qual scope s.heap.objs.size f cd).kindOf (ps.zip us) fun _ => none) s1) :
  Inv (cxC cm P w K mg base N qual scope f cd A outer s H E) [] (L2.qEi N vs) H s1 := by
 have I := qRn (CX := CXd P w) (E := E) (A := { A with handled := none }) S rfl ⟨e0.frames, e0.mod, e0.bs, e0.bsz, e0.funs, e0.frf, e0.hok, e0.bare⟩ hl r x
 have J := Inv.re I (A.deeper (envOfC qual scope s.heap.objs.size f cd)) cm (cxC cm P w K mg base N qual scope f cd A outer s H E).xe (Around.frames_deeper e0.frames) hd
 exact J
end
theorem qWk {P : Program} {w : World} {K : PySem.W.Frag} {mg : Str → Option Value} {base : Heap} {cm : Bool} {k : Nat} {f : Addr} {x qual : Str} {st : Stmt} {fd : FuncData} {N ps : List Str} {sp : Sp} (F : Fun K x qual st f fd) (S : FnScope N ps (qAB st))
  (len : ∀ vs H Q E, sp vs H Q E → vs.length = ps.length)
  (hbody : ∀ (cdv : Value) (A : Around) (outer : List Env) (s : Shared) (H : Hp) (vs : List V) (Q : VK) (E : XK), RoomC cm k (A.deeper (envOfC qual (qAB st) s.heap.objs.size f cdv)) → sp vs H Q E →
   ∃ t, PSs (cxC cm P w K mg base N qual (qAB st) f cdv A outer s H E) (qAP st) t ∧ t { nx := fun _ H' => Q .non H', rt := Q } (L2.qEi N vs) H) :
  FnX P w K mg base cm (k + 1) f fd ps sp := by
 obtain ⟨oc, od, kV, doc, pm, an, cdv, ct, osl, rfl, lk, hcd⟩ := F.ex
 refine ⟨len, fun A outer s H args us vs Q E hr e0 hb r hsp => ?_⟩
 have hl := len _ _ _ _ hsp
 have KX : K.In s.heap := e0.mod.kin.keeps fun b o e => (e0.bs b o e).1
 have lim : s.heap.NoLimit := e0.mod.nolimit.keeps fun b o e => (e0.bs b o e).1
 have hkind : ∀ y ∈ ps.zip us, (qAB st).names.lookup y.1 = some .local ∨ ((qAB st).names.lookup y.1 = some .cell ∧ ((cellsFrom (s.heap.objs.size + 1) (qAB st).names []).lookup y.1).isSome = true) := fun ⟨n, v⟩ hy => by
  rcases S.par n (List.of_mem_zip hy).1 with q | q
  ·exact .inl q
  ·exact .inr ⟨q, PySem.W.cellsFrom_some _ _ _ (.inl q)⟩
 refine codeAny_call_function hr.depth (KX _ _ lk) rfl S.co S.gen rfl (PySem.W.codeRec_of KX hcd) (hb _ _ _ _ ?_)
 refine wpAny_newFunctionEnv_cells S.kind hkind fun env he s1 x => ?_
 subst he
 refine ⟨lim.keeps x.toInCall.keep, codeAny_func ?_⟩
 obtain ⟨t, ht, hq⟩ := hbody cdv A outer s H vs Q E (hr.deeper _) hsp
 have I : Inv (cxC cm P w K mg base N qual (qAB st) f cdv A outer s H E) [] (L2.qEi N vs) H s1 := qQy S hr.hd e0 hl r x
 refine wpAny_mono (ht [] s1 (L2.qEi N vs) H _ I hq) (fun fl s' hs => ?_) fun e s' hs => hs
 have fin : ∀ {σ' : L2.St} {H' : Hp} {v : V} {u : Value}, Inv (cxC cm P w K mg base N qual (qAB st) f cdv A outer s H E) [] σ' H' s' → qAR v u → Q v H' → CE outer P w H s Q u s' :=
  fun {σ' H' v u} J rv q => ⟨v, H', J.os, J.bare, J.base, J.hok, rv, q⟩
 cases fl with
 | ret u =>
  obtain ⟨v, σ', H', J, rv, q⟩ := hs
  exact fin J rv q
 | next =>
  obtain ⟨σ', H', J, q⟩ := hs
  exact fin (v := V.non) (u := Value.none) J rfl q
 | brk =>
  obtain ⟨_, _, _, q⟩ := hs
  exact False.elim q
 | cont =>
  obtain ⟨_, _, _, q⟩ := hs
  exact False.elim q
noncomputable def qD2 (n : Nat) (ds : List D) : qAI := ds.map some ++ List.replicate (n - ds.length) none
noncomputable def qTN : Out → Res D
 | .rt d S => .ok d S
 | .nx _ S => .ok .non S
 | .ex c x _ S => .ex c x S
 | _ => .bad
noncomputable def qAd (n : Nat) (g : DS) : DF := fun ds S => qTN (g (qD2 n ds) S)
noncomputable def spD (K : PySem.W.Frag) (n : Nat) (F : DF) : Sp := fun vs H Q E => vs.length = n ∧ ∃ P α ds S, Rel K H P α S ∧ qAL K P α ds vs ∧ match F ds S with
 | .ok d S' => ∀ v H' P' α', Rel K H' P' α' S' → qAJ P P' → α <+: α' → Rep K P' α' d v → Q v H'
 | .ex c _ S' => ∀ H' P' α', Rel K H' P' α' S' → qAJ P P' → α <+: α' → E c none H'
 | .bad => False
theorem qRA {K : PySem.W.Frag} {P : Hp} {α : List Addr} {N : List Str} {ds : List D} {vs : List V} (r : qAL K P α ds vs) : qAu K P α (L2.qEi N vs) (qD2 N.length ds) := by
 refine ⟨by simp [qD2, L2.qEi, r.length], fun i d e => ?_⟩
 unfold qD2 at e
 unfold L2.qEi
 by_cases hi : i < ds.length
 ·rw [List.getElem?_append_left (by simpa using hi), List.getElem?_map] at e
  rw [List.getElem?_append_left (by rw [List.length_map, ← r.length]; exact hi), List.getElem?_map]
  cases q : ds[i]? with
  | none => rw [q] at e; cases e
  | some d' =>
   rw [q] at e; cases e
   obtain ⟨v, h1, h2⟩ := r.get q
   exact ⟨v, by rw [h1]; rfl, h2⟩
 ·rw [List.getElem?_append_right (by simpa using hi), List.getElem?_replicate] at e
  split at e <;> cases e
section
variable {P : Program} {w : World} {K : PySem.W.Frag} {mg : Str → Option Value} {base : Heap} {cm : Bool}
theorem fnX {x qual : Str} {st : Stmt} {f : Addr} {fd : FuncData} {N ps : List Str} {k : Nat} {g : DS} (F : Fun K x qual st f fd) (S : FnScope N ps (qAB st))
  (hbody : ∀ (cdv : Value) (A : Around) (outer : List Env) (s : Shared) (H : Hp) (E : XK), RoomC cm k (A.deeper (envOfC qual (qAB st) s.heap.objs.size f cdv)) →
   PSs (cxC cm P w K mg base N qual (qAB st) f cdv A outer s H E) (qAP st) (tDS (cxC cm P w K mg base N qual (qAB st) f cdv A outer s H E) g)) :
  FnX P w K mg base cm (k + 1) f fd ps (spD K ps.length (qAd N.length g)) := by
 refine qWk F S (fun vs H Q E h => h.1) fun cdv A outer s H vs Q E hr h => ?_
 obtain ⟨hl, P', α, ds, S', r, rp, af⟩ := h
 refine ⟨_, hbody cdv A outer s H E hr, P', α, qD2 N.length ds, S', r, qRA rp, ?_⟩
 unfold qAd at af
 cases q : g (qD2 N.length ds) S' with
 | rt d S1 => rw [q] at af; exact fun v H' P1 α1 r1 e1 e2 p1 => af v H' P1 α1 r1 e1 e2 p1
 | nx env S1 => rw [q] at af; exact fun σ' H' P1 α1 r1 re1 e1 e2 => af .non H' P1 α1 r1 e1 e2 (by simp only [Rep])
 | bk env S1 => rw [q] at af; exact False.elim af
 | ct env S1 => rw [q] at af; exact False.elim af
 | ex c x env S1 => rw [q] at af; exact fun u s' z => qRP z fun H' P1 α1 r1 e1 e2 => af H' P1 α1 r1 e1 e2
 | bad => rw [q] at af; exact False.elim af
end
section
variable {X : Cx} {cm : Bool} {k : Nat} {f : Addr} {fd : FuncData} {ps : List Str} {F : DF} {x : Str} {p pos : Pos} {e : Expr} {es : List Expr} {fa : DA} {n : Nat}
noncomputable def qAK (n : Nat) (F : DF) (fa : DA) : DE := fun env S => (fa env S).bind fun ds S1 => if ds.length = n then F ds S1 else .bad
theorem qQZ {pins : List (Addr × Obj)} {σ : L2.St} {H : Hp} {s : Shared} {Q : VK} {us : List Value} {vs : List V} {P : Hp} {α : List Addr} {ds : List D} {S : Sto} (G : FnX X.prog X.w X.K X.mg X.base cm k f fd ps (spD X.K n F)) (hr : RoomC cm k X.A) (hb : qFO X.K fd ps []) (hF : Fn1 X)
  (I : Inv X pins σ H s) (r : Rel X.K H P α S) (rv : qAZ vs us) (rp : qAL X.K P α ds vs) (hn : ds.length = n) (af : qAp X P α (F ds S) Q) : wpAny (model X.prog X.w) X.A (call (.ref f) us) (EP X pins σ Q) X.xe s := by
 have hvn : vs.length = n := by rw [← rp.length]; exact hn
 let E : XK := fun c _ H' => match F ds S with
  | .ex c' _ S' => c = c' ∧ ∃ P' α', Rel X.K H' P' α' S' ∧ qAJ P P' ∧ α <+: α'
  | _ => False
 have hsp : spD X.K n F vs H Q E := by
  refine ⟨hvn, P, α, ds, S, r, rp, ?_⟩
  cases q : F ds S with
  | ok d S' => rw [q] at af; exact af
  | ex c x S' =>
   intro H' P' α' r' e1 e2
   show match F ds S with | .ex c' _ S' => c = c' ∧ ∃ P' α', Rel X.K H' P' α' S' ∧ qAJ P P' ∧ α <+: α' | _ => False
   rw [q]
   exact ⟨rfl, P', α', r', e1, e2⟩
  | bad => rw [q] at af; exact af
 have hl : us.length = ps.length := by rw [← rv.length]; exact G.len _ _ _ _ hsp
 have hb' := hb s us I.kIn (by rw [List.append_nil]; exact hl)
 rw [List.append_nil] at hb'
 refine wpAny_call (codeAny_mono (G.run X.A X.stack s H ⟨us, []⟩ us vs Q E hr I.env0 hb' rv hsp) fun r s' hq => ?_)
 cases r with
 | error u =>
  obtain ⟨a, c, H', rfl, I', fl, q⟩ := qWj I hF hq
  cases z : F ds S with
  | ok d S' => simp only [E, z] at q
  | bad => simp only [E, z] at q
  | ex c' x' S' =>
   simp only [E, z] at q
   obtain ⟨rfl, P', α', r', e1, e2⟩ := q
   rw [z] at af
   exact af _ _ ⟨a, pins, σ, H', P', α', rfl, I', r', e1, e2, hF, fl⟩
 | ok fl =>
  cases fl with
  | ret u => exact I.after hq
  | next => exact False.elim hq
  | brk => exact False.elim hq
  | cont => exact False.elim hq
theorem qNS {env : qAI} {S S1 : Sto} {P : Hp} {α : List Addr} {ds : List D} {Ok : D → Sto → Prop} (h : qAY X P α (if ds.length = n then F ds S1 else .bad) Ok) : ds.length = n ∧ qAY X P α (F ds S1) Ok := by
 by_cases hn : ds.length = n
 ·rw [if_pos hn] at h; exact ⟨hn, h⟩
 ·rw [if_neg hn] at h; exact False.elim h
theorem qUR (G : FnX X.prog X.w X.K X.mg X.base cm k f fd ps (spD X.K n F)) (hr : RoomC cm k X.A) (hF : Fn1 X) (hg : Gl X x) (hm : X.mg x = some (.ref f)) (hk : PySem.W.keepIn X.K (.ref f) = true) (hb : qFO X.K fd ps [])
  (ha : PA X (e :: es) (tDA X fa)) (hdb : autoParam ((x == ("__debug__" : Str)) = false) au2._auto_1) (he : autoParam (starEach (e :: es) X.env = (false, eval e X.env) :: starEach es X.env) au3._auto_1) (hpl : autoParam ((backTo pos (starEach es X.env)).any (·.1) = false) au3._auto_1) :
  PE X (.Call (.Name x p) (e :: es) [] pos) (tD X (qAK n F fa)) := by
 intro pins s σ H Q I h
 obtain ⟨P, α, env, S, r, re, af⟩ := h
 refine wpAny_Call_Name_kw (qIA I hg hm ?_ hdb)
 refine PySem.W.callWith_K (h₀ := X.base) I.ok.mod.kin hk (thn (qDx ha I r re af pos) fun us s1 ⟨vs, H1, P1, α1, ds, S1, I1, rv, r1, re1, rp, e1, e2, af1⟩ => ⟨I1.kIn, ?_⟩) he hpl
 obtain ⟨hn, af2⟩ := qNS (env := env) (S := S) af1
 exact qQZ G hr hb hF I1 r1 rv rp hn (qAp.base e1 e2 af2)
end
end DL
end
section
namespace DL
open PySem PySem.Spec PyProof.Rows L2
abbrev qOA : List Value := [.type "ValueError", .type "Exception", .type "BaseException", .type "object"]
noncomputable def qYN : Value → Bool
 | .str _ _ => true
 | _ => false
noncomputable def qIO (K : PySem.W.Frag) (N : Addr) : Bool := (match List.lookup N K with
 | some o => match o.data with
  | .dict es _ => es.toList.all fun e => qYN e.key
  | _ => false
 | none => false) && decide (PySem.W.nsIn K N "__init__" = some none)
theorem qDb {K : PySem.W.Frag} {N : Addr} (h : qIO K N = true) : PySem.W.nsOkIn K N = true ∧ PySem.W.nsIn K N "__init__" = some none := by
 unfold qIO at h
 rw [Bool.and_eq_true, decide_eq_true_eq] at h
 refine ⟨?_, h.2⟩
 have h1 := h.1
 unfold PySem.W.nsOkIn
 cases e : List.lookup N K with
 | none => rw [e] at h1; cases h1
 | some o =>
  rw [e] at h1
  obtain ⟨oc, od, dt, sl⟩ := o
  cases dt with
  | dict es ep =>
   simp only at h1 ⊢
   rw [Array.all_toList] at h1
   refine Eq.trans (congrArg (fun f => Array.all es f) (funext fun e => ?_)) h1
   cases e.key <;> rfl
  | _ => cases h1
noncomputable def qNx (K : PySem.W.Frag) (C : Addr) (f : Value → ClassData → Array (Option Value) → Bool) : Bool := match List.lookup C K with
 | some o => (match o.data with | .cls cd => f o.cls cd o.slots | _ => false)
 | none => false
theorem qO7 {K : PySem.W.Frag} {C : Addr} {f : Value → ClassData → Array (Option Value) → Bool} (h : qNx K C f = true) : ∃ oc od cd sl, List.lookup C K = some ⟨oc, od, .cls cd, sl⟩ ∧ f oc cd sl = true := by
 unfold qNx at h
 cases e : List.lookup C K with
 | none => rw [e] at h; exact Bool.noConfusion h
 | some o =>
  rw [e] at h
  obtain ⟨oc, od, dt, sl⟩ := o
  cases dt with
  | cls cd => exact ⟨oc, od, cd, sl, rfl, h⟩
  | _ => exact Bool.noConfusion h
noncomputable def qOH (K : PySem.W.Frag) (C A : Addr) : Bool := qNx K C fun oc cd sl => qNx K A fun _ ca _ => decide (oc = .type "type") && (decide (cd.mro = .ref C :: .ref A :: qOA) && (!cd.hasDel && (qIO K cd.ns && (qIO K ca.ns && (decide (sl.toList.length = 6) && decide (sl.toList[4]? = some (some (.builtin "ValueError.__new__"))))))))
inductive ExcO (h : Heap) (C : Addr) : Prop
 | mk (nm q : Str) (N : Addr) (bs bm : List Value) (hdct : Bool) (sn : List Str) (sub : List Value) (ab : Bool) (col : Option Bool) (dd : Option Addr) (k0 k1 k2 k3 k5 : Option Value) (mN : Str → Option Value) (hC : h.get? C = some (excClassObj nm q C N bs bm hdct sn sub ab col dd k0 k1 k2 k3 k5 "ValueError.__new__")) (hN : h.Ns N mN) (hni : mN "__init__" = none) (T : OwnTail h qOA bm) : ExcO h C
theorem qMz {β : Type} {l : List β} {n : Nat} (h : l.length = n + 1) : ∃ a t, l = a :: t ∧ t.length = n := by
 cases l with
 | nil => exact Nat.noConfusion h
 | cons a t => exact ⟨a, t, rfl, Nat.succ.inj h⟩
theorem six {β : Type} {l : List β} (h : l.length = 6) : ∃ a b c d e f, l = [a, b, c, d, e, f] := by
 obtain ⟨a, t, e1, h⟩ := qMz h
 obtain ⟨b, t2, e2, h⟩ := qMz h
 obtain ⟨c, t3, e3, h⟩ := qMz h
 obtain ⟨d, t4, e4, h⟩ := qMz h
 obtain ⟨e, t5, e5, h⟩ := qMz h
 obtain ⟨f, t6, e6, h⟩ := qMz h
 exact ⟨a, b, c, d, e, f, by rw [e1, e2, e3, e4, e5, e6, List.length_eq_zero_iff.mp h]⟩
theorem qW6 {C : Addr} {od : Option Addr} {cd : ClassData} {sl : Array (Option Value)} {tl : List Value} {k0 k1 k2 k3 k4 k5 : Option Value} {n : String} (hm : cd.mro = .ref C :: tl) (hd : cd.hasDel = false) (hs : sl.toList = [k0, k1, k2, k3, k4, k5]) (hn : sl.toList[4]? = some (some (.builtin n))) :
  (⟨.type "type", od, .cls cd, sl⟩ : Obj) = excClassObj cd.name cd.qualname C cd.ns cd.bases tl cd.hasDict cd.slotNames cd.subclasses cd.abstract cd.collection od k0 k1 k2 k3 k5 n := by
 rw [hs] at hn
 cases hn
 cases cd
 cases sl
 cases hm
 cases hd
 cases hs
 rfl
theorem qUj {K : PySem.W.Frag} {h : Heap} {C A : Addr} {od : Option Addr} {cd : ClassData} {sl : Array (Option Value)} (KI : K.In h) (e : List.lookup C K = some ⟨.type "type", od, .cls cd, sl⟩) (h2 : cd.mro = .ref C :: .ref A :: qOA) (h3 : cd.hasDel = false) (h4 : qIO K cd.ns = true) (h6 : sl.toList.length = 6) (h7 : sl.toList[4]? = some (some (.builtin "ValueError.__new__"))) (T : OwnTail h qOA (.ref A :: qOA)) : ExcO h C := by
 obtain ⟨k0, k1, k2, k3, x, k5, es⟩ := six h6
 exact ⟨_, _, _, _, _, _, _, _, _, _, _, k0, k1, k2, k3, k5, _, (KI _ _ e).trans (congrArg some (qW6 h2 h3 es h7)), .of_isNs (PySem.W.isNs_of_in KI (qDb h4).1), PySem.W.nsMap_none_of_in KI (qDb h4).1 (qDb h4).2, T⟩
theorem qUk {K : PySem.W.Frag} {h : Heap} {C A : Addr} (KI : K.In h) (z : qOH K C A = true) : ExcO h C := by
 obtain ⟨oc, od, cd, sl, e, z⟩ := qO7 z
 obtain ⟨qc, qd, ca, ql, e2, z⟩ := qO7 z
 have a1 := Bool.and_eq_true_iff.mp z
 have a2 := Bool.and_eq_true_iff.mp a1.2
 have a3 := Bool.and_eq_true_iff.mp a2.2
 have a4 := Bool.and_eq_true_iff.mp a3.2
 have a5 := Bool.and_eq_true_iff.mp a4.2
 have a6 := Bool.and_eq_true_iff.mp a5.2
 rw [of_decide_eq_true a1.1] at e
 exact qUj KI e (of_decide_eq_true a2.1) (Bool.not_eq_true' _ ▸ a3.1) a4.1 (of_decide_eq_true a6.1) (of_decide_eq_true a6.2) (.own (KI _ _ e2) (.of_isNs (PySem.W.isNs_of_in KI (qDb a5.1).1)) (PySem.W.nsMap_none_of_in KI (qDb a5.1).1 (qDb a5.1).2) .base)
section
variable {X : Cx} {pos : Pos} {fa : DA}
noncomputable def qME (c : Value) (fa : DA) : DS := fun env S => (fa env S).toS env fun ds S1 => if ds.length ≤ lim then .ex c .non env S1 else .bad
inductive GotAS (X : Cx) (pins : List (Addr × Obj)) (σ : L2.St) (env : qAI) (P : Hp) (α : List Addr) (us : List Value) (s1 : Shared) (k : List D → Sto → Out) (E : Ends) : Prop
 | mk (vs : List V) (H1 P1 : Hp) (α1 : List Addr) (ds : List D) (S1 : Sto) (I : Inv X pins σ H1 s1) (rv : qAZ vs us) (r : Rel X.K H1 P1 α1 S1) (re : qAu X.K P1 α1 σ env) (rp : qAL X.K P1 α1 ds vs) (e1 : qAJ P P1) (e2 : α <+: α1) (q : qAi X P1 α1 (k ds S1) E) : GotAS X pins σ env P α us s1 k E
theorem qP4 {es : List Expr} {k : List D → Sto → Out} {pins : List (Addr × Obj)} {s : Shared} {σ : L2.St} {H P : Hp} {α : List Addr} {env : qAI} {S : Sto} {D : Ends} (he : PA X es (tDA X fa)) (I : Inv X pins σ H s) (r : Rel X.K H P α S)
  (re : qAu X.K P α σ env) (af : qAi X P α ((fa env S).toS env k) D) (pos : Pos) :
  wpAny (model X.prog X.w) X.A (spliced (backTo pos (starEach es X.env))) (fun us s1 => GotAS X pins σ env P α us s1 k D) X.xe s := by
 have af1 : qAY X P α ((fa env S).bind fun d S => .ok d S) fun d S => qAi X P α (k d S) D := by
  have := qB1 af
  cases q : fa env S <;> rw [q] at this <;> exact this
 exact thn (qDx he I r re af1 pos) fun u s1 ⟨vs, H1, P1, α1, ds, S1, I1, rv, r1, re1, rp, e1, e2, q⟩ => ⟨vs, H1, P1, α1, ds, S1, I1, rv, r1, re1, rp, e1, e2, qAi.base e1 e2 q⟩
theorem qSv {x : Str} {C Ae : Addr} {e₀ : Expr} {rest : List Expr} {np cpos : Pos} (hc : X.calm = true) (hF : Fn1 X) (hg : Gl X x) (hm : X.mg x = some (.ref C)) (hx : qOH X.K C Ae = true) (ha : PA X (e₀ :: rest) (tDA X fa))
  (hdb : autoParam ((x == ("__debug__" : Str)) = false) au2._auto_1) (he : autoParam (starEach (e₀ :: rest) X.env = (false, eval e₀ X.env) :: starEach rest X.env) au3._auto_1) (hpl : autoParam ((backTo cpos (starEach rest X.env)).any (·.1) = false) au3._auto_1) :
  PS X (.Raise (some (.Call (.Name x np) (e₀ :: rest) [] cpos)) none pos) (tDS X (qME (.ref C) fa)) := by
 intro pins s σ H D I h
 obtain ⟨P, α, env, S, r, re, af⟩ := h
 obtain ⟨nm, qn, N, bs, tl, hdct, sn, sub, ab, col, dd, k0, k1, k2, k3, k5, mN, hC, hN, hni, T⟩ := qUk I.mod.kin hx
 refine wpAny_Raise_call_subT (C := C) (nm := nm) (q := qn) (N := N) (bs := bs) (bm := tl) (hdct := hdct) (sn := sn) (sub := sub) (ab := ab) (col := col) (dd := dd) (k0 := k0) (k1 := k1) (k2 := k2) (k3 := k3) (k5 := k5)
  PySem.F.excBase_ValueError (mN := mN) (T.hasType PySem.F.excBase_ValueError.hasBase) (I.ok.hd hc) (by rw [he]; show (false || (backTo cpos (starEach rest X.env)).any (·.1)) = false; rw [hpl]; rfl) hni (qIA I hg hm ⟨rfl, ?_⟩ hdb)
 have run := qP4 ha I r re af cpos
 rw [he] at run ⊢
 refine Calls.evalArgs_plain (thn run fun us s2 ⟨vs, H1, P1, α1, ds, S1, I1, rv, r1, re1, rp, e1, e2, q⟩ => ?_)
 have hl : us.length = ds.length := by rw [rp.length, rv.length]
 by_cases hz : ds.length ≤ lim
 ·rw [if_pos hz] at q
  refine ⟨rfl, by rw [hl, ← qBg]; exact hz, I1.bk _ _ hC, hN.keeps I1.bk, T.keeps I1.bk, fun h' e hm => q _ _ ⟨e, pins, σ, H1, P1, α1, rfl, I1.kept (t' := s2.toks) hm.keeps, r1, qAJ.refl _, List.prefix_refl _, hF, .new s2.heap us hm I1.stack fun b o eb old => ?_⟩⟩
  obtain ⟨o1, q1⟩ := Old.there I1 hF old
  have q2 := hm.keeps b o1 q1
  rw [eb] at q2; cases q2
  exact q1
 ·rw [if_neg hz] at q; exact False.elim q
end
section
variable {X : Cx} {pins : List (Addr × Obj)} {σ : L2.St} {H : Hp} {s : Shared}
theorem qQ1 {M : Model} {A : Around} {E : Value → Shared → Prop} {base h : Heap} {env : Env} {outer : List Env} {L e : Addr} {cls : Value} {args : List Value} {Q : Unit → Shared → Prop}
  (hfr : A.frames = some (env :: outer)) (hf : env.frame = some L) (hkb : base.StaysIn h) (hl : h.FunFrames base (env :: outer)) (hx : Heap.MadeExcOf h s.heap e cls args)
  (hQ : ∀ h' a0, Heap.HeldW base (env :: outer) e cls a0 L h' → s.heap.UpToSlots h' → Q () { s with heap := h' }) : wpAny M A (noteFrame (.ref e) env) Q E s := by
 obtain ⟨t, he, htn, ht⟩ := hx.there
 have fresh : ∀ b, h.get? b = none → base.get? b = none := fun b hb => by
  cases hq : base.get? b with
  | none => rfl
  | some o' => have z := hkb b o' hq; rw [hb] at z; cases z
 unfold noteFrame
 simp only [hf]
 refine wpAny_bind (wpAny_field he rfl (x := .none) rfl ?_)
 rw [if_neg (by decide)]
 refine wpAny_entryW hfr (hl.of_keeps fun b o hb _ => ⟨o, hx.keeps b o hb, rfl⟩) hf he (fun b o hb => hx.keeps b o (hkb b o hb)) (fresh e hx.new) rfl (by simp) (a0 := .ref t) rfl fun h' hN => ?_
 obtain ⟨n1, n2, n3, n4⟩ := hN
 exact hQ h' (.ref t) ⟨n1, fresh e hx.new, n2, n3⟩ n4
theorem qTH {M : Model} {A : Around} {E : Value → Shared → Prop} {c : Value} {e : Addr} {Q : Unit → Shared → Prop} (I : Inv X pins σ H s) (F : Fn1 X) (hA : A.frames = some X.stack) (f : FlyX X pins H c e s.heap)
  (hQ : ∀ h' B a0, Heap.FlyingW B X.stack e c a0 h' → Inv X pins σ H { s with heap := h' } → Cv X pins H B h' → Q () { s with heap := h' }) :
  wpAny M A (noteFrame (.ref e) X.env) (fun _ s₂ => wpAny M A (setFlight (.ref e) none) Q E s₂) E s := by
 have land : ∀ (B : Heap) (a0 : Value) (h1 : Heap), Cv X pins H B s.heap → Heap.HeldW B X.stack e c a0 X.env.locals h1 → s.heap.UpToSlots h1 → wpAny M A (setFlight (.ref e) none) Q E { s with heap := h1 } := fun B a0 h1 cv hh up => by
  refine wpAny_landsW (s := { s with heap := h1 }) hh fun h2 f2 u2 => ?_
  obtain ⟨I2, cv2⟩ := Inv.fly I F cv f2.1 (up.trans u2)
  exact hQ h2 B a0 f2 I2 cv2
 cases f with
 | new g args hm hf hk =>
  obtain ⟨k1, k2, k3⟩ := qR1 I hm hf hk
  rw [F.2.1] at hA
  exact qQ1 hA F.2.2 k1 (by rw [← F.2.1]; exact k2) hm fun h' a0 x1 x2 => land _ a0 h' k3 (F.2.1 ▸ x1) x2
 | fly B a0 fl cv =>
  rw [F.2.1] at hA
  exact wpAny_looks_onW hA F.2.2 (by rw [← F.2.1]; exact fl) fun h' x1 x2 => land B a0 h' cv (by rw [F.2.1]; exact x1) x2
theorem qQB {B : Heap} {c a0 : Value} {e : Addr} (I : Inv X pins σ H s) (F : Fn1 X) (fl : Heap.FlyingW B X.stack e c a0 s.heap) (cv : Cv X pins H B s.heap) : ¬ Old X pins H e ∧ e ∉ frs X.stack ∧ ∃ ob, s.heap.get? e = some ob ∧ ob.cls = c := by
 obtain ⟨oe, vs, he, hc, hd, _⟩ := fl.first
 have nf : e ∉ frs X.stack := fun z => by
  obtain ⟨_, o, ho, hn⟩ := I.stack.mem z
  rw [he] at ho; cases ho
  exact hn vs hd
 refine ⟨fun z => ?_, nf, oe, he, hc⟩
 have q := cv e oe he z nf
 rw [fl.2.1] at q; cases q
theorem Inv.track {e : Addr} {c : Value} {ob : Obj} (I : Inv X pins σ H s) (F : Fn1 X) (no : ¬ Old X pins H e) (nf : e ∉ frs X.stack) (he : s.heap.get? e = some ob) (hc : ob.cls = c) : Inv X pins σ (upd H e (qOZ e c)) s := by
 have hn : H e = none := by
  cases q : H e with
  | none => rfl
  | some u => exact absurd (.inr (.inl (by rw [q]; intro z; cases z))) no
 have nL : e ≠ X.env.locals := fun z => nf (F.mem.mpr (.inl z))
 have n0 : ∀ b o, X.s₀.heap.get? b = some o → b ≠ e := fun b o q z => no (.inl ⟨o, z ▸ q⟩)
 refine ⟨I.ok, I.os, I.bare, ⟨I.base.keep, I.base.slot, fun b o q n hx => ?_, I.base.there, fun b xs q => ?_, fun b o xs q => ?_, fun b ps q => ?_⟩, I.loc, I.cell, ?_, fun x k q => ?_, fun p hp => ?_, fun b u q => ?_, I.len⟩
 ·rw [qAa (n0 b o q)]; exact I.base.free b o q n hx
 ·have z := I.base.tups b xs q
  rw [qAa (qAw z hn)]; exact z
 ·have z := I.base.frzs b o xs q
  rw [qAa (qAw z hn)]; exact z
 ·obtain ⟨m, z⟩ := I.base.tbls b ps q
  exact ⟨m, by rw [qAa (qAw z hn)]; exact z⟩
 ·rw [qAa (Ne.symm nL)]; exact I.free
 ·have z : k ≠ e := fun z => no (.inr (.inr (.inr ⟨x, z ▸ q⟩)))
  rw [qAa z]; exact I.freeC x k q
 ·obtain ⟨a1, a2, a3, a4, a5⟩ := I.pin p hp
  have z : p.1 ≠ e := fun z => no (.inr (.inr (.inl ⟨p, hp, z⟩)))
  exact ⟨a1, by rw [qAa z]; exact a2, a3, a4, a5⟩
 ·by_cases hb : b = e
  ·subst hb
   rw [qA5] at q; cases q
   refine ⟨⟨ob, he, hc⟩, ⟨ob, he⟩, fun h1 h2 ⟨o, q1, q2⟩ k => ⟨o, k o q1, q2⟩⟩
  ·rw [qAa hb] at q
   exact (I.hok b u q).stay (fun _ _ _ z => z) (fun k z => by rw [qAa (qAw z hn)]; exact z) fun k xs z => by rw [qAa (qAw z hn)]; exact z
theorem Inv.gone {i t' : Nat} {n : Str} {h' : Heap} (I : Inv X pins σ H s) (hN : X.N.Nodup) (hi : X.N[i]? = some n) {m : Str → Option Value} {v : Option Value} (hl : ∀ (j : Nat) (y : Str) (w : V), X.N[j]? = some y → σ[j]? = some (some w) → Vis X.env.scope y → ∃ u, qAR w u ∧ qVr X.env s.heap m y u) (hv : h'.Ns X.env.locals fun y => if y = n then v else m y) (sb : Heap.SameBut X.env.locals s.heap h') :
  Inv X pins (σ.set i none) H { s with heap := h', toks := t' } := by
 have neL : ∀ b o, X.s₀.heap.get? b = some o → b ≠ X.env.locals := fun b o e => Nat.ne_of_lt (Nat.lt_of_lt_of_le (Heap.lt_size e) I.ok.above)
 have kp : ∀ b o, b ≠ X.env.locals → s.heap.get? b = some o → h'.get? b = some o := fun b o n e => (sb.2 b n).trans e
 refine ⟨I.ok, I.os, I.bare, ⟨fun b o e n hb hx => kp b o (neL b o e) (I.base.keep b o e n hb hx), fun b o e n hb hx => ?_, I.base.free, fun b o e hx => ?_, I.base.tups, I.base.frzs, I.base.tbls⟩, ⟨_, hv, fun j y w e1 e2 e3 => ?_⟩, fun x c e => ?_, I.free, I.freeC, fun p hp => ?_, fun b u q => ?_, by simpa using I.len⟩
 ·obtain ⟨sl, q⟩ := I.base.slot b o e n hb hx
  exact ⟨sl, kp b _ (neL b o e) q⟩
 ·obtain ⟨o', q⟩ := I.base.there b o e hx
  exact ⟨o', kp b o' (neL b o e) q⟩
 ·have hj : i ≠ j := fun z => by
   subst z
   by_cases hs : i < σ.length
   ·rw [List.getElem?_set_self hs] at e2; cases e2
   ·rw [List.getElem?_eq_none (by simp; omega)] at e2; cases e2
  rw [List.getElem?_set_ne hj] at e2
  obtain ⟨u, r, l⟩ := hl j y w e1 e2 e3
  refine ⟨u, r, ?_⟩
  rcases l with ⟨k, z⟩ | ⟨k, c, z, zc⟩
  ·refine .inl ⟨k, ?_⟩
   have : y ≠ n := fun z => hj (qLJ hN hi (z ▸ e1))
   simp [this, z]
  ·exact .inr ⟨k, c, z, zc.sameBut sb (I.cne y c z)⟩
 ·obtain ⟨w, z⟩ := I.cell x c e
  exact ⟨w, z.sameBut sb (I.cne x c e)⟩
 ·obtain ⟨e, n, ne, nf, d⟩ := I.pin p hp
  exact ⟨kp p.1 p.2 ne e, n, ne, nf, d⟩
 ·refine (I.hok b u q).stay (fun c w hc z => kp c w ?_ z) (fun _ z => z) fun _ _ z => z
  rintro rfl
  rcases hc with rfl | hc
  ·rw [I.free] at q; cases q
  ·rw [I.free] at hc; cases hc
theorem qQC {M : Model} {A : Around} {E : Value → Shared → Prop} {i : Nat} {n : Str} {pos : Pos} {Q : Unit → Shared → Prop} (I : Inv X pins σ H s) (hN : X.N.Nodup) (hi : X.N[i]? = some n) (hlo : X.env.scope.names.lookup n = some .local)
  (h : ∀ s', Inv X pins (σ.set i none) H s' → Q () s') : wpAny M A (do bindName X.env n .none; unbindBehindTheSuite X.env n pos) Q E s := by
 obtain ⟨m, hm, hl⟩ := id I.loc
 exact wpAny_nameGoes_keeps hlo hm (by rw [I.ok.kind]; rfl) fun h' v hv sb => h _ (Inv.gone I hN hi hl hv sb)
end
end DL
end
section
namespace DL
open PySem PySem.Spec PyProof.Rows L2
abbrev Cx.tryIn (X : Cx) (E : Value → Shared → Prop) (pn : List (Addr × Obj)) : Cx := { X with xe := E, pn := pn }
abbrev Cx.suite (X : Cx) (e : Addr) : Cx := Cx.re X (X.A.mark (some (.ref e))) false fun _ _ => False
noncomputable def qM6 (N i : Nat) (cs : List Value) (f g : DS) : DS := fun env S => match f env S with
 | .ex c x env1 S1 => if cs.contains c then (match g ((List.replicate N none).set i (some (.exn c))) S1 with
   | .rt d S2 => .rt d S2
   | .nx env2 S2 => .nx (env2.set i none) S2
   | _ => .bad) else .bad
 | o => o
section
variable {X : Cx} {pins : List (Addr × Obj)} {σ : L2.St} {H : Hp} {s : Shared}
theorem Inv.inTry (I : Inv X pins σ H s) (E : Value → Shared → Prop) : Inv (Cx.tryIn X E (X.pn ++ pins)) [] σ H s :=
 ⟨⟨I.ok.mod, I.ok.kind, I.ok.glob, I.ok.blt, I.ok.above, I.ok.inj, I.ok.has, I.ok.cab, I.ok.hd, I.ok.frames, I.ok.stk, I.ok.exf, I.ok.bs, I.ok.bsz, I.ok.noex, I.ok.exfs, I.ok.funs, I.ok.frf⟩, I.os, I.bare, I.base, I.loc, I.cell, I.free, I.freeC, fun p hp => I.pin p (by simpa using hp), I.hok, I.len⟩
theorem Inv.outTry {E : Value → Shared → Prop} {more : List (Addr × Obj)} (I : Inv (Cx.tryIn X E (X.pn ++ pins)) more σ H s) : Inv X pins σ H s :=
 ⟨⟨I.ok.mod, I.ok.kind, I.ok.glob, I.ok.blt, I.ok.above, I.ok.inj, I.ok.has, I.ok.cab, I.ok.hd, I.ok.frames, I.ok.stk, I.ok.exf, I.ok.bs, I.ok.bsz, I.ok.noex, I.ok.exfs, I.ok.funs, I.ok.frf⟩, I.os, I.bare, I.base, I.loc, I.cell, I.free, I.freeC, fun p hp => I.pin p (List.mem_append_left _ hp), I.hok, I.len⟩
theorem SP.outTry {E : Value → Shared → Prop} {D : Ends} {f : Flow} {s' : Shared} (h : SP (Cx.tryIn X E (X.pn ++ pins)) [] D f s') : SP X pins D f s' := by
 cases f with
 | next => obtain ⟨σ', H', I, q⟩ := h; exact ⟨σ', H', Inv.outTry I, q⟩
 | brk => obtain ⟨σ', H', I, q⟩ := h; exact ⟨σ', H', Inv.outTry I, q⟩
 | cont => obtain ⟨σ', H', I, q⟩ := h; exact ⟨σ', H', Inv.outTry I, q⟩
 | ret u => obtain ⟨v, σ', H', I, r, q⟩ := h; exact ⟨v, σ', H', Inv.outTry I, r, q⟩
theorem FlyX.outTry {E : Value → Shared → Prop} {more : List (Addr × Obj)} {c : Value} {e : Addr} {h : Heap} (f : FlyX (Cx.tryIn X E (X.pn ++ pins)) more H c e h) : FlyX X pins H c e h := by
 have old : ∀ b, Old X pins H b → Old (Cx.tryIn X E (X.pn ++ pins)) more H b := fun b o => by
  rcases o with o | o | ⟨p, hp, z⟩ | o
  ·exact .inl o
  ·exact .inr (.inl o)
  ·exact .inr (.inr (.inl ⟨p, List.mem_append_left _ hp, z⟩))
  ·exact .inr (.inr (.inr o))
 cases f with
 | new g args hm hf hk => exact .new g args hm hf fun b o e q => hk b o e (old b q)
 | fly B a0 fl cv => exact .fly B a0 fl fun b o e q n => cv b o e (old b q) n
theorem qSI {K : PySem.W.Frag} {P : Hp} {α : List Addr} {σ : L2.St} {n : Nat} (h : σ.length = n) : qAu K P α σ (List.replicate n none) := by
 refine ⟨by simp [h], fun i d e => ?_⟩
 rw [List.getElem?_replicate] at e
 split at e <;> cases e
theorem qAu.unset {K : PySem.W.Frag} {P : Hp} {α : List Addr} {σ : L2.St} {env : qAI} (re : qAu K P α σ env) (i : Nat) : qAu K P α (σ.set i none) (env.set i none) := by
 refine ⟨by simp [re.1], fun j d e => ?_⟩
 by_cases hj : i = j
 ·subst hj
  by_cases hi : i < env.length
  ·rw [List.getElem?_set_self hi] at e; cases e
  ·rw [List.getElem?_eq_none (by simp; omega)] at e; cases e
 ·rw [List.getElem?_set_ne hj] at e ⊢
  exact re.2 j d e
end
section
variable {X : Cx} {pos : Pos} {f g : DS}
theorem qWn {pins : List (Addr × Obj)} {D : Ends} {c : Value} {e C0 : Addr} {s' : Shared} {σ : L2.St} {H P : Hp} {α : List Addr} {S1 : Sto} {x n : Str} {i : Nat} {b₀ : Stmt} {suite : List Stmt} {np hpos : Pos} {cs : List Value}
  (F : Fn1 X) (hg : Gl X x) (hm : X.mg x = some (.ref C0)) (hcs : ∀ c ∈ cs, PySem.W.exmOne X.K c (.ref C0) = some true) (hN : X.N.Nodup) (hi : X.N[i]? = some n) (hlo : X.env.scope.names.lookup n = some .local)
  (hs : ∀ e, PSs (Cx.suite X e) (b₀ :: suite) (tDS (Cx.suite X e) g)) (hc : cs.contains c = true) (I : Inv X pins σ H s') (r : Rel X.K H P α S1) (fl : FlyX X pins H c e s'.heap)
  (af : qAi X P α (match g ((List.replicate X.N.length none).set i (some (.exn c))) S1 with | .rt d S2 => .rt d S2 | .nx env2 S2 => .nx (env2.set i none) S2 | _ => .bad) D) (hdb : (x == ("__debug__" : Str)) = false) :
  wpAny (model X.prog X.w) X.A (noteFrame (.ref e) X.env) (fun _ s₂ => wpAny (model X.prog X.w) X.A (setFlight (.ref e) none) (fun _ s₃ =>
   wpAny (model X.prog X.w) X.A (handleBy (.ref e) X.env [.ExceptHandler (some (.Name x np)) (some n) (b₀ :: suite) hpos]) (SP X pins D) X.xe s₃) X.xe s₂) X.xe s' := by
 have hcs' : PySem.W.exmOne X.K c (.ref C0) = some true := hcs c (by simpa using hc)
 have Z : ∀ {σ : L2.St} {H : Hp} {s : Shared}, Inv X pins σ H s → Inv (Cx.suite X e) pins σ H s := fun I => Inv.re I _ false _ I.ok.frames fun z => nomatch z
 refine qTH I F I.ok.frames fl fun h5 B a0 f5 I5 cv5 => ?_
 refine wpAny_handleBy_cons (codeAny_handlers_test (A := X.A.mark (some (.ref e))) (qIA (X := Cx.suite X e) (Z I5) hg hm ?_ hdb)) (by intro q; cases q)
 obtain ⟨no5, nf5, ob5, he5, hc5⟩ := qQB I5 F f5 cv5
 refine (PySem.W.exm_one I5.kIn (by subst hc5; exact (PySem.W.Looks.ld he5).andThen .now) hcs').at ?_
 refine codeAny_handlers_suite_as ?_
 refine lands_againW (s := { s' with heap := h5 }) f5 fun h6 f6 u6 => ?_
 obtain ⟨I6, cv6⟩ := Inv.fly I5 F cv5 f6.1 u6
 obtain ⟨no6, nf6, ob6, he6, hc6⟩ := qQB I6 F f6 cv6
 have J6 : Inv X pins σ (upd H e (qOZ e c)) { s' with heap := h6 } := Inv.track I6 F no6 nf6 he6 hc6
 have hn : H e = none := by
  cases q : H e with
  | none => rfl
  | some u => exact absurd (.inr (.inl (by rw [q]; intro z; cases z))) no6
 obtain ⟨r1, sP⟩ := r.pure (o := qOZ e c) hn
 refine qC8 (X := Cx.suite X e) (v := .ref e) (Z J6) hN hi (.inl hlo) rfl (fun s7 I7 => ?_) (.inr hlo)
 have re7 : qAu X.K (upd P e (qOZ e c)) α (σ.set i (some (.ref e))) ((List.replicate X.N.length none).set i (some (.exn c))) := (qSI I.len).set i (by simp only [Rep]; exact ⟨e, rfl, qA5⟩)
 refine wpAny_mono (hs e pins s7 _ _ { nx := fun σ' H' => D.nx (σ'.set i none) H', rt := D.rt } I7 ⟨_, α, _, S1, r1, re7, ?_⟩) (fun fl s8 q => ?_) fun _ _ z => False.elim z
 ·cases q : g ((List.replicate X.N.length none).set i (some (.exn c))) S1 with
  | rt d S2 => rw [q] at af; exact fun v H' P' α' r' e1 e2 rp => af v H' P' α' r' (sP.trans e1) e2 rp
  | nx env2 S2 => rw [q] at af; exact fun σ' H' P' α' r' re' e1 e2 => af _ H' P' α' r' (qAu.unset re' i) (sP.trans e1) e2
  | bk env2 S2 => rw [q] at af; exact False.elim af
  | ct env2 S2 => rw [q] at af; exact False.elim af
  | ex c' x' env2 S2 => rw [q] at af; exact False.elim af
  | bad => rw [q] at af; exact False.elim af
 ·cases fl with
  | next =>
   obtain ⟨σ', H', I8, q⟩ := q
   exact qQC (Inv.unre I8 I.ok.frames I.ok.hd) hN hi hlo fun s9 I9 => ⟨_, H', I9, q⟩
  | brk =>
   obtain ⟨_, _, _, q⟩ := q
   exact False.elim q
  | cont =>
   obtain ⟨_, _, _, q⟩ := q
   exact False.elim q
  | ret u =>
   obtain ⟨v, σ', H', I8, rv, q⟩ := q
   exact qQC (Inv.unre I8 I.ok.frames I.ok.hd) hN hi hlo fun s9 I9 => ⟨v, _, H', I9, rv, q⟩
set_option tactic.hygienic true in
theorem qWZ {x n : Str} {C0 : Addr} {i : Nat} {body : List Stmt} {b₀ : Stmt} {suite : List Stmt} {np hpos : Pos} {cs : List Value} (F : Fn1 X) (hb : ∀ E pn, PassesOwn (model X.prog X.w) X.A X.env E → PSs (Cx.tryIn X E pn) body (tDS (Cx.tryIn X E pn) f))
  (hs : ∀ e, PSs (Cx.suite X e) (b₀ :: suite) (tDS (Cx.suite X e) g)) (hg : Gl X x) (hm : X.mg x = some (.ref C0)) (hcs : ∀ c ∈ cs, PySem.W.exmOne X.K c (.ref C0) = some true) (hN : X.N.Nodup) (hi : autoParam (X.N[i]? = some n) au3._auto_1) (hlo : autoParam (X.env.scope.names.lookup n = some .local) au3._auto_1)
  (hdb : autoParam ((x == ("__debug__" : Str)) = false) au2._auto_1) : PS X (.Try body [.ExceptHandler (some (.Name x np)) (some n) (b₀ :: suite) hpos] [] [] pos) (tDS X (qM6 X.N.length i cs f g)) := by
 intro pins s σ H D I h
 obtain ⟨P, α, env, S, r, re, af⟩ := h
 refine wpAny_Try_except ?_
 refine wpAny_mono (hb _ (X.pn ++ pins) (PassesOwn.looking (K := fun e s₂ => wpAny (model X.prog X.w) X.A (setFlight e none) (fun _ s₃ => wpAny (model X.prog X.w) X.A (handleBy e X.env [.ExceptHandler (some (.Name x np)) (some n) (b₀ :: suite) hpos]) (SP X pins D) X.xe s₃) X.xe s₂) (E₁ := X.xe))
  [] s σ H D (Inv.inTry I _) ⟨P, α, env, S, r, re, ?_⟩) (fun fl s1 q => ?_) fun _ _ z => z
 ·unfold qM6 at af
  cases q : f env S with
  | rt d S2 => rw [q] at af; exact af
  | nx env2 S2 => rw [q] at af; exact af
  | bk env2 S2 => rw [q] at af; exact af
  | ct env2 S2 => rw [q] at af; exact af
  | bad => rw [q] at af; exact af
  | ex c x' env2 S2 =>
   rw [q] at af
   dsimp only at af
   intro u s' k
   obtain ⟨e, pins', σ', H', P', α', rfl, I', r', e1, e2, F', fl⟩ := k
   split at af
   ·rename_i hc
    exact qWn F hg hm hcs hN hi hlo hs hc (Inv.outTry I') r' (FlyX.outTry fl) (qAi.base e1 e2 af) hdb
   ·exact False.elim af
 ·have q' := SP.outTry q
  cases fl with
  | next => exact wpAny_execs_nil q'
  | brk => exact q'
  | cont => exact q'
  | ret u => exact q'
end
end DL
end
section
namespace DL
open PySem PySem.Spec PyProof.Rows L2 PySem.W
structure ExnK (K : PySem.W.Frag) (C : Addr) : Prop where
 ga : findIn K (.ref C) "__getattribute__" = some (some (.builtin "BaseException.__getattribute__"))
 hk : findIn K (.ref C) "__getattr__" = some none
 cl : findIn K (.ref C) "__class__" = some (some (.builtin "object.__class__"))
 sp : specialIn K (.builtin "object.__class__") "__get__" = some (some (.builtin "getset_descriptor.__get__"))
 tk : takesIn K (.builtin "object.__class__") = some true
 mo : mroIn K C (.type "object") = some true
 mb : mroIn K C (.type "BaseException") = some true
 isC : (clsIn K C).isSome = true
section
variable {prog : Program} {w : World} {A : Around} {E : Value → Shared → Prop} {s : Shared} {K : PySem.W.Frag} {x C : Addr}
abbrev qFP (x C : Addr) (h : Heap) : Prop := ∃ ob, h.get? x = some ob ∧ ob.cls = .ref C
theorem qFP.type {M : Model} {h : Heap} (I : qFP x C h) : Looks M h (typeOf (.ref x)) (.ref C) := by
 obtain ⟨ob, e, c⟩ := I
 rw [← c]
 exact (Looks.ld e).andThen .now
theorem qS0 {M : Model} {h : Heap} (X : K.In h) (Z : ExnK K C) : Looks M h (Builtin.ObjectAttr.find (.ref x) (.ref C) "__class__") (.bind (.builtin "getset_descriptor.__get__") (.builtin "object.__class__")) := by
 have l1 := looks_findIn (M := M) X Z.cl
 have l2 : Looks M h (Builtin.ObjectAttr.getOf (some (.builtin "object.__class__"))) (some (.builtin "getset_descriptor.__get__")) := looks_specialIn X Z.sp
 have l3 := looks_takesIn (M := M) X Z.tk
 have l4 : Looks M h (Builtin.ObjectAttr.dataDescriptor? (some (.builtin "object.__class__")) (some (.builtin "getset_descriptor.__get__"))) (some (.builtin "getset_descriptor.__get__", .builtin "object.__class__")) := l3.andThen .now
 exact l1.andThen (l2.andThen (l4.andThen (Looks.tag .now)))
theorem qUl {R : Result → Shared → Prop} {tp : Value} (X : K.In s.heap) (Z : ExnK K C) (I : qFP x C s.heap) (h : R (.ok (.ret (.ref C))) s) :
  codeAny (model prog w) A (.call (.builtin "getset_descriptor.__get__") ⟨[.builtin "object.__class__", .ref x, tp], []⟩) R s := by
 have LT := qFP.type (M := model prog w) I
 have LM := looks_mroIn (M := model prog w) X Z.mo
 cases s
 refine codeAny_call_builtin KF.slot_gs.plain KF.entry_gs (KF.slot_gs.check _ _ _ _ _ _ _ _ KF.type_class (KF.args_gs _ _ _) ?_)
 unfold Builtin.«getset_descriptor.__get__» Builtin.Getset_descriptor.descrGet
 rw [dga_obj]
 refine wpAny_bind (wpAny_pure ?_)
 unfold Builtin.Getset_descriptor.descrGetter Builtin.Getset_descriptor.descrCheckInstance Builtin.Getset_descriptor.descrNameAndClass isInstance
 simp only [KF.owner_class]
 repeat lk
 refine ⟨Code.quiet_builtin _ (by decide +kernel), codeAny_builtin KF.entry_class ?_⟩
 unfold Builtin.«object.__class__» shownTypeOf
 repeat lk
 exact h
theorem qWf {tk : Tok} {R : Result → Shared → Prop} (X : K.In s.heap) (Z : ExnK K C) (I : qFP x C s.heap) (h : R (.ok (.ret (.ref C))) s) :
  codeAny (model prog w) A (.call (.builtin "BaseException.__getattribute__") ⟨[.ref x, .str "__class__" tk], []⟩) R s := by
 have LT := qFP.type (M := model prog w) I
 have LM := looks_mroIn (M := model prog w) X Z.mb
 have LF := qS0 (M := model prog w) (x := x) X Z
 have hk : builtinKind "BaseException.__getattribute__" = some .slot := by decide +kernel
 have hsp : splitId "BaseException.__getattribute__" = some ("BaseException", "__getattribute__") := by decide +kernel
 have chk : ∀ (A : Around) (Q : Unit → Shared → Prop) (E : Value → Shared → Prop), Q () s → wpAny (model prog w) A (checkBuiltinCall "BaseException.__getattribute__" ⟨[.ref x, .str "__class__" tk], []⟩) Q E s := by
  intro A Q E hq
  have ha := PySem.F.args_bexc_ga (.ref x) (.str "__class__" tk)
  simp only [checkBuiltinCall, hk, hsp]
  unfold isInstance
  refine wpAny_bind (wpAny_bind (LT.here (LM.here ?_)))
  repeat (any_goals (first | assumption | wp_step))
 refine codeAny_call_builtin PySem.F.attr_ValueError.ga.plain PySem.F.entry_bexc_ga (chk _ _ _ ?_)
 cases s
 unfold Builtin.«object.__getattribute__»
 refine wpAny_bind (wpAny_of_eq (show slotArgs "__getattribute__" 1 ⟨[.ref x, .str "__class__" tk], []⟩ = pure (.ref x, [.str "__class__" tk]) from by kernel_rfl) ?_)
 refine wpAny_bind (wpAny_pure (wpAny_bind (LT.at (wpAny_bind (LF.at ?_)))))
 show wpAny _ _ (Builtin.ObjectAttr.bindTo _ _ _ _) _ _ _
 unfold Builtin.ObjectAttr.bindTo
 dsimp only
 exact wpAny_bind (wpAny_holding (wpAny_call (qUl X Z I (wpAny_pure h))))
theorem qRh {Q : Option Value → Shared → Prop} (X : K.In s.heap) (Z : ExnK K C) (I : qFP x C s.heap) (h : Q (some (.ref C)) { s with toks := s.toks + 1 }) : wpAny (model prog w) A (getAttr? (.ref x) "__class__") Q E s := by
 have LT := qFP.type (M := model prog w) I
 have L1 := looks_findIn (M := model prog w) X Z.ga
 have L2 := looks_findIn (M := model prog w) X Z.hk
 unfold getAttr? getAttrBy? getAttrBy
 cases s
 refine wpAny_bind (wpAny_mkText (wpAny_bind (wpAny_attempt (wpAny_holding (wpAny_bind (LT.at (wpAny_bind (L1.at ?_))))))))
 dsimp only
 have hx2 : (Value.builtin "BaseException.__getattribute__" == Value.builtin "object.__getattribute__") = false := by decide +kernel
 rw [hx2, Bool.and_false, if_neg Bool.false_ne_true]
 unfold getAttrByItsOwn hookBefore
 rw [if_pos (show onTheHeap (.ref C) = true from rfl)]
 refine wpAny_bind (L2.at (wpAny_bind (wpAny_attempt (wpAny_holding ?_))))
 unfold callGetattribute
 rw [Bool.false_and, if_neg Bool.false_ne_true]
 unfold boundAndCalled
 refine wpAny_bind (wpAny_of_eq (PySem.F.attr_ValueError.ga.bind (.ref x)) ?_)
 refine wpAny_call (qWf X Z I ?_)
 show wpAny _ _ (handedOut (.ref C)) _ _ _
 exact wpAny_pure (wpAny_pure h)
set_option tactic.hygienic true in
theorem qOm (Z : ExnK K C) : KitX K (.ref x) (.ref C) (qFP x C) where
 ty := fun _ _ _ I => I.type
 it := fun M h X _ => by
  have z := Z.isC
  unfold clsIn at z
  split at z
  ·rename_i ho
   intro A' Q' E' s' k q
   unfold isType loadHead
   exact wpAny_bind (wpAny_loadPart (k _ _ (X _ _ ho)) (wpAny_pure q))
  ·cases z
 ne := fun h tp dd its n sl X htp => by
  have z := Z.isC
  unfold clsIn at z
  split at z
  ·rename_i ho
   cases hq : (Value.ref C == Value.ref tp) with
   | false => rfl
   | true =>
    obtain rfl : C = tp := Value.ref.inj (beq_iff_eq.mp hq)
    have y := (X _ _ ho).symm.trans htp
    cases y
  ·cases z
 ca := fun X I k => qRh X Z I k
end
end DL
end
section
namespace DL
open PySem PySem.Spec PyProof.Rows L2
section
variable {X : Cx}
structure ClsK (K : PySem.W.Frag) (cl : List Addr) : Prop where
 ex : ∀ C ∈ cl, ExnK K C
 one : ∀ C ∈ cl, ∀ B ∈ cl, PySem.W.kitOne K (.ref C) (.ref B) = some (C == B)
 ve : ∀ C ∈ cl, PySem.W.kitOne K (.ref C) (.type "ValueError") = some true
noncomputable def qBy (cl : List Addr) : DF := fun ds S => match ds with
 | [.exn (.ref C), .obj B] => if cl.contains C && cl.contains B then .ok (.bl (C == B)) S else .bad
 | [.exn (.ref C), .ty b] => if cl.contains C && (b == "ValueError") then .ok (.bl true) S else .bad
 | _ => qBI ds S
theorem qRg {pins : List (Addr × Obj)} {σ : L2.St} {H P : Hp} {α : List Addr} {S : Sto} {s : Shared} {C : Addr} {v : V} {u : Value} (I : Inv X pins σ H s) (r : Rel X.K H P α S) (p : Rep X.K P α (.exn (.ref C)) v) (q : qAR v u) : ∃ a, u = .ref a ∧ qFP a C s.heap := by
 simp only [Rep] at p
 obtain ⟨a, rfl, z⟩ := p
 obtain ⟨y, _⟩ := I.hok a _ (r.sub _ _ z)
 exact ⟨a, q, y⟩
set_option tactic.hygienic true in
theorem qUG {cl : List Addr} (hK : ClsK X.K cl) : qF9 X (.builtin "isinstance") (qBy cl) := by
 intro pins σ H s P α S vs us ds Q I r rv rp af
 unfold qBy at af
 split at af
 ·rename_i C B
  split at af
  ·rename_i h
   simp only [Bool.and_eq_true, List.contains_iff_mem] at h
   obtain ⟨v, w, u, x, rfl, rfl, p, p', q, q'⟩ := qKA rp rv
   simp only [Rep] at p'
   obtain ⟨rfl, _⟩ := p'
   cases (show x = Value.ref B from q')
   obtain ⟨a, rfl, ha⟩ := qRg I r p q
   exact PySem.W.kia_one (qOm (hK.ex C h.1)) I.kIn ha (hK.one C h.1 B h.2) (fun z => nomatch z) fun tk => ⟨.bl _, H, I.tok tk, rfl, xr af r (by simp only [Rep])⟩
  ·exact False.elim af
 ·rename_i C b
  split at af
  ·rename_i h
   simp only [Bool.and_eq_true, List.contains_iff_mem, beq_iff_eq] at h
   obtain ⟨v, w, u, x, rfl, rfl, p, p', q, q'⟩ := qKA rp rv
   simp only [Rep] at p'
   subst p'
   obtain ⟨h1, rfl⟩ := h
   cases (show x = Value.type "ValueError" from q')
   obtain ⟨a, rfl, ha⟩ := qRg I r p q
   exact PySem.W.kia_one (qOm (hK.ex C h1)) I.kIn ha (hK.ve C h1) (fun z => nomatch z) fun tk => ⟨.bl _, H, I.tok tk, rfl, xr af r (by simp only [Rep])⟩
  ·exact False.elim af
 ·exact qRN pins σ H s P α S vs us ds Q I r rv rp af
noncomputable def MtD (X : Cx) (id : String) (g : D → List D → Sto → Res D) : Prop :=
 ∀ (pins : List (Addr × Obj)) (σ : L2.St) (H : Hp) (s : Shared) (P : Hp) (α : List Addr) (S : Sto) (v : V) (vv : Value) (vs : List V) (us : List Value) (a : D) (ds : List D) (Q : VK), Inv X pins σ H s → Rel X.K H P α S → qAR v vv → Rep X.K P α a v → qAZ vs us → qAL X.K P α ds vs → qAp X P α (g a ds S) Q →
  wpAny (model X.prog X.w) X.A (call (.builtin id) (vv :: us)) (EP X pins σ Q) X.xe s
noncomputable def dBm (T : String) (g : D → List D → Sto → Res D) (fo : DE) (fa : DA) : DE := fun env S => (fo env S).bind fun a S1 => if (tyD a S1 == some T) = true then (fa env S1).bind fun ds S2 => g a ds S2 else .bad
set_option tactic.hygienic true in
theorem qST {H P : Hp} {α : List Addr} {S : Sto} {a : D} {v : V} {T : String} (r : Rel X.K H P α S) (p : Rep X.K P α a v) (h : tyD a S = some T) (hT : T = "list" ∨ T = "dict" ∨ T = "int" ∨ T = "str") : tyV X.K T v H := by
 cases a with
 | int i => cases h; simp only [Rep] at p; subst p; rfl
 | str x => cases h; simp only [Rep] at p; subst p; rfl
 | lst xs =>
  cases h
  simp only [Rep] at p
  obtain ⟨b, vs, rfl, q, t⟩ := p
  exact .inl ⟨rfl, vs, (qC5 r.sub q).l⟩
 | dct0 =>
  cases h
  simp only [Rep] at p
  obtain ⟨b, rfl, q⟩ := p
  exact .inr (.inr (.inl ⟨rfl, .inl ⟨[], r.sub _ _ q⟩⟩))
 | loc i =>
  simp only [Rep] at p
  obtain ⟨b, rfl, q⟩ := p
  simp only [tyD] at h
  split at h
  ·rename_i xs hS
   cases h
   obtain ⟨vs, z, t⟩ := r.at' i b _ q hS
   exact .inl ⟨rfl, vs, SqL.of z⟩
  ·rename_i kvs hS
   cases h
   obtain ⟨vs, z, t⟩ := r.at' i b _ q hS
   exact .inr (.inr (.inl ⟨rfl, .inl ⟨vs, z⟩⟩))
  ·cases h
 | non => cases h; rcases hT with z | z | z | z <;> exact absurd z (by decide)
 | bl b => cases h; rcases hT with z | z | z | z <;> exact absurd z (by decide)
 | tup xs => cases h; rcases hT with z | z | z | z <;> exact absurd z (by decide)
 | ty n => cases h
 | obj a => cases h
 | exn c => cases h
 | fd ks ds => cases h
variable {o e : Expr} {es : List Expr} {fo : DE} {fa : DA} {name : Str} {apos cpos : Pos} {T id : String} {g : D → List D → Sto → Res D}
theorem qV7 {P : Hp} {α : List Addr} {a : D} {S : Sto} {β : Type} {k : Res β} {Ok : β → Sto → Prop} (h : qAY X P α (if (tyD a S == some T) = true then k else .bad) Ok) : tyD a S = some T ∧ qAY X P α k Ok := by
 by_cases z : (tyD a S == some T) = true
 ·rw [if_pos z] at h; exact ⟨beq_iff_eq.mp z, h⟩
 ·rw [if_neg z] at h; exact False.elim h
theorem qX8 (pa : PlainAttrs T) (slot : Slot T name id) (hty : typeOf (.builtin id) = pure (.type "method_descriptor")) (hT : T = "list" ∨ T = "dict" ∨ T = "int" ∨ T = "str") (hm : MtD X id g) (ho : PE X o (tD X fo)) (ha : PA X (e :: es) (tDA X fa))
  (hbase : autoParam (attributeBase o name X.env (eval o X.env) = eval o X.env) au3._auto_1)
  (hfew : autoParam (((backTo cpos (starEach (e :: es) X.env)).all (fun x => !x.1) && (backToKw cpos (keywordEach [] X.env)).all (fun x => x.1.isSome)
   && decide ((e :: es).length + ([] : List Keyword).length + (if ([] : List Keyword).isEmpty then 0 else 1) < 30)) = true) au3._auto_1)
  (hline : autoParam ((apos.endLine == cpos.line) = true) au3._auto_1) (hs : autoParam (starEach (e :: es) X.env = (false, eval e X.env) :: starEach es X.env) au3._auto_1) (hplain : autoParam ((backTo cpos (starEach es X.env)).any (·.1) = false) au3._auto_1) :
  PE X (.Call (.Attribute o name apos) (e :: es) [] cpos) (tD X (dBm T g fo fa)) := by
 intro pins s σ H Q I h
 obtain ⟨P, α, env, S, r, re, af⟩ := h
 refine wpAny_Call_method_late hbase hfew hline rfl (thn (qBd ho I r re af) fun vv s1 ⟨v, H1, P1, α1, d, S1, G1, af1⟩ => ?_)
 obtain ⟨ht, af2⟩ := qV7 af1
 obtain ⟨h1, h2⟩ := qSS G1.inv G1.val (qST G1.rel G1.rep ht hT)
 refine ⟨T, id, pa, slot, hty, h1, h2, ?_⟩
 have hA := qDx ha G1.inv G1.rel G1.env (P := P1) (α := α1) (Ok := OkV X P1 α1 Q) (qAp.base G1.same G1.pre (r := (fa env S1).bind fun ds S2 => g d ds S2) af2) cpos
 rw [hs] at hA ⊢
 refine Calls.callWith_builtin (by show (false || (backTo cpos (starEach es X.env)).any (·.1)) = false; rw [hplain] <;> rfl) (Calls.evalArgs_plain ?_)
 exact thn hA fun us s2 ⟨vs, H2, P2, α2, ds, S2, I2, rv, r2, re2, rp2, e1, e2, af3⟩ => hm pins σ H2 s2 P2 α2 S2 v vv vs us d ds Q I2 r2 G1.val (Rep.mono e1 e2 _ _ G1.rep) rv rp2 (qAp.base e1 e2 af3)
noncomputable def qZp (T : String) (g : D → List D → Sto → Res D) (fo : DE) : DE := fun env S => (fo env S).bind fun a S1 => if (tyD a S1 == some T) = true then g a [] S1 else .bad
noncomputable def qCm : D → List D → Sto → Res D := fun a ds S => match a, ds with
 | .loc i, [d] => match S[i]? with
  | some (.lst xs) => if xs.length < lim then .ok .non (S.set i (.lst (xs ++ [d]))) else .bad
  | _ => .bad
 | _, _ => .bad
set_option tactic.hygienic true in
theorem qRx : MtD X "list.append" qCm := by
 intro pins σ H s P α S v vv vs us a ds Q I r rv p rvs rps af
 unfold qCm at af
 split at af
 ·rename_i i d
  split at af
  ·rename_i xs hS
   split at af
   ·rename_i hl
    obtain ⟨w, u, rfl, rfl, p', q'⟩ := qJ9 rps rvs
    simp only [Rep] at p
    obtain ⟨b, rfl, q⟩ := p
    obtain ⟨ws, z, t⟩ := r.at' i b _ q hS
    refine qRz pins s σ H (.ref b) [w] vv [u] Q I rv (.cons q' .nil) ⟨b, ws, w, rfl, rfl, z, by rw [← t.length, ← qBg]; exact hl, ?_⟩
    exact xr af (r.put (m' := .lst (xs ++ [d])) q hS (by intro z; cases z) ⟨ws ++ [w], qA5, t.append (.cons p' .nil)⟩) (by simp only [Rep])
   ·exact False.elim af
  ·exact False.elim af
 ·exact False.elim af
end
end DL
end
section
namespace DL
open PySem PySem.Spec PyProof.Rows L2
noncomputable def qK7 : D → Option Key
 | .int i => some (.inl i)
 | .str x => some (.inr x)
 | _ => none
noncomputable def qB8 (kvs : List (Key × D)) (k : Key) : Option D := (kvs.find? fun kv => decide (kv.1 = k)).map (·.2)
noncomputable def qLP (kvs : List (Key × D)) (k : Key) (v : D) : List (Key × D) :=
 if (kvs.any fun kv => decide (kv.1 = k)) = true then kvs.map (fun kv => if kv.1 = k then (kv.1, v) else kv) else kvs ++ [(k, v)]
section
variable {K : PySem.W.Frag} {P : Hp} {α : List Addr}
theorem qU7 {kvs : List (Key × D)} {vs : List (Key × V)} (r : KVs K P α kvs vs) : kvs.length = vs.length := Paired.length r
theorem qQL {k : Key} : ∀ {kvs : List (Key × D)} {vs : List (Key × V)}, KVs K P α kvs vs → (∀ d, qB8 kvs k = some d → ∃ v, qDQ vs k = some v ∧ Rep K P α d v) ∧ (qB8 kvs k = none → qDQ vs k = none)
 | _, _, .nil => ⟨fun d h => by simp [qB8] at h, fun _ => rfl⟩
 | (k1, d1) :: kvs, (k2, v2) :: vs, .cons z t => by
  obtain ⟨e, r⟩ := z
  dsimp only at e r
  subst e
  obtain ⟨h1, h2⟩ := qQL (k := k) t
  unfold qB8 qDQ at *
  by_cases hk : k1 = k
  ·subst hk
   constructor
   ·intro d h
    simp at h
    subst h
    exact ⟨v2, by simp, r⟩
   ·intro h
    simp at h
  ·constructor
   ·intro d h
    rw [List.find?_cons_of_neg (by simpa using hk)] at h ⊢
    exact h1 d h
   ·intro h
    rw [List.find?_cons_of_neg (by simpa using hk)] at h ⊢
    exact h2 h
theorem qQH {k : Key} : ∀ {kvs : List (Key × D)} {vs : List (Key × V)}, KVs K P α kvs vs → (kvs.any fun kv => decide (kv.1 = k)) = (vs.any fun kv => decide (kv.1 = k))
 | _, _, .nil => rfl
 | (k1, d1) :: kvs, (k2, v2) :: vs, .cons z t => by
  obtain ⟨e, r⟩ := z
  dsimp only at e r
  subst e
  rw [List.any_cons, List.any_cons, qQH t]
theorem qQJ {k : Key} {d : D} {v : V} (q : Rep K P α d v) : ∀ {kvs : List (Key × D)} {vs : List (Key × V)}, KVs K P α kvs vs → KVs K P α (kvs.map fun kv => if kv.1 = k then (kv.1, d) else kv) (vs.map fun kv => if kv.1 = k then (kv.1, v) else kv)
 | _, _, .nil => .nil
 | (k1, d1) :: kvs, (k2, v2) :: vs, .cons z t => by
  obtain ⟨e, r⟩ := z
  dsimp only at e r
  subst e
  rw [List.map_cons, List.map_cons]
  refine .cons ?_ (qQJ q t)
  by_cases hk : k1 = k
  ·simp only [if_pos hk]; exact ⟨trivial, q⟩
  ·simp only [if_neg hk]; exact ⟨trivial, r⟩
theorem qQI {k : Key} {d : D} {v : V} (q : Rep K P α d v) : ∀ {kvs : List (Key × D)} {vs : List (Key × V)}, KVs K P α kvs vs → KVs K P α (kvs ++ [(k, d)]) (vs ++ [(k, v)])
 | _, _, .nil => .cons ⟨rfl, q⟩ .nil
 | _, _, .cons z t => .cons z (qQI q t)
theorem qU8 {k : Key} {d : D} {v : V} (q : Rep K P α d v) {kvs : List (Key × D)} {vs : List (Key × V)} (r : KVs K P α kvs vs) : KVs K P α (qLP kvs k d) (qFG vs k v) := by
 unfold qLP qFG
 rw [qQH r]
 split
 ·exact qQJ q r
 ·exact qQI q r
theorem qOk {d : D} {k : Key} {v : V} (h : qK7 d = some k) (r : Rep K P α d v) : v = kV k := by
 cases d with
 | int i => cases h; simp only [Rep] at r; exact r
 | str x => cases h; simp only [Rep] at r; exact r
 | _ => cases h
end
section
variable {X : Cx} {o i e : Expr} {pos : Pos} {fo fi : DE}
noncomputable def qON : DE := fun _ S => .ok (.loc S.length) (S ++ [.dct []])
theorem qWB : PE X (.Dict [] [] pos) (tD X qON) := by
 refine peW qTO fun σ H Q ⟨P, α, env, S, r, re, af⟩ p hp => ?_
 have hpre : α <+: α ++ [p] := List.prefix_append _ _
 have r1 := r.new (o := .dK []) (m := .dct []) hp ⟨[], qA5, .nil⟩
 refine af _ _ _ _ r1 (qAJ.refl _) hpre ?_
 simp only [Rep]
 exact ⟨p, rfl, by rw [← r.len]; simp⟩
noncomputable def qDX : G3 := fun o i d S => match o with
 | .loc n => match S[n]? with
  | some (.dct kvs) => match qK7 i with
   | some k => if kvs.length < lim then .ok () (S.set n (.dct (qLP kvs k d))) else .bad
   | none => .bad
  | _ => qOb o i d S
 | _ => qOb o i d S
set_option tactic.hygienic true in
theorem qXq (hu : X.A.units + 1 < cLine) : qN2 X (qN0 X qDX) := by
 intro pins s σ H o i v ov iv u Q I ro ri rv h
 obtain ⟨P, α, S, a, b, d, r, pa, pb, pd, af⟩ := h
 have other : qAY X P α (qOb a b d S) (OkU X P α Q) → wpAny (model X.prog X.w) X.A (setItem ov iv u) (fun _ s' => ∃ H', Inv X pins σ H' s' ∧ Q H') X.xe s := fun af => qYv pins s σ H o i v ov iv u Q I ro ri rv ⟨P, α, S, a, b, d, r, pa, pb, pd, af⟩
 unfold qDX at af
 split at af
 ·rename_i n
  split at af
  ·rename_i kvs hS
   split at af
   ·rename_i k hk
    split at af
    ·rename_i hl
     simp only [Rep] at pa
     obtain ⟨p, rfl, q⟩ := pa
     obtain ⟨vs, z, t⟩ := r.at' n p _ q hS
     have ei := qOk hk pb
     subst ei
     cases (show ov = Value.ref p from ro)
     refine qRR hu I (qQi.k (v := v) z (by rw [← qU7 t, ← qBg]; exact hl)) ri rv fun s' I' => ⟨_, I', ?_⟩
     exact af _ P α (r.put (m' := .dct (qLP kvs k d)) q hS (by intro z; cases z) ⟨_, qA5, qU8 pd t⟩) (qAJ.refl _) (List.prefix_refl _)
    ·exact False.elim af
   ·exact False.elim af
  ·exact other af
 ·exact other af
noncomputable def qIg : D → List D → Sto → Res D := fun a ds S => match a, ds with
 | .loc n, [i, x] => match S[n]? with
  | some (.dct kvs) => match qK7 i with
   | some k => .ok ((qB8 kvs k).getD x) S
   | none => .bad
  | _ => .bad
 | _, _ => .bad
set_option tactic.hygienic true in
theorem qWz (hu : X.A.units + 1 < cLine) : MtD X "dict.get" qIg := by
 intro pins σ H s P α S v vv vs us a ds Q I r rv p rvs rps af
 unfold qIg at af
 split at af
 ·rename_i n i x
  split at af
  ·rename_i kvs hS
   split at af
   ·rename_i k hk
    obtain ⟨vi, vx, ui, ux, rfl, rfl, pi, px, qi, qx⟩ := qKA rps rvs
    simp only [Rep] at p
    obtain ⟨b, rfl, q⟩ := p
    obtain ⟨ws, z, t⟩ := r.at' n b _ q hS
    have ei := qOk hk pi
    subst ei
    cases (show vv = Value.ref b from rv)
    refine qV6 hu I (qKg.k z) qi qx fun w' s' I' rw' => ⟨_, H, I', rw', xr af r ?_⟩
    obtain ⟨h1, h2⟩ := qQL (k := k) t
    cases hv : qB8 kvs k with
    | none => rw [h2 hv]; exact px
    | some d =>
     obtain ⟨w, e1, e2⟩ := h1 d hv
     rw [e1]; exact e2
   ·exact False.elim af
  ·exact False.elim af
 ·exact False.elim af
noncomputable def qLq : D → List D → Sto → Res D := fun a ds S => match a, ds with
 | .lst xs, [.bl k] => match qHo xs with
  | some bs => .ok (.int (bs.countP (· == k) : Nat)) S
  | none => .bad
 | _, _ => .bad
noncomputable def qQx (k : Bool) : List Bool → Option Nat
 | [] => none
 | b :: r => if b = k then some 0 else (qQx k r).map (· + 1)
noncomputable def qLr : D → List D → Sto → Res D := fun a ds S => match a, ds with
 | .lst xs, [.bl k] => match (qHo xs).bind (qQx k) with
  | some j => .ok (.int j) S
  | none => .bad
 | _, _ => .bad
theorem qOY (k : Bool) {bs : List Bool} {y : Value} (hy : y ∈ (bs.map Value.bool).toArray) : PySem.MeetsSeq.EqGives y (.bool k) (isBoolOf k y) := by
 have hy' : y ∈ bs.map Value.bool := by rwa [List.mem_toArray] at hy
 obtain ⟨b, _, rfl⟩ := List.mem_map.mp hy'
 exact fun prog w A E s Q h => PySem.SeqAt.EqAt.bool_bool b k prog w E Q h
theorem qPj (k : Bool) (bs : List Bool) : (bs.map Value.bool).countP (isBoolOf k) = bs.countP (· == k) := by
 rw [List.countP_map]
 rfl
set_option tactic.hygienic true in
theorem qTI : MtD X "list.count" qLq := by
 intro pins σ H s P α S v vv vs us a ds Q I r rv p rvs rps af
 unfold qLq at af
 split at af
 ·rename_i xs k
  split at af
  ·rename_i bs hb
   obtain ⟨vx, ux, rfl, rfl, px, qx⟩ := qJ9 rps rvs
   simp only [Rep] at px
   subst px
   cases (show ux = Value.bool k from qx)
   obtain ⟨b, ws, its, n, rfl, sq, t, rvi, ht, hl, _⟩ := qJj I r p
   cases (show vv = Value.ref b from rv)
   have hi := qIZ hb t rvi
   subst hi
   refine call_meets PySem.F.slot_list_count ⟨_, ht, rfl⟩ PySem.F.entry_list_count (PySem.F.args_list_count_2 _ _) (PySem.SeqAt.list_countAt b (bs.map Value.bool).toArray n none #[] (.bool k) (isBoolOf k)) ⟨ht, fun y hy => (qOY k hy).at _ _, ?_⟩
   refine ⟨.int _, H, I.tok _, ⟨_, rfl⟩, ?_⟩
   rw [show (bs.map Value.bool).toArray.toList = bs.map Value.bool from rfl, qPj]
   exact xr af r (by simp only [Rep])
  ·exact False.elim af
 ·exact False.elim af
theorem qQD {k : Bool} : ∀ {bs : List Bool} {j : Nat}, qQx k bs = some j → ∃ h : j < bs.length, bs[j] = k ∧ ∀ m (hm : m < bs.length), m < j → bs[m] ≠ k
 | [], j, h => by cases h
 | b :: r, j, h => by
  unfold qQx at h
  by_cases hb : b = k
  ·rw [if_pos hb] at h
   cases h
   exact ⟨by simp, by simpa using hb, fun m hm z => absurd z (Nat.not_lt_zero _)⟩
  ·rw [if_neg hb] at h
   obtain ⟨i, hi, rfl⟩ := Option.map_eq_some_iff.mp h
   obtain ⟨h1, h2, h3⟩ := qQD hi
   refine ⟨by simp; omega, by simpa using h2, fun m hm hl => ?_⟩
   cases m with
   | zero => simpa using hb
   | succ m => simpa using h3 m (by simp at hm; omega) (by omega)
set_option tactic.hygienic true in
theorem qTJ : MtD X "list.index" qLr := by
 intro pins σ H s P α S v vv vs us a ds Q I r rv p rvs rps af
 unfold qLr at af
 split at af
 ·rename_i xs k
  split at af
  ·rename_i j hj
   obtain ⟨bs, hb, hi⟩ := Option.bind_eq_some_iff.mp hj
   obtain ⟨vx, ux, rfl, rfl, px, qx⟩ := qJ9 rps rvs
   simp only [Rep] at px
   subst px
   cases (show ux = Value.bool k from qx)
   obtain ⟨b, ws, its, n, rfl, sq, t, rvi, ht, hl, hz⟩ := qJj I r p
   cases (show vv = Value.ref b from rv)
   have hi' := qIZ hb t rvi
   subst hi'
   obtain ⟨h1, h2, h3⟩ := qQD hi
   have hlen : bs.length ≤ sizeLine := by
    have e1 := t.length
    have e2 := rvi.length
    rw [List.length_map] at e2
    rw [qBg] at hz
    omega
   refine call_meets PySem.F.slot_list_index ⟨_, ht, rfl⟩ PySem.F.entry_list_index (PySem.F.args_list_index_2 _ _) (PySem.MeetsSeq.list_index b (bs.map Value.bool).toArray n (.bool k) (isBoolOf k) (fun y hy => qOY k hy) j (by simpa using h1) ?_ ?_ ?_) ⟨ht, ?_⟩
   ·rw [sizeLine_eq] at hlen; omega
   ·simp [isBoolOf, h2]
   ·intro m hm hl'
    have hm' : m < bs.length := by simpa using hm
    have := h3 m hm' hl'
    simp [isBoolOf, this]
   ·exact ⟨.int _, H, I.tok _, ⟨_, rfl⟩, xr af r (by simp only [Rep])⟩
  ·exact False.elim af
 ·exact False.elim af
end
end DL
end
section
namespace DL
open PySem PySem.Spec PyProof.Rows L2
noncomputable def qB2 (t : DT) (f : DS) : Nat → qAI → Sto → Out
 | 0, _, _ => .bad
 | n + 1, env, S => (t env S).toS env fun b S1 => if b then (match f env S1 with
   | .nx env2 S2 => qB2 t f n env2 S2
   | .ct env2 S2 => qB2 t f n env2 S2
   | .bk env2 S2 => .nx env2 S2
   | o => o) else .nx env S1
theorem qRJ : ∃ n : Nat, n = 2 ^ 60 := ⟨_, rfl⟩
noncomputable def big : Nat := Classical.choose qRJ
theorem qJO : big = 2 ^ 60 := Classical.choose_spec qRJ
noncomputable def qDC (t : DT) (f : DS) : DS := fun env S => qB2 t f big env S
section
variable {X : Cx} {pos : Pos}
theorem qSw {c : Expr} {body : List Stmt} {t : DT} {f : DS} (hp : PassesOwn (model X.prog X.w) X.A X.env X.xe) (hc : PT X c (tDT X t)) (hb : PSs X body (tDS X f)) : PS X (.While c body [] pos) (tDS X (qDC t f)) :=
 psW (qTS hp hc hb) fun D σ H ⟨P, α, env, S, r, re, af⟩ => by
  refine ⟨fun m σ H => ∃ P2 α2 env2 S2, Rel X.K H P2 α2 S2 ∧ qAu X.K P2 α2 σ env2 ∧ qAJ P P2 ∧ α <+: α2 ∧ qAi X P2 α2 (qB2 t f m env2 S2) D, ⟨big, P, α, env, S, r, re, qAJ.refl _, List.prefix_refl _, af⟩, ?_⟩
  rintro m σ2 H2 ⟨P2, α2, env2, S2, r2, re2, e1, e2, af2⟩
  cases m with
  | zero => exact False.elim af2
  | succ m =>
   have af3 := qB1 af2
   refine ⟨P2, α2, env2, S2, r2, re2, ?_⟩
   cases q : t env2 S2 with
   | bad => rw [q] at af3; exact af3
   | ex c x S' => rw [q] at af3; exact af3
   | ok b S3 =>
    rw [q] at af3
    intro H3 P3 α3 r3 e3 e4
    have af4 : qAi X P3 α3 (if b then (match f env2 S3 with | .nx env2 S2 => qB2 t f m env2 S2 | .ct env2 S2 => qB2 t f m env2 S2 | .bk env2 S2 => .nx env2 S2 | o => o) else .nx env2 S3) D := qAi.base e3 e4 af3
    cases b with
    | false => exact af4 σ2 H3 P3 α3 r3 (re2.mono e3 e4) (qAJ.refl _) (List.prefix_refl _)
    | true =>
     simp only [if_true] at af4 ⊢
     refine ⟨fun σ' H' => ∃ P2 α2 env2 S2, Rel X.K H' P2 α2 S2 ∧ qAu X.K P2 α2 σ' env2 ∧ qAJ P P2 ∧ α <+: α2 ∧ qAi X P2 α2 (qB2 t f m env2 S2) D, fun σ' H' w => ⟨m, Nat.lt_succ_self _, w⟩, P3, α3, env2, S3, r3, re2.mono e3 e4, ?_⟩
     cases q2 : f env2 S3 with
     | bad => rw [q2] at af4; exact af4
     | ex c x env4 S4 => rw [q2] at af4; exact af4
     | rt d4 S4 => rw [q2] at af4; exact af4
     | bk env4 S4 => rw [q2] at af4; exact af4
     | nx env4 S4 =>
      rw [q2] at af4
      exact fun σ5 H5 P5 α5 r5 re5 e8 e9 => ⟨P5, α5, env4, S4, r5, re5, (e1.trans e3).trans e8, (e2.trans e4).trans e9, qAi.base e8 e9 af4⟩
     | ct env4 S4 =>
      rw [q2] at af4
      exact fun σ5 H5 P5 α5 r5 re5 e8 e9 => ⟨P5, α5, env4, S4, r5, re5, (e1.trans e3).trans e8, (e2.trans e4).trans e9, qAi.base e8 e9 af4⟩
end
end DL
end
section
namespace DL
open PySem PySem.Spec PyProof.Rows L2
section
variable {X : Cx} {a b c e : Expr} {pos : Pos} {fa fe : DE}
noncomputable def qZY (X : Cx) (g : G2) : TIp := fun x y H Q => ∃ P α S a b, Rel X.K H P α S ∧ Rep X.K P α a x ∧ Rep X.K P α b y ∧ qAp X P α (g a b S) Q
noncomputable def IpD (X : Cx) (op : Operator) (g : G2) : Prop := PIp X op (qZY X g)
noncomputable def qLS (i : Nat) (g : G2) (fe : DE) : DS := fun env S => match env[i]? with
 | some (some x) => (fe env S).toS env fun y S1 => (g x y S1).toS env fun z S2 => .nx (env.set i (some z)) S2
 | _ => .bad
set_option tactic.hygienic true in
theorem qWS {i : Nat} {x : Str} {op : Operator} {g : G2} {pos' : Pos} (hN : X.N.Nodup) (he : PE X e (tD X fe)) (ho : IpD X op g) (hi : autoParam (X.N[i]? = some x) au3._auto_1) (hx : autoParam (Loc X.env.scope x) au7._auto_1)
  (hf : autoParam (X.fn x = true ∨ X.env.scope.names.lookup x = some .local) au1._auto_1) : PS X (.AugAssign (.Name x pos') op e pos) (tDS X (qLS i g fe)) :=
 psW (qXa hN hi hx he ho hf) fun D σ H ⟨P, α, env, S, r, re, af⟩ => by
  unfold qLS at af
  split at af
  ·rename_i d hd
   obtain ⟨v, hv, pv⟩ := re.2 i d hd
   refine ⟨v, hv, P, α, env, S, r, re, ?_⟩
   have af1 := qB1 af
   cases q : fe env S with
   | bad => rw [q] at af1; exact af1
   | ex c x S' => rw [q] at af1; exact af1
   | ok y S1 =>
    rw [q] at af1
    intro u H1 P1 α1 r1 e1 e2 rp
    refine ⟨P1, α1, S1, d, y, r1, Rep.mono e1 e2 _ _ pv, rp, ?_⟩
    have af2 := qB1 (qAi.base e1 e2 af1)
    cases q2 : g d y S1 with
    | bad => rw [q2] at af2; exact af2
    | ex c x S' => rw [q2] at af2; exact af2
    | ok z S2 =>
     rw [q2] at af2
     exact fun w H2 P2 α2 r2 e3 e4 rp2 => af2 _ H2 P2 α2 r2 (((re.mono e1 e2).mono e3 e4).set i rp2) e3 e4
  ·exact False.elim af
noncomputable def qQt : G2 := i2 (fun _ _ => true) fun i j => .int (i + j)
theorem qUu : IpD X .Add qQt := by
 intro pins s σ H x y v u Q I rx ry h
 obtain ⟨P, α, S, a, b, r, pa, pb, af⟩ := h
 obtain ⟨i, j, rfl, rfl, _, ok⟩ := qLz af
 exact qWo pins s σ H x y v u Q I rx ry ⟨i, j, qBa pa, qBa pb, xr ok r (by simp only [Rep])⟩
noncomputable def qVM (i j k : Nat) (env : qAI) (S1 : Sto) : List D → Out
 | [x, y, z] => .nx (((env.set i (some x)).set j (some y)).set k (some z)) S1
 | _ => .bad
noncomputable def qRB (i j k : Nat) (f : DA) : DS := fun env S => (f env S).toS env fun ds S1 => qVM i j k env S1 ds
theorem qUf {i j k : Nat} {x y z : Str} {f : DA} {px py pz pt : Pos} {kt k2 pt2} (hc : X.calm = true) (hN : X.N.Nodup) (ha : PA X [a, b, c] (tDA X f)) (hi : autoParam (X.N[i]? = some x) au3._auto_1) (hj : autoParam (X.N[j]? = some y) au3._auto_1) (hk : autoParam (X.N[k]? = some z) au3._auto_1) (hij : autoParam (i ≠ j) au2._auto_1) (hik : autoParam (i ≠ k) au2._auto_1) (hjk : autoParam (j ≠ k) au2._auto_1)
  (hx : autoParam (X.env.scope.names.lookup x = some .local) au3._auto_1) (hy : autoParam (X.env.scope.names.lookup y = some .local) au3._auto_1) (hz : autoParam (X.env.scope.names.lookup z = some .local) au3._auto_1)
  (hw : autoParam (swappedStores [.Tuple [.Name x px, .Name y py, .Name z pz] kt pt] (.Tuple [a, b, c] k2 pt2) X.env = pure (some [x, y, z])) au3._auto_1)
  (hs : autoParam (swapsWithSole [.Tuple [.Name x px, .Name y py, .Name z pz] kt pt] (.Tuple [a, b, c] k2 pt2) pos.line X.env = pure false) au3._auto_1) :
  PS X (.Assign [.Tuple [.Name x px, .Name y py, .Name z pz] kt pt] (.Tuple [a, b, c] k2 pt2) pos) (tDS X (qRB i j k f)) := by
 intro pins s σ H D I h
 obtain ⟨P, α, env, S, r, re, af⟩ := h
 rw [exec_Assign_arm]
 refine wpAny_bind (wpAny_standAt ?_)
 rw [hs]
 refine wpAny_bind (wpAny_pure ?_)
 rw [if_neg (by decide)]
 refine wpAny_bind (Tuple_ (thn (qP4 ha I r re af _) fun us s1 ⟨vs, H1, P1, α1, ds, S1, I1, rv, r1, re1, rp, e1, e2, q⟩ => ?_))
 match ds, rp, q with
 | [], _, q => exact False.elim q
 | [_], _, q => exact False.elim q
 | [_, _], _, q => exact False.elim q
 | _ :: _ :: _ :: _ :: _, _, q => exact False.elim q
 | [d1, d2, d3], rp, q =>
  obtain ⟨v1, t1, rfl, p1, rp⟩ := rp.cons_inv
  obtain ⟨v2, t2, rfl, p2, rp⟩ := rp.cons_inv
  obtain ⟨v3, t3, rfl, p3, rp⟩ := rp.cons_inv
  cases rp.nil_inv
  obtain ⟨u1, u2, u3, rfl, q1, q2, q3⟩ : ∃ u1 u2 u3, us = [u1, u2, u3] ∧ qAR v1 u1 ∧ qAR v2 u2 ∧ qAR v3 u3 := by
   cases rv with
   | cons z1 rv => cases rv with
    | cons z2 rv => cases rv with
     | cons z3 rv => cases rv; exact ⟨_, _, _, rfl, z1, z2, z3⟩
  refine wpAny_newObj_type ?_ (by show 3 ≤ sizeLine; decide)
  have I2 : Inv X pins σ H1 { s1 with heap := s1.heap.push { cls := .type "tuple", data := .seq [u1, u2, u3].toArray } } := I1.kept (t' := s1.toks) fun b o e => Heap.get?_push_of_some _ e
  rw [hw]
  refine wpAny_bind (wpAny_pure ?_)
  show wpAny (model X.prog X.w) X.A (do rule "assign.swapped-stores"; let items ← unpackItems (.ref s1.heap.objs.size) 3 none; assignInOrder [fun v => bindName X.env z v, fun v => bindName X.env y v, fun v => bindName X.env x v] items.reverse; pure Flow.next) _ _ _
  refine wpAny_bind (wpAny_rule (wpAny_bind (unpackItems_tuple (items := #[u1, u2, u3]) (I.ok.hd hc) (IsTup.new s1.heap _) fun h' hx' => ?_)))
  have I3 := I2.kept (h' := h') (t' := s1.toks) fun b o e => hx' b o (Nat.ne_of_lt (Heap.lt_size e)) e
  show wpAny _ _ (assignInOrder [fun v => bindName X.env z v, fun v => bindName X.env y v, fun v => bindName X.env x v] [u3, u2, u1] >>= fun _ => pure Flow.next) _ _ _
  refine wpAny_bind (assignInOrder_cons (wpAny_bindName (qC8 I3 hN hk (.inl hz) q3 (fun s2 I4 => ?_) (.inr hz))))
  refine assignInOrder_cons (wpAny_bindName (qC8 I4 hN hj (.inl hy) q2 (fun s3 I5 => ?_) (.inr hy)))
  refine assignInOrder_cons (wpAny_bindName (qC8 I5 hN hi (.inl hx) q1 (fun s4 I6 => assignInOrder_nil (wpAny_pure ?_)) (.inr hx)))
  rw [List.set_comm _ _ (Ne.symm hij), List.set_comm _ _ (Ne.symm hik), List.set_comm _ _ (Ne.symm hjk)] at I6
  exact ⟨_, H1, I6, q _ H1 P1 α1 r1 (((re1.set i p1).set j p2).set k p3) (qAJ.refl _) (List.prefix_refl _)⟩
noncomputable def qId (xs : List D) (lo hi : Option Int) : List D := (xs.drop (HT.sIx xs.length 0 lo)).take (HT.sIx xs.length xs.length hi - HT.sIx xs.length 0 lo)
abbrev DO := qAI → Sto → Res (Option Int)
noncomputable def OkO (X : Cx) (P : Hp) (α : List Addr) (Q : Option Int → Hp → Prop) (o : Option Int) (S' : Sto) : Prop := ∀ H' P' α', Rel X.K H' P' α' S' → qAJ P P' → α <+: α' → Q o H'
noncomputable def tDO (X : Cx) (f : DO) : TO := fun σ H Q => ∃ P α env S, Rel X.K H P α S ∧ qAu X.K P α σ env ∧ qAY X P α (f env S) (OkO X P α Q)
noncomputable def qZh : DO := fun _ S => .ok none S
noncomputable def qGW (f : DE) : DO := fun env S => (f env S).bind fun d S1 => match d with
 | .int i => .ok (some i) S1
 | _ => .bad
theorem qUb (he : PE X e (tD X fe)) : PO X (some e) (tDO X (qGW fe)) := by
 intro pins s σ H Q I h
 obtain ⟨P, α, env, S, r, re, af⟩ := h
 refine qVT (te := tD X fe) he pins s σ H Q I ⟨P, α, env, S, r, re, ?_⟩
 have af' : qAY X P α ((fe env S).bind fun d S1 => match d with | .int i => .ok (some i) S1 | _ => .bad) (OkO X P α Q) := af
 cases q : fe env S with
 | bad => rw [q] at af'; exact af'
 | ex c x S' => rw [q] at af'; exact af'
 | ok d S1 =>
  rw [q] at af'
  intro v H1 P1 α1 r1 e1 e2 rp
  cases d with
  | int i => exact ⟨i, qBa rp, af' H1 P1 α1 r1 e1 e2⟩
  | _ => exact False.elim af'
theorem qAL.cut {K : PySem.W.Frag} {P : Hp} {α : List Addr} {ds : List D} {vs : List V} (r : qAL K P α ds vs) (lo hi : Option Int) : qAL K P α (qId ds lo hi) (qJU vs lo hi) := by
 unfold qId qJU
 rw [r.length]
 exact (r.drop _).take _
noncomputable def gSl (d : D) (lo hi : Option Int) (S : Sto) : Res D := match d with
 | .lst xs => .ok (.lst (qId xs lo hi)) S
 | .loc i => match S[i]? with
  | some (.lst xs) => .ok (.lst (qId xs lo hi)) S
  | _ => .bad
 | .tup xs => .ok (.tup (qId xs lo hi)) S
 | _ => .bad
noncomputable def dSl (fe : DE) (fl fh : DO) : DE := fun env S => (fe env S).bind fun d S1 => (fl env S1).bind fun lo S2 => (fh env S2).bind fun hi S3 => gSl d lo hi S3
end
end DL
end
section
namespace DL
open PySem PySem.Spec PyProof.Rows L2 HT
section
variable {prog : Program} {w : World} {A : Around} {E : Value → Shared → Prop} {s : Shared}
theorem qI6 {t sl : Addr} {items : Array Value} {vl vu : Value} {lo hi : Option Int} {Q : Value → Shared → Prop} (ht : IsTup s.heap t items) (hs : s.heap.IsSliceOf sl vl vu .none) (pl : IsPart vl lo) (pu : IsPart vu hi)
  (hw : sIx items.size 0 lo = 0 ∧ sIx items.size items.size hi = items.size) (h : Q (.ref t) s) : wpAny (model prog w) A (getItem (.ref t) (.ref sl)) Q E s := by
 obtain ⟨ob, hob, hcb, _⟩ := id hs
 have hTs : s.TypeIs (.ref sl) "slice" := ⟨ob, hob, hcb⟩
 unfold getItem
 try with_reducible refine wpAny_holding ?_
 first | refine wpAny_bind (wpAny_pure ?_) | skip
 refine wpAny_bind (wpAny_sequenceKey ht.typeIs (by decide) ?_)
 refine wpAny_bind (wpAny_callSpecial?_slot (name := Str.ofString "__getitem__") ht.typeIs PyProof.Rows.slot_tuple_getitem
  (wpAny_call_entry PyProof.Rows.slot_tuple_getitem ht.typeIs entry_tuple_getitem ?_ (args_tuple_getitem _ _)))
 show wpAny _ _ (Builtin.Tuple.tupleItemsOf (.ref t) >>= _) _ _ s
 refine wpAny_bind (tupleItemsOf_ ht ?_)
 refine wpAny_bind (wpAny_typeOf hTs ?_)
 rw [if_pos (by decide)]
 refine wpAny_bind (qGw hs pl pu ?_)
 show wpAny _ _ (if (((sIx items.size 0 lo : Nat) : Int) == 0 && (1 : Int) == 1 && (sIx items.size items.size hi - sIx items.size 0 lo) == items.size) = true then _ else _) _ _ s
 rw [hw.1, hw.2, if_pos (by simp)]
 unfold Builtin.Tuple.tupleIsExact
 refine wpAny_bind (wpAny_bind (wpAny_typeOf ht.typeIs (wpAny_pure ?_)))
 rw [if_pos (by decide)]
 exact wpAny_bind (wpAny_rule (wpAny_pure ⟨_, rfl, wpAny_pure h⟩))
end
section
variable {X : Cx} {e : Expr} {fe : DE} {pos p2 : Pos}
noncomputable def qZR (X : Cx) : V → Option Int → Option Int → Hp → VK → Prop := fun x lo hi H Q => ∃ P α S d, Rel X.K H P α S ∧ Rep X.K P α d x ∧ qAp X P α (gSl d lo hi S) Q
set_option tactic.hygienic true in
theorem qZV : SlR X (qZR X) := by
 intro pins s σ H x v vl vu lo hi sl Q I rx hs pl pu h
 obtain ⟨P, α, S, d, r, p, af⟩ := h
 cases d with
 | lst xs =>
  simp only [Rep] at p
  obtain ⟨a, vs, rfl, q, t⟩ := p
  exact qQd pins s σ H _ v vl vu lo hi sl Q I rx hs pl pu ⟨a, vs, rfl, (qC5 r.sub q).l, fun b hb => qGr r hb (qAL.cut t lo hi) af⟩
 | loc i =>
  simp only [gSl] at af
  split at af
  ·rename_i xs hS
   simp only [Rep] at p
   obtain ⟨a, rfl, q⟩ := p
   obtain ⟨vs, z, t⟩ := r.at' i a _ q hS
   exact qQd pins s σ H _ v vl vu lo hi sl Q I rx hs pl pu ⟨a, vs, rfl, SqL.of z, fun b hb => qGr r hb (qAL.cut t lo hi) af⟩
  ·exact False.elim af
 | tup xs =>
  have p0 := p
  simp only [Rep] at p
  obtain ⟨a, vs, rfl, q, t⟩ := p
  by_cases hw : sIx vs.length 0 lo = 0 ∧ sIx vs.length vs.length hi = vs.length
  ·cases rx
   obtain ⟨its, rv, ht, hz⟩ := I.tuple (qDF r.sub q)
   have hlen : its.toArray.size = vs.length := by rw [List.size_toArray]; exact rv.length.symm
   refine ⟨"tuple", _, PyProof.Rows.slot_tuple_getitem.lookup, ht.typeIs, qI6 ht hs pl pu (by rw [hlen]; exact hw) ⟨.ref a, H, I, rfl, xr af r ?_⟩⟩
   have e : qId xs lo hi = xs := by
    unfold qId
    rw [t.length, hw.1, hw.2, ← t.length]
    simp
   rw [e]
   exact p0
  ·exact qXr pins s σ H _ v vl vu lo hi sl Q I rx hs pl pu ⟨a, vs, rfl, qDF r.sub q, hw, fun b hb => qLO r hb (qAL.cut t lo hi) af⟩
 | _ => exact False.elim af
theorem qSr {lo hi : Option Expr} {fl fh : DO} (he : PE X e (tD X fe)) (hl : PO X lo (tDO X fl)) (hu : PO X hi (tDO X fh)) : PE X (.Subscript e (.Slice lo hi none p2) pos) (tD X (dSl fe fl fh)) :=
 peW (qTP qZV he hl hu) fun σ H Q ⟨P, α, env, S, r, re, af⟩ => by
  refine ⟨P, α, env, S, r, re, ?_⟩
  have af' : qAY X P α ((fe env S).bind fun d S1 => (fl env S1).bind fun lo S2 => (fh env S2).bind fun hi S3 => gSl d lo hi S3) (OkV X P α Q) := af
  cases q : fe env S with
  | bad => rw [q] at af'; exact af'
  | ex c x S' => rw [q] at af'; exact af'
  | ok d S1 =>
   rw [q] at af'
   intro v H1 P1 α1 r1 e1 e2 rp
   refine ⟨P1, α1, env, S1, r1, re.mono e1 e2, ?_⟩
   have af2 : qAY X P1 α1 ((fl env S1).bind fun lo S2 => (fh env S2).bind fun hi S3 => gSl d lo hi S3) (OkV X P1 α1 Q) := qAp.base e1 e2 af'
   cases q2 : fl env S1 with
   | bad => rw [q2] at af2; exact af2
   | ex c x S' => rw [q2] at af2; exact af2
   | ok l S2 =>
    rw [q2] at af2
    intro H2 P2 α2 r2 e3 e4
    refine ⟨P2, α2, env, S2, r2, (re.mono e1 e2).mono e3 e4, ?_⟩
    have af3 : qAY X P2 α2 ((fh env S2).bind fun hi S3 => gSl d l hi S3) (OkV X P2 α2 Q) := qAp.base e3 e4 af2
    cases q3 : fh env S2 with
    | bad => rw [q3] at af3; exact af3
    | ex c x S' => rw [q3] at af3; exact af3
    | ok u S3 =>
     rw [q3] at af3
     intro H3 P3 α3 r3 e5 e6
     exact ⟨P3, α3, S3, d, r3, Rep.mono (e3.trans e5) (e4.trans e6) _ _ rp, qAp.base e5 e6 af3⟩
noncomputable def qHN (d : D) (S : Sto) : Res D := match d with
 | .int i => if i.natAbs.log2 < 1920 then .ok (.str (toString i)) S else .bad
 | .str x => if x.length ≤ lim then .ok (.str x) S else .bad
 | _ => .bad
set_option tactic.hygienic true in
theorem qWC (he : PE X e (tD X fe)) : PE X (.FormattedValue e (-1) none pos) (tD X (d1 qHN fe)) := by
 intro pins s σ H Q I h
 obtain ⟨P, α, env, S, r, re, af⟩ := h
 refine FormattedValue_plain (thn (qBd he I r re af) fun vv s1 ⟨v, H1, P1, α1, d, S1, G1, af1⟩ => ?_)
 have p := G1.rep
 have rv := G1.val
 have af2 := qAp.base G1.same G1.pre af1
 cases d with
 | int i =>
  simp only [qHN] at af2
  split at af2
  ·rename_i hd
   simp only [Rep] at p; subst p
   obtain ⟨t, rfl⟩ := rv
   exact formatField_int_small hd ⟨.str _, H1, G1.inv.tok _, ⟨_, rfl⟩, xr af2 G1.rel (by simp only [Rep])⟩
  ·exact False.elim af2
 | str x =>
  simp only [qHN] at af2
  split at af2
  ·rename_i hd
   simp only [Rep] at p; subst p
   obtain ⟨t, rfl⟩ := rv
   exact formatField_str (fun t' tk => ⟨.str _, H1, G1.inv.tok _, ⟨_, rfl⟩, xr af2 G1.rel (by simp only [Rep])⟩) (by rw [← qBg]; exact hd)
  ·exact False.elim af2
 | _ => exact False.elim af2
noncomputable def qJ5 (out : Str) : List DE → qAI → Sto → Res D
 | [], _, S => if out.length ≤ lim then .ok (.str out) S else .bad
 | p :: ps, env, S => (p env S).bind fun d S1 => match d with
  | .str y => if (out ++ y).length ≤ lim then qJ5 (out ++ y) ps env S1 else .bad
  | _ => .bad
noncomputable def PJ (X : Cx) (es : List Expr) (fs : List DE) : Prop :=
 ∀ (out : Str) (pins : List (Addr × Obj)) (s : Shared) (σ : L2.St) (H P : Hp) (α : List Addr) (env : qAI) (S : Sto) (Q : VK), Inv X pins σ H s → Rel X.K H P α S → qAu X.K P α σ env → qAp X P α (qJ5 out fs env S) Q →
  wpAny (model X.prog X.w) X.A (joinParts out (evalEach es X.env)) (EP X pins σ Q) X.xe s
set_option tactic.hygienic true in
theorem qXW : PJ X [] [] := by
 intro out pins s σ H P α env S Q I r re af
 simp only [qJ5] at af
 split at af
 ·rename_i hl
  exact joinParts_nil ⟨.str _, H, I.tok _, ⟨_, rfl⟩, xr af r (by simp only [Rep])⟩ (by rw [← qBg]; exact hl)
 ·exact False.elim af
set_option tactic.hygienic true in
theorem qVR {es : List Expr} {fs : List DE} (he : PE X e (tD X fe)) (hr : PJ X es fs) : PJ X (e :: es) (fe :: fs) := by
 intro out pins s σ H P α env S Q I r re af
 simp only [qJ5] at af
 refine joinParts_cons (thn (qBd he I r re af) fun vv s1 ⟨v, H1, P1, α1, d, S1, G1, af1⟩ => ?_)
 cases d with
 | str y =>
  have p := G1.rep
  simp only [Rep] at p; subst p
  obtain ⟨t, rfl⟩ := G1.val
  dsimp only at af1 ⊢
  split at af1
  ·rename_i hl
   exact ⟨by rw [← qBg]; exact hl, hr (out ++ y) pins s1 σ H1 P1 α1 env S1 Q G1.inv G1.rel G1.env (qAp.base G1.same G1.pre af1)⟩
  ·exact False.elim af1
 | _ => exact False.elim af1
noncomputable def qLj (fs : List DE) : DE := fun env S => qJ5 Str.empty fs env S
theorem qUU {v₁ v₂ : Expr} {rest : List Expr} {fs : List DE} (h : PJ X (v₁ :: v₂ :: rest) fs) : PE X (.JoinedStr (v₁ :: v₂ :: rest) pos) (tD X (qLj fs)) := by
 intro pins s σ H Q I hq
 obtain ⟨P, α, env, S, r, re, af⟩ := hq
 exact JoinedStr_many (h Str.empty pins s σ H P α env S Q I r re af)
end
end DL
end
section
namespace DL
open PySem PySem.Spec PyProof.Rows L2
section
variable {prog : Program} {w : World} {A : Around} {E : Value → Shared → Prop} {s : Shared}
theorem qTo {tp tq : Bool} {z I O i j a b : Addr} {k : Nat} {xs ys : Array Value} {p q : Value} {Q : Fin → Shared → Prop} (hh : A.handled = none) (D : ZA z I O i j) (Da : Off z O i j a) (Db : Off z O i j b)
  (hz : IsZip s.heap z I O .none) (hI : IsPair s.heap I (.ref i) (.ref j)) (hO : IsPair s.heap O p q) (h1 : qBW tp s.heap i a k) (h2 : qBW tq s.heap j b k) (ha : qCb tp s.heap a xs) (hb : qCb tq s.heap b ys) (hend : xs[k]? = none ∨ ys[k]? = none)
  (hE : ∀ h' e, qSZ z O i j s.heap h' → (∃ o, h'.get? e = some o ∧ o.cls = .type "StopIteration") → E (.ref e) { s with heap := h' }) : wpAny (model prog w) A (Builtin.«zip.__next__» ⟨[.ref z], []⟩) Q E s := by
 show wpAny _ _ (field (.ref z) 2 >>= _) _ _ _; refine wpAny_bind (wpAny_field hz rfl (x := .bool false) rfl ?_)
 show wpAny _ _ (field (.ref z) 3 >>= _) _ _ _; refine wpAny_bind (wpAny_field hz rfl (x := .ref I) rfl (wpAny_bind (wpAny_seqItems hI rfl ?_)))
 show wpAny _ _ (Builtin.SmallTypes.ownedTupleIsFree (.ref z) >>= _) _ _ _; refine wpAny_bind ?_
 unfold Builtin.SmallTypes.ownedTupleIsFree; refine wpAny_bind (wpAny_field hz rfl (x := .none) rfl (wpAny_pure ?_))
 simp only [if_true]; refine wpAny_bind (wpAny_rule (wpAny_bind (wpAny_field hz rfl (x := .ref O) rfl (wpAny_bind (wpAny_setField_rec hz (by simp) fun g1 z1 s1 => ?_)))))
 replace z1 : IsZip g1 z I O .ellipsis := z1
 refine wpAny_bind ?_; simp only [List.zipIdx_cons, List.zipIdx_nil, List.forIn_cons, List.forIn_nil]
 refine wpAny_bind (wpAny_bind (wpAny_onRaise ?_)); show wpAny _ _ (Builtin.SmallTypes.nextOf (.ref i) >>= _) _ _ _
 have it1 : qBW tp g1 i a k := h1.keep fun o e => s1.extBut _ _ D.iz e
 have sq1 : qCb tp g1 a xs := ha.keep fun o e => s1.extBut _ _ Da.z e
 cases hx : xs[k]? with
 | none =>
  refine wpAny_bind (qJk hh it1 sq1 hx fun g2 e x2 he => ?_)
  obtain ⟨oe, h3, h4⟩ := he
  have z2 : IsZip g2 z I O .ellipsis := x2 _ _ D.iz.symm z1
  have ne : e ≠ z := fun y => by subst y; rw [z2] at h3; cases h3; simp at h4
  exact wpAny_setField_rec z2 (by simp) fun g3 _ s3 => hE g3 e (fun c o c1 _ c3 _ y => s3.extBut _ _ c1 (x2 _ _ c3 (s1.extBut _ _ c1 y))) ⟨oe, s3.extBut _ _ ne h3, h4⟩
 | some x =>
  have hy : ys[k]? = none := by
   rcases hend with y | y
   ·rw [hx] at y; cases y
   ·exact y
  refine wpAny_bind (qLH it1 sq1 hx fun g2 i2 s2 => wpAny_pure ?_)
  have O2 : IsPair g2 O p q := s2.extBut _ _ D.Oi (s1.extBut _ _ D.Oz hO)
  refine wpAny_bind (wpAny_seqItems O2 rfl (wpAny_bind (wpAny_updateSeq_pair O2 fun g3 O3 s3 => wpAny_bind (wpAny_letGo (wpAny_pure ?_)))))
  refine wpAny_bind (wpAny_bind (wpAny_onRaise ?_)); show wpAny _ _ (Builtin.SmallTypes.nextOf (.ref j) >>= _) _ _ _
  refine wpAny_bind (qJk hh (h2.keep fun o e => s3.extBut _ _ D.Oj.symm (s2.extBut _ _ D.ij.symm (s1.extBut _ _ D.jz e))) (hb.keep fun o e => s3.extBut _ _ Db.O (s2.extBut _ _ Db.i (s1.extBut _ _ Db.z e))) hy fun g4 e x4 he => ?_)
  obtain ⟨oe, h3, h4⟩ := he
  have z4 : IsZip g4 z I O .ellipsis := x4 _ _ D.jz.symm (s3.extBut _ _ D.Oz.symm (s2.extBut _ _ D.iz.symm z1))
  have ne : e ≠ z := fun y => by subst y; rw [z4] at h3; cases h3; simp at h4
  exact wpAny_setField_rec z4 (by simp) fun g5 _ s5 => hE g5 e (fun c o c1 c2 c3 c4 y => s5.extBut _ _ c1 (x4 _ _ c4 (s3.extBut _ _ c2 (s2.extBut _ _ c3 (s1.extBut _ _ c1 y))))) ⟨oe, s5.extBut _ _ ne h3, h4⟩
abbrev qL3 (tp : Bool) (l : Addr) : Obj := { cls := .type (if tp then "tuple_iterator" else "list_iterator"), data := .fields #[.ref l, .int 0 0] }
abbrev zh1 (tp : Bool) (h : Heap) (a : Addr) : Heap := h.push (qL3 tp a)
abbrev zh2 (tp tq : Bool) (h : Heap) (a b : Addr) : Heap := (zh1 tp h a).push (qL3 tq b)
abbrev zh3 (tp tq : Bool) (h : Heap) (a b : Addr) : Heap := (zh2 tp tq h a b).push { cls := .type "tuple", data := .seq #[.ref h.objs.size, .ref (zh1 tp h a).objs.size] }
abbrev zh4 (tp tq : Bool) (h : Heap) (a b : Addr) : Heap := (zh3 tp tq h a b).push { cls := .type "tuple", data := .seq #[.none, .none] }
abbrev zh5 (tp tq : Bool) (h : Heap) (a b : Addr) : Heap := (zh4 tp tq h a b).push { cls := .type "zip", data := .fields #[.none, .bool false, .bool false, .ref (zh2 tp tq h a b).objs.size, .ref (zh3 tp tq h a b).objs.size] }
set_option maxHeartbeats 4000000 in
theorem qVq (tp : Bool) (a b : Addr) (xs ys : Array Value) :
  Meets (Builtin.«zip.__new__» ⟨[.type "zip", .ref a, .ref b], []⟩) (fun _ R s => qCb tp s.heap a xs ∧ qCb tp s.heap b ys ∧ R (.ok (.ret (.ref (zh4 tp tp s.heap a b).objs.size))) { s with heap := zh5 tp tp s.heap a b }) :=
 .of_wp fun prog w A R s h => by
  obtain ⟨hp, g, d, tk, os⟩ := s
  obtain ⟨q1, q2, h⟩ := h
  have hsub := sub_zip
  have e2 : ∀ ob : Obj, qCb tp (hp.push ob) b ys := fun ob => q2.keep fun o e => Heap.get?_push_of_some _ e
  cases tp
  ·have l1 : Heap.IsList (Shared.heap ⟨hp, g, d, tk, os⟩) a xs := q1
   have l2 : Heap.IsList (Shared.heap ⟨hp.push { cls := .type "list_iterator", data := .fields #[.ref a, .int 0 0] }, g, d, tk, os⟩) b ys := e2 _
   wp_walk using wpAny_pyIter_list l1, wpAny_pyIter_list l2
   exact ⟨_, rfl, h⟩
  ·have l1 : Heap.IsTuple (Shared.heap ⟨hp, g, d, tk, os⟩) a xs := q1
   have l2 : Heap.IsTuple (Shared.heap ⟨hp.push { cls := .type "tuple_iterator", data := .fields #[.ref a, .int 0 0] }, g, d, tk, os⟩) b ys := e2 _
   wp_walk using wpAny_pyIter_tuple l1, wpAny_pyIter_tuple l2
   exact ⟨_, rfl, h⟩
theorem qL5 {tp : Bool} {h : Heap} {it l : Addr} (e : h.get? it = some (qL3 tp l)) : qBW tp h it l 0 := by
 cases tp
 ·exact ⟨_, e, rfl, rfl⟩
 ·exact ⟨_, e, rfl, rfl⟩
theorem qSe {tp : Bool} {a b : Addr} {xs ys : Array Value} {Q : Value → Shared → Prop} (ha : qCb tp s.heap a xs) (hb : qCb tp s.heap b ys)
  (h : ∀ h', IsZip h' (s.heap.objs.size + 4) (s.heap.objs.size + 2) (s.heap.objs.size + 3) .none → IsPair h' (s.heap.objs.size + 2) (.ref s.heap.objs.size) (.ref (s.heap.objs.size + 1)) →
   IsPair h' (s.heap.objs.size + 3) .none .none → qBW tp h' s.heap.objs.size a 0 → qBW tp h' (s.heap.objs.size + 1) b 0 → h'.objs.size = s.heap.objs.size + 5 → (∀ c o, s.heap.get? c = some o → h'.get? c = some o) → Q (.ref (s.heap.objs.size + 4)) { s with heap := h' }) :
  wpAny (model prog w) A (call (.type "zip") [.ref a, .ref b]) Q E s := by
 refine callType_new F.called_zip (by decide) (F.typeCall_zip_2 _ _) (F.newCall_zip_2 _ _) (fun obj => F.args_object_init_3 obj _ _) F.entry_zip_new (qVq tp a b xs ys) ⟨ha, hb, ?_⟩
 have y1 : (zh1 tp s.heap a).objs.size = s.heap.objs.size + 1 := Heap.size_push ..
 have y2 : (zh2 tp tp s.heap a b).objs.size = s.heap.objs.size + 2 := by rw [Heap.size_push, y1]
 have y3 : (zh3 tp tp s.heap a b).objs.size = s.heap.objs.size + 3 := by rw [Heap.size_push, y2]
 have y4 : (zh4 tp tp s.heap a b).objs.size = s.heap.objs.size + 4 := by rw [Heap.size_push, y3]
 have y5 : (zh5 tp tp s.heap a b).objs.size = s.heap.objs.size + 5 := by rw [Heap.size_push, y4]
 have g5 : (zh5 tp tp s.heap a b).get? (zh4 tp tp s.heap a b).objs.size = some _ := Heap.get?_push_size _ rfl
 have g4 : (zh5 tp tp s.heap a b).get? (zh3 tp tp s.heap a b).objs.size = some _ := Heap.get?_push_of_some _ (Heap.get?_push_size _ rfl)
 have g3 : (zh5 tp tp s.heap a b).get? (zh2 tp tp s.heap a b).objs.size = some _ := Heap.get?_push_of_some _ (Heap.get?_push_of_some _ (Heap.get?_push_size _ rfl))
 have g2 : (zh5 tp tp s.heap a b).get? (zh1 tp s.heap a).objs.size = some (qL3 tp b) := Heap.get?_push_of_some _ (Heap.get?_push_of_some _ (Heap.get?_push_of_some _ (Heap.get?_push_size _ rfl)))
 have g1 : (zh5 tp tp s.heap a b).get? s.heap.objs.size = some (qL3 tp a) := Heap.get?_push_of_some _ (Heap.get?_push_of_some _ (Heap.get?_push_of_some _ (Heap.get?_push_of_some _ (Heap.get?_push_size _ rfl))))
 have kp : ∀ c o, s.heap.get? c = some o → (zh5 tp tp s.heap a b).get? c = some o := fun c o e => Heap.get?_push_of_some _ (Heap.get?_push_of_some _ (Heap.get?_push_of_some _ (Heap.get?_push_of_some _ (Heap.get?_push_of_some _ e))))
 show _ ∧ _
 rw [y2, y3, y4] at g5
 rw [y1, y2] at g3
 rw [y3] at g4
 rw [y1] at g2
 rw [y4]
 exact ⟨⟨_, g5, rfl⟩, h _ g5 g3 g4 (qL5 g1) (qL5 g2) y5 kp⟩
end
end DL
end
section
namespace DL
open PySem PySem.Spec PyProof.Rows L2
noncomputable def Sq (tp : Bool) (K : PySem.W.Frag) (H : Hp) (a : Addr) (xs : List V) : Prop := if tp then SqT K H a xs else SqL K H a xs
section
variable {X : Cx} {pins : List (Addr × Obj)} {σ : L2.St} {H : Hp} {s : Shared}
theorem Sq.at {tp : Bool} {a : Addr} {xs : List V} (I : Inv X pins σ H s) (q : Sq tp X.K H a xs) : ∃ its, qAZ xs its ∧ qCb tp s.heap a its.toArray := by
 cases tp with
 | true =>
  obtain ⟨its, rv, p, _⟩ := I.tuple q
  exact ⟨its, rv, p⟩
 | false =>
  obtain ⟨its, rv, p, _⟩ := I.list q
  exact ⟨its, rv, p.isList⟩
theorem Sq.inj {tp : Bool} {a : Addr} {xs ys : List V} (I : Inv X pins σ H s) (q : Sq tp X.K H a xs) (q' : Sq tp X.K H a ys) : xs = ys := by
 cases tp with
 | true => exact I.tuple_inj q q'
 | false => exact I.list_inj q q'
theorem Sq.off {tp : Bool} {a b : Addr} {xs : List V} (I : Inv X pins σ H s) (q : Sq tp X.K H a xs) (f : qCM X pins H b) : a ≠ b := by
 have key : H a ≠ none ∨ ∃ o, X.K.lookup a = some o := by
  cases tp with
  | true =>
   rcases q with (q | ⟨o, q⟩) | ⟨o, _, _, q, _⟩
   ·exact .inl (by rw [q]; intro z; cases z)
   ·exact .inl (by rw [q]; intro z; cases z)
   ·exact .inr ⟨_, q⟩
  | false =>
   rcases q with (q | ⟨o, q⟩) | ⟨o, _, _, q, _⟩
   ·exact .inl (by rw [q]; intro z; cases z)
   ·exact .inl (by rw [q]; intro z; cases z)
   ·exact .inr ⟨_, q⟩
 rintro rfl
 rcases key with k | ⟨o, k⟩
 ·exact k f.1
 ·have e := I.mod.kin a o k
  rcases f.2.2.2.1 with z | z
  ·exact I.ok.noex a o e z
  ·exact absurd (Heap.lt_size (I.ok.bs a o e).1) (Nat.not_lt.mpr z)
theorem Inv.turnLay {fp : List Addr} {h' : Heap} {T : Addr} {xs : List V} {its : List Value} (I : Inv X pins σ H s) (hf : ∀ b ∈ fp, qCM X pins H b) (k : ∀ b o, b ∉ fp → s.heap.get? b = some o → h'.get? b = some o) (th : ∀ b ∈ fp, ∃ o, h'.get? b = some o)
  (hT : s.heap.objs.size ≤ T) (rv : qAZ xs its) (hx : IsTup h' T its.toArray) (hz : xs.length ≤ sizeLine) : Inv X pins σ (upd H T (.tup xs)) { s with heap := h' } := by
 have hn : H T = none := I.hok.fresh hT
 have ne : ∀ b o, s.heap.get? b = some o → b ≠ T := fun b o e => Nat.ne_of_lt (Nat.lt_of_lt_of_le (Heap.lt_size e) hT)
 refine I.step (g' := s.gens) (d' := s.drawn) (t' := s.toks) (ch := fp) (fun b hb => ⟨(hf b hb).2.2.2.1, (hf b hb).2.1, (hf b hb).2.2.2.2.1, (hf b hb).2.2.2.2.2⟩) (fun b o _ _ hc e _ => k b o hc e) (fun b o _ _ hc e _ => ⟨o.slots, k b o hc e⟩)
  (fun b o _ e n => by rw [qAa (ne b o e)]; exact n) (fun b o hc e => ⟨o, k b o hc e⟩) (fun b ys e => by rw [qAa (qAw e hn)]; exact e) (fun b o u e => by rw [qAa (qAw e hn)]; exact e)
  (fun b ps e => ⟨#[], by rw [qAa (qAw e hn), e]; simp⟩) (fun m hm => ?_) (fun b u e => ?_) I.bare
 ·obtain ⟨o, es, ep, ho, r⟩ := hm
  exact ⟨o, es, ep, k _ o (fun z => (hf _ z).2.1 rfl) ho, r⟩
 ·by_cases hb : b = T
  ·subst hb
   rw [qA5] at e; cases e
   exact ⟨hz, its, rv, hx⟩
  ·rw [qAa hb] at e
   refine (I.hok b u e).stay (fun c v hc q => k c v (fun z => ?_) q) (fun c q => by rw [qAa (qAw q hn)]; exact q) fun c ys q => by rw [qAa (qAw q hn)]; exact q
   have hcn := (hf c z).1
   rcases hc with rfl | hc
   ·rw [hcn] at e; cases e
   ·rw [hcn] at hc; cases hc
theorem Inv.turnL {fp : List Addr} {h' : Heap} (I : Inv X pins σ H s) (hf : ∀ b ∈ fp, qCM X pins H b) (k : ∀ b o, b ∉ fp → s.heap.get? b = some o → h'.get? b = some o) : Inv X pins σ H { s with heap := h' } := by
 refine I.step (g' := s.gens) (d' := s.drawn) (t' := s.toks) (ch := fp) (fun b hb => ⟨(hf b hb).2.2.2.1, (hf b hb).2.1, (hf b hb).2.2.2.2.1, (hf b hb).2.2.2.2.2⟩) (fun b o _ _ hc e _ => k b o hc e) (fun b o _ _ hc e _ => ⟨o.slots, k b o hc e⟩)
  (fun b o _ e n => n) (fun b o hc e => ⟨o, k b o hc e⟩) (fun b ys e => e) (fun b o u e => e) (fun b ps e => ⟨#[], by rw [e]; simp⟩) (fun m hm => ?_) (fun b u e => ?_) I.bare
 ·obtain ⟨o, es, ep, ho, r⟩ := hm
  exact ⟨o, es, ep, k _ o (fun z => (hf _ z).2.1 rfl) ho, r⟩
 ·refine (I.hok b u e).stay (fun c v hc q => k c v (fun z => ?_) q) (fun c q => q) fun c ys q => q
  have hcn := (hf c z).1
  rcases hc with rfl | hc
  ·rw [hcn] at e; cases e
  ·rw [hcn] at hc; cases hc
end
noncomputable def Itz (tp : Bool) (K : PySem.W.Frag) (a b : Addr) : It :=
  ⟨fun i H => ∃ xs ys x y, Sq tp K H a xs ∧ Sq tp K H b ys ∧ xs[i]? = some x ∧ ys[i]? = some y,
   fun i H v H' => ∃ T x y, v = .ref T ∧ H T = none ∧ H' = upd H T (.tup [x, y]) ∧ (∀ xs, Sq tp K H a xs → xs[i]? = some x) ∧ ∀ ys, Sq tp K H b ys → ys[i]? = some y,
   fun i H => ∃ xs ys, Sq tp K H a xs ∧ Sq tp K H b ys ∧ (xs.length ≤ i ∨ ys.length ≤ i)⟩
noncomputable def qTu (tp : Bool) (z I O i j a b : Addr) (k : Nat) (h : Heap) : Prop := ∃ p q, IsZip h z I O .none ∧ IsPair h I (.ref i) (.ref j) ∧ IsPair h O p q ∧ qBW tp h i a k ∧ qBW tp h j b k
theorem qTg {P : Program} {w : World} {K : PySem.W.Frag} {elts : List Expr} {x1 : Nat} {tpos : Pos} {tp : Bool} {z I O i j a b : Addr} (D : ZA z I O i j) : Turn P w K (.Tuple elts x1 tpos) (Itz tp K a b) [z, I, O, i, j] z (qTu tp z I O i j a b) where
 mem := by simp
 obj := fun k h st c hc => by
  obtain ⟨p, q, s1, s2, s3, s4, s5⟩ := st
  simp only [List.mem_cons, List.not_mem_nil, or_false] at hc
  rcases hc with rfl | rfl | rfl | rfl | rfl
  ·exact ⟨_, s1, fun v y => by cases y⟩
  ·exact ⟨_, s2, fun v y => by cases y⟩
  ·exact ⟨_, s3, fun v y => by cases y⟩
  ·exact s4.there
  ·exact s5.there
 keep := fun k h h' st kp => by
  obtain ⟨p, q, s1, s2, s3, s4, s5⟩ := st
  exact ⟨p, q, kp z (by simp) _ s1, kp I (by simp) _ s2, kp O (by simp) _ s3, s4.keep fun o e => kp i (by simp) o e, s5.keep fun o e => kp j (by simp) o e⟩
 item := by
  intro X hP hw hK hc k pins s σ H E Iv hf st hg
  subst hP hw hK
  obtain ⟨p, q, s1, s2, s3, s4, s5⟩ := st
  obtain ⟨xs, ys, x, y, qa, qb, hx, hy⟩ := hg
  obtain ⟨ia, ra, ha⟩ := qa.at Iv
  obtain ⟨ib, rb, hb⟩ := qb.at Iv
  obtain ⟨u, hu, ru⟩ := ra.get hx
  obtain ⟨u', hu', ru'⟩ := rb.get hy
  have off : ∀ {c : Addr} {zs : List V}, Sq tp X.K H c zs → Off z O i j c := fun {c zs} qc => ⟨qc.off Iv (hf z (by simp)), qc.off Iv (hf O (by simp)), qc.off Iv (hf i (by simp)), qc.off Iv (hf j (by simp))⟩
  have hT : s.TypeIs (.ref z) "zip" := ⟨_, s1, rfl⟩
  unfold pyNext
  refine wpAny_bind (wpAny_attempt (wpAny_callSpecial?_slot (name := Str.ofString "__next__") hT F.slot_zip_next (wpAny_call_entry F.slot_zip_next hT F.entry_zip_next
   (qTn D (off qa) (off qb) s1 s2 s3 s4 s5 ha hb (by simpa using hu) (by simpa using hu') fun h' a1 a2 a3 a4 a5 a6 a7 => wpAny_pure ?_) (F.args_zip_next_1 _))))
  refine ⟨_, rfl, wpAny_letOwnedTupleGo_zip (s := { s with heap := h' }) a1 fun h2 b1 b2 => ?_⟩
  have up : ∀ c o, c ≠ z → h'.get? c = some o → h2.get? c = some o := fun c o n e => (b2.2 c n).trans e
  have zl : z < s.heap.objs.size := Heap.lt_size s1
  have T2 : IsPair h2 s.heap.objs.size u u' := up _ _ (Nat.ne_of_gt zl) a5
  have st2 : qTu tp z I O i j a b (k + 1) h2 := ⟨u, u', b1, up _ _ D.Iz (a7 I _ D.Iz D.IO D.Ii D.Ij s2), up _ _ D.Oz a2, a3.keep fun o e => up _ o D.iz e, a4.keep fun o e => up _ o D.jz e⟩
  refine ⟨.ref s.heap.objs.size, upd H s.heap.objs.size (.tup [x, y]), ?_, rfl, ⟨_, x, y, rfl, Iv.hok.fresh (Nat.le_refl _), rfl, fun zs qz => by rw [qz.inj Iv qa]; exact hx, fun zs qz => by rw [qz.inj Iv qb]; exact hy⟩, st2, fun c hc => ?_⟩
  ·show L2.Inv X pins σ (upd H s.heap.objs.size (.tup [x, y])) { s with heap := h2 }
   refine Inv.turnLay (fp := [z, I, O, i, j]) (its := [u, u']) Iv hf (fun c o hc e => ?_) (fun c hc => ?_) (Nat.le_refl _) (.cons ru (.cons ru' .nil)) ⟨_, T2, rfl, _, rfl⟩ (by show 2 ≤ sizeLine; decide)
   ·simp only [List.mem_cons, List.not_mem_nil, or_false, not_or] at hc
    exact up c o hc.1 (a7 c o hc.1 hc.2.2.1 hc.2.2.2.1 hc.2.2.2.2 e)
   ·obtain ⟨p', q', t1, t2, t3, t4, t5⟩ := st2
    simp only [List.mem_cons, List.not_mem_nil, or_false] at hc
    rcases hc with rfl | rfl | rfl | rfl | rfl
    ·exact ⟨_, t1⟩
    ·exact ⟨_, t2⟩
    ·exact ⟨_, t3⟩
    ·obtain ⟨o, e, _⟩ := t4.there; exact ⟨o, e⟩
    ·obtain ⟨o, e, _⟩ := t5.there; exact ⟨o, e⟩
  ·have hn := (hf c hc).1
   rw [qAa ?_]
   ·exact hn
   ·rintro rfl
    obtain ⟨o, e, _⟩ : ∃ o, s.heap.get? s.heap.objs.size = some o ∧ True := by
     simp only [List.mem_cons, List.not_mem_nil, or_false] at hc
     rcases hc with e | e | e | e | e
     ·exact ⟨_, e ▸ s1, trivial⟩
     ·exact ⟨_, e ▸ s2, trivial⟩
     ·exact ⟨_, e ▸ s3, trivial⟩
     ·obtain ⟨o, e', _⟩ := s4.there; exact ⟨o, e ▸ e', trivial⟩
     ·obtain ⟨o, e', _⟩ := s5.there; exact ⟨o, e ▸ e', trivial⟩
    exact absurd (Heap.lt_size e) (Nat.lt_irrefl _)
 done := by
  intro X hP hw hK hc k pins s σ H E Iv hf st hg
  subst hP hw hK
  obtain ⟨p, q, s1, s2, s3, s4, s5⟩ := st
  obtain ⟨xs, ys, qa, qb, hend⟩ := hg
  obtain ⟨ia, ra, ha⟩ := qa.at Iv
  obtain ⟨ib, rb, hb⟩ := qb.at Iv
  have off : ∀ {c : Addr} {zs : List V}, Sq tp X.K H c zs → Off z O i j c := fun {c zs} qc => ⟨qc.off Iv (hf z (by simp)), qc.off Iv (hf O (by simp)), qc.off Iv (hf i (by simp)), qc.off Iv (hf j (by simp))⟩
  have hT : s.TypeIs (.ref z) "zip" := ⟨_, s1, rfl⟩
  have l1 := ra.length
  have l2 := rb.length
  unfold pyNext
  refine wpAny_bind (wpAny_attempt (wpAny_callSpecial?_slot (name := Str.ofString "__next__") hT F.slot_zip_next (wpAny_call_entry F.slot_zip_next hT F.entry_zip_next
   (qTo (Iv.ok.hd hc) D (off qa) (off qb) s1 s2 s3 s4 s5 ha hb ?_ fun h' e kp he => ?_) (F.args_zip_next_1 _))))
  ·rcases hend with y | y
   ·exact .inl (by simp; omega)
   ·exact .inr (by simp; omega)
  ·obtain ⟨o, ho, hcl⟩ := he
   refine wpAny_bind (wpAny_isInstance (T := "StopIteration") (b := true) ⟨o, ho, hcl⟩ isSubtype_stop (wpAny_pure ⟨rfl, Inv.turnL (fp := [z, I, O, i, j]) Iv hf fun c o hc e => ?_⟩))
   simp only [List.mem_cons, List.not_mem_nil, or_false, not_or] at hc
   exact kp c o hc.1 hc.2.2.1 hc.2.2.2.1 hc.2.2.2.2 e
 self := fun _ _ _ _ _ st h => by
  obtain ⟨p, q, s1, _⟩ := st
  exact wpAny_pyIter_zip s1 h
end DL
end
section
namespace DL
open PySem PySem.Spec PyProof.Rows L2
noncomputable def qFN (xs ys : List D) : List D := List.zipWith (fun x y => D.tup [x, y]) xs ys
noncomputable def qRF (ds : List D) : Option (List D) := match ds with
 | [.tup xs, .tup ys] => some (qFN xs ys)
 | [.lst xs, .lst ys] => some (qFN xs ys)
 | _ => none
noncomputable def qOO (f : DA) : DI := fun env S => (f env S).bind fun ds S1 => qFJ (qRF ds) S1
theorem qTm {xs ys : List D} {i : Nat} : (qFN xs ys)[i]? = match xs[i]?, ys[i]? with | some x, some y => some (D.tup [x, y]) | _, _ => none := by
 unfold qFN
 rw [List.getElem?_zipWith]
 cases xs[i]? <;> cases ys[i]? <;> rfl
theorem qLe (xs ys : List D) : (qFN xs ys).length = min xs.length ys.length := by simp [qFN]
section
variable {K : PySem.W.Frag}
theorem Sq.mono {tp : Bool} {P P' : Hp} (e : qAJ P P') {a : Addr} {xs : List V} (q : Sq tp K P a xs) : Sq tp K P' a xs := by
 cases tp with
 | true => exact qFK e q
 | false => exact e.seq q
theorem qU4 {tp : Bool} {P : Hp} {α : List Addr} {a b : Addr} {xs ys : List D} {vs ws : List V} (qa : Sq tp K P a vs) (qb : Sq tp K P b ws) (ta : qAL K P α xs vs) (tb : qAL K P α ys ws) : ItD K (Itz tp K a b) P α (qFN xs ys) where
 go := fun i H P1 α1 S hi r e _ => by
  rw [qLe] at hi
  have h1 : i < vs.length := by rw [← ta.length]; omega
  have h2 : i < ws.length := by rw [← tb.length]; omega
  exact ⟨vs, ws, vs[i], ws[i], qa.mono (e.trans r.sub), qb.mono (e.trans r.sub), by simp, by simp⟩
 yld := fun i H x H' P1 α1 S hi r e e2 y => by
  obtain ⟨T, u, w, rfl, hT, rfl, hu, hw⟩ := y
  rw [qLe] at hi
  have h1 : i < xs.length := by omega
  have h2 : i < ys.length := by omega
  obtain ⟨v1, z1, p1⟩ := ta.get (List.getElem?_eq_getElem h1)
  obtain ⟨v2, z2, p2⟩ := tb.get (List.getElem?_eq_getElem h2)
  have eu := hu vs (qa.mono (e.trans r.sub))
  have ew := hw ws (qb.mono (e.trans r.sub))
  rw [z1] at eu; cases eu
  rw [z2] at ew; cases ew
  obtain ⟨r1, s1⟩ := r.pure (o := .tup [u, w]) hT
  refine ⟨_, .tup [xs[i], ys[i]], ?_, r1, s1, ?_⟩
  ·rw [qTm, List.getElem?_eq_getElem h1, List.getElem?_eq_getElem h2]
  ·exact qQW (.of qA5) (.cons (Rep.mono (e.trans s1) e2 _ _ p1) (.cons (Rep.mono (e.trans s1) e2 _ _ p2) .nil))
 stop := fun i H P1 α1 S hi r e _ => by
  rw [qLe] at hi
  have l1 := ta.length
  have l2 := tb.length
  exact ⟨vs, ws, qa.mono (e.trans r.sub), qb.mono (e.trans r.sub), by omega⟩
end
section
variable {X : Cx} {e1 e2 : Expr} {elts : List Expr} {x1 : Nat} {tpos : Pos} {f : DA} {p pos : Pos}
theorem qSY {tp : Bool} {pins : List (Addr × Obj)} {σ : L2.St} {H P : Hp} {α : List Addr} {S : Sto} {s : Shared} {a b : Addr} {xs ys : List D} {vs ws : List V} {R : It → Hp → Prop} (I : Inv X pins σ H s) (r : Rel X.K H P α S) (qa : Sq tp X.K P a vs) (qb : Sq tp X.K P b ws) (ta : qAL X.K P α xs vs) (tb : qAL X.K P α ys ws)
  (q : OkI X P α R (qFN xs ys) S) : wpAny (model X.prog X.w) X.A (call (.type "zip") [.ref a, .ref b]) (fun v s1 => wpAny (model X.prog X.w) X.A (pyIter v) (PIE X pins σ (.Tuple elts x1 tpos) R) X.xe s1) X.xe s := by
 obtain ⟨ia, ra, ha⟩ := (qa.mono r.sub).at I
 obtain ⟨ib, rb, hb⟩ := (qb.mono r.sub).at I
 refine qSe ha hb fun h' z1 z2 z3 z4 z5 z6 z7 => ?_
 refine wpAny_pyIter_zip (s := { s with heap := h' }) z1 ?_
 have D : ZA (s.heap.objs.size + 4) (s.heap.objs.size + 2) (s.heap.objs.size + 3) s.heap.objs.size (s.heap.objs.size + 1) := by constructor <;> (intro z; simp at z)
 refine ⟨_, [s.heap.objs.size + 4, s.heap.objs.size + 2, s.heap.objs.size + 3, s.heap.objs.size, s.heap.objs.size + 1], _, _, H, rfl, I.kept (t' := s.toks) z7, qTg (a := a) (b := b) D, ⟨_, _, z1, z2, z3, z4, z5⟩, fun c hc => ?_, q _ _ P α r (qAJ.refl _) (List.prefix_refl _) (qU4 qa qb ta tb)⟩
 have hl : s.heap.objs.size ≤ c := by
  simp only [List.mem_cons, List.not_mem_nil, or_false] at hc
  rcases hc with rfl | rfl | rfl | rfl | rfl <;> simp
 exact I.fpOk hl (I.hok.fresh hl)
set_option tactic.hygienic true in
theorem qWP (hg : Gl X "zip") (hm : X.mg "zip" = none) (ha : PA X [e1, e2] (tDA X f)) (hs : autoParam (starEach [e1, e2] X.env = (false, eval e1 X.env) :: starEach [e2] X.env) au3._auto_1) (hpl : autoParam ((backTo pos (starEach [e2] X.env)).any (·.1) = false) au3._auto_1) :
  PI X (.Tuple elts x1 tpos) (.Call (.Name "zip" p) [e1, e2] [] pos) (tDI X (qOO f)) := by
 intro pins s σ H R I h
 obtain ⟨P, α, env, S, r, re, af⟩ := h
 refine Call_ (qH9 I hg hm boot_zip (PyProof.Rows.callWith_type1 (thn (qDx ha I r re af pos) fun us s1 ⟨vs, H1, P1, α1, ds, S1, I1, rv, r1, re1, rp, e1, e2, af1⟩ => ?_) hs hpl))
 obtain ⟨its, hi, q⟩ := qGI af1
 unfold qRF at hi
 split at hi
 ·rename_i xs ys
  cases hi
  obtain ⟨v, w, u, x, rfl, rfl, p1, p2, q1, q2⟩ := qKA rp rv
  simp only [Rep] at p1 p2
  obtain ⟨a, va, rfl, qa, ta⟩ := p1
  obtain ⟨b, vb, rfl, qb, tb⟩ := p2
  cases (show u = Value.ref a from q1)
  cases (show x = Value.ref b from q2)
  exact qSY (tp := true) I1 r1 qa qb ta tb (q.base e1 e2)
 ·rename_i xs ys
  cases hi
  obtain ⟨v, w, u, x, rfl, rfl, p1, p2, q1, q2⟩ := qKA rp rv
  simp only [Rep] at p1 p2
  obtain ⟨a, va, rfl, qa, ta⟩ := p1
  obtain ⟨b, vb, rfl, qb, tb⟩ := p2
  cases (show u = Value.ref a from q1)
  cases (show x = Value.ref b from q2)
  exact qSY (tp := false) I1 r1 qa.l qb.l ta tb (q.base e1 e2)
 ·cases hi
end
end DL
end
section
namespace DL
open PySem PySem.Spec PyProof.Rows L2
noncomputable def Src (K : PySem.W.Frag) (mg : Str → Option Value) (x : Str) (st : Stmt) (ps : List Str) : Prop := ∃ f fd, mg x = some (.ref f) ∧ Fun K x x st f fd ∧ qFO K fd ps []
noncomputable def Lk (K : PySem.W.Frag) (f : Addr) (fd : FuncData) : Prop := ∃ oc od osl, K.lookup f = some ⟨oc, od, .func fd, osl⟩
theorem qNw {K : PySem.W.Frag} {x q : Str} {st : Stmt} {f : Addr} {fd : FuncData} (F : Fun K x q st f fd) : Lk K f fd := by
 obtain ⟨oc, od, kV, doc, pm, an, cdv, ct, osl, _, lk, _⟩ := F.ex
 exact ⟨oc, od, osl, lk⟩
theorem Lk.one {K : PySem.W.Frag} {f : Addr} {fd fd' : FuncData} (h : Lk K f fd) (h' : Lk K f fd') : fd = fd' := by
 obtain ⟨oc, od, osl, e⟩ := h
 obtain ⟨oc', od', osl', e'⟩ := h'
 rw [e] at e'
 cases e'
 rfl
noncomputable def Def (P : Program) (w : World) (K : PySem.W.Frag) (mg : Str → Option Value) (base : Heap) (cm : Bool) (k : Nat) (x : Str) (n : Nat) (F : DF) : Prop :=
 ∃ f fd ps, ps.length = n ∧ mg x = some (.ref f) ∧ PySem.W.keepIn K (.ref f) = true ∧ qFO K fd ps [] ∧ Lk K f fd ∧ FnX P w K mg base cm k f fd ps (spD K n F)
noncomputable def qN1 (P : Program) (w : World) (K : PySem.W.Frag) (mg : Str → Option Value) (base : Heap) (cm : Bool) (k : Nat) (x : Str) (ps : List Str) (F : DF) : Prop :=
 ∃ f fd, mg x = some (.ref f) ∧ PySem.W.keepIn K (.ref f) = true ∧ qFO K fd ps [] ∧ Lk K f fd ∧ FnX P w K mg base cm k f fd ps (spD K ps.length F)
section
variable {P : Program} {w : World} {K : PySem.W.Frag} {mg : Str → Option Value} {base : Heap} {cm : Bool}
theorem qWL {x : Str} {st : Stmt} {N ps : List Str} {k : Nat} {g : DS} (h : Src K mg x st ps) (S : FnScope N ps (qAB st))
  (hbody : ∀ (f : Addr) (cdv : Value) (A : Around) (outer : List Env) (s : Shared) (H : Hp) (E : XK), RoomC cm k (A.deeper (envOfC x (qAB st) s.heap.objs.size f cdv)) →
   PSs (cxC cm P w K mg base N x (qAB st) f cdv A outer s H E) (qAP st) (tDS (cxC cm P w K mg base N x (qAB st) f cdv A outer s H E) g)) : Def P w K mg base cm (k + 1) x ps.length (qAd N.length g) := by
 obtain ⟨f, fd, hm, F, hb⟩ := h
 exact ⟨f, fd, ps, rfl, hm, F.kp, hb, qNw F, fnX F S fun cdv A outer s H E hr => hbody f cdv A outer s H E hr⟩
theorem qUX {x : Str} {st : Stmt} {N ps : List Str} {k : Nat} {g : DS} (h : Src K mg x st ps) (S : FnScope N ps (qAB st))
  (hbody : ∀ (f : Addr) (cdv : Value) (A : Around) (outer : List Env) (s : Shared) (H : Hp) (E : XK), RoomC cm k (A.deeper (envOfC x (qAB st) s.heap.objs.size f cdv)) →
   PSs (cxC cm P w K mg base N x (qAB st) f cdv A outer s H E) (qAP st) (tDS (cxC cm P w K mg base N x (qAB st) f cdv A outer s H E) g)) : qN1 P w K mg base cm (k + 1) x ps (qAd N.length g) := by
 obtain ⟨f, fd, hm, F, hb⟩ := h
 exact ⟨f, fd, hm, F.kp, hb, qNw F, fnX F S fun cdv A outer s H E hr => hbody f cdv A outer s H E hr⟩
end
section
variable {X : Cx} {cm : Bool} {k n : Nat} {F : DF} {x : Str} {p pos : Pos} {e : Expr} {es : List Expr} {fa : DA}
theorem dcN (G : Def X.prog X.w X.K X.mg X.base cm k x n F) (hr : RoomC cm k X.A) (hF : Fn1 X) (hg : Gl X x) (ha : PA X (e :: es) (tDA X fa)) (hdb : autoParam ((x == ("__debug__" : Str)) = false) au2._auto_1) (he : autoParam (starEach (e :: es) X.env = (false, eval e X.env) :: starEach es X.env) au3._auto_1) (hpl : autoParam ((backTo pos (starEach es X.env)).any (·.1) = false) au3._auto_1) :
  PE X (.Call (.Name x p) (e :: es) [] pos) (tD X (qAK n F fa)) := by
 obtain ⟨f, fd, ps, hn, hm, kp, hb, hl, G⟩ := G
 exact qUR G hr hF hg hm kp hb ha hdb he hpl
theorem qRb {C : Addr} (hg : Gl X x) (hm : X.mg x = some (.ref C)) (hk : PySem.W.keepIn X.K (.ref C) = true) (hd : autoParam ((x == ("__debug__" : Str)) = false) au2._auto_1) : PE X (.Name x pos) (tD X (dC (.obj C))) :=
 qUT hg hm (v := .ref C) rfl (fun P α => by simp only [Rep]; exact ⟨trivial, hk⟩) hd
end
noncomputable def qCU : DF := fun ds S => match ds with
 | [.dct0] => .bad
 | _ => qQr ds S
theorem qUH {X : Cx} : qF9 X (.builtin "len") qCU := qV2 trivial
noncomputable def qJV : DE := fun _ _ => .bad
theorem qV9 {X : Cx} {e : Expr} : PE X e (tD X qJV) := fun _ _ _ _ _ _ ⟨_, _, _, _, _, _, h⟩ => False.elim h
theorem qTx : ∃ C : Int → Int → Bool, C = qMQ := ⟨_, rfl⟩
noncomputable def qTw : Int → Int → Bool := Classical.choose qTx
theorem qKl : qTw = qMQ := Classical.choose_spec qTx
noncomputable def qAq : G2 := i2 qTw fun i j => .int (i * j)
theorem qQP {X : Cx} : OpD X (binaryOp .Mult) qAq := by
 unfold qAq
 rw [qKl]
 exact qVH
theorem hu1 {cm : Bool} {k : Nat} {A : Around} (hr : RoomC cm k A) : A.units + 1 < cLine := by have := hr.units; omega
theorem qJP : bootBuiltins "int" = some (.type "int") := by decide +kernel
theorem qMO : bootBuiltins "bool" = some (.type "bool") := by decide +kernel
theorem qKk : bootBuiltins "tuple" = some (.type "tuple") := by decide +kernel
theorem qMP : bootBuiltins "list" = some (.type "list") := by decide +kernel
theorem qRL : bootBuiltins "str" = some (.type "str") := by decide +kernel
theorem qNh : bootBuiltins "ValueError" = some (.type "ValueError") := by decide +kernel
theorem qAT : bootBuiltins "isinstance" = some (.builtin "isinstance") := by decide +kernel
theorem qJQ : bootBuiltins "len" = some (.builtin "len") := by decide +kernel
end DL
end
section
namespace DL
open PySem PySem.Spec PyProof.Rows L2
section
variable {X : Cx}
theorem qUw : IpD X .Mult qAq := by
 intro pins s σ H x y v u Q I rx ry h
 obtain ⟨P, α, S, a, b, r, pa, pb, af⟩ := h
 unfold qAq at af
 obtain ⟨i, j, rfl, rfl, hc, ok⟩ := qLz af
 rw [qKl] at hc
 unfold qMQ at hc
 rw [Bool.or_eq_true] at hc
 cases qBa pa
 cases qBa pb
 obtain ⟨t, rfl⟩ := rx
 obtain ⟨t', rfl⟩ := ry
 have hm : qQh i j := by
  rcases hc with hc | hc
  ·exact .inl (of_decide_eq_true hc)
  ·exact .inr (of_decide_eq_true hc)
 exact imul_int ⟨.int _, H, I.tok _, ⟨_, rfl⟩, xr ok r (by simp only [Rep])⟩ hm.ok
theorem qUv : IpD X .FloorDiv qIf := by
 intro pins s σ H x y v u Q I rx ry h
 obtain ⟨P, α, S, a, b, r, pa, pb, af⟩ := h
 obtain ⟨i, j, rfl, rfl, hc, ok⟩ := qLz af
 have h1 : 0 < j ∧ j < 1073741824 := of_decide_eq_true hc
 cases qBa pa
 cases qBa pb
 obtain ⟨t, rfl⟩ := rx
 obtain ⟨t', rfl⟩ := ry
 refine ifloordiv_int (by omega) ?_ (.inl (PyProof.noPylong_small (by omega)))
 rw [Int.fdiv_eq_ediv_of_nonneg i (by omega)]
 exact ⟨.int _, H, I.tok _, ⟨_, rfl⟩, xr ok r (by simp only [Rep])⟩
end
end DL
end
section
namespace DL
open PySem PySem.Spec PyProof.Rows L2
structure QE (X : Cx) (e : Expr) (f : DE) : Prop where
 get : PE X e (tD X f)
structure QT (X : Cx) (e : Expr) (t : DT) : Prop where
 get : PT X e (tDT X t)
structure QW (X : Cx) (e : Expr) (t : DT) : Prop where
 get : PWD X e t
structure QA (X : Cx) (es : List Expr) (f : DA) : Prop where
 get : PA X es (tDA X f)
structure QO (X : Cx) (e : Option Expr) (f : DO) : Prop where
 get : PO X e (tDO X f)
structure QG (X : Cx) (t : Expr) (g : DG) : Prop where
 get : PG X t (tDG X g)
structure QGs (X : Cx) (ts : List Expr) (g : DGs) : Prop where
 get : PGs X ts (qPU X g)
structure QI (X : Cx) (tg it : Expr) (f : DI) : Prop where
 get : PI X tg it (tDI X f)
structure QS (X : Cx) (s : Stmt) (f : DS) : Prop where
 get : PS X s (tDS X f)
structure QB (X : Cx) (ss : List Stmt) (f : DS) : Prop where
 get : PSs X ss (tDS X f)
structure QJ (X : Cx) (es : List Expr) (fs : List DE) : Prop where
 get : PJ X es fs
structure ZOp (X : Cx) (f : Value → Value → Sem Value) (g : G2) : Prop where
 get : OpD X f g
structure ZUn (X : Cx) (f : Value → Sem Value) (g : D → Sto → Res D) : Prop where
 get : UnD X f g
structure ZIx (X : Cx) (g : G2) : Prop where
 get : IxD X g
structure ZCall (X : Cx) (f : Value) (F : DF) : Prop where
 get : qF9 X f F
structure ZMt (X : Cx) (id : String) (g : D → List D → Sto → Res D) : Prop where
 get : MtD X id g
structure ZIp (X : Cx) (op : Operator) (g : G2) : Prop where
 get : IpD X op g
structure ZSet (X : Cx) (g : G3) : Prop where
 get : qN2 X (qN0 X g)
structure ZPass (X : Cx) : Prop where
 get : PassesOwn (model X.prog X.w) X.A X.env X.xe
section
variable {X : Cx} {a b c e e1 e2 o i : Expr} {es rest : List Expr} {fa fb fc fe fo fi : DE} {ta tb : DT} {fA : DA} {f g : DS} {st : Stmt} {sts : List Stmt} {x : Str} {p pos : Pos} {n k : Nat} {cm : Bool} {F : DF} {G2' : G2}
theorem qPA {j} : QE X (.Constant .none j pos) (dC .non) := ⟨qWF⟩
theorem qC4 {v j} : QE X (.Constant (.bool v) j pos) (dC (.bl v)) := ⟨qX7⟩
theorem qAG {v j} : QE X (.Constant (.int v) j pos) (dC (.int v)) := ⟨qWE⟩
theorem qB0 {v j} : QE X (.Constant (.str v) j pos) (dC (.str v)) := ⟨qWI⟩
theorem qAF (m : Nat) (hN : X.N[m]? = some x) (hv : Vis X.env.scope x) (hd : (x == ("__debug__" : Str)) = false) (hcd : (x == ("__classdict__" : Str)) = false) : QE X (.Name x pos) (qAD m) := ⟨dv m hN hv hd hcd⟩
theorem qB4 {nm : String} (hg : Gl X x) (hm : X.mg x = none) (hv : bootBuiltins x = some (.type nm)) (hn : x ≠ "__name__") (hd : (x == ("__debug__" : Str)) = false) : QE X (.Name x pos) (dC (.ty nm)) := ⟨qUQ hg hm hv hn hd⟩
theorem qCo {C : Addr} (hg : Gl X x) (hm : X.mg x = some (.ref C)) (hk : PySem.W.keepIn X.K (.ref C) = true) (hd : (x == ("__debug__" : Str)) = false) : QE X (.Name x pos) (dC (.obj C)) := ⟨qRb hg hm hk hd⟩
theorem qIP : QE X e qJV := ⟨qV9⟩
theorem qYl {op : UnaryOp} {h : D → Sto → Res D} (ho : ZUn X (unaryOp op) h) (ha : QE X a fa) : QE X (.UnaryOp op a pos) (d1 h fa) := ⟨qYC ho.1 ha.1⟩
theorem qXf (ha : QE X a fa) : QE X (.UnaryOp .Not a pos) (qSl fa) := ⟨qWG ha.1⟩
theorem qAS {op : Operator} (ho : ZOp X (binaryOp op) G2') (ha : QE X a fa) (hb : QE X b fb) : QE X (.BinOp a op b pos) (d2 G2' fa fb) := ⟨qYA ho.1 ha.1 hb.1⟩
theorem qCp {op : CmpOp} (ho : ZOp X (compareOp op) G2') (ha : QE X a fa) (hb : QE X b fb) (hm : behindInMarks op b = false := by first | exact qL6 _ | with_unfolding_all rfl) : QE X (.Compare a [op] [b] pos) (d2 G2' fa fb) := ⟨qWA ho.1 ha.1 hb.1 hm⟩
theorem qTU {op op' : CmpOp} {g' : G2} (ho : ZOp X (compareOp op) G2') (ho' : ZOp X (compareOp op') g') (ha : QE X a fa) (hb : QE X b fb) (hc : QE X c fc) (hm : autoParam (lastMarks [op, op'] [b, c] = false) au6._auto_1) : QE X (.Compare a [op, op'] [b, c] pos) (qOM G2' g' fa fb fc) := ⟨qSp ho.1 ho'.1 ha.1 hb.1 hc.1 hm⟩
theorem qJq {op} (h : QE X a fa) : QE X (.BoolOp op [a] pos) fa := ⟨qWH h.1⟩
theorem qJo (ha : QE X a fa) (hb : QE X (.BoolOp .And (b :: rest) pos) fb) : QE X (.BoolOp .And (a :: b :: rest) pos) (qHL fa fb) := ⟨qV8 ha.1 hb.1⟩
theorem qYk (ha : QE X a fa) (hb : QE X (.BoolOp .Or (b :: rest) pos) fb) : QE X (.BoolOp .Or (a :: b :: rest) pos) (dOr fa fb) := ⟨qYB ha.1 hb.1⟩
theorem qYj (hc : QT X c ta) (ha : QE X a fa) (hb : QE X b fb) : QE X (.IfExp c a b pos) (dIf ta fa fb) := ⟨qX9 hc.1 ha.1 hb.1⟩
theorem qCA {x1} (h : QA X es fA) : QE X (.Tuple es x1 pos) (qBH fA) := ⟨qWK h.1⟩
theorem qBY (h : QA X es fA) : QE X (.List es pos) (qAv fA) := ⟨qRd h.1⟩
theorem qM0 (h : QA X es fA) : QE X (.List es pos) (qJ2 fA) := ⟨qUV h.1⟩
theorem qSD : QE X (.Dict [] [] pos) qON := ⟨qWB⟩
theorem qEg (ho : ZIx X G2') (ha : QE X a fa) (hb : QE X b fb) (hs : autoParam (qHc b) au5._auto_1) : QE X (.Subscript a b pos) (d2 G2' fa fb) := ⟨qTz ho.1 ha.1 hb.1 hs⟩
theorem qTV {lo hi : Option Expr} {fl fh : DO} {p2 : Pos} (he : QE X e fe) (hl : QO X lo fl) (hu : QO X hi fh) : QE X (.Subscript e (.Slice lo hi none p2) pos) (dSl fe fl fh) := ⟨qSr he.1 hl.1 hu.1⟩
theorem qQT (he : QE X e fe) : QO X (some e) (qGW fe) := ⟨qUb he.1⟩
theorem qSE (he : QE X e fe) : QE X (.FormattedValue e (-1) none pos) (d1 qHN fe) := ⟨qWC he.1⟩
theorem qXi : QJ X [] [] := ⟨qXW⟩
theorem qIQ {fs : List DE} (he : QE X e fe) (hr : QJ X es fs) : QJ X (e :: es) (fe :: fs) := ⟨qVR he.1 hr.1⟩
theorem qVY {fs : List DE} (h : QJ X (e1 :: e2 :: rest) fs) : QE X (.JoinedStr (e1 :: e2 :: rest) pos) (qLj fs) := ⟨qUU h.1⟩
theorem qAH : QA X [] qAE := ⟨qRS⟩
theorem qAC (ha : QE X e fa) (hr : QA X es fA) (hs : autoParam (starEach (e :: es) X.env = (false, eval e X.env) :: starEach es X.env) au3._auto_1) : QA X (e :: es) (qAA fa fA) := ⟨qP6 ha.1 hr.1 hs⟩
theorem qcN (G : Def X.prog X.w X.K X.mg X.base cm k x n F) (hr : RoomC cm k X.A) (hF : Fn1 X) (hg : Gl X x) (ha : QA X (e :: es) fA) (hdb : (x == ("__debug__" : Str)) = false) (he : autoParam (starEach (e :: es) X.env = (false, eval e X.env) :: starEach es X.env) au3._auto_1) (hpl : autoParam ((backTo pos (starEach es X.env)).any (·.1) = false) au3._auto_1) : QE X (.Call (.Name x p) (e :: es) [] pos) (qAK n F fA) := ⟨dcN G hr hF hg ha.1 hdb he hpl⟩
theorem qAj {id : String} (hc : ZCall X (.builtin id) F) (hg : Gl X x) (hm : X.mg x = none) (hv : bootBuiltins x = some (.builtin id)) (ha : QA X (e :: es) fA) (hn : x ≠ "__name__") (hdb : (x == ("__debug__" : Str)) = false) (he : autoParam (starEach (e :: es) X.env = (false, eval e X.env) :: starEach es X.env) au3._auto_1) (hpl : autoParam ((backTo pos (starEach es X.env)).any (·.1) = false) au3._auto_1) : QE X (.Call (.Name x p) (e :: es) [] pos) (qAO F fA) := ⟨qSo hc.1 hg hm hv ha.1 hn hdb he hpl⟩
theorem qJp {T : String} (hc : ZCall X (.type T) F) (hg : Gl X x) (hm : X.mg x = none) (hv : bootBuiltins x = some (.type T)) (ha : QA X (e :: es) fA) (hn : x ≠ "__name__") (hdb : (x == ("__debug__" : Str)) = false) (he : autoParam (starEach (e :: es) X.env = (false, eval e X.env) :: starEach es X.env) au3._auto_1) (hpl : autoParam ((backTo pos (starEach es X.env)).any (·.1) = false) au3._auto_1) : QE X (.Call (.Name x p) (e :: es) [] pos) (qAO F fA) := ⟨qRa hc.1 hg hm hv ha.1 hn hdb he hpl⟩
theorem qIn {T id : String} {name : Str} {apos : Pos} {h : D → List D → Sto → Res D} (pa : PlainAttrs T) (slot : Slot T name id) (hty : typeOf (.builtin id) = pure (.type "method_descriptor")) (hT : T = "list" ∨ T = "dict" ∨ T = "int" ∨ T = "str") (hm : ZMt X id h) (ho : QE X o fo) (ha : QA X (e :: es) fA)
  (hbase : autoParam (attributeBase o name X.env (eval o X.env) = eval o X.env) au3._auto_1)
  (hfew : autoParam (((backTo pos (starEach (e :: es) X.env)).all (fun x => !x.1) && (backToKw pos (keywordEach [] X.env)).all (fun x => x.1.isSome) && decide ((e :: es).length + ([] : List Keyword).length + (if ([] : List Keyword).isEmpty then 0 else 1) < 30)) = true) au3._auto_1)
  (hline : autoParam ((apos.endLine == pos.line) = true) au3._auto_1) (hs : autoParam (starEach (e :: es) X.env = (false, eval e X.env) :: starEach es X.env) au3._auto_1) (hplain : autoParam ((backTo pos (starEach es X.env)).any (·.1) = false) au3._auto_1) : QE X (.Call (.Attribute o name apos) (e :: es) [] pos) (dBm T h fo fA) := ⟨qX8 pa slot hty hT hm.1 ho.1 ha.1 hbase hfew hline hs hplain⟩
theorem qNy (h : QW X e ta) : QT X e ta := ⟨PWD.pt h.1⟩
theorem qVb (ha : QT X a ta) : QW X (.BoolOp .And [a] pos) ta := ⟨qUh ha.1⟩
theorem qPE (ha : QT X a ta) : QW X (.BoolOp .Or [a] pos) ta := ⟨qWe ha.1⟩
theorem qXk (ha : QT X a ta) (hb : QW X (.BoolOp .And (b :: rest) pos) tb) : QW X (.BoolOp .And (a :: b :: rest) pos) (qEW ta tb) := ⟨qWd ha.1 hb.1⟩
theorem qQ9 (ha : QT X a ta) (hb : QW X (.BoolOp .Or (b :: rest) pos) tb) : QW X (.BoolOp .Or (a :: b :: rest) pos) (qGR ta tb) := ⟨qYH ha.1 hb.1⟩
theorem qGt (ha : QT X a ta) : QT X (.UnaryOp .Not a pos) (qCQ ta) := ⟨qWb ha.1⟩
theorem qA8 {op : CmpOp} (ho : ZOp X (compareOp op) G2') (ha : QE X a fa) (hb : QE X b fb) (hm : behindInMarks op b = false := by first | exact qL6 _ | with_unfolding_all rfl) : QT X (.Compare a [op] [b] pos) (dTr (d2 G2' fa fb)) := ⟨qWa ho.1 ha.1 hb.1 hm⟩
theorem qDB (ha : QE X a fa) (he : autoParam (∀ whole, isTrue a X.env whole = (do let v ← whole; standAt a.pos; holding [v] (truthy v))) au4._auto_1) : QT X a (dTr fa) := ⟨qWc ha.1 he⟩
theorem qA7 {m : Nat} (hN : X.N.Nodup) (hi : X.N[m]? = some x) (hx : Loc X.env.scope x) (hf : X.fn x = true ∨ X.env.scope.names.lookup x = some .local) : QG X (.Name x pos) (gNm m) := ⟨qUY hN hi hx hf⟩
theorem qFH : QGs X [] qD5 := ⟨qUZ⟩
theorem qBl {h : DG} {gs : DGs} (h1 : QG X e h) (h2 : QGs X es gs) (hs : autoParam ((assignEach (e :: es) X.env).map (·.2) = assign e X.env :: (assignEach es X.env).map (·.2)) au3._auto_1) : QGs X (e :: es) (qBX h gs) := ⟨qSs h1.1 h2.1 hs⟩
theorem qGs {kk : Nat} {gs : DGs} (hc : X.calm = true) (h : QGs X es gs) (hn : autoParam ((assignEach es X.env).length = n) au3._auto_1) (hst : autoParam ((assignEach es X.env).findIdx? (·.1) = none) au3._auto_1) : QG X (.Tuple es kk pos) (gTp n gs) := ⟨qWN hc h.1 hn hst⟩
theorem qJr {h : G3} (ho : QE X o fo) (hi : QE X i fi) (hs : ZSet X h)
  (ha : autoParam (∀ v, assign (.Subscript o i pos) X.env v = (do
   let ov ← holding [v] (eval o X.env)
   let iv ← holding [v, ov] (eval i X.env)
   standAt pos
   holding [v, ov, iv] (setItem ov iv v)
   release [v, ov, iv] [])) au4._auto_1) : QG X (.Subscript o i pos) (gSb fo fi h) := ⟨qWM ho.1 hi.1 hs.1 ha⟩
theorem qJt {tg : Expr} (ha : QE X e fa) : QI X tg e (qCO fa) := ⟨qWO ha.1⟩
theorem qLR {tg : Expr} (hg : Gl X "range") (hm : X.mg "range" = none) (ha : QA X (e :: es) fA) (hs : autoParam (starEach (e :: es) X.env = (false, eval e X.env) :: starEach es X.env) au3._auto_1) (hpl : autoParam ((backTo pos (starEach es X.env)).any (·.1) = false) au3._auto_1) : QI X tg (.Call (.Name "range" p) (e :: es) [] pos) (qEX fA) := ⟨qSt hg hm ha.1 hs hpl⟩
theorem qXh {elts : List Expr} {x1 : Nat} {tpos : Pos} (hg : Gl X "zip") (hm : X.mg "zip" = none) (ha : QA X [e1, e2] fA) (hs : autoParam (starEach [e1, e2] X.env = (false, eval e1 X.env) :: starEach [e2] X.env) au3._auto_1) (hpl : autoParam ((backTo pos (starEach [e2] X.env)).any (·.1) = false) au3._auto_1) : QI X (.Tuple elts x1 tpos) (.Call (.Name "zip" p) [e1, e2] [] pos) (qOO fA) := ⟨qWP hg hm ha.1 hs hpl⟩
theorem qBS : QB X [] qAz := ⟨qWU⟩
theorem qAN (h : QS X st f) : QB X [st] f := ⟨qWV h.1⟩
theorem qAM (h1 : QS X st f) (h2 : QB X sts g) : QB X (st :: sts) (qAW f g) := ⟨qUc h1.1 h2.1⟩
theorem qJ8 (he : QE X e fa) (hs : autoParam (swapsWith e none pos.line X.env = pure false) au3._auto_1) : QS X (.Expr e pos) (qD7 fa) := ⟨qUd he.1 hs⟩
theorem qAr (he : QE X e fa) : QS X (.Return (some e) pos) (qAl fa) := ⟨qWX he.1⟩
theorem qBZ {as bs : List Stmt} (hc : QT X c ta) (ha : QB X as f) (hb : QB X bs g) : QS X (.If c as bs pos) (sIf ta f g) := ⟨qYF hc.1 ha.1 hb.1⟩
theorem qFI {body : List Stmt} (hp : ZPass X) (hc : QT X c ta) (hb : QB X body f) : QS X (.While c body [] pos) (qDC ta f) := ⟨qSw hp.1 hc.1 hb.1⟩
theorem qD1 {tg iter : Expr} {body : List Stmt} {fI : DI} {h : DG} (hp : ZPass X) (hc : X.calm = true) (hi : QI X tg iter fI) (hg : QG X tg h) (hb : QB X body f) (hs : autoParam (∀ x, foldedSetIterable iter X.env x = pure x) au4._auto_1) : QS X (.For tg iter body [] pos) (qCr fI h f) := ⟨qWT hp.1 hc hi.1 hg.1 hb.1 hs⟩
theorem qA0 {m : Nat} {pos' : Pos} (hN : X.N.Nodup) (he : QE X e fa) (hi : X.N[m]? = some x) (hx : Loc X.env.scope x) (hs : swapsWith e (some (.Name x pos')) pos.line X.env = pure false) (hf : X.fn x = true ∨ X.env.scope.names.lookup x = some .local) : QS X (.Assign [.Name x pos'] e pos) (qAs fa (gNm m)) := ⟨qWY hN he.1 hi hx hs hf⟩
theorem qIR {tg : Expr} {h : DG} (he : QE X e fa) (hg : QG X tg h) (hs : autoParam (swapsWithSole [tg] e pos.line X.env = pure false) au3._auto_1) (hw : autoParam (swappedStores [tg] e X.env = pure none) au3._auto_1) (h1 : autoParam ((assignEach [tg] X.env).map (·.2) = [assign tg X.env]) au3._auto_1) : QS X (.Assign [tg] e pos) (qAs fa h) := ⟨qWR he.1 hg.1 hs hw h1⟩
theorem qPB {m : Nat} {op : Operator} {pos' : Pos} (hN : X.N.Nodup) (he : QE X e fe) (ho : ZIp X op G2') (hi : X.N[m]? = some x) (hx : Loc X.env.scope x) (hf : X.fn x = true ∨ X.env.scope.names.lookup x = some .local) : QS X (.AugAssign (.Name x pos') op e pos) (qLS m G2' fe) := ⟨qWS hN he.1 ho.1 hi hx hf⟩
theorem qPC {m l : Nat} {y : Str} {px py pt : Pos} {kt k2 pt2} (hc : X.calm = true) (hN : X.N.Nodup) (ha : QA X [a, b] fA) (hi : X.N[m]? = some x) (hj : X.N[l]? = some y) (hij : m ≠ l) (hx : X.env.scope.names.lookup x = some .local) (hy : X.env.scope.names.lookup y = some .local)
  (hw : autoParam (swappedStores [.Tuple [.Name x px, .Name y py] kt pt] (.Tuple [a, b] k2 pt2) X.env = pure (some [x, y])) au3._auto_1) (hs : autoParam (swapsWithSole [.Tuple [.Name x px, .Name y py] kt pt] (.Tuple [a, b] k2 pt2) pos.line X.env = pure false) au3._auto_1) :
  QS X (.Assign [.Tuple [.Name x px, .Name y py] kt pt] (.Tuple [a, b] k2 pt2) pos) (qLT m l fA) := ⟨qWW hc hN ha.1 hi hj hij hx hy hw hs⟩
theorem qVa {m l q : Nat} {y z : Str} {px py pz pt : Pos} {kt k2 pt2} (hc : X.calm = true) (hN : X.N.Nodup) (ha : QA X [a, b, c] fA) (hi : X.N[m]? = some x) (hj : X.N[l]? = some y) (hk : X.N[q]? = some z) (hij : m ≠ l) (hik : m ≠ q) (hjk : l ≠ q) (hx : X.env.scope.names.lookup x = some .local) (hy : X.env.scope.names.lookup y = some .local) (hz : X.env.scope.names.lookup z = some .local)
  (hw : autoParam (swappedStores [.Tuple [.Name x px, .Name y py, .Name z pz] kt pt] (.Tuple [a, b, c] k2 pt2) X.env = pure (some [x, y, z])) au3._auto_1) (hs : autoParam (swapsWithSole [.Tuple [.Name x px, .Name y py, .Name z pz] kt pt] (.Tuple [a, b, c] k2 pt2) pos.line X.env = pure false) au3._auto_1) :
  QS X (.Assign [.Tuple [.Name x px, .Name y py, .Name z pz] kt pt] (.Tuple [a, b, c] k2 pt2) pos) (qRB m l q fA) := ⟨qUf hc hN ha.1 hi hj hk hij hik hjk hx hy hz hw hs⟩
theorem qTW {C Ae : Addr} {np cpos : Pos} (hc : X.calm = true) (hF : Fn1 X) (hg : Gl X x) (hm : X.mg x = some (.ref C)) (hx : qOH X.K C Ae = true) (ha : QA X (e :: rest) fA) (hdb : (x == ("__debug__" : Str)) = false) (he : autoParam (starEach (e :: rest) X.env = (false, eval e X.env) :: starEach rest X.env) au3._auto_1) (hpl : autoParam ((backTo cpos (starEach rest X.env)).any (·.1) = false) au3._auto_1) :
  QS X (.Raise (some (.Call (.Name x np) (e :: rest) [] cpos)) none pos) (qME (.ref C) fA) := ⟨qSv hc hF hg hm hx ha.1 hdb he hpl⟩
theorem qXj {nm : Str} {C0 : Addr} {m : Nat} {body : List Stmt} {b₀ : Stmt} {suite : List Stmt} {np hpos : Pos} {cs : List Value} (hF : Fn1 X) (hb : ∀ E pn, ZPass (Cx.tryIn X E pn) → QB (Cx.tryIn X E pn) body f) (hs : ∀ e, QB (Cx.suite X e) (b₀ :: suite) g) (hg : Gl X x) (hm : X.mg x = some (.ref C0)) (hcs : ∀ c ∈ cs, PySem.W.exmOne X.K c (.ref C0) = some true) (hN : X.N.Nodup) (hi : X.N[m]? = some nm) (hlo : X.env.scope.names.lookup nm = some .local) (hdb : (x == ("__debug__" : Str)) = false) (hn : X.N.length = n) :
  QS X (.Try body [.ExceptHandler (some (.Name x np)) (some nm) (b₀ :: suite) hpos] [] [] pos) (qM6 n m cs f g) := ⟨hn ▸ qWZ hF (fun E pn hp => (hb E pn ⟨hp⟩).1) (fun e => (hs e).1) hg hm hcs hN hi hlo hdb⟩
theorem qBe : ZOp X (binaryOp .Add) qAx := ⟨qW7⟩
theorem qKC : ZOp X (binaryOp .Sub) qEb := ⟨qXC⟩
theorem qCY : ZOp X (binaryOp .Mult) qAq := ⟨qQP⟩
theorem qUB : ZOp X (binaryOp .FloorDiv) qIf := ⟨qW8⟩
theorem qD8 : ZOp X (binaryOp .Mod) qCP := ⟨qXA⟩
theorem qFT : ZOp X (binaryOp .Pow) qB5 := ⟨qXB⟩
theorem qZf : ZOp X (compareOp .Lt) gLt := ⟨qYX⟩
theorem qIu : ZOp X (compareOp .LtE) gLe := ⟨qYW⟩
theorem qLd : ZOp X (compareOp .Gt) gGt := ⟨qYU⟩
theorem qZe : ZOp X (compareOp .GtE) gGe := ⟨qYT⟩
theorem qX3 : ZOp X (compareOp .Is) gIs := ⟨qYV⟩
theorem qDq (hr : RoomC cm k X.A) : ZOp X (compareOp .Eq) gEq := ⟨qYS hr.units⟩
theorem qPd (hr : RoomC cm k X.A) : ZOp X (compareOp .NotEq) gNe := ⟨qYY hr.units⟩
theorem qY4 : ZUn X (unaryOp .USub) qS2 := ⟨qXy⟩
theorem qG3 : ZIx X gIx := ⟨qWr⟩
theorem qDc : ZCall X (.builtin "isinstance") qBI := ⟨qRN⟩
theorem qCX {cl : List Addr} (h : ClsK X.K cl) : ZCall X (.builtin "isinstance") (qBy cl) := ⟨qUG h⟩
theorem qGG : ZCall X (.builtin "len") qCU := ⟨qUH⟩
theorem qIt : ZCall X (.type "int") qHM := ⟨qV1⟩
theorem qPc : ZMt X "list.append" qCm := ⟨qRx⟩
theorem qRE (hr : RoomC cm k X.A) : ZMt X "dict.get" qIg := ⟨qWz (hu1 hr)⟩
theorem qVo : ZMt X "list.count" qLq := ⟨qTI⟩
theorem qVp : ZMt X "list.index" qLr := ⟨qTJ⟩
theorem qX0 : ZIp X .Add qQt := ⟨qUu⟩
theorem qX2 : ZIp X .Mult qAq := ⟨qUw⟩
theorem qX1 : ZIp X .FloorDiv qIf := ⟨qUv⟩
theorem qMI (hr : RoomC cm k X.A) : ZSet X qDX := ⟨qXq (hu1 hr)⟩
end
section
variable {P : Program} {w : World} {K : PySem.W.Frag} {mg : Str → Option Value} {base : Heap} {cm : Bool}
theorem qBb {N : List Str} {qual : Str} {scope : Scope} {f : Addr} {cd : Value} {A : Around} {outer : List Env} {s : Shared} {H : Hp} {E : XK} : ZPass (cxC cm P w K mg base N qual scope f cd A outer s H E) := ⟨qSk⟩
theorem qCl {x : Str} {st : Stmt} {N ps : List Str} {k : Nat} {g : DS} {body : List Stmt} (h : Src K mg x st ps) (S : FnScope N ps (qAB st)) (hbd : qAP st = body)
  (hbody : ∀ (f : Addr) (cdv : Value) (A : Around) (outer : List Env) (s : Shared) (H : Hp) (E : XK), RoomC cm k (A.deeper (envOfC x (qAB st) s.heap.objs.size f cdv)) →
   QB (cxC cm P w K mg base N x (qAB st) f cdv A outer s H E) body g) : Def P w K mg base cm (k + 1) x ps.length (qAd N.length g) :=
 qWL h S fun f cdv A outer s H E hr => hbd ▸ (hbody f cdv A outer s H E hr).1
theorem qYD {x : Str} {st : Stmt} {N ps : List Str} {k : Nat} {g : DS} {body : List Stmt} (h : Src K mg x st ps) (S : FnScope N ps (qAB st)) (hbd : qAP st = body)
  (hbody : ∀ (f : Addr) (cdv : Value) (A : Around) (outer : List Env) (s : Shared) (H : Hp) (E : XK), RoomC cm k (A.deeper (envOfC x (qAB st) s.heap.objs.size f cdv)) →
   QB (cxC cm P w K mg base N x (qAB st) f cdv A outer s H E) body g) : qN1 P w K mg base cm (k + 1) x ps (qAd N.length g) :=
 qUX h S fun f cdv A outer s H E hr => hbd ▸ (hbody f cdv A outer s H E hr).1
theorem qUW {x : Str} {st : Stmt} {ps : List Str} (h : Src K mg x st ps) : Def P w K mg base cm 0 x ps.length fun _ _ => .bad := by
 obtain ⟨f, fd, hm, F, hb⟩ := h
 exact ⟨f, fd, ps, rfl, hm, F.kp, hb, qNw F, ⟨fun vs H Q E z => z.1, fun A outer s H args us vs Q E _ _ _ _ z => by obtain ⟨_, _, _, _, _, _, _, z⟩ := z; exact False.elim z⟩⟩
end
end DL
end
section
namespace DL
open PySem PySem.Spec PyProof.Rows L2
theorem qBc {K : PySem.W.Frag} {h : Heap} {mg : Str → Option Value} (X : K.In h) (G : h.Ns mainGlobals mg) {x : Str} {st : Stmt} {ps : List Str} {f : Addr} {oc : Value} {od an : Option Addr} {osl : Array (Option Value)} {kV doc pm cdv ct : Value}
  (a : PySem.W.nsIn K mainGlobals x = some (some (.ref f)))
  (l : K.lookup f = some ⟨oc, od, .func (PySem.W.fnOf x x (qAX st) (qAP st) (qAB st) .none kV doc pm an cdv ct), osl⟩) (c : PySem.W.codeIn K cdv x = true) (k : PySem.W.keepIn K (.ref f) = true)
  (hb : ∀ (kV doc pm : Value) (an : Option Addr) (cdv ct : Value) (us : List Value), us.length = ps.length → bindArgs (PySem.W.fnOf x x (qAX st) (qAP st) (qAB st) .none kV doc pm an cdv ct) ⟨us, []⟩ = pure (ps.zip us)) : Src K mg x st ps :=
 have F := qWl (st := st) l c k
 ⟨f, _, PySem.W.mg_of X G a, F, F.binds hb⟩
noncomputable def qOI (K : PySem.W.Frag) (C : Addr) : Bool :=
 decide (PySem.W.findIn K (.ref C) "__getattribute__" = some (some (.builtin "BaseException.__getattribute__"))) && decide (PySem.W.findIn K (.ref C) "__getattr__" = some none)
 && decide (PySem.W.findIn K (.ref C) "__class__" = some (some (.builtin "object.__class__"))) && decide (PySem.W.mroIn K C (.type "object") = some true) && decide (PySem.W.mroIn K C (.type "BaseException") = some true)
 && (PySem.W.clsIn K C).isSome && decide (PySem.W.kitOne K (.ref C) (.type "ValueError") = some true)
noncomputable def qSg (K : PySem.W.Frag) : Bool :=
 decide (PySem.W.specialIn K (.builtin "object.__class__") "__get__" = some (some (.builtin "getset_descriptor.__get__"))) && decide (PySem.W.takesIn K (.builtin "object.__class__") = some true)
noncomputable def qV3 (K : PySem.W.Frag) (cl : List Addr) : Bool := cl.all fun C => cl.all fun B => decide (PySem.W.kitOne K (.ref C) (.ref B) = some (C == B))
theorem qV4 {K : PySem.W.Frag} {cl : List Addr} (h1 : cl.all (qOI K) = true) (h2 : qSg K = true) (h3 : qV3 K cl = true) : ClsK K cl := by
 have g := h2
 unfold qSg at g
 simp only [Bool.and_eq_true, decide_eq_true_eq] at g
 have k1 : ∀ C ∈ cl, qOI K C = true := List.all_eq_true.mp h1
 refine ⟨fun C hC => ?_, fun C hC B hB => ?_, fun C hC => ?_⟩
 ·have e := k1 C hC
  unfold qOI at e
  simp only [Bool.and_eq_true, decide_eq_true_eq] at e
  obtain ⟨⟨⟨⟨⟨⟨e1, e2⟩, e3⟩, e4⟩, e5⟩, e6⟩, e7⟩ := e
  exact ⟨e1, e2, e3, g.1, g.2, e4, e5, e6⟩
 ·have e := List.all_eq_true.mp (List.all_eq_true.mp h3 C hC) B hB
  exact of_decide_eq_true e
 ·have e := k1 C hC
  unfold qOI at e
  simp only [Bool.and_eq_true, decide_eq_true_eq] at e
  exact e.2
noncomputable def qZF (K : PySem.W.Frag) (cs : List Value) (A : Addr) : Bool := cs.all fun v => decide (PySem.W.exmOne K v (.ref A) = some true)
noncomputable def qZD (K : PySem.W.Frag) (cs : List Addr) (A : Addr) : Bool := cs.all fun C => qOH K C A
noncomputable def qZE (K : PySem.W.Frag) (cs : List Addr) : Bool := cs.all fun C => PySem.W.keepIn K (.ref C)
noncomputable def qNz (K : PySem.W.Frag) : Sp := fun vs H Q E => ∃ a ns, vs = [.ref a] ∧ SqX K H a (List.map V.int ns) ∧ ns.length ≤ 63 ∧ ∀ H', Q (.bl true) H'
theorem qPK {K : PySem.W.Frag} {P : Hp} {α : List Addr} : ∀ ns : List Int, qAL K P α (ns.map D.int) (ns.map V.int)
 | [] => .nil
 | n :: ns => .cons (by simp only [Rep]) (qPK ns)
theorem qVA {P : Program} {w : World} {K : PySem.W.Frag} {mg : Str → Option Value} {fa : Addr} {st : Stmt} {k : Nat} {x : Str} (hs : Src K mg "law" st [x]) (hfa : mg "law" = some (.ref fa))
  (hbd : ∀ (kV doc pm : Value) (an : Option Addr) (cdv ct : Value) (s : Shared) (v : Value), BindsTo s (PySem.W.fnOf "law" "law" (qAX st) (qAP st) (qAB st) .none kV doc pm an cdv ct) ⟨[v], []⟩ [(x, v)])
  (hall : ∀ base : Heap, ∃ F, qN1 P w K mg base true k "law" [x] F ∧ ∀ ns : List Int, ns.length ≤ 63 → ∃ S, F [.lst (ns.map D.int)] [] = .ok (.bl true) S) :
  ∃ fd : FuncData, (∀ (s : Shared) (v : Value), BindsTo s fd ⟨[v], []⟩ [(x, v)]) ∧ ∀ base : Heap, K.In base → base.Ns mainGlobals mg → FnOk P w K mg base (CXd P w) k fa fd [x] (qNz K) := by
 obtain ⟨f, fd, hm, F, hb⟩ := hs
 cases hfa.symm.trans hm
 refine ⟨fd, ?_, fun base _ _ => ?_⟩
 ·obtain ⟨oc, od, kV, doc, pm, an, cdv, ct, osl, rfl, _, _⟩ := F.ex
  exact hbd kV doc pm an cdv ct
 ·obtain ⟨G, ⟨f', fd', hm', _, hb', hl, X⟩, hG⟩ := hall base
  cases hm.symm.trans hm'
  cases hl.one (qNw F)
  refine (X.imp fun vs H Q E h => ?_).ok
  obtain ⟨a, ns, rfl, hS, hl, k⟩ := h
  obtain ⟨S, e⟩ := hG ns hl
  refine ⟨rfl, H, [], [.lst (ns.map D.int)], [], ⟨qAJ.refl _, rfl, .nil, by simp, by simp, by simp⟩, .cons (qM4 hS (qPK ns)) .nil, ?_⟩
  rw [e]
  intro v H' P' α' _ _ _ rv
  simp only [Rep] at rv
  subst rv
  exact k H'
theorem qY1 {l : PySem.W.OpenLaw} {q : Program} {loose : List Str} {XP : (Str → Option Value) → Heap → Prop} {YP : World → Heap → Prop} {d : DefRec} {K : Params → PySem.W.Frag} {k : Nat} {x : Str} (hn : l.most = some 63) (hdf : d.params.defaults = []) (hr : Room k callerA)
  (hY : ∀ (w : World) (h : Heap), YP w h → (K w.params).In h)
  (F : ∀ (w : World) (mg : Str → Option Value) (fa : Addr) (h : Heap), (K w.params).In h → h.Ns mainGlobals mg → mg d.name = some (.ref fa) →
   ∃ fd : FuncData, (∀ (s : Shared) (u : Value), BindsTo s fd ⟨[u], []⟩ [(x, u)]) ∧ ∀ base : Heap, (K w.params).In base → base.Ns mainGlobals mg → FnOk l.prog w (K w.params) mg base (CXd l.prog w) k fa fd [x] (qNz (K w.params))) :
  PySem.W.WalkO q loose XP YP l.row.toRowW d [] (fun f vs => PySem.call f vs) :=
 L2.qVn (n := 63) (k := k) (x := x) (CX := fun w => CXd l.prog w) (sp := fun w => qNz (K w.params)) hn (by decide) hdf hr hY F (fun _ _ a ns hl _ hS => ⟨a, ns, rfl, hS, hl, fun _ => rfl⟩) fun w H s e s' h => by
  obtain ⟨_, _, _, _, _, _, _, _, _, _, _, _, z⟩ := h
  exact z
end DL
end
section
namespace DL
open PySem
theorem us0 {us : List Value} (h : us.length = 0) : us = [] := List.eq_nil_of_length_eq_zero h
theorem usS {us : List Value} {n : Nat} (h : us.length = n + 1) : ∃ a vs, us = a :: vs ∧ vs.length = n := by
 cases us with
 | nil => exact absurd h (by simp)
 | cons a vs => exact ⟨a, vs, rfl, by simpa using h⟩
theorem us1 {us : List Value} (h : us.length = 1) : ∃ a, us = [a] := by
 obtain ⟨a, vs, rfl, h'⟩ := usS h
 exact ⟨a, by rw [us0 h']⟩
theorem us2 {us : List Value} (h : us.length = 2) : ∃ a b, us = [a, b] := by
 obtain ⟨a, vs, rfl, h'⟩ := usS h
 obtain ⟨b, rfl⟩ := us1 h'
 exact ⟨a, b, rfl⟩
theorem us3 {us : List Value} (h : us.length = 3) : ∃ a b c, us = [a, b, c] := by
 obtain ⟨a, vs, rfl, h'⟩ := usS h
 obtain ⟨b, c, rfl⟩ := us2 h'
 exact ⟨a, b, c, rfl⟩
end DL
end
section
namespace DL
open PySem PySem.Spec PyProof.Rows L2
noncomputable def okO (F : DF) : DF := fun ds S => match F ds S with
 | .ok d S' => .ok d S'
 | _ => .bad
theorem qXE {F : DF} {ds : List D} {S S' : Sto} {d : D} (h : F ds S = .ok d S') : okO F ds S = .ok d S' := by unfold okO; rw [h]
section
variable {X : Cx} {cm : Bool} {k n : Nat} {F : DF} {x : Str} {p pos : Pos} {e : Expr} {es : List Expr} {fa : DA} {f : Addr} {fd : FuncData} {ps : List Str}
theorem qVg {pins : List (Addr × Obj)} {σ : L2.St} {H : Hp} {s : Shared} {Q : VK} {us : List Value} {vs : List V} {P : Hp} {α : List Addr} {ds : List D} {S : Sto} (G : FnX X.prog X.w X.K X.mg X.base cm k f fd ps (spD X.K n F)) (hr : RoomC cm k X.A) (hb : qFO X.K fd ps [])
  (I : Inv X pins σ H s) (r : Rel X.K H P α S) (rv : qAZ vs us) (rp : qAL X.K P α ds vs) (hn : ds.length = n) (af : qAp X P α (okO F ds S) Q) : wpAny (model X.prog X.w) X.A (call (.ref f) us) (EP X pins σ Q) X.xe s := by
 have hvn : vs.length = n := by rw [← rp.length]; exact hn
 have hsp : spD X.K n F vs H Q fun _ _ _ => False := by
  refine ⟨hvn, P, α, ds, S, r, rp, ?_⟩
  unfold okO at af
  cases q : F ds S with
  | ok d S' => rw [q] at af; exact af
  | ex c x S' => rw [q] at af; exact False.elim af
  | bad => rw [q] at af; exact af
 have hl : us.length = ps.length := by rw [← rv.length]; exact G.len _ _ _ _ hsp
 have hb' := hb s us I.kIn (by rw [List.append_nil]; exact hl)
 rw [List.append_nil] at hb'
 refine wpAny_call (codeAny_mono (G.run X.A X.stack s H ⟨us, []⟩ us vs Q _ hr I.env0 hb' rv hsp) fun r s' hq => ?_)
 cases r with
 | error u =>
  obtain ⟨_, _, _, _, _, _, _, _, _, _, _, _, z⟩ := hq
  exact False.elim z
 | ok fl =>
  cases fl with
  | ret u => exact I.after hq
  | next => exact False.elim hq
  | brk => exact False.elim hq
  | cont => exact False.elim hq
theorem dcO (G : Def X.prog X.w X.K X.mg X.base cm k x n F) (hr : RoomC cm k X.A) (hg : Gl X x) (ha : PA X (e :: es) (tDA X fa)) (hdb : autoParam ((x == ("__debug__" : Str)) = false) au2._auto_1) (he : autoParam (starEach (e :: es) X.env = (false, eval e X.env) :: starEach es X.env) au3._auto_1) (hpl : autoParam ((backTo pos (starEach es X.env)).any (·.1) = false) au3._auto_1) :
  PE X (.Call (.Name x p) (e :: es) [] pos) (tD X (qAK n (okO F) fa)) := by
 obtain ⟨f, fd, ps, hn0, hm, hk, hb, hl, G⟩ := G
 intro pins s σ H Q I h
 obtain ⟨P, α, env, S, r, re, af⟩ := h
 refine wpAny_Call_Name_kw (qIA I hg hm ?_ hdb)
 refine PySem.W.callWith_K (h₀ := X.base) I.ok.mod.kin hk (thn (qDx ha I r re af pos) fun us s1 ⟨vs, H1, P1, α1, ds, S1, I1, rv, r1, re1, rp, e1, e2, af1⟩ => ⟨I1.kIn, ?_⟩) he hpl
 obtain ⟨hn, af2⟩ := qNS (env := env) (S := S) af1
 exact qVg G hr hb I1 r1 rv rp hn (qAp.base e1 e2 af2)
end
end DL
end
section
namespace DL
open PySem PySem.Spec PyProof.Rows L2
section
variable {X : Cx} {scope : Scope} {N' : List Str} {cl : List (Str × Addr)} {C : Addr} {ex : List Addr} {s₀ : Shared} {H₀ : Hp} {x : Str}
set_option tactic.hygienic true in
theorem qEQ {env : Env} : ∀ {names : List (Str × NameKind)} {x : Str} {k : NameKind}, names.lookup x = some k →
  (names.map fun (n, k) => if (k == NameKind.free && env.scope.kind == .function && env.kindOf n == some .cell) then (n, NameKind.cell) else (n, k)).lookup x = some k ∨
  (k = .free ∧ (names.map fun (n, k) => if (k == NameKind.free && env.scope.kind == .function && env.kindOf n == some .cell) then (n, NameKind.cell) else (n, k)).lookup x = some .cell)
 | [], x, k, h => by simp at h
 | (n, k0) :: r, x, k, h => by
  rw [List.lookup_cons] at h
  rw [List.map_cons]
  dsimp only
  cases hx : x == n with
  | true =>
   rw [hx] at h
   have e : k0 = k := Option.some.inj h
   subst e
   split
   ·rename_i hb
    right
    have h1 := (Bool.and_eq_true _ _).mp hb
    have h2 := (Bool.and_eq_true _ _).mp h1.1
    refine ⟨by simpa using h2.1, ?_⟩
    rw [List.lookup_cons, hx]
   ·left
    rw [List.lookup_cons, hx]
  | false =>
   rw [hx] at h
   have ih := qEQ (env := env) h
   split
   ·rw [List.lookup_cons, hx]; exact ih
   ·rw [List.lookup_cons, hx]; exact ih
theorem qFE (h : scope.names.lookup x = some .local ∨ scope.names.lookup x = some .free) : Vis (qBN X N' scope cl C ex s₀ H₀).env.scope x := by
 rcases h with h | h
 ·rcases qEQ (env := X.env) h with g | ⟨e, _⟩
  ·exact .inl g
  ·cases e
 ·rcases qEQ (env := X.env) h with g | ⟨_, g⟩
  ·exact .inr (.inr g)
  ·exact .inr (.inl g)
theorem qIa (h : scope.names.lookup x = some .local) : Loc (qBN X N' scope cl C ex s₀ H₀).env.scope x := by
 rcases qEQ (env := X.env) h with g | ⟨e, _⟩
 ·exact .inl g
 ·cases e
theorem qUM (h : scope.names.lookup x = some .globalImplicit) : Gl (qBN X N' scope cl C ex s₀ H₀) x := by
 rcases qEQ (env := X.env) h with g | ⟨e, _⟩
 ·exact g
 ·cases e
end
structure QTs (X : Cx) (ifs : List Expr) (t : DT) : Prop where
 get : PTs X ifs t
section
variable {X : Cx} {elt tg iter e : Expr} {ifs es : List Expr} {scope : Scope} {pos p : Pos} {N' : List Str} {cap : List (Option Nat)} {fi : DI} {g : DG} {t u : DT} {fe : DE} {fa : DA} {x : Str} {cm : Bool} {k n : Nat} {F : DF}
theorem qM2 : QTs X [] qIe := ⟨qUg⟩
theorem qPD (h1 : QT X e t) (h2 : QTs X es u) : QTs X (e :: es) (qEW t u) := ⟨qSx h1.1 h2.1⟩
theorem qcO (G : Def X.prog X.w X.K X.mg X.base cm k x n F) (hr : RoomC cm k X.A) (hg : Gl X x) (ha : QA X (e :: es) fa) (hdb : (x == ("__debug__" : Str)) = false) (he : autoParam (starEach (e :: es) X.env = (false, eval e X.env) :: starEach es X.env) au3._auto_1) (hpl : autoParam ((backTo pos (starEach es X.env)).any (·.1) = false) au3._auto_1) :
  QE X (.Call (.Name x p) (e :: es) [] pos) (qAK n (okO F) fa) := ⟨dcO G hr hg ha.1 hdb he hpl⟩
end
end DL
end
section
namespace DL
open PySem PySem.Spec PyProof.Rows L2
noncomputable def stn (o : Option (Nat × MO)) (S : Sto) : Prop := match o with
 | none => True
 | some p => S[p.1]? = some p.2
open Classical in
noncomputable def qJw (o : Option (Nat × MO)) (S : Sto) : Bool := decide (stn o S)
open Classical in
theorem qC7 {o : Option (Nat × MO)} {S : Sto} : qJw o S = true ↔ stn o S := by simp [qJw]
structure ItD2 (K : PySem.W.Frag) (J : It) (P : Hp) (α : List Addr) (o : Option (Nat × MO)) (ds : List D) : Prop where
 go : ∀ i H P1 α1 S, i < ds.length → Rel K H P1 α1 S → stn o S → qAJ P P1 → α <+: α1 → J.go i H
 yld : ∀ i H x H' P1 α1 S, i < ds.length → Rel K H P1 α1 S → stn o S → qAJ P P1 → α <+: α1 → J.yld i H x H' → ∃ P2 d, ds[i]? = some d ∧ Rel K H' P2 α1 S ∧ qAJ P1 P2 ∧ Rep K P2 α1 d x
 stop : ∀ i H P1 α1 S, ds.length ≤ i → Rel K H P1 α1 S → stn o S → qAJ P P1 → α <+: α1 → J.stop i H
theorem ItD.two {K : PySem.W.Frag} {J : It} {P : Hp} {α : List Addr} {ds : List D} (h : ItD K J P α ds) : ItD2 K J P α none ds :=
 ⟨fun i H P1 α1 S a b _ c d => h.go i H P1 α1 S a b c d, fun i H x H' P1 α1 S a b _ c d e => h.yld i H x H' P1 α1 S a b c d e, fun i H P1 α1 S a b _ c d => h.stop i H P1 α1 S a b c d⟩
abbrev DI2 := qAI → Sto → Res (Option (Nat × MO) × List D)
inductive tDI2 (X : Cx) (f : DI2) (σ : L2.St) (H : Hp) (R : It → Hp → Prop) : Prop
 | mk (P : Hp) (α : List Addr) (env : qAI) (S : Sto) (r : Rel X.K H P α S) (re : qAu X.K P α σ env) (af : qAY X P α (f env S) (fun p S' => ∀ J H' P' α', Rel X.K H' P' α' S' → qAJ P P' → α <+: α' → ItD2 X.K J P' α' p.1 p.2 → R J H')) : tDI2 X f σ H R
section
variable {X : Cx} {K : PySem.W.Frag} {tg e : Expr} {fa : DE} {pos : Pos}
theorem qU2 {P : Hp} {α : List Addr} {a : Addr} {n : Nat} {ds : List D} (hα : α[n]? = some a) : ItD2 K (Itl K a) P α (some (n, .lst ds)) ds where
 go := fun i H P1 α1 S hi r st e e2 => by
  obtain ⟨vs, z, t⟩ := r.at' n a _ (qJ7 e2 hα) st
  exact ⟨vs, vs[i]'(by rw [← t.length]; exact hi), .of z, by simp⟩
 yld := fun i H x H' P1 α1 S hi r st e e2 y => by
  obtain ⟨rfl, y⟩ := y
  obtain ⟨vs, z, t⟩ := r.at' n a _ (qJ7 e2 hα) st
  have hx := y vs (.of z)
  obtain ⟨v, h1, h2⟩ := t.get (List.getElem?_eq_getElem hi)
  rw [hx] at h1; cases h1
  exact ⟨P1, _, List.getElem?_eq_getElem hi, r, qAJ.refl _, h2⟩
 stop := fun i H P1 α1 S hi r st e e2 => by
  obtain ⟨vs, z, t⟩ := r.at' n a _ (qJ7 e2 hα) st
  exact ⟨vs, .of z, by rw [← t.length]; exact hi⟩
noncomputable def itD (d : D) (S : Sto) : Res (Option (Nat × MO) × List D) := match d with
 | .tup xs => .ok (none, xs) S
 | .lst xs => .ok (none, xs) S
 | .loc n => match S[n]? with
  | some (.lst xs) => .ok (some (n, .lst xs), xs) S
  | _ => .bad
 | _ => .bad
noncomputable def dIt (f : DE) : DI2 := fun env S => (f env S).bind fun d S1 => itD d S1
set_option tactic.hygienic true in
theorem qYE (ha : PE X e (tD X fa)) : PI X tg e (tDI2 X (dIt fa)) := by
 intro pins s σ H R I h
 obtain ⟨P, α, env, S, r, re, af⟩ := h
 refine thn (qBd ha I r re af) fun vv s1 ⟨v, H1, P1, α1, d, S1, G1, af1⟩ => ?_
 have seq : ∀ ds, qJf d = some ds → (∀ J H' P' α', Rel X.K H' P' α' S1 → qAJ P P' → α <+: α' → ItD2 X.K J P' α' none ds → R J H') → wpAny (model X.prog X.w) X.A (pyIter vv) (PIE X pins σ tg R) X.xe s1 := fun ds e1 q =>
  qOh G1.inv G1.rel G1.val G1.rep e1 fun J H' P' α' r' h1 h2 it => q J H' P' α' r' (G1.same.trans h1) (G1.pre.trans h2) it.two
 cases d with
 | tup xs => exact seq xs rfl af1
 | lst xs => exact seq xs rfl af1
 | loc n =>
  simp only [itD] at af1
  split at af1
  ·rename_i xs hS
   have rp := G1.rep
   simp only [Rep] at rp
   obtain ⟨a, rfl, ha⟩ := rp
   cases (show vv = Value.ref a from G1.val)
   obtain ⟨vs, z, t⟩ := G1.rel.at' n a _ ha hS
   obtain ⟨its, rv, p, hz⟩ := G1.inv.list (SqL.of z)
   refine wpAny_pyIter_list p.isList ?_
   refine ⟨s1.heap.objs.size, [s1.heap.objs.size], _, _, H1, rfl, G1.inv.kept (t' := s1.toks) fun b o e => Heap.get?_push_of_some _ e, qNe a _, ⟨_, Heap.get?_push_size _ rfl, rfl, rfl⟩, fun b hb => ?_, af1 _ _ P1 α1 G1.rel G1.same G1.pre (qU2 ha)⟩
   have e : b = s1.heap.objs.size := by simpa using hb
   subst e
   exact G1.inv.fpOk (Nat.le_refl _) (G1.inv.hok.fresh (Nat.le_refl _))
  ·exact False.elim af1
 | _ => exact False.elim af1
end
noncomputable def qCn (o : Option (Nat × MO)) (g : DG) (f : DS) : List D → qAI → Sto → Out
 | [], env, S => if qJw o S then .nx env S else .bad
 | d :: ds, env, S => if qJw o S then (g d env S).toS env fun env1 S1 => match f env1 S1 with
  | .nx env2 S2 => qCn o g f ds env2 S2
  | .ct env2 S2 => qCn o g f ds env2 S2
  | .bk env2 S2 => .nx env2 S2
  | o => o
  else .bad
noncomputable def qIq (fi : DI2) (g : DG) (f : DS) : DS := fun env S => (fi env S).toS env fun p S1 => qCn p.1 g f p.2 env S1
noncomputable def qRG (X : Cx) (P1 : Hp) (α1 : List Addr) (o : Option (Nat × MO)) (g : DG) (f : DS) (ds : List D) (D : Ends) (i m : Nat) (σ : L2.St) (H : Hp) : Prop :=
 i ≤ ds.length ∧ m = ds.length - i ∧ ∃ P2 α2 env2 S2, Rel X.K H P2 α2 S2 ∧ qAu X.K P2 α2 σ env2 ∧ qAJ P1 P2 ∧ α1 <+: α2 ∧ qAi X P2 α2 (qCn o g f (ds.drop i) env2 S2) D
section
variable {X : Cx} {tg : Expr} {pos : Pos}
theorem qUe {iter : Expr} {body : List Stmt} {fi : DI2} {g : DG} {f : DS} (hp : PassesOwn (model X.prog X.w) X.A X.env X.xe) (hc : X.calm = true) (hi : PI X tg iter (tDI2 X fi)) (hg : PG X tg (tDG X g)) (hb : PSs X body (tDS X f))
  (hs : autoParam (∀ x, foldedSetIterable iter X.env x = pure x) au4._auto_1) : PS X (.For tg iter body [] pos) (tDS X (qIq fi g f)) := psW (qSB hp hc hi hg hb hs) fun D σ H ⟨P, α, env, S, r, re, af⟩ => by
 refine ⟨P, α, env, S, r, re, ?_⟩
 have af1 := qB1 af
 cases q : fi env S with
 | bad => rw [q] at af1; exact af1
 | ex c x S' => rw [q] at af1; exact af1
 | ok p S1 =>
  obtain ⟨o, ds⟩ := p
  rw [q] at af1
  have af2 : qAi X P α (qCn o g f ds env S1) D := af1
  intro J H1 P1 α1 r1 e1 e2 it
  have it : ItD2 X.K J P1 α1 o ds := it
  refine ⟨qRG X P1 α1 o g f ds D,
   ⟨ds.length, Nat.zero_le _, rfl, P1, α1, env, S1, r1, re.mono e1 e2, qAJ.refl _, List.prefix_refl _, qAi.base e1 e2 af2⟩, ?_⟩
  rintro i m σ2 H2 ⟨hi, rfl, P2, α2, env2, S2, r2, re2, e3, e4, af3⟩
  by_cases hsb : qJw o S2 = true
  ·have hst := qC7.mp hsb
   by_cases hlt : i < ds.length
   ·refine .inr ⟨it.go i H2 P2 α2 S2 hlt r2 hst e3 e4, qRG X P1 α1 o g f ds D (i + 1) (ds.length - (i + 1)), fun σ' H' w => ⟨_, ?_, w⟩, fun x H3 y => ?_⟩
    ·omega
    ·obtain ⟨P3, d, hd, r3, e5, rp⟩ := it.yld i H2 x H3 P2 α2 S2 hlt r2 hst e3 e4 y
     have hdr : ds.drop i = d :: ds.drop (i + 1) := by
      rw [List.drop_eq_getElem_cons hlt]
      rw [List.getElem?_eq_getElem hlt] at hd
      rw [Option.some.inj hd]
     rw [hdr] at af3
     unfold qCn at af3
     rw [if_pos hsb] at af3
     have af4 := qB1 (qAi.base e5 (List.prefix_refl _) af3)
     refine ⟨P3, α2, env2, S2, d, r3, re2.mono e5 (List.prefix_refl _), rp, ?_⟩
     cases q2 : g d env2 S2 with
     | bad => rw [q2] at af4; exact af4
     | ex c x S' => rw [q2] at af4; exact af4
     | ok env3 S3 =>
      rw [q2] at af4
      intro σ4 H4 P4 α4 r4 re4 e6 e7
      refine ⟨P4, α4, env3, S3, r4, re4, ?_⟩
      have af5 := qAi.base e6 e7 af4
      cases q3 : f env3 S3 with
      | bad => simp only [q3] at af5; exact af5
      | ex c x env4 S4 => simp only [q3] at af5; exact af5
      | rt d4 S4 => simp only [q3] at af5; exact af5
      | bk env4 S4 => simp only [q3] at af5; exact af5
      | nx env4 S4 =>
       simp only [q3] at af5
       exact fun σ5 H5 P5 α5 r5 re5 e8 e9 => ⟨hlt, rfl, P5, α5, env4, S4, r5, re5, ((e3.trans e5).trans e6).trans e8, (e4.trans e7).trans e9, qAi.base e8 e9 af5⟩
      | ct env4 S4 =>
       simp only [q3] at af5
       exact fun σ5 H5 P5 α5 r5 re5 e8 e9 => ⟨hlt, rfl, P5, α5, env4, S4, r5, re5, ((e3.trans e5).trans e6).trans e8, (e4.trans e7).trans e9, qAi.base e8 e9 af5⟩
   ·have hdr : ds.drop i = [] := List.drop_eq_nil_of_le (by omega)
    rw [hdr] at af3
    unfold qCn at af3
    rw [if_pos hsb] at af3
    exact .inl ⟨it.stop i H2 P2 α2 S2 (by omega) r2 hst e3 e4, af3 σ2 H2 P2 α2 r2 re2 (qAJ.refl _) (List.prefix_refl _)⟩
  ·cases hdr : ds.drop i with
   | nil => rw [hdr] at af3; unfold qCn at af3; rw [if_neg hsb] at af3; exact False.elim af3
   | cons d r => rw [hdr] at af3; unfold qCn at af3; rw [if_neg hsb] at af3; exact False.elim af3
end
end DL
end
section
namespace DL
open PySem PySem.Spec PyProof.Rows L2
noncomputable def qC6 (elt : Expr) (gens : List Comprehension) (scope : Scope) (pos : Pos) (k : Nat) (acc : Value) (env : Env) : Sem Unit :=
 match gens[k + 1]? with
 | some g' => do
  let x ← eval g'.iter env
  standAt g'.iter.pos
  let x ← foldedSetIterable g'.iter env x
  let it ← holding [x] (pyIter x)
  let _ ← runOwn (.compStart (.ListComp elt gens scope pos) (k + 1) it acc env) env
 | none => do let _ ← call (.builtin "list.append") [acc, ← eval elt env]
theorem qTf (elt target iter : Expr) (ifs : List Expr) (gens : List Comprehension) (scope : Scope) (pos : Pos) (it acc : Value) (env : Env) (k : Nat) (hg : gens[k]? = some ⟨target, iter, ifs, 0⟩) (ha : ∀ g', gens[k + 1]? = some g' → g'.is_async = 0) :
  compTurn (.ListComp elt gens scope pos) k it acc env = (do
   standAt iter.pos
   match ← pyNext it with
   | none => pure (.done .next)
   | some v =>
    letOwnedTupleGo target it v
    assign target env v
    let mut ok := true
    for c in ifs do
     if ok then ok ← isTrue c env (eval c env)
    if ok then qC6 elt gens scope pos k acc env
    again (.compLoop (.ListComp elt gens scope pos) k it acc env)) := by
 unfold compTurn qC6
 simp only [hg]
 cases q : gens[k + 1]? with
 | none => rfl
 | some g' =>
  have h0 := ha g' q
  have e0 : (g'.is_async != 0) = false := by rw [h0]; rfl
  simp only [e0, Bool.false_eq_true, if_false, bind_assoc, pure_bind]
  rfl
abbrev DK := qAI → Sto → List D → Res (qAI × List D)
noncomputable def goL (o : Option (Nat × MO)) (g : DG) (t : DT) (k : DK) : List D → DK
 | [], env, S, acc => if qJw o S then .ok (env, acc) S else .bad
 | d :: ds, env, S, acc => if qJw o S then (g d env S).bind fun env1 S1 => (t env1 S1).bind fun b S2 =>
   if b then (k env1 S2 acc).bind fun p S3 => goL o g t k ds p.1 S3 p.2 else goL o g t k ds env1 S2 acc
  else .bad
noncomputable def qDL (fe : DE) : DK := fun env S acc => (fe env S).bind fun x S1 => if acc.length < lim then .ok (env, acc ++ [x]) S1 else .bad
noncomputable def qTq (Y : Cx) (pins : List (Addr × Obj)) (P1 : Hp) (α1 : List Addr) (acc : Addr) (env : qAI) (S : Sto) (ds : List D) (s : Shared) : Prop :=
 ∃ σ H P α o, TurnSt Y pins P1 α1 [] acc env S ds s σ H P α o
noncomputable def PK (Y : Cx) (step : Value → Sem Unit) (k : DK) : Prop :=
 ∀ (pins : List (Addr × Obj)) (P1 : Hp) (α1 : List Addr) (acc : Addr) (env env' : qAI) (S S' : Sto) (ds ds' : List D) (s : Shared), (∀ H : Hp, H acc = none → qCM Y pins H acc) → qTq Y pins P1 α1 acc env S ds s → k env S ds = .ok (env', ds') S' →
  wpAny (model Y.prog Y.w) Y.A (step (.ref acc)) (fun _ s' => qTq Y pins P1 α1 acc env' S' ds' s') (fun _ _ => False) s
section
variable {Y : Cx} {elt tg iter : Expr} {ifs : List Expr} {gens : List Comprehension} {scope : Scope} {pos : Pos} {k : Nat} {g : DG} {t : DT} {fe : DE} {it acc : Addr} {fp : List Addr} {J : It} {tn : Nat → Heap → Prop} {items : List D} {P1 : Hp} {α1 : List Addr} {pins : List (Addr × Obj)}
theorem qRj {X : Cx} {pins : List (Addr × Obj)} {H : Hp} {b : Addr} {fp : List Addr} {h : Heap} (f : qCM X pins H b) (hn : b ∉ fp) : qCM X (pins ++ qEe fp h) H b := by
 obtain ⟨f0, f1, f2, f3, f4, f5⟩ := f
 refine ⟨f0, f1, f2, f3, f4, fun p hp => ?_⟩
 rcases List.mem_append.mp hp with z | z
 ·exact f5 p (List.mem_append_left _ z)
 ·rcases List.mem_append.mp z with z | z
  ·exact f5 p (List.mem_append_right _ z)
  ·rintro rfl
   exact hn (qNZ z).1
theorem Res.bind_inv {β γ : Type} {r : Res β} {f : β → Sto → Res γ} {x : γ} {S : Sto} (h : r.bind f = .ok x S) : ∃ b S1, r = .ok b S1 ∧ f b S1 = .ok x S := by
 cases r with
 | ok b S1 => exact ⟨b, S1, rfl, h⟩
 | _ => cases h
inductive GoC (o : Option (Nat × MO)) (g : DG) (t : DT) (k : DK) (d : D) (ds acc : List D) (env : qAI) (S SF : Sto) (x : qAI × List D) : Prop
 | no (env1 : qAI) (S1 S2 : Sto) (z : stn o S) (q1 : g d env S = .ok env1 S1) (q2 : t env1 S1 = .ok false S2) (r : goL o g t k ds env1 S2 acc = .ok x SF) : GoC o g t k d ds acc env S SF x
 | yes (env1 : qAI) (S1 S2 : Sto) (env5 : qAI) (ds5 : List D) (S5 : Sto) (z : stn o S) (q1 : g d env S = .ok env1 S1) (q2 : t env1 S1 = .ok true S2) (q3 : k env1 S2 acc = .ok (env5, ds5) S5) (r : goL o g t k ds env5 S5 ds5 = .ok x SF) : GoC o g t k d ds acc env S SF x
set_option tactic.hygienic true in
theorem qS3 {o : Option (Nat × MO)} {g : DG} {t : DT} {k : DK} {d : D} {ds acc : List D} {env : qAI} {S SF : Sto} {x : qAI × List D} (h : goL o g t k (d :: ds) env S acc = .ok x SF) : GoC o g t k d ds acc env S SF x := by
 simp only [goL] at h
 split at h
 ·rename_i z
  obtain ⟨env1, S1, q1, h⟩ := Res.bind_inv h
  obtain ⟨b, S2, q2, h⟩ := Res.bind_inv h
  cases b with
  | false => exact .no env1 S1 S2 (qC7.mp z) q1 q2 h
  | true =>
   obtain ⟨⟨env5, ds5⟩, S5, q3, h⟩ := Res.bind_inv h
   exact .yes env1 S1 S2 env5 ds5 S5 (qC7.mp z) q1 q2 q3 h
 ·cases h
set_option tactic.hygienic true in
theorem qUr {o : Option (Nat × MO)} {g : DG} {t : DT} {k : DK} {acc dsF : List D} {env envF : qAI} {S SF : Sto} (h : goL o g t k [] env S acc = .ok (envF, dsF) SF) : stn o S ∧ env = envF ∧ acc = dsF ∧ S = SF := by
 simp only [goL] at h
 split at h
 ·rename_i z
  cases h
  exact ⟨qC7.mp z, rfl, rfl, rfl⟩
 ·cases h
inductive LpI (Y : Cx) (pins : List (Addr × Obj)) (P1 : Hp) (α1 : List Addr) (fp : List Addr) (acc : Addr) (tn : Nat → Heap → Prop) (G : List D → DK) (items : List D) (x : qAI × List D) (SF : Sto) (n : Nat) (s : Shared) : Prop
 | mk (i : Nat) (σ : L2.St) (H P : Hp) (α : List Addr) (o : Obj) (env : qAI) (S : Sto) (ds : List D) (hn : n = items.length - i) (hi : i ≤ items.length) (st : TurnSt Y pins P1 α1 fp acc env S ds s σ H P α o) (st1 : tn i s.heap) (run : G (items.drop i) env S ds = .ok x SF) : LpI Y pins P1 α1 fp acc tn G items x SF n s
theorem qVm {M : Model} {A : Around} {Q : Fin → Shared → Prop} {Qa Qd : Shared → Prop} {E : Value → Shared → Prop} {s : Shared} {it acc : Value} {en : Env} (hgk : gens[k]? = some ⟨tg, iter, ifs, 0⟩) (has : ∀ g', gens[k + 1]? = some g' → g'.is_async = 0)
  (ha : ∀ s, Qa s → Q (.again (.compLoop (.ListComp elt gens scope pos) k it acc en)) s) (hd : ∀ s, Qd s → Q (.done .next) s)
  (h : wpAny M A (pyNext it) (fun r s1 => (r = none → Qd s1) ∧ ∀ v, r = some v → wpAny M A (letOwnedTupleGo tg it v) (fun _ s2 => wpAny M A (assign tg en v) (fun _ s3 => wpAny M A (qGx ifs en) (fun b s4 => (b = false → Qa s4) ∧ (b = true → wpAny M A (qC6 elt gens scope pos k acc en) (fun _ s5 => Qa s5) E s4)) E s3) E s2) E s1) E s) :
  wpAny M A (compTurn (.ListComp elt gens scope pos) k it acc en) Q E s := by
 rw [qTf elt tg iter ifs gens scope pos it acc en k hgk has]
 refine wpAny_bind (wpAny_standAt (wpAny_bind (thn h fun r s1 ⟨h0, h1⟩ => ?_)))
 cases r with
 | none => exact wpAny_pure (hd _ (h0 rfl))
 | some v =>
  refine wpAny_bind (thn (h1 v rfl) fun _ s2 h2 => wpAny_bind (thn h2 fun _ s3 h3 => wpAny_bind (thn h3 fun b s4 h4 => ?_)))
  cases b with
  | false => exact wpAny_pure (ha _ (h4.1 rfl))
  | true => exact wpAny_bind (thn (h4.2 rfl) fun _ s5 h5 => wpAny_pure (ha _ h5))
theorem qUn (hfp : ∀ H : Hp, (∀ b ∈ fp, H b = none) → ∀ b ∈ fp, qCM Y pins H b) (hne : acc ∉ fp) (o : Obj) (H' : Hp) (hn : ∀ b ∈ fp, H' b = none) : ∀ b ∈ fp, qCM Y (pins ++ [(acc, o)]) H' b := fun b hb => by
 obtain ⟨f0, f1, f2, f3, f4, f5⟩ := hfp H' hn b hb
 refine ⟨f0, f1, f2, f3, f4, fun p hp => ?_⟩
 rcases List.mem_append.mp hp with z | z
 ·exact f5 p (List.mem_append_left _ z)
 ·rcases List.mem_append.mp z with z | z
  ·exact f5 p (List.mem_append_right _ z)
  ·rw [List.mem_singleton.mp z]
   rintro rfl
   exact hne hb
theorem qHK {i : Nat} {h : Heap} (T : Turn Y.prog Y.w Y.K tg J fp it tn) (st2 : tn (i + 1) h) (pl : ∀ b ∈ fp, ∃ o, h.get? b = some o ∧ ∀ v, o.data ≠ .cell v) {s5 : Shared} {σ5 : L2.St} {H5 : Hp} (I5 : Inv Y (pins ++ qEe fp h) σ5 H5 s5) : tn (i + 1) s5.heap ∧ (∀ b ∈ fp, H5 b = none) := by
 refine ⟨T.keep _ _ _ st2 fun b hb o' e => (I5.pin (b, o') (List.mem_append_right _ (List.mem_append_right _ (qGE hb e)))).1, fun b hb => ?_⟩
 obtain ⟨o', e, d'⟩ := pl b hb
 exact (I5.pin (b, o') (List.mem_append_right _ (List.mem_append_right _ (qGE hb e)))).2.1
theorem qQn {o' : Option (Nat × MO)} {kk : DK} {Qa Qd : Shared → Prop} {E : Value → Shared → Prop} {s : Shared} {σ : L2.St} {H P : Hp} {α : List Addr} {env envF : qAI} {S SF : Sto} {ds dsF : List D} {o : Obj} {i : Nat} (hc : Y.calm = true) (hx : Y.xe = fun _ _ => False)
  (T : Turn Y.prog Y.w Y.K tg J fp it tn) (hit : ItD2 Y.K J P1 α1 o' items) (hg : PG Y tg (tDG Y g)) (ht : PTs Y ifs t) (he : PK Y (fun acc => qC6 elt gens scope pos k acc Y.env) kk) (hacc : ∀ H : Hp, H acc = none → qCM Y pins H acc) (hfp : ∀ H : Hp, (∀ b ∈ fp, H b = none) → ∀ b ∈ fp, qCM Y pins H b) (hne : acc ∉ fp)
  (hi : i ≤ items.length) (st : TurnSt Y pins P1 α1 fp acc env S ds s σ H P α o) (st1 : tn i s.heap) (run : goL o' g t kk (items.drop i) env S ds = .ok (envF, dsF) SF)
  (hA : ∀ s' σ' H' P' α' o1 env1 S' ds', i < items.length → TurnSt Y pins P1 α1 fp acc env1 S' ds' s' σ' H' P' α' o1 → tn (i + 1) s'.heap → goL o' g t kk (items.drop (i + 1)) env1 S' ds' = .ok (envF, dsF) SF → Qa s')
  (hD : ∀ s' σ' H' P' α' o', TurnSt Y pins P1 α1 fp acc envF SF dsF s' σ' H' P' α' o' → Qd s') :
  wpAny (model Y.prog Y.w) Y.A (pyNext (.ref it)) (fun r s1 => (r = none → Qd s1) ∧ ∀ v, r = some v → wpAny (model Y.prog Y.w) Y.A (letOwnedTupleGo tg (.ref it) v) (fun _ s2 => wpAny (model Y.prog Y.w) Y.A (assign tg Y.env v) (fun _ s3 => wpAny (model Y.prog Y.w) Y.A (qGx ifs Y.env) (fun b s4 => (b = false → Qa s4) ∧ (b = true → wpAny (model Y.prog Y.w) Y.A (qC6 elt gens scope pos k (.ref acc) Y.env) (fun _ s5 => Qa s5) E s4)) E s3) E s2) E s1) E s := by
 have I1 := DL.Inv.pin1 st.inv (hacc H st.acn) st.at' st.acc.cell
 have fp1 := qUn hfp hne o
 by_cases hlt : i < items.length
 ·have hdr : items.drop i = items[i] :: items.drop (i + 1) := List.drop_eq_getElem_cons hlt
  rw [hdr] at run
  have run := qS3 run
  have hst : stn o' S := by cases run with | no _ _ _ z => exact z | yes _ _ _ _ _ _ z => exact z
  refine qLV (T.item Y rfl rfl rfl hc i _ s σ H (fun _ _ => False) I1 (fp1 H st.fpn) st1 (hit.go i H P α S hlt st.rel hst st.same st.pre)) fun r s1 ⟨u, hr, h1⟩ => ⟨fun z => (by rw [hr] at z; cases z), fun v hv => ?_⟩
  obtain rfl : v = u := Option.some.inj (hv.symm.trans hr)
  refine qLV h1 fun _ s2 ⟨x, H2, I2, rx, y, st2, fr2⟩ => ?_
  obtain ⟨P2, d, hd, r2, e2, rp⟩ := hit.yld i H x H2 P α S hlt st.rel hst st.same st.pre y
  cases (List.getElem?_eq_getElem hlt).symm.trans hd
  have pl := T.obj _ _ st2
  have I2' := I2.pinned (fp1 _ fr2) pl
  have two : ∀ env1 S1 b S2, g items[i] env S = .ok env1 S1 → t env1 S1 = .ok b S2 → (∀ s4 σ3 H4 P4 α4 (I4 : Inv Y (pins ++ qEe fp s2.heap) σ3 H4 s4), TurnSt Y pins P1 α1 fp acc env1 S2 ds s4 σ3 H4 P4 α4 o → tn (i + 1) s4.heap → (b = false → Qa s4) ∧ (b = true → wpAny (model Y.prog Y.w) Y.A (qC6 elt gens scope pos k (.ref acc) Y.env) (fun _ s5 => Qa s5) E s4)) → wpAny (model Y.prog Y.w) Y.A (assign tg Y.env v) (fun _ s3 => wpAny (model Y.prog Y.w) Y.A (qGx ifs Y.env) (fun b s4 => (b = false → Qa s4) ∧ (b = true → wpAny (model Y.prog Y.w) Y.A (qC6 elt gens scope pos k (.ref acc) Y.env) (fun _ s5 => Qa s5) E s4)) E s3) E s2 := by
   intro env1 S1 b S2 q1 q2 next
   refine qLV (hx ▸ qZO hg I2' r2 (st.env.mono e2 (List.prefix_refl _)) rx rp q1) fun _ s3 ⟨σ3, H3, P3, α3, I3, r3, re3, e3, e3'⟩ => ?_
   refine qLV (hx ▸ qYi ht I3 r3 re3 q2) fun b' s4 ⟨hb, H4, P4, α4, I4, r4, re4, e4, e4'⟩ => ?_
   have I4' : Inv Y (pins ++ qEe fp s2.heap) σ3 H4 s4 := I4.pins_of fun p hp => I4.pin p (List.mem_append_right _ ((List.mem_append.mp hp).elim (fun z => List.mem_append_left _ (List.mem_append_left _ z)) fun z => List.mem_append_right _ z))
   have a4 := I4.pin (acc, o) (List.mem_append_right _ (List.mem_append_left _ (List.mem_append_right _ (List.mem_singleton.mpr rfl))))
   rw [hb]
   exact next s4 σ3 H4 P4 α4 I4' ⟨I4'.unpinned, r4, re4, ((st.same.trans e2).trans e3).trans e4, (st.pre.trans e3').trans e4', (qHK T st2 pl I4').2, a4.2.1, a4.1, st.acc.mono ((e2.trans e3).trans e4) (e3'.trans e4')⟩ (qHK T st2 pl I4').1
  cases run with
  | no env1 S1 S2 _ q1 q2 run => exact two env1 S1 false S2 q1 q2 fun s4 σ3 H4 P4 α4 I4 st4 tn4 => ⟨fun _ => hA s4 σ3 H4 P4 α4 o env1 S2 ds hlt st4 tn4 run, fun z => (by cases z)⟩
  | yes env1 S1 S2 env5 ds5 S5 _ q1 q2 q3 run =>
   refine two env1 S1 true S2 q1 q2 fun s4 σ3 H4 P4 α4 I4 st4 tn4 => ⟨fun z => (by cases z), fun _ => ?_⟩
   refine qLV (he (pins ++ qEe fp s2.heap) P1 α1 acc env1 env5 S2 S5 ds ds5 s4 (fun H hn => qRj (hacc H hn) hne) ⟨σ3, H4, P4, α4, o, I4, st4.rel, st4.env, st4.same, st4.pre, fun b hb => (by cases hb), st4.acn, st4.at', st4.acc⟩ q3) fun _ s5 ⟨σ5, H5, P5, α5, o5, T5⟩ => ?_
   exact hA s5 σ5 H5 P5 α5 o5 env5 S5 ds5 hlt ⟨T5.inv.unpinned, T5.rel, T5.env, T5.same, T5.pre, (qHK T st2 pl T5.inv).2, T5.acn, T5.at', T5.acc⟩ (qHK T st2 pl T5.inv).1 run
 ·rw [List.drop_eq_nil_of_le (by omega)] at run
  obtain ⟨z, rfl, rfl, rfl⟩ := qUr run
  refine qLV (T.done Y rfl rfl rfl hc i _ s σ H (fun _ _ => False) I1 (fp1 H st.fpn) st1 (hit.stop i H P α _ (by omega) st.rel z st.same st.pre)) fun r s1 ⟨hr, I2⟩ => ⟨fun _ => ?_, fun v hv => (by rw [hr] at hv; cases hv)⟩
  have a := DL.Inv.pinned1 I2
  exact hD s1 σ H P α o ⟨I2.unpinned, st.rel, st.env, st.same, st.pre, st.fpn, a.2, a.1, st.acc⟩
theorem qQm {o' : Option (Nat × MO)} {kk : DK} {R : Result → Shared → Prop} {s : Shared} {σ : L2.St} {H P : Hp} {α : List Addr} {env envF : qAI} {S SF : Sto} {ds0 dsF : List D} {o : Obj} (hc : Y.calm = true) (hx : Y.xe = fun _ _ => False) (hgk : gens[k]? = some ⟨tg, iter, ifs, 0⟩) (has : ∀ g', gens[k + 1]? = some g' → g'.is_async = 0)
  (T : Turn Y.prog Y.w Y.K tg J fp it tn) (hit : ItD2 Y.K J P1 α1 o' items) (hg : PG Y tg (tDG Y g)) (ht : PTs Y ifs t) (he : PK Y (fun acc => qC6 elt gens scope pos k acc Y.env) kk) (hacc : ∀ H : Hp, H acc = none → qCM Y pins H acc) (hfp : ∀ H : Hp, (∀ b ∈ fp, H b = none) → ∀ b ∈ fp, qCM Y pins H b) (hne : acc ∉ fp)
  (st : TurnSt Y pins P1 α1 fp acc env S ds0 s σ H P α o) (st0 : tn 0 s.heap) (run : goL o' g t kk items env S ds0 = .ok (envF, dsF) SF)
  (hR : ∀ s' σ' H' P' α' o', TurnSt Y pins P1 α1 fp acc envF SF dsF s' σ' H' P' α' o' → R (.ok .next) s') :
  codeAny (model Y.prog Y.w) Y.A (.compLoop (.ListComp elt gens scope pos) k (.ref it) (.ref acc) Y.env) R s := by
 refine codeAny_loop rfl (LpI Y pins P1 α1 fp acc tn (goL o' g t kk) items (envF, dsF) SF) (fun n s hI => ?_) items.length ⟨0, σ, H, P, α, o, env, S, ds0, rfl, Nat.zero_le _, st, st0, run⟩
 obtain ⟨i, σ, H, P, α, o, env, S, ds, hn, hi, st, st1, run⟩ := hI
 subst hn
 refine wpAny_noted (qVm hgk has (Qa := fun s' => ∃ m, m < items.length - i ∧ LpI Y pins P1 α1 fp acc tn (goL o' g t kk) items (envF, dsF) SF m s') (Qd := R (.ok .next)) (fun _ h => ⟨rfl, h⟩) (fun _ h => h) ?_)
 exact qQn hc hx T hit hg ht he hacc hfp hne hi st st1 run (fun s' σ' H' P' α' o1 env1 S' ds' hlt st' tn' run' => ⟨_, Nat.sub_succ_lt_self _ _ hlt, i + 1, σ', H', P', α', o1, env1, S', ds', rfl, hlt, st', tn', run'⟩) hR
set_option tactic.hygienic true in
theorem qVS (hx : Y.xe = fun _ _ => False) (hlast : gens[k + 1]? = none) (he : PE Y elt (tD Y fe)) : PK Y (fun acc => qC6 elt gens scope pos k acc Y.env) (qDL fe) := by
 intro pins P1 α1 acc env env' S S' ds ds' s hacc ⟨σ, H, P, α, o, st⟩ run
 show wpAny _ _ (qC6 elt gens scope pos k (.ref acc) Y.env) _ _ s
 unfold qC6
 rw [hlast]
 dsimp only
 unfold qDL at run
 cases q3 : fe env S with
 | bad => rw [q3] at run; cases run
 | ex c z S' => rw [q3] at run; cases run
 | ok d5 S5 =>
  rw [q3, Res.bind_ok] at run
  split at run
  ·rename_i hlen
   cases run
   have fA := hacc H st.acn
   have I1 := DL.Inv.pin1 st.inv fA st.at' st.acc.cell
   refine wpAny_bind (qLV (hx ▸ qZN he I1 st.rel st.env q3) fun u5 s5 ⟨v5, H5, P5, α5, G5⟩ => ?_)
   have J := DL.Inv.pinned1 G5.inv
   have J1 := G5.inv.unpinned
   obtain ⟨J4, J5⟩ := J
   obtain ⟨its, n5, vs, ho, rvs, rps, hz⟩ := st.acc
   subst ho
   have hlen' : vs.length = ds.length := rps.length.symm
   have hl2 := rvs.length
   refine wpAny_bind (call_meets F.slot_list_append ⟨_, J4, rfl⟩ F.entry_list_append (F.args_list_append_2 _ _) (PySem.list_append acc its.toArray n5 u5 (by rw [List.size_toArray]; rw [← qBg]; omega)) ⟨J4, ?_⟩)
   have q := PySem.IsL.update J4 (·.push u5)
   have fA5 := hacc H5 J5
   have keep : ∀ b o, b ≠ acc → s5.heap.get? b = some o → (s5.heap.update acc (Obj.mapSeq (·.push u5))).get? b = some o := fun b o hb e => (Heap.get?_update_other s5.heap _ (Ne.symm hb)).trans e
   have I6 := J1.turned (t' := s5.toks) keep J5 fA5.2.1 fA5.2.2.2.1 fA5.2.2.2.2.1 fA5.2.2.2.2.2
   refine wpAny_pure ⟨σ, H5, P5, α5, _, I6, G5.rel, G5.env, st.same.trans G5.same, st.pre.trans G5.pre, fun b hb => (by simp at hb), J5, q, ?_⟩
   refine ⟨its ++ [u5], _, vs ++ [v5], by simp <;> rfl, rvs.append (.cons G5.val .nil), ?_, by simp; omega⟩
   exact (qAL.mono G5.same G5.pre _ _ rps).append (.cons G5.rep .nil)
  ·cases run
end
end DL
end
section
namespace DL
open PySem PySem.Spec PyProof.Rows L2
noncomputable def mkM (m : Bool) (r : Res (qAI × List D)) : Res D := match r with
 | .ok p S2 => if m then .ok (.loc S2.length) (S2 ++ [.lst p.2]) else .ok (.lst p.2) S2
 | _ => .bad
noncomputable def qDw (m : Bool) (cap : List (Option Nat)) (fi : DI2) (g : DG) (t : DT) (k : DK) : DE := fun env S => (fi env S).bind fun p S1 => mkM m (goL p.1 g t k p.2 (qEj cap env) S1 [])
section
variable {X : Cx} {elt tg iter : Expr} {ifs : List Expr} {scope : Scope} {pos : Pos} {N' : List Str} {cap : List (Option Nat)} {fi : DI2} {g : DG} {t : DT} {kk : DK} {rest : List Comprehension} {mm : Bool}
theorem qW0 {P : Hp} {α : List Addr} {r : Res (qAI × List D)} {Ok : D → Sto → Prop} (h : qAY X P α (mkM mm r) Ok) : ∃ envF ds SF, r = .ok (envF, ds) SF ∧ (if mm then Ok (.loc SF.length) (SF ++ [.lst ds]) else Ok (.lst ds) SF) := by
 cases r with
 | ok p S =>
  obtain ⟨envF, ds⟩ := p
  refine ⟨envF, ds, S, rfl, ?_⟩
  cases mm <;> exact h
 | ex c x S => exact False.elim h
 | bad => exact False.elim h
theorem qSy {pins : List (Addr × Obj)} {σ : L2.St} {P1 : Hp} {α1 : List Addr} {ds : List D} {SF : Sto} {acc C : Addr} {s : Shared} {Q : VK} (c : qJz X pins σ P1 α1 ds SF acc C s) (ok : if mm then OkV X P1 α1 Q (.loc SF.length) (SF ++ [.lst ds]) else OkV X P1 α1 Q (.lst ds) SF) : EP X pins σ Q (.ref acc) s := by
 cases mm with
 | false => exact qUi c ok
 | true =>
  obtain ⟨H', P', α', vs, I, r, hn, e1, e2, rp, _⟩ := c
  exact ⟨.ref acc, _, I, rfl, qQN r hn rp fun v H2 P2 α2 r2 q1 q2 q3 => ok v H2 P2 α2 r2 (e1.trans q1) (e2.trans q2) q3⟩
theorem qPi {o' : Option (Nat × MO)} {kk : DK} {pins : List (Addr × Obj)} {σ : L2.St} {H2 P1 : Hp} {α1 : List Addr} {s2 : Shared} {S1 SF : Sto} {env envF : qAI} {ds items : List D} {it : Addr} {fp : List Addr} {tn : Nat → Heap → Prop} {J : It} {E : Value → Shared → Prop} {RR : Value → Addr → Result → Shared → Prop} {rest : List Comprehension}
  (hc : X.calm = true) (S : CompSc X.env.scope X.N scope N' cap) (has : ∀ g', (⟨tg, iter, ifs, 0⟩ :: rest : List Comprehension)[0 + 1]? = some g' → g'.is_async = 0)
  (hg : ∀ cl C ex s₀ H₀, PG (qBN X N' scope cl C ex s₀ H₀) tg (tDG (qBN X N' scope cl C ex s₀ H₀) g))
  (ht : ∀ cl C ex s₀ H₀, PTs (qBN X N' scope cl C ex s₀ H₀) ifs t) (he : ∀ cl C ex s₀ H₀, PK (qBN X N' scope cl C ex s₀ H₀) (fun acc => qC6 elt (⟨tg, iter, ifs, 0⟩ :: rest) scope pos 0 acc (qBN X N' scope cl C ex s₀ H₀).env) kk)
  (I2 : Inv X pins σ H2 s2) (r : Rel X.K H2 P1 α1 S1) (re : qAu X.K P1 α1 σ env) (T : Turn X.prog X.w X.K tg J fp it tn) (st0 : tn 0 s2.heap) (hf : ∀ b ∈ fp, qCM X pins H2 b) (hit : ItD2 X.K J P1 α1 o' items) (run : goL o' g t kk items (qEj cap env) S1 [] = .ok (envF, ds) SF)
  (hRR : ∀ acc C s', s2.heap.objs.size ≤ acc → (∃ m, s'.heap.Ns C m) → s2.heap.objs.size ≤ C → acc ≠ C → (∀ h', Heap.SameBut C s'.heap h' → qJz X pins σ P1 α1 ds SF acc C { s' with heap := h' }) → RR (.ref acc) C (.ok .next) s') :
  wpAny (model X.prog X.w) X.A (newList []) (fun acc s₃ => wpAny (model X.prog X.w) X.A (newFunctionEnv scope X.env.globals (qC2 X.env.cells scope.names []) [] X.env.qual none .none (some X.env)) (fun cenv s₄ =>
   codeAny (model X.prog X.w) X.A (.compStart (.ListComp elt (⟨tg, iter, ifs, 0⟩ :: rest) scope pos) 0 (.ref it) acc { cenv with scope := relabel scope X.env }) (RR acc cenv.locals) s₄) E s₃) E s2 := by
 have hlt : ∀ b ∈ fp, b < s2.heap.objs.size := fun b hb => by
  obtain ⟨o, e, _⟩ := T.obj 0 _ st0 b hb
  exact Heap.lt_size e
 refine wpAny_newObj_type (wpAny_newFunctionEnv S.nocell (by intro y hy; simp at hy) (fun h₁ hns₁ hsb₁ => ?_) S.kind)
 dsimp only at hns₁ hsb₁ ⊢
 generalize hH2 : s2.heap.push { cls := .type "list", dict := none, data := .seq ([] : List Value).toArray } = Hh at hns₁ hsb₁ ⊢
 have hsz : Hh.objs.size = s2.heap.objs.size + 1 := by rw [← hH2, Heap.size_push]
 have hC : s2.heap.objs.size ≤ Hh.objs.size := by rw [hsz]; exact Nat.le_succ _
 have hne : s2.heap.objs.size ≠ Hh.objs.size := by rw [hsz]; exact Nat.ne_of_lt (Nat.lt_succ_self _)
 have keep : ∀ b o, s2.heap.get? b = some o → h₁.get? b = some o := fun b o e => by
  have hb : b ≠ Hh.objs.size := by rw [hsz]; exact Nat.ne_of_lt (Nat.lt_succ_of_lt (Heap.lt_size e))
  exact hsb₁.extBut b o hb (Heap.get?_push_of_some _ (hH2 ▸ Heap.get?_push_of_some _ e))
 have hacc : h₁.get? s2.heap.objs.size = some { cls := .type "list", data := .seq ([] : List Value).toArray } := hsb₁.extBut _ _ hne (Heap.get?_push_of_some _ (hH2 ▸ Heap.get?_push_size _ rfl))
 have I4 : ∀ tk, Inv (qBN X N' scope (qC2 X.env.cells scope.names []) Hh.objs.size fp s2 H2) [] (qEk cap σ) H2 { s2 with heap := h₁, toks := tk } := fun tk =>
  qSi (s4 := { s2 with heap := h₁, toks := tk }) S I2 hf hlt hC hns₁ rfl rfl keep
 have loop : ∀ tk, codeAny (model X.prog X.w) X.A (.compLoop (.ListComp elt (⟨tg, iter, ifs, 0⟩ :: rest) scope pos) 0 (.ref it) (.ref s2.heap.objs.size) (compEnvC scope (qC2 X.env.cells scope.names []) Hh.objs.size X.env)) (RR (.ref s2.heap.objs.size) Hh.objs.size) { s2 with heap := h₁, toks := tk } := fun tk => by
  refine qQm (kk := kk) (o' := o') (Y := qBN X N' scope (qC2 X.env.cells scope.names []) Hh.objs.size fp s2 H2) (pins := []) (fp := fp) (acc := s2.heap.objs.size) (P1 := P1) (α1 := α1) (σ := qEk cap σ) (H := H2) (P := P1) (α := α1) (o := { cls := .type "list", data := .seq ([] : List Value).toArray }) hc rfl rfl has T hit
   (hg _ _ _ _ _) (ht _ _ _ _ _) (he _ _ _ _ _) (fun H hn => ?_) (fun H hn b hb => ?_) (fun hm => Nat.lt_irrefl _ (hlt _ hm)) ⟨I4 tk, r, qSH re cap, qAJ.refl _, List.prefix_refl _, fun b hb => (hf b hb).1, I2.hok.fresh (Nat.le_refl _), hacc, ⟨[], 0, [], rfl, .nil, .nil, Nat.zero_le _⟩⟩ (T.keep _ _ _ st0 fun b hb o e => keep b o e) run fun s' σ' H' P' α' o' st => ?_
  ·refine ⟨hn, hne, fun hm => ?_, .inr (Nat.le_refl _), fun x c h z => ?_, fun p hp => absurd (show p ∈ ([] : List (Addr × Obj)) from hp) (by simp)⟩
   ·obtain ⟨_, o, ho, _⟩ := I2.stack.mem hm
    exact Nat.lt_irrefl _ (Heap.lt_size ho)
   ·obtain ⟨v, ob, hob, _⟩ := I2.cell x c (qCT S I2.ok h)
    rw [z] at hob
    exact Nat.lt_irrefl _ (Heap.lt_size hob)
  ·obtain ⟨_, h1, h2, h3, h4, h5⟩ := hf b hb
   refine ⟨hn b hb, Nat.ne_of_lt (Nat.lt_of_lt_of_le (hlt b hb) hC), fun hm => ?_, .inl hb, fun x c h => h4 x c (qCT S I2.ok h), fun p hp => absurd (show p ∈ ([] : List (Addr × Obj)) from hp) (by simp)⟩
   rcases List.mem_cons.mp (I2.stkSub b hm) with z | z
   ·exact h1 z
   ·exact h2 z
  ·obtain ⟨m, hm, _⟩ := st.inv.loc
   exact hRR _ _ s' (Nat.le_refl _) ⟨m, hm⟩ hC hne fun h' sb => qSh I2 hf rfl hC (Nat.le_refl _) hne st sb
 exact codeAny_compStart_list (loop _) (T.self X.A 0 _ _ _ (T.keep _ _ _ st0 fun b hb o e => keep b o e) (loop _))
theorem qSq (hc : X.calm = true) (S : CompSc X.env.scope X.N scope N' cap) (hi : PI X tg iter (tDI2 X fi))
  (hg : ∀ cl C ex s₀ H₀, PG (qBN X N' scope cl C ex s₀ H₀) tg (tDG (qBN X N' scope cl C ex s₀ H₀) g))
  (ht : ∀ cl C ex s₀ H₀, PTs (qBN X N' scope cl C ex s₀ H₀) ifs t) (has : ∀ g', (⟨tg, iter, ifs, 0⟩ :: rest : List Comprehension)[0 + 1]? = some g' → g'.is_async = 0) (he : ∀ cl C ex s₀ H₀, PK (qBN X N' scope cl C ex s₀ H₀) (fun acc => qC6 elt (⟨tg, iter, ifs, 0⟩ :: rest) scope pos 0 acc (qBN X N' scope cl C ex s₀ H₀).env) kk)
  (hs : autoParam (∀ x, foldedSetIterable iter X.env x = pure x) au4._auto_1) : PE X (.ListComp elt (⟨tg, iter, ifs, 0⟩ :: rest) scope pos) (tD X (qDw mm cap fi g t kk)) := by
 intro pins s σ H Q I h
 obtain ⟨P, α, env, S0, r, re, af⟩ := h
 rw [eval_ListComp]
 have af' : qAY X P α ((fi env S0).bind fun p S1 => mkM mm (goL p.1 g t kk p.2 (qEj cap env) S1 [])) (OkV X P α Q) := af
 refine wpAny_comprehension_free (use := none) rfl hs (qUK S I.ok) S.kind S.names ?_
 refine thn (hi pins s σ H (fun J H1 => ∃ (P1 : Hp) (α1 : List Addr) (p : Option (Nat × MO) × List DL.D) (S1 : Sto), Rel X.K H1 P1 α1 S1 ∧ qAJ P P1 ∧ α <+: α1 ∧ ItD2 X.K J P1 α1 p.1 p.2 ∧ qAY X P α (mkM mm (goL p.1 g t kk p.2 (qEj cap env) S1 [])) (OkV X P α Q)) I ⟨P, α, env, S0, r, re, ?_⟩) fun xv s1 h1 => thn h1 fun itv s2 h2 => ?_
 ·cases q : fi env S0 with
  | bad => rw [q] at af'; exact af'
  | ex c x S' => rw [q] at af'; exact af'
  | ok p S1 => rw [q] at af'; exact fun J H1 P1 α1 r1 e1 e2 it => ⟨P1, α1, p, S1, r1, e1, e2, it, af'⟩
 obtain ⟨it, fp, tn, J, H2, rfl, I2, T, st0, hf, P1, α1, p, S1, r1, e1, e2, hit, af1⟩ := h2
 obtain ⟨envF, ds, SF, run, ok⟩ := qW0 af1
 refine qPi (RR := fun acc C => compPost (model X.prog X.w) X.A X.xe none (EP X pins σ Q) acc C) hc S has hg ht he I2 r1 (re.mono e1 e2) T st0 hf hit run ?_
 intro acc C s' hA ⟨m, hm⟩ hC hne fin
 refine ⟨m, hm, fun h' sb => qSy (mm := mm) (fin h' sb) ?_⟩
 cases mm with
 | false => exact fun v H3 P3 α3 r3 q1 q2 q3 => ok v H3 P3 α3 r3 (e1.trans q1) (e2.trans q2) q3
 | true => exact fun v H3 P3 α3 r3 q1 q2 q3 => ok v H3 P3 α3 r3 (e1.trans q1) (e2.trans q2) q3
end
end DL
end
section
namespace DL
open PySem PySem.Spec PyProof.Rows L2
section
variable {K : PySem.W.Frag} {H P : Hp} {α : List Addr} {S : Sto}
theorem Rel.still {a : Addr} {n : Nat} {m : MO} {o : HO} (r : Rel K H P α S) (ha : α[n]? = some a) (hs : S[n]? = some m) (hd : m ≠ .dead) : Rel K (upd H a o) (upd P a o) α (S.set n .dead) ∧ qAJ P (upd P a o) := by
 have hP := r.sep n a m ha hs hd
 have sP : qAJ P (upd P a o) := qIr hP
 have r1 := r.put (o := o) (m' := .dead) ha hs hd trivial
 have hn : n < S.length := (List.getElem?_eq_some_iff.mp hs).1
 refine ⟨⟨fun b u e => ?_, r1.len, r1.nd, fun i b u q1 q2 q3 => ?_, fun i b u q1 q2 => (r1.at' i b u q1 q2).mono sP (List.prefix_refl _), r1.own⟩, sP⟩
 ·by_cases hb : b = a
  ·subst hb; rw [qA5] at e ⊢; exact e
  ·rw [qAa hb] at e ⊢; exact r.sub _ _ e
 ·have hb : b ≠ a := by
   rintro rfl
   have := qNY r.nd q1 ha
   subst this
   rw [List.getElem?_set_self hn] at q2
   cases q2
   exact q3 rfl
  rw [qAa hb]
  exact r1.sep i b u q1 q2 q3
end
theorem qQK {K : PySem.W.Frag} {P : Hp} {α : List Addr} : ∀ {kvs : List (Key × D)} {vs : List (Key × V)}, KVs K P α kvs vs → qAL K P α (kvs.map (·.2)) (vs.map (·.2))
 | _, _, .nil => .nil
 | _, _, .cons z t => .cons z.2 (qQK t)
end DL
end
section
namespace DL
open PySem PySem.Spec PyProof.Rows L2
section
variable {X : Cx}
noncomputable def qIh : G2 := fun a b S => match a, b with
 | .lst xs, .int k => if 0 ≤ k ∧ k < 2 ^ 62 ∧ xs.length * k.toNat ≤ lim then .ok (.lst (List.replicate k.toNat xs).flatten) S else .bad
 | _, _ => qAq a b S
theorem qPL {K : PySem.W.Frag} {P : Hp} {α : List Addr} {ds : List D} {vs : List V} (r : qAL K P α ds vs) : ∀ k : Nat, qAL K P α (List.replicate k ds).flatten (List.replicate k vs).flatten
 | 0 => by simpa using qAL.nil
 | k + 1 => by
  rw [List.replicate_succ, List.replicate_succ, List.flatten_cons, List.flatten_cons]
  exact r.append (qPL r k)
set_option tactic.hygienic true in
theorem qVI : OpD X (binaryOp .Mult) qIh := by
 intro pins σ H s P α S v u vv uu a b Q I r rv ru pa pb af
 unfold qIh at af
 split at af
 ·rename_i xs k
  split at af
  ·rename_i hk
   obtain ⟨h1, h2, hz⟩ := hk
   obtain ⟨l, vs, its, n, rfl, q1, t1, rv1, e, l1, _⟩ := qJj I r pa
   cases (show vv = Value.ref l from rv)
   have := qBa pb
   subst this
   obtain ⟨t, rfl⟩ := ru
   have hl : its.length = vs.length := rv1.length.symm
   have hlen : its.toArray.size * k.toNat ≤ sizeLine := by rw [List.size_toArray, ← l1, ← qBg]; exact hz
   have hcap : ¬ its.toArray.size * k.toNat > (2 ^ 63 - 1) / 8 := by
    have : (sizeLine : Nat) ≤ (2 ^ 63 - 1) / 8 := by decide
    omega
   have hfit : ¬ (!Builtin.List.listFitsIndex k) = true := by
    rw [fitsIndex_both (by omega) (by omega)]
    exact Bool.false_ne_true
   have hlong : ¬ Builtin.List.listTooLong (its.toArray.size * k.toNat) = true := by
    rw [qTL hlen]
    exact Bool.false_ne_true
   have hnew : List.foldl (fun x1 x2 => x1 ++ x2) #[] (List.replicate (if its.toArray.isEmpty = true then 0 else k.toNat) its.toArray) = (List.replicate k.toNat its).flatten.toArray := by
    have f0 : ∀ m : Nat, List.foldl (fun x1 x2 => x1 ++ x2) #[] (List.replicate m its.toArray) = (List.replicate m its).flatten.toArray := fun m => by
     have := qNU its m []
     rw [List.nil_append] at this
     exact this
    rw [f0]
    cases its with
    | nil => simp
    | cons a r' => rw [if_neg (by simp)]
   refine wpAny_binaryOp_repeat_ref (T := "list") (U := "int") (by decide) ⟨_, e, rfl⟩ (fun s' => typeIs_int s' k t) noFill_list_mul F.fills_int_mul F.slot_int_rmul repeat_list F.slot_int_index.lookup
    (call_meets F.slot_int_rmul (typeIs_int s k t) F.entry_int_rmul (F.args_int_rmul_2 _ _) (int___rmul___int_list k t l its.toArray n)
     ⟨e, rfl, ⟨_, e, rfl⟩, call_meets F.slot_list_mul ⟨_, e, rfl⟩ F.entry_list_mul (F.args_list_mul_2 _ _) (AutoListH.list___mul___list_int_3 l its.toArray n k t hfit hcap hlong) ⟨e, ?_⟩⟩)
   rw [hnew]
   exact qOn I r (qPL t1 k.toNat) (rv1.rep k.toNat) (by rw [qVB, Nat.mul_comm]; exact hz) af
  ·exact False.elim af
 ·exact qQP pins σ H s P α S v u vv uu a b Q I r rv ru pa pb af
noncomputable def qTs (X : Cx) (cm : Bool) (k : Nat) (f : Addr) (p : Nat × DF) : Prop := ∃ fd ps, PySem.W.keepIn X.K (.ref f) = true ∧ qFO X.K fd ps [] ∧ FnX X.prog X.w X.K X.mg X.base cm k f fd ps (spD X.K p.1 p.2)
inductive TabL (X : Cx) (cm : Bool) (k : Nat) : List Expr → List (Nat × DF) → Prop
 | nil : TabL X cm k [] []
 | cons {x : Str} {p : Pos} {n : Nat} {F : DF} {es : List Expr} {Fs : List (Nat × DF)} : Def X.prog X.w X.K X.mg X.base cm k x n F → Gl X x → (x == ("__debug__" : Str)) = false → TabL X cm k es Fs → TabL X cm k (.Name x p :: es) ((n, F) :: Fs)
noncomputable def flA : List Addr → DA
 | [] => qAE
 | f :: fs => qAA (dC (.obj f)) (flA fs)
theorem qWi (fs : List Addr) (env : qAI) (S : Sto) : flA fs env S = .ok (fs.map D.obj) S := by
 induction fs with
 | nil => rfl
 | cons f fs ih => simp [flA, qAA, dC, Res.bind, ih]
theorem qXv {cm : Bool} {k : Nat} {es : List Expr} {Fs : List (Nat × DF)} (h : TabL X cm k es Fs) : ∃ fs, PA X es (tDA X (flA fs)) ∧ fs.length = Fs.length ∧ ∀ (i : Nat) (p : Nat × DF), Fs[i]? = some p → ∃ f, fs[i]? = some f ∧ qTs X cm k f p := by
 induction h with
 | nil => exact ⟨[], qRS, rfl, fun i p e => by simp at e⟩
 | @cons x p n F es Fs G hg hd _ ih =>
  obtain ⟨fs, h1, h2, h3⟩ := ih
  obtain ⟨f, fd, ps, hn, hm, kp, hb, hl, G⟩ := G
  refine ⟨f :: fs, qP6 (qRb hg hm kp hd) h1, by simp [h2], fun i q e => ?_⟩
  cases i with
  | zero =>
   simp at e; subst e
   exact ⟨f, rfl, fd, ps, kp, hb, G⟩
  | succ i =>
   obtain ⟨f', e1, e2⟩ := h3 i q (by simpa using e)
   exact ⟨f', by simpa using e1, e2⟩
noncomputable def qMT (Fs : List (Nat × DF)) (fi : DE) (fa : DA) : DE := fun env S => (fi env S).bind fun d S1 => match d with
 | .int k => match atI Fs k with
  | some p => (fa env S1).bind fun ds S2 => if ds.length = p.1 then p.2 ds S2 else .bad
  | none => .bad
 | _ => .bad
theorem qWJ {cm : Bool} {k : Nat} {es : List Expr} {Fs : List (Nat × DF)} {ie e : Expr} {rest : List Expr} {lp sp pos : Pos} {fi : DE} {fa : DA} (T : TabL X cm k es Fs) (hr : RoomC cm k X.A) (hF : Fn1 X) (hl : Fs.length ≤ lim) (hi : PE X ie (tD X fi)) (ha : PA X (e :: rest) (tDA X fa)) (hs : autoParam (qHc ie) au5._auto_1)
  (he : autoParam (starEach (e :: rest) X.env = (false, eval e X.env) :: starEach rest X.env) au3._auto_1) (hpl : autoParam ((backTo pos (starEach rest X.env)).any (·.1) = false) au3._auto_1) : PE X (.Call (.Subscript (.List es lp) ie sp) (e :: rest) [] pos) (tD X (qMT Fs fi fa)) := by
 obtain ⟨fs, hpa, hfl, hgood⟩ := qXv T
 have key : PE X (.Subscript (.List es lp) ie sp) (tD X (d2 gIx (qAv (flA fs)) fi)) := qTz qWr (qRd hpa) hi hs
 intro pins s σ H Q I h
 obtain ⟨P, α, env, S, r, re, af⟩ := h
 refine Call_ (thn (key pins s σ H (fun v H1 => ∃ P1 α1 S1 f p, Rel X.K H1 P1 α1 S1 ∧ qAJ P P1 ∧ α <+: α1 ∧ v = .ref f ∧ qTs X cm k f p ∧ qAY X P α ((fa env S1).bind fun ds S2 => if ds.length = p.1 then p.2 ds S2 else .bad) (OkV X P α Q)) I ⟨P, α, env, S, r, re, ?_⟩) fun vv s1 ⟨v, H1, I1, rv, P1, α1, S1, f, p, r1, e1, e2, hv, ⟨fd, ps, kp, hb, G⟩, af1⟩ => ?_)
 ·have hll : (fs.map D.obj).length ≤ lim := by rw [List.length_map, hfl]; exact hl
  have ev : d2 gIx (qAv (flA fs)) fi env S = (fi env S).bind fun y S2 => gIx (.lst (fs.map D.obj)) y S2 := by
   simp only [d2, qAv, qWi, Res.bind, hll, if_true]
  rw [ev]
  unfold qMT at af
  cases q : fi env S with
  | bad => rw [q] at af; exact af
  | ex c x S' => rw [q] at af; exact af
  | ok d S1 =>
   rw [q] at af
   simp only [Res.bind] at af ⊢
   cases d with
   | int kk =>
    simp only at af
    cases hp : atI Fs kk with
    | none => rw [hp] at af; exact False.elim af
    | some p =>
     rw [hp] at af
     unfold atI at hp
     cases hj : ixN Fs.length kk with
     | none => rw [hj] at hp; cases hp
     | some j =>
      rw [hj] at hp
      obtain ⟨f, ef, gf⟩ := hgood j p hp
      have ea : atI (fs.map D.obj) kk = some (.obj f) := by
       unfold atI
       rw [List.length_map, hfl, hj]
       simp [ef]
      simp only [gIx, ea, qFJ]
      intro v H' P' α' r' e1 e2 rp
      simp only [Rep] at rp
      exact ⟨P', α', S1, f, p, r', e1, e2, rp.1, gf, af⟩
   | _ => exact False.elim af
 ·subst hv
  cases (show vv = Value.ref f from rv)
  refine PySem.W.callWith_K (h₀ := X.base) I.ok.mod.kin kp (thn (qDx ha I1 r1 (re.mono e1 e2) (qAY.base' e1 e2 (fun d S ok v H' P' α' r' q1 q2 q3 => ok v H' P' α' r' (e1.trans q1) (e2.trans q2) q3) af1) pos) fun us s2 ⟨vs, H2, P2, α2, ds, S2, I2, rv2, r2, re2, rp, e3, e4, af2⟩ => ⟨I2.kIn, ?_⟩) he hpl
  have af3 : qAY X P1 α1 (if ds.length = p.1 then p.2 ds S2 else .bad) (OkV X P1 α1 Q) := af2
  by_cases hn : ds.length = p.1
  ·rw [if_pos hn] at af3
   exact qQZ G hr hb hF I2 r2 rv2 rp hn (qAp.base e3 e4 af3)
  ·rw [if_neg hn] at af3; exact False.elim af3
variable {e : Expr} {fa : DE} {p1 p2 pos1 pos2 : Pos}
end
end DL
end
section
namespace DL
open PySem PySem.Spec PyProof.Rows L2
section
variable {K : PySem.W.Frag} {H P : Hp} {α : List Addr} {S : Sto}
theorem qQM : ∀ {kvs : List (Key × D)} {vs : List (Key × V)}, KVs K P α kvs vs → (kvs.map (·.1)).zip (vs.map (·.2)) = vs ∧ (kvs.map (·.1)).length = (vs.map (·.2)).length
 | _, _, .nil => ⟨rfl, rfl⟩
 | _, _, .cons (a := a) (b := b) z t => by
  obtain ⟨h1, h2⟩ := qQM t
  refine ⟨?_, by simpa using h2⟩
  simp only [List.map_cons, List.zip_cons_cons, h1]
  rw [z.1]
theorem qQg : ∀ {ks : List Key} {ds : List D} {vs : List V}, ks.length = vs.length → qAL K P α ds vs → KVs K P α (ks.zip ds) (ks.zip vs)
 | [], _, _, _, _ => by simp only [List.zip_nil_left]; exact .nil
 | k :: ks, [], vs, hl, t => by rw [t.nil_inv] at hl; simp at hl
 | k :: ks, d :: ds, vs, hl, t => by
  obtain ⟨w, ws, rfl, r1, r2⟩ := t.cons_inv
  exact .cons ⟨rfl, r1⟩ (qQg (by simpa using hl) r2)
end
noncomputable def qJW (f : DE) : DE := fun env S => (f env S).bind fun d S1 => match d with
 | .loc n => match S1[n]? with
  | some (.dct kvs) => .ok (.fd (kvs.map (·.1)) (kvs.map (·.2))) (S1.set n .dead)
  | _ => .bad
 | _ => .bad
section
variable {X : Cx} {e : Expr} {f : DE}
set_option tactic.hygienic true in
theorem qWD (he : PE X e (tD X f)) : PE X e (tD X (qJW f)) := by
 intro pins s σ H Q I h
 obtain ⟨P, α, env, S, r, re, af⟩ := h
 refine thn (qBd he I r re af) fun vv s1 ⟨v, H1, P1, α1, d, S1, G1, af1⟩ => ?_
 cases d with
 | loc n =>
  simp only at af1
  split at af1
  ·rename_i kvs hS
   have rp := G1.rep
   have I1 := G1.inv
   have r1 := G1.rel
   simp only [Rep] at rp
   obtain ⟨a, rfl, ha⟩ := rp
   obtain ⟨vs, z, t⟩ := r1.at' n a _ ha hS
   obtain ⟨hz, hd, us, rel, dd⟩ := qQq I1.hok z
   obtain ⟨ep, oa, es, hoa, rest⟩ := dd.dictAt
   obtain ⟨r2, e2⟩ := r1.still (o := .frz oa (.dK vs)) ha hS (by intro q; cases q)
   have I2 : Inv X pins σ (upd H1 a (.frz oa (.dK vs))) { s1 with heap := s1.heap, toks := s1.toks } := I1.write (x := a) (e := a) (by rw [z]; exact True.intro) (.inl rfl) (fun b q hb e => e) ⟨oa, hoa⟩ ⟨hoa, hz, hd, us, rel, dd⟩
   obtain ⟨z1, z2⟩ := qQM t
   refine ⟨.ref a, _, I2, G1.val, af1 _ _ _ α1 r2 (G1.same.trans e2) G1.pre ?_⟩
   simp only [Rep]
   exact ⟨a, oa, vs.map (·.2), rfl, by rw [z1]; exact qA5, z2, qAL.mono e2 (List.prefix_refl _) _ _ (qQK t)⟩
  ·exact False.elim af1
 | _ => exact False.elim af1
end
noncomputable def qGY : G2 := fun a b S => match a with
 | .fd ks ds => match qK7 b with
  | some k => match qB8 (ks.zip ds) k with
   | some d => .ok d S
   | none => .bad
  | none => .bad
 | _ => .bad
section
variable {X : Cx}
theorem qSU {K : PySem.W.Frag} {P : Hp} {α : List Addr} {k : Key} {d : D} : ∀ {kvs : List (Key × D)} {vs : List (Key × V)}, KVs K P α kvs vs → qB8 kvs k = some d → ∃ v, qDQ vs k = some v ∧ Rep K P α d v
 | _, _, .nil, h => by simp [qB8] at h
 | _, _, .cons (a := a) (b := b) (l₁ := as) (l₂ := bs) z t, h => by
  by_cases hk : a.1 = k
  ·have h1 : qB8 (a :: as) k = some a.2 := by simp [qB8, hk]
   rw [h1] at h
   cases h
   have hb : b.1 = k := z.1 ▸ hk
   exact ⟨b.2, by simp [qDQ, hb], z.2⟩
  ·have h1 : qB8 (a :: as) k = qB8 as k := by simp [qB8, hk]
   rw [h1] at h
   obtain ⟨v, e1, e2⟩ := qSU t h
   have hb : ¬ b.1 = k := fun e => hk (z.1 ▸ e)
   exact ⟨v, by rw [← e1]; simp [qDQ, hb], e2⟩
set_option tactic.hygienic true in
theorem qUS {o i : Expr} {fo fi : DE} {pos : Pos} (hu : X.A.units + 1 < cLine) (ho : PE X o (tD X fo)) (hi : PE X i (tD X fi)) (hs : autoParam (qSa i) au5._auto_1) : PE X (.Subscript o i pos) (tD X (d2 qGY fo fi)) := by
 intro pins s σ H Q I h
 obtain ⟨P, α, env, S, r, re, af⟩ := h
 refine qVj PySem.F.slot_dict_getitem.lookup hs (thn (qBd ho I r re af) fun vv s1 ⟨v, H1, P1, α1, a, S1, G1, af1⟩ => ?_)
 refine thn (qBd hi G1.inv G1.rel G1.env (P := P1) (α := α1) (Ok := OkV X P1 α1 Q) (g := fun y S2 => qGY a y S2) (qAp.base G1.same G1.pre af1)) fun uu s2 ⟨u, H2, P2, α2, b, S2, G2, af2⟩ => ?_
 have pa := Rep.mono G2.same G2.pre _ _ G1.rep
 have pb := G2.rep
 have I2 := G2.inv
 have r2 := G2.rel
 have af3 := qAp.base G2.same G2.pre af2
 unfold qGY at af3
 split at af3
 ·rename_i ks ds
  split at af3
  ·rename_i k hk
   split at af3
   ·rename_i d hd
    simp only [Rep] at pa
    obtain ⟨p, ob, vs, rfl, q, hl, t⟩ := pa
    have ei := qOk hk pb
    subst ei
    cases (show vv = Value.ref p from G1.val)
    obtain ⟨w, h1, h2⟩ := qSU (qQg hl t) hd
    have g : qKg H2 p (kV k) (some w) := .inl ⟨_, k, .inr ⟨ob, r2.sub _ _ q⟩, rfl, h1.symm⟩
    exact ⟨qPq I2 g, qRQ hu I2 g G2.val fun w' s3 I3 rw' => ⟨w, H2, I3, rw', xr af3 r2 h2⟩⟩
   ·exact False.elim af3
  ·exact False.elim af3
 ·exact False.elim af3
end
end DL
end
section
namespace DL
open PySem PySem.Spec PyProof.Rows L2
noncomputable def qEF (H : Hp) : List (Addr × HO) → Hp
 | [] => H
 | p :: ps => qEF (upd H p.1 p.2) ps
theorem qKB {b : Addr} : ∀ {L : List (Addr × HO)} {H : Hp}, b ∉ L.map (·.1) → qEF H L b = H b
 | [], _, _ => rfl
 | p :: ps, H, h => by
  simp only [List.map_cons, List.mem_cons, not_or] at h
  show qEF (upd H p.1 p.2) ps b = H b
  rw [qKB h.2, qAa h.1]
theorem qLW {a : Addr} {o : HO} : ∀ {L : List (Addr × HO)} {H : Hp}, (L.map (·.1)).Nodup → (a, o) ∈ L → qEF H L a = some o
 | p :: ps, H, nd, h => by
  simp only [List.map_cons, List.nodup_cons] at nd
  show qEF (upd H p.1 p.2) ps a = some o
  rcases List.mem_cons.mp h with rfl | h
  ·rw [qKB nd.1, qA5]
  ·exact qLW nd.2 h
theorem qPY {b : Addr} {u : HO} : ∀ {L : List (Addr × HO)} {H : Hp}, qEF H L b = some u → (b, u) ∈ L ∨ H b = some u
 | [], _, h => .inr h
 | p :: ps, H, h => by
  rcases qPY (L := ps) (H := upd H p.1 p.2) h with h | h
  ·exact .inl (List.mem_cons_of_mem _ h)
  ·by_cases hb : b = p.1
   ·subst hb
    rw [qA5] at h
    cases h
    exact .inl (List.mem_cons_self ..)
   ·rw [qAa hb] at h
    exact .inr h
section
variable {K : PySem.W.Frag}
theorem Rel.pureL {α : List Addr} {S : Sto} : ∀ {L : List (Addr × HO)} {H P : Hp}, (∀ p ∈ L, H p.1 = none) → (L.map (·.1)).Nodup → Rel K H P α S → Rel K (qEF H L) (qEF P L) α S ∧ qAJ P (qEF P L)
 | [], _, _, _, _, r => ⟨r, qAJ.refl _⟩
 | p :: ps, H, P, hn, nd, r => by
  simp only [List.map_cons, List.nodup_cons] at nd
  obtain ⟨r1, e1⟩ := r.pure (o := p.2) (hn p (List.mem_cons_self ..))
  obtain ⟨r2, e2⟩ := Rel.pureL (L := ps) (fun q hq => by
   have : q.1 ≠ p.1 := fun e => nd.1 (e ▸ List.mem_map.mpr ⟨q, hq, rfl⟩)
   rw [qAa this]
   exact hn q (List.mem_cons_of_mem _ hq)) nd.2 r1
  exact ⟨r2, e1.trans e2⟩
end
section
variable {X : Cx} {pins : List (Addr × Obj)} {σ : L2.St} {H : Hp} {s : Shared}
theorem Inv.laidL {L : List (Addr × HO)} {h' : Heap} {t' : Nat} (I : Inv X pins σ H s) (k : ∀ b u, s.heap.get? b = some u → h'.get? b = some u) (hp : ∀ p ∈ L, s.heap.objs.size ≤ p.1) (new : ∀ p ∈ L, qBD X.prog X.w (qEF H L) h' p.1 p.2) :
  Inv X pins σ (qEF H L) { s with heap := h', toks := t' } := by
 have old : ∀ b u, H b = some u → qEF H L b = some u := fun b u e => by
  rw [qKB (L := L)]
  ·exact e
  ·intro hb
   obtain ⟨p, hp', rfl⟩ := List.mem_map.mp hb
   rw [I.hok.fresh (hp p hp')] at e
   cases e
 have low : ∀ b, b < s.heap.objs.size → qEF H L b = H b := fun b hb => qKB fun hm => by
  obtain ⟨p, hp', rfl⟩ := List.mem_map.mp hm
  exact absurd (Nat.lt_of_lt_of_le hb (hp p hp')) (Nat.lt_irrefl _)
 refine I.un ⟨fun b u q _ _ _ => k b u q, fun b u q _ _ _ => ⟨u.slots, k b u q⟩, fun b u q n _ => by rw [low b (Heap.lt_size q)]; exact n, fun b u q _ => ⟨u, k b u q⟩, fun b xs q => old b _ q, fun b o xs q => old b _ q, fun b ps q => ⟨#[], by rw [old b _ q]; simp⟩⟩ fun b u e => ?_
 rcases qPY e with hm | hb
 ·exact new (b, u) hm
 ·exact (I.hok b u hb).stay (fun c v _ q => k c v q) (fun c q => old c _ q) fun c xs q => old c _ q
end
noncomputable def kD : Key → D
 | .inl i => .int i
 | .inr x => .str x
theorem qRp {K : PySem.W.Frag} {P : Hp} {α : List Addr} (k : Key) : Rep K P α (kD k) (kV k) := by
 cases k <;> simp only [kD, kV, Rep]
theorem qT1 {k : Key} {u : Value} (h : qIk k u = true) : qAR (kV k) u := by
 rcases qBi h with ⟨i, t, rfl, rfl⟩ | ⟨x, t, rfl, rfl⟩
 ·exact ⟨t, rfl⟩
 ·exact ⟨t, rfl⟩
noncomputable def qHr (f : DE) : DE := fun env S => (f env S).bind fun d S1 => match d with
 | .loc n => match S1[n]? with
  | some (.dct kvs) => .ok (.lst (kvs.map fun p => .tup [kD p.1, p.2])) S1
  | _ => .bad
 | _ => .bad
theorem qRK : bootBuiltins "list" = some (.type "list") := by decide +kernel
noncomputable def qPV (as : List Addr) (vs : List (Key × V)) : List (Addr × HO) := List.zipWith (fun a p => (a, HO.tup [kV p.1, p.2])) as vs
theorem qPW : ∀ (as : List Addr) (vs : List (Key × V)), as.length = vs.length → (qPV as vs).map (·.1) = as
 | [], vs, h => rfl
 | a :: as, vs, h => by
  cases vs with
  | nil => exact Nat.noConfusion h
  | cons v vs => exact congrArg (a :: ·) (qPW as vs (Nat.succ.inj h))
theorem qPX : ∀ {as : List Addr} {vs : List (Key × V)} {p : Addr × HO}, p ∈ qPV as vs → ∃ (j : Nat) (q : Key × V), as[j]? = some p.1 ∧ vs[j]? = some q ∧ p.2 = HO.tup [kV q.1, q.2]
 | a :: as, v :: vs, p, h => by
  rcases List.mem_cons.mp (show p ∈ (a, HO.tup [kV v.1, v.2]) :: qPV as vs from h) with rfl | h
  ·exact ⟨0, v, rfl, rfl, rfl⟩
  ·obtain ⟨j, q, e1, e2, e3⟩ := qPX h
   exact ⟨j + 1, q, by simpa using e1, by simpa using e2, e3⟩
theorem qNd {K : PySem.W.Frag} {P : Hp} {α : List Addr} : ∀ {as : List Addr} {kvs : List (Key × D)} {vs : List (Key × V)}, KVs K P α kvs vs → as.length = vs.length → (∀ p ∈ qPV as vs, P p.1 = some p.2) → qAL K P α (kvs.map fun p => D.tup [kD p.1, p.2]) (as.map V.ref)
 | [], [], _, .nil, _, _ => .nil
 | a :: as, _, _, .cons (a := x) (b := y) (l₁ := xs) (l₂ := ys) z t, hl, h => by
  refine .cons ?_ (qNd t (by simpa using hl) fun p hp => h p (List.mem_cons_of_mem _ hp))
  have h0 := h (a, HO.tup [kV y.1, y.2]) (List.mem_cons_self ..)
  simp only [Rep]
  refine ⟨a, [kV y.1, y.2], rfl, .inl (.inl h0), .cons ?_ (.cons z.2 .nil)⟩
  rw [z.1]
  exact qRp _
 | [], _ :: _, _, .cons _ _, hl, _ => by simp at hl
theorem qRs {κ : Type} : ∀ {vs : List (κ × V)} {us : List (κ × Value)}, KV vs us → ∀ {j : Nat} {q : κ × V}, vs[j]? = some q → ∃ u, us[j]? = some (q.1, u) ∧ qAR q.2 u
 | _, _, .nil, j, q, h => by simp at h
 | _, _, .cons (a := x) (b := y) z t, j, q, h => by
  cases j with
  | zero =>
   simp at h
   subst h
   exact ⟨y.2, by simp; exact Prod.ext z.1.symm rfl, z.2⟩
  | succ j =>
   obtain ⟨u, e1, e2⟩ := qRs t (j := j) (q := q) (by simpa using h)
   exact ⟨u, by simpa using e1, e2⟩
theorem qSW (as : List Addr) : qAZ (as.map V.ref) (as.map Value.ref) := by
 induction as with
 | nil => exact .nil
 | cons a as ih => exact .cons rfl ih
section
variable {X : Cx} {o : Expr} {fo : DE} {apos cpos pos p2 : Pos}
set_option tactic.hygienic true in
theorem qRc (hc : X.calm = true) (hg : Gl X "list") (hm : X.mg "list" = none) (ho : PE X o (tD X fo)) (hbase : autoParam (attributeBase o "items" X.env (eval o X.env) = eval o X.env) au3._auto_1) (hline : autoParam ((apos.endLine == cpos.line) = true) au3._auto_1)
  (he : autoParam (starEach [.Call (.Attribute o "items" apos) [] [] cpos] X.env = (false, eval (.Call (.Attribute o "items" apos) [] [] cpos) X.env) :: starEach [] X.env) au3._auto_1) :
  PE X (.Call (.Name "list" p2) [.Call (.Attribute o "items" apos) [] [] cpos] [] pos) (tD X (qHr fo)) := by
 intro pins s σ H Q I h
 obtain ⟨P, α, env, S, r, re, af⟩ := h
 refine Call_ (qH9 I hg hm qRK (PyProof.Rows.callWith_type1 ?_ he rfl))
 rw [he]
 refine Calls.spliced_cons (wpAny_Call_method0_late hbase hline (thn (qBd ho I r re af) fun vv s1 ⟨v, H1, P1, α1, d, S1, G1, af1⟩ => ?_))
 cases d with
 | loc n =>
  simp only at af1
  split at af1
  ·rename_i kvs hS
   have rp := G1.rep
   have I1 := G1.inv
   have r1 := G1.rel
   have ht : tyD (.loc n) S1 = some "dict" := by simp [tyD, hS]
   obtain ⟨h1, h2⟩ := qSS I1 G1.val (qST r1 rp ht (by simp))
   simp only [Rep] at rp
   obtain ⟨a, rfl, ha⟩ := rp
   cases (show vv = Value.ref a from G1.val)
   obtain ⟨vs, z, t⟩ := r1.at' n a _ ha hS
   obtain ⟨hz, hd, us, rel, dd⟩ := qQq I1.hok z
   refine ⟨"dict", "dict.items", PySem.F.plainAttrs_dict, PySem.F.slot_dict_items, PySem.F.type_dict_items, h1, h2, Calls.callWith_builtin rfl (PySem.evalArgs_none ?_)⟩
   refine call_meetsIn PySem.F.slot_dict_items dd.typeIs PySem.F.entry_dict_items (PySem.F.args_dict_items_1 _) (meets_dict_items (qBJ X.prog X.w) a hd) ⟨⟨us, dd⟩, ?_⟩
   obtain ⟨ep, oa, es, hoa, rest⟩ := dd.dictAt
   refine Calls.spliced_nil ?_
   have hlu : us.length ≤ sizeLine := by rw [← rel.length]; exact hz
   refine PySem.W.kdx_call (s := { s1 with heap := s1.heap.push { cls := .type "dict_items", data := .fields #[.ref a] } }) (knd := qBJ X.prog X.w) (d := a) (kvs := us) (ep := ep) (I1.ok.hd hc) ⟨_, Heap.get?_push_size _ rfl, rfl, rfl⟩ ⟨oa, es, Heap.get?_push_of_some _ hoa, rest⟩ hlu fun h' tk acc c as hk hL hlen g hacc => ?_
   have I2 := I1.kept (t' := s1.toks) (h' := s1.heap.push { cls := .type "dict_items", data := .fields #[.ref a] }) fun b u e => Heap.get?_push_of_some _ e
   have hlv : as.length = vs.length := by rw [hlen, rel.length]
   let LA : Addr := (s1.heap.push { cls := .type "dict_items", data := .fields #[.ref a] }).objs.size
   let L : List (Addr × HO) := qPV as vs ++ [(LA, HO.lst (as.map V.ref))]
   have hfst : L.map (·.1) = as ++ [LA] := by simp [L, qPW as vs hlv]
   have nd : (L.map (·.1)).Nodup := by
    rw [hfst, List.nodup_append]
    refine ⟨g.rise.imp fun hlt => Nat.ne_of_lt hlt, by simp, fun x hx y hy e => ?_⟩
    have hy' : y = LA := by simpa using hy
    rw [e, hy'] at hx
    exact absurd (g.above LA hx) (Nat.lt_irrefl _)
   have hge : ∀ p ∈ L, (s1.heap.push { cls := .type "dict_items", data := .fields #[.ref a] }).objs.size ≤ p.1 := fun p hp => by
    have : p.1 ∈ as ++ [LA] := by rw [← hfst]; exact List.mem_map.mpr ⟨p, hp, rfl⟩
    rcases List.mem_append.mp this with h | h
    ·exact Nat.le_of_lt (g.above _ h)
    ·have : p.1 = LA := by simpa using h
     rw [this]
     exact Nat.le_refl _
   have I3 : Inv X pins σ (qEF H1 L) { s1 with heap := h', toks := tk } := Inv.laidL (s := { s1 with heap := s1.heap.push { cls := .type "dict_items", data := .fields #[.ref a] } }) (L := L) (t' := tk) I2 hk hge fun p hp => by
    rcases List.mem_append.mp hp with hp | hp
    ·obtain ⟨j, q, e1, e2, e3⟩ := qPX hp
     obtain ⟨u, e4, e5⟩ := qRs rel e2
     obtain ⟨key, k, x, f1, f2, f3⟩ := g.pairs j p.1 e1
     rw [e4] at f1
     cases f1
     rw [e3]
     exact ⟨(by decide : 2 ≤ sizeLine), [key, u], .cons (qT1 f2) (.cons e5 .nil), _, f3, rfl, _, rfl⟩
    ·have : p = (LA, HO.lst (as.map V.ref)) := by simpa using hp
     subst this
     refine ⟨by rw [List.length_map, hlv]; exact hz, as.map Value.ref, c, qSW as, ?_⟩
     rw [hL, ← hacc]
   obtain ⟨r3, e3⟩ := r1.pureL (L := L) (fun p hp => I2.hok.fresh (hge p hp)) nd
   refine ⟨.ref LA, _, I3, rfl, af1 _ _ _ α1 r3 (G1.same.trans e3) G1.pre ?_⟩
   have hPa : qEF P1 L LA = some (HO.lst (as.map V.ref)) := qLW nd (by simp [L])
   refine qM4 (.inl (.inl hPa)) ?_
   exact qNd (KVs.mono e3 (List.prefix_refl _) t) hlv fun p hp => qLW nd (List.mem_append_left _ hp)
  ·exact False.elim af1
 | _ => exact False.elim af1
end
end DL
end
section
namespace DL
open PySem PySem.Spec PyProof.Rows L2
noncomputable def Itk (a : Addr) (o : Obj) (u : HO) (ks : List Key) : It :=
 ⟨fun i H => H a = some (.frz o u) ∧ i < ks.length, fun i H x H' => H' = H ∧ ∃ k, ks[i]? = some k ∧ x = kV k, fun i H => H a = some (.frz o u) ∧ ks.length ≤ i⟩
theorem qSR {P : Program} {w : World} {K : PySem.W.Frag} {tg : Expr} {a it : Addr} {o : Obj} {u : HO} {ks : List Key} {us : List (Key × Value)} {ep : Nat} (kv : us.map (·.1) = ks) (at' : ∀ h : Heap, h.get? a = some o → h.DictAt (qBJ P w) a us ep) :
  Turn P w K tg (Itk a o u ks) [it] it (fun i h => h.IsKeyIter it a i us.length ep) where
 mem := by simp
 obj := fun i h st b hb => by
  have e : b = it := by simpa using hb
  subst e
  obtain ⟨o, e, c, d⟩ := st
  exact ⟨o, e, fun v z => by rw [d] at z; cases z⟩
 keep := fun i h h' st k => st.at fun o e => k it (by simp) o e
 item := by
  intro X hP hw hK hc i pins s σ H E I hf st hg
  subst hP hw hK
  obtain ⟨hu, hlt⟩ := hg
  have ho : s.heap.get? a = some o := (I.hok a _ hu).1
  have hl : us.length = ks.length := by rw [← kv]; simp
  have hlt' : i < us.length := by omega
  have e1 : us[i]? = some (us[i].1, us[i].2) := List.getElem?_eq_getElem hlt'
  obtain ⟨f0, f1, f2, f3, f4, f5⟩ := hf it (by simp)
  refine wpAny_pyNext_dict_item st (at' _ ho) e1 fun key h' hk st' sb => ?_
  have I1 : Inv X pins σ H { s with heap := h' } := I.turned (t' := s.toks) (fun b o hb e => (sb.2 b hb).trans e) f0 f1 f3 f4 f5
  obtain ⟨oi, ei, c, d⟩ := id st'
  exact ⟨key, rfl, qNu (s := { s with heap := h' }) ei c d (by decide) ⟨kV us[i].1, H, I1, qT1 hk, ⟨rfl, us[i].1, by rw [← kv]; simp [hlt'], rfl⟩, st', fun b hb => (hf b hb).1⟩⟩
 done := by
  intro X hP hw hK hc i pins s σ H E I hf st hg
  subst hP hw hK
  obtain ⟨hu, hle⟩ := hg
  have ho : s.heap.get? a = some o := (I.hok a _ hu).1
  obtain ⟨f0, f1, f2, f3, f4, f5⟩ := hf it (by simp)
  have hl : us.length = ks.length := by rw [← kv]; simp
  exact wpAny_pyNext_dict_end (I.ok.hd hc) st (at' _ ho) (by simp; omega) fun h' eb => ⟨rfl, I.turned (t' := s.toks) (fun b o hb e => eb b o hb e) f0 f1 f3 f4 f5⟩
 self := fun _ _ _ _ _ st h => wpAny_pyIter_keyiter st h
noncomputable def qLk (f : DE) : DI := fun env S => (f env S).bind fun d S1 => match d with
 | .fd ks ds => .ok (ks.map kD) S1
 | _ => .bad
theorem qS6 {K : PySem.W.Frag} {P : Hp} {α : List Addr} {a : Addr} {o : Obj} {u : HO} {ks : List Key} (q : P a = some (.frz o u)) : ItD K (Itk a o u ks) P α (ks.map kD) where
 go := fun i H P1 α1 S hi r e _ => ⟨r.sub _ _ (e _ _ q), by simpa using hi⟩
 yld := fun i H x H' P1 α1 S hi r e e2 y => by
  obtain ⟨rfl, k, hk, rfl⟩ := y
  exact ⟨P1, kD k, by simp [hk], r, qAJ.refl _, qRp k⟩
 stop := fun i H P1 α1 S hi r e _ => ⟨r.sub _ _ (e _ _ q), by simpa using hi⟩
section
variable {X : Cx} {tg e : Expr} {f : DE}
theorem qUa (ha : PE X e (tD X f)) : PI X tg e (tDI X (qLk f)) := by
 intro pins s σ H R I h
 obtain ⟨P, α, env, S, r, re, af⟩ := h
 refine thn (qBd ha I r re af) fun vv s1 ⟨v, H1, P1, α1, d, S1, G1, af1⟩ => ?_
 cases d with
 | fd ks ds =>
  simp only at af1
  have rp := G1.rep
  have I1 := G1.inv
  have r1 := G1.rel
  simp only [Rep] at rp
  obtain ⟨a, o, vs, rfl, q, hl, t⟩ := rp
  cases (show vv = Value.ref a from G1.val)
  obtain ⟨hoa, hz, hd, us, rel, dd⟩ := (show qBD X.prog X.w H1 s1.heap a (.frz o (.dK (ks.zip vs))) from I1.hok a _ (r1.sub _ _ q))
  obtain ⟨ep, oa, es, hoa', rest⟩ := dd.dictAt
  rw [hoa] at hoa'
  cases hoa'
  have at' : ∀ h : Heap, h.get? a = some o → h.DictAt (qBJ X.prog X.w) a us ep := fun h e => ⟨o, es, e, rest⟩
  refine wpAny_pyIter_dict hd (at' _ hoa) ?_
  have hks : us.map (·.1) = ks := by
   rw [← rel.keys]
   exact List.map_fst_zip (by omega)
  refine ⟨s1.heap.objs.size, [s1.heap.objs.size], _, _, H1, rfl, I1.kept (t' := s1.toks) fun b u e => Heap.get?_push_of_some _ e, qSR (u := .dK (ks.zip vs)) hks at', ⟨_, Heap.get?_push_size _ rfl, rfl, rfl⟩, fun b hb => ?_, af1 _ _ _ α1 r1 G1.same G1.pre (qS6 q)⟩
  have e : b = s1.heap.objs.size := by simpa using hb
  subst e
  exact I1.fpOk (Nat.le_refl _) (I1.hok.fresh (Nat.le_refl _))
 | _ => exact False.elim af1
end
end DL
end
section
namespace DL
open PySem PySem.Spec PyProof.Rows L2
structure QI2 (X : Cx) (tg it : Expr) (f : DI2) : Prop where
 get : PI X tg it (tDI2 X f)
structure QK (Y : Cx) (step : Value → Sem Unit) (k : DK) : Prop where
 get : PK Y step k
structure ZTab (X : Cx) (cm : Bool) (k : Nat) (es : List Expr) (Fs : List (Nat × DF)) : Prop where
 get : TabL X cm k es Fs
section
variable {X Y : Cx} {tg it e o elt iter ie : Expr} {es ifs rest : List Expr} {fa fo fe fi : DE} {fA : DA} {fI : DI} {f2 : DI2} {g : DG} {t : DT} {kk : DK} {p pos : Pos} {n k : Nat} {x : Str} {cm : Bool} {F : DF} {f : DS} {gens grest : List Comprehension} {scope : Scope} {N' : List Str} {cap : List (Option Nat)} {mm : Bool}
theorem qJs (h : QE X e fa) : QI2 X tg e (dIt fa) := ⟨qYE h.1⟩
theorem qQU {body : List Stmt} (hp : ZPass X) (hc : X.calm = true) (hi : QI2 X tg iter f2) (hg : QG X tg g) (hb : QB X body f) (hs : autoParam (∀ x, foldedSetIterable iter X.env x = pure x) au4._auto_1) : QS X (.For tg iter body [] pos) (qIq f2 g f) := ⟨qUe hp.1 hc hi.1 hg.1 hb.1 hs⟩
theorem qM1 (hx : Y.xe = fun _ _ => False) (hlast : gens[k + 1]? = none) (he : QE Y elt fe) : QK Y (fun acc => qC6 elt gens scope pos k acc Y.env) (qDL fe) := ⟨qVS hx hlast he.1⟩
theorem qLQ (hc : X.calm = true) (S : CompSc X.env.scope X.N scope N' cap) (hi : QI2 X tg iter f2) (hg : ∀ cl C ex s₀ H₀, QG (qBN X N' scope cl C ex s₀ H₀) tg g) (ht : ∀ cl C ex s₀ H₀, QTs (qBN X N' scope cl C ex s₀ H₀) ifs t)
  (has : ∀ g', (⟨tg, iter, ifs, 0⟩ :: grest : List Comprehension)[0 + 1]? = some g' → g'.is_async = 0)
  (he : ∀ cl C ex s₀ H₀, QK (qBN X N' scope cl C ex s₀ H₀) (fun acc => qC6 elt (⟨tg, iter, ifs, 0⟩ :: grest) scope pos 0 acc (qBN X N' scope cl C ex s₀ H₀).env) kk) (hs : ∀ x, foldedSetIterable iter X.env x = pure x) :
  QE X (.ListComp elt (⟨tg, iter, ifs, 0⟩ :: grest) scope pos) (qDw mm cap f2 g t kk) :=
 ⟨qSq hc S hi.1 (fun cl C ex s H => (hg cl C ex s H).1) (fun cl C ex s H => (ht cl C ex s H).1) has (fun cl C ex s H => (he cl C ex s H).1) hs⟩
theorem qTp : ZTab X cm k [] [] := ⟨.nil⟩
theorem qNg {Fs : List (Nat × DF)} (G : Def X.prog X.w X.K X.mg X.base cm k x n F) (hg : Gl X x) (hd : (x == ("__debug__" : Str)) = false) (h : ZTab X cm k es Fs) : ZTab X cm k (.Name x p :: es) ((n, F) :: Fs) := ⟨.cons G hg hd h.1⟩
theorem qXg {Fs : List (Nat × DF)} {lp sp : Pos} (T : ZTab X cm k es Fs) (hr : RoomC cm k X.A) (hF : Fn1 X) (hl : Fs.length ≤ lim) (hi : QE X ie fi) (ha : QA X (e :: rest) fA) (hs : autoParam (qHc ie) au5._auto_1)
  (he : autoParam (starEach (e :: rest) X.env = (false, eval e X.env) :: starEach rest X.env) au3._auto_1) (hpl : autoParam ((backTo pos (starEach rest X.env)).any (·.1) = false) au3._auto_1) : QE X (.Call (.Subscript (.List es lp) ie sp) (e :: rest) [] pos) (qMT Fs fi fA) := ⟨qWJ T.1 hr hF hl hi.1 ha.1 hs he hpl⟩
theorem qX4 : ZOp X (binaryOp .Mult) qIh := ⟨qVI⟩
end
section
variable {X : Cx} {scope : Scope} {N' : List Str} {cl : List (Str × Addr)} {C : Addr} {ex : List Addr} {s₀ : Shared} {H₀ : Hp} {x : Str}
theorem qJ1 (h : scope.names.lookup x = some .local) : (qBN X N' scope cl C ex s₀ H₀).env.scope.names.lookup x = some .local := by
 rcases qEQ (env := X.env) h with g | ⟨e, _⟩
 ·exact g
 ·cases e
end
end DL
end
section
namespace DL
open PySem PySem.Spec PyProof.Rows L2
noncomputable def qQu : G2 := fun a b S => match a, b with
 | .bl x, .bl y => .ok (.bl (x == y)) S
 | _, _ => .bad
section
variable {X : Cx} {tg e o i : Expr} {fa fo fi : DE} {p pos apos cpos : Pos} {cm : Bool} {k : Nat}
set_option tactic.hygienic true in
theorem qW9 : OpD X (compareOp .Is) qQu := by
 intro pins σ H s P α S v u vv uu a b Q I r rv ru pa pb af
 unfold qQu at af
 split at af
 ·rename_i x y
  simp only [Rep] at pa pb
  subst pa pb
  cases (show vv = Value.bool x from rv)
  cases (show uu = Value.bool y from ru)
  have h : EP X pins σ Q (.bool (x == y)) s := ⟨.bl _, H, I, rfl, xr af r (by simp only [Rep])⟩
  cases x <;> cases y <;> exact wpAny_pure h
 ·exact False.elim af
theorem qY3 : ZOp X (compareOp .Is) qQu := ⟨qW9⟩
theorem qXe (he : QE X e fa) : QE X e (qJW fa) := ⟨qWD he.1⟩
theorem qVX (hr : RoomC cm k X.A) (ho : QE X o fo) (hi : QE X i fi) (hs : autoParam (qSa i) au5._auto_1) : QE X (.Subscript o i pos) (d2 qGY fo fi) := ⟨qUS (hu1 hr) ho.1 hi.1 hs⟩
theorem qVZ (ha : QE X e fa) : QI X tg e (qLk fa) := ⟨qUa ha.1⟩
theorem qSF (hc : X.calm = true) (hg : Gl X "list") (hm : X.mg "list" = none) (ho : QE X o fo) (hbase : autoParam (attributeBase o "items" X.env (eval o X.env) = eval o X.env) au3._auto_1) (hline : autoParam ((apos.endLine == cpos.line) = true) au3._auto_1)
  (he : autoParam (starEach [.Call (.Attribute o "items" apos) [] [] cpos] X.env = (false, eval (.Call (.Attribute o "items" apos) [] [] cpos) X.env) :: starEach [] X.env) au3._auto_1) :
  QE X (.Call (.Name "list" p) [.Call (.Attribute o "items" apos) [] [] cpos] [] pos) (qHr fo) := ⟨qRc hc hg hm ho.1 hbase hline he⟩
end
end DL
end
section
namespace DL
open PySem
noncomputable def Nx (o : Out) (Q : qAI → Sto → Prop) : Prop := ∃ env S, o = .nx env S ∧ Q env S
noncomputable def Rt (o : Out) (Q : D → Sto → Prop) : Prop := ∃ d S, o = .rt d S ∧ Q d S
noncomputable def Ok {β : Type} (r : Res β) (Q : β → Sto → Prop) : Prop := ∃ d S, r = .ok d S ∧ Q d S
theorem qBB {o : Out} {Q : qAI → Sto → Prop} {env : qAI} {S : Sto} (h : o = .nx env S) (q : Q env S) : Nx o Q := ⟨env, S, h, q⟩
theorem qYu {o : Out} {Q : D → Sto → Prop} {d : D} {S : Sto} (h : o = .rt d S) (q : Q d S) : Rt o Q := ⟨d, S, h, q⟩
theorem qBC {β : Type} {r : Res β} {Q : β → Sto → Prop} {d : β} {S : Sto} (h : r = .ok d S) (q : Q d S) : Ok r Q := ⟨d, S, h, q⟩
theorem qB9 {f g : DS} {env : qAI} {S : Sto} {Q : qAI → Sto → Prop} (h : Nx (f env S) fun env1 S1 => Nx (g env1 S1) Q) : Nx (qAW f g env S) Q := by
 obtain ⟨env1, S1, e, env2, S2, e2, q⟩ := h
 exact ⟨env2, S2, by unfold qAW; rw [e]; exact e2, q⟩
theorem qA1 {f g : DS} {env : qAI} {S : Sto} {Q : D → Sto → Prop} (h : Nx (f env S) fun env1 S1 => Rt (g env1 S1) Q) : Rt (qAW f g env S) Q := by
 obtain ⟨env1, S1, e, env2, S2, e2, q⟩ := h
 exact ⟨env2, S2, by unfold qAW; rw [e]; exact e2, q⟩
theorem qCR {t : DT} {f g : DS} {env : qAI} {S S1 : Sto} {b : Bool} {Q : qAI → Sto → Prop} (h : t env S = .ok b S1) (k : Nx ((if b then f else g) env S1) Q) : Nx (sIf t f g env S) Q := by
 obtain ⟨env2, S2, e2, q⟩ := k
 refine ⟨env2, S2, ?_, q⟩
 unfold sIf
 rw [h]
 cases b <;> exact e2
theorem qBR {f : DE} {i : Nat} {env : qAI} {S : Sto} {Q : qAI → Sto → Prop} (h : Ok (f env S) fun d S1 => Q (env.set i (some d)) S1) : Nx (qAs f (gNm i) env S) Q := by
 obtain ⟨d, S1, e, q⟩ := h
 exact ⟨_, S1, by unfold qAs gNm; rw [e]; rfl, q⟩
theorem qVG {f : DE} {env : qAI} {S : Sto} {Q : qAI → Sto → Prop} (h : Ok (f env S) fun _ S1 => Q env S1) : Nx (qD7 f env S) Q := by
 obtain ⟨d, S1, e, q⟩ := h
 exact ⟨_, S1, by unfold qD7; rw [e]; rfl, q⟩
theorem qFh {f : DE} {env : qAI} {S : Sto} {Q : D → Sto → Prop} (h : Ok (f env S) Q) : Rt (qAl f env S) Q := by
 obtain ⟨d, S1, e, q⟩ := h
 exact ⟨_, S1, by unfold qAl; rw [e]; rfl, q⟩
theorem qEc {fi : DI} {g : DG} {f : DS} {env : qAI} {S S1 : Sto} {ds : List D} {Q : qAI → Sto → Prop} (h : fi env S = .ok ds S1) (k : Nx (qCD g f ds env S1) Q) : Nx (qCr fi g f env S) Q := by
 obtain ⟨env2, S2, e2, q⟩ := k
 exact ⟨env2, S2, by unfold qCr; rw [h]; exact e2, q⟩
theorem qDa {g : DG} {f : DS} {Q : qAI → Sto → Prop} (I : List D → qAI → Sto → Prop) (turn : ∀ d ds env S, I (d :: ds) env S → ∃ env1 S1, g d env S = .ok env1 S1 ∧ Nx (f env1 S1) (I ds)) (last : ∀ env S, I [] env S → Q env S) :
  ∀ {ds : List D} {env : qAI} {S : Sto}, I ds env S → Nx (qCD g f ds env S) Q
 | [], env, S, h => ⟨env, S, rfl, last env S h⟩
 | d :: ds, env, S, h => by
  obtain ⟨env1, S1, e1, env2, S2, e2, h2⟩ := turn d ds env S h
  obtain ⟨env3, S3, e3, q⟩ := qDa I turn last (ds := ds) h2
  refine ⟨env3, S3, ?_, q⟩
  unfold qCD
  simp only [e1, Res.toS, e2]
  exact e3
theorem qQO {fi : DI2} {g : DG} {f : DS} {env : qAI} {S S1 : Sto} {o : Option (Nat × MO)} {ds : List D} {Q : qAI → Sto → Prop} (h : fi env S = .ok (o, ds) S1) (k : Nx (qCn o g f ds env S1) Q) : Nx (qIq fi g f env S) Q := by
 obtain ⟨env2, S2, e2, q⟩ := k
 exact ⟨env2, S2, by unfold qIq; rw [h]; exact e2, q⟩
theorem qLK {o : Option (Nat × MO)} {g : DG} {f : DS} {Q : qAI → Sto → Prop} (I : List D → qAI → Sto → Prop) (hI : ∀ ds env S, I ds env S → stn o S) (turn : ∀ d ds env S, I (d :: ds) env S → ∃ env1 S1, g d env S = .ok env1 S1 ∧ Nx (f env1 S1) (I ds)) (last : ∀ env S, I [] env S → Q env S) :
  ∀ {ds : List D} {env : qAI} {S : Sto}, I ds env S → Nx (qCn o g f ds env S) Q
 | [], env, S, h => ⟨env, S, by unfold qCn; rw [if_pos (qC7.mpr (hI _ _ _ h))], last env S h⟩
 | d :: ds, env, S, h => by
  obtain ⟨env1, S1, e1, env2, S2, e2, h2⟩ := turn d ds env S h
  obtain ⟨env3, S3, e3, q⟩ := qLK I hI turn last (ds := ds) h2
  refine ⟨env3, S3, ?_, q⟩
  unfold qCn
  rw [if_pos (qC7.mpr (hI _ _ _ h))]
  simp only [e1, Res.toS, e2]
  exact e3
theorem qGq {t : DT} {f : DS} {Q : qAI → Sto → Prop} (I : Nat → qAI → Sto → Prop) (turn : ∀ n env S, I n env S → ∃ b S1, t env S = .ok b S1 ∧ (if b then Nx (f env S1) (fun env2 S2 => ∃ m, m < n ∧ I m env2 S2) else Q env S1)) :
  ∀ {n : Nat} {env : qAI} {S : Sto}, n < big → I n env S → Nx (qDC t f env S) Q := by
 have key : ∀ N n env S, n < N → I n env S → Nx (qB2 t f N env S) Q := by
  intro N
  induction N with
  | zero => intro n env S h; omega
  | succ N ih =>
   intro n env S h hI
   obtain ⟨b, S1, e1, k⟩ := turn n env S hI
   cases b with
   | false =>
    refine ⟨env, S1, ?_, by simpa using k⟩
    unfold qB2
    rw [e1]
    rfl
   | true =>
    simp only [if_true] at k
    obtain ⟨env2, S2, e2, m, hm, hI2⟩ := k
    obtain ⟨env3, S3, e3, q⟩ := ih m env2 S2 (by omega) hI2
    refine ⟨env3, S3, ?_, q⟩
    unfold qB2
    rw [e1]
    simp only [Res.toS, if_true, e2]
    exact e3
 exact fun {n env S} h hI => key big n env S h hI
theorem qOj {fe : DE} {env : qAI} {S S1 : Sto} {acc : List D} {x : D} (h : fe env S = .ok x S1) (hl : acc.length < lim) : qDL fe env S acc = .ok (env, acc ++ [x]) S1 := by
 unfold qDL
 rw [h]
 simp [Res.bind, hl]
theorem qNQ {cap : List (Option Nat)} {fi : DI2} {g : DG} {t : DT} {k : DK} {env env' : qAI} {S S1 S' : Sto} {o : Option (Nat × MO)} {items ds : List D} (h : fi env S = .ok (o, items) S1) (e : goL o g t k items (qEj cap env) S1 [] = .ok (env', ds) S') : qDw false cap fi g t k env S = .ok (.lst ds) S' := by
 unfold qDw
 rw [h]
 simp only [Res.bind, e, mkM]
 rfl
end DL
end
section
namespace DL
open PySem
theorem qVh {n : Nat} {f : DE} {ds : List D} {S S' : Sto} {d : D} {env : qAI} (hs : qD2 n ds = env) (h : f env S = .ok d S') : qAd n (qAl f) ds S = .ok d S' := by
 subst hs
 unfold qAd qAl
 rw [h]
 rfl
theorem qDP {n : Nat} {g : DS} {ds : List D} {S S' : Sto} {d : D} {env : qAI} (hs : qD2 n ds = env) (h : g env S = .rt d S') : qAd n g ds S = .ok d S' := by
 subst hs
 unfold qAd
 rw [h]
 rfl
theorem qGH {S S' : Sto} {i : Nat} {m : MO} (h : S[i]? = some m) (e : S <+: S') : S'[i]? = some m := by
 obtain ⟨r, rfl⟩ := e
 rw [List.getElem?_append_left (List.getElem?_eq_some_iff.mp h).1]
 exact h
theorem qQA {α β : Type} (sel : α → Bool) (val : α → β) (l : List α) : (l.flatMap fun d => if sel d then [val d] else []) = (l.filter sel).map val := by
 induction l with
 | nil => rfl
 | cons d l ih =>
  rw [List.flatMap_cons, ih]
  cases h : sel d <;> simp [h]
end DL
end
section
namespace DL
open PySem
theorem goT {α : Type} {enc : α → D} {o : Option (Nat × MO)} {g : DG} {t : DT} {k : DK} (out : α → List D) (C : qAI → Sto → Prop) (hC : ∀ env S, C env S → stn o S) :
  ∀ (xs : List α) (env : qAI) (S : Sto) (acc : List D), C env S → acc.length + (xs.flatMap out).length ≤ lim →
  (∀ x ∈ xs, ∀ env S acc, C env S → acc.length + (out x).length ≤ lim → ∃ env1 S1 b S2, g (enc x) env S = .ok env1 S1 ∧ t env1 S1 = .ok b S2 ∧ ((b = false ∧ out x = [] ∧ C env1 S2) ∨ (b = true ∧ ∃ env3 S3, k env1 S2 acc = .ok (env3, acc ++ out x) S3 ∧ C env3 S3))) →
  ∃ env' S', goL o g t k (xs.map enc) env S acc = .ok (env', acc ++ xs.flatMap out) S' ∧ C env' S'
 | [], env, S, acc, h, hl, _ => ⟨env, S, by simp [goL, qC7.mpr (hC _ _ h)], h⟩
 | x :: xs, env, S, acc, h, hl, step => by
  rw [List.flatMap_cons, List.length_append] at hl
  obtain ⟨env1, S1, b, S2, e1, e2, r⟩ := step x (List.mem_cons_self ..) env S acc h (by omega)
  have hst := qC7.mpr (hC _ _ h)
  rcases r with ⟨rfl, h0, h2⟩ | ⟨rfl, env3, S3, e3, h3⟩
  ·obtain ⟨env', S', e, q⟩ := goT out C hC xs env1 S2 acc h2 (by omega) fun d hd => step d (List.mem_cons_of_mem _ hd)
   refine ⟨env', S', ?_, q⟩
   simp only [List.map_cons, goL, hst, if_true, e1, e2, Res.bind, Bool.false_eq_true, if_false, List.flatMap_cons, h0, List.nil_append]
   exact e
  ·obtain ⟨env', S', e, q⟩ := goT out C hC xs env3 S3 (acc ++ out x) h3 (by rw [List.length_append]; omega) fun d hd => step d (List.mem_cons_of_mem _ hd)
   refine ⟨env', S', ?_, q⟩
   simp only [List.map_cons, goL, hst, if_true, e1, e2, Res.bind, e3, List.flatMap_cons]
   rw [e, List.append_assoc]
section
variable {α β : Type} {enc : α → D} {enc2 : β → D} {cap : List (Option Nat)} {fi : DI2} {g : DG} {t : DT} {fe : DE} {env : qAI} {S S0 : Sto} {o : Option (Nat × MO)} {xs : List α}
theorem qYM (hst : stn o S) (sel : α → Bool) (val : α → D) (C : qAI → Prop) (h0 : C env) (hl : xs.length ≤ lim)
  (step : ∀ x ∈ xs, ∀ env, C env → ∃ env1, g (enc x) env S = .ok env1 S ∧ C env1 ∧ t env1 S = .ok (sel x) S ∧ (sel x = true → fe env1 S = .ok (val x) S)) :
  ∃ env', goL o g t (qDL fe) (xs.map enc) env S [] = .ok (env', (xs.filter sel).map val) S := by
 have lf : (xs.flatMap fun d => if sel d then [val d] else []).length ≤ lim := by
  rw [qQA, List.length_map]
  exact Nat.le_trans (List.length_filter_le _ _) hl
 obtain ⟨env', S', e, _, q⟩ := goT (enc := enc) (o := o) (g := g) (t := t) (k := qDL fe) (fun d => if sel d then [val d] else []) (fun env S' => C env ∧ S' = S) (fun _ _ h => h.2 ▸ hst) xs env S [] ⟨h0, rfl⟩ (by simpa using lf) (fun d hd env S' acc hC hl => by
  obtain ⟨hc, rfl⟩ := hC
  obtain ⟨env1, e1, c1, e2, k⟩ := step d hd env hc
  refine ⟨env1, S', sel d, S', e1, e2, ?_⟩
  cases hs : sel d with
  | false => exact .inl ⟨rfl, by simp, c1, rfl⟩
  | true =>
   refine .inr ⟨rfl, env1, S', ?_, c1, rfl⟩
   simp only [if_true]
   exact qOj (k hs) (by simp only [hs, if_true, List.length_singleton] at hl; omega))
 subst q
 refine ⟨env', ?_⟩
 rw [e, List.nil_append, qQA]
theorem qUL (h : fi env S = .ok (o, xs.map enc) S) (hst : stn o S) (sel : α → Bool) (val : α → D) (C : qAI → Prop) (h0 : C (qEj cap env)) (hl : xs.length ≤ lim)
  (step : ∀ x ∈ xs, ∀ env, C env → ∃ env1, g (enc x) env S = .ok env1 S ∧ C env1 ∧ t env1 S = .ok (sel x) S ∧ (sel x = true → fe env1 S = .ok (val x) S)) :
  qDw false cap fi g t (qDL fe) env S = .ok (.lst ((xs.filter sel).map val)) S := by
 obtain ⟨env', e⟩ := qYM hst sel val C h0 hl step
 exact qNQ h e
end
end DL
end
section
namespace K41
open PySem DL
theorem qJx (b : Bool) (S : Sto) : qCt (.bl b) S = some b := rfl
theorem qZg (i : Int) (S : Sto) : qCt (.int i) S = some (i != 0) := rfl
theorem qZi (i : Int) (S : Sto) : tyD (.int i) S = some "int" := rfl
theorem qZo (b : Bool) (S : Sto) : tyD (.bl b) S = some "bool" := rfl
theorem qZk (S : Sto) : tyD .non S = some "NoneType" := rfl
theorem qZl (x : Str) (S : Sto) : tyD (.str x) S = some "str" := rfl
theorem qZm (x : List D) (S : Sto) : tyD (.tup x) S = some "tuple" := rfl
theorem qZj (x : List D) (S : Sto) : tyD (.lst x) S = some "list" := rfl
theorem qU5 (x : List D) : qJf (.tup x) = some x := rfl
theorem qQE (x : List D) : qJf (.lst x) = some x := rfl
end K41
end
open PySem DL K41
local macro_rules | `(tactic| simp! [$xs,*]) => `(tactic| simp [qAd, qD2, qTN, qAW, sIf, qAl, qZn, qAz, qD7, qAs, gNm, gSb, gTp, qBX, qD5, qLT, qMB, qRB, qVM, qLS, dC, qAD, d1, d2, qAA, qAE, qAO, qAK, dTr, qCQ, qGR, qEW, qIe, qHL, dOr, qSl, dIf, qOM, qBH, qAv, qJ2, dBm, qZp, dSl, qGW, qZh, qCO, qEX, Res.bind, Res.toS, DL.qFr, DL.qFJ, qJx, qZg, qZi, qZo, qZk, qZl, qZm, qZj, qU5, qQE, i2, gLt, gLe, gGt, gGe, DL.qEb, qQt, $xs,*])
section
namespace K41
open PySem PySem.Spec PyProof.Rows L2 DL
noncomputable def top (i : Nat) : Stmt := PySem.Challenge.pw_fewdistances_k41_sums_and_circles_by_pri.main.body.getD i (.Pass ⟨0, 0, 0, 0⟩)
set_option genInjectivity false in
structure Cl where
 (FarError NoPoint NoLot NoNumber NoCircle NoMarks NoFars NoText NoLine NoDeed Alike TooMany : Addr)
noncomputable def qCC (c : Cl) : List Addr := [c.NoPoint, c.NoLot, c.NoNumber, c.NoCircle, c.NoMarks, c.NoFars, c.NoText, c.NoLine, c.NoDeed, c.Alike, c.TooMany]
noncomputable def caught (c : Cl) : List Value := [.ref c.NoPoint, .ref c.NoLot, .ref c.NoNumber, .ref c.NoCircle, .ref c.NoMarks, .ref c.NoFars, .ref c.NoText, .ref c.NoLine, .ref c.NoDeed]
set_option genInjectivity false in
structure Txt (K : PySem.W.Frag) (mg : Str → Option Value) (c : Cl) : Prop where
 s_is_whole : Src K mg "is_whole" (top 14) ["thing"]
 s_is_within : Src K mg "is_within" (top 15) ["thing", "least", "most"]
 s_need_within : Src K mg "need_within" (top 16) ["thing", "least", "most"]
 s_primes_in : Src K mg "primes_in" (top 18) ["number"]
 s_points_by_primes : Src K mg "points_by_primes" (top 19) ["primes"]
 s_circle_points : Src K mg "circle_points" (top 20) ["number"]
 s_is_sum : Src K mg "is_sum" (top 21) ["number"]
 s_on_circle : Src K mg "on_circle" (top 22) ["number"]
 s__law_cell : Src K mg "_law_cell" (top 24) ["_law_script", "_law_k"]
 s__law_pen : Src K mg "_law_pen" (top 25) ["_law_cell_here"]
 s__law_draw : Src K mg "_law_draw" (top 26) ["_law_pen_here", "_law_many"]
 s__law_same : Src K mg "_law_same" (top 27) ["_law_found", "_law_due"]
 s__law_kind_of : Src K mg "_law_kind_of" (top 28) ["_law_e"]
 s__law_no_number : Src K mg "_law_no_number" (top 29) ["_law_pen_here", "_law_low", "_law_high"]
 s__law_squares : Src K mg "_law_squares" (top 30) ["_law_number"]
 s__law_is_prime : Src K mg "_law_is_prime" (top 31) ["_law_number"]
 s__law_product : Src K mg "_law_product" (top 32) ["_law_pen_here", "_law_most"]
 s__law_came : Src K mg "_law_came" (top 33) ["_law_way", "_law_number"]
 s__law_points : Src K mg "_law_points" (top 34) ["_law_number"]
 s__law_by_primes : Src K mg "_law_by_primes" (top 35) ["_law_primes"]
 s_law : Src K mg "law" (top 36) ["_law_script"]
 n_ValueError : mg "ValueError" = none
 n_bool : mg "bool" = none
 n_int : mg "int" = none
 n_isinstance : mg "isinstance" = none
 n_len : mg "len" = none
 n_list : mg "list" = none
 n_range : mg "range" = none
 n_str : mg "str" = none
 n_tuple : mg "tuple" = none
 n_zip : mg "zip" = none
 c_FarError : mg "FarError" = some (.ref c.FarError)
 k_FarError : PySem.W.keepIn K (.ref c.FarError) = true
 c_NoPoint : mg "NoPoint" = some (.ref c.NoPoint)
 k_NoPoint : PySem.W.keepIn K (.ref c.NoPoint) = true
 c_NoLot : mg "NoLot" = some (.ref c.NoLot)
 k_NoLot : PySem.W.keepIn K (.ref c.NoLot) = true
 c_NoNumber : mg "NoNumber" = some (.ref c.NoNumber)
 k_NoNumber : PySem.W.keepIn K (.ref c.NoNumber) = true
 c_NoCircle : mg "NoCircle" = some (.ref c.NoCircle)
 k_NoCircle : PySem.W.keepIn K (.ref c.NoCircle) = true
 c_NoMarks : mg "NoMarks" = some (.ref c.NoMarks)
 k_NoMarks : PySem.W.keepIn K (.ref c.NoMarks) = true
 c_NoFars : mg "NoFars" = some (.ref c.NoFars)
 k_NoFars : PySem.W.keepIn K (.ref c.NoFars) = true
 c_NoText : mg "NoText" = some (.ref c.NoText)
 k_NoText : PySem.W.keepIn K (.ref c.NoText) = true
 c_NoLine : mg "NoLine" = some (.ref c.NoLine)
 k_NoLine : PySem.W.keepIn K (.ref c.NoLine) = true
 c_NoDeed : mg "NoDeed" = some (.ref c.NoDeed)
 k_NoDeed : PySem.W.keepIn K (.ref c.NoDeed) = true
 c_Alike : mg "Alike" = some (.ref c.Alike)
 k_Alike : PySem.W.keepIn K (.ref c.Alike) = true
 c_TooMany : mg "TooMany" = some (.ref c.TooMany)
 k_TooMany : PySem.W.keepIn K (.ref c.TooMany) = true
 x_NoNumber : qOH K c.NoNumber c.FarError = true
 cls : ClsK K (qCC c)
 caught : ∀ v ∈ caught c, PySem.W.exmOne K v (.ref c.FarError) = some true
 nd : (qCC c).Nodup
theorem qJl : ("int" : Str) ≠ "__name__" := kd
theorem qJZ : (("int" : Str) == ("__debug__" : Str)) = false := kd
theorem qGV : (("thing" : Str) == ("__debug__" : Str)) = false := kd
theorem qGQ : (("thing" : Str) == ("__classdict__" : Str)) = false := kd
theorem qAV : ("isinstance" : Str) ≠ "__name__" := kd
theorem qAU : (("isinstance" : Str) == ("__debug__" : Str)) = false := kd
theorem qMv : ("bool" : Str) ≠ "__name__" := kd
theorem qMV : (("bool" : Str) == ("__debug__" : Str)) = false := kd
theorem qPz : FnScope ["thing"] ["thing"] (qAB (top 14)) := ⟨rfl, rfl, rfl, kd, rfl, kd, kd⟩
theorem qNn : (qAB (top 14)).names.lookup ("thing" : Str) = some NameKind.local := kd
theorem qI3 : Vis (qAB (top 14)) "thing" := Or.inl qNn
theorem qLu : (qAB (top 14)).names.lookup ("int" : Str) = some NameKind.globalImplicit := kd
theorem qLx {l f : Addr} {cd : Value} : (envOfC "is_whole" (qAB (top 14)) l f cd).kindOf "int" = some NameKind.globalImplicit := qLu
theorem qHU : (qAB (top 14)).names.lookup ("isinstance" : Str) = some NameKind.globalImplicit := kd
theorem qD0 {l f : Addr} {cd : Value} : (envOfC "is_whole" (qAB (top 14)) l f cd).kindOf "isinstance" = some NameKind.globalImplicit := qHU
theorem qKw : (qAB (top 14)).names.lookup ("bool" : Str) = some NameKind.globalImplicit := kd
theorem qK4 {l f : Addr} {cd : Value} : (envOfC "is_whole" (qAB (top 14)) l f cd).kindOf "bool" = some NameKind.globalImplicit := qKw
theorem qPp : (("is_whole" : Str) == ("__debug__" : Str)) = false := kd
theorem qKp : (("least" : Str) == ("__debug__" : Str)) = false := kd
theorem qKm : (("least" : Str) == ("__classdict__" : Str)) = false := kd
theorem qMX : (("most" : Str) == ("__debug__" : Str)) = false := kd
theorem qMS : (("most" : Str) == ("__classdict__" : Str)) = false := kd
theorem qPR : FnScope ["thing", "least", "most"] ["thing", "least", "most"] (qAB (top 15)) := ⟨rfl, rfl, rfl, kd, rfl, kd, kd⟩
theorem qMl : (qAB (top 15)).names.lookup ("thing" : Str) = some NameKind.local := kd
theorem qIU : Vis (qAB (top 15)) "thing" := Or.inl qMl
theorem qMm : (qAB (top 15)).names.lookup ("least" : Str) = some NameKind.local := kd
theorem qNF : Vis (qAB (top 15)) "least" := Or.inl qMm
theorem qMn : (qAB (top 15)).names.lookup ("most" : Str) = some NameKind.local := kd
theorem qNG : Vis (qAB (top 15)) "most" := Or.inl qMn
theorem qH2 : (qAB (top 15)).names.lookup ("is_whole" : Str) = some NameKind.globalImplicit := kd
theorem qH8 {l f : Addr} {cd : Value} : (envOfC "is_within" (qAB (top 15)) l f cd).kindOf "is_whole" = some NameKind.globalImplicit := qH2
theorem qOU : (("is_within" : Str) == ("__debug__" : Str)) = false := kd
theorem qKc : (("NoNumber" : Str) == ("__debug__" : Str)) = false := kd
theorem qM7 : FnScope ["thing", "least", "most"] ["thing", "least", "most"] (qAB (top 16)) := ⟨rfl, rfl, rfl, kd, rfl, kd, kd⟩
theorem qLA : (qAB (top 16)).names.lookup ("thing" : Str) = some NameKind.local := kd
theorem qLb : Vis (qAB (top 16)) "thing" := Or.inl qLA
theorem qLB : (qAB (top 16)).names.lookup ("least" : Str) = some NameKind.local := kd
theorem qG1 : Vis (qAB (top 16)) "least" := Or.inl qLB
theorem qLC : (qAB (top 16)).names.lookup ("most" : Str) = some NameKind.local := kd
theorem qG2 : Vis (qAB (top 16)) "most" := Or.inl qLC
theorem qGb : (qAB (top 16)).names.lookup ("is_within" : Str) = some NameKind.globalImplicit := kd
theorem qGh {l f : Addr} {cd : Value} : (envOfC "need_within" (qAB (top 16)) l f cd).kindOf "is_within" = some NameKind.globalImplicit := qGb
theorem qHB : (qAB (top 16)).names.lookup ("NoNumber" : Str) = some NameKind.globalImplicit := kd
theorem qHG {l f : Addr} {cd : Value} : (envOfC "need_within" (qAB (top 16)) l f cd).kindOf "NoNumber" = some NameKind.globalImplicit := qHB
theorem qEB : (("times" : Str) == ("__debug__" : Str)) = false := kd
theorem qEA : (("times" : Str) == ("__classdict__" : Str)) = false := kd
theorem qHv : (("rest" : Str) == ("__debug__" : Str)) = false := kd
theorem qHq : (("rest" : Str) == ("__classdict__" : Str)) = false := kd
theorem qC3 : (("divisor" : Str) == ("__debug__" : Str)) = false := kd
theorem qCz : (("divisor" : Str) == ("__classdict__" : Str)) = false := kd
theorem qDN : (("number" : Str) == ("__debug__" : Str)) = false := kd
theorem qDM : (("number" : Str) == ("__classdict__" : Str)) = false := kd
theorem qCs : FnScope ["number", "times", "rest", "divisor"] ["number"] (qAB (top 18)) := ⟨rfl, rfl, rfl, kd, rfl, kd, kd⟩
theorem qMp : (qAB (top 18)).names.lookup ("number" : Str) = some NameKind.local := kd
theorem qNH : Vis (qAB (top 18)) "number" := Or.inl qMp
theorem qIG : (qAB (top 18)).names.lookup ("times" : Str) = some NameKind.local := kd
theorem qMt : Loc (qAB (top 18)) "times" := Or.inl qIG
theorem qCu : Vis (qAB (top 18)) "times" := Or.inl qIG
theorem qIH : (qAB (top 18)).names.lookup ("rest" : Str) = some NameKind.local := kd
theorem qIL : Loc (qAB (top 18)) "rest" := Or.inl qIH
theorem qCv : Vis (qAB (top 18)) "rest" := Or.inl qIH
theorem qII : (qAB (top 18)).names.lookup ("divisor" : Str) = some NameKind.local := kd
theorem qIM : Loc (qAB (top 18)) "divisor" := Or.inl qII
theorem qBx : Vis (qAB (top 18)) "divisor" := Or.inl qII
theorem qKI : (qAB (top 18)).names.lookup ("list" : Str) = some NameKind.globalImplicit := kd
theorem qKJ {l f : Addr} {cd : Value} : (envOfC "primes_in" (qAB (top 18)) l f cd).kindOf "list" = some NameKind.globalImplicit := qKI
theorem qUP : (("many" : Str) == ("__debug__" : Str)) = false := kd
theorem qUI : (("many" : Str) == ("__classdict__" : Str)) = false := kd
theorem qRY : (("primes" : Str) == ("__debug__" : Str)) = false := kd
theorem qRO : (("primes" : Str) == ("__classdict__" : Str)) = false := kd
theorem qOW : (("prime" : Str) == ("__debug__" : Str)) = false := kd
theorem qOF : (("prime" : Str) == ("__classdict__" : Str)) = false := kd
theorem qBt : FnScope ["primes", "many", "prime", "times"] ["primes"] (qAB (top 19)) := ⟨rfl, rfl, rfl, kd, rfl, kd, kd⟩
theorem qIF : (qAB (top 19)).names.lookup ("primes" : Str) = some NameKind.local := kd
theorem qIW : Vis (qAB (top 19)) "primes" := Or.inl qIF
theorem qEM : (qAB (top 19)).names.lookup ("many" : Str) = some NameKind.local := kd
theorem qEP : Loc (qAB (top 19)) "many" := Or.inl qEM
theorem qIX : Vis (qAB (top 19)) "many" := Or.inl qEM
theorem qEN : (qAB (top 19)).names.lookup ("prime" : Str) = some NameKind.local := kd
theorem qIJ : Loc (qAB (top 19)) "prime" := Or.inl qEN
theorem qER : Vis (qAB (top 19)) "prime" := Or.inl qEN
theorem qEO : (qAB (top 19)).names.lookup ("times" : Str) = some NameKind.local := kd
theorem qIK : Loc (qAB (top 19)) "times" := Or.inl qEO
theorem qES : Vis (qAB (top 19)) "times" := Or.inl qEO
theorem qOX : (("primes_in" : Str) == ("__debug__" : Str)) = false := kd
theorem qI5 : (("points_by_primes" : Str) == ("__debug__" : Str)) = false := kd
theorem qLU : FnScope ["number"] ["number"] (qAB (top 20)) := ⟨rfl, rfl, rfl, kd, rfl, kd, kd⟩
theorem qJi : (qAB (top 20)).names.lookup ("number" : Str) = some NameKind.local := kd
theorem qJy : Vis (qAB (top 20)) "number" := Or.inl qJi
theorem qFm : (qAB (top 20)).names.lookup ("primes_in" : Str) = some NameKind.globalImplicit := kd
theorem qFp {l f : Addr} {cd : Value} : (envOfC "circle_points" (qAB (top 20)) l f cd).kindOf "primes_in" = some NameKind.globalImplicit := qFm
theorem qDy : (qAB (top 20)).names.lookup ("points_by_primes" : Str) = some NameKind.globalImplicit := kd
theorem qDz {l f : Addr} {cd : Value} : (envOfC "circle_points" (qAB (top 20)) l f cd).kindOf "points_by_primes" = some NameKind.globalImplicit := qDy
theorem qGU : (("circle_points" : Str) == ("__debug__" : Str)) = false := kd
theorem qHu : (("need_within" : Str) == ("__debug__" : Str)) = false := kd
theorem qSM : FnScope ["number"] ["number"] (qAB (top 21)) := ⟨rfl, rfl, rfl, kd, rfl, kd, kd⟩
theorem qPr : (qAB (top 21)).names.lookup ("number" : Str) = some NameKind.local := kd
theorem qHb : Vis (qAB (top 21)) "number" := Or.inl qPr
theorem qHA : (qAB (top 21)).names.lookup ("circle_points" : Str) = some NameKind.globalImplicit := kd
theorem qHF {l f : Addr} {cd : Value} : (envOfC "is_sum" (qAB (top 21)) l f cd).kindOf "circle_points" = some NameKind.globalImplicit := qHA
theorem qH1 : (qAB (top 21)).names.lookup ("need_within" : Str) = some NameKind.globalImplicit := kd
theorem qH7 {l f : Addr} {cd : Value} : (envOfC "is_sum" (qAB (top 21)) l f cd).kindOf "need_within" = some NameKind.globalImplicit := qH1
theorem qPS : FnScope ["number"] ["number"] (qAB (top 22)) := ⟨rfl, rfl, rfl, kd, rfl, kd, kd⟩
theorem qMo : (qAB (top 22)).names.lookup ("number" : Str) = some NameKind.local := kd
theorem qIV : Vis (qAB (top 22)) "number" := Or.inl qMo
theorem qFn : (qAB (top 22)).names.lookup ("circle_points" : Str) = some NameKind.globalImplicit := kd
theorem qFq {l f : Addr} {cd : Value} : (envOfC "on_circle" (qAB (top 22)) l f cd).kindOf "circle_points" = some NameKind.globalImplicit := qFn
theorem qGc : (qAB (top 22)).names.lookup ("need_within" : Str) = some NameKind.globalImplicit := kd
theorem qGi {l f : Addr} {cd : Value} : (envOfC "on_circle" (qAB (top 22)) l f cd).kindOf "need_within" = some NameKind.globalImplicit := qGc
theorem qNR : (("_law_k" : Str) == ("__debug__" : Str)) = false := kd
theorem qNO : (("_law_k" : Str) == ("__classdict__" : Str)) = false := kd
theorem qDV : (("_law_script" : Str) == ("__debug__" : Str)) = false := kd
theorem qDU : (("_law_script" : Str) == ("__classdict__" : Str)) = false := kd
theorem qJm : ("len" : Str) ≠ "__name__" := kd
theorem qJa : (("len" : Str) == ("__debug__" : Str)) = false := kd
theorem qPQ : FnScope ["_law_script", "_law_k"] ["_law_script", "_law_k"] (qAB (top 24)) := ⟨rfl, rfl, rfl, kd, rfl, kd, kd⟩
theorem qMf : (qAB (top 24)).names.lookup ("_law_script" : Str) = some NameKind.local := kd
theorem qIS : Vis (qAB (top 24)) "_law_script" := Or.inl qMf
theorem qMg : (qAB (top 24)).names.lookup ("_law_k" : Str) = some NameKind.local := kd
theorem qIT : Vis (qAB (top 24)) "_law_k" := Or.inl qMg
theorem qKr : (qAB (top 24)).names.lookup ("len" : Str) = some NameKind.globalImplicit := kd
theorem qK1 {l f : Addr} {cd : Value} : (envOfC "_law_cell" (qAB (top 24)) l f cd).kindOf "len" = some NameKind.globalImplicit := qKr
theorem qDf : (("_law_cell_here" : Str) == ("__debug__" : Str)) = false := kd
theorem qDe : (("_law_cell_here" : Str) == ("__classdict__" : Str)) = false := kd
theorem qPy : FnScope ["_law_cell_here"] ["_law_cell_here"] (qAB (top 25)) := ⟨rfl, rfl, rfl, kd, rfl, kd, kd⟩
theorem qNm : (qAB (top 25)).names.lookup ("_law_cell_here" : Str) = some NameKind.local := kd
theorem qI2 : Vis (qAB (top 25)) "_law_cell_here" := Or.inl qNm
theorem qLt : (qAB (top 25)).names.lookup ("int" : Str) = some NameKind.globalImplicit := kd
theorem qLw {l f : Addr} {cd : Value} : (envOfC "_law_pen" (qAB (top 25)) l f cd).kindOf "int" = some NameKind.globalImplicit := qLt
theorem qAc : (("_law_pen_here" : Str) == ("__debug__" : Str)) = false := kd
theorem qAb : (("_law_pen_here" : Str) == ("__classdict__" : Str)) = false := kd
theorem qGT : (("_law_many" : Str) == ("__debug__" : Str)) = false := kd
theorem qGP : (("_law_many" : Str) == ("__classdict__" : Str)) = false := kd
theorem qAf : (("_law_found" : Str) == ("__debug__" : Str)) = false := kd
theorem qAe : (("_law_found" : Str) == ("__classdict__" : Str)) = false := kd
theorem qJv : FnScope ["_law_pen_here", "_law_many", "_law_found"] ["_law_pen_here", "_law_many"] (qAB (top 26)) := ⟨rfl, rfl, rfl, kd, rfl, kd, kd⟩
theorem qMh : (qAB (top 26)).names.lookup ("_law_pen_here" : Str) = some NameKind.local := kd
theorem qBV : Vis (qAB (top 26)) "_law_pen_here" := Or.inl qMh
theorem qMi : (qAB (top 26)).names.lookup ("_law_many" : Str) = some NameKind.local := kd
theorem qFL : Vis (qAB (top 26)) "_law_many" := Or.inl qMi
theorem qIC : (qAB (top 26)).names.lookup ("_law_found" : Str) = some NameKind.local := kd
theorem qMq : Loc (qAB (top 26)) "_law_found" := Or.inl qIC
theorem qNC : Vis (qAB (top 26)) "_law_found" := Or.inl qIC
theorem qA4 : (("_law_due" : Str) == ("__debug__" : Str)) = false := kd
theorem qA3 : (("_law_due" : Str) == ("__classdict__" : Str)) = false := kd
theorem qR2 : ("str" : Str) ≠ "__name__" := kd
theorem qRZ : (("str" : Str) == ("__debug__" : Str)) = false := kd
theorem qLI : ("tuple" : Str) ≠ "__name__" := kd
theorem qKq : (("tuple" : Str) == ("__debug__" : Str)) = false := kd
theorem qMw : ("list" : Str) ≠ "__name__" := kd
theorem qMW : (("list" : Str) == ("__debug__" : Str)) = false := kd
theorem qI0 : (("_law_other" : Str) == ("__debug__" : Str)) = false := kd
theorem qIy : (("_law_other" : Str) == ("__classdict__" : Str)) = false := kd
theorem qCJ : (("_law_one" : Str) == ("__debug__" : Str)) = false := kd
theorem qCH : (("_law_one" : Str) == ("__classdict__" : Str)) = false := kd
theorem qEZ : (("_law_same" : Str) == ("__debug__" : Str)) = false := kd
theorem qGv : FnScope ["_law_found", "_law_due", "_law_one", "_law_other"] ["_law_found", "_law_due"] (qAB (top 27)) := ⟨rfl, rfl, rfl, kd, rfl, kd, kd⟩
theorem qMj : (qAB (top 27)).names.lookup ("_law_found" : Str) = some NameKind.local := kd
theorem qBF : Vis (qAB (top 27)) "_law_found" := Or.inl qMj
theorem qMk : (qAB (top 27)).names.lookup ("_law_due" : Str) = some NameKind.local := kd
theorem qA9 : Vis (qAB (top 27)) "_law_due" := Or.inl qMk
theorem qID : (qAB (top 27)).names.lookup ("_law_one" : Str) = some NameKind.local := kd
theorem qMr : Loc (qAB (top 27)) "_law_one" := Or.inl qID
theorem qND : Vis (qAB (top 27)) "_law_one" := Or.inl qID
theorem qIE : (qAB (top 27)).names.lookup ("_law_other" : Str) = some NameKind.local := kd
theorem qMs : Loc (qAB (top 27)) "_law_other" := Or.inl qIE
theorem qNE : Vis (qAB (top 27)) "_law_other" := Or.inl qIE
theorem qKG : (qAB (top 27)).names.lookup ("bool" : Str) = some NameKind.globalImplicit := kd
theorem qFz {l f : Addr} {cd : Value} : (envOfC "_law_same" (qAB (top 27)) l f cd).kindOf "bool" = some NameKind.globalImplicit := qKG
theorem qG9 : (qAB (top 27)).names.lookup ("isinstance" : Str) = some NameKind.globalImplicit := kd
theorem qAg {l f : Addr} {cd : Value} : (envOfC "_law_same" (qAB (top 27)) l f cd).kindOf "isinstance" = some NameKind.globalImplicit := qG9
theorem qKs : (qAB (top 27)).names.lookup ("int" : Str) = some NameKind.globalImplicit := kd
theorem qK2 {l f : Addr} {cd : Value} : (envOfC "_law_same" (qAB (top 27)) l f cd).kindOf "int" = some NameKind.globalImplicit := qKs
theorem qKu : (qAB (top 27)).names.lookup ("str" : Str) = some NameKind.globalImplicit := kd
theorem qGg {l f : Addr} {cd : Value} : (envOfC "_law_same" (qAB (top 27)) l f cd).kindOf "str" = some NameKind.globalImplicit := qKu
theorem qJc : (qAB (top 27)).names.lookup ("tuple" : Str) = some NameKind.globalImplicit := kd
theorem qDO {l f : Addr} {cd : Value} : (envOfC "_law_same" (qAB (top 27)) l f cd).kindOf "tuple" = some NameKind.globalImplicit := qJc
theorem qKH : (qAB (top 27)).names.lookup ("list" : Str) = some NameKind.globalImplicit := kd
theorem qDg {l f : Addr} {cd : Value} : (envOfC "_law_same" (qAB (top 27)) l f cd).kindOf "list" = some NameKind.globalImplicit := qKH
theorem qKv : (qAB (top 27)).names.lookup ("zip" : Str) = some NameKind.globalImplicit := kd
theorem qK3 {l f : Addr} {cd : Value} : (envOfC "_law_same" (qAB (top 27)) l f cd).kindOf "zip" = some NameKind.globalImplicit := qKv
theorem qHT : (qAB (top 27)).names.lookup ("_law_same" : Str) = some NameKind.globalImplicit := kd
theorem qHa {l f : Addr} {cd : Value} : (envOfC "_law_same" (qAB (top 27)) l f cd).kindOf "_law_same" = some NameKind.globalImplicit := qHT
theorem qKt : (qAB (top 27)).names.lookup ("len" : Str) = some NameKind.globalImplicit := kd
theorem qGf {l f : Addr} {cd : Value} : (envOfC "_law_same" (qAB (top 27)) l f cd).kindOf "len" = some NameKind.globalImplicit := qKt
theorem qNl : (("_law_words" : Str) == ("__debug__" : Str)) = false := kd
theorem qNi : (("_law_words" : Str) == ("__classdict__" : Str)) = false := kd
theorem qD4 : (("_law_marks" : Str) == ("__debug__" : Str)) = false := kd
theorem qD3 : (("_law_marks" : Str) == ("__classdict__" : Str)) = false := kd
theorem qLm : (("TooMany" : Str) == ("__debug__" : Str)) = false := kd
theorem qBP : (("_law_e" : Str) == ("__debug__" : Str)) = false := kd
theorem qBL : (("_law_e" : Str) == ("__classdict__" : Str)) = false := kd
theorem qOP : (("Alike" : Str) == ("__debug__" : Str)) = false := kd
theorem qNo : ("ValueError" : Str) ≠ "__name__" := kd
theorem qNk : (("ValueError" : Str) == ("__debug__" : Str)) = false := kd
theorem qRT : (("NoDeed" : Str) == ("__debug__" : Str)) = false := kd
theorem qRV : (("NoLine" : Str) == ("__debug__" : Str)) = false := kd
theorem qRW : (("NoText" : Str) == ("__debug__" : Str)) = false := kd
theorem qRU : (("NoFars" : Str) == ("__debug__" : Str)) = false := kd
theorem qQo : (("NoMarks" : Str) == ("__debug__" : Str)) = false := kd
theorem qPl : (("NoCircle" : Str) == ("__debug__" : Str)) = false := kd
theorem qSn : (("NoLot" : Str) == ("__debug__" : Str)) = false := kd
theorem qQp : (("NoPoint" : Str) == ("__debug__" : Str)) = false := kd
theorem qCV : FnScope ["_law_e", "_law_marks", "_law_words"] ["_law_e"] (qAB (top 28)) := ⟨rfl, rfl, rfl, kd, rfl, kd, kd⟩
theorem qKK : (qAB (top 28)).names.lookup ("_law_e" : Str) = some NameKind.local := kd
theorem qAk : Vis (qAB (top 28)) "_law_e" := Or.inl qKK
theorem qF0 : (qAB (top 28)).names.lookup ("_law_marks" : Str) = some NameKind.local := kd
theorem qDk : Loc (qAB (top 28)) "_law_marks" := Or.inl qF0
theorem qCc : Vis (qAB (top 28)) "_law_marks" := Or.inl qF0
theorem qF1 : (qAB (top 28)).names.lookup ("_law_words" : Str) = some NameKind.local := kd
theorem qKP : Loc (qAB (top 28)) "_law_words" := Or.inl qF1
theorem qKW : Vis (qAB (top 28)) "_law_words" := Or.inl qF1
theorem qG8 : (qAB (top 28)).names.lookup ("TooMany" : Str) = some NameKind.globalImplicit := kd
theorem qDd {l f : Addr} {cd : Value} : (envOfC "_law_kind_of" (qAB (top 28)) l f cd).kindOf "TooMany" = some NameKind.globalImplicit := qG8
theorem qFl : (qAB (top 28)).names.lookup ("isinstance" : Str) = some NameKind.globalImplicit := kd
theorem qAQ {l f : Addr} {cd : Value} : (envOfC "_law_kind_of" (qAB (top 28)) l f cd).kindOf "isinstance" = some NameKind.globalImplicit := qFl
theorem qHy : (qAB (top 28)).names.lookup ("Alike" : Str) = some NameKind.globalImplicit := kd
theorem qEK {l f : Addr} {cd : Value} : (envOfC "_law_kind_of" (qAB (top 28)) l f cd).kindOf "Alike" = some NameKind.globalImplicit := qHy
theorem qFk : (qAB (top 28)).names.lookup ("ValueError" : Str) = some NameKind.globalImplicit := kd
theorem qFo {l f : Addr} {cd : Value} : (envOfC "_law_kind_of" (qAB (top 28)) l f cd).kindOf "ValueError" = some NameKind.globalImplicit := qFk
theorem qHP : (qAB (top 28)).names.lookup ("NoDeed" : Str) = some NameKind.globalImplicit := kd
theorem qHW {l f : Addr} {cd : Value} : (envOfC "_law_kind_of" (qAB (top 28)) l f cd).kindOf "NoDeed" = some NameKind.globalImplicit := qHP
theorem qHR : (qAB (top 28)).names.lookup ("NoLine" : Str) = some NameKind.globalImplicit := kd
theorem qHY {l f : Addr} {cd : Value} : (envOfC "_law_kind_of" (qAB (top 28)) l f cd).kindOf "NoLine" = some NameKind.globalImplicit := qHR
theorem qHS : (qAB (top 28)).names.lookup ("NoText" : Str) = some NameKind.globalImplicit := kd
theorem qHZ {l f : Addr} {cd : Value} : (envOfC "_law_kind_of" (qAB (top 28)) l f cd).kindOf "NoText" = some NameKind.globalImplicit := qHS
theorem qHQ : (qAB (top 28)).names.lookup ("NoFars" : Str) = some NameKind.globalImplicit := kd
theorem qHX {l f : Addr} {cd : Value} : (envOfC "_law_kind_of" (qAB (top 28)) l f cd).kindOf "NoFars" = some NameKind.globalImplicit := qHQ
theorem qG6 : (qAB (top 28)).names.lookup ("NoMarks" : Str) = some NameKind.globalImplicit := kd
theorem qHD {l f : Addr} {cd : Value} : (envOfC "_law_kind_of" (qAB (top 28)) l f cd).kindOf "NoMarks" = some NameKind.globalImplicit := qG6
theorem qGZ : (qAB (top 28)).names.lookup ("NoCircle" : Str) = some NameKind.globalImplicit := kd
theorem qGd {l f : Addr} {cd : Value} : (envOfC "_law_kind_of" (qAB (top 28)) l f cd).kindOf "NoCircle" = some NameKind.globalImplicit := qGZ
theorem qGa : (qAB (top 28)).names.lookup ("NoNumber" : Str) = some NameKind.globalImplicit := kd
theorem qGe {l f : Addr} {cd : Value} : (envOfC "_law_kind_of" (qAB (top 28)) l f cd).kindOf "NoNumber" = some NameKind.globalImplicit := qGa
theorem qHz : (qAB (top 28)).names.lookup ("NoLot" : Str) = some NameKind.globalImplicit := kd
theorem qH5 {l f : Addr} {cd : Value} : (envOfC "_law_kind_of" (qAB (top 28)) l f cd).kindOf "NoLot" = some NameKind.globalImplicit := qHz
theorem qG7 : (qAB (top 28)).names.lookup ("NoPoint" : Str) = some NameKind.globalImplicit := kd
theorem qHE {l f : Addr} {cd : Value} : (envOfC "_law_kind_of" (qAB (top 28)) l f cd).kindOf "NoPoint" = some NameKind.globalImplicit := qG7
theorem qJY : (("_law_some" : Str) == ("__debug__" : Str)) = false := kd
theorem qJS : (("_law_some" : Str) == ("__classdict__" : Str)) = false := kd
theorem qCj : (("_law_draw" : Str) == ("__debug__" : Str)) = false := kd
theorem qBQ : (("_law_high" : Str) == ("__debug__" : Str)) = false := kd
theorem qBM : (("_law_high" : Str) == ("__classdict__" : Str)) = false := kd
theorem qCI : (("_law_low" : Str) == ("__debug__" : Str)) = false := kd
theorem qCG : (("_law_low" : Str) == ("__classdict__" : Str)) = false := kd
theorem qF6 : FnScope ["_law_pen_here", "_law_low", "_law_high", "_law_some"] ["_law_pen_here", "_law_low", "_law_high"] (qAB (top 29)) := ⟨rfl, rfl, rfl, kd, rfl, kd, kd⟩
theorem qJC : (qAB (top 29)).names.lookup ("_law_pen_here" : Str) = some NameKind.local := kd
theorem qJK : Vis (qAB (top 29)) "_law_pen_here" := Or.inl qJC
theorem qJD : (qAB (top 29)).names.lookup ("_law_low" : Str) = some NameKind.local := kd
theorem qDI : Vis (qAB (top 29)) "_law_low" := Or.inl qJD
theorem qJE : (qAB (top 29)).names.lookup ("_law_high" : Str) = some NameKind.local := kd
theorem qE7 : Vis (qAB (top 29)) "_law_high" := Or.inl qJE
theorem qE0 : (qAB (top 29)).names.lookup ("_law_some" : Str) = some NameKind.local := kd
theorem qJI : Loc (qAB (top 29)) "_law_some" := Or.inl qE0
theorem qJL : Vis (qAB (top 29)) "_law_some" := Or.inl qE0
theorem qFZ : (qAB (top 29)).names.lookup ("_law_draw" : Str) = some NameKind.globalImplicit := kd
theorem qFb {l f : Addr} {cd : Value} : (envOfC "_law_no_number" (qAB (top 29)) l f cd).kindOf "_law_draw" = some NameKind.globalImplicit := qFZ
theorem qJX : (("_law_here" : Str) == ("__debug__" : Str)) = false := kd
theorem qJR : (("_law_here" : Str) == ("__classdict__" : Str)) = false := kd
theorem qAo : (("_law_number" : Str) == ("__debug__" : Str)) = false := kd
theorem qAn : (("_law_number" : Str) == ("__classdict__" : Str)) = false := kd
theorem qBn : FnScope ["_law_number", "_law_found", "_law_low", "_law_high", "_law_here"] ["_law_number"] (qAB (top 30)) := ⟨rfl, rfl, rfl, kd, rfl, kd, kd⟩
theorem qKO : (qAB (top 30)).names.lookup ("_law_number" : Str) = some NameKind.local := kd
theorem qDp : Vis (qAB (top 30)) "_law_number" := Or.inl qKO
theorem qF4 : (qAB (top 30)).names.lookup ("_law_found" : Str) = some NameKind.local := kd
theorem qF7 : Vis (qAB (top 30)) "_law_found" := Or.inl qF4
theorem qDi : (qAB (top 30)).names.lookup ("_law_low" : Str) = some NameKind.local := kd
theorem qKS : Loc (qAB (top 30)) "_law_low" := Or.inl qDi
theorem qCB : Vis (qAB (top 30)) "_law_low" := Or.inl qDi
theorem qDj : (qAB (top 30)).names.lookup ("_law_high" : Str) = some NameKind.local := kd
theorem qDm : Loc (qAB (top 30)) "_law_high" := Or.inl qDj
theorem qA6 : Vis (qAB (top 30)) "_law_high" := Or.inl qDj
theorem qF5 : (qAB (top 30)).names.lookup ("_law_here" : Str) = some NameKind.local := kd
theorem qKT : Loc (qAB (top 30)) "_law_here" := Or.inl qF5
theorem qF8 : Vis (qAB (top 30)) "_law_here" := Or.inl qF5
theorem qEY : (("_law_part" : Str) == ("__debug__" : Str)) = false := kd
theorem qEV : (("_law_part" : Str) == ("__classdict__" : Str)) = false := kd
theorem qEE : FnScope ["_law_number", "_law_part"] ["_law_number"] (qAB (top 31)) := ⟨rfl, rfl, rfl, kd, rfl, kd, kd⟩
theorem qJh : (qAB (top 31)).names.lookup ("_law_number" : Str) = some NameKind.local := kd
theorem qDR : Vis (qAB (top 31)) "_law_number" := Or.inl qJh
theorem qFf : (qAB (top 31)).names.lookup ("_law_part" : Str) = some NameKind.local := kd
theorem qFg : Loc (qAB (top 31)) "_law_part" := Or.inl qFf
theorem qCW : Vis (qAB (top 31)) "_law_part" := Or.inl qFf
theorem qCL : (("_law_primes" : Str) == ("__debug__" : Str)) = false := kd
theorem qCK : (("_law_primes" : Str) == ("__classdict__" : Str)) = false := kd
theorem qBs : (("_law_prime" : Str) == ("__debug__" : Str)) = false := kd
theorem qBr : (("_law_prime" : Str) == ("__classdict__" : Str)) = false := kd
theorem qOR : (("_law_most" : Str) == ("__debug__" : Str)) = false := kd
theorem qOC : (("_law_most" : Str) == ("__classdict__" : Str)) = false := kd
theorem qKo : (("_law_is_prime" : Str) == ("__debug__" : Str)) = false := kd
theorem qBm : FnScope ["_law_pen_here", "_law_most", "_law_found", "_law_primes", "_law_turn", "_law_prime"] ["_law_pen_here", "_law_most"] (qAB (top 32)) := ⟨rfl, rfl, rfl, kd, rfl, kd, kd⟩
theorem qKL : (qAB (top 32)).names.lookup ("_law_pen_here" : Str) = some NameKind.local := kd
theorem qCd : Vis (qAB (top 32)) "_law_pen_here" := Or.inl qKL
theorem qKM : (qAB (top 32)).names.lookup ("_law_most" : Str) = some NameKind.local := kd
theorem qKX : Vis (qAB (top 32)) "_law_most" := Or.inl qKM
theorem qDh : (qAB (top 32)).names.lookup ("_law_found" : Str) = some NameKind.local := kd
theorem qKQ : Loc (qAB (top 32)) "_law_found" := Or.inl qDh
theorem qDn : Vis (qAB (top 32)) "_law_found" := Or.inl qDh
theorem qF2 : (qAB (top 32)).names.lookup ("_law_primes" : Str) = some NameKind.local := kd
theorem qDo : Vis (qAB (top 32)) "_law_primes" := Or.inl qF2
theorem qKN : (qAB (top 32)).names.lookup ("_law_turn" : Str) = some NameKind.local := kd
theorem qKR : Loc (qAB (top 32)) "_law_turn" := Or.inl qKN
theorem qF3 : (qAB (top 32)).names.lookup ("_law_prime" : Str) = some NameKind.local := kd
theorem qDl : Loc (qAB (top 32)) "_law_prime" := Or.inl qF3
theorem qBo : Vis (qAB (top 32)) "_law_prime" := Or.inl qF3
theorem qGC : (qAB (top 32)).names.lookup ("_law_draw" : Str) = some NameKind.globalImplicit := kd
theorem qBh {l f : Addr} {cd : Value} : (envOfC "_law_product" (qAB (top 32)) l f cd).kindOf "_law_draw" = some NameKind.globalImplicit := qGC
theorem qH0 : (qAB (top 32)).names.lookup ("range" : Str) = some NameKind.globalImplicit := kd
theorem qH6 {l f : Addr} {cd : Value} : (envOfC "_law_product" (qAB (top 32)) l f cd).kindOf "range" = some NameKind.globalImplicit := qH0
theorem qEl : (qAB (top 32)).names.lookup ("_law_is_prime" : Str) = some NameKind.globalImplicit := kd
theorem qEm {l f : Addr} {cd : Value} : (envOfC "_law_product" (qAB (top 32)) l f cd).kindOf "_law_is_prime" = some NameKind.globalImplicit := qEl
theorem qOV : (("on_circle" : Str) == ("__debug__" : Str)) = false := kd
theorem qRX : (("is_sum" : Str) == ("__debug__" : Str)) = false := kd
theorem qPo : (("_law_way" : Str) == ("__debug__" : Str)) = false := kd
theorem qPh : (("_law_way" : Str) == ("__classdict__" : Str)) = false := kd
theorem qLn : (("_law_kind_of" : Str) == ("__debug__" : Str)) = false := kd
theorem qPk : (("FarError" : Str) == ("__debug__" : Str)) = false := kd
theorem qJu : FnScope ["_law_way", "_law_number", "_law_e"] ["_law_way", "_law_number"] (qAB (top 33)) := ⟨rfl, rfl, rfl, kd, rfl, kd, kd⟩
theorem qMd : (qAB (top 33)).names.lookup ("_law_way" : Str) = some NameKind.local := kd
theorem qM9 : Vis (qAB (top 33)) "_law_way" := Or.inl qMd
theorem qMe : (qAB (top 33)).names.lookup ("_law_number" : Str) = some NameKind.local := kd
theorem qNA : Vis (qAB (top 33)) "_law_number" := Or.inl qMe
theorem qIB : (qAB (top 33)).names.lookup ("_law_e" : Str) = some NameKind.local := kd
theorem qNB : Vis (qAB (top 33)) "_law_e" := Or.inl qIB
theorem qHO : (qAB (top 33)).names.lookup ("on_circle" : Str) = some NameKind.globalImplicit := kd
theorem qHV {l f : Addr} {cd : Value} : (envOfC "_law_came" (qAB (top 33)) l f cd).kindOf "on_circle" = some NameKind.globalImplicit := qHO
theorem qI7 : (qAB (top 33)).names.lookup ("is_sum" : Str) = some NameKind.globalImplicit := kd
theorem qI9 {l f : Addr} {cd : Value} : (envOfC "_law_came" (qAB (top 33)) l f cd).kindOf "is_sum" = some NameKind.globalImplicit := qI7
theorem qGB : (qAB (top 33)).names.lookup ("_law_kind_of" : Str) = some NameKind.globalImplicit := kd
theorem qGD {l f : Addr} {cd : Value} : (envOfC "_law_came" (qAB (top 33)) l f cd).kindOf "_law_kind_of" = some NameKind.globalImplicit := qGB
theorem qHx : (qAB (top 33)).names.lookup ("FarError" : Str) = some NameKind.globalImplicit := kd
theorem qH4 {l f : Addr} {cd : Value} : (envOfC "_law_came" (qAB (top 33)) l f cd).kindOf "FarError" = some NameKind.globalImplicit := qHx
theorem qCk : (("_law_wide" : Str) == ("__debug__" : Str)) = false := kd
theorem qCh : (("_law_wide" : Str) == ("__classdict__" : Str)) = false := kd
theorem qLo : (("_law_squares" : Str) == ("__debug__" : Str)) = false := kd
theorem qBv : FnScope ["_law_number", "_law_found", "_law_wide", "_law_one", "_law_other"] ["_law_number"] (qAB (top 34)) := ⟨rfl, rfl, rfl, kd, rfl, kd, kd⟩
theorem qK9 : (qAB (top 34)).names.lookup ("_law_number" : Str) = some NameKind.local := kd
theorem qGy : Vis (qAB (top 34)) "_law_number" := Or.inl qK9
theorem qGj : (qAB (top 34)).names.lookup ("_law_found" : Str) = some NameKind.local := kd
theorem qGn : Loc (qAB (top 34)) "_law_found" := Or.inl qGj
theorem qGz : Vis (qAB (top 34)) "_law_found" := Or.inl qGj
theorem qGk : (qAB (top 34)).names.lookup ("_law_wide" : Str) = some NameKind.local := kd
theorem qGo : Loc (qAB (top 34)) "_law_wide" := Or.inl qGk
theorem qBw : Vis (qAB (top 34)) "_law_wide" := Or.inl qGk
theorem qGl : (qAB (top 34)).names.lookup ("_law_one" : Str) = some NameKind.local := kd
theorem qLD : Loc (qAB (top 34)) "_law_one" := Or.inl qGl
theorem qLZ : Vis (qAB (top 34)) "_law_one" := Or.inl qGl
theorem qGm : (qAB (top 34)).names.lookup ("_law_other" : Str) = some NameKind.local := kd
theorem qLE : Loc (qAB (top 34)) "_law_other" := Or.inl qGm
theorem qLa : Vis (qAB (top 34)) "_law_other" := Or.inl qGm
theorem qFa : (qAB (top 34)).names.lookup ("_law_squares" : Str) = some NameKind.globalImplicit := kd
theorem qFc {l f : Addr} {cd : Value} : (envOfC "_law_points" (qAB (top 34)) l f cd).kindOf "_law_squares" = some NameKind.globalImplicit := qFa
theorem qJb : (qAB (top 34)).names.lookup ("int" : Str) = some NameKind.globalImplicit := kd
theorem qFd {l f : Addr} {cd : Value} : (envOfC "_law_points" (qAB (top 34)) l f cd).kindOf "int" = some NameKind.globalImplicit := qJb
theorem qHt : (("_law_longer" : Str) == ("__debug__" : Str)) = false := kd
theorem qHp : (("_law_longer" : Str) == ("__classdict__" : Str)) = false := kd
theorem qBG : FnScope ["_law_primes", "_law_found", "_law_prime", "_law_longer", "_law_one", "_law_turn"] ["_law_primes"] (qAB (top 35)) := ⟨rfl, rfl, rfl, kd, rfl, kd, kd⟩
theorem qJA : (qAB (top 35)).names.lookup ("_law_primes" : Str) = some NameKind.local := kd
theorem qE3 : Vis (qAB (top 35)) "_law_primes" := Or.inl qJA
theorem qEw : (qAB (top 35)).names.lookup ("_law_found" : Str) = some NameKind.local := kd
theorem qE1 : Loc (qAB (top 35)) "_law_found" := Or.inl qEw
theorem qDH : Vis (qAB (top 35)) "_law_found" := Or.inl qEw
theorem qEx : (qAB (top 35)).names.lookup ("_law_prime" : Str) = some NameKind.local := kd
theorem qJF : Loc (qAB (top 35)) "_law_prime" := Or.inl qEx
theorem qE4 : Vis (qAB (top 35)) "_law_prime" := Or.inl qEx
theorem qEy : (qAB (top 35)).names.lookup ("_law_longer" : Str) = some NameKind.local := kd
theorem qJG : Loc (qAB (top 35)) "_law_longer" := Or.inl qEy
theorem qE5 : Vis (qAB (top 35)) "_law_longer" := Or.inl qEy
theorem qEz : (qAB (top 35)).names.lookup ("_law_one" : Str) = some NameKind.local := kd
theorem qE2 : Loc (qAB (top 35)) "_law_one" := Or.inl qEz
theorem qE6 : Vis (qAB (top 35)) "_law_one" := Or.inl qEz
theorem qJB : (qAB (top 35)).names.lookup ("_law_turn" : Str) = some NameKind.local := kd
theorem qJH : Loc (qAB (top 35)) "_law_turn" := Or.inl qJB
theorem qHw : (qAB (top 35)).names.lookup ("len" : Str) = some NameKind.globalImplicit := kd
theorem qEJ {l f : Addr} {cd : Value} : (envOfC "_law_by_primes" (qAB (top 35)) l f cd).kindOf "len" = some NameKind.globalImplicit := qHw
theorem qG5 : (qAB (top 35)).names.lookup ("range" : Str) = some NameKind.globalImplicit := kd
theorem qHC {l f : Addr} {cd : Value} : (envOfC "_law_by_primes" (qAB (top 35)) l f cd).kindOf "range" = some NameKind.globalImplicit := qG5
noncomputable def qEr : Scope := { kind := .function, names := [(Str.ofString ".0", NameKind.local), (Str.ofString "_law_one", NameKind.local)], isGenerator := false, isCoroutine := false, more := [] }
theorem qBT : qEr.names.lookup ("_law_one" : Str) = some NameKind.local := kd
theorem qEt : CompSc (qAB (top 35)) ["_law_primes", "_law_found", "_law_prime", "_law_longer", "_law_one", "_law_turn"] qEr ["_law_one"] [none] := ⟨rfl, kd, kd, kd, kd, rfl, kd, kd⟩
noncomputable def qEs : Scope := { kind := .function, names := [(Str.ofString ".0", NameKind.local), (Str.ofString "_law_one", NameKind.local)], isGenerator := false, isCoroutine := false, more := [] }
theorem qBU : qEs.names.lookup ("_law_one" : Str) = some NameKind.local := kd
theorem qEu : CompSc (qAB (top 35)) ["_law_primes", "_law_found", "_law_prime", "_law_longer", "_law_one", "_law_turn"] qEs ["_law_one"] [none] := ⟨rfl, kd, kd, kd, kd, rfl, kd, kd⟩
theorem qBO : (("_law_came" : Str) == ("__debug__" : Str)) = false := kd
theorem qOQ : (("_law_cell" : Str) == ("__debug__" : Str)) = false := kd
theorem qOS : (("_law_none" : Str) == ("__debug__" : Str)) = false := kd
theorem qOD : (("_law_none" : Str) == ("__classdict__" : Str)) = false := kd
theorem qPm : (("_law_odd" : Str) == ("__debug__" : Str)) = false := kd
theorem qPg : (("_law_odd" : Str) == ("__classdict__" : Str)) = false := kd
theorem qFy : (("_law_no_number" : Str) == ("__debug__" : Str)) = false := kd
theorem qOT : (("_law_rows" : Str) == ("__debug__" : Str)) = false := kd
theorem qOE : (("_law_rows" : Str) == ("__classdict__" : Str)) = false := kd
theorem qI1 : (("_law_small" : Str) == ("__debug__" : Str)) = false := kd
theorem qIz : (("_law_small" : Str) == ("__classdict__" : Str)) = false := kd
theorem qMU : (("_law_points" : Str) == ("__debug__" : Str)) = false := kd
theorem qKF : (("_law_by_primes" : Str) == ("__debug__" : Str)) = false := kd
theorem qHH : (("_law_product" : Str) == ("__debug__" : Str)) = false := kd
theorem qPn : (("_law_pen" : Str) == ("__debug__" : Str)) = false := kd
theorem qDD : FnScope ["_law_script", "_law_number", "_law_due", "_law_cell_here", "_law_pen_here", "_law_small", "_law_some", "_law_rows", "_law_turn", "_law_odd", "_law_none"] ["_law_script"] (qAB (top 36)) := ⟨rfl, rfl, rfl, kd, rfl, kd, kd⟩
theorem qTB : (qAB (top 36)).names.lookup ("_law_script" : Str) = some NameKind.local := kd
theorem qPa : Vis (qAB (top 36)) "_law_script" := Or.inl qTB
theorem qOo : (qAB (top 36)).names.lookup ("_law_number" : Str) = some NameKind.local := kd
theorem qLF : Loc (qAB (top 36)) "_law_number" := Or.inl qOo
theorem qFM : Vis (qAB (top 36)) "_law_number" := Or.inl qOo
theorem qOp : (qAB (top 36)).names.lookup ("_law_due" : Str) = some NameKind.local := kd
theorem qOw : Loc (qAB (top 36)) "_law_due" := Or.inl qOp
theorem qIs : Vis (qAB (top 36)) "_law_due" := Or.inl qOp
theorem qOq : (qAB (top 36)).names.lookup ("_law_cell_here" : Str) = some NameKind.local := kd
theorem qTD : Loc (qAB (top 36)) "_law_cell_here" := Or.inl qOq
theorem qTh : Vis (qAB (top 36)) "_law_cell_here" := Or.inl qOq
theorem qOr : (qAB (top 36)).names.lookup ("_law_pen_here" : Str) = some NameKind.local := kd
theorem qTE : Loc (qAB (top 36)) "_law_pen_here" := Or.inl qOr
theorem qG0 : Vis (qAB (top 36)) "_law_pen_here" := Or.inl qOr
theorem qOs : (qAB (top 36)).names.lookup ("_law_small" : Str) = some NameKind.local := kd
theorem qPb : Vis (qAB (top 36)) "_law_small" := Or.inl qOs
theorem qOt : (qAB (top 36)).names.lookup ("_law_some" : Str) = some NameKind.local := kd
theorem qTi : Vis (qAB (top 36)) "_law_some" := Or.inl qOt
theorem qOu : (qAB (top 36)).names.lookup ("_law_rows" : Str) = some NameKind.local := kd
theorem qTF : Loc (qAB (top 36)) "_law_rows" := Or.inl qOu
theorem qTj : Vis (qAB (top 36)) "_law_rows" := Or.inl qOu
theorem qTC : (qAB (top 36)).names.lookup ("_law_turn" : Str) = some NameKind.local := kd
theorem qTG : Loc (qAB (top 36)) "_law_turn" := Or.inl qTC
theorem qOv : (qAB (top 36)).names.lookup ("_law_odd" : Str) = some NameKind.local := kd
theorem qTk : Vis (qAB (top 36)) "_law_odd" := Or.inl qOv
theorem qNX : (qAB (top 36)).names.lookup ("_law_none" : Str) = some NameKind.local := kd
theorem qSX : Vis (qAB (top 36)) "_law_none" := Or.inl qNX
theorem qKx : (qAB (top 36)).names.lookup ("_law_came" : Str) = some NameKind.globalImplicit := kd
theorem qAy {l f : Addr} {cd : Value} : (envOfC "law" (qAB (top 36)) l f cd).kindOf "_law_came" = some NameKind.globalImplicit := qKx
theorem qKy : (qAB (top 36)).names.lookup ("_law_cell" : Str) = some NameKind.globalImplicit := kd
theorem qK5 {l f : Addr} {cd : Value} : (envOfC "law" (qAB (top 36)) l f cd).kindOf "_law_cell" = some NameKind.globalImplicit := qKy
theorem qH3 : (qAB (top 36)).names.lookup ("_law_no_number" : Str) = some NameKind.globalImplicit := kd
theorem qEL {l f : Addr} {cd : Value} : (envOfC "law" (qAB (top 36)) l f cd).kindOf "_law_no_number" = some NameKind.globalImplicit := qH3
theorem qOd : (qAB (top 36)).names.lookup ("range" : Str) = some NameKind.globalImplicit := kd
theorem qOe {l f : Addr} {cd : Value} : (envOfC "law" (qAB (top 36)) l f cd).kindOf "range" = some NameKind.globalImplicit := qOd
theorem qK0 : (qAB (top 36)).names.lookup ("_law_same" : Str) = some NameKind.globalImplicit := kd
theorem qEC {l f : Addr} {cd : Value} : (envOfC "law" (qAB (top 36)) l f cd).kindOf "_law_same" = some NameKind.globalImplicit := qK0
theorem qJd : (qAB (top 36)).names.lookup ("_law_points" : Str) = some NameKind.globalImplicit := kd
theorem qJe {l f : Addr} {cd : Value} : (envOfC "law" (qAB (top 36)) l f cd).kindOf "_law_points" = some NameKind.globalImplicit := qJd
theorem qI8 : (qAB (top 36)).names.lookup ("_law_product" : Str) = some NameKind.globalImplicit := kd
theorem qEv {l f : Addr} {cd : Value} : (envOfC "law" (qAB (top 36)) l f cd).kindOf "_law_product" = some NameKind.globalImplicit := qI8
theorem qKz : (qAB (top 36)).names.lookup ("_law_draw" : Str) = some NameKind.globalImplicit := kd
theorem qK6 {l f : Addr} {cd : Value} : (envOfC "law" (qAB (top 36)) l f cd).kindOf "_law_draw" = some NameKind.globalImplicit := qKz
theorem qLv : (qAB (top 36)).names.lookup ("_law_pen" : Str) = some NameKind.globalImplicit := kd
theorem qLy {l f : Addr} {cd : Value} : (envOfC "law" (qAB (top 36)) l f cd).kindOf "_law_pen" = some NameKind.globalImplicit := qLv
noncomputable def qIc : Scope := { kind := .function, names := [(Str.ofString ".0", NameKind.local), (Str.ofString "_law_number", NameKind.local), (Str.ofString "_law_primes", NameKind.local), (Str.ofString "_law_by_primes", NameKind.globalImplicit)], isGenerator := false, isCoroutine := false, more := [] }
theorem qC0 : qIc.names.lookup ("_law_number" : Str) = some NameKind.local := kd
theorem qC1 : qIc.names.lookup ("_law_primes" : Str) = some NameKind.local := kd
theorem qG4 : qIc.names.lookup ("_law_by_primes" : Str) = some NameKind.globalImplicit := kd
theorem qKn : CompSc (qAB (top 36)) ["_law_script", "_law_number", "_law_due", "_law_cell_here", "_law_pen_here", "_law_small", "_law_some", "_law_rows", "_law_turn", "_law_odd", "_law_none"] qIc ["_law_number", "_law_primes"] [none, none] := ⟨rfl, kd, kd, kd, kd, rfl, kd, kd⟩
noncomputable def qEU : DS := qAl (qHL (qAO qBI (qAA (qAD 0) (qAA (dC (.ty "int")) (qAE)))) (qSl (qAO qBI (qAA (qAD 0) (qAA (dC (.ty "bool")) (qAE))))))
theorem qIx : ∃ F : DF, F = qAd 1 qEU := ⟨_, rfl⟩
noncomputable def qDS : DF := Classical.choose (qIx)
theorem qFi : qDS = qAd 1 qEU := Classical.choose_spec (qIx)
noncomputable def qDt : DS := qAl (qHL (qAK 1 qDS (qAA (qAD 0) (qAE))) (qOM gLe gLe (qAD 1) (qAD 0) (qAD 2)))
theorem qHk : ∃ F : DF, F = qAd 3 qDt := ⟨_, rfl⟩
noncomputable def qCZ : DF := Classical.choose (qHk)
theorem qFA : qCZ = qAd 3 qDt := Classical.choose_spec (qHk)
noncomputable def qDA (c : Cl) : DS := sIf (qCQ (dTr (qAK 3 qCZ (qAA (qAD 0) (qAA (qAD 1) (qAA (qAD 2) (qAE))))))) (qME (.ref c.NoNumber) (qAA (qLj [dC (.str "a whole number from "), d1 qHN (qAD 1), dC (.str " to "), d1 qHN (qAD 2), dC (.str " is needed")]) (qAE))) (qAz)
theorem qGO (c : Cl) : ∃ F : DF, F = qAd 3 (qDA c) := ⟨_, rfl⟩
noncomputable def qBq (c : Cl) : DF := Classical.choose (qGO c)
theorem qD9 (c : Cl) : qBq c = qAd 3 (qDA c) := Classical.choose_spec (qGO c)
noncomputable def qDv : DS := qAW (qAs (qON) (gNm 1)) (qAW (qAs (qAD 0) (gNm 2)) (qAW (qAs (dC (.int 2)) (gNm 3)) (qAW (qDC (dTr (d2 gLe (d2 qAq (qAD 3) (qAD 3)) (qAD 2))) (sIf (dTr (d2 gEq (d2 qCP (qAD 2) (qAD 3)) (dC (.int 0)))) (qAW (qAs (d2 qAx (dBm "dict" qIg (qAD 1) (qAA (qAD 3) (qAA (dC (.int 0)) (qAE)))) (dC (.int 1))) (gSb (qAD 1) (qAD 3) qDX)) (qLS 2 qIf (qAD 3))) (qLS 3 qQt (dIf (dTr (d2 gEq (qAD 3) (dC (.int 2)))) (dC (.int 1)) (dC (.int 2)))))) (qAW (sIf (dTr (d2 gGt (qAD 2) (dC (.int 1)))) (qAs (d2 qAx (dBm "dict" qIg (qAD 1) (qAA (qAD 2) (qAA (dC (.int 0)) (qAE)))) (dC (.int 1))) (gSb (qAD 1) (qAD 2) qDX)) (qAz)) (qAl (qHr (qAD 1)))))))
theorem qHn : ∃ F : DF, F = qAd 4 qDv := ⟨_, rfl⟩
noncomputable def qDr : DF := Classical.choose (qHn)
theorem qHm : qDr = qAd 4 qDv := Classical.choose_spec (qHn)
noncomputable def qCS : DS := qAW (qAs (dC (.int 4)) (gNm 1)) (qAW (qCr (qCO (qAD 0)) (gTp 2 (qBX (gNm 2) (qBX (gNm 3) (qD5)))) (sIf (dTr (d2 gEq (d2 qCP (qAD 2) (dC (.int 4))) (dC (.int 1)))) (qLS 1 qAq (d2 qAx (qAD 3) (dC (.int 1)))) (sIf (qEW (dTr (d2 gEq (d2 qCP (qAD 2) (dC (.int 4))) (dC (.int 3)))) (dTr (d2 gEq (d2 qCP (qAD 3) (dC (.int 2))) (dC (.int 1))))) (qAl (dC (.int 0))) (qAz)))) (qAl (qAD 1)))
theorem qEI : ∃ F : DF, F = qAd 4 qCS := ⟨_, rfl⟩
noncomputable def qBz : DF := Classical.choose (qEI)
theorem qEH : qBz = qAd 4 qCS := Classical.choose_spec (qEI)
noncomputable def qDK : DS := qAl (qAK 1 qBz (qAA (qAK 1 qDr (qAA (qAD 0) (qAE))) (qAE)))
theorem qFY : ∃ F : DF, F = qAd 1 qDK := ⟨_, rfl⟩
noncomputable def qBk : DF := Classical.choose (qFY)
theorem qFX : qBk = qAd 1 qDK := Classical.choose_spec (qFY)
noncomputable def qFD (c : Cl) : DS := qAW (qD7 (qAK 3 (qBq c) (qAA (qAD 0) (qAA (dC (.int 0)) (qAA (d2 qB5 (dC (.int 10)) (dC (.int 12))) (qAE)))))) (qAl (dOr (d2 gEq (qAD 0) (dC (.int 0))) (d2 gGt (qAK 1 qBk (qAA (qAD 0) (qAE))) (dC (.int 0)))))
theorem qKY (c : Cl) : ∃ F : DF, F = qAd 1 (qFD c) := ⟨_, rfl⟩
noncomputable def qCx (c : Cl) : DF := Classical.choose (qKY c)
theorem qFQ (c : Cl) : qCx c = qAd 1 (qFD c) := Classical.choose_spec (qKY c)
noncomputable def qDu (c : Cl) : DS := qAW (qD7 (qAK 3 (qBq c) (qAA (qAD 0) (qAA (dC (.int 1)) (qAA (d2 qB5 (dC (.int 10)) (dC (.int 12))) (qAE)))))) (qAl (qAK 1 qBk (qAA (qAD 0) (qAE))))
theorem qHl (c : Cl) : ∃ F : DF, F = qAd 1 (qDu c) := ⟨_, rfl⟩
noncomputable def qCE (c : Cl) : DF := Classical.choose (qHl c)
theorem qFB (c : Cl) : qCE c = qAd 1 (qDu c) := Classical.choose_spec (qHl c)
noncomputable def qFR : DS := qAW (sIf (dTr (d2 gLt (qAD 1) (qAO qCU (qAA (qAD 0) (qAE))))) (qAl (d2 gIx (qAD 0) (qAD 1))) (qAz)) (qAl (dC (.int 0)))
theorem qHf : ∃ F : DF, F = qAd 2 qFR := ⟨_, rfl⟩
noncomputable def qDE : DF := Classical.choose (qHf)
theorem qHe : qDE = qAd 2 qFR := Classical.choose_spec (qHf)
noncomputable def qGA : DS := qAl (qJ2 (qAA (qAD 0) (qAA (qAO qHM (qAA (d2 gGe (qAD 0) (d2 qB5 (dC (.int 10)) (dC (.int 18)))) (qAE))) (qAE))))
theorem qIw : ∃ F : DF, F = qAd 1 qGA := ⟨_, rfl⟩
noncomputable def qET : DF := Classical.choose (qIw)
theorem qIv : qET = qAd 1 qGA := Classical.choose_spec (qIw)
noncomputable def qFS : DS := qAW (sIf (dTr (d2 gEq (d2 gIx (qAD 0) (dC (.int 1))) (dC (.int 1)))) (qAW (qAs (d2 qCP (d2 gIx (qAD 0) (dC (.int 0))) (qAD 1)) (gNm 2)) (qAW (qAs (d2 qIf (d2 gIx (qAD 0) (dC (.int 0))) (qAD 1)) (gSb (qAD 0) (dC (.int 0)) qDX)) (qAl (qAD 2)))) (qAz)) (qAW (qAs (d2 qCP (d2 qAx (d2 qAq (d2 qCP (d2 gIx (qAD 0) (dC (.int 0))) (dC (.int 2147483629))) (dC (.int 48271))) (dC (.int 11))) (dC (.int 2147483629))) (gSb (qAD 0) (dC (.int 0)) qDX)) (qAl (d2 qCP (d2 qIf (d2 qCP (d2 qAx (d2 qAq (d2 gIx (qAD 0) (dC (.int 0))) (d2 gIx (qAD 0) (dC (.int 0)))) (d2 qAq (dC (.int 40692)) (d2 gIx (qAD 0) (dC (.int 0))))) (dC (.int 2147483647))) (dC (.int 8))) (qAD 1))))
theorem qHh : ∃ F : DF, F = qAd 3 qFS := ⟨_, rfl⟩
noncomputable def qAm : DF := Classical.choose (qHh)
theorem qHg : qAm = qAd 3 qFS := Classical.choose_spec (qHh)
noncomputable def qCF (qBA : DF) : DS := qAW (sIf (dTr (d2 gIs (qAD 1) (dC .non))) (qAl (d2 gIs (qAD 0) (dC .non))) (qAz)) (qAW (sIf (qGR (dTr (qAO qBI (qAA (qAD 1) (qAA (dC (.ty "tuple")) (qAE))))) (dTr (qAO qBI (qAA (qAD 1) (qAA (dC (.ty "list")) (qAE)))))) (qAW (sIf (qGR (dTr (d2 gNe (qAO qBI (qAA (qAD 0) (qAA (dC (.ty "tuple")) (qAE)))) (qAO qBI (qAA (qAD 1) (qAA (dC (.ty "tuple")) (qAE)))))) (dTr (d2 gNe (qAO qBI (qAA (qAD 0) (qAA (dC (.ty "list")) (qAE)))) (qAO qBI (qAA (qAD 1) (qAA (dC (.ty "list")) (qAE))))))) (qAl (dC (.bl false))) (qAz)) (qAW (sIf (dTr (d2 gNe (qAO qCU (qAA (qAD 0) (qAE))) (qAO qCU (qAA (qAD 1) (qAE))))) (qAl (dC (.bl false))) (qAz)) (qAW (qCr (qOO (qAA (qAD 0) (qAA (qAD 1) (qAE)))) (gTp 2 (qBX (gNm 2) (qBX (gNm 3) (qD5)))) (sIf (qCQ (dTr (qAK 2 qBA (qAA (qAD 2) (qAA (qAD 3) (qAE)))))) (qAl (dC (.bl false))) (qAz))) (qAl (dC (.bl true)))))) (qAz)) (qAW (sIf (dTr (qAO qBI (qAA (qAD 1) (qAA (dC (.ty "str")) (qAE))))) (qAl (qHL (qAO qBI (qAA (qAD 0) (qAA (dC (.ty "str")) (qAE)))) (d2 gEq (qAD 0) (qAD 1)))) (qAz)) (qAl (qHL (d2 gEq (qAO qBI (qAA (qAD 0) (qAA (dC (.ty "bool")) (qAE)))) (qAO qBI (qAA (qAD 1) (qAA (dC (.ty "bool")) (qAE))))) (qHL (qAO qBI (qAA (qAD 0) (qAA (dC (.ty "int")) (qAE)))) (d2 gEq (qAD 0) (qAD 1)))))))
noncomputable def qEh : Nat → DF
 | 0 => fun _ _ => .bad
 | n + 1 => qAd 4 (qCF (qEh n))
theorem qHj : ∃ F : DF, F = qEh 4 := ⟨_, rfl⟩
noncomputable def qBA : DF := Classical.choose (qHj)
theorem qHi : qBA = qEh 4 := Classical.choose_spec (qHj)
noncomputable def qFC (c : Cl) : DS := qAW (qAs (qAv (qAA (qAO (qBy (qCC c)) (qAA (qAD 0) (qAA (dC (.obj c.NoPoint)) (qAE)))) (qAA (qAO (qBy (qCC c)) (qAA (qAD 0) (qAA (dC (.obj c.NoLot)) (qAE)))) (qAA (qAO (qBy (qCC c)) (qAA (qAD 0) (qAA (dC (.obj c.NoNumber)) (qAE)))) (qAA (qAO (qBy (qCC c)) (qAA (qAD 0) (qAA (dC (.obj c.NoCircle)) (qAE)))) (qAE)))))) (gNm 1)) (qAW (qAs (d2 qAx (qAD 1) (qAv (qAA (qAO (qBy (qCC c)) (qAA (qAD 0) (qAA (dC (.obj c.NoMarks)) (qAE)))) (qAA (qAO (qBy (qCC c)) (qAA (qAD 0) (qAA (dC (.obj c.NoFars)) (qAE)))) (qAA (qAO (qBy (qCC c)) (qAA (qAD 0) (qAA (dC (.obj c.NoText)) (qAE)))) (qAA (qAO (qBy (qCC c)) (qAA (qAD 0) (qAA (dC (.obj c.NoLine)) (qAE)))) (qAE))))))) (gNm 1)) (qAW (qAs (d2 qAx (qAD 1) (qAv (qAA (qAO (qBy (qCC c)) (qAA (qAD 0) (qAA (dC (.obj c.NoDeed)) (qAE)))) (qAA (qAO (qBy (qCC c)) (qAA (qAD 0) (qAA (dC (.obj c.Alike)) (qAE)))) (qAA (qAO (qBy (qCC c)) (qAA (qAD 0) (qAA (dC (.obj c.TooMany)) (qAE)))) (qAE)))))) (gNm 1)) (qAW (sIf (qGR (qCQ (dTr (qAO (qBy (qCC c)) (qAA (qAD 0) (qAA (dC (.ty "ValueError")) (qAE)))))) (dTr (d2 gNe (dBm "list" qLq (qAD 1) (qAA (dC (.bl true)) (qAE))) (dC (.int 1))))) (qAl (dC (.str "other"))) (qAz)) (qAW (sIf (dTr (qAO (qBy (qCC c)) (qAA (qAD 0) (qAA (dC (.obj c.Alike)) (qAE))))) (qAl (qAv (qAA (dC (.str "alike")) (qAA (qJV) (qAA (qJV) (qAA (qJV) (qAA (qJV) (qAE)))))))) (qAz)) (qAW (sIf (dTr (qAO (qBy (qCC c)) (qAA (qAD 0) (qAA (dC (.obj c.TooMany)) (qAE))))) (qAl (qAv (qAA (dC (.str "many")) (qAA (qJV) (qAA (qJV) (qAE)))))) (qAz)) (qAW (qAs (qAv (qAA (dC (.str "point")) (qAA (dC (.str "lot")) (qAA (dC (.str "number")) (qAA (dC (.str "circle")) (qAA (dC (.str "marks")) (qAA (dC (.str "fars")) (qAA (dC (.str "text")) (qAA (dC (.str "line")) (qAA (dC (.str "deed")) (qAE))))))))))) (gNm 2)) (qAl (d2 gIx (qAD 2) (dBm "list" qLr (qAD 1) (qAA (dC (.bl true)) (qAE)))))))))))
theorem qFt (c : Cl) : ∃ F : DF, F = qAd 3 (qFC c) := ⟨_, rfl⟩
noncomputable def qCe (c : Cl) : DF := Classical.choose (qFt c)
theorem qFs (c : Cl) : qCe c = qAd 3 (qFC c) := Classical.choose_spec (qFt c)
noncomputable def qCy : DS := qAW (qAs (qAv (qAA (d2 qEb (qAD 1) (dC (.int 1))) (qAA (d2 qAx (qAD 2) (dC (.int 1))) (qAA (dC .non) (qAA (dC (.bl true)) (qAA (dC (.str "0")) (qAA (qBH (qAA (qAD 1) (qAE))) (qAA (qAv (qAA (qAD 1) (qAE))) (qAA (d2 qB5 (dC (.int 10)) (dC (.int 29))) (qAA (d2 qEb (dC (.int 0)) (d2 qB5 (dC (.int 10)) (dC (.int 29)))) (qAA (dC (.bl false)) (qAA (d2 qAx (qAD 2) (dC (.int 2))) (qAE))))))))))))) (gNm 3)) (qAl (d2 gIx (qAD 3) (qAK 2 qAm (qAA (qAD 0) (qAA (dC (.int 11)) (qAE))))))
theorem qEq : ∃ F : DF, F = qAd 4 qCy := ⟨_, rfl⟩
noncomputable def qA2 : DF := Classical.choose (qEq)
theorem qEp : qA2 = qAd 4 qCy := Classical.choose_spec (qEq)
noncomputable def qCg : DS := qAW (qRB 1 2 3 (qAA (qJ2 (qAE)) (qAA (dC (.int 0)) (qAA (dC (.int 0)) (qAE))))) (qAW (qDC (dTr (d2 gLe (d2 qAq (qAD 3) (qAD 3)) (qAD 0))) (qAs (d2 qAx (qAD 3) (dC (.int 1))) (gNm 3))) (qAW (qAs (d2 qEb (qAD 3) (dC (.int 1))) (gNm 3)) (qAW (qDC (dTr (d2 gLe (qAD 2) (qAD 3))) (qAW (qAs (d2 qAx (d2 qAq (qAD 2) (qAD 2)) (d2 qAq (qAD 3) (qAD 3))) (gNm 4)) (qAW (sIf (dTr (d2 gEq (qAD 4) (qAD 0))) (qD7 (dBm "list" qCm (qAD 1) (qAA (qBH (qAA (qAD 2) (qAA (qAD 3) (qAE)))) (qAE)))) (qAz)) (sIf (dTr (d2 gLe (qAD 4) (qAD 0))) (qAs (d2 qAx (qAD 2) (dC (.int 1))) (gNm 2)) (qAs (d2 qEb (qAD 3) (dC (.int 1))) (gNm 3)))))) (qAl (qAD 1)))))
theorem qFx : ∃ F : DF, F = qAd 5 qCg := ⟨_, rfl⟩
noncomputable def qBu : DF := Classical.choose (qFx)
theorem qFw : qBu = qAd 5 qCg := Classical.choose_spec (qFx)
noncomputable def qDJ : DS := qAW (qAs (dC (.int 2)) (gNm 1)) (qAW (qDC (dTr (d2 gLe (d2 qAq (qAD 1) (qAD 1)) (qAD 0))) (qAW (sIf (dTr (d2 gEq (d2 qCP (qAD 0) (qAD 1)) (dC (.int 0)))) (qAl (dC (.bl false))) (qAz)) (qAs (d2 qAx (qAD 1) (dC (.int 1))) (gNm 1)))) (qAl (d2 gGt (qAD 0) (dC (.int 1)))))
theorem qFW : ∃ F : DF, F = qAd 2 qDJ := ⟨_, rfl⟩
noncomputable def qBj : DF := Classical.choose (qFW)
theorem qFV : qBj = qAd 2 qDJ := Classical.choose_spec (qFW)
noncomputable def qCf : DS := qAW (qLT 2 3 (qAA (dC (.int 1)) (qAA (qON) (qAE)))) (qAW (qCr (qEX (qAA (d2 qAx (dC (.int 1)) (qAK 2 qAm (qAA (qAD 0) (qAA (dC (.int 8)) (qAE))))) (qAE))) (gNm 4) (qAW (qAs (d2 gIx (qAv (qAA (dC (.int 2)) (qAA (dC (.int 3)) (qAA (dC (.int 5)) (qAA (dC (.int 5)) (qAA (dC (.int 7)) (qAA (dC (.int 13)) (qAA (dC (.int 17)) (qAA (dC (.int 29)) (qAA (dC (.int 101)) (qAA (dC (.int 9973)) (qAE)))))))))))) (qAK 2 qAm (qAA (qAD 0) (qAA (dC (.int 10)) (qAE))))) (gNm 5)) (qAW (sIf (dTr (d2 gEq (qAK 2 qAm (qAA (qAD 0) (qAA (dC (.int 12)) (qAE)))) (dC (.int 0)))) (qAW (qAs (d2 qAx (dC (.int 2)) (qAK 2 qAm (qAA (qAD 0) (qAA (dC (.int 20000)) (qAE))))) (gNm 5)) (qDC (qCQ (dTr (qAK 1 qBj (qAA (qAD 5) (qAE))))) (qAs (d2 qAx (qAD 5) (dC (.int 1))) (gNm 5)))) (qAz)) (sIf (dTr (d2 gLe (d2 qAq (qAD 2) (qAD 5)) (qAD 1))) (qAW (qAs (d2 qAq (qAD 2) (qAD 5)) (gNm 2)) (qAs (d2 qAx (dBm "dict" qIg (qAD 3) (qAA (qAD 5) (qAA (dC (.int 0)) (qAE)))) (dC (.int 1))) (gSb (qAD 3) (qAD 5) qDX))) (qAz))))) (qAl (qBH (qAA (qAD 2) (qAA (qAD 3) (qAE))))))
theorem qFv : ∃ F : DF, F = qAd 6 qCf := ⟨_, rfl⟩
noncomputable def qBE : DF := Classical.choose (qFv)
theorem qFu : qBE = qAd 6 qCf := Classical.choose_spec (qFv)
noncomputable def qDs (c : Cl) : DS := qM6 3 2 (caught c) (qAl (qMT [(1, (qCx c)), (1, (qCE c))] (qAD 0) (qAA (qAD 1) (qAE)))) (qAl (qAK 1 (qCe c) (qAA (qAD 2) (qAE))))
theorem qHd (c : Cl) : ∃ F : DF, F = qAd 3 (qDs c) := ⟨_, rfl⟩
noncomputable def qAh (c : Cl) : DF := Classical.choose (qHd c)
theorem qE9 (c : Cl) : qAh c = qAd 3 (qDs c) := Classical.choose_spec (qHd c)
noncomputable def qC9 : DS := qAW (qAs (qBH (qAA (dC (.int 0)) (qAA (dC (.int 0)) (qAE)))) (gTp 2 (qBX (gNm 1) (qBX (gNm 2) (qD5))))) (qAW (qDC (dTr (d2 gLe (d2 qAq (qAD 2) (qAD 2)) (qAD 0))) (qAW (qIq (dIt (qAK 1 qBu (qAA (d2 qEb (qAD 0) (d2 qAq (qAD 2) (qAD 2))) (qAE)))) (gTp 2 (qBX (gNm 3) (qBX (gNm 4) (qD5)))) (sIf (dTr (d2 gEq (qAD 3) (dC (.int 0)))) (qAs (d2 qAx (qAD 1) (d2 qAq (d2 qAx (dC (.int 1)) (qAO qHM (qAA (d2 gGt (qAD 2) (dC (.int 0))) (qAE)))) (d2 qAx (dC (.int 1)) (qAO qHM (qAA (d2 gGt (qAD 4) (dC (.int 0))) (qAE)))))) (gNm 1)) (qAz))) (qAs (d2 qAx (qAD 2) (dC (.int 1))) (gNm 2)))) (qAl (qAD 1)))
theorem qGN : ∃ F : DF, F = qAd 5 qC9 := ⟨_, rfl⟩
noncomputable def qBp : DF := Classical.choose (qGN)
theorem qGM : qBp = qAd 5 qC9 := Classical.choose_spec (qGN)
noncomputable def qCN : DS := qAW (qAs (qAv (qAA (dC (.int 1)) (qAE))) (gNm 1)) (qAW (qCr (qLk (qAD 0)) (gNm 2) (qAW (qAs (qJ2 (qAE)) (gNm 3)) (qAW (qIq (dIt (qAD 1)) (gNm 4) (qCr (qEX (qAA (d2 qAx (d2 qGY (qAD 0) (qAD 2)) (dC (.int 1))) (qAE))) (gNm 5) (qAW (qD7 (dBm "list" qCm (qAD 3) (qAA (qAD 4) (qAE)))) (qAs (d2 qAq (qAD 4) (qAD 2)) (gNm 4))))) (qAs (qAD 3) (gNm 1))))) (qAl (d2 qAq (dC (.int 4)) (d2 qEb (qAO qCU (qAA (qDw false [none] (dIt (qAD 1)) (gNm 0) (qEW (dTr (d2 gEq (d2 qCP (qAD 0) (dC (.int 4))) (dC (.int 1)))) (qIe)) (qDL (qAD 0))) (qAE))) (qAO qCU (qAA (qDw false [none] (dIt (qAD 1)) (gNm 0) (qEW (dTr (d2 gEq (d2 qCP (qAD 0) (dC (.int 4))) (dC (.int 3)))) (qIe)) (qDL (qAD 0))) (qAE)))))))
theorem qEo : ∃ F : DF, F = qAd 6 qCN := ⟨_, rfl⟩
noncomputable def qBK : DF := Classical.choose (qEo)
theorem qEn : qBK = qAd 6 qCN := Classical.choose_spec (qEo)
noncomputable def qNr (c : Cl) : DS := qAW (qCr (qCO (qAv (qAA (qBH (qAA (dC (.int 1)) (qAA (dC (.int 4)) (qAE)))) (qAA (qBH (qAA (dC (.int 2)) (qAA (dC (.int 4)) (qAE)))) (qAA (qBH (qAA (dC (.int 3)) (qAA (dC (.int 0)) (qAE)))) (qAA (qBH (qAA (dC (.int 5)) (qAA (dC (.int 8)) (qAE)))) (qAA (qBH (qAA (dC (.int 9)) (qAA (dC (.int 4)) (qAE)))) (qAA (qBH (qAA (dC (.int 25)) (qAA (dC (.int 12)) (qAE)))) (qAA (qBH (qAA (dC (.int 65)) (qAA (dC (.int 16)) (qAE)))) (qAA (qBH (qAA (d2 qB5 (dC (.int 10)) (dC (.int 12))) (qAA (dC (.int 52)) (qAE)))) (qAA (qBH (qAA (dC (.int 49)) (qAA (dC (.int 4)) (qAE)))) (qAE)))))))))))) (gTp 2 (qBX (gNm 1) (qBX (gNm 2) (qD5)))) (sIf (qCQ (dTr (qAK 2 qBA (qAA (qAv (qAA (qAK 2 (qAh c) (qAA (dC (.int 0)) (qAA (qAD 1) (qAE)))) (qAA (qAK 2 (qAh c) (qAA (dC (.int 1)) (qAA (qAD 1) (qAE)))) (qAE)))) (qAA (qAv (qAA (d2 gGt (qAD 2) (dC (.int 0))) (qAA (qAD 2) (qAE)))) (qAE)))))) (qAl (dC (.bl false))) (qAz))) (qAW (qCr (qCO (qBH (qAA (d2 qAq (dC (.int 99991)) (dC (.int 99971))) (qAA (d2 qAq (dC (.int 999983)) (dC (.int 999979))) (qAE))))) (gNm 1) (sIf (qCQ (dTr (qAK 2 qBA (qAA (qAv (qAA (qAK 2 (qAh c) (qAA (dC (.int 0)) (qAA (qAD 1) (qAE)))) (qAA (qAK 2 (qAh c) (qAA (dC (.int 1)) (qAA (qAD 1) (qAE)))) (qAE)))) (qAA (qAv (qAA (dC (.bl false)) (qAA (dC (.int 0)) (qAE)))) (qAE)))))) (qAl (dC (.bl false))) (qAz))) (qAW (qCr (qCO (d2 qAx (qAv (qAA (qAK 2 qDE (qAA (qAD 0) (qAA (dC (.int 0)) (qAE)))) (qAE))) (dSl (qAD 0) (qGW (dC (.int 1))) (qGW (dC (.int 5)))))) (gNm 3) (qAW (qAs (qAK 1 qET (qAA (qAD 3) (qAE))) (gNm 4)) (qAW (qLT 5 6 (qAA (d2 qAx (dC (.int 1)) (qAK 2 qAm (qAA (qAD 4) (qAA (dC (.int 300)) (qAE))))) (qAA (qAv (qAA (qAK 2 qBE (qAA (qAD 4) (qAA (d2 qB5 (dC (.int 10)) (dC (.int 12))) (qAE)))) (qAA (qAK 2 qBE (qAA (qAD 4) (qAA (d2 qB5 (dC (.int 10)) (dC (.int 6))) (qAE)))) (qAE)))) (qAE)))) (qAW (qAs (d2 qAx (qAv (qAA (qBH (qAA (qAD 5) (qAA (qAK 1 qBp (qAA (qAD 5) (qAE))) (qAE)))) (qAE))) (qDw false [none, none] (dIt (qAD 6)) (gTp 2 (qBX (gNm 0) (qBX (gNm 1) (qD5)))) (qIe) (qDL (qBH (qAA (qAD 0) (qAA (qAK 1 (okO qBK) (qAA (qJW (qAD 1)) (qAE))) (qAE))))))) (gNm 7)) (qAW (qCr (qCO (qAD 7)) (gTp 2 (qBX (gNm 1) (qBX (gNm 2) (qD5)))) (qCr (qEX (qAA (dC (.int 2)) (qAE))) (gNm 8) (sIf (qCQ (dTr (qAK 2 qBA (qAA (qAv (qAA (qAK 2 (qAh c) (qAA (dC (.int 0)) (qAA (qAD 1) (qAE)))) (qAA (qAK 2 (qAh c) (qAA (dC (.int 1)) (qAA (qAD 1) (qAE)))) (qAE)))) (qAA (qAv (qAA (d2 gGt (qAD 2) (dC (.int 0))) (qAA (qAD 2) (qAE)))) (qAE)))))) (qAl (dC (.bl false))) (qAz)))) (qAW (qLT 9 10 (qAA (qAK 3 qA2 (qAA (qAD 4) (qAA (dC (.int 0)) (qAA (d2 qB5 (dC (.int 10)) (dC (.int 12))) (qAE))))) (qAA (qAK 3 qA2 (qAA (qAD 4) (qAA (dC (.int 1)) (qAA (d2 qB5 (dC (.int 10)) (dC (.int 12))) (qAE))))) (qAE)))) (sIf (dTr (d2 gNe (qAv (qAA (qAK 2 (qAh c) (qAA (dC (.int 0)) (qAA (qAD 9) (qAE)))) (qAA (qAK 2 (qAh c) (qAA (dC (.int 1)) (qAA (qAD 10) (qAE)))) (qAA (qAK 2 (qAh c) (qAA (dC (.int 1)) (qAA (dC (.int 0)) (qAE)))) (qAA (qAK 2 (qAh c) (qAA (dC (.int 0)) (qAA (d1 qS2 (dC (.int 1))) (qAE)))) (qAE)))))) (d2 qIh (qAv (qAA (dC (.str "number")) (qAE))) (dC (.int 4))))) (qAl (dC (.bl false))) (qAz)))))))) (qAl (d2 qQu (qAK 2 (qAh c) (qAA (dC (.int 0)) (qAA (dC (.int 0)) (qAE)))) (dC (.bl true))))))
end K41
end
section
namespace K41
open PySem PySem.Spec PyProof.Rows L2 DL
section
variable {P : Program} {w : World} {K : PySem.W.Frag} {mg : Str → Option Value} {base : Heap} {c : Cl}
theorem qPv (T : Txt K mg c) : Def P w K mg base true 1 "is_whole" 1 (qAd 1 qEU) :=
 qCl (k := 0) T.s_is_whole qPz rfl fun f cdv A outer s H E hr =>
  qAN (qAr (qJo (qAj qDc qD0 T.n_isinstance qAT (qAC (qAF 0 rfl qI3 qGV qGQ) (qAC (qB4 qLx T.n_int qJP qJl qJZ) (qAH))) qAV qAU rfl rfl) (qJq (qXf (qAj qDc qD0 T.n_isinstance qAT (qAC (qAF 0 rfl qI3 qGV qGQ) (qAC (qB4 qK4 T.n_bool qMO qMv qMV) (qAH))) qAV qAU rfl rfl)))))
theorem qJJ (T : Txt K mg c) : Def P w K mg base true 1 "points_by_primes" 1 (qAd 4 qCS) :=
 qCl (k := 0) T.s_points_by_primes qBt rfl fun f cdv A outer s H E hr =>
  qAM (qA0 (m := 1) qBt.nd (qAG) rfl qEP rfl (.inl rfl)) (qAM (qD1 qBb rfl (qJt (qAF 0 rfl qIW qRY qRO)) (qGs rfl (qBl (qA7 (m := 2) qBt.nd rfl qIJ (.inl rfl)) (qBl (qA7 (m := 3) qBt.nd rfl qIK (.inl rfl)) (qFH)))) (qAN (qBZ (qA8 (qDq (hr)) (qAS qD8 (qAF 2 rfl qER qOW qOF) (qAG)) (qAG)) (qAN (qPB (m := 1) qBt.nd (qAS qBe (qAF 3 rfl qES qEB qEA) (qAG)) qX2 rfl qEP (.inl rfl))) (qAN (qBZ (qNy (qXk (qA8 (qDq (hr)) (qAS qD8 (qAF 2 rfl qER qOW qOF) (qAG)) (qAG)) (qVb (qA8 (qDq (hr)) (qAS qD8 (qAF 3 rfl qES qEB qEA) (qAG)) (qAG))))) (qAN (qAr (qAG))) (qBS)))))) (qAN (qAr (qAF 1 rfl qIX qUP qUI))))
theorem qO2 (T : Txt K mg c) : Def P w K mg base true 1 "_law_cell" 2 (qAd 2 qFR) :=
 qCl (k := 0) T.s__law_cell qPQ rfl fun f cdv A outer s H E hr =>
  qAM (qBZ (qA8 qZf (qAF 1 rfl qIT qNR qNO) (qAj qGG qK1 T.n_len qJQ (qAC (qAF 0 rfl qIS qDV qDU) (qAH)) qJm qJa rfl rfl)) (qAN (qAr (qEg qG3 (qAF 0 rfl qIS qDV qDU) (qAF 1 rfl qIT qNR qNO)))) (qBS)) (qAN (qAr (qAG)))
theorem qL7 (T : Txt K mg c) : Def P w K mg base false 1 "_law_kind_of" 1 (qAd 3 (qFC c)) :=
 qCl (k := 0) T.s__law_kind_of qCV rfl fun f cdv A outer s H E hr =>
  qAM (qA0 (m := 1) qCV.nd (qBY (qAC (qAj (qCX T.cls) qAQ T.n_isinstance qAT (qAC (qAF 0 rfl qAk qBP qBL) (qAC (qCo qHE T.c_NoPoint T.k_NoPoint qQp) (qAH))) qAV qAU rfl rfl) (qAC (qAj (qCX T.cls) qAQ T.n_isinstance qAT (qAC (qAF 0 rfl qAk qBP qBL) (qAC (qCo qH5 T.c_NoLot T.k_NoLot qSn) (qAH))) qAV qAU rfl rfl) (qAC (qAj (qCX T.cls) qAQ T.n_isinstance qAT (qAC (qAF 0 rfl qAk qBP qBL) (qAC (qCo qGe T.c_NoNumber T.k_NoNumber qKc) (qAH))) qAV qAU rfl rfl) (qAC (qAj (qCX T.cls) qAQ T.n_isinstance qAT (qAC (qAF 0 rfl qAk qBP qBL) (qAC (qCo qGd T.c_NoCircle T.k_NoCircle qPl) (qAH))) qAV qAU rfl rfl) (qAH)))))) rfl qDk rfl (.inl rfl)) (qAM (qA0 (m := 1) qCV.nd (qAS qBe (qAF 1 rfl qCc qD4 qD3) (qBY (qAC (qAj (qCX T.cls) qAQ T.n_isinstance qAT (qAC (qAF 0 rfl qAk qBP qBL) (qAC (qCo qHD T.c_NoMarks T.k_NoMarks qQo) (qAH))) qAV qAU rfl rfl) (qAC (qAj (qCX T.cls) qAQ T.n_isinstance qAT (qAC (qAF 0 rfl qAk qBP qBL) (qAC (qCo qHX T.c_NoFars T.k_NoFars qRU) (qAH))) qAV qAU rfl rfl) (qAC (qAj (qCX T.cls) qAQ T.n_isinstance qAT (qAC (qAF 0 rfl qAk qBP qBL) (qAC (qCo qHZ T.c_NoText T.k_NoText qRW) (qAH))) qAV qAU rfl rfl) (qAC (qAj (qCX T.cls) qAQ T.n_isinstance qAT (qAC (qAF 0 rfl qAk qBP qBL) (qAC (qCo qHY T.c_NoLine T.k_NoLine qRV) (qAH))) qAV qAU rfl rfl) (qAH))))))) rfl qDk rfl (.inl rfl)) (qAM (qA0 (m := 1) qCV.nd (qAS qBe (qAF 1 rfl qCc qD4 qD3) (qBY (qAC (qAj (qCX T.cls) qAQ T.n_isinstance qAT (qAC (qAF 0 rfl qAk qBP qBL) (qAC (qCo qHW T.c_NoDeed T.k_NoDeed qRT) (qAH))) qAV qAU rfl rfl) (qAC (qAj (qCX T.cls) qAQ T.n_isinstance qAT (qAC (qAF 0 rfl qAk qBP qBL) (qAC (qCo qEK T.c_Alike T.k_Alike qOP) (qAH))) qAV qAU rfl rfl) (qAC (qAj (qCX T.cls) qAQ T.n_isinstance qAT (qAC (qAF 0 rfl qAk qBP qBL) (qAC (qCo qDd T.c_TooMany T.k_TooMany qLm) (qAH))) qAV qAU rfl rfl) (qAH)))))) rfl qDk rfl (.inl rfl)) (qAM (qBZ (qNy (qQ9 (qGt (qDB (qAj (qCX T.cls) qAQ T.n_isinstance qAT (qAC (qAF 0 rfl qAk qBP qBL) (qAC (qB4 qFo T.n_ValueError qNh qNo qNk) (qAH))) qAV qAU rfl rfl))) (qPE (qA8 (qPd (hr)) (qIn PySem.F.plainAttrs_list PySem.F.slot_list_count PySem.F.type_list_count (.inl rfl) qVo (qAF 1 rfl qCc qD4 qD3) (qAC (qC4) (qAH))) (qAG))))) (qAN (qAr (qB0))) (qBS)) (qAM (qBZ (qDB (qAj (qCX T.cls) qAQ T.n_isinstance qAT (qAC (qAF 0 rfl qAk qBP qBL) (qAC (qCo qEK T.c_Alike T.k_Alike qOP) (qAH))) qAV qAU rfl rfl)) (qAN (qAr (qBY (qAC (qB0) (qAC (qIP) (qAC (qIP) (qAC (qIP) (qAC (qIP) (qAH))))))))) (qBS)) (qAM (qBZ (qDB (qAj (qCX T.cls) qAQ T.n_isinstance qAT (qAC (qAF 0 rfl qAk qBP qBL) (qAC (qCo qDd T.c_TooMany T.k_TooMany qLm) (qAH))) qAV qAU rfl rfl)) (qAN (qAr (qBY (qAC (qB0) (qAC (qIP) (qAC (qIP) (qAH))))))) (qBS)) (qAM (qA0 (m := 2) qCV.nd (qBY (qAC (qB0) (qAC (qB0) (qAC (qB0) (qAC (qB0) (qAC (qB0) (qAC (qB0) (qAC (qB0) (qAC (qB0) (qAC (qB0) (qAH))))))))))) rfl qKP rfl (.inl rfl)) (qAN (qAr (qEg qG3 (qAF 2 rfl qKW qNl qNi) (qIn PySem.F.plainAttrs_list PySem.F.slot_list_index PySem.F.type_list_index (.inl rfl) qVp (qAF 1 rfl qCc qD4 qD3) (qAC (qC4) (qAH))))))))))))
theorem qL8 (T : Txt K mg c) (d_4 : Def P w K mg base true 1 "_law_draw" 2 qAm) (d_5 : Def P w K mg base true 1 "_law_is_prime" 1 qBj) : Def P w K mg base true 2 "_law_product" 2 (qAd 6 qCf) :=
 qCl (k := 1) T.s__law_product qBm rfl fun f cdv A outer s H E hr =>
  qAM (qPC (m := 2) (l := 3) rfl qBm.nd (qAC (qAG) (qAC (qSD) (qAH))) rfl rfl (by decide) qDh qF2 rfl rfl) (qAM (qD1 qBb rfl (qLR qH6 T.n_range (qAC (qAS qBe (qAG) (qcN d_4 (hr).mono ⟨rfl, rfl, rfl⟩ qBh (qAC (qAF 0 rfl qCd qAc qAb) (qAC (qAG) (qAH))) qCj rfl rfl)) (qAH)) rfl rfl) (qA7 (m := 4) qBm.nd rfl qKR (.inl rfl)) (qAM (qA0 (m := 5) qBm.nd (qEg qG3 (qBY (qAC (qAG) (qAC (qAG) (qAC (qAG) (qAC (qAG) (qAC (qAG) (qAC (qAG) (qAC (qAG) (qAC (qAG) (qAC (qAG) (qAC (qAG) (qAH)))))))))))) (qcN d_4 (hr).mono ⟨rfl, rfl, rfl⟩ qBh (qAC (qAF 0 rfl qCd qAc qAb) (qAC (qAG) (qAH))) qCj rfl rfl)) rfl qDl rfl (.inl rfl)) (qAM (qBZ (qA8 (qDq (hr)) (qcN d_4 (hr).mono ⟨rfl, rfl, rfl⟩ qBh (qAC (qAF 0 rfl qCd qAc qAb) (qAC (qAG) (qAH))) qCj rfl rfl) (qAG)) (qAM (qA0 (m := 5) qBm.nd (qAS qBe (qAG) (qcN d_4 (hr).mono ⟨rfl, rfl, rfl⟩ qBh (qAC (qAF 0 rfl qCd qAc qAb) (qAC (qAG) (qAH))) qCj rfl rfl)) rfl qDl rfl (.inl rfl)) (qAN (qFI qBb (qGt (qDB (qcN d_5 (hr).mono ⟨rfl, rfl, rfl⟩ qEm (qAC (qAF 5 rfl qBo qBs qBr) (qAH)) qKo rfl rfl))) (qAN (qA0 (m := 5) qBm.nd (qAS qBe (qAF 5 rfl qBo qBs qBr) (qAG)) rfl qDl rfl (.inl rfl)))))) (qBS)) (qAN (qBZ (qA8 qIu (qAS qCY (qAF 2 rfl qDn qAf qAe) (qAF 5 rfl qBo qBs qBr)) (qAF 1 rfl qKX qOR qOC)) (qAM (qA0 (m := 2) qBm.nd (qAS qCY (qAF 2 rfl qDn qAf qAe) (qAF 5 rfl qBo qBs qBr)) rfl qKQ rfl (.inl rfl)) (qAN (qIR (qAS qBe (qIn PySem.F.plainAttrs_dict PySem.F.slot_dict_get PySem.F.type_dict_get (.inr (.inl rfl)) (qRE (hr)) (qAF 3 rfl qDo qCL qCK) (qAC (qAF 5 rfl qBo qBs qBr) (qAC (qAG) (qAH)))) (qAG)) (qJr (qAF 3 rfl qDo qCL qCK) (qAF 5 rfl qBo qBs qBr) (qMI (hr)))))) (qBS)))))) (qAN (qAr (qCA (qAC (qAF 2 rfl qDn qAf qAe) (qAC (qAF 3 rfl qDo qCL qCK) (qAH)))))))
theorem qXF (T : Txt K mg c) (d_2 : Def P w K mg base true 5 "_law_came" 2 (qAh c)) (d_3 : Def P w K mg base true 1 "_law_cell" 2 qDE) (d_7 : Def P w K mg base true 2 "_law_no_number" 3 qA2) (d_11 : Def P w K mg base true 4 "_law_same" 2 qBA) (d_9 : Def P w K mg base true 2 "_law_points" 1 qBp) (d_1 : Def P w K mg base true 1 "_law_by_primes" 1 qBK) (d_10 : Def P w K mg base true 2 "_law_product" 2 qBE) (d_4 : Def P w K mg base true 1 "_law_draw" 2 qAm) (d_8 : Def P w K mg base true 1 "_law_pen" 1 qET) : qN1 P w K mg base true 6 "law" ["_law_script"] (qAd 11 (qNr c)) :=
 qYD (k := 5) T.s_law qDD rfl fun f cdv A outer s H E hr =>
  qAM (qD1 qBb rfl (qJt (qBY (qAC (qCA (qAC (qAG) (qAC (qAG) (qAH)))) (qAC (qCA (qAC (qAG) (qAC (qAG) (qAH)))) (qAC (qCA (qAC (qAG) (qAC (qAG) (qAH)))) (qAC (qCA (qAC (qAG) (qAC (qAG) (qAH)))) (qAC (qCA (qAC (qAG) (qAC (qAG) (qAH)))) (qAC (qCA (qAC (qAG) (qAC (qAG) (qAH)))) (qAC (qCA (qAC (qAG) (qAC (qAG) (qAH)))) (qAC (qCA (qAC (qAS qFT (qAG) (qAG)) (qAC (qAG) (qAH)))) (qAC (qCA (qAC (qAG) (qAC (qAG) (qAH)))) (qAH)))))))))))) (qGs rfl (qBl (qA7 (m := 1) qDD.nd rfl qLF (.inl rfl)) (qBl (qA7 (m := 2) qDD.nd rfl qOw (.inl rfl)) (qFH)))) (qAN (qBZ (qGt (qDB (qcN d_11 (hr).mono ⟨rfl, rfl, rfl⟩ qEC (qAC (qBY (qAC (qcN d_2 (hr).mono ⟨rfl, rfl, rfl⟩ qAy (qAC (qAG) (qAC (qAF 1 rfl qFM qAo qAn) (qAH))) qBO rfl rfl) (qAC (qcN d_2 (hr).mono ⟨rfl, rfl, rfl⟩ qAy (qAC (qAG) (qAC (qAF 1 rfl qFM qAo qAn) (qAH))) qBO rfl rfl) (qAH)))) (qAC (qBY (qAC (qCp qLd (qAF 2 rfl qIs qA4 qA3) (qAG)) (qAC (qAF 2 rfl qIs qA4 qA3) (qAH)))) (qAH))) qEZ rfl rfl))) (qAN (qAr (qC4))) (qBS)))) (qAM (qD1 qBb rfl (qJt (qCA (qAC (qAS qCY (qAG) (qAG)) (qAC (qAS qCY (qAG) (qAG)) (qAH))))) (qA7 (m := 1) qDD.nd rfl qLF (.inl rfl)) (qAN (qBZ (qGt (qDB (qcN d_11 (hr).mono ⟨rfl, rfl, rfl⟩ qEC (qAC (qBY (qAC (qcN d_2 (hr).mono ⟨rfl, rfl, rfl⟩ qAy (qAC (qAG) (qAC (qAF 1 rfl qFM qAo qAn) (qAH))) qBO rfl rfl) (qAC (qcN d_2 (hr).mono ⟨rfl, rfl, rfl⟩ qAy (qAC (qAG) (qAC (qAF 1 rfl qFM qAo qAn) (qAH))) qBO rfl rfl) (qAH)))) (qAC (qBY (qAC (qC4) (qAC (qAG) (qAH)))) (qAH))) qEZ rfl rfl))) (qAN (qAr (qC4))) (qBS)))) (qAM (qD1 qBb rfl (qJt (qAS qBe (qBY (qAC (qcN d_3 (hr).mono ⟨rfl, rfl, rfl⟩ qK5 (qAC (qAF 0 rfl qPa qDV qDU) (qAC (qAG) (qAH))) qOQ rfl rfl) (qAH))) (qTV (qAF 0 rfl qPa qDV qDU) (qQT (qAG)) (qQT (qAG))))) (qA7 (m := 3) qDD.nd rfl qTD (.inl rfl)) (qAM (qA0 (m := 4) qDD.nd (qcN d_8 (hr).mono ⟨rfl, rfl, rfl⟩ qLy (qAC (qAF 3 rfl qTh qDf qDe) (qAH)) qPn rfl rfl) rfl qTE rfl (.inl rfl)) (qAM (qPC (m := 5) (l := 6) rfl qDD.nd (qAC (qAS qBe (qAG) (qcN d_4 (hr).mono ⟨rfl, rfl, rfl⟩ qK6 (qAC (qAF 4 rfl qG0 qAc qAb) (qAC (qAG) (qAH))) qCj rfl rfl)) (qAC (qBY (qAC (qcN d_10 (hr).mono ⟨rfl, rfl, rfl⟩ qEv (qAC (qAF 4 rfl qG0 qAc qAb) (qAC (qAS qFT (qAG) (qAG)) (qAH))) qHH rfl rfl) (qAC (qcN d_10 (hr).mono ⟨rfl, rfl, rfl⟩ qEv (qAC (qAF 4 rfl qG0 qAc qAb) (qAC (qAS qFT (qAG) (qAG)) (qAH))) qHH rfl rfl) (qAH)))) (qAH))) rfl rfl (by decide) qOs qOt rfl rfl) (qAM (qA0 (m := 7) qDD.nd (qAS qBe (qBY (qAC (qCA (qAC (qAF 5 rfl qPb qI1 qIz) (qAC (qcN d_9 (hr).mono ⟨rfl, rfl, rfl⟩ qJe (qAC (qAF 5 rfl qPb qI1 qIz) (qAH)) qMU rfl rfl) (qAH)))) (qAH))) (qLQ rfl qKn (qJs (qAF 6 rfl qTi qJY qJS)) (fun cl C ex s₀ H₀ => qGs rfl (qBl (qA7 (m := 0) qKn.nd rfl (qIa qC0) (.inr (qJ1 qC0))) (qBl (qA7 (m := 1) qKn.nd rfl (qIa qC1) (.inr (qJ1 qC1))) (qFH)))) (fun cl C ex s₀ H₀ => qM2) (by intro g h; cases h <;> rfl) (fun cl C ex s₀ H₀ => qM1 rfl rfl (qCA (qAC (qAF 0 rfl (qFE (.inl qC0)) qAo qAn) (qAC (qcO d_1 (hr).mono (qUM qG4) (qAC (qXe (qAF 1 rfl (qFE (.inl qC1)) qCL qCK)) (qAH)) qKF rfl rfl) (qAH))))) (by intro _; rfl))) rfl qTF rfl (.inl rfl)) (qAM (qD1 qBb rfl (qJt (qAF 7 rfl qTj qOT qOE)) (qGs rfl (qBl (qA7 (m := 1) qDD.nd rfl qLF (.inl rfl)) (qBl (qA7 (m := 2) qDD.nd rfl qOw (.inl rfl)) (qFH)))) (qAN (qD1 qBb rfl (qLR qOe T.n_range (qAC (qAG) (qAH)) rfl rfl) (qA7 (m := 8) qDD.nd rfl qTG (.inl rfl)) (qAN (qBZ (qGt (qDB (qcN d_11 (hr).mono ⟨rfl, rfl, rfl⟩ qEC (qAC (qBY (qAC (qcN d_2 (hr).mono ⟨rfl, rfl, rfl⟩ qAy (qAC (qAG) (qAC (qAF 1 rfl qFM qAo qAn) (qAH))) qBO rfl rfl) (qAC (qcN d_2 (hr).mono ⟨rfl, rfl, rfl⟩ qAy (qAC (qAG) (qAC (qAF 1 rfl qFM qAo qAn) (qAH))) qBO rfl rfl) (qAH)))) (qAC (qBY (qAC (qCp qLd (qAF 2 rfl qIs qA4 qA3) (qAG)) (qAC (qAF 2 rfl qIs qA4 qA3) (qAH)))) (qAH))) qEZ rfl rfl))) (qAN (qAr (qC4))) (qBS)))))) (qAM (qPC (m := 9) (l := 10) rfl qDD.nd (qAC (qcN d_7 (hr).mono ⟨rfl, rfl, rfl⟩ qEL (qAC (qAF 4 rfl qG0 qAc qAb) (qAC (qAG) (qAC (qAS qFT (qAG) (qAG)) (qAH)))) qFy rfl rfl) (qAC (qcN d_7 (hr).mono ⟨rfl, rfl, rfl⟩ qEL (qAC (qAF 4 rfl qG0 qAc qAb) (qAC (qAG) (qAC (qAS qFT (qAG) (qAG)) (qAH)))) qFy rfl rfl) (qAH))) rfl rfl (by decide) qOv qNX rfl rfl) (qAN (qBZ (qA8 (qPd (hr)) (qBY (qAC (qcN d_2 (hr).mono ⟨rfl, rfl, rfl⟩ qAy (qAC (qAG) (qAC (qAF 9 rfl qTk qPm qPg) (qAH))) qBO rfl rfl) (qAC (qcN d_2 (hr).mono ⟨rfl, rfl, rfl⟩ qAy (qAC (qAG) (qAC (qAF 10 rfl qSX qOS qOD) (qAH))) qBO rfl rfl) (qAC (qcN d_2 (hr).mono ⟨rfl, rfl, rfl⟩ qAy (qAC (qAG) (qAC (qAG) (qAH))) qBO rfl rfl) (qAC (qcN d_2 (hr).mono ⟨rfl, rfl, rfl⟩ qAy (qAC (qAG) (qAC (qYl qY4 (qAG)) (qAH))) qBO rfl rfl) (qAH)))))) (qAS qX4 (qBY (qAC (qB0) (qAH))) (qAG))) (qAN (qAr (qC4))) (qBS))))))))) (qAN (qAr (qCp qY3 (qcN d_2 (hr).mono ⟨rfl, rfl, rfl⟩ qAy (qAC (qAG) (qAC (qAG) (qAH))) qBO rfl rfl) (qC4))))))
end
end K41
end
section
namespace K41
open PySem PySem.Spec PyProof.Rows L2 DL
section
variable {P : Program} {w : World} {K : PySem.W.Frag} {mg : Str → Option Value} {base : Heap} {c : Cl}
theorem qO4 (T : Txt K mg c) (d_15 : Def P w K mg base true 1 "is_whole" 1 qDS) : Def P w K mg base true 2 "is_within" 3 (qAd 3 qDt) :=
 qCl (k := 1) T.s_is_within qPR rfl fun f cdv A outer s H E hr =>
  qAN (qAr (qJo (qcN d_15 (hr).mono ⟨rfl, rfl, rfl⟩ qH8 (qAC (qAF 0 rfl qIU qGV qGQ) (qAH)) qPp rfl rfl) (qJq (qTU qIu qIu (qAF 1 rfl qNF qKp qKm) (qAF 0 rfl qIU qGV qGQ) (qAF 2 rfl qNG qMX qMS)))))
theorem qLM (T : Txt K mg c) (d_20 : Def P w K mg base true 1 "primes_in" 1 qDr) (d_19 : Def P w K mg base true 1 "points_by_primes" 1 qBz) : Def P w K mg base true 2 "circle_points" 1 (qAd 1 qDK) :=
 qCl (k := 1) T.s_circle_points qLU rfl fun f cdv A outer s H E hr =>
  qAN (qAr (qcN d_19 (hr).mono ⟨rfl, rfl, rfl⟩ qDz (qAC (qcN d_20 (hr).mono ⟨rfl, rfl, rfl⟩ qFp (qAC (qAF 0 rfl qJy qDN qDM) (qAH)) qOX rfl rfl) (qAH)) qI5 rfl rfl))
theorem qPu (T : Txt K mg c) : Def P w K mg base true 1 "_law_pen" 1 (qAd 1 qGA) :=
 qCl (k := 0) T.s__law_pen qPy rfl fun f cdv A outer s H E hr =>
  qAN (qAr (qM0 (qAC (qAF 0 rfl qI2 qDf qDe) (qAC (qJp qIt qLw T.n_int qJP (qAC (qCp qZe (qAF 0 rfl qI2 qDf qDe) (qAS qFT (qAG) (qAG))) (qAH)) qJl qJZ rfl rfl) (qAH)))))
theorem qKV (T : Txt K mg c) (d_4 : Def P w K mg base true 1 "_law_draw" 2 qAm) : Def P w K mg base true 2 "_law_no_number" 3 (qAd 4 qCy) :=
 qCl (k := 1) T.s__law_no_number qF6 rfl fun f cdv A outer s H E hr =>
  qAM (qA0 (m := 3) qF6.nd (qBY (qAC (qAS qKC (qAF 1 rfl qDI qCI qCG) (qAG)) (qAC (qAS qBe (qAF 2 rfl qE7 qBQ qBM) (qAG)) (qAC (qPA) (qAC (qC4) (qAC (qB0) (qAC (qCA (qAC (qAF 1 rfl qDI qCI qCG) (qAH))) (qAC (qBY (qAC (qAF 1 rfl qDI qCI qCG) (qAH))) (qAC (qAS qFT (qAG) (qAG)) (qAC (qAS qKC (qAG) (qAS qFT (qAG) (qAG))) (qAC (qC4) (qAC (qAS qBe (qAF 2 rfl qE7 qBQ qBM) (qAG)) (qAH))))))))))))) rfl qJI rfl (.inl rfl)) (qAN (qAr (qEg qG3 (qAF 3 rfl qJL qJY qJS) (qcN d_4 (hr).mono ⟨rfl, rfl, rfl⟩ qFb (qAC (qAF 0 rfl qJK qAc qAb) (qAC (qAG) (qAH))) qCj rfl rfl))))
theorem qO1 (T : Txt K mg c) (d_18 : Def P w K mg base true 4 "on_circle" 1 (qCE c)) (d_14 : Def P w K mg base true 4 "is_sum" 1 (qCx c)) (d_6 : Def P w K mg base false 1 "_law_kind_of" 1 (qCe c)) : Def P w K mg base true 5 "_law_came" 2 (qAd 3 (qDs c)) :=
 qCl (k := 4) T.s__law_came qJu rfl fun f cdv A outer s H E hr =>
  qAN (qXj (m := 2) ⟨rfl, rfl, rfl⟩ (fun E pn hp => qAN (qAr (qXg (k := 4) (qNg d_14 qI9 qRX (qNg d_18 qHV qOV (qTp))) (hr).mono ⟨rfl, rfl, rfl⟩ (show 2 ≤ lim by decide) (qAF 0 rfl qM9 qPo qPh) (qAC (qAF 1 rfl qNA qAo qAn) (qAH)) (by intro _ _; rfl) rfl rfl))) (fun e => qAN (qAr (qcN d_6 (RoomC.mark (hr) _).mono ⟨rfl, rfl, rfl⟩ qGD (qAC (qAF 2 rfl qNB qBP qBL) (qAH)) qLn rfl rfl))) qH4 T.c_FarError T.caught qJu.nd rfl qIB qPk rfl)
end
end K41
end
section
namespace K41
open PySem PySem.Spec PyProof.Rows L2 DL
section
variable {P : Program} {w : World} {K : PySem.W.Frag} {mg : Str → Option Value} {base : Heap} {c : Cl}
theorem qMy (T : Txt K mg c) (d_16 : Def P w K mg base true 2 "is_within" 3 qCZ) : Def P w K mg base true 3 "need_within" 3 (qAd 3 (qDA c)) :=
 qCl (k := 2) T.s_need_within qM7 rfl fun f cdv A outer s H E hr =>
  qAN (qBZ (qGt (qDB (qcN d_16 (hr).mono ⟨rfl, rfl, rfl⟩ qGh (qAC (qAF 0 rfl qLb qGV qGQ) (qAC (qAF 1 rfl qG1 qKp qKm) (qAC (qAF 2 rfl qG2 qMX qMS) (qAH)))) qOU rfl rfl))) (qAN (qTW rfl ⟨rfl, rfl, rfl⟩ qHG T.c_NoNumber T.x_NoNumber (qAC (qVY (qIQ (qB0) (qIQ (qSE (qAF 1 rfl qG1 qKp qKm)) (qIQ (qB0) (qIQ (qSE (qAF 2 rfl qG2 qMX qMS)) (qIQ (qB0) (qXi))))))) (qAH)) qKc rfl rfl)) (qBS))
theorem qR4 (T : Txt K mg c) (d_13 : Def P w K mg base true 2 "circle_points" 1 qBk) (d_17 : Def P w K mg base true 3 "need_within" 3 (qBq c)) : Def P w K mg base true 4 "is_sum" 1 (qAd 1 (qFD c)) :=
 qCl (k := 3) T.s_is_sum qSM rfl fun f cdv A outer s H E hr =>
  qAM (qJ8 (qcN d_17 (hr).mono ⟨rfl, rfl, rfl⟩ qH7 (qAC (qAF 0 rfl qHb qDN qDM) (qAC (qAG) (qAC (qAS qFT (qAG) (qAG)) (qAH)))) qHu rfl rfl)) (qAN (qAr (qYk (qCp (qDq (hr)) (qAF 0 rfl qHb qDN qDM) (qAG)) (qJq (qCp qLd (qcN d_13 (hr).mono ⟨rfl, rfl, rfl⟩ qHF (qAC (qAF 0 rfl qHb qDN qDM) (qAH)) qGU rfl rfl) (qAG))))))
theorem qO3 (T : Txt K mg c) : Def P w K mg base true 1 "_law_draw" 2 (qAd 3 qFS) :=
 qCl (k := 0) T.s__law_draw qJv rfl fun f cdv A outer s H E hr =>
  qAM (qBZ (qA8 (qDq (hr)) (qEg qG3 (qAF 0 rfl qBV qAc qAb) (qAG)) (qAG)) (qAM (qA0 (m := 2) qJv.nd (qAS qD8 (qEg qG3 (qAF 0 rfl qBV qAc qAb) (qAG)) (qAF 1 rfl qFL qGT qGP)) rfl qMq rfl (.inl rfl)) (qAM (qIR (qAS qUB (qEg qG3 (qAF 0 rfl qBV qAc qAb) (qAG)) (qAF 1 rfl qFL qGT qGP)) (qJr (qAF 0 rfl qBV qAc qAb) (qAG) (qMI (hr)))) (qAN (qAr (qAF 2 rfl qNC qAf qAe))))) (qBS)) (qAM (qIR (qAS qD8 (qAS qBe (qAS qCY (qAS qD8 (qEg qG3 (qAF 0 rfl qBV qAc qAb) (qAG)) (qAG)) (qAG)) (qAG)) (qAG)) (qJr (qAF 0 rfl qBV qAc qAb) (qAG) (qMI (hr)))) (qAN (qAr (qAS qD8 (qAS qUB (qAS qD8 (qAS qBe (qAS qCY (qEg qG3 (qAF 0 rfl qBV qAc qAb) (qAG)) (qEg qG3 (qAF 0 rfl qBV qAc qAb) (qAG))) (qAS qCY (qAG) (qEg qG3 (qAF 0 rfl qBV qAc qAb) (qAG)))) (qAG)) (qAG)) (qAF 1 rfl qFL qGT qGP)))))
theorem qL9 (T : Txt K mg c) : Def P w K mg base true 1 "_law_squares" 1 (qAd 5 qCg) :=
 qCl (k := 0) T.s__law_squares qBn rfl fun f cdv A outer s H E hr =>
  qAM (qVa (m := 1) (l := 2) (q := 3) rfl qBn.nd (qAC (qM0 (qAH)) (qAC (qAG) (qAC (qAG) (qAH)))) rfl rfl rfl (by decide) (by decide) (by decide) qF4 qDi qDj rfl rfl) (qAM (qFI qBb (qA8 qIu (qAS qCY (qAF 3 rfl qA6 qBQ qBM) (qAF 3 rfl qA6 qBQ qBM)) (qAF 0 rfl qDp qAo qAn)) (qAN (qA0 (m := 3) qBn.nd (qAS qBe (qAF 3 rfl qA6 qBQ qBM) (qAG)) rfl qDm rfl (.inl rfl)))) (qAM (qA0 (m := 3) qBn.nd (qAS qKC (qAF 3 rfl qA6 qBQ qBM) (qAG)) rfl qDm rfl (.inl rfl)) (qAM (qFI qBb (qA8 qIu (qAF 2 rfl qCB qCI qCG) (qAF 3 rfl qA6 qBQ qBM)) (qAM (qA0 (m := 4) qBn.nd (qAS qBe (qAS qCY (qAF 2 rfl qCB qCI qCG) (qAF 2 rfl qCB qCI qCG)) (qAS qCY (qAF 3 rfl qA6 qBQ qBM) (qAF 3 rfl qA6 qBQ qBM))) rfl qKT rfl (.inl rfl)) (qAM (qBZ (qA8 (qDq (hr)) (qAF 4 rfl qF8 qJX qJR) (qAF 0 rfl qDp qAo qAn)) (qAN (qJ8 (qIn PySem.F.plainAttrs_list PySem.F.slot_list_append PySem.F.type_list_append (.inl rfl) qPc (qAF 1 rfl qF7 qAf qAe) (qAC (qCA (qAC (qAF 2 rfl qCB qCI qCG) (qAC (qAF 3 rfl qA6 qBQ qBM) (qAH)))) (qAH))))) (qBS)) (qAN (qBZ (qA8 qIu (qAF 4 rfl qF8 qJX qJR) (qAF 0 rfl qDp qAo qAn)) (qAN (qA0 (m := 2) qBn.nd (qAS qBe (qAF 2 rfl qCB qCI qCG) (qAG)) rfl qKS rfl (.inl rfl))) (qAN (qA0 (m := 3) qBn.nd (qAS qKC (qAF 3 rfl qA6 qBQ qBM) (qAG)) rfl qDm rfl (.inl rfl)))))))) (qAN (qAr (qAF 1 rfl qF7 qAf qAe))))))
theorem qMx (T : Txt K mg c) (d_12 : Def P w K mg base true 1 "_law_squares" 1 qBu) : Def P w K mg base true 2 "_law_points" 1 (qAd 5 qC9) :=
 qCl (k := 1) T.s__law_points qBv rfl fun f cdv A outer s H E hr =>
  qAM (qIR (qCA (qAC (qAG) (qAC (qAG) (qAH)))) (qGs rfl (qBl (qA7 (m := 1) qBv.nd rfl qGn (.inl rfl)) (qBl (qA7 (m := 2) qBv.nd rfl qGo (.inl rfl)) (qFH))))) (qAM (qFI qBb (qA8 qIu (qAS qCY (qAF 2 rfl qBw qCk qCh) (qAF 2 rfl qBw qCk qCh)) (qAF 0 rfl qGy qAo qAn)) (qAM (qQU qBb rfl (qJs (qcN d_12 (hr).mono ⟨rfl, rfl, rfl⟩ qFc (qAC (qAS qKC (qAF 0 rfl qGy qAo qAn) (qAS qCY (qAF 2 rfl qBw qCk qCh) (qAF 2 rfl qBw qCk qCh))) (qAH)) qLo rfl rfl)) (qGs rfl (qBl (qA7 (m := 3) qBv.nd rfl qLD (.inl rfl)) (qBl (qA7 (m := 4) qBv.nd rfl qLE (.inl rfl)) (qFH)))) (qAN (qBZ (qA8 (qDq (hr)) (qAF 3 rfl qLZ qCJ qCH) (qAG)) (qAN (qA0 (m := 1) qBv.nd (qAS qBe (qAF 1 rfl qGz qAf qAe) (qAS qCY (qAS qBe (qAG) (qJp qIt qFd T.n_int qJP (qAC (qCp qLd (qAF 2 rfl qBw qCk qCh) (qAG)) (qAH)) qJl qJZ rfl rfl)) (qAS qBe (qAG) (qJp qIt qFd T.n_int qJP (qAC (qCp qLd (qAF 4 rfl qLa qI0 qIy) (qAG)) (qAH)) qJl qJZ rfl rfl)))) rfl qGn rfl (.inl rfl))) (qBS)))) (qAN (qA0 (m := 2) qBv.nd (qAS qBe (qAF 2 rfl qBw qCk qCh) (qAG)) rfl qGo rfl (.inl rfl))))) (qAN (qAr (qAF 1 rfl qGz qAf qAe))))
end
end K41
end
section
namespace K41
open PySem PySem.Spec PyProof.Rows L2 DL
section
variable {P : Program} {w : World} {K : PySem.W.Frag} {mg : Str → Option Value} {base : Heap} {c : Cl}
theorem qO6 (T : Txt K mg c) : Def P w K mg base true 1 "primes_in" 1 (qAd 4 qDv) :=
 qCl (k := 0) T.s_primes_in qCs rfl fun f cdv A outer s H E hr =>
  qAM (qA0 (m := 1) qCs.nd (qSD) rfl qMt rfl (.inl rfl)) (qAM (qA0 (m := 2) qCs.nd (qAF 0 rfl qNH qDN qDM) rfl qIL rfl (.inl rfl)) (qAM (qA0 (m := 3) qCs.nd (qAG) rfl qIM rfl (.inl rfl)) (qAM (qFI qBb (qA8 qIu (qAS qCY (qAF 3 rfl qBx qC3 qCz) (qAF 3 rfl qBx qC3 qCz)) (qAF 2 rfl qCv qHv qHq)) (qAN (qBZ (qA8 (qDq (hr)) (qAS qD8 (qAF 2 rfl qCv qHv qHq) (qAF 3 rfl qBx qC3 qCz)) (qAG)) (qAM (qIR (qAS qBe (qIn PySem.F.plainAttrs_dict PySem.F.slot_dict_get PySem.F.type_dict_get (.inr (.inl rfl)) (qRE (hr)) (qAF 1 rfl qCu qEB qEA) (qAC (qAF 3 rfl qBx qC3 qCz) (qAC (qAG) (qAH)))) (qAG)) (qJr (qAF 1 rfl qCu qEB qEA) (qAF 3 rfl qBx qC3 qCz) (qMI (hr)))) (qAN (qPB (m := 2) qCs.nd (qAF 3 rfl qBx qC3 qCz) qX1 rfl qIL (.inl rfl)))) (qAN (qPB (m := 3) qCs.nd (qYj (qA8 (qDq (hr)) (qAF 3 rfl qBx qC3 qCz) (qAG)) (qAG) (qAG)) qX0 rfl qIM (.inl rfl)))))) (qAM (qBZ (qA8 qLd (qAF 2 rfl qCv qHv qHq) (qAG)) (qAN (qIR (qAS qBe (qIn PySem.F.plainAttrs_dict PySem.F.slot_dict_get PySem.F.type_dict_get (.inr (.inl rfl)) (qRE (hr)) (qAF 1 rfl qCu qEB qEA) (qAC (qAF 2 rfl qCv qHv qHq) (qAC (qAG) (qAH)))) (qAG)) (qJr (qAF 1 rfl qCu qEB qEA) (qAF 2 rfl qCv qHv qHq) (qMI (hr))))) (qBS)) (qAN (qAr (qSF rfl qKJ T.n_list (qAF 1 rfl qCu qEB qEA) rfl rfl rfl)))))))
theorem qO5 (T : Txt K mg c) (d_13 : Def P w K mg base true 2 "circle_points" 1 qBk) (d_17 : Def P w K mg base true 3 "need_within" 3 (qBq c)) : Def P w K mg base true 4 "on_circle" 1 (qAd 1 (qDu c)) :=
 qCl (k := 3) T.s_on_circle qPS rfl fun f cdv A outer s H E hr =>
  qAM (qJ8 (qcN d_17 (hr).mono ⟨rfl, rfl, rfl⟩ qGi (qAC (qAF 0 rfl qIV qDN qDM) (qAC (qAG) (qAC (qAS qFT (qAG) (qAG)) (qAH)))) qHu rfl rfl)) (qAN (qAr (qcN d_13 (hr).mono ⟨rfl, rfl, rfl⟩ qFq (qAC (qAF 0 rfl qIV qDN qDM) (qAH)) qGU rfl rfl)))
theorem qEd (T : Txt K mg c) {k : Nat} {qBA : DF} (d_11 : Def P w K mg base true k "_law_same" 2 qBA) : Def P w K mg base true (k + 1) "_law_same" 2 (qAd 4 (qCF qBA)) :=
 qCl (k := k) T.s__law_same qGv rfl fun f cdv A outer s H E hr =>
  qAM (qBZ (qA8 qX3 (qAF 1 rfl qA9 qA4 qA3) (qPA)) (qAN (qAr (qCp qX3 (qAF 0 rfl qBF qAf qAe) (qPA)))) (qBS)) (qAM (qBZ (qNy (qQ9 (qDB (qAj qDc qAg T.n_isinstance qAT (qAC (qAF 1 rfl qA9 qA4 qA3) (qAC (qB4 qDO T.n_tuple qKk qLI qKq) (qAH))) qAV qAU rfl rfl)) (qPE (qDB (qAj qDc qAg T.n_isinstance qAT (qAC (qAF 1 rfl qA9 qA4 qA3) (qAC (qB4 qDg T.n_list qMP qMw qMW) (qAH))) qAV qAU rfl rfl))))) (qAM (qBZ (qNy (qQ9 (qA8 (qPd (hr)) (qAj qDc qAg T.n_isinstance qAT (qAC (qAF 0 rfl qBF qAf qAe) (qAC (qB4 qDO T.n_tuple qKk qLI qKq) (qAH))) qAV qAU rfl rfl) (qAj qDc qAg T.n_isinstance qAT (qAC (qAF 1 rfl qA9 qA4 qA3) (qAC (qB4 qDO T.n_tuple qKk qLI qKq) (qAH))) qAV qAU rfl rfl)) (qPE (qA8 (qPd (hr)) (qAj qDc qAg T.n_isinstance qAT (qAC (qAF 0 rfl qBF qAf qAe) (qAC (qB4 qDg T.n_list qMP qMw qMW) (qAH))) qAV qAU rfl rfl) (qAj qDc qAg T.n_isinstance qAT (qAC (qAF 1 rfl qA9 qA4 qA3) (qAC (qB4 qDg T.n_list qMP qMw qMW) (qAH))) qAV qAU rfl rfl))))) (qAN (qAr (qC4))) (qBS)) (qAM (qBZ (qA8 (qPd (hr)) (qAj qGG qGf T.n_len qJQ (qAC (qAF 0 rfl qBF qAf qAe) (qAH)) qJm qJa rfl rfl) (qAj qGG qGf T.n_len qJQ (qAC (qAF 1 rfl qA9 qA4 qA3) (qAH)) qJm qJa rfl rfl)) (qAN (qAr (qC4))) (qBS)) (qAM (qD1 qBb rfl (qXh qK3 T.n_zip (qAC (qAF 0 rfl qBF qAf qAe) (qAC (qAF 1 rfl qA9 qA4 qA3) (qAH))) rfl rfl) (qGs rfl (qBl (qA7 (m := 2) qGv.nd rfl qMr (.inl rfl)) (qBl (qA7 (m := 3) qGv.nd rfl qMs (.inl rfl)) (qFH)))) (qAN (qBZ (qGt (qDB (qcN d_11 hr ⟨rfl, rfl, rfl⟩ qHa (qAC (qAF 2 rfl qND qCJ qCH) (qAC (qAF 3 rfl qNE qI0 qIy) (qAH))) qEZ rfl rfl))) (qAN (qAr (qC4))) (qBS)))) (qAN (qAr (qC4)))))) (qBS)) (qAM (qBZ (qDB (qAj qDc qAg T.n_isinstance qAT (qAC (qAF 1 rfl qA9 qA4 qA3) (qAC (qB4 qGg T.n_str qRL qR2 qRZ) (qAH))) qAV qAU rfl rfl)) (qAN (qAr (qJo (qAj qDc qAg T.n_isinstance qAT (qAC (qAF 0 rfl qBF qAf qAe) (qAC (qB4 qGg T.n_str qRL qR2 qRZ) (qAH))) qAV qAU rfl rfl) (qJq (qCp (qDq (hr)) (qAF 0 rfl qBF qAf qAe) (qAF 1 rfl qA9 qA4 qA3)))))) (qBS)) (qAN (qAr (qJo (qCp (qDq (hr)) (qAj qDc qAg T.n_isinstance qAT (qAC (qAF 0 rfl qBF qAf qAe) (qAC (qB4 qFz T.n_bool qMO qMv qMV) (qAH))) qAV qAU rfl rfl) (qAj qDc qAg T.n_isinstance qAT (qAC (qAF 1 rfl qA9 qA4 qA3) (qAC (qB4 qFz T.n_bool qMO qMv qMV) (qAH))) qAV qAU rfl rfl)) (qJo (qAj qDc qAg T.n_isinstance qAT (qAC (qAF 0 rfl qBF qAf qAe) (qAC (qB4 qK2 T.n_int qJP qJl qJZ) (qAH))) qAV qAU rfl rfl) (qJq (qCp (qDq (hr)) (qAF 0 rfl qBF qAf qAe) (qAF 1 rfl qA9 qA4 qA3)))))))))
theorem qLL (T : Txt K mg c) : Def P w K mg base true 1 "_law_is_prime" 1 (qAd 2 qDJ) :=
 qCl (k := 0) T.s__law_is_prime qEE rfl fun f cdv A outer s H E hr =>
  qAM (qA0 (m := 1) qEE.nd (qAG) rfl qFg rfl (.inl rfl)) (qAM (qFI qBb (qA8 qIu (qAS qCY (qAF 1 rfl qCW qEY qEV) (qAF 1 rfl qCW qEY qEV)) (qAF 0 rfl qDR qAo qAn)) (qAM (qBZ (qA8 (qDq (hr)) (qAS qD8 (qAF 0 rfl qDR qAo qAn) (qAF 1 rfl qCW qEY qEV)) (qAG)) (qAN (qAr (qC4))) (qBS)) (qAN (qA0 (m := 1) qEE.nd (qAS qBe (qAF 1 rfl qCW qEY qEV) (qAG)) rfl qFg rfl (.inl rfl))))) (qAN (qAr (qCp qLd (qAF 0 rfl qDR qAo qAn) (qAG)))))
theorem qKU (T : Txt K mg c) : Def P w K mg base true 1 "_law_by_primes" 1 (qAd 6 qCN) :=
 qCl (k := 0) T.s__law_by_primes qBG rfl fun f cdv A outer s H E hr =>
  qAM (qA0 (m := 1) qBG.nd (qBY (qAC (qAG) (qAH))) rfl qE1 rfl (.inl rfl)) (qAM (qD1 qBb rfl (qVZ (qAF 0 rfl qE3 qCL qCK)) (qA7 (m := 2) qBG.nd rfl qJF (.inl rfl)) (qAM (qA0 (m := 3) qBG.nd (qM0 (qAH)) rfl qJG rfl (.inl rfl)) (qAM (qQU qBb rfl (qJs (qAF 1 rfl qDH qAf qAe)) (qA7 (m := 4) qBG.nd rfl qE2 (.inl rfl)) (qAN (qD1 qBb rfl (qLR qHC T.n_range (qAC (qAS qBe (qVX (hr) (qAF 0 rfl qE3 qCL qCK) (qAF 2 rfl qE4 qBs qBr) (by intro _ _; rfl)) (qAG)) (qAH)) rfl rfl) (qA7 (m := 5) qBG.nd rfl qJH (.inl rfl)) (qAM (qJ8 (qIn PySem.F.plainAttrs_list PySem.F.slot_list_append PySem.F.type_list_append (.inl rfl) qPc (qAF 3 rfl qE5 qHt qHp) (qAC (qAF 4 rfl qE6 qCJ qCH) (qAH)))) (qAN (qA0 (m := 4) qBG.nd (qAS qCY (qAF 4 rfl qE6 qCJ qCH) (qAF 2 rfl qE4 qBs qBr)) rfl qE2 rfl (.inl rfl))))))) (qAN (qA0 (m := 1) qBG.nd (qAF 3 rfl qE5 qHt qHp) rfl qE1 rfl (.inl rfl)))))) (qAN (qAr (qAS qCY (qAG) (qAS qKC (qAj qGG qEJ T.n_len qJQ (qAC (qLQ rfl qEt (qJs (qAF 1 rfl qDH qAf qAe)) (fun cl C ex s₀ H₀ => qA7 (m := 0) qEt.nd rfl (qIa qBT) (.inr (qJ1 qBT))) (fun cl C ex s₀ H₀ => qPD (qA8 (qDq (hr)) (qAS qD8 (qAF 0 rfl (qFE (.inl qBT)) qCJ qCH) (qAG)) (qAG)) (qM2)) (by intro g h; cases h <;> rfl) (fun cl C ex s₀ H₀ => qM1 rfl rfl (qAF 0 rfl (qFE (.inl qBT)) qCJ qCH)) (by intro _; rfl)) (qAH)) qJm qJa rfl rfl) (qAj qGG qEJ T.n_len qJQ (qAC (qLQ rfl qEu (qJs (qAF 1 rfl qDH qAf qAe)) (fun cl C ex s₀ H₀ => qA7 (m := 0) qEu.nd rfl (qIa qBU) (.inr (qJ1 qBU))) (fun cl C ex s₀ H₀ => qPD (qA8 (qDq (hr)) (qAS qD8 (qAF 0 rfl (qFE (.inl qBU)) qCJ qCH) (qAG)) (qAG)) (qM2)) (by intro g h; cases h <;> rfl) (fun cl C ex s₀ H₀ => qM1 rfl rfl (qAF 0 rfl (qFE (.inl qBU)) qCJ qCH)) (by intro _; rfl)) (qAH)) qJm qJa rfl rfl))))))
end
end K41
end
section
namespace K41
open PySem DL
theorem qB3 (i j : Int) (S : Sto) : gEq (.int i) (.int j) S = .ok (.bl (decide (i = j))) S := by kernel_rfl!
theorem qUp (i j : Int) (S : Sto) : gNe (.int i) (.int j) S = .ok (.bl (decide (i ≠ j))) S := by
 have h : gNe (.int i) (.int j) S = .ok (.bl (!decide (i = j))) S := by kernel_rfl!
 rw [h, ← decide_not]
theorem qFF (i j : Int) (S : Sto) (h : -(2 ^ 64) < i ∧ i < 2 ^ 64) : qAq (.int i) (.int j) S = .ok (.int (i * j)) S := by
 unfold qAq i2
 rw [qKl]
 unfold qMQ
 simp only [h, and_self, decide_true, Bool.true_or, if_true]
theorem qCa (i j : Int) (S : Sto) : qAx (.int i) (.int j) S = .ok (.int (i + j)) S := rfl
theorem qK8 (xs : List D) (S : Sto) : qCU [.lst xs] S = .ok (.int xs.length) S := rfl
theorem qDW (i j : Int) (S : Sto) (h : 0 < j) : qCP (.int i) (.int j) S = .ok (.int (i % j)) S := by
 unfold qCP i2
 simp [h]
theorem qMb (i j : Int) (S : Sto) (h : 0 < j ∧ j < 1073741824) : qIf (.int i) (.int j) S = .ok (.int (i / j)) S := by
 unfold qIf i2 qV0
 simp [h]
noncomputable def qFU (d : D) : Prop := ∀ S, tyD d S = some "NoneType" ∨ tyD d S = some "bool" ∨ tyD d S = some "str" ∨ tyD d S = some "tuple" ∨ tyD d S = some "list" ∨ tyD d S = some "dict"
theorem qM3 (i : Int) (S : Sto) : qDS [.int i] S = .ok (.bl true) S := by
 rw [qFi]
 unfold qEU
 simp! [qBI, qO0, qL2]
theorem qNp (d : D) (S : Sto) (h : qFU d) : qDS [d] S = .ok (.bl false) S := by
 rw [qFi]
 unfold qEU
 rcases h S with h | h | h | h | h | h <;> simp! [qBI, qO0, qL2, h]
theorem qPI (i a b : Int) (S : Sto) : qCZ [.int i, .int a, .int b] S = .ok (.bl (decide (a ≤ i ∧ i ≤ b))) S := by
 rw [qFA]
 unfold qDt
 simp! [qM3]
 by_cases h : a ≤ i <;> simp [h]
theorem qPx (d : D) (a b : Int) (S : Sto) (h : qFU d) : qCZ [d, .int a, .int b] S = .ok (.bl false) S := by
 rw [qFA]
 unfold qDt
 simp! [qNp d S h]
noncomputable def qIY (a b : Int) (d : D) : Prop := ∀ S : Sto, qCZ [d, .int a, .int b] S = .ok (.bl false) S
theorem qGp {a b i : Int} (h : i < a ∨ b < i) : qIY a b (.int i) := fun S => by
 rw [qPI]
 have : ¬ (a ≤ i ∧ i ≤ b) := by omega
 simp [this]
theorem qJ6 {a b : Int} {d : D} (h : qFU d) : qIY a b d := fun S => qPx _ _ _ S h
theorem qW3 : qFU .non := fun _ => .inl rfl
theorem qT5 (b : Bool) : qFU (.bl b) := fun _ => .inr (.inl rfl)
theorem qW4 (x : Str) : qFU (.str x) := fun _ => .inr (.inr (.inl rfl))
theorem qW5 (x : List D) : qFU (.tup x) := fun _ => .inr (.inr (.inr (.inl rfl)))
theorem qW2 (x : List D) : qFU (.lst x) := fun _ => .inr (.inr (.inr (.inr (.inl rfl))))
theorem qPH (i a b : Int) (S : Sto) (c : Cl) (h : a ≤ i ∧ i ≤ b) : qBq c [.int i, .int a, .int b] S = .ok .non S := by
 rw [qD9]
 unfold qDA
 simp! [qPI, h]
theorem qRi (a : Int) (S : Sto) (h : a.natAbs.log2 < 1920) : qHN (.int a) S = .ok (.str (toString a)) S := by
 unfold qHN
 simp only [h, if_true]
noncomputable def qW1 (a b : Int) : List Str := [Str.empty ++ ("a whole number from " : Str), Str.empty ++ ("a whole number from " : Str) ++ ((toString a : String) : Str), Str.empty ++ ("a whole number from " : Str) ++ ((toString a : String) : Str) ++ (" to " : Str), Str.empty ++ ("a whole number from " : Str) ++ ((toString a : String) : Str) ++ (" to " : Str) ++ ((toString b : String) : Str), Str.empty ++ ("a whole number from " : Str) ++ ((toString a : String) : Str) ++ (" to " : Str) ++ ((toString b : String) : Str) ++ (" is needed" : Str)]
noncomputable def qT3 (a b : Int) : Bool := decide (a.natAbs.log2 < 1920) && decide (b.natAbs.log2 < 1920) && (qW1 a b).all fun m => decide (m.length ≤ lim)
theorem qNa (d : D) (a b : Int) (S : Sto) (c : Cl) (hm : qT3 a b = true) (h : qIY a b d) : qBq c [d, .int a, .int b] S = .ex (.ref c.NoNumber) .non S := by
 rw [qD9]
 unfold qDA
 simp only [qT3, qW1, List.all_cons, List.all_nil, Bool.and_eq_true, Bool.and_true, decide_eq_true_eq] at hm
 obtain ⟨⟨la, lb⟩, j1, j2, j3, j4, j5⟩ := hm
 have hj : qLj [dC (.str "a whole number from "), d1 qHN (qAD 1), dC (.str " to "), d1 qHN (qAD 2), dC (.str " is needed")] [some d, some (.int a), some (.int b)] S = .ok (.str (Str.empty ++ ("a whole number from " : Str) ++ ((toString a : String) : Str) ++ (" to " : Str) ++ ((toString b : String) : Str) ++ (" is needed" : Str))) S := by
  simp only [qLj, qJ5, dC, d1, qAD, Res.bind, List.getElem?_cons_succ, List.getElem?_cons_zero, j1, if_true]
  rw [qRi a S la]
  simp only [j2, if_true, j3]
  rw [qRi b S lb]
  simp only [j4, if_true, j5]
 have l1 : ∀ x : D, [x].length ≤ lim := fun x => by show 1 ≤ lim; decide
 simp! [h S, qME]
 simp only [hj, l1, if_true]
noncomputable def qCw (S : Sto) (p : Nat) : Prop := ∃ v f : Int, S[p]? = some (.lst [.int v, .int f])
theorem qOi (p : Nat) (k : Int) (xs : List D) (d : D) (S : Sto) (h : S[p]? = some (.lst xs)) (hk : L2.atI xs k = some d) : gIx (.loc p) (.int k) S = .ok d S := by
 simp [gIx, h, hk, DL.qFJ]
theorem qT8 (v f : Int) : L2.atI [D.int v, D.int f] 0 = some (.int v) := rfl
theorem qYg (v f : Int) : L2.atI [D.int v, D.int f] 1 = some (.int f) := rfl
theorem qQR (p : Nat) (v f w : Int) (S : Sto) (h : S[p]? = some (.lst [.int v, .int f])) : qDX (.loc p) (.int 0) (.int w) S = .ok () (S.set p (.lst [.int w, .int f])) := by
 simp [qDX, qOb, h, L2.ixN]
theorem qPG (S : Sto) (p : Nat) (m : Int) (h : qCw S p) (hm : 0 < m ∧ m < 1073741824) : ∃ r v f : Int, qAm [.loc p, .int m] S = .ok (.int r) (S.set p (.lst [.int v, .int f])) ∧ 0 ≤ r ∧ r < m := by
 obtain ⟨v, f, hp⟩ := h
 have hpl := (List.getElem?_eq_some_iff.mp hp).1
 have g0 := qOi p 0 _ _ S hp (qT8 v f)
 have g1 := qOi p 1 _ _ S hp (qYg v f)
 rw [qHg]
 unfold qFS
 by_cases hf : f = 1
 ·refine ⟨v % m, v / m, f, ?_, Int.emod_nonneg _ (by omega), Int.emod_lt_of_pos _ hm.1⟩
  subst hf
  simp! [g0, g1, qB3, qDW v m S hm.1, qMb v m S hm, qQR p v 1 (v / m) S hp]
 ·obtain ⟨w, hw⟩ : ∃ w : Int, w = (v % 2147483629 * 48271 + 11) % 2147483629 := ⟨_, rfl⟩
  have hw1 : 0 ≤ w ∧ w < 2147483629 := by rw [hw]; exact ⟨Int.emod_nonneg _ (by omega), Int.emod_lt_of_pos _ (by omega)⟩
  have hv1 : 0 ≤ v % 2147483629 ∧ v % 2147483629 < 2147483629 := ⟨Int.emod_nonneg _ (by omega), Int.emod_lt_of_pos _ (by omega)⟩
  have hp' : (S.set p (MO.lst [.int w, .int f]))[p]? = some (.lst [.int w, .int f]) := by simp [hpl]
  have k0 := qOi p 0 _ _ (S.set p (MO.lst [.int w, .int f])) hp' (qT8 w f)
  have m1 := qFF (v % 2147483629) 48271 S ⟨by omega, by omega⟩
  have m2 := qFF w w (S.set p (MO.lst [.int w, .int f])) ⟨by omega, by omega⟩
  have m3 := qFF 40692 w (S.set p (MO.lst [.int w, .int f])) ⟨by omega, by omega⟩
  have d1 := qDW v 2147483629 S (by omega)
  have d2' := qDW (v % 2147483629 * 48271 + 11) 2147483629 S (by omega)
  rw [← hw] at d2'
  have d3 := qDW (w * w + 40692 * w) 2147483647 (S.set p (MO.lst [.int w, .int f])) (by omega)
  have d4 := qMb ((w * w + 40692 * w) % 2147483647) 8 (S.set p (MO.lst [.int w, .int f])) (by omega)
  have d5 := qDW ((w * w + 40692 * w) % 2147483647 / 8) m (S.set p (MO.lst [.int w, .int f])) hm.1
  refine ⟨(w * w + 40692 * w) % 2147483647 / 8 % m, w, f, ?_, Int.emod_nonneg _ (by omega), Int.emod_lt_of_pos _ hm.1⟩
  simp! [g0, g1, qB3, hf, d1, m1, qCa, d2', qQR p v f w S hp, k0, m2, m3, d3, d4, d5]
theorem qLN {S : Sto} {p : Nat} (h : qCw S p) (v f : Int) : qCw (S.set p (.lst [.int v, .int f])) p := by
 obtain ⟨v0, f0, hp⟩ := h
 have hpl := (List.getElem?_eq_some_iff.mp hp).1
 exact ⟨v, f, by simp [hpl]⟩
theorem qIN {S S' : Sto} {p : Nat} (h : qCw S p) (e : S <+: S') : qCw S' p := by
 obtain ⟨v0, f0, hp⟩ := h
 obtain ⟨r, rfl⟩ := e
 exact ⟨v0, f0, by rw [List.getElem?_append_left (List.getElem?_eq_some_iff.mp hp).1]; exact hp⟩
theorem qXX (S : Sto) : qB5 (.int 10) (.int 18) S = .ok (.int 1000000000000000000) S := rfl
theorem qXY (S : Sto) : qB5 (.int 10) (.int 29) S = .ok (.int 100000000000000000000000000000) S := rfl
theorem qYo (x : Int) (S : Sto) : ∃ f : Int, qET [.int x] S = .ok (.loc S.length) (S ++ [.lst [.int x, .int f]]) := by
 refine ⟨b01 (decide (1000000000000000000 ≤ x)), ?_⟩
 have l2 : 2 ≤ lim := by decide
 rw [qIv]
 unfold qGA
 simp! [qXX, qHM, l2]
theorem qXl (ns : List Int) (S : Sto) : ∃ x : Int, qDE [.lst (ns.map D.int), .int 0] S = .ok (.int x) S := by
 rw [qHe]
 unfold qFR
 cases ns with
 | nil => exact ⟨0, by simp! [qK8]⟩
 | cons n ns =>
  refine ⟨n, ?_⟩
  have h : (0 : Int) < (ns.length : Int) + 1 := by omega
  simp! [qK8, gIx, L2.atI, L2.ixN, h]
theorem qVv (xs : List D) (r : Int) (h : 0 ≤ r ∧ r < xs.length) : ∃ d, L2.atI xs r = some d ∧ d ∈ xs := by
 have e : L2.ixN xs.length r = some r.toNat := by simp [L2.ixN, h]
 have hl : r.toNat < xs.length := by omega
 exact ⟨xs[r.toNat], by simp [L2.atI, e, hl], List.getElem_mem hl⟩
theorem qUO (ns : List Int) (lo hi : Option Int) : ∃ ms : List Int, qId (ns.map D.int) lo hi = ms.map D.int ∧ ms.length ≤ ns.length := by
 unfold qId
 rw [← List.map_drop, ← List.map_take]
 exact ⟨_, rfl, by simp; omega⟩
noncomputable def qQl (a b : Int) : List D := [.int (a - 1), .int (b + 1), .non, .bl true, .str "0", .tup [.int a], .lst [.int a], .int 100000000000000000000000000000, .int (-100000000000000000000000000000), .bl false, .int (b + 2)]
theorem qUE (a b : Int) (ha : -10000000000000000000000000000 < a ∧ a ≤ b ∧ b < 10000000000000000000000000000) : ∀ d ∈ qQl a b, qIY a b d := by
 intro d hd
 simp only [qQl, List.mem_cons, List.not_mem_nil, or_false] at hd
 rcases hd with rfl | rfl | rfl | rfl | rfl | rfl | rfl | rfl | rfl | rfl | rfl
 ·exact qGp (by omega)
 ·exact qGp (by omega)
 ·exact qJ6 qW3
 ·exact qJ6 (qT5 _)
 ·exact qJ6 (qW4 _)
 ·exact qJ6 (qW5 _)
 ·exact qJ6 (qW2 _)
 ·exact qGp (by omega)
 ·exact qGp (by omega)
 ·exact qJ6 (qT5 _)
 ·exact qGp (by omega)
theorem qKe (S : Sto) (p : Nat) (a b : Int) (h : qCw S p) (ha : -10000000000000000000000000000 < a ∧ a ≤ b ∧ b < 10000000000000000000000000000) : ∃ (d : D) (v f : Int), qA2 [.loc p, .int a, .int b] S = .ok d (S.set p (.lst [.int v, .int f])) ∧ qIY a b d := by
 obtain ⟨r, v, f, e, h0, h1⟩ := qPG S p 11 h (by omega)
 obtain ⟨d, hd, hm⟩ := qVv (qQl a b) r ⟨h0, h1⟩
 refine ⟨d, v, f, ?_, qUE a b ha d hm⟩
 unfold qQl at hd
 have l1 : 1 ≤ lim := by decide
 have l11 : 11 ≤ lim := by decide
 rw [qEp]
 unfold qCy
 simp! [qXY, qCa, l1, l11, e, gIx]
 rw [hd]
noncomputable def qOc : DG := gTp 2 (qBX (gNm 2) (qBX (gNm 3) (qD5)))
noncomputable def qLp (S : DF) : DS := sIf (qCQ (dTr (qAK 2 S (qAA (qAD 2) (qAA (qAD 3) (qAE)))))) (qAl (dC (.bl false))) (qAz)
theorem qVx (S : DF) : qCF S = qAW (sIf (dTr (d2 gIs (qAD 1) (dC .non))) (qAl (d2 gIs (qAD 0) (dC .non))) (qAz)) (qAW (sIf (qGR (dTr (qAO qBI (qAA (qAD 1) (qAA (dC (.ty "tuple")) (qAE))))) (dTr (qAO qBI (qAA (qAD 1) (qAA (dC (.ty "list")) (qAE)))))) (qAW (sIf (qGR (dTr (d2 gNe (qAO qBI (qAA (qAD 0) (qAA (dC (.ty "tuple")) (qAE)))) (qAO qBI (qAA (qAD 1) (qAA (dC (.ty "tuple")) (qAE)))))) (dTr (d2 gNe (qAO qBI (qAA (qAD 0) (qAA (dC (.ty "list")) (qAE)))) (qAO qBI (qAA (qAD 1) (qAA (dC (.ty "list")) (qAE))))))) (qAl (dC (.bl false))) (qAz)) (qAW (sIf (dTr (d2 gNe (qAO qCU (qAA (qAD 0) (qAE))) (qAO qCU (qAA (qAD 1) (qAE))))) (qAl (dC (.bl false))) (qAz)) (qAW (qCr (qOO (qAA (qAD 0) (qAA (qAD 1) (qAE)))) qOc (qLp S)) (qAl (dC (.bl true)))))) (qAz)) (qAW (sIf (dTr (qAO qBI (qAA (qAD 1) (qAA (dC (.ty "str")) (qAE))))) (qAl (qHL (qAO qBI (qAA (qAD 0) (qAA (dC (.ty "str")) (qAE)))) (d2 gEq (qAD 0) (qAD 1)))) (qAz)) (qAl (qHL (d2 gEq (qAO qBI (qAA (qAD 0) (qAA (dC (.ty "bool")) (qAE)))) (qAO qBI (qAA (qAD 1) (qAA (dC (.ty "bool")) (qAE))))) (qHL (qAO qBI (qAA (qAD 0) (qAA (dC (.ty "int")) (qAE)))) (d2 gEq (qAD 0) (qAD 1))))))) := rfl
theorem qRv (F : DF) (x y : Option D) (S : Sto) : ∀ (ws : List D), (∀ d ∈ ws, F [d, d] S = .ok (.bl true) S) → ∀ u v, ∃ u' v', qCD qOc (qLp F) (qFN ws ws) [x, y, u, v] S = .nx [x, y, u', v'] S := by
 intro ws
 induction ws with
 | nil => exact fun _ u v => ⟨u, v, rfl⟩
 | cons w ws ih =>
  intro h u v
  obtain ⟨u', v', e⟩ := ih (fun d hd => h d (List.mem_cons_of_mem _ hd)) (some w) (some w)
  refine ⟨u', v', ?_⟩
  have hw := h w (List.mem_cons_self ..)
  have hg : qOc (.tup [w, w]) [x, y, u, v] S = .ok [x, y, some w, some w] S := rfl
  have hf : qLp F [x, y, some w, some w] S = .nx [x, y, some w, some w] S := by
   unfold qLp
   simp! [hw]
  have hz : qFN (w :: ws) (w :: ws) = D.tup [w, w] :: qFN ws ws := rfl
  rw [hz]
  unfold qCD
  simp only [hg, Res.toS, hf]
  exact e
noncomputable def okD : Nat → D → Prop
 | n + 1, .tup xs => ∀ x ∈ xs, okD n x
 | n + 1, .lst xs => ∀ x ∈ xs, okD n x
 | _, .int _ => True
 | _, .bl _ => True
 | _, .non => True
 | _, _ => False
theorem qOz : ∀ (n : Nat) (d : D), okD n d → okD (n + 1) d
 | 0, .int _, _ => trivial
 | 0, .bl _, _ => trivial
 | 0, .non, _ => trivial
 | n + 1, .int _, _ => trivial
 | n + 1, .bl _, _ => trivial
 | n + 1, .non, _ => trivial
 | n + 1, .tup xs, h => fun x hx => qOz n x (h x hx)
 | n + 1, .lst xs, h => fun x hx => qOz n x (h x hx)
theorem qXD {n m : Nat} (h : n ≤ m) {d : D} (k : okD n d) : okD m d := by
 induction h with
 | refl => exact k
 | step _ ih => exact qOz _ _ ih
theorem qXo {t : DT} {f g : DS} {env : qAI} {S S1 : Sto} {b : Bool} {Q : D → Sto → Prop} (h : t env S = .ok b S1) (k : Rt ((if b then f else g) env S1) Q) : Rt (sIf t f g env S) Q := by
 obtain ⟨d, S2, e2, q⟩ := k
 refine ⟨d, S2, ?_, q⟩
 unfold sIf
 rw [h]
 cases b <;> exact e2
theorem qVf {f g : DS} {env : qAI} {S : Sto} {Q : D → Sto → Prop} (h : Rt (f env S) Q) : Rt (qAW f g env S) Q := by
 obtain ⟨d, S2, e2, q⟩ := h
 exact ⟨d, S2, by unfold qAW; rw [e2], q⟩
theorem qSK {n : Nat} {g : DS} {ds : List D} {S S' : Sto} {d : D} {env : qAI} (hs : qD2 n ds = env) (h : Rt (g env S) fun d' S1 => d' = d ∧ S1 = S') : qAd n g ds S = .ok d S' := by
 obtain ⟨d', S1, e, rfl, rfl⟩ := h
 exact qDP hs e
theorem qPM (F : DF) (d : D) (ws : List D) (S : Sto) (h1 : gIs d .non S = .ok (.bl false) S) (h2 : qGR (dTr (qAO qBI (qAA (qAD 1) (qAA (dC (.ty "tuple")) (qAE))))) (dTr (qAO qBI (qAA (qAD 1) (qAA (dC (.ty "list")) (qAE))))) [some d, some d, none, none] S = .ok true S)
  (h3 : qGR (dTr (d2 gNe (qAO qBI (qAA (qAD 0) (qAA (dC (.ty "tuple")) (qAE)))) (qAO qBI (qAA (qAD 1) (qAA (dC (.ty "tuple")) (qAE)))))) (dTr (d2 gNe (qAO qBI (qAA (qAD 0) (qAA (dC (.ty "list")) (qAE)))) (qAO qBI (qAA (qAD 1) (qAA (dC (.ty "list")) (qAE)))))) [some d, some d, none, none] S = .ok false S)
  (h4 : qCU [d] S = .ok (.int ws.length) S) (h5 : qRF [d, d] = some (qFN ws ws)) (ih : ∀ x ∈ ws, F [x, x] S = .ok (.bl true) S) : qAd 4 (qCF F) [d, d] S = .ok (.bl true) S := by
 rw [qVx]
 obtain ⟨u', v', e⟩ := qRv F (some d) (some d) S ws ih none none
 have h1' : dTr (d2 gIs (qAD 1) (dC .non)) [some d, some d, none, none] S = .ok false S := by
  show (Res.bind (gIs d .non S) fun d S1 => qFr (qCt d S1) S1) = _
  rw [h1]
  rfl
 have h4' : dTr (d2 gNe (qAO qCU (qAA (qAD 0) (qAE))) (qAO qCU (qAA (qAD 1) (qAE)))) [some d, some d, none, none] S = .ok false S := by
  show (Res.bind (Res.bind (qCU [d] S) fun a S1 => Res.bind (qCU [d] S1) fun b S2 => gNe a b S2) fun d S1 => qFr (qCt d S1) S1) = _
  rw [h4]
  show (Res.bind (Res.bind (qCU [d] S) fun b S2 => gNe (.int ws.length) b S2) fun d S1 => qFr (qCt d S1) S1) = _
  rw [h4]
  show (Res.bind (gNe (.int ws.length) (.int ws.length) S) fun d S1 => qFr (qCt d S1) S1) = _
  rw [qUp, decide_eq_false (fun h => h rfl)]
  rfl
 have h5' : qOO (qAA (qAD 0) (qAA (qAD 1) (qAE))) [some d, some d, none, none] S = .ok (qFN ws ws) S := by
  show DL.qFJ (qRF [d, d]) S = _
  rw [h5]
  rfl
 exact qSK rfl (qA1 (qCR h1' (qBB rfl (qVf (qXo h2 (qA1 (qCR h3 (qBB rfl (qA1 (qCR h4' (qBB rfl (qA1 (qEc h5' (qBB e (qFh (qBC rfl ⟨rfl, rfl⟩))))))))))))))))
theorem qPN (F : DF) (i : Int) (S : Sto) : qAd 4 (qCF F) [.int i, .int i] S = .ok (.bl true) S := by
 have h : qAd 4 (qCF F) [.int i, .int i] S = .ok (.bl (i == i)) S := by kernel_rfl!
 rw [h, beq_self_eq_true]
theorem qQa (F : DF) (b : Bool) (S : Sto) : qAd 4 (qCF F) [.bl b, .bl b] S = .ok (.bl true) S := by
 cases b <;> kernel_rfl!
theorem qPO (F : DF) (S : Sto) : qAd 4 (qCF F) [.non, .non] S = .ok (.bl true) S := by kernel_rfl!
theorem qSL : ∀ (n : Nat) (d : D) (S : Sto), okD n d → qEh (n + 1) [d, d] S = .ok (.bl true) S := by
 intro n
 induction n with
 | zero =>
  intro d S h
  cases d with
  | int i => exact qPN _ i S
  | bl b => exact qQa _ b S
  | non => exact qPO _ S
  | _ => exact False.elim h
 | succ n ih =>
  intro d S h
  cases d with
  | tup ws => exact qPM (qEh (n + 1)) (.tup ws) ws S rfl (by kernel_rfl!) (by kernel_rfl!) rfl rfl fun x hx => ih x S (h x hx)
  | lst ws => exact qPM (qEh (n + 1)) (.lst ws) ws S rfl (by kernel_rfl!) (by kernel_rfl!) rfl rfl fun x hx => ih x S (h x hx)
  | int i => exact qPN _ i S
  | bl b => exact qQa _ b S
  | non => exact qPO _ S
  | _ => exact False.elim h
theorem qS5 {cl : List Addr} {C B : Addr} (hC : C ∈ cl) (hB : B ∈ cl) (S : Sto) : qBy cl [.exn (.ref C), .obj B] S = .ok (.bl (C == B)) S := by
 show (if (cl.contains C && cl.contains B) = true then Res.ok (D.bl (C == B)) S else .bad) = _
 rw [List.contains_iff_mem.mpr hC, List.contains_iff_mem.mpr hB]
 rfl
theorem qUz {cl : List Addr} {C : Addr} (hC : C ∈ cl) (S : Sto) : qBy cl [.exn (.ref C), .ty "ValueError"] S = .ok (.bl true) S := by
 show (if (cl.contains C && (("ValueError" : String) == "ValueError")) = true then Res.ok (D.bl true) S else .bad) = _
 rw [List.contains_iff_mem.mpr hC]
 rfl
theorem qD6 {cl : List Addr} (nd : cl.Nodup) {i j : Nat} {a b : Addr} (ha : cl[i]? = some a) (hb : cl[j]? = some b) (h : i ≠ j) : (a == b) = false := by
 rw [beq_eq_false_iff_ne]
 rintro rfl
 obtain ⟨h1, e1⟩ := List.getElem?_eq_some_iff.mp ha
 obtain ⟨h2, e2⟩ := List.getElem?_eq_some_iff.mp hb
 exact h ((List.getElem_inj nd).mp (e1.trans e2.symm))
theorem qDZ {cl : List Addr} {env : qAI} {S : Sto} {C B : Addr} {b : Bool} (h0 : env[0]? = some (some (.exn (.ref C)))) (hC : C ∈ cl) (hB : B ∈ cl) (e : (C == B) = b) : qAO (qBy cl) (qAA (qAD 0) (qAA (dC (.obj B)) (qAE))) env S = .ok (.bl b) S := by
 unfold qAO qAA qAD
 rw [h0]
 exact (qS5 hC hB S).trans (e ▸ rfl)
theorem qYO {cl : List Addr} {env : qAI} {S : Sto} {C : Addr} (h0 : env[0]? = some (some (.exn (.ref C)))) (hC : C ∈ cl) : qAO (qBy cl) (qAA (qAD 0) (qAA (dC (.ty "ValueError")) (qAE))) env S = .ok (.bl true) S := by
 unfold qAO qAA qAD
 rw [h0]
 exact qUz hC S
theorem qGS {f : DE} {g : DA} {env : qAI} {S : Sto} {a : D} {as : List D} (h : f env S = .ok a S) (k : g env S = .ok as S) : qAA f g env S = .ok (a :: as) S := by
 unfold qAA
 rw [h, Res.bind_ok, k]
 rfl
theorem qSm {g : DA} {env : qAI} {S : Sto} {as : List D} (k : g env S = .ok as S) (h : as.length ≤ lim) : qAv g env S = .ok (.lst as) S := by
 unfold qAv
 rw [k, Res.bind_ok, if_pos h]
theorem qWt {o : G2} {f g : DE} {env : qAI} {S : Sto} {a b : D} (h1 : f env S = .ok a S) (h2 : g env S = .ok b S) : d2 o f g env S = o a b S := by
 unfold d2
 rw [h1, Res.bind_ok, h2]
 rfl
theorem qTd {f : DE} {env : qAI} {S : Sto} {b : Bool} (h : f env S = .ok (.bl b) S) : dTr f env S = .ok b S := by
 unfold dTr
 rw [h]
 rfl
theorem qYR {f : DT} {env : qAI} {S : Sto} {b : Bool} (h : f env S = .ok b S) : qCQ f env S = .ok (!b) S := by
 unfold qCQ
 rw [h]
 rfl
theorem qYd {f g : DT} {env : qAI} {S : Sto} (h : f env S = .ok false S) (k : g env S = .ok false S) : qGR f g env S = .ok false S := by
 unfold qGR
 rw [h]
 exact k
theorem qMD (c : Cl) (nd : (qCC c).Nodup) (S : Sto) : qCe c [.exn (.ref c.NoNumber)] S = .ok (.str "number") S := by
 have mN : c.NoNumber ∈ qCC c := .tail _ (.tail _ (.head _))
 rw [qFs]
 refine qSK (env := [some (.exn (.ref c.NoNumber)), none, none]) rfl ?_
 refine qA1 (qBR (qBC (qSm (qGS (qDZ (env := [some (.exn (.ref c.NoNumber)), none, none]) rfl mN (.head _) (qD6 (i := 2) (j := 0) nd rfl rfl (by decide))) (qGS (qDZ (env := [some (.exn (.ref c.NoNumber)), none, none]) rfl mN (.tail _ (.head _)) (qD6 (i := 2) (j := 1) nd rfl rfl (by decide))) (qGS (qDZ (env := [some (.exn (.ref c.NoNumber)), none, none]) rfl mN (.tail _ (.tail _ (.head _))) (beq_self_eq_true _)) (qGS (qDZ (env := [some (.exn (.ref c.NoNumber)), none, none]) rfl mN (.tail _ (.tail _ (.tail _ (.head _)))) (qD6 (i := 2) (j := 3) nd rfl rfl (by decide))) rfl)))) (by decide)) ?_))
 refine qA1 (qBR (qBC ((qWt (a := .lst [.bl false, .bl false, .bl true, .bl false]) rfl (qSm (qGS (qDZ (env := [some (.exn (.ref c.NoNumber)), some (.lst [.bl false, .bl false, .bl true, .bl false]), none]) rfl mN (.tail _ (.tail _ (.tail _ (.tail _ (.head _))))) (qD6 (i := 2) (j := 4) nd rfl rfl (by decide))) (qGS (qDZ (env := [some (.exn (.ref c.NoNumber)), some (.lst [.bl false, .bl false, .bl true, .bl false]), none]) rfl mN (.tail _ (.tail _ (.tail _ (.tail _ (.tail _ (.head _)))))) (qD6 (i := 2) (j := 5) nd rfl rfl (by decide))) (qGS (qDZ (env := [some (.exn (.ref c.NoNumber)), some (.lst [.bl false, .bl false, .bl true, .bl false]), none]) rfl mN (.tail _ (.tail _ (.tail _ (.tail _ (.tail _ (.tail _ (.head _))))))) (qD6 (i := 2) (j := 6) nd rfl rfl (by decide))) (qGS (qDZ (env := [some (.exn (.ref c.NoNumber)), some (.lst [.bl false, .bl false, .bl true, .bl false]), none]) rfl mN (.tail _ (.tail _ (.tail _ (.tail _ (.tail _ (.tail _ (.tail _ (.head _)))))))) (qD6 (i := 2) (j := 7) nd rfl rfl (by decide))) rfl)))) (by decide))).trans (c := .ok (.lst [.bl false, .bl false, .bl true, .bl false, .bl false, .bl false, .bl false, .bl false]) S) (by kernel_rfl!)) ?_))
 refine qA1 (qBR (qBC ((qWt (a := .lst [.bl false, .bl false, .bl true, .bl false, .bl false, .bl false, .bl false, .bl false]) rfl (qSm (qGS (qDZ (env := [some (.exn (.ref c.NoNumber)), some (.lst [.bl false, .bl false, .bl true, .bl false, .bl false, .bl false, .bl false, .bl false]), none]) rfl mN (.tail _ (.tail _ (.tail _ (.tail _ (.tail _ (.tail _ (.tail _ (.tail _ (.head _))))))))) (qD6 (i := 2) (j := 8) nd rfl rfl (by decide))) (qGS (qDZ (env := [some (.exn (.ref c.NoNumber)), some (.lst [.bl false, .bl false, .bl true, .bl false, .bl false, .bl false, .bl false, .bl false]), none]) rfl mN (.tail _ (.tail _ (.tail _ (.tail _ (.tail _ (.tail _ (.tail _ (.tail _ (.tail _ (.head _)))))))))) (qD6 (i := 2) (j := 9) nd rfl rfl (by decide))) (qGS (qDZ (env := [some (.exn (.ref c.NoNumber)), some (.lst [.bl false, .bl false, .bl true, .bl false, .bl false, .bl false, .bl false, .bl false]), none]) rfl mN (.tail _ (.tail _ (.tail _ (.tail _ (.tail _ (.tail _ (.tail _ (.tail _ (.tail _ (.tail _ (.head _))))))))))) (qD6 (i := 2) (j := 10) nd rfl rfl (by decide))) rfl))) (by decide))).trans (c := .ok (.lst [.bl false, .bl false, .bl true, .bl false, .bl false, .bl false, .bl false, .bl false, .bl false, .bl false, .bl false]) S) (by kernel_rfl!)) ?_))
 refine qA1 (qCR (b := false) (S1 := S) (qYd (qYR (qTd (qYO (env := [some (.exn (.ref c.NoNumber)), some (.lst [.bl false, .bl false, .bl true, .bl false, .bl false, .bl false, .bl false, .bl false, .bl false, .bl false, .bl false]), none]) rfl mN))) (by kernel_rfl!)) (qBB (env := [some (.exn (.ref c.NoNumber)), some (.lst [.bl false, .bl false, .bl true, .bl false, .bl false, .bl false, .bl false, .bl false, .bl false, .bl false, .bl false]), none]) (S := S) rfl ?_))
 refine qA1 (qCR (qTd (qDZ (env := [some (.exn (.ref c.NoNumber)), some (.lst [.bl false, .bl false, .bl true, .bl false, .bl false, .bl false, .bl false, .bl false, .bl false, .bl false, .bl false]), none]) rfl mN (.tail _ (.tail _ (.tail _ (.tail _ (.tail _ (.tail _ (.tail _ (.tail _ (.tail _ (.head _)))))))))) (qD6 (i := 2) (j := 9) nd rfl rfl (by decide)))) (qBB (env := [some (.exn (.ref c.NoNumber)), some (.lst [.bl false, .bl false, .bl true, .bl false, .bl false, .bl false, .bl false, .bl false, .bl false, .bl false, .bl false]), none]) (S := S) rfl ?_))
 refine qA1 (qCR (qTd (qDZ (env := [some (.exn (.ref c.NoNumber)), some (.lst [.bl false, .bl false, .bl true, .bl false, .bl false, .bl false, .bl false, .bl false, .bl false, .bl false, .bl false]), none]) rfl mN (.tail _ (.tail _ (.tail _ (.tail _ (.tail _ (.tail _ (.tail _ (.tail _ (.tail _ (.tail _ (.head _))))))))))) (qD6 (i := 2) (j := 10) nd rfl rfl (by decide)))) (qBB (env := [some (.exn (.ref c.NoNumber)), some (.lst [.bl false, .bl false, .bl true, .bl false, .bl false, .bl false, .bl false, .bl false, .bl false, .bl false, .bl false]), none]) (S := S) rfl ?_))
 exact qYu (d := .str "number") (S := S) (by kernel_rfl!) ⟨rfl, rfl⟩
end K41
end
section
namespace K41
open PySem DL
noncomputable def Prm (p : Nat) : Prop := 2 ≤ p ∧ ∀ d, d ∣ p → d = 1 ∨ d = p
theorem Prm.dvd_mul {p a b : Nat} (hp : Prm p) (h : p ∣ a * b) : p ∣ a ∨ p ∣ b := by
 rcases hp.2 (Nat.gcd p a) (Nat.gcd_dvd_left p a) with h1 | h1
 ·exact .inr (Nat.Coprime.dvd_of_dvd_mul_left h1 h)
 ·exact .inl (h1 ▸ Nat.gcd_dvd_right p a)
theorem Prm.dvd_pow {p q : Nat} (hp : Prm p) (hq : Prm q) : ∀ {t : Nat}, p ∣ q ^ t → p = q
 | 0, h => by
  have h1 := Nat.le_of_dvd (by simp) h
  have h2 := hp.1
  simp only [Nat.pow_zero] at h1
  omega
 | t + 1, h => by
  rw [Nat.pow_succ] at h
  rcases hp.dvd_mul h with h | h
  ·exact hp.dvd_pow hq h
  ·rcases hq.2 p h with e | e
   ·have := hp.1
    omega
   ·exact e
theorem Prm.cop {p q : Nat} (hp : Prm p) (hq : Prm q) (h : p ≠ q) : Nat.Coprime p q := by
 rcases hp.2 (Nat.gcd p q) (Nat.gcd_dvd_left p q) with h1 | h1
 ·exact h1
 ·have : p ∣ q := h1 ▸ Nat.gcd_dvd_right p q
  rcases hq.2 p this with e | e
  ·have := hp.1
   omega
  ·exact absurd e h
abbrev FL := List (Nat × Nat)
noncomputable def qBf : FL → Nat
 | [] => 1
 | x :: L => x.1 ^ x.2 * qBf L
structure Fac (L : FL) (n : Nat) : Prop where
 prm : ∀ x ∈ L, Prm x.1
 pos : ∀ x ∈ L, 1 ≤ x.2
 nd : (L.map (·.1)).Nodup
 eq : qBf L = n
theorem Fac.tail {x : Nat × Nat} {L : FL} {n : Nat} (h : Fac (x :: L) n) : Fac L (qBf L) :=
 ⟨fun y hy => h.prm y (List.mem_cons_of_mem _ hy), fun y hy => h.pos y (List.mem_cons_of_mem _ hy), (List.nodup_cons.mp h.nd).2, rfl⟩
theorem qFe {q : Nat} (hq : Prm q) : ∀ {L : FL}, (∀ x ∈ L, Prm x.1) → q ∣ qBf L → ∃ x ∈ L, x.1 = q
 | [], _, h => by
  have := Nat.le_of_dvd (by decide) h
  have := hq.1
  simp [qBf] at *
  omega
 | x :: L, hp, h => by
  rcases hq.dvd_mul (show q ∣ x.1 ^ x.2 * qBf L from h) with h | h
  ·exact ⟨x, List.mem_cons_self .., (hq.dvd_pow (hp x (List.mem_cons_self ..)) h).symm⟩
  ·obtain ⟨y, h1, h2⟩ := qFe hq (fun y hy => hp y (List.mem_cons_of_mem _ hy)) h
   exact ⟨y, List.mem_cons_of_mem _ h1, h2⟩
theorem qOa : ∀ {L : FL} {n : Nat}, Fac L n → ∀ {p t : Nat}, (p, t) ∈ L → p ^ t ∣ n ∧ ¬ p ^ (t + 1) ∣ n
 | x :: L, n, h, p, t, hm => by
  have he : x.1 ^ x.2 * qBf L = n := h.eq
  have nd := List.nodup_cons.mp h.nd
  have hx := h.prm x (List.mem_cons_self ..)
  rcases List.mem_cons.mp hm with e | hm
  ·subst e
   refine ⟨⟨_, he.symm⟩, fun hd => ?_⟩
   rw [← he, Nat.pow_succ] at hd
   have : p ∣ qBf L := Nat.dvd_of_mul_dvd_mul_left (Nat.pow_pos (by have := hx.1; show 0 < p; simp at this; omega)) hd
   obtain ⟨y, h1, h2⟩ := qFe hx (fun y hy => h.prm y (List.mem_cons_of_mem _ hy)) this
   exact nd.1 (List.mem_map.mpr ⟨y, h1, h2⟩)
  ·obtain ⟨h1, h2⟩ := qOa h.tail hm
   have hp : Prm p := h.prm (p, t) (List.mem_cons_of_mem _ hm)
   refine ⟨he ▸ Nat.dvd_mul_left_of_dvd h1 _, fun hd => h2 ?_⟩
   rw [← he] at hd
   have hne : p ≠ x.1 := fun e => nd.1 (List.mem_map.mpr ⟨(p, t), hm, e⟩)
   exact Nat.Coprime.dvd_of_dvd_mul_left (Nat.Coprime.pow _ _ (hp.cop hx hne)) hd
theorem qP9 {L M : FL} {n : Nat} (hL : Fac L n) (hM : Fac M n) : ∀ x ∈ L, x ∈ M := fun x hx => by
 obtain ⟨p, t⟩ := x
 obtain ⟨h1, h2⟩ := qOa hL hx
 have hp : Prm p := hL.prm (p, t) hx
 have ht : 1 ≤ t := hL.pos (p, t) hx
 have hd : p ∣ qBf M := by
  rw [hM.eq]
  refine Nat.dvd_trans ?_ h1
  obtain ⟨k, rfl⟩ : ∃ k, t = k + 1 := ⟨t - 1, by omega⟩
  rw [Nat.pow_succ]
  exact Nat.dvd_mul_left _ _
 obtain ⟨y, h3, h4⟩ := qFe hp hM.prm hd
 obtain ⟨q, s⟩ := y
 simp at h4
 subst h4
 obtain ⟨h5, h6⟩ := qOa hM h3
 have : t = s := by
  rcases Nat.lt_trichotomy t s with g | g | g
  ·exact absurd (Nat.dvd_trans (Nat.pow_dvd_pow q g) h5) h2
  ·exact g
  ·exact absurd (Nat.dvd_trans (Nat.pow_dvd_pow q g) h1) h6
 subst this
 exact h3
theorem qT4 {L : FL} (h : (L.map (·.1)).Nodup) : L.Nodup := by
 induction L with
 | nil => exact List.nodup_nil
 | cons x L ih =>
  have h' := List.nodup_cons.mp h
  exact List.nodup_cons.mpr ⟨fun hx => h'.1 (List.mem_map.mpr ⟨x, hx, rfl⟩), ih h'.2⟩
theorem qS1 {L M : FL} {n : Nat} (hL : Fac L n) (hM : Fac M n) : L.Perm M :=
 (List.perm_ext_iff_of_nodup (qT4 hL.nd) (qT4 hM.nd)).mpr fun x => ⟨qP9 hL hM x, qP9 hM hL x⟩
noncomputable def sg (x : Nat × Nat) : Int := if x.1 % 4 = 1 then (x.2 : Int) + 1 else if x.1 % 4 = 3 ∧ x.2 % 2 = 1 then 0 else 1
noncomputable def sgn : FL → Int
 | [] => 1
 | x :: L => sg x * sgn L
theorem qTb {L M : FL} (h : L.Perm M) : sgn L = sgn M := by
 induction h with
 | nil => rfl
 | cons x _ ih => simp only [sgn, ih]
 | swap x y L => simp only [sgn]; exact Int.mul_left_comm _ _ _
 | trans _ _ h1 h2 => exact h1.trans h2
theorem qVi {L M : FL} {n : Nat} (hL : Fac L n) (hM : Fac M n) : sgn L = sgn M := qTb (qS1 hL hM)
noncomputable def inc (p : Nat) : FL → FL
 | [] => [(p, 1)]
 | x :: L => if x.1 = p then (p, x.2 + 1) :: L else x :: inc p L
noncomputable def cnt (p : Nat) : FL → Nat
 | [] => 0
 | x :: L => if x.1 = p then x.2 else cnt p L
set_option tactic.hygienic true in
theorem qO9 (p : Nat) : ∀ L : FL, qBf (inc p L) = p * qBf L
 | [] => by simp [inc, qBf]
 | x :: L => by
  unfold inc
  split
  ·rename_i h
   simp only [qBf]
   rw [h, Nat.pow_succ]
   rw [Nat.mul_comm (p ^ x.2) p, Nat.mul_assoc]
  ·simp only [qBf, qO9 p L]
   exact Nat.mul_left_comm _ _ _
set_option tactic.hygienic true in
theorem qOl (p : Nat) : ∀ (L : FL) (q : Nat), q ∈ (inc p L).map (·.1) ↔ q = p ∨ q ∈ L.map (·.1)
 | [], q => by simp [inc]
 | x :: L, q => by
  unfold inc
  split
  ·rename_i h
   simp only [List.map_cons, List.mem_cons, h]
   constructor
   ·rintro (h | h)
    ·exact .inl h
    ·exact .inr (.inr h)
   ·rintro (h | h | h)
    ·exact .inl h
    ·exact .inl h
    ·exact .inr h
  ·simp only [List.map_cons, List.mem_cons, qOl p L q]
   constructor
   ·rintro (h | h | h)
    ·exact .inr (.inl h)
    ·exact .inl h
    ·exact .inr (.inr h)
   ·rintro (h | h | h)
    ·exact .inr (.inl h)
    ·exact .inl h
    ·exact .inr (.inr h)
set_option tactic.hygienic true in
theorem qR0 (p : Nat) : ∀ {L : FL}, (L.map (·.1)).Nodup → ((inc p L).map (·.1)).Nodup
 | [], _ => by simp [inc]
 | x :: L, h => by
  have h' := List.nodup_cons.mp h
  unfold inc
  split
  ·rename_i e
   simp only [List.map_cons]
   rw [← e]
   exact h
  ·rename_i e
   simp only [List.map_cons]
   refine List.nodup_cons.mpr ⟨fun hm => ?_, qR0 p h'.2⟩
   rcases (qOl p L x.1).mp hm with e' | hm
   ·exact e e'
   ·exact h'.1 hm
theorem qMu {p : Nat} : ∀ {L : FL} {x : Nat × Nat}, x ∈ inc p L → (x.1 = p ∧ 1 ≤ x.2) ∨ x ∈ L
 | [], x, h => by
  have : x = (p, 1) := by simpa [inc] using h
  subst this
  exact .inl ⟨rfl, Nat.le_refl _⟩
 | y :: L, x, h => by
  unfold inc at h
  split at h
  ·rcases List.mem_cons.mp h with e | h
   ·subst e
    exact .inl ⟨rfl, by simp⟩
   ·exact .inr (List.mem_cons_of_mem _ h)
  ·rcases List.mem_cons.mp h with e | h
   ·subst e
    exact .inr (List.mem_cons_self ..)
   ·rcases qMu h with h | h
    ·exact .inl h
    ·exact .inr (List.mem_cons_of_mem _ h)
theorem Fac.inc {L : FL} {n p : Nat} (h : Fac L n) (hp : Prm p) : Fac (K41.inc p L) (p * n) where
 prm := fun x hx => by
  rcases qMu hx with ⟨e, _⟩ | hx
  ·rw [e]; exact hp
  ·exact h.prm x hx
 pos := fun x hx => by
  rcases qMu hx with ⟨_, e⟩ | hx
  ·exact e
  ·exact h.pos x hx
 nd := qR0 p h.nd
 eq := by rw [qO9, h.eq]
theorem qP8 : Fac [] 1 := ⟨by simp, by simp, by simp, rfl⟩
noncomputable def kvD (L : FL) : List (L2.Key × D) := L.map fun x => (.inl (x.1 : Int), .int (x.2 : Int))
theorem qSV (p : Nat) : ∀ L : FL, (qB8 (kvD L) (.inl (p : Int))).getD (.int 0) = .int (cnt p L : Int)
 | [] => rfl
 | x :: L => by
  have ih := qSV p L
  unfold cnt
  by_cases h : x.1 = p
  ·rw [if_pos h]
   have : qB8 (kvD (x :: L)) (.inl (p : Int)) = some (.int (x.2 : Int)) := by simp [qB8, kvD, h]
   rw [this]
   rfl
  ·rw [if_neg h]
   have hne : ¬ ((Sum.inl (x.1 : Int) : L2.Key) = Sum.inl (p : Int)) := fun e => h (by injection e with e; omega)
   have : qB8 (kvD (x :: L)) (.inl (p : Int)) = qB8 (kvD L) (.inl (p : Int)) := by simp only [qB8, kvD, List.map_cons, List.find?_cons, hne, decide_false]
   rw [this]
   exact ih
theorem qVu (p : Nat) (L : FL) : (kvD L).any (fun kv => decide (kv.1 = (.inl (p : Int) : L2.Key))) = true ↔ p ∈ L.map (·.1) := by
 simp only [kvD, List.any_map, List.any_eq_true, Function.comp, decide_eq_true_eq, List.mem_map]
 constructor
 ·rintro ⟨x, h1, h2⟩
  injection h2 with h2
  exact ⟨x, h1, by omega⟩
 ·rintro ⟨x, h1, h2⟩
  exact ⟨x, h1, by rw [h2]⟩
theorem qRw {p : Nat} {d : D} : ∀ {L : FL}, p ∉ L.map (·.1) → ((kvD L).map fun kv => if kv.1 = (.inl (p : Int) : L2.Key) then (kv.1, d) else kv) = kvD L
 | [], _ => rfl
 | x :: L, h => by
  simp only [List.map_cons, List.mem_cons, not_or] at h
  have hne : ¬ ((Sum.inl (x.1 : Int) : L2.Key) = Sum.inl (p : Int)) := fun e => h.1 (by injection e with e; omega)
  show (if (Sum.inl (x.1 : Int) : L2.Key) = Sum.inl (p : Int) then _ else _) :: ((kvD L).map _) = _
  rw [if_neg hne, qRw h.2]
  rfl
theorem qSC (p : Nat) : ∀ {L : FL}, (L.map (·.1)).Nodup → qLP (kvD L) (.inl (p : Int)) (.int ((cnt p L : Int) + 1)) = kvD (inc p L)
 | [], _ => rfl
 | x :: L, h => by
  have h' := List.nodup_cons.mp h
  have ih := qSC p h'.2
  by_cases e : x.1 = p
  ·have hin : ((kvD (x :: L)).any fun kv => decide (kv.1 = (.inl (p : Int) : L2.Key))) = true := (qVu p _).mpr (by simp [e])
   have hnot : p ∉ L.map (·.1) := e ▸ h'.1
   unfold qLP
   rw [if_pos hin]
   show (if (Sum.inl (x.1 : Int) : L2.Key) = Sum.inl (p : Int) then _ else _) :: ((kvD L).map _) = _
   rw [qRw hnot, if_pos (by rw [e])]
   simp [cnt, inc, e, kvD]
  ·have hne : ¬ ((Sum.inl (x.1 : Int) : L2.Key) = Sum.inl (p : Int)) := fun q => e (by injection q with q; omega)
   have hc : cnt p (x :: L) = cnt p L := by simp [cnt, e]
   have hi : inc p (x :: L) = x :: inc p L := by simp [inc, e]
   rw [hc, hi]
   have hany : ((kvD (x :: L)).any fun kv => decide (kv.1 = (.inl (p : Int) : L2.Key))) = ((kvD L).any fun kv => decide (kv.1 = (.inl (p : Int) : L2.Key))) := by
    show (decide ((Sum.inl (x.1 : Int) : L2.Key) = Sum.inl (p : Int)) || _) = _
    rw [decide_eq_false hne, Bool.false_or]
    rfl
   unfold qLP at ih ⊢
   rw [hany]
   show _ = (.inl (x.1 : Int), .int (x.2 : Int)) :: kvD (inc p L)
   rw [← ih]
   split
   ·show (if (Sum.inl (x.1 : Int) : L2.Key) = Sum.inl (p : Int) then _ else _) :: ((kvD L).map _) = _
    rw [if_neg hne]
   ·rfl
theorem qM8 : ∀ {L : FL}, (∀ x ∈ L, Prm x.1) → (∀ x ∈ L, 1 ≤ x.2) → 2 ^ L.length ≤ qBf L
 | [], _, _ => by simp [qBf]
 | x :: L, hp, ht => by
  have ih := qM8 (L := L) (fun y hy => hp y (List.mem_cons_of_mem _ hy)) (fun y hy => ht y (List.mem_cons_of_mem _ hy))
  have h1 := (hp x (List.mem_cons_self ..)).1
  have h2 := ht x (List.mem_cons_self ..)
  have h3 : 2 ≤ x.1 ^ x.2 := by
   obtain ⟨k, hk⟩ : ∃ k, x.2 = k + 1 := ⟨x.2 - 1, by omega⟩
   rw [hk, Nat.pow_succ]
   have : 1 ≤ x.1 ^ k := Nat.pow_pos (by omega)
   calc 2 ≤ 1 * x.1 := by omega
    _ ≤ x.1 ^ k * x.1 := Nat.mul_le_mul_right _ this
  show 2 ^ (L.length + 1) ≤ x.1 ^ x.2 * qBf L
  rw [Nat.pow_succ, Nat.mul_comm]
  exact Nat.mul_le_mul h3 ih
theorem Fac.short {L : FL} {n : Nat} (h : Fac L n) (hn : n ≤ 1000000000000) : L.length < 40 := by
 have h1 := qM8 h.prm h.pos
 rw [h.eq] at h1
 rcases Nat.lt_or_ge L.length 40 with g | g
 ·exact g
 ·have : 2 ^ 40 ≤ 2 ^ L.length := Nat.pow_le_pow_right (by omega) g
  omega
end K41
end
section
namespace K41
open PySem DL
noncomputable def itD (x : Nat × Nat) : D := .tup [.int (x.1 : Int), .int (x.2 : Int)]
theorem qAt {o : G2} {f g : DE} {env : qAI} {S S1 S2 : Sto} {a b : D} (h1 : f env S = .ok a S1) (h2 : g env S1 = .ok b S2) : d2 o f g env S = o a b S2 := by
 unfold d2
 rw [h1]
 simp only [Res.bind]
 rw [h2]
theorem qOf (L : FL) (p : Nat) (S : Sto) (env : qAI) (i j n : Nat) (hj : env[j]? = some (some (.loc n))) (hi : env[i]? = some (some (.int (p : Int)))) (hS : S[n]? = some (.dct (kvD L))) (nd : (L.map (·.1)).Nodup) (hl : L.length < 4000) :
  qAs (d2 qAx (dBm "dict" qIg (qAD j) (qAA (qAD i) (qAA (dC (.int 0)) (qAE)))) (dC (.int 1))) (gSb (qAD j) (qAD i) qDX) env S = .nx env (S.set n (.dct (kvD (inc p L)))) := by
 have hty : tyD (.loc n) S = some "dict" := by simp [tyD, hS]
 have hg : qIg (.loc n) [.int (p : Int), .int 0] S = .ok (.int (cnt p L : Int)) S := by
  simp only [qIg, hS, qK7]
  rw [qSV]
 have hlim : (kvD L).length < lim := by
  simp only [kvD, List.length_map]
  unfold lim
  omega
 have hs : qDX (.loc n) (.int (p : Int)) (.int ((cnt p L : Int) + 1)) S = .ok () (S.set n (.dct (kvD (inc p L)))) := by
  simp only [qDX, hS, qK7, hlim, if_true, qSC p nd]
 simp only [qAs, d2, dBm, qAD, hj, hi, Res.bind, hty, beq_self_eq_true, if_true, qAA, qAE, dC, hg, qCa, gSb, hs, Res.toS]
theorem qT2 (a b c : Nat) (S : Sto) (env : qAI) (i j : Nat) (hi : env[i]? = some (some (.int (a : Int)))) (hj : env[j]? = some (some (.int (b : Int)))) (ha : a < 1000000000) : dTr (d2 gLe (d2 qAq (qAD i) (qAD i)) (qAD j)) env S = .ok (decide (a * a ≤ b)) S := by
 have h1 := qFF (a : Int) (a : Int) S ⟨by omega, by omega⟩
 have e : decide ((a : Int) * (a : Int) ≤ (b : Int)) = decide (a * a ≤ b) := by
  rw [Bool.eq_iff_iff, decide_eq_true_eq, decide_eq_true_eq]
  constructor
  ·intro h; exact_mod_cast h
  ·intro h; exact_mod_cast h
 simp only [dTr, d2, qAD, hi, hj, Res.bind, h1, gLe, i2, if_true, qJx, DL.qFr, e]
theorem qRy (a b : Nat) (S : Sto) (env : qAI) (i j : Nat) (hi : env[i]? = some (some (.int (a : Int)))) (hj : env[j]? = some (some (.int (b : Int)))) (hb : 0 < b) : dTr (d2 gEq (d2 qCP (qAD i) (qAD j)) (dC (.int 0))) env S = .ok (decide (b ∣ a)) S := by
 have h1 := qDW (a : Int) (b : Int) S (by omega)
 have e : decide ((a : Int) % (b : Int) = 0) = decide (b ∣ a) := by
  rw [Bool.eq_iff_iff, decide_eq_true_eq, decide_eq_true_eq]
  rw [Nat.dvd_iff_mod_eq_zero]
  omega
 simp only [dTr, d2, qAD, hi, hj, dC, Res.bind, h1, qB3, qJx, DL.qFr, e]
theorem qSA {d n : Nat} (hd : 2 ≤ d) (h : d ∣ n) (hm : ∀ e, 2 ≤ e → e < d → ¬ e ∣ n) : Prm d := ⟨hd, fun e he => by
 have hle := Nat.le_of_dvd (by omega) he
 have hpos : 0 < e := Nat.pos_of_dvd_of_pos he (by omega)
 rcases Nat.lt_or_ge e 2 with g | g
 ·left; omega
 ·rcases Nat.lt_or_ge e d with g2 | g2
  ·exact absurd (Nat.dvd_trans he h) (hm e g g2)
  ·right; omega⟩
theorem qIm {d n : Nat} (hn : 2 ≤ n) (h : n < d * d) (hm : ∀ e, 2 ≤ e → e < d → ¬ e ∣ n) : Prm n := ⟨hn, fun e he => by
 have hle := Nat.le_of_dvd (by omega) he
 have hpos : 0 < e := Nat.pos_of_dvd_of_pos he (by omega)
 obtain ⟨f, hf⟩ := he
 by_cases h1 : e = 1
 ·exact .inl h1
 ·by_cases h2 : f = 1
  ·right; rw [hf, h2, Nat.mul_one]
  ·exfalso
   have hf0 : 0 < f := by
    rcases Nat.eq_zero_or_pos f with g | g
    ·rw [g] at hf; omega
    ·exact g
   have ge : d ≤ e := by
    rcases Nat.lt_or_ge e d with g | g
    ·exact absurd ⟨f, hf⟩ (hm e (by omega) g)
    ·exact g
   have gf : d ≤ f := by
    rcases Nat.lt_or_ge f d with g | g
    ·exact absurd ⟨e, by rw [hf, Nat.mul_comm]⟩ (hm f (by omega) g)
    ·exact g
   have := Nat.mul_le_mul ge gf
   omega⟩
theorem qQc (S : Sto) (m m' : MO) : (S ++ [m]).set S.length m' = S ++ [m'] := by simp
theorem qED (L : FL) (S : Sto) (env : qAI) (h1 : env[1]? = some (some (.loc S.length))) : qHr (qAD 1) env (S ++ [.dct (kvD L)]) = .ok (.lst (L.map itD)) (S ++ [.dct (kvD L)]) := by
 have hat : (S ++ [MO.dct (kvD L)])[S.length]? = some (.dct (kvD L)) := by simp
 have e : ((kvD L).map fun p => D.tup [kD p.1, p.2]) = L.map itD := by
  unfold kvD
  rw [List.map_map]
  rfl
 simp only [qHr, qAD, h1, Res.bind, hat, e]
inductive IvPrimes (n : Nat) (S : Sto) (m : Nat) (env : qAI) (S' : Sto) : Prop
 | mk (L : FL) (a rest dv : Nat) (h_0 : m = 2 * (rest + 1) - dv) (h_1 : env = [some (.int (n : Int)), some (.loc S.length), some (.int (rest : Int)), some (.int (dv : Int))]) (h_2 : S' = S ++ [.dct (kvD L)]) (h_3 : Fac L a) (h_4 : a * rest = n) (h_5 : 1 ≤ rest) (h_6 : 2 ≤ dv) (h_7 : dv ≤ 1000002) (h_8 : (dv = 2 ∨ dv % 2 = 1)) (h_9 : ∀ d, 2 ≤ d → d < dv → ¬ d ∣ rest) : IvPrimes n S m env S'
theorem qTY (n : Nat) (S : Sto) (hn : 1 ≤ n ∧ n ≤ 1000000000000) : ∃ (L : FL) (S' : Sto), qDr [.int (n : Int)] S = .ok (.lst (L.map itD)) S' ∧ Fac L n ∧ S <+: S' := by
 have key : Rt (qDv [some (.int (n : Int)), none, none, none] S) fun d S' => ∃ L : FL, d = .lst (L.map itD) ∧ Fac L n ∧ S <+: S' := by
  unfold qDv
  refine qA1 (qBR (qBC (d := .loc S.length) (S := S ++ [.dct []]) rfl ?_))
  refine qA1 (qBR (qBC (d := .int (n : Int)) (S := S ++ [.dct []]) rfl ?_))
  refine qA1 (qBR (qBC (d := .int 2) (S := S ++ [.dct []]) rfl ?_))
  simp only [List.set_cons_succ, List.set_cons_zero]
  refine qA1 ?_
  have hbig : 2 * (n + 1) < big := by rw [qJO]; omega
  refine qGq (IvPrimes n S) ?_ (n := 2 * (n + 1) - 2) (by omega) ?_
  ·rintro m env S' ⟨L, a, rest, dv, rfl, rfl, rfl, hF, har, hr, hd2, hdm, hpar, hmin⟩
   have hrn : rest ≤ n := by
    have : rest ∣ n := ⟨a, by rw [Nat.mul_comm]; exact har.symm⟩
    exact Nat.le_of_dvd (by omega) this
   have han : a ≤ n := Nat.le_of_dvd (by omega) ⟨rest, har.symm⟩
   have hs := hF.short (by omega)
   refine ⟨decide (dv * dv ≤ rest), S ++ [.dct (kvD L)], qT2 dv rest 0 _ _ 3 2 rfl rfl (by omega), ?_⟩
   by_cases ht : dv * dv ≤ rest
   ·rw [decide_eq_true ht]
    simp only [if_true]
    have hdr : dv ≤ rest := Nat.le_trans (Nat.le_mul_of_pos_left dv (by omega)) ht
    have hd6 : dv ≤ 1000000 := by
     rcases Nat.lt_or_ge 1000000 dv with g | g
     ·have : 1000001 * 1000001 ≤ dv * dv := Nat.mul_le_mul g g
      omega
     ·exact g
    refine qCR (b := decide (dv ∣ rest)) (S1 := S ++ [.dct (kvD L)]) (qRy rest dv _ _ 2 3 rfl rfl (by omega)) ?_
    by_cases hdv : dv ∣ rest
    ·rw [decide_eq_true hdv]
     simp only [if_true]
     have hat : (S ++ [MO.dct (kvD L)])[S.length]? = some (.dct (kvD L)) := by simp
     have i1 := qOf L dv (S ++ [.dct (kvD L)]) [some (.int (n : Int)), some (.loc S.length), some (.int (rest : Int)), some (.int (dv : Int))] 3 1 S.length rfl rfl hat hF.nd (by omega)
     rw [qQc] at i1
     refine qB9 (qBB i1 ?_)
     obtain ⟨r', hr'⟩ := hdv
     have hr0 : 0 < r' := by
      rcases Nat.eq_zero_or_pos r' with g | g
      ·rw [g] at hr'; omega
      ·exact g
     have hdiv := qMb (rest : Int) (dv : Int) (S ++ [.dct (kvD (inc dv L))]) ⟨by omega, by omega⟩
     have hq : (rest : Int) / (dv : Int) = (r' : Int) := by
      have : rest / dv = r' := by rw [hr']; exact Nat.mul_div_cancel_left _ (by omega)
      omega
     rw [hq] at hdiv
     refine qBB (env := [some (.int (n : Int)), some (.loc S.length), some (.int (r' : Int)), some (.int (dv : Int))]) (S := S ++ [.dct (kvD (inc dv L))]) (by simp! [hdiv]) ?_
     have hp := qSA hd2 ⟨r', hr'⟩ hmin
     refine ⟨2 * (r' + 1) - dv, ?_, inc dv L, dv * a, r', dv, rfl, rfl, rfl, hF.inc hp, ?_, hr0, hd2, hdm, hpar, fun d h1 h2 h3 => hmin d h1 h2 (hr' ▸ Nat.dvd_mul_left_of_dvd h3 _)⟩
     ·have : 2 * r' ≤ rest := by
       rw [hr']
       exact Nat.mul_le_mul_right _ hd2
      omega
     ·rw [← har, hr']
      rw [Nat.mul_comm dv a, Nat.mul_assoc]
    ·rw [decide_eq_false hdv]
     simp only [Bool.false_eq_true, if_false]
     by_cases h2 : dv = 2
     ·subst h2
      refine qBB (env := [some (.int (n : Int)), some (.loc S.length), some (.int (rest : Int)), some (.int ((3 : Nat) : Int))]) (S := S ++ [.dct (kvD L)]) (by simp! [qB3]) ?_
      refine ⟨2 * (rest + 1) - 3, by omega, L, a, rest, 3, rfl, rfl, rfl, hF, har, hr, by omega, by omega, by omega, fun d h1 h3 h4 => ?_⟩
      have : d = 2 := by omega
      subst this
      exact hdv h4
     ·have hne : ¬ ((dv : Int) = 2) := by omega
      refine qBB (env := [some (.int (n : Int)), some (.loc S.length), some (.int (rest : Int)), some (.int ((dv + 2 : Nat) : Int))]) (S := S ++ [.dct (kvD L)]) (by simp! [qB3, hne]) ?_
      refine ⟨2 * (rest + 1) - (dv + 2), by omega, L, a, rest, dv + 2, rfl, rfl, rfl, hF, har, hr, by omega, by omega, by omega, fun d h1 h3 h4 => ?_⟩
      rcases Nat.lt_or_ge d dv with g | g
      ·exact hmin d h1 g h4
      ·by_cases g2 : d = dv
       ·subst g2; exact hdv h4
       ·have g3 : d = dv + 1 := by omega
        have h5 : 2 ∣ d := by omega
        exact hmin 2 (by omega) (by omega) (Nat.dvd_trans h5 h4)
   ·rw [decide_eq_false ht]
    simp only [Bool.false_eq_true, if_false]
    by_cases h1 : rest = 1
    ·subst h1
     refine qA1 (qCR (b := false) (S1 := S ++ [.dct (kvD L)]) (by simp! [Res.bind]) (qBB (env := [some (.int (n : Int)), some (.loc S.length), some (.int ((1 : Nat) : Int)), some (.int (dv : Int))]) (S := S ++ [.dct (kvD L)]) rfl ?_))
     refine qFh (qBC (d := .lst (L.map itD)) (S := S ++ [.dct (kvD L)]) ?_ ⟨L, rfl, ?_, List.prefix_append _ _⟩)
     ·exact qED L S _ rfl
     ·rw [Nat.mul_one] at har
      exact har ▸ hF
    ·have hp := qIm (by omega : 2 ≤ rest) (by omega) hmin
     have hgt : (1 : Int) < (rest : Int) := by omega
     have hat : (S ++ [MO.dct (kvD L)])[S.length]? = some (.dct (kvD L)) := by simp
     have i1 := qOf L rest (S ++ [.dct (kvD L)]) [some (.int (n : Int)), some (.loc S.length), some (.int (rest : Int)), some (.int (dv : Int))] 2 1 S.length rfl rfl hat hF.nd (by omega)
     rw [qQc] at i1
     refine qA1 (qCR (b := true) (S1 := S ++ [.dct (kvD L)]) (by simp! [hgt]) ?_)
     simp only [if_true]
     refine qBB i1 ?_
     refine qFh (qBC (d := .lst ((inc rest L).map itD)) (S := S ++ [.dct (kvD (inc rest L))]) ?_ ⟨inc rest L, rfl, ?_, List.prefix_append _ _⟩)
     ·exact qED (inc rest L) S _ rfl
     ·have := hF.inc hp
      rw [Nat.mul_comm, har] at this
      exact this
  ·exact ⟨[], 1, n, 2, rfl, rfl, rfl, qP8, by omega, hn.1, by omega, by omega, .inl rfl, fun d h1 h2 => by omega⟩
 obtain ⟨d, S', e, L, rfl, h1, h2⟩ := key
 exact ⟨L, S', by rw [qHm]; exact qDP rfl e, h1, h2⟩
end K41
end
section
namespace K41
open PySem DL
noncomputable def qFj : DS := sIf (dTr (d2 gEq (d2 qCP (qAD 2) (dC (.int 4))) (dC (.int 1)))) (qLS 1 qAq (d2 qAx (qAD 3) (dC (.int 1)))) (sIf (qEW (dTr (d2 gEq (d2 qCP (qAD 2) (dC (.int 4))) (dC (.int 3)))) (dTr (d2 gEq (d2 qCP (qAD 3) (dC (.int 2))) (dC (.int 1))))) (qAl (dC (.int 0))) (qAz))
noncomputable def qIi : DG := gTp 2 (qBX (gNm 2) (qBX (gNm 3) (qD5)))
theorem qX6 : qCS = qAW (qAs (dC (.int 4)) (gNm 1)) (qAW (qCr (qCO (qAD 0)) qIi qFj) (qAl (qAD 1))) := rfl
theorem qUo (a : Option D) (m p t : Int) (S : Sto) (hm : 0 ≤ m ∧ m ≤ 4000000000000) (hp : 0 ≤ p) (ht : 0 ≤ t) :
  qFj [a, some (.int m), some (.int p), some (.int t)] S = (if p % 4 = 1 then .nx [a, some (.int (m * (t + 1))), some (.int p), some (.int t)] S else if p % 4 = 3 ∧ t % 2 = 1 then .rt (.int 0) S else .nx [a, some (.int m), some (.int p), some (.int t)] S) := by
 have h1 := qDW p 4 S (by omega)
 have h2 := qDW t 2 S (by omega)
 have h3 := qFF m (t + 1) S ⟨by omega, by omega⟩
 unfold qFj
 by_cases e1 : p % 4 = 1
 ·simp! [h1, qB3, e1, h3, qCa]
 ·by_cases e2 : p % 4 = 3
  ·by_cases e3 : t % 2 = 1
   ·simp! [h1, h2, qB3, e2, e3]
   ·simp! [h1, h2, qB3, e2, e3]
  ·simp! [h1, qB3, e1, e2]
theorem qR9 (p t : Nat) (hp : 2 ≤ p) : t + 1 ≤ p ^ t := by
 induction t with
 | zero => simp
 | succ t ih =>
  rw [Nat.pow_succ]
  have := Nat.mul_le_mul ih hp
  omega
theorem qLG (a : Option D) (S : Sto) : ∀ (L : FL) (m : Nat) (e2 e3 : Option D), (∀ x ∈ L, Prm x.1) → m * qBf L ≤ 4000000000000 →
  (∃ e2' e3', qCD qIi qFj (L.map itD) [a, some (.int (m : Int)), e2, e3] S = .nx [a, some (.int ((m : Int) * sgn L)), e2', e3'] S) ∨ (qCD qIi qFj (L.map itD) [a, some (.int (m : Int)), e2, e3] S = .rt (.int 0) S ∧ sgn L = 0)
 | [], m, e2, e3, _, _ => .inl ⟨e2, e3, by simp [qCD, sgn]⟩
 | x :: L, m, e2, e3, hp, hb => by
  have hx := (hp x (List.mem_cons_self ..)).1
  have hp' : ∀ y ∈ L, Prm y.1 := fun y hy => hp y (List.mem_cons_of_mem _ hy)
  have hpos : 1 ≤ qBf L := by
   have : ∀ M : FL, (∀ y ∈ M, Prm y.1) → 1 ≤ qBf M := by
    intro M
    induction M with
    | nil => intro _; exact Nat.le_refl _
    | cons y M ih =>
     intro h
     have h1 := ih fun z hz => h z (List.mem_cons_of_mem _ hz)
     have h2 : 1 ≤ y.1 ^ y.2 := Nat.pow_pos (by have := (h y (List.mem_cons_self ..)).1; omega)
     exact Nat.mul_le_mul h2 h1
   exact this L hp'
  have hpw := qR9 x.1 x.2 hx
  have hb' : m * (x.1 ^ x.2 * qBf L) ≤ 4000000000000 := hb
  have hq : 1 ≤ x.1 ^ x.2 * qBf L := Nat.mul_le_mul (show 1 ≤ x.1 ^ x.2 by omega) hpos
  have hm : m ≤ 4000000000000 := Nat.le_trans (Nat.le_mul_of_pos_right m hq) hb'
  have hg : qIi (itD x) [a, some (.int (m : Int)), e2, e3] S = .ok [a, some (.int (m : Int)), some (.int (x.1 : Int)), some (.int (x.2 : Int))] S := rfl
  have hf := qUo a (m : Int) (x.1 : Int) (x.2 : Int) S ⟨by omega, by omega⟩ (by omega) (by omega)
  have hstep : qCD qIi qFj ((x :: L).map itD) [a, some (.int (m : Int)), e2, e3] S = (match qFj [a, some (.int (m : Int)), some (.int (x.1 : Int)), some (.int (x.2 : Int))] S with
   | .nx env2 S2 => qCD qIi qFj (L.map itD) env2 S2
   | .ct env2 S2 => qCD qIi qFj (L.map itD) env2 S2
   | .bk env2 S2 => .nx env2 S2
   | o => o) := by
   rw [List.map_cons]
   conv => lhs; unfold qCD
   simp only [hg, Res.toS] <;> cases qFj [a, some (.int (m : Int)), some (.int (x.1 : Int)), some (.int (x.2 : Int))] S <;> rfl
  rw [hstep, hf]
  by_cases e1 : x.1 % 4 = 1
  ·have e1' : (x.1 : Int) % 4 = 1 := by omega
   rw [if_pos e1']
   have hsg : sg x = (x.2 : Int) + 1 := by unfold sg; rw [if_pos e1]
   have hcast : ((m : Int) * ((x.2 : Int) + 1)) = ((m * (x.2 + 1) : Nat) : Int) := by simp
   rw [hcast]
   have hb2 : m * (x.2 + 1) * qBf L ≤ 4000000000000 := by
    refine Nat.le_trans ?_ hb'
    rw [Nat.mul_assoc]
    exact Nat.mul_le_mul_left _ (Nat.mul_le_mul_right _ hpw)
   rcases qLG a S L (m * (x.2 + 1)) (some (.int (x.1 : Int))) (some (.int (x.2 : Int))) hp' hb2 with ⟨u, v, h⟩ | ⟨h, h0⟩
   ·refine .inl ⟨u, v, ?_⟩
    simp only [h, sgn, hsg]
    rw [← hcast, Int.mul_assoc]
   ·refine .inr ⟨h, ?_⟩
    simp only [sgn, h0, Int.mul_zero]
  ·have e1' : ¬ (x.1 : Int) % 4 = 1 := by omega
   rw [if_neg e1']
   by_cases e2 : x.1 % 4 = 3 ∧ x.2 % 2 = 1
   ·have e2' : (x.1 : Int) % 4 = 3 ∧ (x.2 : Int) % 2 = 1 := by omega
    rw [if_pos e2']
    refine .inr ⟨rfl, ?_⟩
    have : sg x = 0 := by unfold sg; rw [if_neg e1, if_pos e2]
    simp only [sgn, this, Int.zero_mul]
   ·have e2' : ¬ ((x.1 : Int) % 4 = 3 ∧ (x.2 : Int) % 2 = 1) := by omega
    rw [if_neg e2']
    have hsg : sg x = 1 := by unfold sg; rw [if_neg e1, if_neg e2]
    have hb2 : m * qBf L ≤ 4000000000000 := by
     refine Nat.le_trans (Nat.mul_le_mul_left _ ?_) hb'
     exact Nat.le_mul_of_pos_left _ (show 0 < x.1 ^ x.2 by omega)
    rcases qLG a S L m (some (.int (x.1 : Int))) (some (.int (x.2 : Int))) hp' hb2 with ⟨u, v, h⟩ | ⟨h, h0⟩
    ·refine .inl ⟨u, v, ?_⟩
     simp only [h, sgn, hsg, Int.one_mul]
    ·refine .inr ⟨h, ?_⟩
     simp only [sgn, h0, Int.mul_zero]
theorem qYp (L : FL) (n : Nat) (S : Sto) (h : Fac L n) (hn : n ≤ 1000000000000) : qBz [.lst (L.map itD)] S = .ok (.int (4 * sgn L)) S := by
 rw [qEH, qX6]
 have hs : qD2 4 [.lst (L.map itD)] = [some (.lst (L.map itD)), none, none, none] := rfl
 have hi : qCO (qAD 0) [some (.lst (L.map itD)), some (.int 4), none, none] S = .ok (L.map itD) S := rfl
 rcases qLG (some (.lst (L.map itD))) S L 4 none none h.prm (by rw [h.eq]; omega) with ⟨u, v, e⟩ | ⟨e, e0⟩
 ·have e' : qCD qIi qFj (L.map itD) [some (.lst (L.map itD)), some (.int 4), none, none] S = _ := e
  unfold qAd
  rw [hs]
  simp only [qAW, qAs, dC, gNm, Res.toS, qCr, List.set_cons_succ, List.set_cons_zero, hi, e', qAl, qAD, List.getElem?_cons_zero, List.getElem?_cons_succ, qTN]
  rfl
 ·have e' : qCD qIi qFj (L.map itD) [some (.lst (L.map itD)), some (.int 4), none, none] S = _ := e
  unfold qAd
  rw [hs]
  simp only [qAW, qAs, dC, gNm, Res.toS, qCr, List.set_cons_succ, List.set_cons_zero, hi, e', qAl, qAD, qTN, e0]
  rfl
theorem qPF (n : Nat) (S : Sto) (M : FL) (hM : Fac M n) (hn : 1 ≤ n ∧ n ≤ 1000000000000) : ∃ S', qBk [.int (n : Int)] S = .ok (.int (4 * sgn M)) S' ∧ S <+: S' := by
 obtain ⟨L, S', e, hL, hp⟩ := qTY n S hn
 have h2 := qYp L n S' hL hn.2
 rw [qVi hL hM] at h2
 refine ⟨S', ?_, hp⟩
 rw [qFX]
 unfold qDK
 refine qVh (env := [some (.int (n : Int))]) rfl ?_
 simp only [qAK, qAA, qAE, qAD, List.getElem?_cons_zero, Res.bind, List.length_cons, List.length_nil, if_true, e, h2]
theorem qEf (S : Sto) : qB5 (.int 10) (.int 12) S = .ok (.int 1000000000000) S := rfl
theorem qYq (n : Nat) (S : Sto) (c : Cl) (M : FL) (hM : Fac M n) (hn : 1 ≤ n ∧ n ≤ 1000000000000) : ∃ S', qCx c [.int (n : Int)] S = .ok (.bl (decide (0 < 4 * sgn M))) S' ∧ S <+: S' := by
 obtain ⟨S', e, hp⟩ := qPF n S M hM hn
 have h1 := qPH (n : Int) 0 1000000000000 S c ⟨by omega, by omega⟩
 have h0 : ¬ (n = 0) := by omega
 refine ⟨S', ?_, hp⟩
 rw [qFQ]
 unfold qFD
 simp! [h1, qEf, qB3, h0, e]
theorem qXm (S : Sto) (c : Cl) : qCx c [.int 0] S = .ok (.bl true) S := by
 have h1 := qPH 0 0 1000000000000 S c ⟨by omega, by omega⟩
 rw [qFQ]
 unfold qFD
 simp! [h1, qEf, qB3]
theorem qZU (n : Nat) (S : Sto) (c : Cl) (M : FL) (hM : Fac M n) (hn : 1 ≤ n ∧ n ≤ 1000000000000) : ∃ S', qCE c [.int (n : Int)] S = .ok (.int (4 * sgn M)) S' ∧ S <+: S' := by
 obtain ⟨S', e, hp⟩ := qPF n S M hM hn
 have h1 := qPH (n : Int) 1 1000000000000 S c ⟨by omega, by omega⟩
 refine ⟨S', ?_, hp⟩
 rw [qFB]
 unfold qDu
 simp! [h1, qEf, e]
theorem qR3 (d : D) (S : Sto) (c : Cl) (h : qIY 0 1000000000000 d) : qCx c [d] S = .ex (.ref c.NoNumber) .non S := by
 have h1 := qNa d 0 1000000000000 S c (kd) h
 rw [qFQ]
 unfold qFD
 simp! [h1, qEf]
theorem qT6 (d : D) (S : Sto) (c : Cl) (h : qIY 1 1000000000000 d) : qCE c [d] S = .ex (.ref c.NoNumber) .non S := by
 have h1 := qNa d 1 1000000000000 S c (kd) h
 rw [qFB]
 unfold qDu
 simp! [h1, qEf]
theorem qSP (Fs : List (Nat × DF)) (F : DF) (k : Int) (a : D) (S : Sto) (h : L2.atI Fs k = some (1, F)) : qMT Fs (qAD 0) (qAA (qAD 1) (qAE)) [some (.int k), some a, none] S = F [a] S := by
 simp only [qMT, qAD, qAA, qAE, List.getElem?_cons_zero, List.getElem?_cons_succ, Res.bind, h, List.length_cons, List.length_nil, if_true]
theorem qMR (c : Cl) (k : Int) (a d : D) (S S' : Sto) (F : DF) (hk : L2.atI [(1, (qCx c)), (1, (qCE c))] k = some (1, F)) (h : F [a] S = .ok d S') : qAh c [.int k, a] S = .ok d S' := by
 rw [qE9]
 unfold qDs
 refine qDP (env := [some (.int k), some a, none]) rfl ?_
 have e := qSP _ F k a S hk
 rw [h] at e
 simp only [qM6, qAl, e, Res.toS]
theorem qJ0 (c : Cl) (nd : (qCC c).Nodup) (k : Int) (a : D) (S S' : Sto) (F : DF) (hk : L2.atI [(1, (qCx c)), (1, (qCE c))] k = some (1, F)) (h : F [a] S = .ex (.ref c.NoNumber) .non S') : qAh c [.int k, a] S = .ok (.str "number") S' := by
 rw [qE9]
 unfold qDs
 refine qDP (env := [some (.int k), some a, none]) rfl ?_
 have e := qSP _ F k a S hk
 rw [h] at e
 have hc : (caught c).contains (.ref c.NoNumber) = true := by
  rw [List.contains_iff_mem]
  simp [caught]
 have hk2 := qMD c nd S'
 simp only [qM6, qAl, e, Res.toS, hc, if_true]
 simp! [hk2]
end K41
end
section
namespace K41
open PySem DL
noncomputable def chi (n : Nat) : Int := if n % 4 = 1 then 1 else if n % 4 = 3 then -1 else 0
theorem qP1 (a b : Nat) : chi (a * b) = chi a * chi b := by
 have h : (a * b) % 4 = ((a % 4) * (b % 4)) % 4 := Nat.mul_mod a b 4
 unfold chi
 rw [h]
 have ha : a % 4 = 0 ∨ a % 4 = 1 ∨ a % 4 = 2 ∨ a % 4 = 3 := by omega
 have hb : b % 4 = 0 ∨ b % 4 = 1 ∨ b % 4 = 2 ∨ b % 4 = 3 := by omega
 rcases ha with ha | ha | ha | ha <;> rcases hb with hb | hb | hb | hb <;> rw [ha, hb] <;> decide
noncomputable def qCi : List Nat → Int
 | [] => 0
 | x :: F => chi x + qCi F
theorem qKa (F G : List Nat) : qCi (F ++ G) = qCi F + qCi G := by
 induction F with
 | nil => simp [qCi]
 | cons x F ih => simp only [List.cons_append, qCi, ih]; omega
noncomputable def geo (x p : Nat) : Nat → List Nat
 | 0 => []
 | k + 1 => geo x p k ++ [x * p ^ k]
theorem qMc (x p : Nat) : ∀ k, (geo x p k).length = k
 | 0 => rfl
 | k + 1 => by simp [geo, qMc x p k]
theorem qP2 (p : Nat) : ∀ k, chi (p ^ (k + 1)) = if p % 4 = 1 then 1 else if p % 4 = 3 then (if k % 2 = 0 then -1 else 1) else 0
 | 0 => by
  simp only [Nat.zero_add, Nat.pow_one, Nat.zero_mod, if_true]
  rfl
 | k + 1 => by
  rw [Nat.pow_succ, qP1, qP2 p k]
  unfold chi
  by_cases h1 : p % 4 = 1
  ·simp [h1]
  ·by_cases h3 : p % 4 = 3
   ·rcases (by omega : k % 2 = 0 ∨ k % 2 = 1) with h | h
    ·have : (k + 1) % 2 = 1 := by omega
     simp [h3, h, this]
    ·have : (k + 1) % 2 = 0 := by omega
     simp [h3, h, this]
   ·simp [h1, h3]
theorem qOK (x p : Nat) : ∀ t, qCi (geo x p (t + 1)) = chi x * sg (p, t)
 | 0 => by
  have : sg (p, 0) = 1 := by
   unfold sg
   simp
  rw [this]
  simp [geo, qCi]
 | t + 1 => by
  have ih := qOK x p t
  show qCi (geo x p (t + 1) ++ [x * p ^ (t + 1)]) = _
  rw [qKa, ih]
  simp only [qCi, Int.add_zero, qP1]
  rw [← Int.mul_add]
  congr 1
  rw [qP2]
  unfold sg
  dsimp only
  by_cases h1 : p % 4 = 1
  ·simp only [h1, if_true]
   omega
  ·by_cases h3 : p % 4 = 3
   ·rcases (by omega : t % 2 = 0 ∨ t % 2 = 1) with h | h
    ·have : (t + 1) % 2 = 1 := by omega
     simp [h3, h, this]
    ·have : (t + 1) % 2 = 0 := by omega
     simp [h3, h, this]
   ·simp [h1, h3]
noncomputable def qEG (p t : Nat) (F : List Nat) : List Nat := F.flatMap fun x => geo x p (t + 1)
theorem qNP (p t : Nat) : ∀ F, qCi (qEG p t F) = qCi F * sg (p, t)
 | [] => by simp [qEG, qCi]
 | x :: F => by
  have ih := qNP p t F
  unfold qEG at ih ⊢
  rw [List.flatMap_cons, qKa, ih, qOK]
  simp only [qCi]
  rw [Int.add_mul]
theorem qLc (p t : Nat) : ∀ F, (qEG p t F).length = F.length * (t + 1)
 | [] => by simp [qEG]
 | x :: F => by
  have ih := qLc p t F
  unfold qEG at ih ⊢
  rw [List.flatMap_cons, List.length_append, ih, qMc, List.length_cons, Nat.succ_mul]
  omega
theorem qUq {x p k y : Nat} : y ∈ geo x p k → ∃ j, j < k ∧ y = x * p ^ j := by
 induction k with
 | zero => intro h; simp [geo] at h
 | succ k ih =>
  intro h
  rcases List.mem_append.mp (show y ∈ geo x p k ++ [x * p ^ k] from h) with h | h
  ·obtain ⟨j, h1, h2⟩ := ih h
   exact ⟨j, by omega, h2⟩
  ·exact ⟨k, by omega, by simpa using h⟩
theorem qTl {p t y : Nat} {F : List Nat} (h : y ∈ qEG p t F) : ∃ x ∈ F, ∃ j, j ≤ t ∧ y = x * p ^ j := by
 obtain ⟨x, h1, h2⟩ := List.mem_flatMap.mp h
 obtain ⟨j, h3, h4⟩ := qUq h2
 exact ⟨x, h1, j, by omega, h4⟩
theorem qSj (F : List Nat) : qCi F = ((F.filter fun x => x % 4 == 1).length : Int) - ((F.filter fun x => x % 4 == 3).length : Int) := by
 induction F with
 | nil => rfl
 | cons x F ih =>
  simp only [qCi, ih, chi]
  by_cases h1 : x % 4 = 1
  ·have h3 : ¬ x % 4 = 3 := by omega
   simp [h1]
   omega
  ·by_cases h3 : x % 4 = 3
   ·simp [h3]
    omega
   ·simp [h1, h3]
noncomputable def nD (x : Nat) : D := .int (x : Int)
noncomputable def tot : FL → Nat
 | [] => 0
 | x :: L => x.2 + tot L
theorem qQf : ∀ {L : FL} {p t : Nat}, (L.map (·.1)).Nodup → (p, t) ∈ L → qB8 (kvD L) (.inl (p : Int)) = some (.int (t : Int))
 | x :: L, p, t, nd, h => by
  have nd' := List.nodup_cons.mp nd
  rcases List.mem_cons.mp h with e | h
  ·subst e
   simp [qB8, kvD]
  ·have hne : ¬ x.1 = p := fun e => nd'.1 (List.mem_map.mpr ⟨(p, t), h, e.symm⟩)
   have hne' : ¬ ((Sum.inl (x.1 : Int) : L2.Key) = Sum.inl (p : Int)) := fun e => hne (by injection e with e; omega)
   have : qB8 (kvD (x :: L)) (.inl (p : Int)) = qB8 (kvD L) (.inl (p : Int)) := by simp only [qB8, kvD, List.map_cons, List.find?_cons, hne', decide_false]
   rw [this]
   exact qQf nd'.2 h
noncomputable def fdL (L : FL) : D := .fd ((kvD L).map (·.1)) ((kvD L).map (·.2))
theorem qX5 (L : FL) : ((kvD L).map (·.1)).zip ((kvD L).map (·.2)) = kvD L := by
 induction L with
 | nil => rfl
 | cons x L ih =>
  show (_ :: _ : List (L2.Key × D)) = _
  exact congrArg _ ih
theorem qYP {L : FL} {p t : Nat} (S : Sto) (nd : (L.map (·.1)).Nodup) (h : (p, t) ∈ L) : qGY (fdL L) (.int (p : Int)) S = .ok (.int (t : Int)) S := by
 simp only [fdL, qGY, qK7, qX5, qQf nd h]
theorem qYt (n : Nat) (h : n ≤ 1000000) : qIp [.int (n : Int)] = some (qCq 0 (n : Int).toNat) := by
 unfold qIp
 have : -(2 ^ 62) ≤ (n : Int) ∧ (n : Int) < 2 ^ 62 := ⟨by omega, by omega⟩
 exact if_pos this
theorem qTZ (n : Nat) : qCq 0 (n : Int).toNat = (List.range n).map nD := by
 unfold qCq
 rw [Int.toNat_natCast]
 congr 1
 funext i
 unfold nD
 rw [Int.zero_add]
theorem qQY (n : Nat) (h : n ≤ 1000000) : qIp [.int (n : Int)] = some ((List.range n).map nD) := by
 rw [qYt n h, qTZ]
theorem qNc {β : Type} (b : β) (S : Sto) : DL.qFJ (some b) S = .ok b S := rfl
theorem qU0 (f : DE) (n : Nat) (env : qAI) (S : Sto) (h : n ≤ 1000000) (e : f env S = .ok (.int (n : Int)) S) : qEX (qAA f qAE) env S = .ok ((List.range n).map nD) S := by
 have e1 : qAA f qAE env S = .ok [.int (n : Int)] S := by unfold qAA qAE; rw [e]; rfl
 unfold qEX
 rw [e1, Res.bind_ok, qQY n h, qNc]
end K41
end
section
namespace K41
open PySem DL
noncomputable def At (d : D) (S : Sto) (F : List Nat) : Prop := d = .lst (F.map nD) ∨ ∃ j, d = .loc j ∧ S[j]? = some (.lst (F.map nD))
theorem qTv {d : D} {S : Sto} {F : List Nat} (h : At d S F) (env : qAI) (i : Nat) (hi : env[i]? = some (some d)) : ∃ o, dIt (qAD i) env S = .ok (o, F.map nD) S ∧ stn o S ∧ ∀ m, o = none ∨ (o = some m ∧ d = .loc m.1 ∧ S[m.1]? = some m.2) ∨ o ≠ some m := by
 rcases h with rfl | ⟨j, rfl, hj⟩
 ·refine ⟨none, ?_, trivial, fun m => .inl rfl⟩
  unfold dIt
  simp only [qAD, hi, Res.bind, DL.itD]
 ·refine ⟨some (j, .lst (F.map nD)), ?_, hj, fun m => ?_⟩
  ·unfold dIt
   simp only [qAD, hi, Res.bind, DL.itD, hj]
  ·by_cases e : some (j, MO.lst (F.map nD)) = some m
   ·injection e with e
    subst e
    exact .inr (.inl ⟨rfl, rfl, hj⟩)
   ·exact .inr (.inr e)
theorem qOx (i j : Int) (S : Sto) (h : 0 ≤ i ∧ i ≤ 1000000000000) : qAq (.int i) (.int j) S = .ok (.int (i * j)) S := qFF i j S ⟨by omega, by omega⟩
theorem qIl (p : Nat) (hp : 1 ≤ p) {i j : Nat} (h : i ≤ j) : p ^ i ≤ p ^ j := Nat.pow_le_pow_right hp h
inductive IvTurns (t x p m : Nat) (L : FL) (d : D) (acc : List Nat) (S : Sto) (ds : List D) (env : qAI) (S' : Sto) : Prop
 | mk (k : Nat) (e5 : Option D) (h_0 : k ≤ t + 1) (h_1 : ds.length = t + 1 - k) (h_2 : (k ≤ t → x * p ^ k ≤ 1000000000000)) (h_3 : env = [some (fdL L), some d, some (nD p), some (.loc m), some (nD (x * p ^ k)), e5]) (h_4 : S' = S ++ [.lst ((acc ++ geo x p k).map nD)]) : IvTurns t x p m L d acc S ds env S'
theorem qYz (L : FL) (d : D) (p t x : Nat) (m : Nat) (S0 : Sto) (acc : List Nat) (e5 : Option D) (hp : 1 ≤ p) (hb : x * p ^ t ≤ 1000000000000) (hl : acc.length + (t + 1) ≤ 4000) (S : Sto) (hm : S.length = m) (hpt : (p, t) ∈ L) (nd : (L.map (·.1)).Nodup) (ht : t ≤ 100) :
  Nx (qCr (qEX (qAA (d2 qAx (d2 qGY (qAD 0) (qAD 2)) (dC (.int 1))) (qAE))) (gNm 5) (qAW (qD7 (dBm "list" qCm (qAD 3) (qAA (qAD 4) (qAE)))) (qAs (d2 qAq (qAD 4) (qAD 2)) (gNm 4))) [some (fdL L), some d, some (nD p), some (.loc m), some (nD x), e5] (S ++ [.lst (acc.map nD)]))
   fun env S' => S' = S ++ [.lst ((acc ++ geo x p (t + 1)).map nD)] ∧ ∃ e4 e5, env = [some (fdL L), some d, some (nD p), some (.loc m), e4, e5] := by
 have hix := qYP (S ++ [.lst (acc.map nD)]) nd hpt
 have hr : qEX (qAA (d2 qAx (d2 qGY (qAD 0) (qAD 2)) (dC (.int 1))) (qAE)) [some (fdL L), some d, some (nD p), some (.loc m), some (nD x), e5] (S ++ [.lst (acc.map nD)]) = .ok ((List.range (t + 1)).map nD) (S ++ [.lst (acc.map nD)]) := by
  refine qU0 _ (t + 1) _ _ (by omega) ?_
  have h1 : d2 qGY (qAD 0) (qAD 2) [some (fdL L), some d, some (nD p), some (.loc m), some (nD x), e5] (S ++ [.lst (acc.map nD)]) = .ok (.int (t : Int)) (S ++ [.lst (acc.map nD)]) := (qAt rfl rfl).trans hix
  exact (qAt h1 rfl).trans (qCa _ _ _)
 refine qEc hr ?_
 refine qDa (IvTurns t x p m L d acc S) ?_ ?_ ?_
 ·rintro dd ds env S' ⟨k, e5, hk, hds, hbk, rfl, rfl⟩
  have hk' : k < t + 1 := by
   simp at hds
   omega
  refine ⟨[some (fdL L), some d, some (nD p), some (.loc m), some (nD (x * p ^ k)), some dd], _, rfl, ?_⟩
  have hat : (S ++ [MO.lst ((acc ++ geo x p k).map nD)])[m]? = some (.lst ((acc ++ geo x p k).map nD)) := by rw [← hm]; simp
  have hty : tyD (.loc m) (S ++ [MO.lst ((acc ++ geo x p k).map nD)]) = some "list" := by simp only [tyD, hat]
  have hap : qCm (.loc m) [nD (x * p ^ k)] (S ++ [MO.lst ((acc ++ geo x p k).map nD)]) = .ok .non (S ++ [MO.lst ((acc ++ geo x p (k + 1)).map nD)]) := by
   have hlim : ((acc ++ geo x p k).map nD).length < lim := by
    rw [List.length_map, List.length_append, qMc]
    unfold lim
    omega
   simp only [qCm, hat, hlim, if_true]
   congr 1
   rw [← hm]
   simp [geo]
  have hmul := qOx ((x * p ^ k : Nat) : Int) (p : Int) (S ++ [MO.lst ((acc ++ geo x p (k + 1)).map nD)]) ⟨by omega, by have := hbk (by omega); omega⟩
  refine qB9 (qVG (qBC (d := .non) (S := S ++ [MO.lst ((acc ++ geo x p (k + 1)).map nD)]) ?_ ?_))
  ·simp only [dBm, qAD, List.getElem?_cons_zero, List.getElem?_cons_succ, Res.bind, hty, beq_self_eq_true, if_true, qAA, qAE, hap]
  ·refine qBR (qBC (d := nD (x * p ^ (k + 1))) (S := S ++ [MO.lst ((acc ++ geo x p (k + 1)).map nD)]) ?_ ⟨k + 1, _, by omega, by simp at hds; omega, fun h => ?_, rfl, rfl⟩)
   ·refine (qAt (a := nD (x * p ^ k)) (b := nD p) rfl rfl).trans (hmul.trans ?_)
    have : ((x * p ^ k : Nat) : Int) * (p : Int) = ((x * p ^ (k + 1) : Nat) : Int) := by
     rw [Nat.pow_succ, ← Nat.mul_assoc]
     simp
    rw [this]
    rfl
   ·exact Nat.le_trans (Nat.mul_le_mul_left _ (qIl p hp h)) hb
 ·rintro env S' ⟨k, e5, hk, hds, hbk, rfl, rfl⟩
  have : k = t + 1 := by
   simp at hds
   omega
  subst this
  exact ⟨rfl, _, _, rfl⟩
 ·exact ⟨0, e5, by omega, by simp, fun _ => Nat.le_trans (Nat.mul_le_mul_left _ (qIl p hp (Nat.zero_le t))) hb, by simp, by simp [geo]⟩
end K41
namespace K41
open PySem DL
inductive IvOne (F : List Nat) (L : FL) (d : D) (p t : Nat) (S : Sto) (ds : List D) (env : qAI) (S' : Sto) : Prop
 | mk (done rest : List Nat) (e4 e5 : Option D) (h_0 : ds = rest.map nD) (h_1 : done ++ rest = F) (h_2 : env = [some (fdL L), some d, some (nD p), some (.loc S.length), e4, e5]) (h_3 : S' = S ++ [.lst ((qEG p t done).map nD)]) : IvOne F L d p t S ds env S'
theorem qR6 (L : FL) (d : D) (F : List Nat) (p t : Nat) (S : Sto) (e3 e4 e5 : Option D) (hd : At d S F) (hp : 1 ≤ p) (hb : ∀ x ∈ F, x * p ^ t ≤ 1000000000000) (hl : F.length * (t + 1) ≤ 4000) (hpt : (p, t) ∈ L) (nd : (L.map (·.1)).Nodup) (ht : t ≤ 100) :
  Nx (qAW (qAs (qJ2 (qAE)) (gNm 3)) (qAW (qIq (dIt (qAD 1)) (gNm 4) (qCr (qEX (qAA (d2 qAx (d2 qGY (qAD 0) (qAD 2)) (dC (.int 1))) (qAE))) (gNm 5) (qAW (qD7 (dBm "list" qCm (qAD 3) (qAA (qAD 4) (qAE)))) (qAs (d2 qAq (qAD 4) (qAD 2)) (gNm 4))))) (qAs (qAD 3) (gNm 1))) [some (fdL L), some d, some (nD p), e3, e4, e5] S)
   fun env S' => ∃ (d' : D) (e3 e4 e5 : Option D), env = [some (fdL L), some d', some (nD p), e3, e4, e5] ∧ At d' S' (qEG p t F) ∧ S <+: S' := by
 have l0 : 0 ≤ lim := by decide
 refine qB9 (qBR (qBC (d := .loc S.length) (S := S ++ [.lst []]) (by simp! [l0]) ?_))
 simp only [List.set_cons_succ, List.set_cons_zero]
 have hd' : ∀ m, At d (S ++ [m]) F := fun m => by
  rcases hd with h | ⟨j, h, hj⟩
  ·exact .inl h
  ·exact .inr ⟨j, h, qGH hj (List.prefix_append _ _)⟩
 obtain ⟨o, hit, hst, _⟩ := qTv (hd' (.lst [])) [some (fdL L), some d, some (nD p), some (.loc S.length), e4, e5] 1 rfl
 have hst' : ∀ m, stn o (S ++ [m]) := fun m => by
  rcases hd with rfl | ⟨j, rfl, hj⟩
  ·unfold dIt at hit
   simp only [qAD, List.getElem?_cons_zero, List.getElem?_cons_succ, Res.bind, DL.itD] at hit
   injection hit with e1 e2
   injection e1 with e1 e3
   subst e1
   trivial
  ·have hj2 := qGH hj (List.prefix_append S [MO.lst []])
   unfold dIt at hit
   simp only [qAD, List.getElem?_cons_zero, List.getElem?_cons_succ, Res.bind, DL.itD, hj2] at hit
   injection hit with e1 e2
   injection e1 with e1 e3
   subst e1
   exact qGH hj (List.prefix_append _ _)
 refine qB9 (qQO hit ?_)
 refine qLK (IvOne F L d p t S) ?_ ?_ ?_ ?_
 ·rintro ds env S' ⟨done, rest, e4, e5, _, _, rfl, rfl⟩
  exact hst' _
 ·rintro dd ds env S' ⟨done, rest, e4, e5, hds, hF, rfl, rfl⟩
  cases rest with
  | nil => cases hds
  | cons x rest =>
   injection hds with h1 h2
   subst h1 h2
   refine ⟨[some (fdL L), some d, some (nD p), some (.loc S.length), some (nD x), e5], _, rfl, ?_⟩
   have hx : x ∈ F := by rw [← hF]; simp
   have hlen : (qEG p t done).length + (t + 1) ≤ 4000 := by
    rw [qLc]
    have : done.length + 1 ≤ F.length := by rw [← hF]; simp
    have h2 := Nat.mul_le_mul_right (t + 1) this
    rw [Nat.succ_mul] at h2
    omega
   obtain ⟨env2, S2, e2, rfl, u4, u5, rfl⟩ := qYz L d p t x S.length S (qEG p t done) e5 hp (hb x hx) hlen S rfl hpt nd ht
   refine qBB e2 ⟨done ++ [x], rest, u4, u5, rfl, by rw [← hF]; simp, rfl, ?_⟩
   congr 3
   simp [qEG]
 ·rintro env S' ⟨done, rest, e4, e5, hds, hF, rfl, rfl⟩
  cases rest with
  | cons _ _ => cases hds
  | nil =>
   have : done = F := by simpa using hF
   subst this
   refine qBR (qBC (d := .loc S.length) (S := S ++ [.lst ((qEG p t done).map nD)]) rfl ⟨.loc S.length, _, _, _, rfl, .inr ⟨S.length, rfl, by simp⟩, List.prefix_append _ _⟩)
 ·exact ⟨[], F, e4, e5, rfl, rfl, rfl, by simp [qEG]⟩
theorem qVl {L : FL} {p t : Nat} (h : (p, t) ∈ L) : t ≤ tot L := by
 induction L with
 | nil => cases h
 | cons x L ih =>
  rcases List.mem_cons.mp h with e | h
  ·subst e
   simp [tot]
  ·have := ih h
   simp only [tot]
   omega
theorem qXw (t : Nat) : t + 1 ≤ 2 ^ t := qR9 2 t (by omega)
theorem qOJ (d : D) (S : Sto) (F : List Nat) (k : Nat) (hd : At d S F) (hl : F.length ≤ 4000) (env : qAI) (hi : env[1]? = some (some d)) : qAO qCU (qAA (qDw false [none] (dIt (qAD 1)) (gNm 0) (qEW (dTr (d2 gEq (d2 qCP (qAD 0) (dC (.int 4))) (dC (.int (k : Int))))) (qIe)) (qDL (qAD 0))) (qAE)) env S = .ok (.int ((F.filter fun x => x % 4 == k).length : Int)) S := by
 obtain ⟨o, hit, hst, _⟩ := qTv hd env 1 hi
 have hc := qUL (enc := nD) (cap := [none]) (g := gNm 0) (t := qEW (dTr (d2 gEq (d2 qCP (qAD 0) (dC (.int 4))) (dC (.int (k : Int))))) (qIe)) (fe := qAD 0) hit hst (fun x => x % 4 == k) nD (fun env => ∃ a, env = [a]) ⟨none, rfl⟩ (by unfold lim; omega)
  (fun x _ env ⟨a, e⟩ => by
   subst e
   refine ⟨[some (nD x)], rfl, ⟨_, rfl⟩, ?_, fun _ => rfl⟩
   have h1 := qDW (x : Int) 4 S (by omega)
   have h2 : decide ((x : Int) % 4 = (k : Int)) = (x % 4 == k) := by
    rw [Bool.eq_iff_iff, decide_eq_true_eq, beq_iff_eq]
    omega
   simp only [qEW, dTr, d2, qAD, nD, dC, List.getElem?_cons_zero, Res.bind, h1, qB3, qJx, DL.qFr, qIe, h2]
   cases (x % 4 == k) <;> rfl)
 have h3 := qK8 ((F.filter fun x => x % 4 == k).map nD) S
 rw [List.length_map] at h3
 simp only [qAO, qAA, qAE, hc, Res.bind, h3]
inductive IvByp (S : Sto) (L : FL) (ds : List D) (env : qAI) (S' : Sto) : Prop
 | mk (done rest : FL) (F : List Nat) (d : D) (e2 e3 e4 e5 : Option D) (h_0 : ds = (rest.map fun x => nD x.1)) (h_1 : done ++ rest = L) (h_2 : env = [some (fdL L), some d, e2, e3, e4, e5]) (h_3 : At d S' F) (h_4 : S <+: S') (h_5 : qCi F * sgn rest = sgn L) (h_6 : (∀ x ∈ F, x * qBf rest ≤ 1000000000000)) (h_7 : F.length * 2 ^ tot rest ≤ 256) : IvByp S L ds env S'
theorem qYn (L : FL) (n : Nat) (S : Sto) (hF : Fac L n) (hn : n ≤ 1000000000000) (ht : tot L ≤ 8) : ∃ S', qBK [fdL L] S = .ok (.int (4 * sgn L)) S' ∧ S <+: S' := by
 have key : Rt (qCN [some (fdL L), none, none, none, none, none] S) fun d S' => d = .int (4 * sgn L) ∧ S <+: S' := by
  unfold qCN
  have l1 : 1 ≤ lim := by decide
  refine qA1 (qBR (qBC (d := .lst ([1].map nD)) (S := S) (by simp! [l1]; rfl) ?_))
  simp only [List.set_cons_succ, List.set_cons_zero]
  have hk : qLk (qAD 0) [some (fdL L), some (.lst ([1].map nD)), none, none, none, none] S = .ok (L.map fun x => nD x.1) S := by
   simp only [qLk, qAD, List.getElem?_cons_zero, Res.bind, fdL, kvD, List.map_map]
   rfl
  refine qA1 (qEc hk ?_)
  refine qDa (IvByp S L) ?_ ?_ ?_
  ·rintro dd ds env S' ⟨done, rest, F, d, e2, e3, e4, e5, hds, hL, rfl, hat, hpre, hs, hb, hl⟩
   cases rest with
   | nil => cases hds
   | cons x rest =>
    injection hds with h1 h2
    subst h1 h2
    have hx : x ∈ L := by rw [← hL]; simp
    have hxp := (hF.prm x hx).1
    have hxt := qVl (L := L) (p := x.1) (t := x.2) hx
    have hpos : 1 ≤ qBf rest := by
     have := qM8 (L := rest) (fun y hy => hF.prm y (by rw [← hL]; simp [hy])) (fun y hy => hF.pos y (by rw [← hL]; simp [hy]))
     exact Nat.le_trans (Nat.pow_pos (by omega)) this
    have hl' : F.length * (2 ^ x.2 * 2 ^ tot rest) ≤ 256 := by
     have : tot (x :: rest) = x.2 + tot rest := rfl
     rw [this, Nat.pow_add] at hl
     exact hl
    have hl2 : F.length * (x.2 + 1) * 2 ^ tot rest ≤ 256 := by
     refine Nat.le_trans ?_ hl'
     rw [Nat.mul_assoc]
     exact Nat.mul_le_mul_left _ (Nat.mul_le_mul_right _ (qXw x.2))
    refine ⟨[some (fdL L), some d, some (nD x.1), e3, e4, e5], S', rfl, ?_⟩
    obtain ⟨env2, S2, e2', d', u3, u4, u5, rfl, hat2, hp2⟩ := qR6 L d F x.1 x.2 S' e3 e4 e5 hat (by omega) (fun y hy => by
     refine Nat.le_trans ?_ (hb y hy)
     show y * x.1 ^ x.2 ≤ y * (x.1 ^ x.2 * qBf rest)
     exact Nat.mul_le_mul_left _ (Nat.le_mul_of_pos_right _ hpos)) (by
     have : 1 ≤ 2 ^ tot rest := Nat.pow_pos (by omega)
     have h3 := Nat.le_mul_of_pos_right (F.length * (x.2 + 1)) this
     omega) hx hF.nd (by omega)
    refine qBB e2' ⟨done ++ [x], rest, qEG x.1 x.2 F, d', _, u3, u4, u5, rfl, by rw [← hL]; simp, rfl, hat2, hpre.trans hp2, ?_, fun y hy => ?_, ?_⟩
    ·rw [qNP, Int.mul_assoc]
     exact hs
    ·obtain ⟨z, hz, j, hj, rfl⟩ := qTl hy
     refine Nat.le_trans ?_ (hb z hz)
     show z * x.1 ^ j * qBf rest ≤ z * (x.1 ^ x.2 * qBf rest)
     rw [Nat.mul_assoc]
     exact Nat.mul_le_mul_left _ (Nat.mul_le_mul_right _ (qIl x.1 (by omega) hj))
    ·rw [qLc]
     exact hl2
  ·rintro env S' ⟨done, rest, F, d, e2, e3, e4, e5, hds, hL, rfl, hat, hpre, hs, hb, hl⟩
   cases rest with
   | cons _ _ => cases hds
   | nil =>
    have hs' : qCi F = sgn L := by simpa [sgn] using hs
    have hl' : F.length ≤ 256 := by simpa [tot] using hl
    have c1 := qOJ d S' F 1 hat (by omega) [some (fdL L), some d, e2, e3, e4, e5] rfl
    have c3 := qOJ d S' F 3 hat (by omega) [some (fdL L), some d, e2, e3, e4, e5] rfl
    refine qFh (qBC (d := .int (4 * sgn L)) (S := S') ?_ ⟨rfl, hpre⟩)
    refine (qAt (a := .int 4) (b := .int (qCi F)) (S1 := S') (S2 := S') rfl ?_).trans ?_
    ·refine (qAt c1 c3).trans ?_
     rw [qSj]
     rfl
    ·rw [hs']
     exact qOx 4 (sgn L) S' ⟨by omega, by omega⟩
  ·refine ⟨[], L, [1], .lst ([1].map nD), none, none, none, none, rfl, rfl, rfl, .inl rfl, List.prefix_refl _, ?_, fun x hx => ?_, ?_⟩
   ·simp [qCi, chi]
   ·have : x = 1 := by simpa using hx
    rw [this, Nat.one_mul, hF.eq]
    exact hn
   ·have : 2 ^ tot L ≤ 2 ^ 8 := Nat.pow_le_pow_right (by omega) ht
    simp
    omega
 obtain ⟨d, S', e, rfl, hp⟩ := key
 exact ⟨S', by rw [qEn]; exact qDP rfl e, hp⟩
end K41
end
section
namespace K41
open PySem DL
theorem qTM {t : DT} {f : DS} {Qn : qAI → Sto → Prop} {Qr : D → Sto → Prop} (I : Nat → qAI → Sto → Prop) (turn : ∀ n env S, I n env S → ∃ b S1, t env S = .ok b S1 ∧ (if b then (∃ env2 S2, f env S1 = .nx env2 S2 ∧ ∃ m, m < n ∧ I m env2 S2) ∨ (∃ d S2, f env S1 = .rt d S2 ∧ Qr d S2) else Qn env S1)) :
  ∀ {n : Nat} {env : qAI} {S : Sto}, n < big → I n env S → (∃ env' S', qDC t f env S = .nx env' S' ∧ Qn env' S') ∨ (∃ d S', qDC t f env S = .rt d S' ∧ Qr d S') := by
 have key : ∀ N n env S, n < N → I n env S → (∃ env' S', qB2 t f N env S = .nx env' S' ∧ Qn env' S') ∨ (∃ d S', qB2 t f N env S = .rt d S' ∧ Qr d S') := by
  intro N
  induction N with
  | zero => intro n env S h; omega
  | succ N ih =>
   intro n env S h hI
   obtain ⟨b, S1, e1, k⟩ := turn n env S hI
   cases b with
   | false =>
    refine .inl ⟨env, S1, ?_, by simpa using k⟩
    unfold qB2
    rw [e1]
    rfl
   | true =>
    simp only [if_true] at k
    rcases k with ⟨env2, S2, e2, m, hm, hI2⟩ | ⟨d, S2, e2, q⟩
    ·have e : qB2 t f (N + 1) env S = qB2 t f N env2 S2 := by
      conv => lhs; unfold qB2
      rw [e1]
      simp only [Res.toS, if_true, e2]
     rw [e]
     exact ih m env2 S2 (by omega) hI2
    ·refine .inr ⟨d, S2, ?_, q⟩
     unfold qB2
     rw [e1]
     simp only [Res.toS, if_true, e2]
 exact fun {n env S} h hI => key big n env S h hI
theorem qPw : ∀ d, d < 142 → 2 ≤ d → ¬ d ∣ 20011 := kd
theorem qVd (n : Nat) (S : Sto) (hn : 2 ≤ n ∧ n ≤ 30000) : ∃ b, qBj [.int (n : Int)] S = .ok (.bl b) S ∧ (b = true → Prm n) ∧ (n = 20011 → b = true) := by
 have hbig : n + 2 < big := by rw [qJO]; omega
 have h := qTM (t := dTr (d2 gLe (d2 qAq (qAD 1) (qAD 1)) (qAD 0))) (f := qAW (sIf (dTr (d2 gEq (d2 qCP (qAD 0) (qAD 1)) (dC (.int 0)))) (qAl (dC (.bl false))) (qAz)) (qAs (d2 qAx (qAD 1) (dC (.int 1))) (gNm 1)))
  (Qn := fun env S' => S' = S ∧ env[0]? = some (some (.int (n : Int))) ∧ Prm n) (Qr := fun d S' => d = .bl false ∧ S' = S ∧ n ≠ 20011)
  (fun m env S' => ∃ part : Nat, m = n + 2 - part ∧ 2 ≤ part ∧ part ≤ n + 1 ∧ env = [some (.int (n : Int)), some (.int (part : Int))] ∧ S' = S ∧ ∀ d, 2 ≤ d → d < part → ¬ d ∣ n)
  (fun m env S' ⟨part, hm, h2, hpn, he, hS, hmin⟩ => by
   subst he hS
   refine ⟨decide (part * part ≤ n), S', qT2 part n 0 _ _ 1 0 rfl rfl (by omega), ?_⟩
   by_cases ht : part * part ≤ n
   ·rw [decide_eq_true ht]
    simp only [if_true]
    have hle : part ≤ n := Nat.le_trans (Nat.le_mul_of_pos_left part (by omega)) ht
    have hmod := qRy n part S' [some (.int (n : Int)), some (.int (part : Int))] 0 1 rfl rfl (by omega)
    by_cases hd : part ∣ n
    ·refine .inr ⟨.bl false, S', ?_, rfl, rfl, fun e => ?_⟩
     ·rw [decide_eq_true hd] at hmod
      simp only [qAW, sIf, hmod, Res.toS, if_true, qAl, dC]
     ·subst e
      refine qPw part ?_ h2 hd
      rcases Nat.lt_or_ge part 142 with g | g
      ·exact g
      ·have : 142 * 142 ≤ part * part := Nat.mul_le_mul g g
       omega
    ·refine .inl ⟨[some (.int (n : Int)), some (.int ((part + 1 : Nat) : Int))], S', ?_, n + 2 - (part + 1), by omega, part + 1, rfl, by omega, by omega, rfl, rfl, fun d h1 h3 h4 => ?_⟩
     ·rw [decide_eq_false hd] at hmod
      simp only [qAW, sIf, hmod, Res.toS, Bool.false_eq_true, if_false, qAz, qAs, d2, qAD, dC, List.getElem?_cons_zero, List.getElem?_cons_succ, Res.bind, qCa, gNm, List.set_cons_succ, List.set_cons_zero]
      rfl
     ·by_cases e : d = part
      ·subst e; exact hd h4
      ·exact hmin d h1 (by omega) h4
   ·rw [decide_eq_false ht]
    simp only [Bool.false_eq_true, if_false]
    exact ⟨trivial, rfl, qIm hn.1 (by omega) hmin⟩)
  (n := n) (env := [some (.int (n : Int)), some (.int 2)]) (S := S) (by omega) ⟨2, by omega, by omega, by omega, rfl, rfl, fun d h1 h2 => by omega⟩
 have hgt : (1 : Int) < (n : Int) := by omega
 rw [qFV]
 unfold qDJ
 rcases h with ⟨env', S', e, rfl, h0, hp⟩ | ⟨d, S', e, rfl, rfl, hne⟩
 ·refine ⟨true, ?_, fun _ => hp, fun _ => rfl⟩
  refine qDP (env := [some (.int (n : Int)), none]) rfl ?_
  simp only [qAW, qAs, dC, gNm, Res.toS, List.set_cons_succ, List.set_cons_zero, e, qAl, d2, qAD, h0, Res.bind, gGt, i2, if_true, hgt, decide_true]
 ·refine ⟨false, ?_, fun h => (by cases h), fun h => absurd h hne⟩
  refine qDP (env := [some (.int (n : Int)), none]) rfl ?_
  simp only [qAW, qAs, dC, gNm, Res.toS, List.set_cons_succ, List.set_cons_zero, e]
structure PS (S0 S : Sto) (p q : Nat) (L : FL) : Prop where
 pen : qCw S p
 dct : S[q]? = some (.dct (kvD L))
 ne : p ≠ q
 old : ∀ m, m < S0.length → m ≠ p → S[m]? = S0[m]?
theorem PS.draw {S0 S : Sto} {p q : Nat} {L : FL} (h : PS S0 S p q L) (v f : Int) : PS S0 (S.set p (.lst [.int v, .int f])) p q L :=
 ⟨qLN h.pen v f, by rw [List.getElem?_set_ne h.ne]; exact h.dct, h.ne, fun m hm hp => by rw [List.getElem?_set_ne (Ne.symm hp)]; exact h.old m hm hp⟩
theorem PS.put {S0 S : Sto} {p q : Nat} {L M : FL} (h : PS S0 S p q L) (hq : S0.length ≤ q) : PS S0 (S.set q (.dct (kvD M))) p q M := by
 have hl : q < S.length := (List.getElem?_eq_some_iff.mp h.dct).1
 refine ⟨?_, by rw [List.getElem?_set_self hl], h.ne, fun m hm hp => ?_⟩
 ·obtain ⟨v, f, e⟩ := h.pen
  exact ⟨v, f, by rw [List.getElem?_set_ne (Ne.symm h.ne)]; exact e⟩
 ·rw [List.getElem?_set_ne (by omega)]
  exact h.old m hm hp
theorem qQe (p : Nat) : ∀ L : FL, tot (inc p L) = tot L + 1
 | [] => rfl
 | x :: L => by
  unfold inc
  split
  ·simp only [tot]
   omega
  ·simp only [tot, qQe p L]
   omega
theorem qQS (p : Nat) (h2 : 2 ≤ p) (h : ∀ d, d < p → 2 ≤ d → ¬ d ∣ p) : Prm p := qSA h2 (Nat.dvd_refl _) fun e h1 h3 => h e h3 h1
theorem qXZ : ∀ d ∈ ([2, 3, 5, 5, 7, 13, 17, 29, 101, 9973] : List Nat), Prm d := by
 have small : ∀ p ∈ ([2, 3, 5, 5, 7, 13, 17, 29, 101] : List Nat), 2 ≤ p ∧ ∀ d, d < p → 2 ≤ d → ¬ d ∣ p := kd
 have h9973 : ∀ d, d < 100 → 2 ≤ d → ¬ d ∣ 9973 := kd
 intro p hp
 rcases List.mem_append.mp (show p ∈ ([2, 3, 5, 5, 7, 13, 17, 29, 101] : List Nat) ++ [9973] from hp) with h | h
 ·exact qQS p (small p h).1 (small p h).2
 ·rw [List.mem_singleton.mp h]
  exact qIm (d := 100) (by omega) (by omega) fun e h1 h2 => h9973 e h2 h1
end K41
end
section
namespace K41
open PySem DL
theorem qU1 (f : DE) (n : Nat) (env : qAI) (S S1 : Sto) (h : n ≤ 1000000) (e : f env S = .ok (.int (n : Int)) S1) : qEX (qAA f qAE) env S = .ok ((List.range n).map nD) S1 := by
 have e1 : qAA f qAE env S = .ok [.int (n : Int)] S1 := by unfold qAA qAE; rw [e]; rfl
 unfold qEX
 rw [e1, Res.bind_ok, qQY n h, qNc]
theorem qGF {f : DE} {env : qAI} {S S1 : Sto} {b : Bool} (h : f env S = .ok (.bl b) S1) : dTr f env S = .ok b S1 := by
 unfold dTr
 rw [h]
 rfl
theorem qDT {F : DF} {f1 f2 : DE} {env : qAI} {S S1 S2 : Sto} {a b : D} (h1 : f1 env S = .ok a S1) (h2 : f2 env S1 = .ok b S2) : qAK 2 F (qAA f1 (qAA f2 (qAE))) env S = F [a, b] S2 := by
 simp only [qAK, qAA, qAE, h1, h2, Res.bind, List.length_cons, List.length_nil, if_true]
theorem qLi {F : DF} {f1 : DE} {env : qAI} {S S1 : Sto} {a : D} (h1 : f1 env S = .ok a S1) : qAK 1 F (qAA f1 (qAE)) env S = F [a] S1 := by
 simp only [qAK, qAA, qAE, h1, Res.bind, List.length_cons, List.length_nil, if_true]
theorem qJ3 {S0 S : Sto} {p q : Nat} {L : FL} (h : PS S0 S p q L) (m : Nat) (hm : 0 < m ∧ m < 1073741824) (env : qAI) (he : env[0]? = some (some (.loc p))) : ∃ (r : Nat) (S' : Sto), qAK 2 qAm (qAA (qAD 0) (qAA (dC (.int (m : Int))) (qAE))) env S = .ok (.int (r : Int)) S' ∧ r < m ∧ PS S0 S' p q L := by
 obtain ⟨r, v, f, e, h1, h2⟩ := qPG S p (m : Int) h.pen (by omega)
 obtain ⟨n, rfl⟩ := Int.eq_ofNat_of_zero_le h1
 refine ⟨n, _, ?_, by omega, h.draw v f⟩
 refine (qDT (a := .loc p) (b := .int (m : Int)) (S1 := S) (S2 := S) ?_ rfl).trans e
 simp only [qAD, he]
noncomputable def pL : List Nat := [2, 3, 5, 5, 7, 13, 17, 29, 101, 9973]
theorem qVC (env : qAI) (S : Sto) : qAv (qAA (dC (.int 2)) (qAA (dC (.int 3)) (qAA (dC (.int 5)) (qAA (dC (.int 5)) (qAA (dC (.int 7)) (qAA (dC (.int 13)) (qAA (dC (.int 17)) (qAA (dC (.int 29)) (qAA (dC (.int 101)) (qAA (dC (.int 9973)) (qAE))))))))))) env S = .ok (.lst (pL.map nD)) S := by
 have l10 : 10 ≤ lim := by decide
 simp only [qAv, qAA, qAE, dC, Res.bind, List.length_cons, List.length_nil, Nat.zero_add, Nat.reduceAdd, l10, if_true]
 rfl
theorem qVw (xs : List D) (i : Nat) (d : D) (h : xs[i]? = some d) : L2.atI xs (i : Int) = some d := by
 have hl := (List.getElem?_eq_some_iff.mp h).1
 have e : L2.ixN xs.length (i : Int) = some i := by
  unfold L2.ixN
  have : (0 : Int) ≤ (i : Int) ∧ (i : Int) < xs.length := ⟨by omega, by omega⟩
  simp [hl]
 unfold L2.atI
 rw [e]
 exact h
inductive IvProd (p most : Nat) (S : Sto) (ds : List D) (env : qAI) (S' : Sto) : Prop
 | mk (n : Nat) (L : FL) (e4 e5 : Option D) (h_0 : env = [some (.loc p), some (.int (most : Int)), some (.int (n : Int)), some (.loc S.length), e4, e5]) (h_1 : PS S S' p S.length L) (h_2 : Fac L n) (h_3 : tot L + ds.length ≤ 8) (h_4 : 1 ≤ n) (h_5 : n ≤ most) : IvProd p most S ds env S'
inductive IvUp (p most n : Nat) (S : Sto) (dd : D) (S4 : Sto) (m : Nat) (env : qAI) (S5 : Sto) : Prop
 | mk (x : Nat) (h_0 : m = 20011 - x) (h_1 : 2 ≤ x) (h_2 : x ≤ 20011) (h_3 : env = [some (.loc p), some (.int (most : Int)), some (.int (n : Int)), some (.loc S.length), some dd, some (nD x)]) (h_4 : S5 = S4) : IvUp p most n S dd S4 m env S5
theorem qNb (S : Sto) (p : Nat) (most : Nat) (h : qCw S p) (hmost : 1 ≤ most ∧ most ≤ 1000000000000) : ∃ (n : Nat) (L : FL) (S' : Sto), qBE [.loc p, .int (most : Int)] S = .ok (.tup [.int (n : Int), .loc S.length]) S' ∧ PS S S' p S.length L ∧ Fac L n ∧ tot L ≤ 8 ∧ 1 ≤ n ∧ n ≤ most := by
 have hpl : p < S.length := by
  obtain ⟨v, f, e⟩ := h
  exact (List.getElem?_eq_some_iff.mp e).1
 have key : Rt (qCf [some (.loc p), some (.int (most : Int)), none, none, none, none] S) fun d S' => ∃ (n : Nat) (L : FL), d = .tup [.int (n : Int), .loc S.length] ∧ PS S S' p S.length L ∧ Fac L n ∧ tot L ≤ 8 ∧ 1 ≤ n ∧ n ≤ most := by
  unfold qCf
  refine qA1 (qBB (env := [some (.loc p), some (.int (most : Int)), some (.int 1), some (.loc S.length), none, none]) (S := S ++ [.dct []]) (by simp! [qON]) ?_)
  have P0 : PS S (S ++ [.dct (kvD [])]) p S.length [] := ⟨qIN h (List.prefix_append _ _), by simp, by omega, fun m hm _ => by rw [List.getElem?_append_left hm]⟩
  obtain ⟨k, S1, e1, hk, P1⟩ := qJ3 P0 8 (by omega) [some (.loc p), some (.int (most : Int)), some (.int 1), some (.loc S.length), none, none] rfl
  have hr : qEX (qAA (d2 qAx (dC (.int 1)) (qAK 2 qAm (qAA (qAD 0) (qAA (dC (.int 8)) (qAE))))) (qAE)) [some (.loc p), some (.int (most : Int)), some (.int 1), some (.loc S.length), none, none] (S ++ [.dct []]) = .ok ((List.range (k + 1)).map nD) S1 := by
   have e2 : d2 qAx (dC (.int 1)) (qAK 2 qAm (qAA (qAD 0) (qAA (dC (.int 8)) (qAE)))) [some (.loc p), some (.int (most : Int)), some (.int 1), some (.loc S.length), none, none] (S ++ [.dct []]) = .ok (.int ((k + 1 : Nat) : Int)) S1 := by
    refine (qAt rfl e1).trans ((qCa _ _ _).trans ?_)
    have : (1 : Int) + (k : Int) = ((k + 1 : Nat) : Int) := by omega
    rw [this]
   exact qU1 _ (k + 1) _ _ _ (by omega) e2
  refine qA1 (qEc hr ?_)
  refine qDa (IvProd p most S) ?_ ?_ ?_
  ·rintro dd ds env S' ⟨n, L, e4, e5, rfl, P, hF, ht, hn1, hn2⟩
   refine ⟨[some (.loc p), some (.int (most : Int)), some (.int (n : Int)), some (.loc S.length), some dd, e5], S', rfl, ?_⟩
   obtain ⟨i, S2, e2, hi, P2⟩ := qJ3 P 10 (by omega) [some (.loc p), some (.int (most : Int)), some (.int (n : Int)), some (.loc S.length), some dd, e5] rfl
   obtain ⟨pr, hpr, hprm⟩ : ∃ pr : Nat, (pL.map nD)[i]? = some (nD pr) ∧ pr ∈ pL := by
    have hlt : i < pL.length := hi
    exact ⟨pL[i], by simp [hlt], List.getElem_mem hlt⟩
   have hix : gIx (.lst (pL.map nD)) (.int (i : Int)) S2 = .ok (nD pr) S2 := by
    show DL.qFJ (L2.atI (pL.map nD) (i : Int)) S2 = _
    rw [qVw _ i _ hpr]
    rfl
   refine qB9 (qBR (qBC ((qAt (qVC _ _) e2).trans hix) ?_))
   simp only [List.set_cons_succ, List.set_cons_zero]
   have hq : Prm pr := qXZ pr hprm
   have hqb : pr ≤ 30000 := by
    simp only [pL, List.mem_cons, List.not_mem_nil, or_false] at hprm
    omega
   clear hix hprm hpr e2 hi
   have step : Nx (sIf (dTr (d2 gEq (qAK 2 qAm (qAA (qAD 0) (qAA (dC (.int 12)) (qAE)))) (dC (.int 0)))) (qAW (qAs (d2 qAx (dC (.int 2)) (qAK 2 qAm (qAA (qAD 0) (qAA (dC (.int 20000)) (qAE))))) (gNm 5)) (qDC (qCQ (dTr (qAK 1 qBj (qAA (qAD 5) (qAE))))) (qAs (d2 qAx (qAD 5) (dC (.int 1))) (gNm 5)))) (qAz) [some (.loc p), some (.int (most : Int)), some (.int (n : Int)), some (.loc S.length), some dd, some (nD pr)] S2)
     fun env S3 => ∃ pr : Nat, env = [some (.loc p), some (.int (most : Int)), some (.int (n : Int)), some (.loc S.length), some dd, some (nD pr)] ∧ Prm pr ∧ pr ≤ 30000 ∧ PS S S3 p S.length L := by
    obtain ⟨j, S3, e3, hj, P3⟩ := qJ3 P2 12 (by omega) [some (.loc p), some (.int (most : Int)), some (.int (n : Int)), some (.loc S.length), some dd, some (nD pr)] rfl
    have hb : dTr (d2 gEq (qAK 2 qAm (qAA (qAD 0) (qAA (dC (.int 12)) (qAE)))) (dC (.int 0))) [some (.loc p), some (.int (most : Int)), some (.int (n : Int)), some (.loc S.length), some dd, some (nD pr)] S2 = .ok (decide ((j : Int) = 0)) S3 := by
     exact qGF ((qAt e3 rfl).trans (qB3 _ _ _))
    refine qCR hb ?_
    by_cases h0 : (j : Int) = 0
    ·rw [decide_eq_true h0]
     simp only [if_true]
     obtain ⟨r, S4, e4', hr4, P4⟩ := qJ3 P3 20000 (by omega) [some (.loc p), some (.int (most : Int)), some (.int (n : Int)), some (.loc S.length), some dd, some (nD pr)] rfl
     refine qB9 (qBR (qBC (d := nD (r + 2)) (S := S4) ?_ ?_))
     ·refine (qAt rfl e4').trans ((qCa _ _ _).trans ?_)
      have : (2 : Int) + (r : Int) = ((r + 2 : Nat) : Int) := by omega
      rw [this]
      rfl
     ·simp only [List.set_cons_succ, List.set_cons_zero]
      have hbig : 20011 < big := by rw [qJO]; omega
      refine qGq (IvUp p most n S dd S4) ?_ (n := 20011 - (r + 2)) (by omega) ⟨r + 2, rfl, by omega, by omega, rfl, rfl⟩
      rintro m env S5 ⟨x, rfl, hx2, hx, rfl, rfl⟩
      obtain ⟨b, eb, hb1, hb2⟩ := qVd x S5 ⟨hx2, by omega⟩
      refine ⟨!b, S5, ?_, ?_⟩
      ·have : qAK 1 qBj (qAA (qAD 5) (qAE)) [some (.loc p), some (.int (most : Int)), some (.int (n : Int)), some (.loc S.length), some dd, some (nD x)] S5 = .ok (.bl b) S5 := (qLi (a := nD x) rfl).trans eb
       simp only [qCQ, dTr, this, Res.bind, qJx, DL.qFr]
      ·cases b with
       | true =>
        simp only [Bool.not_true, Bool.false_eq_true, if_false]
        exact ⟨x, rfl, hb1 rfl, by omega, P4⟩
       | false =>
        simp only [Bool.not_false, if_true]
        have hne : x ≠ 20011 := fun e => by have := hb2 e; cases this
        refine qBR (qBC (d := nD (x + 1)) (S := S5) ?_ ⟨20011 - (x + 1), by omega, x + 1, rfl, by omega, by omega, rfl, rfl⟩)
        refine (qAt (a := nD x) (b := .int 1) rfl rfl).trans ((qCa _ _ _).trans ?_)
        rfl
    ·rw [decide_eq_false h0]
     simp only [Bool.false_eq_true, if_false]
     exact qBB rfl ⟨pr, rfl, hq, hqb, P3⟩
   obtain ⟨env3, S3, e3, pr, rfl, hq, hqb, P3⟩ := step
   refine qB9 (qBB e3 ?_)
   have hmul := qOx (n : Int) (pr : Int) S3 ⟨by omega, by omega⟩
   have hle : dTr (d2 gLe (d2 qAq (qAD 2) (qAD 5)) (qAD 1)) [some (.loc p), some (.int (most : Int)), some (.int (n : Int)), some (.loc S.length), some dd, some (nD pr)] S3 = .ok (decide ((n : Int) * (pr : Int) ≤ (most : Int))) S3 := by
    have : d2 qAq (qAD 2) (qAD 5) [some (.loc p), some (.int (most : Int)), some (.int (n : Int)), some (.loc S.length), some dd, some (nD pr)] S3 = .ok (.int ((n : Int) * (pr : Int))) S3 := (qAt (a := .int (n : Int)) (b := nD pr) rfl rfl).trans hmul
    exact qGF ((qAt this rfl).trans rfl)
   refine qCR hle ?_
   have hcast : (n : Int) * (pr : Int) = ((pr * n : Nat) : Int) := by rw [Nat.mul_comm]; simp
   by_cases hc : (n : Int) * (pr : Int) ≤ (most : Int)
   ·rw [decide_eq_true hc]
    simp only [if_true]
    refine qB9 (qBR (qBC (d := .int ((pr * n : Nat) : Int)) (S := S3) ((qAt (a := .int (n : Int)) (b := nD pr) rfl rfl).trans (hmul.trans (by rw [hcast]))) ?_))
    simp only [List.set_cons_succ, List.set_cons_zero]
    have hs := hF.short (by omega)
    have i1 := qOf L pr S3 [some (.loc p), some (.int (most : Int)), some (.int ((pr * n : Nat) : Int)), some (.loc S.length), some dd, some (nD pr)] 5 3 S.length rfl rfl P3.dct hF.nd (by omega)
    refine qBB i1 ⟨pr * n, inc pr L, _, _, rfl, P3.put (Nat.le_refl _), hF.inc hq, ?_, ?_, ?_⟩
    ·rw [qQe]
     simp at ht
     omega
    ·have := hq.1
     exact Nat.mul_le_mul (show 1 ≤ pr by omega) hn1
    ·rw [hcast] at hc
     omega
   ·rw [decide_eq_false hc]
    simp only [Bool.false_eq_true, if_false]
    refine qBB rfl ⟨n, L, _, _, rfl, P3, hF, ?_, hn1, hn2⟩
    simp at ht
    omega
  ·rintro env S' ⟨n, L, e4, e5, rfl, P, hF, ht, hn1, hn2⟩
   have l2 : 2 ≤ lim := by decide
   exact qFh (qBC (d := .tup [.int (n : Int), .loc S.length]) (S := S') (by simp! [l2]) ⟨n, L, rfl, P, hF, by simpa using ht, hn1, hn2⟩)
  ·exact ⟨1, [], none, none, rfl, P1, qP8, by simp [tot]; omega, by omega, hmost.1⟩
 obtain ⟨d, S', e, n, L, rfl, h1, h2⟩ := key
 exact ⟨n, L, S', by rw [qFu]; exact qDP rfl e, h1, h2⟩
end K41
end
section
namespace K41
open PySem DL
noncomputable def up (m : Nat) : Nat → Nat → Nat
 | 0, h => h
 | f + 1, h => if h * h ≤ m then up m f (h + 1) else h
noncomputable def two (m : Nat) : Nat → Nat → Nat → List (Nat × Nat)
 | 0, _, _ => []
 | f + 1, lo, hi => if lo ≤ hi then (if lo * lo + hi * hi = m then [(lo, hi)] else []) ++ (if lo * lo + hi * hi ≤ m then two m f (lo + 1) hi else two m f lo (hi - 1)) else []
noncomputable def sqs (m : Nat) : List (Nat × Nat) := two m 43 0 (up m 20 0 - 1)
theorem qJ4 (a b : Nat) (S : Sto) : qAx (nD a) (nD b) S = .ok (nD (a + b)) S := rfl
theorem qLs (a b : Nat) (S : Sto) (h : a ≤ 1000000) : qAq (nD a) (nD b) S = .ok (nD (a * b)) S := by
 refine (qFF (a : Int) (b : Int) S ⟨by omega, by omega⟩).trans ?_
 unfold nD
 simp
theorem qQv (a b : Nat) (S : Sto) : gLe (nD a) (nD b) S = .ok (.bl (decide (a ≤ b))) S := by
 have : decide ((a : Int) ≤ (b : Int)) = decide (a ≤ b) := by
  rw [Bool.eq_iff_iff, decide_eq_true_eq, decide_eq_true_eq]
  omega
 simp only [gLe, nD, i2, if_true, this]
theorem qWm (a b : Nat) (S : Sto) : gEq (nD a) (nD b) S = .ok (.bl (decide (a = b))) S := by
 refine (qB3 _ _ S).trans ?_
 have : decide ((a : Int) = (b : Int)) = decide (a = b) := by
  rw [Bool.eq_iff_iff, decide_eq_true_eq, decide_eq_true_eq]
  omega
 rw [this]
theorem qQw (a b : Nat) (S : Sto) (h : b ≤ a) : DL.qEb (nD a) (nD b) S = .ok (nD (a - b)) S := by
 have : DL.qEb (nD a) (nD b) S = .ok (.int ((a : Int) - (b : Int))) S := rfl
 rw [this]
 unfold nD
 congr 2
 omega
noncomputable def prN (x : Nat × Nat) : D := .tup [nD x.1, nD x.2]
inductive IvUpS (m : Nat) (S : Sto) (f : Nat) (env : qAI) (S' : Sto) : Prop
 | mk (h : Nat) (h_0 : h + f = 20) (h_1 : up m f h = up m 20 0) (h_2 : (1 ≤ h ∨ f = 20)) (h_3 : env = [some (nD m), some (.loc S.length), some (nD 0), some (nD h), none]) (h_4 : S' = S ++ [.lst []]) : IvUpS m S f env S'
inductive IvTwo (m : Nat) (S : Sto) (f : Nat) (env : qAI) (S' : Sto) : Prop
 | mk (lo hi : Nat) (acc : List (Nat × Nat)) (e4 : Option D) (h_0 : 23 + hi ≤ f + lo) (h_1 : lo ≤ 100) (h_2 : lo + f ≤ 43) (h_3 : hi ≤ 20) (h_4 : acc.length + f ≤ 43) (h_5 : acc ++ two m f lo hi = sqs m) (h_6 : env = [some (nD m), some (.loc S.length), some (nD lo), some (nD hi), e4]) (h_7 : S' = S ++ [.lst (acc.map prN)]) : IvTwo m S f env S'
theorem qSG (m : Nat) (S : Sto) (hm : m ≤ 300) : qBu [nD m] S = .ok (.loc S.length) (S ++ [.lst ((sqs m).map prN)]) := by
 have key : Rt (qCg [some (nD m), none, none, none, none] S) fun d S' => d = .loc S.length ∧ S' = S ++ [.lst ((sqs m).map prN)] := by
  unfold qCg
  have l0 : 0 ≤ lim := by decide
  have l2 : 2 ≤ lim := by decide
  have hbig : 100 < big := by rw [qJO]; omega
  refine qA1 (qBB (env := [some (nD m), some (.loc S.length), some (nD 0), some (nD 0), none]) (S := S ++ [.lst []]) (by simp! [l0, nD]) ?_)
  refine qA1 ?_
  refine qGq (IvUpS m S) ?_ (n := 20) (by omega) ⟨0, rfl, rfl, .inr rfl, rfl, rfl⟩
  rintro f env S' ⟨h, hf, hu, hpos, rfl, rfl⟩
  have h1 : d2 qAq (qAD 3) (qAD 3) [some (nD m), some (.loc S.length), some (nD 0), some (nD h), none] (S ++ [.lst []]) = .ok (nD (h * h)) (S ++ [.lst []]) := (qAt (a := nD h) (b := nD h) rfl rfl).trans (qLs h h _ (by omega))
  refine ⟨decide (h * h ≤ m), S ++ [.lst []], qGF ((qAt h1 (b := nD m) rfl).trans (qQv _ _ _)), ?_⟩
  by_cases ht : h * h ≤ m
  ·rw [decide_eq_true ht]
   simp only [if_true]
   have hf0 : 0 < f := by
    rcases Nat.eq_zero_or_pos f with g | g
    ·have : h = 20 := by omega
     subst this
     omega
    ·exact g
   refine qBR (qBC (d := nD (h + 1)) (S := S ++ [.lst []]) ((qAt (a := nD h) (b := nD 1) rfl rfl).trans (qJ4 h 1 _)) ⟨f - 1, by omega, h + 1, by omega, ?_, .inl (by omega), rfl, rfl⟩)
   rw [← hu]
   obtain ⟨g, rfl⟩ : ∃ g, f = g + 1 := ⟨f - 1, by omega⟩
   conv => rhs; unfold up
   rw [if_pos ht]
   rfl
  ·rw [decide_eq_false ht]
   simp only [Bool.false_eq_true, if_false]
   have hh : 1 ≤ h := by
    rcases hpos with g | g
    ·exact g
    ·have : h = 0 := by omega
     subst this
     omega
   have hup : up m 20 0 = h := by
    rw [← hu]
    cases f with
    | zero => rfl
    | succ f => unfold up; rw [if_neg ht]
   refine qA1 (qBR (qBC (d := nD (h - 1)) (S := S ++ [.lst []]) ((qAt (a := nD h) (b := nD 1) rfl rfl).trans (qQw h 1 _ hh)) ?_))
   simp only [List.set_cons_succ, List.set_cons_zero]
   have hsq : sqs m = two m 43 0 (h - 1) := by unfold sqs; rw [hup]
   refine qA1 ?_
   refine qGq (IvTwo m S) ?_ (n := 43) (by omega) ⟨0, h - 1, [], none, by omega, by omega, by omega, by omega, by simp, by rw [hsq]; rfl, rfl, rfl⟩
   rintro f env S' ⟨lo, hi, acc, e4, hf, hlo, hlof, hhi, hacc, hall, rfl, rfl⟩
   refine ⟨decide (lo ≤ hi), S ++ [.lst (acc.map prN)], qGF ((qAt (a := nD lo) (b := nD hi) rfl rfl).trans (qQv _ _ _)), ?_⟩
   by_cases hle : lo ≤ hi
   ·rw [decide_eq_true hle]
    simp only [if_true]
    obtain ⟨g, rfl⟩ : ∃ g, f = g + 1 := ⟨f - 1, by omega⟩
    have a1 : d2 qAq (qAD 2) (qAD 2) [some (nD m), some (.loc S.length), some (nD lo), some (nD hi), e4] (S ++ [.lst (acc.map prN)]) = .ok (nD (lo * lo)) (S ++ [.lst (acc.map prN)]) := (qAt (a := nD lo) (b := nD lo) rfl rfl).trans (qLs lo lo _ (by omega))
    have a2 : d2 qAq (qAD 3) (qAD 3) [some (nD m), some (.loc S.length), some (nD lo), some (nD hi), e4] (S ++ [.lst (acc.map prN)]) = .ok (nD (hi * hi)) (S ++ [.lst (acc.map prN)]) := (qAt (a := nD hi) (b := nD hi) rfl rfl).trans (qLs hi hi _ (by omega))
    refine qB9 (qBR (qBC (d := nD (lo * lo + hi * hi)) (S := S ++ [.lst (acc.map prN)]) ((qAt a1 a2).trans (qJ4 _ _ _)) ?_))
    simp only [List.set_cons_succ, List.set_cons_zero]
    have put : ∃ acc2, acc2 = acc ++ (if lo * lo + hi * hi = m then [(lo, hi)] else []) ∧ Nx (sIf (dTr (d2 gEq (qAD 4) (qAD 0))) (qD7 (dBm "list" qCm (qAD 1) (qAA (qBH (qAA (qAD 2) (qAA (qAD 3) (qAE)))) (qAE)))) (qAz) [some (nD m), some (.loc S.length), some (nD lo), some (nD hi), some (nD (lo * lo + hi * hi))] (S ++ [.lst (acc.map prN)])) fun env S2 => env = [some (nD m), some (.loc S.length), some (nD lo), some (nD hi), some (nD (lo * lo + hi * hi))] ∧ S2 = S ++ [.lst (acc2.map prN)] := by
     refine ⟨_, rfl, qCR (qGF ((qAt (a := nD (lo * lo + hi * hi)) (b := nD m) rfl rfl).trans (qWm _ _ _))) ?_⟩
     by_cases he : lo * lo + hi * hi = m
     ·rw [decide_eq_true he, if_pos he]
      simp only [if_true]
      have hat : (S ++ [MO.lst (acc.map prN)])[S.length]? = some (.lst (acc.map prN)) := by simp
      have hty : tyD (.loc S.length) (S ++ [MO.lst (acc.map prN)]) = some "list" := by simp only [tyD, hat]
      have hlim : (acc.map prN).length < lim := by rw [List.length_map]; unfold lim; omega
      refine qBB (env := [some (nD m), some (.loc S.length), some (nD lo), some (nD hi), some (nD (lo * lo + hi * hi))]) (S := S ++ [.lst ((acc ++ [(lo, hi)]).map prN)]) ?_ ⟨rfl, rfl⟩
      simp only [qD7, dBm, qAD, List.getElem?_cons_zero, List.getElem?_cons_succ, Res.bind, hty, beq_self_eq_true, if_true, qAA, qAE, qBH, List.length_cons, List.length_nil, Nat.zero_add, Nat.reduceAdd, l2, qCm, hat, hlim, Res.toS]
      congr 1
      simp [prN]
     ·rw [decide_eq_false he, if_neg he]
      simp only [Bool.false_eq_true, if_false]
      exact qBB rfl ⟨rfl, by simp⟩
    obtain ⟨acc2, hacc2, env2, S2, e2, rfl, rfl⟩ := put
    have hal : acc2.length ≤ acc.length + 1 := by
     rw [hacc2]
     split <;> simp
    have hall2 : acc2 ++ (if lo * lo + hi * hi ≤ m then two m g (lo + 1) hi else two m g lo (hi - 1)) = sqs m := by
     rw [← hall, hacc2]
     conv => rhs; unfold two
     rw [if_pos hle]
     simp
    refine qB9 (qBB e2 (qCR (qGF ((qAt (a := nD (lo * lo + hi * hi)) (b := nD m) rfl rfl).trans (qQv _ _ _))) ?_))
    by_cases hc : lo * lo + hi * hi ≤ m
    ·rw [decide_eq_true hc]
     simp only [if_true]
     rw [if_pos hc] at hall2
     exact qBR (qBC (d := nD (lo + 1)) (S := S ++ [.lst (acc2.map prN)]) ((qAt (a := nD lo) (b := nD 1) rfl rfl).trans (qJ4 lo 1 _)) ⟨g, by omega, lo + 1, hi, acc2, _, by omega, by omega, by omega, hhi, by omega, hall2, rfl, rfl⟩)
    ·rw [decide_eq_false hc]
     simp only [Bool.false_eq_true, if_false]
     rw [if_neg hc] at hall2
     have hhi1 : 1 ≤ hi := by
      rcases Nat.eq_zero_or_pos hi with g0 | g0
      ·exfalso
       have : lo = 0 := by omega
       rw [this, g0] at hc
       omega
      ·exact g0
     exact qBR (qBC (d := nD (hi - 1)) (S := S ++ [.lst (acc2.map prN)]) ((qAt (a := nD hi) (b := nD 1) rfl rfl).trans (qQw hi 1 _ hhi1)) ⟨g, by omega, lo, hi - 1, acc2, _, by omega, hlo, by omega, by omega, by omega, hall2, rfl, rfl⟩)
   ·rw [decide_eq_false hle]
    simp only [Bool.false_eq_true, if_false]
    have : two m f lo hi = [] := by
     cases f with
     | zero => rfl
     | succ f => unfold two; rw [if_neg hle]
    rw [this, List.append_nil] at hall
    subst hall
    exact qFh (qBC rfl ⟨rfl, rfl⟩)
 obtain ⟨d, S', e, rfl, rfl⟩ := key
 rw [qFw]
 exact qDP rfl e
end K41
end
section
namespace K41
open PySem DL
noncomputable def qMK (w : Nat) (x : Nat × Nat) : Nat := if x.1 = 0 then (if 0 < w then 2 else 1) * (if 0 < x.2 then 2 else 1) else 0
noncomputable def qJN (w : Nat) : List (Nat × Nat) → Nat
 | [] => 0
 | x :: l => qMK w x + qJN w l
noncomputable def pts (n : Nat) : Nat → Nat → Nat → Nat
 | 0, _, a => a
 | f + 1, w, a => if w * w ≤ n then pts n f (w + 1) (a + qJN w (sqs (n - w * w))) else a
noncomputable def qB6 (n : Nat) : Nat := pts n 20 0 0
theorem qWh (b : Bool) (S : Sto) : qHM [.bl b] S = .ok (nD (if b then 1 else 0)) S := by cases b <;> rfl
theorem qZH (a b : Nat) (S : Sto) : gGt (nD a) (nD b) S = .ok (.bl (decide (b < a))) S := by
 have : decide ((b : Int) < (a : Int)) = decide (b < a) := by
  rw [Bool.eq_iff_iff, decide_eq_true_eq, decide_eq_true_eq]
  omega
 simp only [gGt, nD, i2, if_true, this]
theorem qR5 (env : qAI) (S : Sto) (i x : Nat) (hi : env[i]? = some (some (nD x))) : d2 qAx (dC (.int 1)) (qAO qHM (qAA (d2 gGt (qAD i) (dC (.int 0))) (qAE))) env S = .ok (nD (if 0 < x then 2 else 1)) S := by
 have h1 : d2 gGt (qAD i) (dC (.int 0)) env S = .ok (.bl (decide (0 < x))) S := (qAt (a := nD x) (b := nD 0) (by simp only [qAD, hi]) rfl).trans (qZH x 0 S)
 have h2 : qAO qHM (qAA (d2 gGt (qAD i) (dC (.int 0))) (qAE)) env S = .ok (nD (if decide (0 < x) then 1 else 0)) S := by
  simp only [qAO, qAA, qAE, h1, Res.bind]
  exact qWh _ _
 refine (qAt (a := nD 1) rfl h2).trans ((qJ4 _ _ _).trans ?_)
 by_cases hx : 0 < x <;> simp [hx]
inductive IvPts (n : Nat) (S : Sto) (f : Nat) (env : qAI) (S' : Sto) : Prop
 | mk (w a : Nat) (e3 e4 : Option D) (h_0 : w + f = 20) (h_1 : pts n f w a = qB6 n) (h_2 : env = [some (nD n), some (nD a), some (nD w), e3, e4]) (h_3 : S <+: S') : IvPts n S f env S'
inductive IvIn (n w a : Nat) (S' : Sto) (ds : List D) (env : qAI) (S2 : Sto) : Prop
 | mk (rest : List (Nat × Nat)) (b : Nat) (e3 e4 : Option D) (h_0 : ds = rest.map prN) (h_1 : b + qJN w rest = a + qJN w (sqs (n - w * w))) (h_2 : env = [some (nD n), some (nD b), some (nD w), e3, e4]) (h_3 : S2 = S' ++ [.lst ((sqs (n - w * w)).map prN)]) : IvIn n w a S' ds env S2
theorem qTX (n : Nat) (S : Sto) (hn : n ≤ 300) : ∃ S', qBp [nD n] S = .ok (nD (qB6 n)) S' ∧ S <+: S' := by
 have key : Rt (qC9 [some (nD n), none, none, none, none] S) fun d S' => d = nD (qB6 n) ∧ S <+: S' := by
  unfold qC9
  have l2 : 2 ≤ lim := by decide
  have hbig : 100 < big := by rw [qJO]; omega
  refine qA1 (qBB (env := [some (nD n), some (nD 0), some (nD 0), none, none]) (S := S) (by simp! [l2, nD]) ?_)
  refine qA1 ?_
  refine qGq (IvPts n S) ?_ (n := 20) (by omega) ⟨0, 0, none, none, rfl, rfl, rfl, List.prefix_refl _⟩
  rintro f env S' ⟨w, a, e3, e4, hf, hp, rfl, hpre⟩
  have h1 : d2 qAq (qAD 2) (qAD 2) [some (nD n), some (nD a), some (nD w), e3, e4] S' = .ok (nD (w * w)) S' := (qAt (a := nD w) (b := nD w) rfl rfl).trans (qLs w w _ (by omega))
  refine ⟨decide (w * w ≤ n), S', qGF ((qAt h1 (b := nD n) rfl).trans (qQv _ _ _)), ?_⟩
  by_cases ht : w * w ≤ n
  ·rw [decide_eq_true ht]
   simp only [if_true]
   have hf0 : 0 < f := by
    rcases Nat.eq_zero_or_pos f with g | g
    ·have : w = 20 := by omega
     subst this
     omega
    ·exact g
   obtain ⟨g, rfl⟩ : ∃ g, f = g + 1 := ⟨f - 1, by omega⟩
   have hs := qSG (n - w * w) S' (by omega)
   have h2 : d2 DL.qEb (qAD 0) (d2 qAq (qAD 2) (qAD 2)) [some (nD n), some (nD a), some (nD w), e3, e4] S' = .ok (nD (n - w * w)) S' := (qAt (a := nD n) rfl h1).trans (qQw n (w * w) _ ht)
   have hcall : qAK 1 qBu (qAA (d2 DL.qEb (qAD 0) (d2 qAq (qAD 2) (qAD 2))) (qAE)) [some (nD n), some (nD a), some (nD w), e3, e4] S' = .ok (.loc S'.length) (S' ++ [.lst ((sqs (n - w * w)).map prN)]) := (qLi h2).trans hs
   have hat : (S' ++ [MO.lst ((sqs (n - w * w)).map prN)])[S'.length]? = some (.lst ((sqs (n - w * w)).map prN)) := by simp
   have hit : dIt (qAK 1 qBu (qAA (d2 DL.qEb (qAD 0) (d2 qAq (qAD 2) (qAD 2))) (qAE))) [some (nD n), some (nD a), some (nD w), e3, e4] S' = .ok (some (S'.length, .lst ((sqs (n - w * w)).map prN)), (sqs (n - w * w)).map prN) (S' ++ [.lst ((sqs (n - w * w)).map prN)]) := by
    unfold dIt
    rw [hcall]
    simp only [Res.bind, DL.itD, hat]
   refine qB9 (qQO hit ?_)
   refine qLK (IvIn n w a S') ?_ ?_ ?_ ?_
   ·rintro ds env S2 ⟨rest, b, e3, e4, _, _, _, rfl⟩
    exact hat
   ·rintro dd ds env S2 ⟨rest, b, e3, e4, hds, hb, rfl, rfl⟩
    cases rest with
    | nil => cases hds
    | cons x rest =>
     injection hds with q1 q2
     subst q1 q2
     refine ⟨[some (nD n), some (nD b), some (nD w), some (nD x.1), some (nD x.2)], _, rfl, ?_⟩
     refine qCR (qGF ((qAt (a := nD x.1) (b := nD 0) rfl rfl).trans (qWm _ _ _))) ?_
     by_cases hx : x.1 = 0
     ·rw [decide_eq_true hx]
      simp only [if_true]
      have m1 := qR5 [some (nD n), some (nD b), some (nD w), some (nD x.1), some (nD x.2)] (S' ++ [.lst ((sqs (n - w * w)).map prN)]) 2 w rfl
      have m2 := qR5 [some (nD n), some (nD b), some (nD w), some (nD x.1), some (nD x.2)] (S' ++ [.lst ((sqs (n - w * w)).map prN)]) 4 x.2 rfl
      have m3 := (qAt (o := qAq) m1 m2).trans (qLs _ _ _ (by split <;> omega))
      refine qBR (qBC (d := nD (b + qMK w x)) (S := S' ++ [.lst ((sqs (n - w * w)).map prN)]) ?_ ⟨rest, b + qMK w x, _, _, rfl, ?_, rfl, rfl⟩)
      ·refine (qAt (a := nD b) rfl m3).trans ((qJ4 _ _ _).trans ?_)
       unfold qMK
       rw [if_pos hx]
      ·rw [← hb]
       simp only [qJN]
       omega
     ·rw [decide_eq_false hx]
      simp only [Bool.false_eq_true, if_false]
      refine qBB rfl ⟨rest, b, _, _, rfl, ?_, rfl, rfl⟩
      rw [← hb]
      have : qMK w x = 0 := by unfold qMK; rw [if_neg hx]
      simp only [qJN, this]
      omega
   ·rintro env S2 ⟨rest, b, e3, e4, hds, hb, rfl, rfl⟩
    cases rest with
    | cons _ _ => cases hds
    | nil =>
     have hb' : b = a + qJN w (sqs (n - w * w)) := by simpa [qJN] using hb
     subst hb'
     refine qBR (qBC (d := nD (w + 1)) (S := S' ++ [.lst ((sqs (n - w * w)).map prN)]) ((qAt (a := nD w) (b := nD 1) rfl rfl).trans (qJ4 w 1 _)) ⟨g, by omega, w + 1, _, _, _, by omega, ?_, rfl, hpre.trans (List.prefix_append _ _)⟩)
     rw [← hp]
     conv => rhs; unfold pts
     rw [if_pos ht]
   ·exact ⟨_, a, e3, e4, rfl, rfl, rfl, rfl⟩
  ·rw [decide_eq_false ht]
   simp only [Bool.false_eq_true, if_false]
   have : pts n f w a = a := by
    cases f with
    | zero => rfl
    | succ f => unfold pts; rw [if_neg ht]
   rw [this] at hp
   subst hp
   exact qFh (qBC rfl ⟨rfl, hpre⟩)
 obtain ⟨d, S', e, rfl, hp⟩ := key
 exact ⟨S', by rw [qGM]; exact qDP rfl e, hp⟩
noncomputable def isP (p : Nat) : Bool := decide (2 ≤ p) && (List.range p).all fun d => decide (d < 2) || decide (p % d ≠ 0)
theorem qWp {p : Nat} (h : isP p = true) : Prm p := by
 unfold isP at h
 rw [Bool.and_eq_true, decide_eq_true_eq, List.all_eq_true] at h
 refine qQS p h.1 fun d h1 h2 h3 => ?_
 have := h.2 d (List.mem_range.mpr h1)
 rw [Bool.or_eq_true, decide_eq_true_eq, decide_eq_true_eq] at this
 rcases this with g | g
 ·omega
 ·exact g (Nat.mod_eq_zero_of_dvd h3)
noncomputable def okF (L : FL) (n : Nat) : Bool := L.all (fun x => isP x.1 && decide (1 ≤ x.2)) && decide ((L.map (·.1)).Nodup) && decide (qBf L = n)
theorem qQQ {L : FL} {n : Nat} (h : okF L n = true) : Fac L n := by
 unfold okF at h
 rw [Bool.and_eq_true, Bool.and_eq_true, List.all_eq_true, decide_eq_true_eq, decide_eq_true_eq] at h
 refine ⟨fun x hx => ?_, fun x hx => ?_, h.1.2, h.2⟩
 ·have := h.1.1 x hx
  rw [Bool.and_eq_true] at this
  exact qWp this.1
 ·have := h.1.1 x hx
  rw [Bool.and_eq_true, decide_eq_true_eq] at this
  exact this.2
noncomputable def fgo : Nat → Nat → Nat → FL → FL
 | 0, _, _, L => L
 | f + 1, r, d, L => if r ≤ 1 then L else if r % d = 0 then fgo f (r / d) d (inc d L) else fgo f r (d + 1) L
noncomputable def qQs (n : Nat) : FL := fgo 320 n 2 []
noncomputable def chk (n : Nat) : Bool := okF (qQs n) n && decide ((qB6 n : Int) = 4 * sgn (qQs n))
theorem qUJ : (List.range 300).all (fun i => chk (i + 1)) = true := kd
theorem qTc (n : Nat) (h : 1 ≤ n ∧ n ≤ 300) : Fac (qQs n) n ∧ (qB6 n : Int) = 4 * sgn (qQs n) := by
 have h1 := List.all_eq_true.mp qUJ (n - 1) (List.mem_range.mpr (by omega))
 have e : n - 1 + 1 = n := by omega
 rw [e] at h1
 unfold chk at h1
 rw [Bool.and_eq_true, decide_eq_true_eq] at h1
 exact ⟨qQQ h1.1, h1.2⟩
end K41
end
section
namespace K41
open PySem DL
theorem qQ2 {f1 f2 : DE} {env : qAI} {S S1 S2 : Sto} {a b : D} (h1 : f1 env S = .ok a S1) (h2 : f2 env S1 = .ok b S2) : qAv (qAA f1 (qAA f2 (qAE))) env S = .ok (.lst [a, b]) S2 := by
 have l2 : 2 ≤ lim := by decide
 simp only [qAv, qAA, qAE, h1, h2, Res.bind, List.length_cons, List.length_nil, Nat.zero_add, Nat.reduceAdd, l2, if_true]
theorem not_true {f : DE} {env : qAI} {S S' : Sto} (h : f env S = .ok (.bl true) S') : qCQ (dTr f) env S = .ok false S' := by
 simp only [qCQ, dTr, h, Res.bind, qJx, DL.qFr]
 rfl
theorem qTy {F : DF} {f1 f2 f3 : DE} {env : qAI} {S : Sto} {a b c : D} (h1 : f1 env S = .ok a S) (h2 : f2 env S = .ok b S) (h3 : f3 env S = .ok c S) : qAK 3 F (qAA f1 (qAA f2 (qAA f3 (qAE)))) env S = F [a, b, c] S := by
 simp only [qAK, qAA, qAE, h1, h2, h3, Res.bind, List.length_cons, List.length_nil, if_true]
theorem qPP (S : Sto) (b : Bool) (v : Int) : qBA [.lst [.bl b, .int v], .lst [.bl b, .int v]] S = .ok (.bl true) S := by
 rw [qHi]
 refine qSL 3 _ S ?_
 refine qXD (n := 1) (by omega) ?_
 intro x hx
 simp at hx
 rcases hx with rfl | rfl <;> trivial
noncomputable def qGL (n : Nat) (v : Int) : Prop := ∃ M, Fac M n ∧ v = 4 * sgn M ∧ 1 ≤ n ∧ n ≤ 1000000000000
theorem qOB (c : Cl) (n : Nat) (v : Int) (env : qAI) (S : Sto) (h1 : env[1]? = some (some (nD n))) (hg : qGL n v) : ∃ S', qAv (qAA (qAK 2 (qAh c) (qAA (dC (.int 0)) (qAA (qAD 1) (qAE)))) (qAA (qAK 2 (qAh c) (qAA (dC (.int 1)) (qAA (qAD 1) (qAE)))) (qAE))) env S = .ok (.lst [.bl (decide (0 < v)), .int v]) S' ∧ S <+: S' := by
 obtain ⟨M, hM, rfl, hn1, hn2⟩ := hg
 obtain ⟨S1, e1, p1⟩ := qYq n S c M hM ⟨hn1, hn2⟩
 obtain ⟨S2, e2, p2⟩ := qZU n S1 c M hM ⟨hn1, hn2⟩
 have hv : ∀ S : Sto, qAD 1 env S = .ok (nD n) S := fun S => by simp only [qAD, h1]
 exact ⟨S2, qQ2 ((qDT (a := .int 0) (b := nD n) rfl (hv _)).trans (qMR c 0 _ _ S S1 _ rfl e1)) ((qDT (a := .int 1) (b := nD n) rfl (hv _)).trans (qMR c 1 _ _ S1 S2 _ rfl e2)), p1.trans p2⟩
theorem qSJ (c : Cl) (n : Nat) (v : Int) (env : qAI) (S : Sto) (h1 : env[1]? = some (some (nD n))) (h2 : env[2]? = some (some (.int v))) (hg : qGL n v) : ∃ S', qCQ (dTr (qAK 2 qBA (qAA (qAv (qAA (qAK 2 (qAh c) (qAA (dC (.int 0)) (qAA (qAD 1) (qAE)))) (qAA (qAK 2 (qAh c) (qAA (dC (.int 1)) (qAA (qAD 1) (qAE)))) (qAE)))) (qAA (qAv (qAA (d2 gGt (qAD 2) (dC (.int 0))) (qAA (qAD 2) (qAE)))) (qAE))))) env S = .ok false S' ∧ S <+: S' := by
 obtain ⟨S1, e1, p1⟩ := qOB c n v env S h1 hg
 have hv : qAD 2 env S1 = .ok (.int v) S1 := by simp only [qAD, h2]
 have e2 : qAv (qAA (d2 gGt (qAD 2) (dC (.int 0))) (qAA (qAD 2) (qAE))) env S1 = .ok (.lst [.bl (decide (0 < v)), .int v]) S1 := by
  refine qQ2 (S1 := S1) ((qAt (a := .int v) (b := .int 0) hv rfl).trans ?_) hv
  simp only [gGt, i2, if_true]
 exact ⟨S1, not_true ((qDT e1 e2).trans (qPP S1 _ _)), p1⟩
theorem qXn (c : Cl) (n : Nat) (env : qAI) (S : Sto) (h1 : env[1]? = some (some (nD n))) (hg : qGL n 0) : ∃ S', qCQ (dTr (qAK 2 qBA (qAA (qAv (qAA (qAK 2 (qAh c) (qAA (dC (.int 0)) (qAA (qAD 1) (qAE)))) (qAA (qAK 2 (qAh c) (qAA (dC (.int 1)) (qAA (qAD 1) (qAE)))) (qAE)))) (qAA (qAv (qAA (dC (.bl false)) (qAA (dC (.int 0)) (qAE)))) (qAE))))) env S = .ok false S' ∧ S <+: S' := by
 obtain ⟨S1, e1, p1⟩ := qOB c n 0 env S h1 hg
 have e2 : qAv (qAA (dC (.bl false)) (qAA (dC (.int 0)) (qAE))) env S1 = .ok (.lst [.bl false, .int 0]) S1 := qQ2 rfl rfl
 have e1' : qAv (qAA (qAK 2 (qAh c) (qAA (dC (.int 0)) (qAA (qAD 1) (qAE)))) (qAA (qAK 2 (qAh c) (qAA (dC (.int 1)) (qAA (qAD 1) (qAE)))) (qAE))) env S = .ok (.lst [.bl false, .int 0]) S1 := e1
 exact ⟨S1, not_true ((qDT e1' e2).trans (qPP S1 false 0)), p1⟩
noncomputable def qQ4 : List (Nat × Int) := [(1, 4), (2, 4), (3, 0), (5, 8), (9, 4), (25, 12), (65, 16), (1000000000000, 52), (49, 4)]
theorem qDY {L : FL} {n : Nat} {v : Int} (h : okF L n = true) (hv : v = 4 * sgn L) (hn : 1 ≤ n ∧ n ≤ 1000000000000) : qGL n v := ⟨L, qQQ h, hv, hn.1, hn.2⟩
theorem qVF : ∀ x ∈ qQ4, qGL x.1 x.2 := by
 intro x hx
 simp only [qQ4, List.mem_cons, List.not_mem_nil, or_false] at hx
 rcases hx with rfl | rfl | rfl | rfl | rfl | rfl | rfl | rfl | rfl
 ·exact qDY (L := []) (kd) (kd) (by omega)
 ·exact qDY (L := [(2, 1)]) (kd) (kd) (by omega)
 ·exact qDY (L := [(3, 1)]) (kd) (kd) (by omega)
 ·exact qDY (L := [(5, 1)]) (kd) (kd) (by omega)
 ·exact qDY (L := [(3, 2)]) (kd) (kd) (by omega)
 ·exact qDY (L := [(5, 2)]) (kd) (kd) (by omega)
 ·exact qDY (L := [(5, 1), (13, 1)]) (kd) (kd) (by omega)
 ·exact qDY (L := [(2, 12), (5, 12)]) (kd) (kd) (by omega)
 ·exact qDY (L := [(7, 2)]) (kd) (kd) (by omega)
theorem qQ7 {p d : Nat} (h2 : 2 ≤ p) (h : p < d * d) (hd : ∀ e, e < d → 2 ≤ e → ¬ e ∣ p) : Prm p := qIm h2 h fun e h1 h3 => hd e h3 h1
theorem qVz : qGL 9996200261 0 ∧ qGL 999962000357 0 := by
 have a1 : ∀ e, e < 317 → 2 ≤ e → ¬ e ∣ 99991 := kd
 have a2 : ∀ e, e < 317 → 2 ≤ e → ¬ e ∣ 99971 := kd
 have a3 : ∀ e, e < 1000 → 2 ≤ e → ¬ e ∣ 999983 := kd
 have a4 : ∀ e, e < 1000 → 2 ≤ e → ¬ e ∣ 999979 := kd
 have f : ∀ p q : Nat, Prm p → Prm q → p ≠ q → Fac [(p, 1), (q, 1)] (p * q) := fun p q hp hq hne => by
  refine ⟨?_, ?_, ?_, ?_⟩
  ·intro x hx
   simp at hx
   rcases hx with rfl | rfl
   ·exact hp
   ·exact hq
  ·intro x hx
   simp at hx
   rcases hx with rfl | rfl <;> exact Nat.le_refl _
  ·simpa using hne
  ·simp [qBf]
 exact ⟨⟨[(99991, 1), (99971, 1)], f 99991 99971 (qQ7 (by omega) (by omega) a1) (qQ7 (by omega) (by omega) a2) (by omega), kd, by omega, by omega⟩,
  ⟨[(999983, 1), (999979, 1)], f 999983 999979 (qQ7 (by omega) (by omega) a3) (qQ7 (by omega) (by omega) a4) (by omega), kd, by omega, by omega⟩⟩
end K41
end
section
namespace K41
open PySem DL
noncomputable def qB7 (x : Nat × Int) : D := .tup [nD x.1, .int x.2]
theorem qVE (env : qAI) (S : Sto) : qCO (qAv (qAA (qBH (qAA (dC (.int 1)) (qAA (dC (.int 4)) (qAE)))) (qAA (qBH (qAA (dC (.int 2)) (qAA (dC (.int 4)) (qAE)))) (qAA (qBH (qAA (dC (.int 3)) (qAA (dC (.int 0)) (qAE)))) (qAA (qBH (qAA (dC (.int 5)) (qAA (dC (.int 8)) (qAE)))) (qAA (qBH (qAA (dC (.int 9)) (qAA (dC (.int 4)) (qAE)))) (qAA (qBH (qAA (dC (.int 25)) (qAA (dC (.int 12)) (qAE)))) (qAA (qBH (qAA (dC (.int 65)) (qAA (dC (.int 16)) (qAE)))) (qAA (qBH (qAA (d2 qB5 (dC (.int 10)) (dC (.int 12))) (qAA (dC (.int 52)) (qAE)))) (qAA (qBH (qAA (dC (.int 49)) (qAA (dC (.int 4)) (qAE)))) (qAE))))))))))) env S = .ok (qQ4.map qB7) S := by
 have l2 : 2 ≤ lim := by decide
 have l9 : 9 ≤ lim := by decide
 simp only [qCO, qAv, qBH, qAA, qAE, dC, d2, qEf, Res.bind, List.length_cons, List.length_nil, Nat.zero_add, Nat.reduceAdd, l2, l9, if_true, qQE]
 rfl
theorem qUF (env : qAI) (S : Sto) : qCO (qBH (qAA (d2 qAq (dC (.int 99991)) (dC (.int 99971))) (qAA (d2 qAq (dC (.int 999983)) (dC (.int 999979))) (qAE)))) env S = .ok ([9996200261, 999962000357].map nD) S := by
 have l2 : 2 ≤ lim := by decide
 have h1 := qOx 99991 99971 S ⟨by omega, by omega⟩
 have h2 := qOx 999983 999979 S ⟨by omega, by omega⟩
 simp only [qCO, qBH, qAA, qAE, dC, d2, h1, h2, Res.bind, List.length_cons, List.length_nil, Nat.zero_add, Nat.reduceAdd, l2, if_true, qU5]
 rfl
theorem qSf (ns : List Int) (hl : ns.length ≤ 63) (env : qAI) (S : Sto) (h0 : env[0]? = some (some (.lst (ns.map D.int)))) : ∃ ms : List Int, qCO (d2 qAx (qAv (qAA (qAK 2 qDE (qAA (qAD 0) (qAA (dC (.int 0)) (qAE)))) (qAE))) (dSl (qAD 0) (qGW (dC (.int 1))) (qGW (dC (.int 5))))) env S = .ok (ms.map D.int) S := by
 obtain ⟨x, hx⟩ := qXl ns S
 obtain ⟨ms, hm, hml⟩ := qUO ns (some 1) (some 5)
 refine ⟨x :: ms, ?_⟩
 have l1 : 1 ≤ lim := by decide
 have hs : gSl (.lst (ns.map D.int)) (some 1) (some 5) S = .ok (.lst (ms.map D.int)) S := by rw [← hm]; rfl
 have ha : qAx (.lst [.int x]) (.lst (ms.map D.int)) S = .ok (.lst (.int x :: ms.map D.int)) S := by
  have : [D.int x].length + (ms.map D.int).length ≤ lim := by
   rw [List.length_map]
   show 1 + ms.length ≤ lim
   unfold lim
   omega
  simp only [qAx, this, if_true]
  rfl
 simp only [qCO, d2, qAv, qAK, qAA, qAE, qAD, h0, dC, Res.bind, List.length_cons, List.length_nil, Nat.zero_add, l1, if_true, hx, dSl, qGW, hs, ha, qQE]
 rfl
theorem qYh (S : Sto) : qB5 (.int 10) (.int 6) S = .ok (.int 1000000) S := rfl
theorem qUs {g : DG} {t : DT} {k : DK} {d1 d2 : D} {env env1 env2 env3 env4 : qAI} {S S1 S2 : Sto} {acc acc1 acc2 : List D} (h1 : g d1 env S = .ok env1 S) (h2 : t env1 S = .ok true S) (h3 : k env1 S acc = .ok (env2, acc1) S1) (h4 : g d2 env2 S1 = .ok env3 S1) (h5 : t env3 S1 = .ok true S1) (h6 : k env3 S1 acc1 = .ok (env4, acc2) S2) :
  goL none g t k [d1, d2] env S acc = .ok (env4, acc2) S2 := by
 have hs : ∀ S : Sto, qJw none S = true := fun S => qC7.mpr trivial
 simp only [goL, hs, if_true, h1, h2, h3, h4, h5, h6, Res.bind]
theorem qRM (L : FL) (n q : Nat) (S : Sto) (hq : S[q]? = some (.dct (kvD L))) (hF : Fac L n) (hn : n ≤ 1000000000000) (ht : tot L ≤ 8) (acc : List D) (ha : acc.length < 10) : ∃ S', qDL (qBH (qAA (qAD 0) (qAA (qAK 1 (okO qBK) (qAA (qJW (qAD 1)) (qAE))) (qAE)))) [some (nD n), some (.loc q)] S acc = .ok ([some (nD n), some (.loc q)], acc ++ [qB7 (n, 4 * sgn L)]) S' ∧ (S.set q .dead) <+: S' := by
 obtain ⟨S', e, p⟩ := qYn L n (S.set q .dead) hF hn ht
 have l2 : 2 ≤ lim := by decide
 have hf : qJW (qAD 1) [some (nD n), some (.loc q)] S = .ok (fdL L) (S.set q .dead) := by
  simp only [qJW, qAD, List.getElem?_cons_zero, List.getElem?_cons_succ, Res.bind, hq]
  rfl
 have hc : qAK 1 (okO qBK) (qAA (qJW (qAD 1)) (qAE)) [some (nD n), some (.loc q)] S = .ok (.int (4 * sgn L)) S' := (qLi hf).trans (qXE e)
 refine ⟨S', ?_, p⟩
 refine qOj ?_ (by unfold lim; omega)
 simp only [qBH, qAA, qAE, qAD, List.getElem?_cons_zero, Res.bind, hc, List.length_cons, List.length_nil, Nat.zero_add, Nat.reduceAdd, l2, if_true]
 rfl
theorem qZG (S : Sto) : qIh (.lst [.str "number"]) (.int 4) S = .ok (.lst [.str "number", .str "number", .str "number", .str "number"]) S := by
 have h : (0 : Int) ≤ 4 ∧ (4 : Int) < 2 ^ 62 ∧ [D.str "number"].length * (4 : Int).toNat ≤ lim := ⟨by omega, by omega, by decide⟩
 simp only [qIh]
 rw [if_pos h]
 rfl
theorem qUm (S : Sto) : gNe (.lst [.str "number", .str "number", .str "number", .str "number"]) (.lst [.str "number", .str "number", .str "number", .str "number"]) S = .ok (.bl false) S := by
 have h1 : pl qEa (.lst [.str "number", .str "number", .str "number", .str "number"]) = true := rfl
 have h2 : eqD (.lst [.str "number", .str "number", .str "number", .str "number"]) (.lst [.str "number", .str "number", .str "number", .str "number"]) = true := kd
 simp only [gNe, h1, h2, Bool.and_self, if_true]
 rfl
theorem qZM {f1 f2 f3 f4 : DE} {env : qAI} {S : Sto} {a b c d : D} (h1 : f1 env S = .ok a S) (h2 : f2 env S = .ok b S) (h3 : f3 env S = .ok c S) (h4 : f4 env S = .ok d S) : qAv (qAA f1 (qAA f2 (qAA f3 (qAA f4 (qAE))))) env S = .ok (.lst [a, b, c, d]) S := by
 have l4 : 4 ≤ lim := by decide
 simp only [qAv, qAA, qAE, h1, h2, h3, h4, Res.bind, List.length_cons, List.length_nil, Nat.zero_add, Nat.reduceAdd, l4, if_true]
theorem qUD (env : qAI) (S : Sto) : qEX (qAA (dC (.int 2)) (qAE)) env S = .ok [.int 0, .int 1] S := by
 have h : qIp [.int 2] = some [.int 0, .int 1] := rfl
 simp! [h]
theorem qMC {S : Sto} {p j : Nat} {m : MO} (h : qCw S p) (hj : p ≠ j) : qCw (S.set j m) p := by
 obtain ⟨v, f, e⟩ := h
 exact ⟨v, f, by rw [List.getElem?_set_ne (Ne.symm hj)]; exact e⟩
end K41
end
section
namespace K41
open PySem DL
theorem qVK (env : qAI) (S : Sto) : d2 qIh (qAv (qAA (dC (.str "number")) (qAE))) (dC (.int 4)) env S = .ok (.lst [.str "number", .str "number", .str "number", .str "number"]) S := by
 have l1 : 1 ≤ lim := by decide
 have h : qAv (qAA (dC (.str "number")) (qAE)) env S = .ok (.lst [.str "number"]) S := by simp! [l1]
 exact (qAt h rfl).trans (qZG S)
inductive IvA (ns : List Int) (ds : List D) (env : qAI) (S : Sto) : Prop
 | mk (xs : List (Nat × Int)) (e1 e2 : Option D) (h_0 : ds = xs.map qB7) (h_1 : (∀ x ∈ xs, qGL x.1 x.2)) (h_2 : env = [some (.lst (ns.map D.int)), e1, e2, none, none, none, none, none, none, none, none]) : IvA ns ds env S
inductive IvB (ns : List Int) (e2 : Option D) (ds : List D) (env : qAI) (S : Sto) : Prop
 | mk (xs : List Nat) (e1 : Option D) (h_0 : ds = xs.map nD) (h_1 : (∀ x ∈ xs, qGL x 0)) (h_2 : env = [some (.lst (ns.map D.int)), e1, e2, none, none, none, none, none, none, none, none]) : IvB ns e2 ds env S
inductive IvC (ns : List Int) (ds : List D) (env : qAI) (S : Sto) : Prop
 | mk (ms : List Int) (e1 e2 e3 e4 e5 e6 e7 e8 e9 e10 : Option D) (h_0 : ds = ms.map D.int) (h_1 : env = [some (.lst (ns.map D.int)), e1, e2, e3, e4, e5, e6, e7, e8, e9, e10]) : IvC ns ds env S
inductive IvD (ns : List Int) (y : Int) (p k n1 n2 : Nat) (S1 S2 : Sto) (rows : List (Nat × Int)) (e9 e10 : Option D) (ds : List D) (env : qAI) (S : Sto) : Prop
 | mk (xs : List (Nat × Int)) (e1 e2 e8 : Option D) (h_0 : ds = xs.map qB7) (h_1 : (∀ x ∈ xs, qGL x.1 x.2)) (h_2 : env = [some (.lst (ns.map D.int)), e1, e2, some (.int y), some (.loc p), some (nD (k + 1)), some (.lst [.tup [nD n1, .loc S1.length], .tup [nD n2, .loc S2.length]]), some (.lst (rows.map qB7)), e8, e9, e10]) (h_3 : qCw S p) : IvD ns y p k n1 n2 S1 S2 rows e9 e10 ds env S
inductive IvE (ns : List Int) (y : Int) (p k n1 n2 : Nat) (S1 S2 : Sto) (rows : List (Nat × Int)) (e9 e10 : Option D) (x : Nat × Int) (ds_ : List D) (env : qAI) (S : Sto) : Prop
 | mk (e8 : Option D) (h_0 : env = [some (.lst (ns.map D.int)), some (nD x.1), some (.int x.2), some (.int y), some (.loc p), some (nD (k + 1)), some (.lst [.tup [nD n1, .loc S1.length], .tup [nD n2, .loc S2.length]]), some (.lst (rows.map qB7)), e8, e9, e10]) (h_1 : qCw S p) : IvE ns y p k n1 n2 S1 S2 rows e9 e10 x ds_ env S
theorem qTA (c : Cl) (nd : (qCC c).Nodup) (ns : List Int) (hl : ns.length ≤ 63) : ∃ S, qAd 11 (qNr c) [.lst (ns.map D.int)] [] = .ok (.bl true) S := by
 have key : Rt (qNr c [some (.lst (ns.map D.int)), none, none, none, none, none, none, none, none, none, none] []) fun d _ => d = .bl true := by
  unfold qNr
  refine qA1 (qEc (qVE _ _) ?_)
  refine qDa (IvA ns) ?_ ?_ ⟨qQ4, none, none, rfl, qVF, rfl⟩
  ·rintro d ds env S ⟨xs, e1, e2, hds, hx, rfl⟩
   cases xs with
   | nil => cases hds
   | cons x xs =>
    injection hds with h1 h2
    subst h1 h2
    refine ⟨[some (.lst (ns.map D.int)), some (nD x.1), some (.int x.2), none, none, none, none, none, none, none, none], S, rfl, ?_⟩
    obtain ⟨S1, e, _⟩ := qSJ c x.1 x.2 [some (.lst (ns.map D.int)), some (nD x.1), some (.int x.2), none, none, none, none, none, none, none, none] S rfl rfl (hx x (List.mem_cons_self ..))
    exact qCR e (qBB rfl ⟨xs, _, _, rfl, fun y hy => hx y (List.mem_cons_of_mem _ hy), rfl⟩)
  ·rintro env S ⟨xs, e1, e2, _, _, rfl⟩
   refine qA1 (qEc (qUF _ _) ?_)
   refine qDa (IvB ns e2) ?_ ?_ ⟨_, e1, rfl, ?_, rfl⟩
   ·rintro d ds env S ⟨xs, e1, hds, hx, rfl⟩
    cases xs with
    | nil => cases hds
    | cons x xs =>
     injection hds with h1 h2
     subst h1 h2
     refine ⟨[some (.lst (ns.map D.int)), some (nD x), e2, none, none, none, none, none, none, none, none], S, rfl, ?_⟩
     obtain ⟨S1, e, _⟩ := qXn c x [some (.lst (ns.map D.int)), some (nD x), e2, none, none, none, none, none, none, none, none] S rfl (hx x (List.mem_cons_self ..))
     exact qCR e (qBB rfl ⟨xs, _, rfl, fun y hy => hx y (List.mem_cons_of_mem _ hy), rfl⟩)
   ·rintro env S ⟨xs, e1, _, _, rfl⟩
    obtain ⟨ms, hms⟩ := qSf ns hl [some (.lst (ns.map D.int)), e1, e2, none, none, none, none, none, none, none, none] S rfl
    refine qA1 (qEc hms ?_)
    refine qDa (IvC ns) ?_ ?_ ⟨ms, _, _, _, _, _, _, _, _, _, _, rfl, rfl⟩
    ·rintro d ds env S ⟨ms, e1, e2, e3, e4, e5, e6, e7, e8, e9, e10, hds, rfl⟩
     cases ms with
     | nil => cases hds
     | cons y ms =>
      injection hds with h1 h2
      subst h1 h2
      refine ⟨[some (.lst (ns.map D.int)), e1, e2, some (.int y), e4, e5, e6, e7, e8, e9, e10], S, rfl, ?_⟩
      obtain ⟨f, hpen⟩ := qYo y S
      refine qB9 (qBR (qBC ((qLi (a := .int y) rfl).trans hpen) ?_))
      have p0 : qCw (S ++ [.lst [.int y, .int f]]) S.length := ⟨y, f, by simp⟩
      generalize S ++ [.lst [.int y, .int f]] = S0 at p0
      generalize S.length = p at p0
      simp only [List.set_cons_succ, List.set_cons_zero]
      obtain ⟨r, v, f, ed, h1, h2⟩ := qPG S0 p 300 p0 (by omega)
      obtain ⟨k, rfl⟩ := Int.eq_ofNat_of_zero_le h1
      have p1 := qLN p0 v f
      generalize hS1 : S0.set p (.lst [.int v, .int f]) = S1 at p1 ed
      obtain ⟨n1, L1, S2, e1', P1, F1, t1, n1a, n1b⟩ := qNb S1 p 1000000000000 p1 (by omega)
      obtain ⟨n2, L2, S3, e2', P2, F2, t2, n2a, n2b⟩ := qNb S2 p 1000000 P1.pen (by omega)
      have hp1 : p < S1.length := by
       obtain ⟨v, f, e⟩ := p1
       exact (List.getElem?_eq_some_iff.mp e).1
      have hq1 : S1.length < S2.length := (List.getElem?_eq_some_iff.mp P1.dct).1
      have hd1 : S3[S1.length]? = some (.dct (kvD L1)) := by
       rw [P2.old S1.length hq1 (by omega)]
       exact P1.dct
      have c1 : d2 qAx (dC (.int 1)) (qAK 2 qAm (qAA (qAD 4) (qAA (dC (.int 300)) (qAE)))) [some (.lst (ns.map D.int)), e1, e2, some (.int y), some (.loc p), e5, e6, e7, e8, e9, e10] S0 = .ok (nD (k + 1)) S1 := by
       have : qAK 2 qAm (qAA (qAD 4) (qAA (dC (.int 300)) (qAE))) [some (.lst (ns.map D.int)), e1, e2, some (.int y), some (.loc p), e5, e6, e7, e8, e9, e10] S0 = .ok (.int (k : Int)) S1 := (qDT (a := .loc p) (b := .int 300) rfl rfl).trans ed
       refine (qAt rfl this).trans ((qCa _ _ _).trans ?_)
       have e : (1 : Int) + (k : Int) = ((k + 1 : Nat) : Int) := by omega
       rw [e]
       rfl
      have c2 : qAv (qAA (qAK 2 qBE (qAA (qAD 4) (qAA (d2 qB5 (dC (.int 10)) (dC (.int 12))) (qAE)))) (qAA (qAK 2 qBE (qAA (qAD 4) (qAA (d2 qB5 (dC (.int 10)) (dC (.int 6))) (qAE)))) (qAE))) [some (.lst (ns.map D.int)), e1, e2, some (.int y), some (.loc p), e5, e6, e7, e8, e9, e10] S1 = .ok (.lst [.tup [nD n1, .loc S1.length], .tup [nD n2, .loc S2.length]]) S3 := by
       refine qQ2 (S1 := S2) ((qDT (a := .loc p) (b := .int 1000000000000) (S1 := S1) (S2 := S1) rfl ?_).trans e1') ((qDT (a := .loc p) (b := .int 1000000) (S1 := S2) (S2 := S2) rfl ?_).trans e2')
       ·exact (qAt rfl rfl).trans (qEf _)
       ·exact (qAt rfl rfl).trans (qYh _)
      refine qB9 (qBB (env := [some (.lst (ns.map D.int)), e1, e2, some (.int y), some (.loc p), some (nD (k + 1)), some (.lst [.tup [nD n1, .loc S1.length], .tup [nD n2, .loc S2.length]]), e7, e8, e9, e10]) (S := S3) (by
       generalize d2 qAx (dC (.int 1)) (qAK 2 qAm (qAA (qAD 4) (qAA (dC (.int 300)) (qAE)))) = x1 at c1 ⊢
       generalize qAv (qAA (qAK 2 qBE (qAA (qAD 4) (qAA (d2 qB5 (dC (.int 10)) (dC (.int 12))) (qAE)))) (qAA (qAK 2 qBE (qAA (qAD 4) (qAA (d2 qB5 (dC (.int 10)) (dC (.int 6))) (qAE)))) (qAE))) = x2 at c2 ⊢
       unfold qLT
       simp only [qAA, qAE, c1, c2, Res.bind, Res.toS, qMB, List.set_cons_succ, List.set_cons_zero]) ?_)
      obtain ⟨S4, e4', q4⟩ := qTX (k + 1) S3 (by omega)
      obtain ⟨sm1, sm2⟩ := qTc (k + 1) (by omega)
      have hd1' := qGH hd1 q4
      have hd2' := qGH P2.dct q4
      have pen4 := qIN P2.pen q4
      have hq2 : S2.length < S4.length := (List.getElem?_eq_some_iff.mp hd2').1
      obtain ⟨S5, k1, q5⟩ := qRM L1 n1 S1.length S4 hd1' F1 n1b t1 [] (by simp)
      have hd2'' : S5[S2.length]? = some (.dct (kvD L2)) := qGH (by rw [List.getElem?_set_ne (by omega)]; exact hd2') q5
      have pen5 : qCw S5 p := qIN (qMC pen4 (by omega)) q5
      obtain ⟨S6, k2, q6⟩ := qRM L2 n2 S2.length S5 hd2'' F2 (by omega) t2 ([] ++ [qB7 (n1, 4 * sgn L1)]) (by simp)
      have pen6 : qCw S6 p := qIN (qMC pen5 (by omega)) q6
      have hcomp : qDw false [none, none] (dIt (qAD 6)) (gTp 2 (qBX (gNm 0) (qBX (gNm 1) (qD5)))) (qIe) (qDL (qBH (qAA (qAD 0) (qAA (qAK 1 (okO qBK) (qAA (qJW (qAD 1)) (qAE))) (qAE))))) [some (.lst (ns.map D.int)), e1, e2, some (.int y), some (.loc p), some (nD (k + 1)), some (.lst [.tup [nD n1, .loc S1.length], .tup [nD n2, .loc S2.length]]), e7, e8, e9, e10] S4 = .ok (.lst ([] ++ [qB7 (n1, 4 * sgn L1)] ++ [qB7 (n2, 4 * sgn L2)])) S6 :=
       qNQ (o := none) (items := [.tup [nD n1, .loc S1.length], .tup [nD n2, .loc S2.length]]) rfl (qUs (env1 := [some (nD n1), some (.loc S1.length)]) (env3 := [some (nD n2), some (.loc S2.length)]) rfl rfl k1 rfl rfl k2)
      have hpts : qAv (qAA (qBH (qAA (qAD 5) (qAA (qAK 1 qBp (qAA (qAD 5) (qAE))) (qAE)))) (qAE)) [some (.lst (ns.map D.int)), e1, e2, some (.int y), some (.loc p), some (nD (k + 1)), some (.lst [.tup [nD n1, .loc S1.length], .tup [nD n2, .loc S2.length]]), e7, e8, e9, e10] S3 = .ok (.lst [qB7 (k + 1, (qB6 (k + 1) : Int))]) S4 := by
       have l1 : 1 ≤ lim := by decide
       have l2 : 2 ≤ lim := by decide
       have : qAK 1 qBp (qAA (qAD 5) (qAE)) [some (.lst (ns.map D.int)), e1, e2, some (.int y), some (.loc p), some (nD (k + 1)), some (.lst [.tup [nD n1, .loc S1.length], .tup [nD n2, .loc S2.length]]), e7, e8, e9, e10] S3 = .ok (nD (qB6 (k + 1))) S4 := (qLi (a := nD (k + 1)) rfl).trans e4'
       generalize qAK 1 qBp (qAA (qAD 5) (qAE)) = x1 at this ⊢
       simp only [qAv, qBH, qAA, qAE, qAD, List.getElem?_cons_zero, List.getElem?_cons_succ, this, Res.bind, List.length_cons, List.length_nil, Nat.zero_add, Nat.reduceAdd, l1, l2, if_true]
       rfl
      have hrows : ∀ x ∈ ([(k + 1, (qB6 (k + 1) : Int)), (n1, 4 * sgn L1), (n2, 4 * sgn L2)] : List (Nat × Int)), qGL x.1 x.2 := by
       intro x hx
       simp only [List.mem_cons, List.not_mem_nil, or_false] at hx
       rcases hx with rfl | rfl | rfl
       ·exact ⟨_, sm1, sm2, by omega, by omega⟩
       ·exact ⟨_, F1, rfl, n1a, n1b⟩
       ·exact ⟨_, F2, rfl, n2a, by omega⟩
      have hadd : ∀ S : Sto, qAx (.lst [qB7 (k + 1, (qB6 (k + 1) : Int))]) (.lst ([] ++ [qB7 (n1, 4 * sgn L1)] ++ [qB7 (n2, 4 * sgn L2)])) S = .ok (.lst ([(k + 1, (qB6 (k + 1) : Int)), (n1, 4 * sgn L1), (n2, 4 * sgn L2)].map qB7)) S := fun S => by
       have : [qB7 (k + 1, (qB6 (k + 1) : Int))].length + ([] ++ [qB7 (n1, 4 * sgn L1)] ++ [qB7 (n2, 4 * sgn L2)]).length ≤ lim := by
        show 3 ≤ lim
        decide
       simp only [qAx, this, if_true]
       rfl
      refine qB9 (qBR (qBC ((qAt hpts hcomp).trans (hadd S6)) ?_))
      simp only [List.set_cons_succ, List.set_cons_zero]
      generalize [(k + 1, (qB6 (k + 1) : Int)), (n1, 4 * sgn L1), (n2, 4 * sgn L2)] = rows at hrows
      clear hadd hpts hcomp k1 k2 e4' c1 c2 e1' e2' ed
      refine qB9 (qEc (ds := rows.map qB7) (S1 := S6) rfl ?_)
      refine qDa (IvD ns y p k n1 n2 S1 S2 rows e9 e10) ?_ ?_ ⟨rows, e1, e2, e8, rfl, hrows, rfl, pen6⟩
      ·rintro d ds env S ⟨xs, e1, e2, e8, hds, hx, rfl, hp⟩
       cases xs with
       | nil => cases hds
       | cons x xs =>
        injection hds with h1 h2
        subst h1 h2
        have hg := hx x (List.mem_cons_self ..)
        refine ⟨[some (.lst (ns.map D.int)), some (nD x.1), some (.int x.2), some (.int y), some (.loc p), some (nD (k + 1)), some (.lst [.tup [nD n1, .loc S1.length], .tup [nD n2, .loc S2.length]]), some (.lst (rows.map qB7)), e8, e9, e10], S, rfl, ?_⟩
        refine qEc (qUD _ _) ?_
        refine qDa (IvE ns y p k n1 n2 S1 S2 rows e9 e10 x) ?_ ?_ ⟨e8, rfl, hp⟩
        ·rintro d ds env S ⟨e8, rfl, hp⟩
         refine ⟨[some (.lst (ns.map D.int)), some (nD x.1), some (.int x.2), some (.int y), some (.loc p), some (nD (k + 1)), some (.lst [.tup [nD n1, .loc S1.length], .tup [nD n2, .loc S2.length]]), some (.lst (rows.map qB7)), some d, e9, e10], S, rfl, ?_⟩
         obtain ⟨S', e, q⟩ := qSJ c x.1 x.2 [some (.lst (ns.map D.int)), some (nD x.1), some (.int x.2), some (.int y), some (.loc p), some (nD (k + 1)), some (.lst [.tup [nD n1, .loc S1.length], .tup [nD n2, .loc S2.length]]), some (.lst (rows.map qB7)), some d, e9, e10] S rfl rfl hg
         exact qCR e (qBB rfl ⟨_, rfl, qIN hp q⟩)
        ·rintro env S ⟨e8, rfl, hp⟩
         exact ⟨xs, _, _, _, rfl, fun y hy => hx y (List.mem_cons_of_mem _ hy), rfl, hp⟩
      ·rintro env S ⟨xs, e1, e2, e8, _, _, rfl, hp⟩
       obtain ⟨d1, v1, f1, en1, hn1⟩ := qKe S p 0 1000000000000 hp (by omega)
       have hp' := qLN hp v1 f1
       generalize S.set p (.lst [.int v1, .int f1]) = Sa at hp' en1
       obtain ⟨d2', v2, f2, en2, hn2⟩ := qKe Sa p 1 1000000000000 hp' (by omega)
       generalize Sa.set p (.lst [.int v2, .int f2]) = Sb at en2
       have x1 : qAK 3 qA2 (qAA (qAD 4) (qAA (dC (.int 0)) (qAA (d2 qB5 (dC (.int 10)) (dC (.int 12))) (qAE)))) [some (.lst (ns.map D.int)), e1, e2, some (.int y), some (.loc p), some (nD (k + 1)), some (.lst [.tup [nD n1, .loc S1.length], .tup [nD n2, .loc S2.length]]), some (.lst (rows.map qB7)), e8, e9, e10] S = .ok d1 Sa := (qTy (a := .loc p) (b := .int 0) (c := .int 1000000000000) rfl rfl ((qAt rfl rfl).trans (qEf _))).trans en1
       have x2 : qAK 3 qA2 (qAA (qAD 4) (qAA (dC (.int 1)) (qAA (d2 qB5 (dC (.int 10)) (dC (.int 12))) (qAE)))) [some (.lst (ns.map D.int)), e1, e2, some (.int y), some (.loc p), some (nD (k + 1)), some (.lst [.tup [nD n1, .loc S1.length], .tup [nD n2, .loc S2.length]]), some (.lst (rows.map qB7)), e8, e9, e10] Sa = .ok d2' Sb := (qTy (a := .loc p) (b := .int 1) (c := .int 1000000000000) rfl rfl ((qAt rfl rfl).trans (qEf _))).trans en2
       refine qB9 (qBB (env := [some (.lst (ns.map D.int)), e1, e2, some (.int y), some (.loc p), some (nD (k + 1)), some (.lst [.tup [nD n1, .loc S1.length], .tup [nD n2, .loc S2.length]]), some (.lst (rows.map qB7)), e8, some d1, some d2']) (S := Sb) (by
        generalize qAK 3 qA2 (qAA (qAD 4) (qAA (dC (.int 0)) (qAA (d2 qB5 (dC (.int 10)) (dC (.int 12))) (qAE)))) = z1 at x1 ⊢
        generalize qAK 3 qA2 (qAA (qAD 4) (qAA (dC (.int 1)) (qAA (d2 qB5 (dC (.int 10)) (dC (.int 12))) (qAE)))) = z2 at x2 ⊢
        unfold qLT
        simp only [qAA, qAE, x1, x2, Res.bind, Res.toS, qMB, List.set_cons_succ, List.set_cons_zero]) ?_)
       have y1 := qJ0 c nd 0 d1 Sb Sb _ rfl (qR3 d1 Sb c hn1)
       have y2 := qJ0 c nd 1 d2' Sb Sb _ rfl (qT6 d2' Sb c hn2)
       have y3 := qJ0 c nd 1 (.int 0) Sb Sb _ rfl (qT6 (.int 0) Sb c (qGp (by omega)))
       have y4 := qJ0 c nd 0 (.int (-1)) Sb Sb _ rfl (qR3 (.int (-1)) Sb c (qGp (by omega)))
       have w1 := qVK [some (.lst (ns.map D.int)), e1, e2, some (.int y), some (.loc p), some (nD (k + 1)), some (.lst [.tup [nD n1, .loc S1.length], .tup [nD n2, .loc S2.length]]), some (.lst (rows.map qB7)), e8, some d1, some d2'] Sb
       refine qCR (b := false) (S1 := Sb) (qGF ((qAt (qZM ((qDT rfl rfl).trans y1) ((qDT rfl rfl).trans y2) ((qDT rfl rfl).trans y3) ((qDT (b := .int (-1)) rfl rfl).trans y4)) w1).trans (qUm Sb))) ?_
       exact qBB rfl ⟨ms, _, _, _, _, _, _, _, _, _, _, rfl, rfl⟩
    ·rintro env S ⟨ms, e1, e2, e3, e4, e5, e6, e7, e8, e9, e10, _, rfl⟩
     have hz := qMR c 0 (.int 0) (.bl true) S S _ rfl (qXm S c)
     refine qFh (qBC (d := .bl true) (S := S) ?_ rfl)
     exact (qAt (b := .bl true) ((qDT (a := .int 0) (b := .int 0) rfl rfl).trans hz) rfl).trans rfl
   ·intro x hx
    simp only [List.mem_cons, List.not_mem_nil, or_false] at hx
    rcases hx with rfl | rfl
    ·exact qVz.1
    ·exact qVz.2
 obtain ⟨d, S', e, rfl⟩ := key
 exact ⟨S', qDP rfl e⟩
end K41
end
section
namespace K41
open PySem PySem.Spec PyProof.Rows L2 DL
theorem qPf (kV doc pm : Value) (an : Option Addr) (cdv ct : Value) : ∀ (us : List Value), us.length = ["thing"].length → bindArgs (PySem.W.fnOf "is_whole" "is_whole" (qAX (top 14)) (qAP (top 14)) (qAB (top 14)) .none kV doc pm an cdv ct) ⟨us, []⟩ = pure (List.zip (["thing"] : List Str) us) := by
 intro us h; obtain ⟨_, rfl⟩ := us1 h; rfl
theorem qN7 (kV doc pm : Value) (an : Option Addr) (cdv ct : Value) : ∀ (us : List Value), us.length = ["thing", "least", "most"].length → bindArgs (PySem.W.fnOf "is_within" "is_within" (qAX (top 15)) (qAP (top 15)) (qAB (top 15)) .none kV doc pm an cdv ct) ⟨us, []⟩ = pure (List.zip (["thing", "least", "most"] : List Str) us) := by
 intro us h; obtain ⟨_, _, _, rfl⟩ := us3 h; rfl
theorem qMN (kV doc pm : Value) (an : Option Addr) (cdv ct : Value) : ∀ (us : List Value), us.length = ["thing", "least", "most"].length → bindArgs (PySem.W.fnOf "need_within" "need_within" (qAX (top 16)) (qAP (top 16)) (qAB (top 16)) .none kV doc pm an cdv ct) ⟨us, []⟩ = pure (List.zip (["thing", "least", "most"] : List Str) us) := by
 intro us h; obtain ⟨_, _, _, rfl⟩ := us3 h; rfl
theorem qN9 (kV doc pm : Value) (an : Option Addr) (cdv ct : Value) : ∀ (us : List Value), us.length = ["number"].length → bindArgs (PySem.W.fnOf "primes_in" "primes_in" (qAX (top 18)) (qAP (top 18)) (qAB (top 18)) .none kV doc pm an cdv ct) ⟨us, []⟩ = pure (List.zip (["number"] : List Str) us) := by
 intro us h; obtain ⟨_, rfl⟩ := us1 h; rfl
theorem qI4 (kV doc pm : Value) (an : Option Addr) (cdv ct : Value) : ∀ (us : List Value), us.length = ["primes"].length → bindArgs (PySem.W.fnOf "points_by_primes" "points_by_primes" (qAX (top 19)) (qAP (top 19)) (qAB (top 19)) .none kV doc pm an cdv ct) ⟨us, []⟩ = pure (List.zip (["primes"] : List Str) us) := by
 intro us h; obtain ⟨_, rfl⟩ := us1 h; rfl
theorem qKj (kV doc pm : Value) (an : Option Addr) (cdv ct : Value) : ∀ (us : List Value), us.length = ["number"].length → bindArgs (PySem.W.fnOf "circle_points" "circle_points" (qAX (top 20)) (qAP (top 20)) (qAB (top 20)) .none kV doc pm an cdv ct) ⟨us, []⟩ = pure (List.zip (["number"] : List Str) us) := by
 intro us h; obtain ⟨_, rfl⟩ := us1 h; rfl
theorem qRI (kV doc pm : Value) (an : Option Addr) (cdv ct : Value) : ∀ (us : List Value), us.length = ["number"].length → bindArgs (PySem.W.fnOf "is_sum" "is_sum" (qAX (top 21)) (qAP (top 21)) (qAB (top 21)) .none kV doc pm an cdv ct) ⟨us, []⟩ = pure (List.zip (["number"] : List Str) us) := by
 intro us h; obtain ⟨_, rfl⟩ := us1 h; rfl
theorem qN8 (kV doc pm : Value) (an : Option Addr) (cdv ct : Value) : ∀ (us : List Value), us.length = ["number"].length → bindArgs (PySem.W.fnOf "on_circle" "on_circle" (qAX (top 22)) (qAP (top 22)) (qAB (top 22)) .none kV doc pm an cdv ct) ⟨us, []⟩ = pure (List.zip (["number"] : List Str) us) := by
 intro us h; obtain ⟨_, rfl⟩ := us1 h; rfl
theorem qN4 (kV doc pm : Value) (an : Option Addr) (cdv ct : Value) : ∀ (us : List Value), us.length = ["_law_script", "_law_k"].length → bindArgs (PySem.W.fnOf "_law_cell" "_law_cell" (qAX (top 24)) (qAP (top 24)) (qAB (top 24)) .none kV doc pm an cdv ct) ⟨us, []⟩ = pure (List.zip (["_law_script", "_law_k"] : List Str) us) := by
 intro us h; obtain ⟨_, _, rfl⟩ := us2 h; rfl
theorem qPe (kV doc pm : Value) (an : Option Addr) (cdv ct : Value) : ∀ (us : List Value), us.length = ["_law_cell_here"].length → bindArgs (PySem.W.fnOf "_law_pen" "_law_pen" (qAX (top 25)) (qAP (top 25)) (qAB (top 25)) .none kV doc pm an cdv ct) ⟨us, []⟩ = pure (List.zip (["_law_cell_here"] : List Str) us) := by
 intro us h; obtain ⟨_, rfl⟩ := us1 h; rfl
theorem qN5 (kV doc pm : Value) (an : Option Addr) (cdv ct : Value) : ∀ (us : List Value), us.length = ["_law_pen_here", "_law_many"].length → bindArgs (PySem.W.fnOf "_law_draw" "_law_draw" (qAX (top 26)) (qAP (top 26)) (qAB (top 26)) .none kV doc pm an cdv ct) ⟨us, []⟩ = pure (List.zip (["_law_pen_here", "_law_many"] : List Str) us) := by
 intro us h; obtain ⟨_, _, rfl⟩ := us2 h; rfl
theorem qN6 (kV doc pm : Value) (an : Option Addr) (cdv ct : Value) : ∀ (us : List Value), us.length = ["_law_found", "_law_due"].length → bindArgs (PySem.W.fnOf "_law_same" "_law_same" (qAX (top 27)) (qAP (top 27)) (qAB (top 27)) .none kV doc pm an cdv ct) ⟨us, []⟩ = pure (List.zip (["_law_found", "_law_due"] : List Str) us) := by
 intro us h; obtain ⟨_, _, rfl⟩ := us2 h; rfl
theorem qLf (kV doc pm : Value) (an : Option Addr) (cdv ct : Value) : ∀ (us : List Value), us.length = ["_law_e"].length → bindArgs (PySem.W.fnOf "_law_kind_of" "_law_kind_of" (qAX (top 28)) (qAP (top 28)) (qAB (top 28)) .none kV doc pm an cdv ct) ⟨us, []⟩ = pure (List.zip (["_law_e"] : List Str) us) := by
 intro us h; obtain ⟨_, rfl⟩ := us1 h; rfl
theorem qKE (kV doc pm : Value) (an : Option Addr) (cdv ct : Value) : ∀ (us : List Value), us.length = ["_law_pen_here", "_law_low", "_law_high"].length → bindArgs (PySem.W.fnOf "_law_no_number" "_law_no_number" (qAX (top 29)) (qAP (top 29)) (qAB (top 29)) .none kV doc pm an cdv ct) ⟨us, []⟩ = pure (List.zip (["_law_pen_here", "_law_low", "_law_high"] : List Str) us) := by
 intro us h; obtain ⟨_, _, _, rfl⟩ := us3 h; rfl
theorem qLh (kV doc pm : Value) (an : Option Addr) (cdv ct : Value) : ∀ (us : List Value), us.length = ["_law_number"].length → bindArgs (PySem.W.fnOf "_law_squares" "_law_squares" (qAX (top 30)) (qAP (top 30)) (qAB (top 30)) .none kV doc pm an cdv ct) ⟨us, []⟩ = pure (List.zip (["_law_number"] : List Str) us) := by
 intro us h; obtain ⟨_, rfl⟩ := us1 h; rfl
theorem qKi (kV doc pm : Value) (an : Option Addr) (cdv ct : Value) : ∀ (us : List Value), us.length = ["_law_number"].length → bindArgs (PySem.W.fnOf "_law_is_prime" "_law_is_prime" (qAX (top 31)) (qAP (top 31)) (qAB (top 31)) .none kV doc pm an cdv ct) ⟨us, []⟩ = pure (List.zip (["_law_number"] : List Str) us) := by
 intro us h; obtain ⟨_, rfl⟩ := us1 h; rfl
theorem qLg (kV doc pm : Value) (an : Option Addr) (cdv ct : Value) : ∀ (us : List Value), us.length = ["_law_pen_here", "_law_most"].length → bindArgs (PySem.W.fnOf "_law_product" "_law_product" (qAX (top 32)) (qAP (top 32)) (qAB (top 32)) .none kV doc pm an cdv ct) ⟨us, []⟩ = pure (List.zip (["_law_pen_here", "_law_most"] : List Str) us) := by
 intro us h; obtain ⟨_, _, rfl⟩ := us2 h; rfl
theorem qN3 (kV doc pm : Value) (an : Option Addr) (cdv ct : Value) : ∀ (us : List Value), us.length = ["_law_way", "_law_number"].length → bindArgs (PySem.W.fnOf "_law_came" "_law_came" (qAX (top 33)) (qAP (top 33)) (qAB (top 33)) .none kV doc pm an cdv ct) ⟨us, []⟩ = pure (List.zip (["_law_way", "_law_number"] : List Str) us) := by
 intro us h; obtain ⟨_, _, rfl⟩ := us2 h; rfl
theorem qMM (kV doc pm : Value) (an : Option Addr) (cdv ct : Value) : ∀ (us : List Value), us.length = ["_law_number"].length → bindArgs (PySem.W.fnOf "_law_points" "_law_points" (qAX (top 34)) (qAP (top 34)) (qAB (top 34)) .none kV doc pm an cdv ct) ⟨us, []⟩ = pure (List.zip (["_law_number"] : List Str) us) := by
 intro us h; obtain ⟨_, rfl⟩ := us1 h; rfl
theorem qKD (kV doc pm : Value) (an : Option Addr) (cdv ct : Value) : ∀ (us : List Value), us.length = ["_law_primes"].length → bindArgs (PySem.W.fnOf "_law_by_primes" "_law_by_primes" (qAX (top 35)) (qAP (top 35)) (qAB (top 35)) .none kV doc pm an cdv ct) ⟨us, []⟩ = pure (List.zip (["_law_primes"] : List Str) us) := by
 intro us h; obtain ⟨_, rfl⟩ := us1 h; rfl
theorem qVy (kV doc pm : Value) (an : Option Addr) (cdv ct : Value) : ∀ (us : List Value), us.length = ["_law_script"].length → bindArgs (PySem.W.fnOf "law" "law" (qAX (top 36)) (qAP (top 36)) (qAB (top 36)) .none kV doc pm an cdv ct) ⟨us, []⟩ = pure (List.zip (["_law_script"] : List Str) us) := by
 intro us h; obtain ⟨_, rfl⟩ := us1 h; rfl
theorem qXx {K : PySem.W.Frag} {h : Heap} {mg : Str → Option Value} (X : K.In h) (G : h.Ns mainGlobals mg) {f_15 f_16 f_17 f_20 f_19 f_13 f_14 f_18 f_3 f_8 f_4 f_11 f_6 f_7 f_12 f_5 f_10 f_2 f_9 f_1 f_law C_FarError C_NoPoint C_NoLot C_NoNumber C_NoCircle C_NoMarks C_NoFars C_NoText C_NoLine C_NoDeed C_Alike C_TooMany : Addr}
  {oc_15 kV_15 doc_15 pm_15 cd_15 ct_15 : Value} {od_15 an_15 : Option Addr} {sl_15 : Array (Option Value)} (a_15 : PySem.W.nsIn K mainGlobals "is_whole" = some (some (.ref f_15)))
  (l_15 : K.lookup f_15 = some ⟨oc_15, od_15, .func (PySem.W.fnOf "is_whole" "is_whole" (qAX (top 14)) (qAP (top 14)) (qAB (top 14)) .none kV_15 doc_15 pm_15 an_15 cd_15 ct_15), sl_15⟩) (c_15 : PySem.W.codeIn K cd_15 "is_whole" = true) (k_15 : PySem.W.keepIn K (.ref f_15) = true)
  {oc_16 kV_16 doc_16 pm_16 cd_16 ct_16 : Value} {od_16 an_16 : Option Addr} {sl_16 : Array (Option Value)} (a_16 : PySem.W.nsIn K mainGlobals "is_within" = some (some (.ref f_16)))
  (l_16 : K.lookup f_16 = some ⟨oc_16, od_16, .func (PySem.W.fnOf "is_within" "is_within" (qAX (top 15)) (qAP (top 15)) (qAB (top 15)) .none kV_16 doc_16 pm_16 an_16 cd_16 ct_16), sl_16⟩) (c_16 : PySem.W.codeIn K cd_16 "is_within" = true) (k_16 : PySem.W.keepIn K (.ref f_16) = true)
  {oc_17 kV_17 doc_17 pm_17 cd_17 ct_17 : Value} {od_17 an_17 : Option Addr} {sl_17 : Array (Option Value)} (a_17 : PySem.W.nsIn K mainGlobals "need_within" = some (some (.ref f_17)))
  (l_17 : K.lookup f_17 = some ⟨oc_17, od_17, .func (PySem.W.fnOf "need_within" "need_within" (qAX (top 16)) (qAP (top 16)) (qAB (top 16)) .none kV_17 doc_17 pm_17 an_17 cd_17 ct_17), sl_17⟩) (c_17 : PySem.W.codeIn K cd_17 "need_within" = true) (k_17 : PySem.W.keepIn K (.ref f_17) = true)
  {oc_20 kV_20 doc_20 pm_20 cd_20 ct_20 : Value} {od_20 an_20 : Option Addr} {sl_20 : Array (Option Value)} (a_20 : PySem.W.nsIn K mainGlobals "primes_in" = some (some (.ref f_20)))
  (l_20 : K.lookup f_20 = some ⟨oc_20, od_20, .func (PySem.W.fnOf "primes_in" "primes_in" (qAX (top 18)) (qAP (top 18)) (qAB (top 18)) .none kV_20 doc_20 pm_20 an_20 cd_20 ct_20), sl_20⟩) (c_20 : PySem.W.codeIn K cd_20 "primes_in" = true) (k_20 : PySem.W.keepIn K (.ref f_20) = true)
  {oc_19 kV_19 doc_19 pm_19 cd_19 ct_19 : Value} {od_19 an_19 : Option Addr} {sl_19 : Array (Option Value)} (a_19 : PySem.W.nsIn K mainGlobals "points_by_primes" = some (some (.ref f_19)))
  (l_19 : K.lookup f_19 = some ⟨oc_19, od_19, .func (PySem.W.fnOf "points_by_primes" "points_by_primes" (qAX (top 19)) (qAP (top 19)) (qAB (top 19)) .none kV_19 doc_19 pm_19 an_19 cd_19 ct_19), sl_19⟩) (c_19 : PySem.W.codeIn K cd_19 "points_by_primes" = true) (k_19 : PySem.W.keepIn K (.ref f_19) = true)
  {oc_13 kV_13 doc_13 pm_13 cd_13 ct_13 : Value} {od_13 an_13 : Option Addr} {sl_13 : Array (Option Value)} (a_13 : PySem.W.nsIn K mainGlobals "circle_points" = some (some (.ref f_13)))
  (l_13 : K.lookup f_13 = some ⟨oc_13, od_13, .func (PySem.W.fnOf "circle_points" "circle_points" (qAX (top 20)) (qAP (top 20)) (qAB (top 20)) .none kV_13 doc_13 pm_13 an_13 cd_13 ct_13), sl_13⟩) (c_13 : PySem.W.codeIn K cd_13 "circle_points" = true) (k_13 : PySem.W.keepIn K (.ref f_13) = true)
  {oc_14 kV_14 doc_14 pm_14 cd_14 ct_14 : Value} {od_14 an_14 : Option Addr} {sl_14 : Array (Option Value)} (a_14 : PySem.W.nsIn K mainGlobals "is_sum" = some (some (.ref f_14)))
  (l_14 : K.lookup f_14 = some ⟨oc_14, od_14, .func (PySem.W.fnOf "is_sum" "is_sum" (qAX (top 21)) (qAP (top 21)) (qAB (top 21)) .none kV_14 doc_14 pm_14 an_14 cd_14 ct_14), sl_14⟩) (c_14 : PySem.W.codeIn K cd_14 "is_sum" = true) (k_14 : PySem.W.keepIn K (.ref f_14) = true)
  {oc_18 kV_18 doc_18 pm_18 cd_18 ct_18 : Value} {od_18 an_18 : Option Addr} {sl_18 : Array (Option Value)} (a_18 : PySem.W.nsIn K mainGlobals "on_circle" = some (some (.ref f_18)))
  (l_18 : K.lookup f_18 = some ⟨oc_18, od_18, .func (PySem.W.fnOf "on_circle" "on_circle" (qAX (top 22)) (qAP (top 22)) (qAB (top 22)) .none kV_18 doc_18 pm_18 an_18 cd_18 ct_18), sl_18⟩) (c_18 : PySem.W.codeIn K cd_18 "on_circle" = true) (k_18 : PySem.W.keepIn K (.ref f_18) = true)
  {oc_3 kV_3 doc_3 pm_3 cd_3 ct_3 : Value} {od_3 an_3 : Option Addr} {sl_3 : Array (Option Value)} (a_3 : PySem.W.nsIn K mainGlobals "_law_cell" = some (some (.ref f_3)))
  (l_3 : K.lookup f_3 = some ⟨oc_3, od_3, .func (PySem.W.fnOf "_law_cell" "_law_cell" (qAX (top 24)) (qAP (top 24)) (qAB (top 24)) .none kV_3 doc_3 pm_3 an_3 cd_3 ct_3), sl_3⟩) (c_3 : PySem.W.codeIn K cd_3 "_law_cell" = true) (k_3 : PySem.W.keepIn K (.ref f_3) = true)
  {oc_8 kV_8 doc_8 pm_8 cd_8 ct_8 : Value} {od_8 an_8 : Option Addr} {sl_8 : Array (Option Value)} (a_8 : PySem.W.nsIn K mainGlobals "_law_pen" = some (some (.ref f_8)))
  (l_8 : K.lookup f_8 = some ⟨oc_8, od_8, .func (PySem.W.fnOf "_law_pen" "_law_pen" (qAX (top 25)) (qAP (top 25)) (qAB (top 25)) .none kV_8 doc_8 pm_8 an_8 cd_8 ct_8), sl_8⟩) (c_8 : PySem.W.codeIn K cd_8 "_law_pen" = true) (k_8 : PySem.W.keepIn K (.ref f_8) = true)
  {oc_4 kV_4 doc_4 pm_4 cd_4 ct_4 : Value} {od_4 an_4 : Option Addr} {sl_4 : Array (Option Value)} (a_4 : PySem.W.nsIn K mainGlobals "_law_draw" = some (some (.ref f_4)))
  (l_4 : K.lookup f_4 = some ⟨oc_4, od_4, .func (PySem.W.fnOf "_law_draw" "_law_draw" (qAX (top 26)) (qAP (top 26)) (qAB (top 26)) .none kV_4 doc_4 pm_4 an_4 cd_4 ct_4), sl_4⟩) (c_4 : PySem.W.codeIn K cd_4 "_law_draw" = true) (k_4 : PySem.W.keepIn K (.ref f_4) = true)
  {oc_11 kV_11 doc_11 pm_11 cd_11 ct_11 : Value} {od_11 an_11 : Option Addr} {sl_11 : Array (Option Value)} (a_11 : PySem.W.nsIn K mainGlobals "_law_same" = some (some (.ref f_11)))
  (l_11 : K.lookup f_11 = some ⟨oc_11, od_11, .func (PySem.W.fnOf "_law_same" "_law_same" (qAX (top 27)) (qAP (top 27)) (qAB (top 27)) .none kV_11 doc_11 pm_11 an_11 cd_11 ct_11), sl_11⟩) (c_11 : PySem.W.codeIn K cd_11 "_law_same" = true) (k_11 : PySem.W.keepIn K (.ref f_11) = true)
  {oc_6 kV_6 doc_6 pm_6 cd_6 ct_6 : Value} {od_6 an_6 : Option Addr} {sl_6 : Array (Option Value)} (a_6 : PySem.W.nsIn K mainGlobals "_law_kind_of" = some (some (.ref f_6)))
  (l_6 : K.lookup f_6 = some ⟨oc_6, od_6, .func (PySem.W.fnOf "_law_kind_of" "_law_kind_of" (qAX (top 28)) (qAP (top 28)) (qAB (top 28)) .none kV_6 doc_6 pm_6 an_6 cd_6 ct_6), sl_6⟩) (c_6 : PySem.W.codeIn K cd_6 "_law_kind_of" = true) (k_6 : PySem.W.keepIn K (.ref f_6) = true)
  {oc_7 kV_7 doc_7 pm_7 cd_7 ct_7 : Value} {od_7 an_7 : Option Addr} {sl_7 : Array (Option Value)} (a_7 : PySem.W.nsIn K mainGlobals "_law_no_number" = some (some (.ref f_7)))
  (l_7 : K.lookup f_7 = some ⟨oc_7, od_7, .func (PySem.W.fnOf "_law_no_number" "_law_no_number" (qAX (top 29)) (qAP (top 29)) (qAB (top 29)) .none kV_7 doc_7 pm_7 an_7 cd_7 ct_7), sl_7⟩) (c_7 : PySem.W.codeIn K cd_7 "_law_no_number" = true) (k_7 : PySem.W.keepIn K (.ref f_7) = true)
  {oc_12 kV_12 doc_12 pm_12 cd_12 ct_12 : Value} {od_12 an_12 : Option Addr} {sl_12 : Array (Option Value)} (a_12 : PySem.W.nsIn K mainGlobals "_law_squares" = some (some (.ref f_12)))
  (l_12 : K.lookup f_12 = some ⟨oc_12, od_12, .func (PySem.W.fnOf "_law_squares" "_law_squares" (qAX (top 30)) (qAP (top 30)) (qAB (top 30)) .none kV_12 doc_12 pm_12 an_12 cd_12 ct_12), sl_12⟩) (c_12 : PySem.W.codeIn K cd_12 "_law_squares" = true) (k_12 : PySem.W.keepIn K (.ref f_12) = true)
  {oc_5 kV_5 doc_5 pm_5 cd_5 ct_5 : Value} {od_5 an_5 : Option Addr} {sl_5 : Array (Option Value)} (a_5 : PySem.W.nsIn K mainGlobals "_law_is_prime" = some (some (.ref f_5)))
  (l_5 : K.lookup f_5 = some ⟨oc_5, od_5, .func (PySem.W.fnOf "_law_is_prime" "_law_is_prime" (qAX (top 31)) (qAP (top 31)) (qAB (top 31)) .none kV_5 doc_5 pm_5 an_5 cd_5 ct_5), sl_5⟩) (c_5 : PySem.W.codeIn K cd_5 "_law_is_prime" = true) (k_5 : PySem.W.keepIn K (.ref f_5) = true)
  {oc_10 kV_10 doc_10 pm_10 cd_10 ct_10 : Value} {od_10 an_10 : Option Addr} {sl_10 : Array (Option Value)} (a_10 : PySem.W.nsIn K mainGlobals "_law_product" = some (some (.ref f_10)))
  (l_10 : K.lookup f_10 = some ⟨oc_10, od_10, .func (PySem.W.fnOf "_law_product" "_law_product" (qAX (top 32)) (qAP (top 32)) (qAB (top 32)) .none kV_10 doc_10 pm_10 an_10 cd_10 ct_10), sl_10⟩) (c_10 : PySem.W.codeIn K cd_10 "_law_product" = true) (k_10 : PySem.W.keepIn K (.ref f_10) = true)
  {oc_2 kV_2 doc_2 pm_2 cd_2 ct_2 : Value} {od_2 an_2 : Option Addr} {sl_2 : Array (Option Value)} (a_2 : PySem.W.nsIn K mainGlobals "_law_came" = some (some (.ref f_2)))
  (l_2 : K.lookup f_2 = some ⟨oc_2, od_2, .func (PySem.W.fnOf "_law_came" "_law_came" (qAX (top 33)) (qAP (top 33)) (qAB (top 33)) .none kV_2 doc_2 pm_2 an_2 cd_2 ct_2), sl_2⟩) (c_2 : PySem.W.codeIn K cd_2 "_law_came" = true) (k_2 : PySem.W.keepIn K (.ref f_2) = true)
  {oc_9 kV_9 doc_9 pm_9 cd_9 ct_9 : Value} {od_9 an_9 : Option Addr} {sl_9 : Array (Option Value)} (a_9 : PySem.W.nsIn K mainGlobals "_law_points" = some (some (.ref f_9)))
  (l_9 : K.lookup f_9 = some ⟨oc_9, od_9, .func (PySem.W.fnOf "_law_points" "_law_points" (qAX (top 34)) (qAP (top 34)) (qAB (top 34)) .none kV_9 doc_9 pm_9 an_9 cd_9 ct_9), sl_9⟩) (c_9 : PySem.W.codeIn K cd_9 "_law_points" = true) (k_9 : PySem.W.keepIn K (.ref f_9) = true)
  {oc_1 kV_1 doc_1 pm_1 cd_1 ct_1 : Value} {od_1 an_1 : Option Addr} {sl_1 : Array (Option Value)} (a_1 : PySem.W.nsIn K mainGlobals "_law_by_primes" = some (some (.ref f_1)))
  (l_1 : K.lookup f_1 = some ⟨oc_1, od_1, .func (PySem.W.fnOf "_law_by_primes" "_law_by_primes" (qAX (top 35)) (qAP (top 35)) (qAB (top 35)) .none kV_1 doc_1 pm_1 an_1 cd_1 ct_1), sl_1⟩) (c_1 : PySem.W.codeIn K cd_1 "_law_by_primes" = true) (k_1 : PySem.W.keepIn K (.ref f_1) = true)
  {oc_law kV_law doc_law pm_law cd_law ct_law : Value} {od_law an_law : Option Addr} {sl_law : Array (Option Value)} (a_law : PySem.W.nsIn K mainGlobals "law" = some (some (.ref f_law)))
  (l_law : K.lookup f_law = some ⟨oc_law, od_law, .func (PySem.W.fnOf "law" "law" (qAX (top 36)) (qAP (top 36)) (qAB (top 36)) .none kV_law doc_law pm_law an_law cd_law ct_law), sl_law⟩) (c_law : PySem.W.codeIn K cd_law "law" = true) (k_law : PySem.W.keepIn K (.ref f_law) = true)
  (z_ValueError : PySem.W.nsIn K mainGlobals "ValueError" = some none)
  (z_bool : PySem.W.nsIn K mainGlobals "bool" = some none)
  (qIt : PySem.W.nsIn K mainGlobals "int" = some none)
  (z_isinstance : PySem.W.nsIn K mainGlobals "isinstance" = some none)
  (qGG : PySem.W.nsIn K mainGlobals "len" = some none)
  (z_list : PySem.W.nsIn K mainGlobals "list" = some none)
  (z_range : PySem.W.nsIn K mainGlobals "range" = some none)
  (z_str : PySem.W.nsIn K mainGlobals "str" = some none)
  (z_tuple : PySem.W.nsIn K mainGlobals "tuple" = some none)
  (z_zip : PySem.W.nsIn K mainGlobals "zip" = some none)
  (q_FarError : PySem.W.nsIn K mainGlobals "FarError" = some (some (.ref C_FarError)))
  (q_NoPoint : PySem.W.nsIn K mainGlobals "NoPoint" = some (some (.ref C_NoPoint)))
  (q_NoLot : PySem.W.nsIn K mainGlobals "NoLot" = some (some (.ref C_NoLot)))
  (q_NoNumber : PySem.W.nsIn K mainGlobals "NoNumber" = some (some (.ref C_NoNumber)))
  (q_NoCircle : PySem.W.nsIn K mainGlobals "NoCircle" = some (some (.ref C_NoCircle)))
  (q_NoMarks : PySem.W.nsIn K mainGlobals "NoMarks" = some (some (.ref C_NoMarks)))
  (q_NoFars : PySem.W.nsIn K mainGlobals "NoFars" = some (some (.ref C_NoFars)))
  (q_NoText : PySem.W.nsIn K mainGlobals "NoText" = some (some (.ref C_NoText)))
  (q_NoLine : PySem.W.nsIn K mainGlobals "NoLine" = some (some (.ref C_NoLine)))
  (q_NoDeed : PySem.W.nsIn K mainGlobals "NoDeed" = some (some (.ref C_NoDeed)))
  (q_Alike : PySem.W.nsIn K mainGlobals "Alike" = some (some (.ref C_Alike)))
  (q_TooMany : PySem.W.nsIn K mainGlobals "TooMany" = some (some (.ref C_TooMany)))
  (e1 : (qCC ⟨C_FarError, C_NoPoint, C_NoLot, C_NoNumber, C_NoCircle, C_NoMarks, C_NoFars, C_NoText, C_NoLine, C_NoDeed, C_Alike, C_TooMany⟩).all (qOI K) = true) (e2 : qSg K = true) (e3 : qV3 K (qCC ⟨C_FarError, C_NoPoint, C_NoLot, C_NoNumber, C_NoCircle, C_NoMarks, C_NoFars, C_NoText, C_NoLine, C_NoDeed, C_Alike, C_TooMany⟩) = true) (e4 : qZF K (caught ⟨C_FarError, C_NoPoint, C_NoLot, C_NoNumber, C_NoCircle, C_NoMarks, C_NoFars, C_NoText, C_NoLine, C_NoDeed, C_Alike, C_TooMany⟩) C_FarError = true) (e5 : qZD K [C_NoPoint, C_NoLot, C_NoNumber, C_NoCircle, C_NoMarks, C_NoFars, C_NoText, C_NoLine, C_NoDeed] C_FarError = true) (e6 : qZE K (C_FarError :: qCC ⟨C_FarError, C_NoPoint, C_NoLot, C_NoNumber, C_NoCircle, C_NoMarks, C_NoFars, C_NoText, C_NoLine, C_NoDeed, C_Alike, C_TooMany⟩) = true) (e7 : (qCC ⟨C_FarError, C_NoPoint, C_NoLot, C_NoNumber, C_NoCircle, C_NoMarks, C_NoFars, C_NoText, C_NoLine, C_NoDeed, C_Alike, C_TooMany⟩).Nodup) : Txt K mg ⟨C_FarError, C_NoPoint, C_NoLot, C_NoNumber, C_NoCircle, C_NoMarks, C_NoFars, C_NoText, C_NoLine, C_NoDeed, C_Alike, C_TooMany⟩ := by
 have k6 := List.all_eq_true.mp e6
 have k5 := List.all_eq_true.mp e5
 exact {
  s_is_whole := qBc X G a_15 l_15 c_15 k_15 qPf
  s_is_within := qBc X G a_16 l_16 c_16 k_16 qN7
  s_need_within := qBc X G a_17 l_17 c_17 k_17 qMN
  s_primes_in := qBc X G a_20 l_20 c_20 k_20 qN9
  s_points_by_primes := qBc X G a_19 l_19 c_19 k_19 qI4
  s_circle_points := qBc X G a_13 l_13 c_13 k_13 qKj
  s_is_sum := qBc X G a_14 l_14 c_14 k_14 qRI
  s_on_circle := qBc X G a_18 l_18 c_18 k_18 qN8
  s__law_cell := qBc X G a_3 l_3 c_3 k_3 qN4
  s__law_pen := qBc X G a_8 l_8 c_8 k_8 qPe
  s__law_draw := qBc X G a_4 l_4 c_4 k_4 qN5
  s__law_same := qBc X G a_11 l_11 c_11 k_11 qN6
  s__law_kind_of := qBc X G a_6 l_6 c_6 k_6 qLf
  s__law_no_number := qBc X G a_7 l_7 c_7 k_7 qKE
  s__law_squares := qBc X G a_12 l_12 c_12 k_12 qLh
  s__law_is_prime := qBc X G a_5 l_5 c_5 k_5 qKi
  s__law_product := qBc X G a_10 l_10 c_10 k_10 qLg
  s__law_came := qBc X G a_2 l_2 c_2 k_2 qN3
  s__law_points := qBc X G a_9 l_9 c_9 k_9 qMM
  s__law_by_primes := qBc X G a_1 l_1 c_1 k_1 qKD
  s_law := qBc X G a_law l_law c_law k_law qVy
  n_ValueError := PySem.W.mg_none_of X G z_ValueError
  n_bool := PySem.W.mg_none_of X G z_bool
  n_int := PySem.W.mg_none_of X G qIt
  n_isinstance := PySem.W.mg_none_of X G z_isinstance
  n_len := PySem.W.mg_none_of X G qGG
  n_list := PySem.W.mg_none_of X G z_list
  n_range := PySem.W.mg_none_of X G z_range
  n_str := PySem.W.mg_none_of X G z_str
  n_tuple := PySem.W.mg_none_of X G z_tuple
  n_zip := PySem.W.mg_none_of X G z_zip
  c_FarError := PySem.W.mg_of X G q_FarError
  k_FarError := k6 _ (.head _)
  c_NoPoint := PySem.W.mg_of X G q_NoPoint
  k_NoPoint := k6 _ (.tail _ (.head _))
  c_NoLot := PySem.W.mg_of X G q_NoLot
  k_NoLot := k6 _ (.tail _ (.tail _ (.head _)))
  c_NoNumber := PySem.W.mg_of X G q_NoNumber
  k_NoNumber := k6 _ (.tail _ (.tail _ (.tail _ (.head _))))
  c_NoCircle := PySem.W.mg_of X G q_NoCircle
  k_NoCircle := k6 _ (.tail _ (.tail _ (.tail _ (.tail _ (.head _)))))
  c_NoMarks := PySem.W.mg_of X G q_NoMarks
  k_NoMarks := k6 _ (.tail _ (.tail _ (.tail _ (.tail _ (.tail _ (.head _))))))
  c_NoFars := PySem.W.mg_of X G q_NoFars
  k_NoFars := k6 _ (.tail _ (.tail _ (.tail _ (.tail _ (.tail _ (.tail _ (.head _)))))))
  c_NoText := PySem.W.mg_of X G q_NoText
  k_NoText := k6 _ (.tail _ (.tail _ (.tail _ (.tail _ (.tail _ (.tail _ (.tail _ (.head _))))))))
  c_NoLine := PySem.W.mg_of X G q_NoLine
  k_NoLine := k6 _ (.tail _ (.tail _ (.tail _ (.tail _ (.tail _ (.tail _ (.tail _ (.tail _ (.head _)))))))))
  c_NoDeed := PySem.W.mg_of X G q_NoDeed
  k_NoDeed := k6 _ (.tail _ (.tail _ (.tail _ (.tail _ (.tail _ (.tail _ (.tail _ (.tail _ (.tail _ (.head _))))))))))
  c_Alike := PySem.W.mg_of X G q_Alike
  k_Alike := k6 _ (.tail _ (.tail _ (.tail _ (.tail _ (.tail _ (.tail _ (.tail _ (.tail _ (.tail _ (.tail _ (.head _)))))))))))
  c_TooMany := PySem.W.mg_of X G q_TooMany
  k_TooMany := k6 _ (.tail _ (.tail _ (.tail _ (.tail _ (.tail _ (.tail _ (.tail _ (.tail _ (.tail _ (.tail _ (.tail _ (.head _))))))))))))
  x_NoNumber := k5 C_NoNumber (.tail _ (.tail _ (.head _)))
  cls := qV4 e1 e2 e3
  caught := fun v hv => of_decide_eq_true (List.all_eq_true.mp e4 v hv)
  nd := e7 }
end K41
end
namespace K41
open PySem PySem.Spec PyProof.Rows L2 DL
theorem qU9 {P : Program} {w : World} {K : PySem.W.Frag} {mg : Str → Option Value} {base : Heap} {c : Cl} (T : Txt K mg c) : ∃ F, qN1 P w K mg base true 6 "law" ["_law_script"] F ∧ ∀ ns : List Int, ns.length ≤ 63 → ∃ S, F [.lst (ns.map D.int)] [] = .ok (.bl true) S := by
 have d_15 : Def P w K mg base true 1 "is_whole" 1 qDS := qFi ▸ qPv T 
 have d_16 : Def P w K mg base true 2 "is_within" 3 qCZ := qFA ▸ qO4 T d_15
 have d_17 : Def P w K mg base true 3 "need_within" 3 (qBq c) := qD9 c ▸ qMy T d_16
 have d_20 : Def P w K mg base true 1 "primes_in" 1 qDr := qHm ▸ qO6 T 
 have d_19 : Def P w K mg base true 1 "points_by_primes" 1 qBz := qEH ▸ qJJ T 
 have d_13 : Def P w K mg base true 2 "circle_points" 1 qBk := qFX ▸ qLM T d_20 d_19
 have d_14 : Def P w K mg base true 4 "is_sum" 1 (qCx c) := qFQ c ▸ qR4 T d_13 d_17
 have d_18 : Def P w K mg base true 4 "on_circle" 1 (qCE c) := qFB c ▸ qO5 T d_13 d_17
 have d_3 : Def P w K mg base true 1 "_law_cell" 2 qDE := qHe ▸ qO2 T 
 have d_8 : Def P w K mg base true 1 "_law_pen" 1 qET := qIv ▸ qPu T 
 have d_4 : Def P w K mg base true 1 "_law_draw" 2 qAm := qHg ▸ qO3 T 
 have s0 : Def P w K mg base true 0 "_law_same" 2 (qEh 0) := qUW T.s__law_same
 have s1 : Def P w K mg base true 1 "_law_same" 2 (qEh 1) := qEd T s0
 have s2 : Def P w K mg base true 2 "_law_same" 2 (qEh 2) := qEd T s1
 have s3 : Def P w K mg base true 3 "_law_same" 2 (qEh 3) := qEd T s2
 have s4 : Def P w K mg base true 4 "_law_same" 2 (qEh 4) := qEd T s3
 have d_11 : Def P w K mg base true 4 "_law_same" 2 qBA := qHi ▸ s4
 have d_6 : Def P w K mg base false 1 "_law_kind_of" 1 (qCe c) := qFs c ▸ qL7 T 
 have d_7 : Def P w K mg base true 2 "_law_no_number" 3 qA2 := qEp ▸ qKV T d_4
 have d_12 : Def P w K mg base true 1 "_law_squares" 1 qBu := qFw ▸ qL9 T 
 have d_5 : Def P w K mg base true 1 "_law_is_prime" 1 qBj := qFV ▸ qLL T 
 have d_10 : Def P w K mg base true 2 "_law_product" 2 qBE := qFu ▸ qL8 T d_4 d_5
 have d_2 : Def P w K mg base true 5 "_law_came" 2 (qAh c) := qE9 c ▸ qO1 T d_18 d_14 d_6
 have d_9 : Def P w K mg base true 2 "_law_points" 1 qBp := qGM ▸ qMx T d_12
 have d_1 : Def P w K mg base true 1 "_law_by_primes" 1 qBK := qEn ▸ qKU T 
 exact ⟨_, qXF T d_2 d_3 d_7 d_11 d_9 d_1 d_10 d_4 d_8, qTA c T.nd⟩
theorem qWy {P : Program} {w : World} {K : PySem.W.Frag} {mg : Str → Option Value} {c : Cl} {fa : Addr} (T : Txt K mg c) (hfa : mg "law" = some (.ref fa)) :
  ∃ fd : FuncData, (∀ (s : Shared) (v : Value), BindsTo s fd ⟨[v], []⟩ [("_law_script", v)]) ∧ ∀ base : Heap, K.In base → base.Ns mainGlobals mg → FnOk P w K mg base (CXd P w) 6 fa fd ["_law_script"] (qNz K) :=
 qVA T.s_law hfa (fun kV doc pm an cdv ct s v => .of_eq rfl) fun base => qU9 T
theorem qY2 {q : Program} {loose : List Str} {XP : (Str → Option Value) → Heap → Prop} {r : PySem.W.RowW} {d : DefRec} {kwd : List (Str × Expr)} {run : Value → List Value → Sem Value} {K : Params → PySem.W.Frag} {as : List Addr} {n t : Nat} (e : ∀ P, as = (K P).map (·.1))
  (h : PySem.W.WalkO q loose XP (fun w h => (K w.params).In h) r d kwd run) : PySem.W.WalkX q loose XP (PySem.W.X.obsZ as) (PySem.W.X.valZ K n t) r d kwd run :=
 fun w s₀ s₁ mg mb G Y a o pm cd doc dV kV h1 h2 h3 h4 h5 h6 args vals as' L => h w s₀ s₁ mg mb G (PySem.W.InK.keeps w _ _ (PySem.W.X.z_facts e Y).2.1 L.keeps) a o pm cd doc dV kV h1 h2 h3 h4 h5 h6 args vals as'
end K41
open PySem PySem.W PyProof.Rows
set_option maxRecDepth 100000 in
set_option maxHeartbeats 0 in
theorem PySem.Challenge.cw_fewdistances_k41_sums_and_circles_by_pri_holds : PySem.Challenge.rw_fewdistances_k41_sums_and_circles_by_pri.Holds := by
 w_on; o_law; z_head; (case hw => w_witness2)
 refine K41.qY2 (fun _ => by kernel_rfl) ?_
 refine DL.qY1 (l := PySem.Challenge.rw_fewdistances_k41_sums_and_circles_by_pri) (k := 6) (x := "_law_script") rfl rfl ⟨rfl, by decide, by decide⟩ (fun w h Y => Y) ?F
 case F =>
  intro w mg fa h KX G hmg
  refine' K41.qWy (K41.qXx KX G ?a_15 ?l_15 ?c_15 ?k_15 ?a_16 ?l_16 ?c_16 ?k_16 ?a_17 ?l_17 ?c_17 ?k_17 ?a_20 ?l_20 ?c_20 ?k_20 ?a_19 ?l_19 ?c_19 ?k_19 ?a_13 ?l_13 ?c_13 ?k_13 ?a_14 ?l_14 ?c_14 ?k_14 ?a_18 ?l_18 ?c_18 ?k_18 ?a_3 ?l_3 ?c_3 ?k_3 ?a_8 ?l_8 ?c_8 ?k_8 ?a_4 ?l_4 ?c_4 ?k_4 ?a_11 ?l_11 ?c_11 ?k_11 ?a_6 ?l_6 ?c_6 ?k_6 ?a_7 ?l_7 ?c_7 ?k_7 ?a_12 ?l_12 ?c_12 ?k_12 ?a_5 ?l_5 ?c_5 ?k_5 ?a_10 ?l_10 ?c_10 ?k_10 ?a_2 ?l_2 ?c_2 ?k_2 ?a_9 ?l_9 ?c_9 ?k_9 ?a_1 ?l_1 ?c_1 ?k_1 ?a_law ?l_law ?c_law ?k_law ?z_ValueError ?z_bool ?qIt ?z_isinstance ?qGG ?z_list ?z_range ?z_str ?z_tuple ?z_zip ?q_FarError ?q_NoPoint ?q_NoLot ?q_NoNumber ?q_NoCircle ?q_NoMarks ?q_NoFars ?q_NoText ?q_NoLine ?q_NoDeed ?q_Alike ?q_TooMany ?e1 ?e2 ?e3 ?e4 ?e5 ?e6 ?e7) hmg
  (case a_15 => k_is)
  (case l_15 => k_is)
  (case c_15 => k_is)
  (case k_15 => k_is)
  (case a_16 => k_is)
  (case l_16 => k_is)
  (case c_16 => k_is)
  (case k_16 => k_is)
  (case a_17 => k_is)
  (case l_17 => k_is)
  (case c_17 => k_is)
  (case k_17 => k_is)
  (case a_20 => k_is)
  (case l_20 => k_is)
  (case c_20 => k_is)
  (case k_20 => k_is)
  (case a_19 => k_is)
  (case l_19 => k_is)
  (case c_19 => k_is)
  (case k_19 => k_is)
  (case a_13 => k_is)
  (case l_13 => k_is)
  (case c_13 => k_is)
  (case k_13 => k_is)
  (case a_14 => k_is)
  (case l_14 => k_is)
  (case c_14 => k_is)
  (case k_14 => k_is)
  (case a_18 => k_is)
  (case l_18 => k_is)
  (case c_18 => k_is)
  (case k_18 => k_is)
  (case a_3 => k_is)
  (case l_3 => k_is)
  (case c_3 => k_is)
  (case k_3 => k_is)
  (case a_8 => k_is)
  (case l_8 => k_is)
  (case c_8 => k_is)
  (case k_8 => k_is)
  (case a_4 => k_is)
  (case l_4 => k_is)
  (case c_4 => k_is)
  (case k_4 => k_is)
  (case a_11 => k_is)
  (case l_11 => k_is)
  (case c_11 => k_is)
  (case k_11 => k_is)
  (case a_6 => k_is)
  (case l_6 => k_is)
  (case c_6 => k_is)
  (case k_6 => k_is)
  (case a_7 => k_is)
  (case l_7 => k_is)
  (case c_7 => k_is)
  (case k_7 => k_is)
  (case a_12 => k_is)
  (case l_12 => k_is)
  (case c_12 => k_is)
  (case k_12 => k_is)
  (case a_5 => k_is)
  (case l_5 => k_is)
  (case c_5 => k_is)
  (case k_5 => k_is)
  (case a_10 => k_is)
  (case l_10 => k_is)
  (case c_10 => k_is)
  (case k_10 => k_is)
  (case a_2 => k_is)
  (case l_2 => k_is)
  (case c_2 => k_is)
  (case k_2 => k_is)
  (case a_9 => k_is)
  (case l_9 => k_is)
  (case c_9 => k_is)
  (case k_9 => k_is)
  (case a_1 => k_is)
  (case l_1 => k_is)
  (case c_1 => k_is)
  (case k_1 => k_is)
  (case a_law => k_is)
  (case l_law => k_is)
  (case c_law => k_is)
  (case k_law => k_is)
  (case z_ValueError => k_is)
  (case z_bool => k_is)
  (case qIt => k_is)
  (case z_isinstance => k_is)
  (case qGG => k_is)
  (case z_list => k_is)
  (case z_range => k_is)
  (case z_str => k_is)
  (case z_tuple => k_is)
  (case z_zip => k_is)
  (case q_FarError => k_is)
  (case q_NoPoint => k_is)
  (case q_NoLot => k_is)
  (case q_NoNumber => k_is)
  (case q_NoCircle => k_is)
  (case q_NoMarks => k_is)
  (case q_NoFars => k_is)
  (case q_NoText => k_is)
  (case q_NoLine => k_is)
  (case q_NoDeed => k_is)
  (case q_Alike => k_is)
  (case q_TooMany => k_is)
  (case e1 => rfl)
  (case e2 => rfl)
  (case e3 => rfl)
  (case e4 => rfl)
  (case e5 => rfl)
  (case e6 => rfl)
  (case e7 => decide)
