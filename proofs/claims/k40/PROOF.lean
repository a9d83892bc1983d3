import PyProof.Rows.All
import Wide.All
import OpenK.AllK
import Wide.FinOn
import Lean
import PyProof.EqAt
import PyProof.EqKinds
import PyProof.TupleCall
import PyProof.NeKinds
import PyProof.ZipIter
import KE.KTryMore
import KE.KIsAll
import PyProof.Rows.CountFlat
import PyProof.Rows.FStr
import PySem.Challenge.RW_fewdistances_k40_sums_of_two_squares
-- PpL
section
-- CHANGE: your row's module here, as the last of these rows
set_option Elab.async false
set_option linter.all false
set_option maxRecDepth 100000
namespace L2
open PySem PySem.Spec PyProof.Rows

/-- a key: an int or a str -/
abbrev Key := Sum Int Str
def keyIs : Key → Value → Bool
  | .inl k, v => Value.isInt k v
  | .inr x, v => Value.isStrOf x v
def keyH (w : World) : Key → Int
  | .inl k => hashInt k
  | .inr x => hashStr w x
theorem keyIs_shape : ∀ {k : Key} {v : Value}, keyIs k v = true → (∃ i t, k = Sum.inl i ∧ v = Value.int i t) ∨ (∃ x t, k = Sum.inr x ∧ v = Value.str x t)
  | .inl i, v, h => by
    obtain ⟨t, e⟩ := Value.isInt_shape (k := i) (v := v) h
    exact .inl ⟨i, t, rfl, e⟩
  | .inr x, v, h => by
    obtain ⟨t, e⟩ := Value.isStrOf_shape (x := x) (v := v) h
    exact .inr ⟨x, t, rfl, e⟩
theorem keyIs_int (i : Int) (t : Tok) : keyIs (.inl i) (.int i t) = true := by simp [keyIs, Value.isInt]
theorem keyIs_str (x : Str) (t : Tok) : keyIs (.inr x) (.str x t) = true := by simp [keyIs, Value.isStrOf]
theorem key_ll (a b : Int) : decide ((Sum.inl a : Key) = Sum.inl b) = (a == b) := by
  by_cases e : a = b
  · subst e; simp
  · have h : ¬ (Sum.inl a : Key) = Sum.inl b := fun q => e (Sum.inl.inj q)
    rw [decide_eq_false h]
    exact (beq_eq_false_iff_ne.mpr e).symm
theorem key_rr (a b : Str) : decide ((Sum.inr a : Key) = Sum.inr b) = decide (a = b) := by
  by_cases e : a = b
  · subst e; simp
  · have h : ¬ (Sum.inr a : Key) = Sum.inr b := fun q => e (Sum.inr.inj q)
    rw [decide_eq_false h, decide_eq_false e]
theorem key_lr (a : Int) (b : Str) : decide ((Sum.inl a : Key) = Sum.inr b) = false := decide_eq_false (fun q => nomatch q)
theorem key_rl (a : Str) (b : Int) : decide ((Sum.inr a : Key) = Sum.inl b) = false := decide_eq_false (fun q => nomatch q)

def mixKind (prog : Program) (w : World) : PySem.KeyKind prog w Key where
  is := keyIs
  hash := keyH w
  inj := fun v a b ha hb => by
    rcases keyIs_shape ha with ⟨i, t, rfl, rfl⟩ | ⟨x, t, rfl, rfl⟩
    · rcases keyIs_shape hb with ⟨j, u, rfl, e⟩ | ⟨y, u, rfl, e⟩
      · injection e with e1 _; rw [e1]
      · exact nomatch e
    · rcases keyIs_shape hb with ⟨j, u, rfl, e⟩ | ⟨y, u, rfl, e⟩
      · exact nomatch e
      · injection e with e1 _; rw [e1]
  byValue := fun k v h => by
    rcases keyIs_shape h with ⟨i, t, rfl, rfl⟩ | ⟨x, t, rfl, rfl⟩ <;> rfl
  pyHash := fun hv h => by
    rcases keyIs_shape hv with ⟨i, t, rfl, rfl⟩ | ⟨x, t, rfl, rfl⟩
    · exact wpAny_pyHash_int h
    · exact wpAny_pyHash_str h
  eqBool := fun hu hv h => by
    rcases keyIs_shape hu with ⟨i, t, rfl, rfl⟩ | ⟨x, t, rfl, rfl⟩
    · rcases keyIs_shape hv with ⟨j, u, rfl, rfl⟩ | ⟨y, u, rfl, rfl⟩
      · rw [key_ll] at h; exact wpAny_eqBool_int h
      · rw [key_lr] at h; exact SeqAt.EqAt.int_str i t y u _ _ _ _ h
    · rcases keyIs_shape hv with ⟨j, u, rfl, rfl⟩ | ⟨y, u, rfl, rfl⟩
      · rw [key_rl] at h; exact SeqAt.EqAt.str_int x t j u _ _ _ _ h
      · rw [key_rr] at h; exact wpAny_eqBool_str h
  «strs» := fun k x t v h => by
    rcases keyIs_shape h with ⟨i, u, rfl, e⟩ | ⟨y, u, rfl, e⟩
    · exact nomatch e
    · injection e with e1 _
      subst e1
      cases v <;> rfl

theorem mixKind_int (prog : Program) (w : World) (i : Int) (t : Tok) : (mixKind prog w).is (.inl i) (.int i t) = true := keyIs_int i t
theorem mixKind_str (prog : Program) (w : World) (x : Str) (t : Tok) : (mixKind prog w).is (.inr x) (.str x t) = true := keyIs_str x t
end L2

namespace L2
open PySem PySem.Spec PyProof.Rows

/-- a value, without the heap -/
inductive V where
  | non | bl (b : Bool) | int (i : Int) | str (x : Str) | byt (b : Array UInt8) | flt (b : UInt64) | ref (a : Addr) | ty (n : String)
  deriving DecidableEq

def RelV : V → Value → Prop
  | .non, u => u = Value.none
  | .bl b, u => u = Value.bool b
  | .int i, u => ∃ t, u = Value.int i t
  | .str x, u => ∃ t, u = Value.str x t
  | .byt b, u => ∃ t, u = Value.bytes b t
  | .flt b, u => ∃ t, u = Value.float b t
  | .ref a, u => u = Value.ref a
  | .ty n, u => u = Value.type n

abbrev Vals : List V → List Value → Prop := Paired RelV
theorem Vals.length {xs : List V} {us : List Value} (r : Vals xs us) : xs.length = us.length := Paired.length r
theorem Vals.get : ∀ {xs : List V} {us : List Value} {i : Nat} {x : V}, Vals xs us → xs[i]? = some x → ∃ u, us[i]? = some u ∧ RelV x u
  | _, _, _, _, .nil, e => by simp at e
  | _, _, 0, _, .cons r _, e => by simp at e; subst e; exact ⟨_, rfl, r⟩
  | _, _, i + 1, x, .cons _ t, e => by
    obtain ⟨u, h1, h2⟩ := Vals.get (i := i) (x := x) t (by simpa using e)
    exact ⟨u, by simpa using h1, h2⟩
theorem Vals.set {x : V} {u : Value} (r : RelV x u) : ∀ {xs : List V} {us : List Value} (i : Nat), Vals xs us → Vals (xs.set i x) (us.set i u)
  | _, _, _, .nil => .nil
  | _, _, 0, .cons _ t => .cons r t
  | _, _, i + 1, .cons q t => .cons q (Vals.set r i t)
theorem Vals.append : ∀ {xs ys : List V} {us ws : List Value}, Vals xs us → Vals ys ws → Vals (xs ++ ys) (us ++ ws)
  | _, _, _, _, .nil, s => s
  | _, _, _, _, .cons r t, s => .cons r (Vals.append t s)
theorem Vals.take : ∀ {xs : List V} {us : List Value} (n : Nat), Vals xs us → Vals (xs.take n) (us.take n)
  | _, _, 0, _ => .nil
  | _, _, _ + 1, .nil => .nil
  | _, _, n + 1, .cons r t => .cons r (Vals.take n t)
theorem Vals.drop : ∀ {xs : List V} {us : List Value} (n : Nat), Vals xs us → Vals (xs.drop n) (us.drop n)
  | _, _, 0, r => r
  | _, _, _ + 1, .nil => .nil
  | _, _, n + 1, .cons _ t => Vals.drop n t
def RelO : Option V → Option Value → Prop
  | some v, some u => RelV v u
  | none, none => True
  | _, _ => False
def KV {κ : Type} : List (κ × V) → List (κ × Value) → Prop := Paired fun (p : κ × V) (q : κ × Value) => p.1 = q.1 ∧ RelV p.2 q.2

/-- a key of a dict (00_mix): an int or a text -/
def kV : Key → V
  | .inl i => .int i
  | .inr x => .str x

/-- what stands at a tracked address -/
inductive HO where
  /-- a list -/
  | lst (xs : List V)
  /-- a tuple (never changes) -/
  | tup (xs : List V)
  /-- a dict whose keys are ints and texts; one whose keys are tuples of ints and texts (the empty one is both) -/
  | dK (kvs : List (Key × V)) | dT (kvs : List (List Key × V))
  /-- a set of ints: its members, its size -/
  | set (S : Int → Bool) (n : Nat)
  /-- an instance of the class at C, its dict at dx, its attributes -/
  | ins (C dx : Addr) (fs : List (Str × V))
  /-- the dict of the instance at x -/
  | own (x : Addr)
  /-- the dict of an exception -/
  | xd (fs : List (Str × V))
  /-- a bound method, f of x -/
  | met (f x : Addr)
  /-- a range object lo, lo + 1, .. below hi -/
  | rng (lo hi : Int)
  /-- a thing that is known to the object (the script; a dict while a loop walks it): read, never written while it is so -/
  | frz (o : Obj) (u : HO)
  /-- a code object's table -/
  | tbl (ps : Array Value)
  /-- any other thing, by what is true of its one object (a def of one's own: SetO a S n := HO.ext fun h => ..) -/
  | ext (φ : Heap → Prop)

abbrev Hp := Addr → Option HO
def upd (H : Hp) (a : Addr) (o : HO) : Hp := fun b => if b = a then some o else H b
theorem upd_same {H : Hp} {a : Addr} {o : HO} : upd H a o a = some o := by unfold upd; rw [if_pos rfl]
theorem upd_ne {H : Hp} {a b : Addr} {o : HO} (h : b ≠ a) : upd H a o b = H b := by unfold upd; rw [if_neg h]
/-- two objects of different content stand apart -/
theorem ne_of {H : Hp} {a b : Addr} {o u : HO} (h : H a = some o) (h' : H b = some u) (d : o ≠ u) : a ≠ b := by
  intro e; subst e; rw [h] at h'; exact d (Option.some.inj h')
theorem ne_of_none {H : Hp} {a b : Addr} {o : HO} (h : H a = some o) (h' : H b = none) : a ≠ b := by
  intro e; subst e; rw [h] at h'; cases h'

section
variable (P : Program) (w : World)
def ObjOk (H : Hp) (h : Heap) (a : Addr) : HO → Prop
  | .lst xs => xs.length ≤ sizeLine ∧ ∃ (its : List Value) (n : Nat), Vals xs its ∧ h.get? a = some { cls := .type "list", data := .seq its.toArray n }
  | .tup xs => xs.length ≤ sizeLine ∧ ∃ its : List Value, Vals xs its ∧ IsTup h a its.toArray
  | .dK kvs => kvs.length ≤ sizeLine ∧ (a == sysModules) = false ∧ ∃ vs, KV kvs vs ∧ h.DictOf (mixKind P w) a vs
  | .dT kvs => kvs.length ≤ sizeLine ∧ (a == sysModules) = false ∧ ∃ xs : List (List Key × Addr × Value),
      Paired (fun (p : List Key × V) (q : List Key × Addr × Value) => p.1 = q.1 ∧ H q.2.1 = some (.tup (p.1.map kV)) ∧ RelV p.2 q.2.2) kvs xs ∧
      ∃ o es ep, h.get? a = some o ∧ o.ExactDict ∧ o.data = .dict es ep ∧ es.toList = xs.map (entryOfKey (tupleKind (mixKind P w))) ∧ (xs.map (·.1)).Nodup
  | .set S n => h.SetOf (intKind P w) a S n
  | .ins C dx fs => H dx = some (.own a) ∧ fs.length ≤ 1000 ∧ dx ≠ a ∧ h.get? a = some (PySem.W.instObj C dx) ∧
      ∃ mA, h.Ns1 dx mA ∧ (∀ f, RelO (fs.lookup f) (mA f)) ∧ PySem.Within mA (fs.map (·.1))
  | .own _ => ∃ o, h.get? a = some o
  | .xd fs => ∃ mA, h.Ns1 a mA ∧ ∀ f, RelO (fs.lookup f) (mA f)
  | .rng lo hi => ∃ t u v, h.get? a = some { cls := .type "range", data := .fields #[.int lo t, .int hi u, .int 1 v] }
  | .frz o u => h.get? a = some o ∧ ObjOk H h a u
  | .tbl ps => h.get? a = some { cls := .none, data := .fields ps }
  | .met f x => h.get? a = some (PySem.W.methodObj (.ref f) (.ref x))
  | .ext φ => φ h ∧ (∃ o, h.get? a = some o) ∧ ∀ h1 h2 : Heap, φ h1 → (∀ o, h1.get? a = some o → h2.get? a = some o) → φ h2
/-- the abstract heap is held -/
def HOk (H : Hp) (h : Heap) : Prop := ∀ a o, H a = some o → ObjOk P w H h a o
end

section
variable {P : Program} {w : World} {H H' : Hp} {h h' : Heap} {a : Addr} {o : HO}
theorem ObjOk.lt (x : ObjOk P w H h a o) : a < h.objs.size := by
  cases o with
  | lst xs => obtain ⟨_, _, _, _, e⟩ := x; exact Heap.lt_size e
  | tup xs => obtain ⟨_, _, _, p⟩ := x; exact p.lt
  | dK kvs => obtain ⟨_, _, _, _, o, _, _, e, _⟩ := x; exact Heap.lt_size e
  | dT kvs => obtain ⟨_, _, _, _, o, _, _, e, _⟩ := x; exact Heap.lt_size e
  | set S n => obtain ⟨o, _, _, _, e, _⟩ := x; exact Heap.lt_size e
  | ins C dx fs => obtain ⟨_, _, _, e, _⟩ := x; exact Heap.lt_size e
  | own y => obtain ⟨_, e⟩ := x; exact Heap.lt_size e
  | xd fs => obtain ⟨_, ⟨_, _, _, e, _⟩, _⟩ := x; exact Heap.lt_size e
  | rng lo hi => obtain ⟨_, _, _, e⟩ := x; exact Heap.lt_size e
  | frz ob u => obtain ⟨e, _⟩ := x; exact Heap.lt_size e
  | tbl ps => exact Heap.lt_size (show h.get? a = some _ from x)
  | met f y => exact Heap.lt_size (show h.get? a = some _ from x)
  | ext φ => obtain ⟨_, ⟨_, e⟩, _⟩ := x; exact Heap.lt_size e
theorem Paired.mapP {α β : Type} {F G : α → β → Prop} : ∀ {l₁ : List α} {l₂ : List β}, Paired F l₁ l₂ → (∀ a b, F a b → G a b) → Paired G l₁ l₂
  | _, _, .nil, _ => .nil
  | _, _, .cons r t, f => .cons (f _ _ r) (Paired.mapP t f)
/-- what an object's description leans on: its own object, its own dict, the tuples -/
theorem ObjOk.stay (x : ObjOk P w H h a o) (k : ∀ b u, (b = a ∨ H b = some (.own a)) → h.get? b = some u → h'.get? b = some u)
    (ho : ∀ b, H b = some (.own a) → H' b = some (.own a)) (ht : ∀ b xs, H b = some (.tup xs) → H' b = some (.tup xs)) : ObjOk P w H' h' a o := by
  induction o with
  | lst xs => obtain ⟨z, its, n, r, e⟩ := x; exact ⟨z, its, n, r, k _ _ (.inl rfl) e⟩
  | tup xs => obtain ⟨z, its, r, ob, e, c⟩ := x; exact ⟨z, its, r, ob, k _ _ (.inl rfl) e, c⟩
  | dK kvs => obtain ⟨z, y, vs, r, ob, es, ep, e, c⟩ := x; exact ⟨z, y, vs, r, ob, es, ep, k _ _ (.inl rfl) e, c⟩
  | dT kvs =>
    obtain ⟨z, y, xs, r, ob, es, ep, e, c⟩ := x
    exact ⟨z, y, xs, Paired.mapP r fun p q z => ⟨z.1, ht _ _ z.2.1, z.2.2⟩, ob, es, ep, k _ _ (.inl rfl) e, c⟩
  | set S n => obtain ⟨ob, es, ep, t, e, c⟩ := x; exact ⟨ob, es, ep, t, k _ _ (.inl rfl) e, c⟩
  | ins C dx fs =>
    obtain ⟨d, z, ne, e, mA, ⟨od, es, ep, e2, c⟩, r⟩ := x
    exact ⟨ho _ d, z, ne, k _ _ (.inl rfl) e, mA, ⟨od, es, ep, k _ _ (.inr d) e2, c⟩, r⟩
  | own y => obtain ⟨ob, e⟩ := x; exact ⟨ob, k _ _ (.inl rfl) e⟩
  | xd fs => obtain ⟨mA, ⟨od, es, ep, e, c⟩, r⟩ := x; exact ⟨mA, ⟨od, es, ep, k _ _ (.inl rfl) e, c⟩, r⟩
  | rng lo hi => obtain ⟨t, u, v, e⟩ := x; exact ⟨t, u, v, k _ _ (.inl rfl) e⟩
  | frz ob u ih => obtain ⟨e, q⟩ := x; exact ⟨k _ _ (.inl rfl) e, ih q⟩
  | tbl ps =>
    have e : h.get? a = some { cls := .none, data := .fields ps } := x
    show h'.get? a = some { cls := .none, data := .fields ps }
    exact k a _ (.inl rfl) e
  | met f y =>
    have e : h.get? a = some (PySem.W.methodObj (.ref f) (.ref y)) := x
    show h'.get? a = some (PySem.W.methodObj (.ref f) (.ref y))
    exact k a _ (.inl rfl) e
  | ext φ => obtain ⟨p, ⟨o, e⟩, st⟩ := x; exact ⟨st _ _ p fun o q => k _ _ (.inl rfl) q, ⟨o, k _ _ (.inl rfl) e⟩, st⟩
theorem HOk.lt (x : HOk P w H h) (e : H a = some o) : a < h.objs.size := (x a o e).lt
theorem HOk.fresh (x : HOk P w H h) (e : h.objs.size ≤ a) : H a = none := by
  cases q : H a with
  | none => rfl
  | some u => exact absurd (Nat.lt_of_lt_of_le (x.lt q) e) (Nat.lt_irrefl _)
/-- every object of the heap is kept -/
theorem HOk.kept (x : HOk P w H h) (k : ∀ b u, h.get? b = some u → h'.get? b = some u) : HOk P w H h' := fun a o e =>
  (x a o e).stay (fun b u _ q => k b u q) (fun _ q => q) fun _ _ q => q
/-- a new object is laid and tracked -/
theorem HOk.laid (x : HOk P w H h) (k : ∀ b u, h.get? b = some u → h'.get? b = some u) (hp : h.objs.size ≤ a) (new : ObjOk P w (upd H a o) h' a o) : HOk P w (upd H a o) h' := fun b u e => by
  have hn := x.fresh hp
  by_cases hb : b = a
  · subst hb; rw [upd_same] at e; cases e; exact new
  · rw [upd_ne hb] at e
    exact (x b u e).stay (fun c v _ q => k c v q) (fun c q => by rw [upd_ne (ne_of_none q hn)]; exact q) fun c xs q => by rw [upd_ne (ne_of_none q hn)]; exact q
end

/-- what may be read as u: it is u, or a known u -/
def Rd (H : Hp) (a : Addr) (u : HO) : Prop := H a = some u ∨ ∃ o, H a = some (.frz o u)
theorem Rd.of {H : Hp} {a : Addr} {u : HO} (h : H a = some u) : Rd H a u := .inl h
theorem Rd.ok {P : Program} {w : World} {H : Hp} {h : Heap} {a : Addr} {u : HO} (r : Rd H a u) (x : HOk P w H h) : ObjOk P w H h a u := by
  rcases r with r | ⟨o, r⟩
  · exact x a u r
  · obtain ⟨_, q⟩ := x a _ r
    exact q
/-- what may be written -/
def Mut : Option HO → Prop
  | some (.lst _) => True
  | some (.dK _) => True
  | some (.dT _) => True
  | some (.set _ _) => True
  | some (.ins _ _ _) => True
  | some (.ext _) => True
  | _ => False
section
variable {P : Program} {w : World} {H : Hp} {h h' : Heap} {x e : Addr} {o' : HO}
/-- the object at e is changed: x itself, or the dict of the instance x -/
theorem HOk.write (ok : HOk P w H h) (mu : Mut (H x)) (he : e = x ∨ H e = some (.own x)) (k : ∀ b u, b ≠ e → h.get? b = some u → h'.get? b = some u) (heo : ∃ u, h'.get? e = some u)
    (new : ObjOk P w (upd H x o') h' x o') : HOk P w (upd H x o') h' := fun b u q => by
  have nown : ∀ c y, H c = some (.own y) → c ≠ x := fun c y r z => by subst z; rw [r] at mu; exact mu
  have ntup : ∀ c xs, H c = some (.tup xs) → c ≠ x := fun c xs r z => by subst z; rw [r] at mu; exact mu
  by_cases hb : b = x
  · subst hb; rw [upd_same] at q; cases q; exact new
  · rw [upd_ne hb] at q
    by_cases hbe : b = e
    · have q' : H b = some (.own x) := by
        rcases he with z | z
        · exact absurd (hbe.trans z) hb
        · rw [hbe]; exact z
      rw [q] at q'; cases q'
      obtain ⟨v, hv⟩ := heo
      exact ⟨v, by rw [hbe]; exact hv⟩
    · refine (ok b u q).stay (fun c v hc r => k c v ?_ r) (fun c r => by rw [upd_ne (nown c b r)]; exact r) fun c xs r => by rw [upd_ne (ntup c xs r)]; exact r
      rcases hc with rfl | hc
      · exact hbe
      · rintro rfl
        rcases he with z | z
        · exact nown c b hc z
        · rw [hc] at z; cases z; exact hb rfl
end

structure Un (fs ex : List Addr) (H H' : Hp) (h h' : Heap) : Prop where
  keep : ∀ b o, h.get? b = some o → H b = none → b ∉ fs → b ∉ ex → h'.get? b = some o
  slot : ∀ b o, h.get? b = some o → H b = none → b ∈ fs → b ∉ ex → ∃ sl, h'.get? b = some { o with slots := sl }
  free : ∀ b o, h.get? b = some o → H b = none → b ∉ ex → H' b = none
  there : ∀ b o, h.get? b = some o → b ∉ ex → ∃ o', h'.get? b = some o'
  tups : ∀ b xs, H b = some (.tup xs) → H' b = some (.tup xs)
  frzs : ∀ b o u, H b = some (.frz o u) → H' b = some (.frz o u)
  tbls : ∀ b ps, H b = some (.tbl ps) → ∃ more, H' b = some (.tbl (ps ++ more))
section
variable {fs fs' ex ex' : List Addr} {H H1 H2 : Hp} {h h1 h2 h' : Heap} {a x e : Addr} {o : HO}
theorem Un.any (u : Un fs ex H H1 h h1) {b : Addr} {ob : Obj} (q : h.get? b = some ob) (n : H b = none) (hx : b ∉ ex) : ∃ sl, h1.get? b = some { ob with slots := sl } := by
  by_cases hb : b ∈ fs
  · exact u.slot b ob q n hb hx
  · exact ⟨ob.slots, u.keep b ob q n hb hx⟩
theorem Un.trans (a : Un fs ex H H1 h h1) (b : Un fs ex H1 H2 h1 h2) : Un fs ex H H2 h h2 where
  keep := fun c ob q n hc hx => b.keep c ob (a.keep c ob q n hc hx) (a.free c ob q n hx) hc hx
  slot := fun c ob q n hc hx => by
    obtain ⟨sl, e1⟩ := a.slot c ob q n hc hx
    obtain ⟨sl', e2⟩ := b.slot c _ e1 (a.free c ob q n hx) hc hx
    exact ⟨sl', e2⟩
  free := fun c ob q n hx => by
    obtain ⟨o', e1⟩ := a.there c ob q hx
    exact b.free c o' e1 (a.free c ob q n hx) hx
  there := fun c ob q hx => by
    obtain ⟨o', e1⟩ := a.there c ob q hx
    exact b.there c o' e1 hx
  tups := fun c xs q => b.tups c xs (a.tups c xs q)
  frzs := fun c ob xs q => b.frzs c ob xs (a.frzs c ob xs q)
  tbls := fun c ps q => by
    obtain ⟨m1, e1⟩ := a.tbls c ps q
    obtain ⟨m2, e2⟩ := b.tbls c _ e1
    exact ⟨m1 ++ m2, by rw [e2, Array.append_assoc]⟩
theorem Un.kept (k : ∀ b u, h.get? b = some u → h'.get? b = some u) : Un fs ex H H h h' :=
  ⟨fun b ob q _ _ _ => k b ob q, fun b ob q _ _ _ => ⟨ob.slots, k b ob q⟩, fun _ _ _ n _ => n, fun b ob q _ => ⟨ob, k b ob q⟩, fun _ _ q => q, fun _ _ _ q => q, fun _ ps q => ⟨#[], by rw [q]; simp⟩⟩
theorem Un.refl : Un fs ex H H h h := Un.kept fun _ _ q => q
theorem Un.laid (k : ∀ b u, h.get? b = some u → h'.get? b = some u) (hp : h.objs.size ≤ a) (hn : H a = none) : Un fs ex H (upd H a o) h h' where
  keep := fun b u q _ _ _ => k b u q
  slot := fun b u q _ _ _ => ⟨u.slots, k b u q⟩
  free := fun b u q n _ => by rw [upd_ne (Nat.ne_of_lt (Nat.lt_of_lt_of_le (Heap.lt_size q) hp))]; exact n
  there := fun b u q _ => ⟨u, k b u q⟩
  tups := fun b xs q => by rw [upd_ne (ne_of_none q hn)]; exact q
  frzs := fun b u xs q => by rw [upd_ne (ne_of_none q hn)]; exact q
  tbls := fun b ps q => ⟨#[], by rw [upd_ne (ne_of_none q hn), q]; simp⟩
theorem Un.write (mu : Mut (H x)) (he : e = x ∨ H e = some (.own x)) (k : ∀ b u, b ≠ e → h.get? b = some u → h'.get? b = some u) (heo : ∃ u, h'.get? e = some u) : Un fs ex H (upd H x o) h h' := by
  have hx : ∀ b, H b = none → b ≠ x := fun b n z => by subst z; rw [n] at mu; exact mu
  have hb : ∀ b, H b = none → b ≠ e := fun b n z => by
    subst z
    rcases he with r | r
    · exact hx b n r
    · rw [n] at r; cases r
  have hm : ∀ b u, H b = some u → ¬ Mut (some u) → b ≠ x := fun b u q nm z => by subst z; rw [q] at mu; exact nm mu
  refine ⟨fun b u q n _ _ => k b u (hb b n) q, fun b u q n _ _ => ⟨u.slots, k b u (hb b n) q⟩, fun b u q n _ => by rw [upd_ne (hx b n)]; exact n, fun b u q _ => ?_,
    fun b xs q => by rw [upd_ne (hm b _ q fun z => z)]; exact q, fun b u xs q => by rw [upd_ne (hm b _ q fun z => z)]; exact q, fun b ps q => ⟨#[], by rw [upd_ne (hm b _ q fun z => z), q]; simp⟩⟩
  by_cases hbe : b = e
  · subst hbe; exact heo
  · exact ⟨u, k b u hbe q⟩
theorem Un.mono (u : Un fs ex H H1 h h1) (hs : ∀ b ∈ fs, b ∈ fs') (hx : ∀ b ∈ ex, b ∈ ex') : Un fs' ex' H H1 h h1 :=
  ⟨fun b ob q n hb he => u.keep b ob q n (fun z => hb (hs b z)) fun z => he (hx b z), fun _ _ q n _ he => u.any q n fun z => he (hx _ z), fun b ob q n he => u.free b ob q n fun z => he (hx b z), fun b ob q he => u.there b ob q fun z => he (hx b z), u.tups, u.frzs, u.tbls⟩
end

def trk (h : Heap) (H : Hp) : List Addr := (List.range h.objs.size).filter fun a => (H a).isSome
def hidT (h : Heap) (H : Hp) : Heap := PySem.W.hideAll h (trk h H)
theorem hidT_size (h : Heap) (H : Hp) : (hidT h H).objs.size = h.objs.size := PySem.W.hideAll_size _ _
theorem hidT_get {h : Heap} {H : Hp} {b : Addr} {o : Obj} (e : h.get? b = some o) (n : H b = none) : (hidT h H).get? b = some o :=
  PySem.W.hideAll_get _ e fun hm => by
    have q : (H b).isSome = true := (List.mem_filter.mp hm).2
    rw [n] at q; simp at q
theorem of_hidT {h : Heap} {H : Hp} {b : Addr} {o : Obj} (e : (hidT h H).get? b = some o) : h.get? b = some o ∧ H b = none := by
  have e' : h.get? b = some o := PySem.W.of_hideAll (trk h H) e
  refine ⟨e', ?_⟩
  cases q : H b with
  | none => rfl
  | some x =>
    have hm : b ∈ trk h H := List.mem_filter.mpr ⟨List.mem_range.mpr (Heap.lt_size e'), by simp [q]⟩
    have z : (hidT h H).get? b = none := PySem.W.hideAll_none (trk h H) hm
    rw [z] at e; cases e

def allNews (g h : Heap) (L : Addr) : List (Addr × Obj) := (List.range h.objs.size).filterMap fun a => if a = L ∨ (g.get? a).isSome = true then none else (h.get? a).map fun o => (a, o)
def rest (g h : Heap) (L d : Addr) : List (Addr × Obj) := (allNews g h L).filter fun p => decide (p.1 ≠ d)
end L2

namespace L2
open PySem PySem.Spec PyProof.Rows

/-- the module's facts, over the base: the heap at the law's entry without what is tracked there -/
structure Mod (K : PySem.W.Frag) (mg : Str → Option Value) (base : Heap) : Prop where
  kin : K.In base
  glob : base.Ns mainGlobals mg
  blt : ∃ mb, base.Ns builtinsNs mb ∧ ∀ x : Str, x ≠ "__name__" → mb x = bootBuiltins x
  nolimit : base.NoLimit

/-- the context: a def's body (or a comprehension's block) running. base: fixed through the whole law; s₀, H₀: the entry; outer: the frames whose slots others may change (a def's callers); stack: all frames that run;
   ex: iterators that were made ahead of the entry and are walked here (a comprehension's); fn: the names whose cells were made at the entry (a def: all; a comprehension's block: its own); calm: not within an except suite; pn: pins that every state bears; xe: what is wanted of an exception that leaves the code -/
structure Cx where
  prog : Program
  w : World
  K : PySem.W.Frag
  mg : Str → Option Value
  base : Heap
  A : Around
  N : List Str
  s₀ : Shared
  H₀ : Hp
  env : Env
  outer : List Env
  stack : List Env
  ex : List Addr
  fn : Str → Bool
  calm : Bool
  pn : List (Addr × Obj)
  xe : Value → Shared → Prop
/-- the callers' frames -/
def frs (l : List Env) : List Addr := l.filterMap (·.frame)
abbrev Cx.fs (X : Cx) : List Addr := frs X.outer

def Vis (sc : Scope) (x : Str) : Prop := sc.names.lookup x = some .local ∨ sc.names.lookup x = some .cell ∨ sc.names.lookup x = some .free
def Loc (sc : Scope) (x : Str) : Prop := sc.names.lookup x = some .local ∨ sc.names.lookup x = some .cell
def Look (env : Env) (h : Heap) (m : Str → Option Value) (x : Str) (u : Value) : Prop :=
  (env.kindOf x = some .local ∧ m x = some u) ∨ ((env.kindOf x = some .cell ∨ env.kindOf x = some .free) ∧ ∃ c, env.cells.lookup x = some c ∧ h.IsCell c (some u))

structure Cx.Ok (X : Cx) : Prop where
  mod : Mod X.K X.mg X.base
  kind : X.env.scope.kind = .function
  glob : X.env.globals = mainGlobals
  blt : X.env.builtins = builtinsNs
  above : X.s₀.heap.objs.size ≤ X.env.locals
  inj : ∀ x y c, X.env.cells.lookup x = some c → X.env.cells.lookup y = some c → x = y
  has : ∀ x, (X.env.kindOf x = some .cell ∨ X.env.kindOf x = some .free) → ∃ c, X.env.cells.lookup x = some c
  cab : ∀ x c, X.fn x = true → X.env.cells.lookup x = some c → X.s₀.heap.objs.size ≤ c
  hd : X.calm = true → X.A.handled = none
  frames : X.A.frames = some X.stack
  stk : X.stack = X.outer ∨ (X.stack = X.env :: X.outer ∧ X.env.frame = some X.env.locals)
  exf : ∀ b ∈ X.ex, b ≠ X.env.locals ∧ ∀ x c, X.env.cells.lookup x = some c → c ≠ b
  bs : ∀ b o, X.base.get? b = some o → X.s₀.heap.get? b = some o ∧ X.H₀ b = none
  bsz : X.base.objs.size ≤ X.s₀.heap.objs.size
  noex : ∀ b o, X.base.get? b = some o → b ∉ X.ex
  exfs : ∀ b ∈ X.ex, b ∉ X.fs
  funs : X.s₀.heap.FunFrames X.base X.outer
  frf : ∀ b ∈ X.fs, X.H₀ b = none

structure Inv (X : Cx) (pins : List (Addr × Obj)) (σ : List (Option V)) (H : Hp) (s : Shared) : Prop where
  ok : X.Ok
  os : s.os = X.s₀.os
  bare : AllBare s.gens
  base : Un X.fs X.ex X.H₀ H X.s₀.heap s.heap
  loc : ∃ m, s.heap.Ns X.env.locals m ∧ ∀ (i : Nat) (x : Str) (v : V), X.N[i]? = some x → σ[i]? = some (some v) → Vis X.env.scope x → ∃ u, RelV v u ∧ Look X.env s.heap m x u
  cell : ∀ x c, X.env.cells.lookup x = some c → ∃ v, s.heap.IsCell c v
  free : H X.env.locals = none
  freeC : ∀ x c, X.env.cells.lookup x = some c → H c = none
  pin : ∀ p ∈ X.pn ++ pins, s.heap.get? p.1 = some p.2 ∧ H p.1 = none ∧ p.1 ≠ X.env.locals ∧ p.1 ∉ X.fs ∧ ∀ v, p.2.data ≠ .cell v
  hok : HOk X.prog X.w H s.heap
  len : σ.length = X.N.length

section
variable {X : Cx} {pins : List (Addr × Obj)} {σ : List (Option V)} {H H' : Hp} {s : Shared} {h' : Heap}

theorem Cx.Ok.nofr (ok : X.Ok) {b : Addr} {o : Obj} (e : X.base.get? b = some o) : b ∉ X.fs := fun hb => by
  have := (ok.funs.mem hb).1
  rw [e] at this; cases this
theorem Inv.bs (I : Inv X pins σ H s) : ∀ b o, X.base.get? b = some o → s.heap.get? b = some o ∧ H b = none := fun b o e =>
  ⟨I.base.keep b o (I.ok.bs b o e).1 (I.ok.bs b o e).2 (I.ok.nofr e) (I.ok.noex b o e), I.base.free b o (I.ok.bs b o e).1 (I.ok.bs b o e).2 (I.ok.noex b o e)⟩
theorem Inv.bk (I : Inv X pins σ H s) : ∀ b o, X.base.get? b = some o → s.heap.get? b = some o := fun b o e => (I.bs b o e).1
theorem Inv.mod (I : Inv X pins σ H s) : Mod X.K X.mg X.base := I.ok.mod
theorem Inv.kIn (I : Inv X pins σ H s) : X.K.In s.heap := I.ok.mod.kin.keeps I.bk
theorem Inv.nolimit (I : Inv X pins σ H s) : s.heap.NoLimit := I.ok.mod.nolimit.keeps I.bk
theorem Inv.lt (I : Inv X pins σ H s) : X.env.locals < s.heap.objs.size := let ⟨_, hn, _⟩ := I.loc; hn.lt
theorem Inv.sz (I : Inv X pins σ H s) : X.s₀.heap.objs.size ≤ s.heap.objs.size := Nat.le_trans I.ok.above (Nat.le_of_lt I.lt)
theorem Inv.nofs (I : Inv X pins σ H s) {a : Addr} (h : s.heap.objs.size ≤ a) : a ∉ X.fs := fun hb => by
  obtain ⟨_, o, ho, _⟩ := I.ok.funs.mem hb
  exact absurd (Nat.lt_of_lt_of_le (Heap.lt_size ho) (Nat.le_trans I.sz h)) (Nat.lt_irrefl _)
theorem Inv.cne (I : Inv X pins σ H s) : ∀ x c, X.env.cells.lookup x = some c → c ≠ X.env.locals := fun x c e z => by
  obtain ⟨v, o, ho, hd⟩ := I.cell x c e
  obtain ⟨m, ⟨o', es, ep, ho', hd', _⟩, _⟩ := I.loc
  rw [z, ho'] at ho; cases ho; rw [hd'] at hd; cases hd
theorem Inv.funs (I : Inv X pins σ H s) : s.heap.FunFrames X.base X.outer := by
  have all : ∀ (l : List Env), (∀ b ∈ frs l, b ∈ X.fs) → X.s₀.heap.FunFrames X.base l → s.heap.FunFrames X.base l := by
    intro l
    induction l with
    | nil => intro _ _; trivial
    | cons env r ih =>
      intro hs hl
      obtain ⟨hk, ⟨L, o, hf, hn, ho, hd⟩, hr⟩ := hl
      have hL : L ∈ X.fs := hs L (by unfold frs; rw [List.filterMap_cons, hf]; exact List.mem_cons_self)
      obtain ⟨sl, e⟩ := I.base.slot L o ho (I.ok.frf L hL) hL fun z => I.ok.exfs L z hL
      exact ⟨hk, ⟨L, _, hf, hn, e, hd⟩, ih (fun b hb => hs b (by unfold frs; rw [List.filterMap_cons, hf]; exact List.mem_cons_of_mem _ hb)) hr⟩
  exact all X.outer (fun _ hb => hb) I.ok.funs

/-- the frames that run, for a call -/
theorem Inv.stack (I : Inv X pins σ H s) : s.heap.FunFrames X.base X.stack := by
  rcases I.ok.stk with e | ⟨e, hf⟩
  · rw [e]; exact I.funs
  · rw [e]
    obtain ⟨m, hn, _⟩ := I.loc
    refine .cons (by rw [I.ok.kind]; decide) hf hn ?_ I.funs
    exact Heap.get?_none_of_le (Nat.le_trans I.ok.bsz I.ok.above)
theorem Inv.stkSub (I : Inv X pins σ H s) : ∀ b ∈ frs X.stack, b ∈ X.env.locals :: X.fs := fun b hb => by
  rcases I.ok.stk with e | ⟨e, hf⟩
  · rw [e] at hb; exact List.mem_cons_of_mem _ hb
  · rw [e] at hb
    unfold frs at hb
    rw [List.filterMap_cons, hf] at hb
    exact hb
theorem Inv.stkFree (I : Inv X pins σ H s) : ∀ b ∈ frs X.stack, H b = none := fun b hb => by
  rcases List.mem_cons.mp (I.stkSub b hb) with e | hb
  · rw [e]; exact I.free
  · obtain ⟨_, o, ho, _⟩ := I.ok.funs.mem hb
    exact I.base.free b o ho (I.ok.frf b hb) fun z => I.ok.exfs b z hb

/-- THE STEP: the untracked objects but the frame and the records at ch are kept (the callers' frames up to slots), the frame's map is kept, the new abstract heap is held -/
theorem Inv.step {g' : Array GenState} {t' : Nat} {d' : Drawn} {ch : List Addr} (I : Inv X pins σ H s)
    (hch : ∀ b ∈ ch, (b ∈ X.ex ∨ X.s₀.heap.objs.size ≤ b) ∧ b ≠ X.env.locals ∧ (∀ x c, X.env.cells.lookup x = some c → c ≠ b) ∧ ∀ p ∈ X.pn ++ pins, p.1 ≠ b)
    (keep : ∀ b o, b ≠ X.env.locals → b ∉ X.fs → b ∉ ch → s.heap.get? b = some o → H b = none → h'.get? b = some o)
    (slot : ∀ b o, b ≠ X.env.locals → b ∈ X.fs → b ∉ ch → s.heap.get? b = some o → H b = none → ∃ sl, h'.get? b = some { o with slots := sl }) (free : ∀ b o, b ∉ ch → s.heap.get? b = some o → H b = none → H' b = none)
    (there : ∀ b o, b ∉ ch → s.heap.get? b = some o → ∃ o', h'.get? b = some o')
    (tups : ∀ b xs, H b = some (.tup xs) → H' b = some (.tup xs)) (frzs : ∀ b o u, H b = some (.frz o u) → H' b = some (.frz o u)) (tbls : ∀ b ps, H b = some (.tbl ps) → ∃ more, H' b = some (.tbl (ps ++ more)))
    (ns : ∀ m, s.heap.Ns X.env.locals m → h'.Ns X.env.locals m) (hok : HOk X.prog X.w H' h') (hg : AllBare g') :
    Inv X pins σ H' { s with heap := h', gens := g', drawn := d', toks := t' } := by
  have neL : ∀ b o, X.s₀.heap.get? b = some o → b ≠ X.env.locals := fun b o e => Nat.ne_of_lt (Nat.lt_of_lt_of_le (Heap.lt_size e) I.ok.above)
  have neC : ∀ b o, X.s₀.heap.get? b = some o → b ∉ X.ex → b ∉ ch := fun b o e hx hb => by
    rcases (hch b hb).1 with z | z
    · exact hx z
    · exact absurd (Nat.lt_of_lt_of_le (Heap.lt_size e) z) (Nat.lt_irrefl _)
  have cellK : ∀ x c, X.env.cells.lookup x = some c → ∀ v, s.heap.IsCell c v → h'.IsCell c v := fun x c e v ⟨o, ho, hd⟩ => by
    have nch : c ∉ ch := fun z => (hch c z).2.2.1 x c e rfl
    by_cases hc : c ∈ X.fs
    · obtain ⟨sl, q⟩ := slot c o (I.cne x c e) hc nch ho (I.freeC x c e)
      exact ⟨_, q, hd⟩
    · exact ⟨o, keep c o (I.cne x c e) hc nch ho (I.freeC x c e), hd⟩
  refine ⟨I.ok, I.os, hg, ⟨fun b o e n hb hx => ?_, fun b o e n hb hx => ?_, fun b o e n hx => ?_, fun b o e hx => ?_, fun b xs e => tups b xs (I.base.tups b xs e), fun b o xs e => frzs b o xs (I.base.frzs b o xs e), fun b ps e => ?_⟩, ?_, fun x c e => ?_, ?_, fun x c e => ?_, fun p hp => ?_, hok, I.len⟩
  · exact keep b o (neL b o e) hb (neC b o e hx) (I.base.keep b o e n hb hx) (I.base.free b o e n hx)
  · obtain ⟨sl, e1⟩ := I.base.slot b o e n hb hx
    obtain ⟨sl', e2⟩ := slot b _ (neL b o e) hb (neC b o e hx) e1 (I.base.free b o e n hx)
    exact ⟨sl', e2⟩
  · obtain ⟨o', e1⟩ := I.base.there b o e hx
    exact free b o' (neC b o e hx) e1 (I.base.free b o e n hx)
  · obtain ⟨o', e1⟩ := I.base.there b o e hx
    exact there b o' (neC b o e hx) e1
  · obtain ⟨m1, e1⟩ := I.base.tbls b ps e
    obtain ⟨m2, e2⟩ := tbls b _ e1
    exact ⟨m1 ++ m2, by rw [e2, Array.append_assoc]⟩
  · obtain ⟨m, hn, hl⟩ := I.loc
    refine ⟨m, ns m hn, fun i x v e1 e2 e3 => ?_⟩
    obtain ⟨u, r, l⟩ := hl i x v e1 e2 e3
    refine ⟨u, r, ?_⟩
    rcases l with l | ⟨k, c, e, z⟩
    · exact .inl l
    · exact .inr ⟨k, c, e, cellK x c e _ z⟩
  · obtain ⟨v, z⟩ := I.cell x c e
    exact ⟨v, cellK x c e v z⟩
  · obtain ⟨m, ⟨o, _, _, ho, _⟩, _⟩ := I.loc
    exact free _ o (fun z => (hch _ z).2.1 rfl) ho I.free
  · obtain ⟨v, o, ho, hd⟩ := I.cell x c e
    exact free c o (fun z => (hch c z).2.2.1 x c e rfl) ho (I.freeC x c e)
  · obtain ⟨e, n, ne, nf, d⟩ := I.pin p hp
    have nch : p.1 ∉ ch := fun z => (hch p.1 z).2.2.2 p hp rfl
    exact ⟨keep p.1 p.2 ne nf nch e n, free p.1 p.2 nch e n, ne, nf, d⟩
/-- .. where the frame's own object is kept too -/
theorem Inv.un {t' : Nat} (I : Inv X pins σ H s) (u : Un X.fs [] H H' s.heap h') (hok : HOk X.prog X.w H' h') : Inv X pins σ H' { s with heap := h', toks := t' } := by
  obtain ⟨m, ⟨o, es, ep, ho, r⟩, _⟩ := id I.loc
  obtain ⟨sl, hL⟩ := u.any ho I.free (by simp)
  exact I.step (g' := s.gens) (d' := s.drawn) (ch := []) (fun _ z => nomatch z) (fun b o _ hb _ e n => u.keep b o e n hb (by simp)) (fun b o _ hb _ e n => u.slot b o e n hb (by simp)) (fun b o _ e n => u.free b o e n (by simp)) (fun b o _ e => u.there b o e (by simp)) u.tups u.frzs u.tbls (fun m' hm => by
    obtain ⟨o', es', ep', ho', r'⟩ := hm
    rw [ho] at ho'; cases ho'
    exact ⟨_, es', ep', hL, r'⟩) hok I.bare
/-- behind a call (or a comprehension's block): the slots of this frame may have changed too, the records at ch may have turned -/
theorem Inv.call {g' : Array GenState} {t' : Nat} {d' : Drawn} {ch : List Addr} (I : Inv X pins σ H s) (u : Un (frs X.stack) ch H H' s.heap h') (hok : HOk X.prog X.w H' h') (hg : AllBare g')
    (hch : ∀ b ∈ ch, (b ∈ X.ex ∨ X.s₀.heap.objs.size ≤ b) ∧ b ≠ X.env.locals ∧ (∀ x c, X.env.cells.lookup x = some c → c ≠ b) ∧ ∀ p ∈ X.pn ++ pins, p.1 ≠ b) :
    Inv X pins σ H' { s with heap := h', gens := g', drawn := d', toks := t' } := by
  obtain ⟨m, ⟨o, es, ep, ho, r⟩, _⟩ := id I.loc
  obtain ⟨sl, hL⟩ := u.any ho I.free fun z => (hch _ z).2.1 rfl
  exact I.step (ch := ch) hch (fun b o hL hb hc e n => u.keep b o e n (fun z => (List.mem_cons.mp (I.stkSub b z)).elim hL hb) hc) (fun b o _ _ hc e n => u.any e n hc) (fun b o hc e n => u.free b o e n hc) (fun b o hc e => u.there b o e hc) u.tups u.frzs u.tbls (fun m' hm => by
    obtain ⟨o', es', ep', ho', r'⟩ := hm
    rw [ho] at ho'; cases ho'
    exact ⟨_, es', ep', hL, r'⟩) hok hg
/-- an untracked record of ours (an iterator) has turned -/
theorem Inv.turned {t' : Nat} {it : Addr} (I : Inv X pins σ H s) (k : ∀ b o, b ≠ it → s.heap.get? b = some o → h'.get? b = some o) (hn : H it = none) (hL : it ≠ X.env.locals)
    (h1 : it ∈ X.ex ∨ X.s₀.heap.objs.size ≤ it) (h2 : ∀ x c, X.env.cells.lookup x = some c → c ≠ it) (h3 : ∀ p ∈ X.pn ++ pins, p.1 ≠ it) : Inv X pins σ H { s with heap := h', toks := t' } := by
  have nit : ∀ b u, H b = some u → b ≠ it := fun b u e z => by rw [z, hn] at e; cases e
  refine I.step (g' := s.gens) (d' := s.drawn) (ch := [it]) (fun b hb => ?_) (fun b o _ _ hc e _ => k b o (fun z => hc (by simp [z])) e) (fun b o _ _ hc e _ => ⟨o.slots, k b o (fun z => hc (by simp [z])) e⟩) (fun _ _ _ _ n => n)
    (fun b o hc e => ⟨o, k b o (fun z => hc (by simp [z])) e⟩) (fun _ _ e => e) (fun _ _ _ e => e) (fun b ps e => ⟨#[], by rw [e]; simp⟩) (fun m hm => ?_) (fun b u e => ?_) I.bare
  · have e : b = it := by simpa using hb
    subst e
    exact ⟨h1, hL, h2, h3⟩
  · obtain ⟨o, es, ep, ho, r⟩ := hm
    exact ⟨o, es, ep, k _ o (Ne.symm hL) ho, r⟩
  · refine (I.hok b u e).stay (fun c v hc q => k c v ?_ q) (fun _ q => q) fun _ _ q => q
    rcases hc with z | z
    · rw [z]; exact nit b u e
    · exact nit c _ z
theorem Inv.tok (I : Inv X pins σ H s) (t : Nat) : Inv X pins σ H { s with toks := t } := I.un (h' := s.heap) (t' := t) Un.refl I.hok
/-- all objects kept -/
theorem Inv.kept {t' : Nat} (I : Inv X pins σ H s) (k : ∀ b u, s.heap.get? b = some u → h'.get? b = some u) : Inv X pins σ H { s with heap := h', toks := t' } := I.un (Un.kept k) (I.hok.kept k)
/-- a new object laid and tracked -/
theorem Inv.laid {a : Addr} {o : HO} {t' : Nat} (I : Inv X pins σ H s) (k : ∀ b u, s.heap.get? b = some u → h'.get? b = some u) (hp : s.heap.objs.size ≤ a) (new : ObjOk X.prog X.w (upd H a o) h' a o) :
    Inv X pins σ (upd H a o) { s with heap := h', toks := t' } := I.un (Un.laid k hp (I.hok.fresh hp)) (I.hok.laid k hp new)
/-- an object written -/
theorem Inv.write {x e : Addr} {o : HO} {t' : Nat} (I : Inv X pins σ H s) (mu : Mut (H x)) (he : e = x ∨ H e = some (.own x)) (k : ∀ b u, b ≠ e → s.heap.get? b = some u → h'.get? b = some u) (heo : ∃ u, h'.get? e = some u)
    (new : ObjOk X.prog X.w (upd H x o) h' x o) : Inv X pins σ (upd H x o) { s with heap := h', toks := t' } := I.un (Un.write mu he k heo) (I.hok.write mu he k heo new)
theorem Inv.pins_of {pins' : List (Addr × Obj)} (I : Inv X pins σ H s) (h : ∀ p ∈ pins', s.heap.get? p.1 = some p.2 ∧ H p.1 = none ∧ p.1 ≠ X.env.locals ∧ p.1 ∉ X.fs ∧ ∀ v, p.2.data ≠ .cell v) : Inv X pins' σ H s :=
  ⟨I.ok, I.os, I.bare, I.base, I.loc, I.cell, I.free, I.freeC, fun p hp => (List.mem_append.mp hp).elim (fun z => I.pin p (List.mem_append_left _ z)) (h p), I.hok, I.len⟩

theorem nodup_ix {N : List Str} (hN : N.Nodup) {i j : Nat} {x : Str} (a : N[i]? = some x) (b : N[j]? = some x) : i = j := by
  obtain ⟨h1, e1⟩ := List.getElem?_eq_some_iff.mp a
  obtain ⟨h2, e2⟩ := List.getElem?_eq_some_iff.mp b
  exact (List.getElem_inj hN).mp (e1.trans e2.symm)

/-- a name is stored; what changed -/
theorem store_ok2 {M : Model} {A : Around} {E : Value → Shared → Prop} {i : Nat} {x : Str} {v : V} {u : Value} {Q : Unit → Shared → Prop} (I : Inv X pins σ H s) (hN : X.N.Nodup) (hi : X.N[i]? = some x) (hx : Loc X.env.scope x) (r : RelV v u)
    (h : ∀ s', Inv X pins (σ.set i (some v)) H s' → (∃ a, Heap.SameBut a s.heap s'.heap ∧ (a = X.env.locals ∨ X.env.cells.lookup x = some a)) → Q () s') (hf : X.fn x = true ∨ X.env.scope.names.lookup x = some .local := by first | exact .inl rfl | exact .inr rfl | assumption) : wpAny M A (storeName X.env x u) Q E s := by
  obtain ⟨m, hn, hl⟩ := id I.loc
  have hcls : (X.env.scope.kind == .class || (X.env.scope.kind == .module && X.env.locals != X.env.globals)) = false := by rw [I.ok.kind]; rfl
  have hiσ : i < σ.length := by rw [I.len]; exact (List.getElem?_eq_some_iff.mp hi).1
  have cne := I.cne
  have tracked : ∀ {a : Addr} {h' : Heap}, (∃ o, s.heap.get? a = some o ∧ H a = none) → Heap.SameBut a s.heap h' → HOk X.prog X.w H h' := fun {a h'} ha hs b ob e => by
    obtain ⟨_, _, hfree⟩ := ha
    refine (I.hok b ob e).stay (fun c w' hc q => (hs.2 c ?_).trans q) (fun _ q => q) fun _ _ q => q
    rintro rfl
    rcases hc with rfl | hc
    · rw [hfree] at e; cases e
    · rw [hfree] at hc; cases hc
  rcases hx with hk | hk
  · refine wpAny_storeName_local hk hn (fun h' hn' hs => ?_) hcls
    obtain ⟨oL, _, _, hoL, _⟩ := id hn
    refine h _ ⟨I.ok, I.os, I.bare, ⟨fun b o e n hb hx => ?_, fun b o e n hb hx => ?_, I.base.free, fun b o e hx => ?_, I.base.tups, I.base.frzs, I.base.tbls⟩, ⟨_, hn', fun j y v' e1 e2 e3 => ?_⟩, fun y c e => ?_, I.free, I.freeC, fun p hp => ?_, tracked ⟨oL, hoL, I.free⟩ hs, by simpa using I.len⟩ ⟨_, hs, .inl rfl⟩
    · exact (hs.2 b (Nat.ne_of_lt (Nat.lt_of_lt_of_le (Heap.lt_size e) I.ok.above))).trans (I.base.keep b o e n hb hx)
    · obtain ⟨sl, e1⟩ := I.base.slot b o e n hb hx
      exact ⟨sl, (hs.2 b (Nat.ne_of_lt (Nat.lt_of_lt_of_le (Heap.lt_size e) I.ok.above))).trans e1⟩
    · obtain ⟨o', e1⟩ := I.base.there b o e hx
      exact ⟨o', (hs.2 b (Nat.ne_of_lt (Nat.lt_of_lt_of_le (Heap.lt_size e) I.ok.above))).trans e1⟩
    · by_cases hj : j = i
      · subst hj
        rw [hi] at e1; cases e1
        rw [List.getElem?_set_self hiσ] at e2
        cases e2
        exact ⟨u, r, .inl ⟨hk, by simp⟩⟩
      · rw [List.getElem?_set_ne (Ne.symm hj)] at e2
        obtain ⟨u', r', q⟩ := hl j y v' e1 e2 e3
        refine ⟨u', r', ?_⟩
        rcases q with ⟨k, e⟩ | ⟨k, c, e, z⟩
        · refine .inl ⟨k, ?_⟩
          have : y ≠ x := fun e => hj (nodup_ix hN e1 (e ▸ hi))
          simp [this, e]
        · exact .inr ⟨k, c, e, z.sameBut hs (cne y c e)⟩
    · obtain ⟨w', z⟩ := I.cell y c e
      exact ⟨w', z.sameBut hs (cne y c e)⟩
    · obtain ⟨e, n, ne, nf, d⟩ := I.pin p hp
      exact ⟨(hs.2 p.1 ne).trans e, n, ne, nf, d⟩
  · have hfn : X.fn x = true := by
      rcases hf with z | z
      · exact z
      · rw [z] at hk; cases hk
    obtain ⟨c, hc⟩ := I.ok.has x (.inl hk)
    obtain ⟨w', z⟩ := I.cell x c hc
    refine wpAny_storeName_cell I.ok.kind hk hc z (fun h' hc' hs => ?_)
    obtain ⟨oc, hoc, hocd⟩ := id z
    refine h { s with heap := h' } ⟨I.ok, I.os, I.bare, ⟨fun b o e n hb hx => ?_, fun b o e n hb hx => ?_, I.base.free, fun b o e hx => ?_, I.base.tups, I.base.frzs, I.base.tbls⟩, ⟨m, hn.sameBut hs (Ne.symm (cne x c hc)), fun j y v' e1 e2 e3 => ?_⟩, fun y c' e => ?_, I.free, I.freeC, fun p hp => ?_, tracked ⟨oc, hoc, I.freeC x c hc⟩ hs, by simpa using I.len⟩ ⟨c, hs, .inr hc⟩
    · exact (hs.2 b (Nat.ne_of_lt (Nat.lt_of_lt_of_le (Heap.lt_size e) (I.ok.cab x c hfn hc)))).trans (I.base.keep b o e n hb hx)
    · obtain ⟨sl, e1⟩ := I.base.slot b o e n hb hx
      exact ⟨sl, (hs.2 b (Nat.ne_of_lt (Nat.lt_of_lt_of_le (Heap.lt_size e) (I.ok.cab x c hfn hc)))).trans e1⟩
    · obtain ⟨o', e1⟩ := I.base.there b o e hx
      exact ⟨o', (hs.2 b (Nat.ne_of_lt (Nat.lt_of_lt_of_le (Heap.lt_size e) (I.ok.cab x c hfn hc)))).trans e1⟩
    · by_cases hj : j = i
      · subst hj
        rw [hi] at e1; cases e1
        rw [List.getElem?_set_self hiσ] at e2
        cases e2
        exact ⟨u, r, .inr ⟨.inl hk, c, hc, hc'⟩⟩
      · rw [List.getElem?_set_ne (Ne.symm hj)] at e2
        obtain ⟨u', r', q⟩ := hl j y v' e1 e2 e3
        refine ⟨u', r', ?_⟩
        rcases q with q | ⟨k, c', e, z'⟩
        · exact .inl q
        · refine .inr ⟨k, c', e, z'.sameBut hs ?_⟩
          rintro rfl
          exact hj (nodup_ix hN e1 (I.ok.inj _ _ _ e hc ▸ hi))
    · by_cases hcc : c' = c
      · subst hcc; exact ⟨_, hc'⟩
      · obtain ⟨w2, z2⟩ := I.cell y c' e
        exact ⟨w2, z2.sameBut hs hcc⟩
    · obtain ⟨e, n, ne, nf, d⟩ := I.pin p hp
      refine ⟨(hs.2 p.1 ?_).trans e, n, ne, nf, d⟩
      intro q
      rw [q, hoc] at e
      have q' : oc = p.2 := Option.some.inj e
      exact d w' (by rw [← q']; exact hocd)
theorem store_ok {M : Model} {A : Around} {E : Value → Shared → Prop} {i : Nat} {x : Str} {v : V} {u : Value} {Q : Unit → Shared → Prop} (I : Inv X pins σ H s) (hN : X.N.Nodup) (hi : X.N[i]? = some x) (hx : Loc X.env.scope x) (r : RelV v u)
    (h : ∀ s', Inv X pins (σ.set i (some v)) H s' → Q () s') (hf : X.fn x = true ∨ X.env.scope.names.lookup x = some .local := by first | exact .inl rfl | exact .inr rfl | assumption) : wpAny M A (storeName X.env x u) Q E s :=
  store_ok2 I hN hi hx r (fun s' I' _ => h s' I') hf
/-- behind a call or a block, the state as it is -/
theorem Inv.call' {s' : Shared} {ch : List Addr} (I : Inv X pins σ H s) (ho : s'.os = s.os) (u : Un (frs X.stack) ch H H' s.heap s'.heap) (hok : HOk X.prog X.w H' s'.heap) (hg : AllBare s'.gens)
    (hch : ∀ b ∈ ch, (b ∈ X.ex ∨ X.s₀.heap.objs.size ≤ b) ∧ b ≠ X.env.locals ∧ (∀ x c, X.env.cells.lookup x = some c → c ≠ b) ∧ ∀ p ∈ X.pn ++ pins, p.1 ≠ b) : Inv X pins σ H' s' := by
  obtain ⟨h', g', d', t', o'⟩ := s'
  have e : o' = s.os := ho
  subst e
  exact I.call (g' := g') (t' := t') (d' := d') u hok hg hch
end

/-- an exception: its class, its own dict's address (where it has one), the abstract heap behind it -/
abbrev XK := Value → Option Addr → Hp → Prop
abbrev St := List (Option V)
abbrev VK := V → Hp → Prop
/-- an expression's reading; a test's; an argument list's -/
abbrev TE := St → Hp → VK → Prop
abbrev TT := St → Hp → (Bool → Hp → Prop) → Prop
abbrev TA := St → Hp → (List V → Hp → Prop) → Prop
/-- what is wanted behind a statement -/
structure Ends where
  nx : St → Hp → Prop
  rt : VK
  bk : St → Hp → Prop := fun _ _ => False
  ct : St → Hp → Prop := fun _ _ => False
abbrev TS := Ends → St → Hp → Prop

def EP (X : Cx) (pins : List (Addr × Obj)) (σ : St) (Q : VK) (u : Value) (s' : Shared) : Prop := ∃ v H', Inv X pins σ H' s' ∧ RelV v u ∧ Q v H'
def TP (X : Cx) (pins : List (Addr × Obj)) (σ : St) (Q : Bool → Hp → Prop) (b : Bool) (s' : Shared) : Prop := ∃ H', Inv X pins σ H' s' ∧ Q b H'
def AP (X : Cx) (pins : List (Addr × Obj)) (σ : St) (Q : List V → Hp → Prop) (us : List Value) (s' : Shared) : Prop := ∃ vs H', Inv X pins σ H' s' ∧ Vals vs us ∧ Q vs H'
def SP (X : Cx) (pins : List (Addr × Obj)) (D : Ends) (f : Flow) (s' : Shared) : Prop :=
  match f with
  | .next => ∃ σ' H', Inv X pins σ' H' s' ∧ D.nx σ' H'
  | .brk => ∃ σ' H', Inv X pins σ' H' s' ∧ D.bk σ' H'
  | .cont => ∃ σ' H', Inv X pins σ' H' s' ∧ D.ct σ' H'
  | .ret u => ∃ v σ' H', Inv X pins σ' H' s' ∧ RelV v u ∧ D.rt v H'

def PE (X : Cx) (e : Expr) (t : TE) : Prop :=
  ∀ (pins : List (Addr × Obj)) (s : Shared) (σ : St) (H : Hp) (Q : VK), Inv X pins σ H s → t σ H Q → wpAny (model X.prog X.w) X.A (eval e X.env) (EP X pins σ Q) X.xe s
def PT (X : Cx) (e : Expr) (t : TT) : Prop :=
  ∀ (pins : List (Addr × Obj)) (s : Shared) (σ : St) (H : Hp) (Q : Bool → Hp → Prop), Inv X pins σ H s → t σ H Q → wpAny (model X.prog X.w) X.A (isTrue e X.env (eval e X.env)) (TP X pins σ Q) X.xe s
/-- a test whatever its 'whole' is (and, or) -/
def PW (X : Cx) (e : Expr) (t : TT) : Prop :=
  ∀ (whole : Sem Value) (pins : List (Addr × Obj)) (s : Shared) (σ : St) (H : Hp) (Q : Bool → Hp → Prop), Inv X pins σ H s → t σ H Q → wpAny (model X.prog X.w) X.A (isTrue e X.env whole) (TP X pins σ Q) X.xe s
theorem PW.pt {X : Cx} {e : Expr} {t : TT} (h : PW X e t) : PT X e t := h _
/-- an argument list (no star), from the left -/
def PA (X : Cx) (es : List Expr) (t : TA) : Prop :=
  ∀ (pos : Pos) (pins : List (Addr × Obj)) (s : Shared) (σ : St) (H : Hp) (Q : List V → Hp → Prop), Inv X pins σ H s → t σ H Q → wpAny (model X.prog X.w) X.A (spliced (backTo pos (starEach es X.env))) (AP X pins σ Q) X.xe s
def PS (X : Cx) (st : Stmt) (t : TS) : Prop :=
  ∀ (pins : List (Addr × Obj)) (s : Shared) (σ : St) (H : Hp) (D : Ends), Inv X pins σ H s → t D σ H → wpAny (model X.prog X.w) X.A (exec st X.env) (SP X pins D) X.xe s
def PSs (X : Cx) (st : List Stmt) (t : TS) : Prop :=
  ∀ (pins : List (Addr × Obj)) (s : Shared) (σ : St) (H : Hp) (D : Ends), Inv X pins σ H s → t D σ H → wpAny (model X.prog X.w) X.A (execs st X.env) (SP X pins D) X.xe s
/-- weaken the end -/
theorem thn {α : Type} {t : Sem α} {Q Q' : α → Shared → Prop} {M : Model} {A : Around} {E : Value → Shared → Prop} {s : Shared} (h : wpAny M A t Q E s) (hQ : ∀ a s, Q a s → Q' a s) : wpAny M A t Q' E s := wpAny_mono h hQ fun _ _ x => x
end L2

namespace L2
open PySem PySem.Spec PyProof.Rows
section
variable {X : Cx}

def tVar (i : Nat) : TE := fun σ H Q => ∃ v, σ[i]? = some (some v) ∧ Q v H
def tC (v : V) : TE := fun _ H Q => Q v H
theorem pe_var {i : Nat} {x : Str} {pos : Pos} (hN : X.N[i]? = some x) (hv : Vis X.env.scope x) (hd : (x == ("__debug__" : Str)) = false := by decide) (hcd : (x == ("__classdict__" : Str)) = false := by decide) : PE X (.Name x pos) (tVar i) := by
  intro pins s σ H Q I h
  obtain ⟨v, e, h⟩ := h
  obtain ⟨m, hn, hl⟩ := I.loc
  obtain ⟨u, r, l⟩ := hl i x v hN e hv
  have fin : EP X pins σ Q u s := ⟨v, H, I, r, h⟩
  rcases l with ⟨hk, hm⟩ | ⟨hk, c, hc, hcell⟩
  · exact wpAny_Name (wpAny_loadName_local I.ok.kind hk hn hm fin) hd
  · rcases hk with hk | hk
    · exact wpAny_Name (wpAny_loadName_cell I.ok.kind hk hc hcell fin) hd
    · exact wpAny_Name (wpAny_loadName_free I.ok.kind hk hc hcell fin hcd) hd
theorem pe_int {i j pos} : PE X (.Constant (.int i) j pos) (tC (.int i)) := fun _ _ _ H _ I h => wpAny_Constant_int ⟨.int i, H, I.tok _, ⟨_, rfl⟩, h⟩
theorem pe_bl {b j pos} : PE X (.Constant (.bool b) j pos) (tC (.bl b)) := fun _ _ _ H _ I h => Constant_bool ⟨.bl b, H, I, rfl, h⟩
theorem pe_non {j pos} : PE X (.Constant .none j pos) (tC .non) := fun _ _ _ H _ I h => Constant_none ⟨.non, H, I, rfl, h⟩
theorem pe_str {x j pos} : PE X (.Constant (.str x) j pos) (tC (.str x)) := fun _ _ _ H _ I h => Calls.Constant_str ⟨.str x, H, I.tok _, ⟨_, rfl⟩, h⟩

/-- a global name of the def -/
def Gl (X : Cx) (x : Str) : Prop := X.env.kindOf x = some .globalImplicit
theorem ld_glob {E : Value → Shared → Prop} {pins : List (Addr × Obj)} {s : Shared} {σ : St} {H : Hp} {x : Str} {u : Value} {pos : Pos} {Q : Value → Shared → Prop} (I : Inv X pins σ H s) (hg : Gl X x) (hm : X.mg x = some u) (h : Q u s)
    (hd : (x == ("__debug__" : Str)) = false := by decide) : wpAny (model X.prog X.w) X.A (eval (.Name x pos) X.env) Q E s :=
  Calls.Name_function_global I.ok.kind hg (Calls.loadGlobal_global (by rw [I.ok.glob]; exact I.mod.glob.keeps I.bk) hm h) hd
theorem ld_blt {E : Value → Shared → Prop} {pins : List (Addr × Obj)} {s : Shared} {σ : St} {H : Hp} {x : Str} {u : Value} {pos : Pos} {Q : Value → Shared → Prop} (I : Inv X pins σ H s) (hg : Gl X x) (hm : X.mg x = none) (hv : bootBuiltins x = some u) (h : Q u s)
    (hn : x ≠ "__name__" := by decide) (hd : (x == ("__debug__" : Str)) = false := by decide) : wpAny (model X.prog X.w) X.A (eval (.Name x pos) X.env) Q E s := by
  obtain ⟨mb, h1, h2⟩ := I.mod.blt
  exact Calls.Name_function_global I.ok.kind hg (Calls.loadGlobal_builtin (by rw [I.ok.glob]; exact I.mod.glob.keeps I.bk) hm (by rw [I.ok.blt]; exact h1.keeps I.bk) ((h2 x hn).trans hv) h) hd
/-- a module's constant, a class, a function, as a value -/
theorem pe_glob {x : Str} {v : V} {u : Value} {pos : Pos} (hg : Gl X x) (hm : X.mg x = some u) (r : RelV v u) (hd : (x == ("__debug__" : Str)) = false := by decide) : PE X (.Name x pos) (tC v) :=
  fun _ _ _ H _ I h => ld_glob I hg hm ⟨v, H, I, r, h⟩ hd
theorem pe_bltn {x : Str} {v : V} {u : Value} {pos : Pos} (hg : Gl X x) (hm : X.mg x = none) (hv : bootBuiltins x = some u) (r : RelV v u) (hn : x ≠ "__name__" := by decide) (hd : (x == ("__debug__" : Str)) = false := by decide) : PE X (.Name x pos) (tC v) :=
  fun _ _ _ H _ I h => ld_blt I hg hm hv ⟨v, H, I, r, h⟩ hn hd

variable {a b : Expr} {ta tb : TE} {pos : Pos}
variable {tA tB' : TT} {rest : List Expr}
theorem pw_or1 (ha : PT X a tA) : PW X (.BoolOp .Or [a] pos) tA := by
  intro wh pins s σ H Q I h
  refine isTrue_or (thn (ha pins s σ H Q I h) fun c s1 e => ?_)
  cases c with
  | false => exact isTrue_or_nil e
  | true => exact e
theorem pe_one {op} {t : TE} (h : PE X a t) : PE X (.BoolOp op [a] pos) t := fun pins s σ H Q I hw => BoolOp_one (h pins s σ H Q I hw)
end
end L2

namespace L2
open PySem PySem.Spec PyProof.Rows

def SqL (K : PySem.W.Frag) (H : Hp) (a : Addr) (xs : List V) : Prop :=
  Rd H a (.lst xs) ∨
    ∃ (o : Obj) (its : Array Value) (n : Nat), K.lookup a = some o ∧ o.cls = .type "list" ∧ o.dict = none ∧ o.data = .seq its n ∧ its.size ≤ sizeLine ∧ Vals xs its.toList
def SqT (K : PySem.W.Frag) (H : Hp) (a : Addr) (xs : List V) : Prop :=
  Rd H a (.tup xs) ∨
    ∃ (o : Obj) (its : Array Value) (n : Nat), K.lookup a = some o ∧ o.cls = .type "tuple" ∧ o.data = .seq its n ∧ its.size ≤ sizeLine ∧ Vals xs its.toList
def absV : Value → Option V
  | .none => some .non
  | .bool b => some (.bl b)
  | .int i _ => some (.int i)
  | .str x _ => some (.str x)
  | .bytes b _ => some (.byt b)
  | .float b _ => some (.flt b)
  | .ref a => some (.ref a)
  | .type n => some (.ty n)
  | _ => none
theorem RelV.abs {x : V} {u : Value} (r : RelV x u) : absV u = some x := by
  cases x with
  | non => cases r; rfl
  | bl _ => cases r; rfl
  | int _ => obtain ⟨t, rfl⟩ := r; rfl
  | str _ => obtain ⟨t, rfl⟩ := r; rfl
  | byt _ => obtain ⟨t, rfl⟩ := r; rfl
  | flt _ => obtain ⟨t, rfl⟩ := r; rfl
  | ref _ => cases r; rfl
  | ty _ => cases r; rfl
theorem RelV.inj {x y : V} {u : Value} (r : RelV x u) (q : RelV y u) : x = y := Option.some.inj (r.abs.symm.trans q.abs)
theorem Vals.inj : ∀ {xs ys : List V} {us : List Value}, Vals xs us → Vals ys us → xs = ys
  | _, _, _, .nil, .nil => rfl
  | _, _, _, .cons r t, .cons r' t' => by rw [r.inj r', Vals.inj t t']
section
variable {X : Cx} {pins : List (Addr × Obj)} {σ : St} {H : Hp} {s : Shared} {a : Addr} {xs ys : List V}
theorem SqL.of {K : PySem.W.Frag} (h : H a = some (.lst xs)) : SqL K H a xs := .inl (.inl h)
theorem SqT.of {K : PySem.W.Frag} (h : H a = some (.tup xs)) : SqT K H a xs := .inl (.inl h)
theorem Inv.list (I : Inv X pins σ H s) (h : SqL X.K H a xs) : ∃ its : List Value, Vals xs its ∧ PlainL s.heap a its.toArray ∧ xs.length ≤ sizeLine := by
  rcases h with h | ⟨o, its, n, hk, hc, hd, hs, hz, r⟩
  · obtain ⟨z, its, n, r, e⟩ := h.ok I.hok
    exact ⟨its, r, ⟨_, n, e, rfl, rfl, rfl⟩, z⟩
  · refine ⟨its.toList, r, ⟨o, n, I.kIn a o hk, hc, hd, by simpa using hs⟩, ?_⟩
    have e := r.length
    simp only [Array.length_toList] at e
    omega
theorem Inv.tuple (I : Inv X pins σ H s) (h : SqT X.K H a xs) : ∃ its : List Value, Vals xs its ∧ IsTup s.heap a its.toArray ∧ xs.length ≤ sizeLine := by
  rcases h with h | ⟨o, its, n, hk, hc, hs, hz, r⟩
  · obtain ⟨z, its, r, p⟩ := h.ok I.hok
    exact ⟨its, r, p, z⟩
  · refine ⟨its.toList, r, ⟨o, I.kIn a o hk, hc, n, by simpa using hs⟩, ?_⟩
    have e := r.length
    simp only [Array.length_toList] at e
    omega
theorem Inv.list_inj (I : Inv X pins σ H s) (h : SqL X.K H a xs) (h' : SqL X.K H a ys) : xs = ys := by
  obtain ⟨its, r, ⟨o, n, e, _, _, d⟩, _⟩ := I.list h
  obtain ⟨its', r', ⟨o', n', e', _, _, d'⟩, _⟩ := I.list h'
  rw [e] at e'; cases e'
  rw [d] at d'
  injection d' with d1 _
  have : its = its' := by simpa using congrArg Array.toList d1
  subst this
  exact r.inj r'
theorem Inv.tuple_inj (I : Inv X pins σ H s) (h : SqT X.K H a xs) (h' : SqT X.K H a ys) : xs = ys := by
  obtain ⟨its, r, ⟨o, e, _, n, d⟩, _⟩ := I.tuple h
  obtain ⟨its', r', ⟨o', e', _, n', d'⟩, _⟩ := I.tuple h'
  rw [e] at e'; cases e'
  rw [d] at d'
  injection d' with d1 _
  have : its = its' := by simpa using congrArg Array.toList d1
  subst this
  exact r.inj r'
end

abbrev Cx.wish (X : Cx) (E : Value → Shared → Prop) : Cx := { X with xe := E }
/-- no exception leaves -/
abbrev Cx.nox (X : Cx) : Cx := X.wish fun _ _ => False
theorem Cx.Ok.wish {X : Cx} (ok : X.Ok) (E : Value → Shared → Prop) : (X.wish E).Ok :=
  ⟨ok.mod, ok.kind, ok.glob, ok.blt, ok.above, ok.inj, ok.has, ok.cab, ok.hd, ok.frames, ok.stk, ok.exf, ok.bs, ok.bsz, ok.noex, ok.exfs, ok.funs, ok.frf⟩
theorem Cx.Ok.unwish {X : Cx} {E : Value → Shared → Prop} (ok : (X.wish E).Ok) : X.Ok :=
  ⟨ok.mod, ok.kind, ok.glob, ok.blt, ok.above, ok.inj, ok.has, ok.cab, ok.hd, ok.frames, ok.stk, ok.exf, ok.bs, ok.bsz, ok.noex, ok.exfs, ok.funs, ok.frf⟩
section
variable {X : Cx} {pins : List (Addr × Obj)} {σ : St} {H : Hp} {s : Shared} {E : Value → Shared → Prop}
theorem Inv.wish (I : Inv X pins σ H s) (E : Value → Shared → Prop) : Inv (X.wish E) pins σ H s := ⟨I.ok.wish E, I.os, I.bare, I.base, I.loc, I.cell, I.free, I.freeC, I.pin, I.hok, I.len⟩
theorem Inv.unwish (I : Inv (X.wish E) pins σ H s) : Inv X pins σ H s := ⟨I.ok.unwish, I.os, I.bare, I.base, I.loc, I.cell, I.free, I.freeC, I.pin, I.hok, I.len⟩
theorem SP.unwish {D : Ends} {f : Flow} {s' : Shared} (h : SP (X.wish E) pins D f s') : SP X pins D f s' := by
  cases f with
  | next => obtain ⟨σ', H', I, q⟩ := h; exact ⟨σ', H', I.unwish, q⟩
  | brk => obtain ⟨σ', H', I, q⟩ := h; exact ⟨σ', H', I.unwish, q⟩
  | cont => obtain ⟨σ', H', I, q⟩ := h; exact ⟨σ', H', I.unwish, q⟩
  | ret u => obtain ⟨v, σ', H', I, r, q⟩ := h; exact ⟨v, σ', H', I.unwish, r, q⟩
theorem PE.nox {e : Expr} {t : TE} (h : PE X.nox e t) : PE X e t := fun pins s σ H Q I hw =>
  wpAny_mono (h pins s σ H Q (I.wish _) hw) (fun _ _ ⟨v, H', I', r, q⟩ => ⟨v, H', I'.unwish, r, q⟩) fun _ _ z => False.elim z
theorem PT.nox {e : Expr} {t : TT} (h : PT X.nox e t) : PT X e t := fun pins s σ H Q I hw =>
  wpAny_mono (h pins s σ H Q (I.wish _) hw) (fun _ _ ⟨H', I', q⟩ => ⟨H', I'.unwish, q⟩) fun _ _ z => False.elim z
theorem PSs.nox {st : List Stmt} {t : TS} (h : PSs X.nox st t) : PSs X st t := fun pins s σ H D I hw =>
  wpAny_mono (h pins s σ H D (I.wish _) hw) (fun _ _ q => q.unwish) fun _ _ z => False.elim z
end

section
variable {X : Cx} {st : Stmt} {rest : List Stmt} {t u : TS} {e : Expr} {te : TE} {pos : Pos}
def tNext : TS := fun D σ H => D.nx σ H
def tSeq (t u : TS) : TS := fun D σ H => t { D with nx := u D } σ H
theorem pss_nil : PSs X [] tNext := fun _ _ σ H _ I h => wpAny_execs_nil ⟨σ, H, I, h⟩
theorem pss_cons (h1 : PS X st t) (h2 : PSs X rest u) : PSs X (st :: rest) (tSeq t u) := by
  intro pins s σ H D I h
  refine wpAny_execs_cons (thn (h1 pins s σ H { D with nx := u D } I h) fun f s1 q => ?_)
  cases f with
  | next =>
    obtain ⟨σ', H', I', q⟩ := q
    exact h2 pins s1 σ' H' D I' q
  | ret v => exact q
  | brk => exact q
  | cont => exact q
theorem pss_one (h1 : PS X st t) : PSs X [st] t := by
  intro pins s σ H D I h
  refine wpAny_execs_cons (thn (h1 pins s σ H D I h) fun f s1 q => ?_)
  cases f with
  | next => exact wpAny_execs_nil q
  | ret v => exact q
  | brk => exact q
  | cont => exact q
/-- in a def's body nothing is shown -/
theorem Inv.quiet {pins : List (Addr × Obj)} {σ : St} {H : Hp} {s : Shared} (I : Inv X pins σ H s) : interactive X.env = false := by simp [interactive, I.ok.kind]
end

abbrev TG := V → St → Hp → (St → Hp → Prop) → Prop
abbrev TGs := List V → St → Hp → (St → Hp → Prop) → Prop
def PG (X : Cx) (target : Expr) (t : TG) : Prop :=
  ∀ (pins : List (Addr × Obj)) (s : Shared) (σ : St) (H : Hp) (v : V) (u : Value) (Q : St → Hp → Prop), Inv X pins σ H s → RelV v u → t v σ H Q →
    wpAny (model X.prog X.w) X.A (assign target X.env u) (fun _ s' => ∃ σ' H', Inv X pins σ' H' s' ∧ Q σ' H') X.xe s
/-- several targets, one after another -/
def PGs (X : Cx) (ts : List Expr) (t : TGs) : Prop :=
  ∀ (pins : List (Addr × Obj)) (s : Shared) (σ : St) (H : Hp) (vs : List V) (us : List Value) (Q : St → Hp → Prop), Inv X pins σ H s → Vals vs us → t vs σ H Q →
    wpAny (model X.prog X.w) X.A (assignInOrder ((assignEach ts X.env).map (·.2)) us) (fun _ s' => ∃ σ' H', Inv X pins σ' H' s' ∧ Q σ' H') X.xe s
/-- o[i] = v, by values -/
abbrev TSet := V → V → V → Hp → (Hp → Prop) → Prop
def PSet (X : Cx) (t : TSet) : Prop :=
  ∀ (pins : List (Addr × Obj)) (s : Shared) (σ : St) (H : Hp) (o i v : V) (ov iv u : Value) (Q : Hp → Prop), Inv X pins σ H s → RelV o ov → RelV i iv → RelV v u → t o i v H Q →
    wpAny (model X.prog X.w) X.A (setItem ov iv u) (fun _ s' => ∃ H', Inv X pins σ H' s' ∧ Q H') X.xe s
/-- a op= b, by values -/
abbrev TIp := V → V → Hp → VK → Prop
def PIp (X : Cx) (op : Operator) (t : TIp) : Prop :=
  ∀ (pins : List (Addr × Obj)) (s : Shared) (σ : St) (H : Hp) (x y : V) (v u : Value) (Q : VK), Inv X pins σ H s → RelV x v → RelV y u → t x y H Q →
    wpAny (model X.prog X.w) X.A (inplaceOp op v u) (EP X pins σ Q) X.xe s
section
variable {X : Cx} {pos : Pos}
def gName (i : Nat) : TG := fun v σ H Q => Q (σ.set i (some v)) H
theorem pg_name {i : Nat} {x : Str} (hN : X.N.Nodup) (hi : X.N[i]? = some x) (hx : Loc X.env.scope x) (hf : X.fn x = true ∨ X.env.scope.names.lookup x = some .local := by first | exact .inl rfl | exact .inr rfl | assumption) : PG X (.Name x pos) (gName i) := by
  intro pins s σ H v u Q I r h
  exact wpAny_assign_Name (store_ok I hN hi hx r (fun s' I' => ⟨_, H, I', h⟩) hf)
def gNil : TGs := fun vs σ H Q => vs = [] ∧ Q σ H
def gCons (t : TG) (u : TGs) : TGs := fun vs σ H Q => ∃ v r, vs = v :: r ∧ t v σ H fun σ' H' => u r σ' H' Q
theorem pgs_nil : PGs X [] gNil := by
  intro pins s σ H vs us Q I r h
  obtain ⟨e, h⟩ := h
  subst e
  cases r
  exact assignInOrder_nil ⟨σ, H, I, h⟩
theorem pgs_cons {e : Expr} {es : List Expr} {t : TG} {u : TGs} (h1 : PG X e t) (h2 : PGs X es u)
    (hs : (assignEach (e :: es) X.env).map (·.2) = assign e X.env :: (assignEach es X.env).map (·.2) := by rfl) : PGs X (e :: es) (gCons t u) := by
  intro pins s σ H vs us Q I r h
  obtain ⟨v, vr, e1, h⟩ := h
  subst e1
  cases r with
  | cons r rr =>
    rw [hs]
    refine assignInOrder_cons (thn (h1 pins s σ H _ _ _ I r h) fun _ s1 ⟨σ1, H1, I1, q1⟩ => ?_)
    exact h2 pins s1 σ1 H1 _ _ Q I1 rr q1
/-- (a, b, ..) = a tuple of that length -/
def gTup (K : PySem.W.Frag) (n : Nat) (t : TGs) : TG := fun v σ H Q => ∃ a xs, v = .ref a ∧ SqT K H a xs ∧ xs.length = n ∧ t xs σ H Q
theorem pg_tup {es : List Expr} {k : Nat} {t : TGs} {n : Nat} (hc : X.calm = true) (h : PGs X es t)
    (hn : (assignEach es X.env).length = n := by rfl) (hst : (assignEach es X.env).findIdx? (·.1) = none := by rfl) : PG X (.Tuple es k pos) (gTup X.K n t) := by
  intro pins s σ H v u Q I r hw
  obtain ⟨a, xs, e1, hq, hl, hw⟩ := hw
  subst e1
  cases r
  obtain ⟨its, rv, ht, hz⟩ := I.tuple hq
  refine assign_Tuple_tuple (I.ok.hd hc) ht (by simp [hn, ← hl, rv.length]) hst fun h' hx => ?_
  have I1 : Inv X pins σ H { s with heap := h' } := I.kept (t' := s.toks) fun b o e => hx b o (Nat.ne_of_lt (Heap.lt_size e)) e
  exact h pins _ σ H xs _ Q I1 (by simpa using rv) hw
/-- o[i] = .. -/
def gSub (to ti : TE) (t : TSet) : TG := fun v σ H Q => to σ H fun o H1 => ti σ H1 fun i H2 => t o i v H2 fun H3 => Q σ H3
/-- a, b = x, y with plain local names: stored from the right; the pair itself is not tracked (the opening rows as in PyProof/Rows/TupAssign.lean:23) -/
def tPar (i j : Nat) (ta : TA) : TS := fun D σ H => ta σ H fun vs H1 => ∃ v w, vs = [v, w] ∧ D.nx ((σ.set i (some v)).set j (some w)) H1
theorem ps_par {i j : Nat} {x y : Str} {a b : Expr} {ta : TA} {px py pt : Pos} {kt k2 pt2} (hc : X.calm = true) (hN : X.N.Nodup) (hi : X.N[i]? = some x) (hj : X.N[j]? = some y) (hij : i ≠ j)
    (hx : X.env.scope.names.lookup x = some .local) (hy : X.env.scope.names.lookup y = some .local) (ha : PA X [a, b] ta)
    (hw : swappedStores [.Tuple [.Name x px, .Name y py] kt pt] (.Tuple [a, b] k2 pt2) X.env = pure (some [x, y]))
    (hs : swapsWithSole [.Tuple [.Name x px, .Name y py] kt pt] (.Tuple [a, b] k2 pt2) pos.line X.env = pure false := by rfl) :
    PS X (.Assign [.Tuple [.Name x px, .Name y py] kt pt] (.Tuple [a, b] k2 pt2) pos) (tPar i j ta) := by
  intro pins s σ H D I h
  rw [exec_Assign_arm]
  refine wpAny_bind (wpAny_standAt ?_)
  rw [hs]
  refine wpAny_bind (wpAny_pure ?_)
  rw [if_neg (by decide)]
  refine wpAny_bind (Tuple_ (thn (ha _ pins s σ H _ I h) fun us s1 ⟨vs, H1, I1, r1, q1⟩ => ?_))
  obtain ⟨v, w, e1, q1⟩ := q1
  subst e1
  obtain ⟨u1, u2, rfl, rv, rw'⟩ : ∃ u1 u2, us = [u1, u2] ∧ RelV v u1 ∧ RelV w u2 := by
    cases r1 with
    | cons p q =>
      cases q with
      | cons p' q' =>
        cases q'
        exact ⟨_, _, rfl, p, p'⟩
  refine wpAny_newObj_type ?_ (by show 2 ≤ sizeLine; decide)
  have I2 : Inv X pins σ H1 { s1 with heap := s1.heap.push { cls := .type "tuple", data := .seq [u1, u2].toArray } } := I1.kept (t' := s1.toks) fun b o e => Heap.get?_push_of_some _ e
  rw [hw]
  refine wpAny_bind (wpAny_pure ?_)
  show wpAny (model X.prog X.w) X.A (do rule "assign.swapped-stores"; let items ← unpackItems (.ref s1.heap.objs.size) 2 none; assignInOrder [fun v => bindName X.env y v, fun v => bindName X.env x v] items.reverse; pure Flow.next) _ _ _
  refine wpAny_bind (wpAny_rule (wpAny_bind (unpackItems_tuple (items := #[u1, u2]) (I.ok.hd hc) (IsTup.new s1.heap _) fun h' hx' => ?_)))
  have I3 := I2.kept (h' := h') (t' := s1.toks) fun b o e => hx' b o (Nat.ne_of_lt (Heap.lt_size e)) e
  show wpAny _ _ (assignInOrder [fun v => bindName X.env y v, fun v => bindName X.env x v] [u2, u1] >>= fun _ => pure Flow.next) _ _ _
  refine wpAny_bind (assignInOrder_cons (wpAny_bindName (store_ok I3 hN hj (.inl hy) rw' (fun s2 I4 => ?_) (.inr hy))))
  refine assignInOrder_cons (wpAny_bindName (store_ok I4 hN hi (.inl hx) rv (fun s3 I5 => assignInOrder_nil (wpAny_pure ?_)) (.inr hx)))
  rw [List.set_comm _ _ (Ne.symm hij)] at I5
  exact ⟨_, H1, I5, q1⟩
/-- name op= e -/
def tAug (i : Nat) (te : TE) (ti : TIp) : TS := fun D σ H => ∃ x, σ[i]? = some (some x) ∧ te σ H fun y H1 => ti x y H1 fun z H2 => D.nx (σ.set i (some z)) H2
theorem ps_aug {i : Nat} {x : Str} {e : Expr} {te : TE} {op : Operator} {ti : TIp} {pos' : Pos} (hN : X.N.Nodup) (hi : X.N[i]? = some x) (hx : Loc X.env.scope x) (he : PE X e te) (ho : PIp X op ti) (hf : X.fn x = true ∨ X.env.scope.names.lookup x = some .local := by first | exact .inl rfl | exact .inr rfl | assumption) :
    PS X (.AugAssign (.Name x pos') op e pos) (tAug i te ti) := by
  intro pins s σ H D I h
  obtain ⟨v, e1, h⟩ := h
  obtain ⟨m, hn, hl⟩ := I.loc
  have vis : Vis X.env.scope x := by rcases hx with k | k; exact .inl k; exact .inr (.inl k)
  obtain ⟨u, r, l⟩ := hl i x v hi e1 vis
  refine wpAny_AugAssign_Name ?_
  have go : wpAny (model X.prog X.w) X.A (eval e X.env) (fun w s₂ => wpAny (model X.prog X.w) X.A (inplaceOp op u w) (fun r s₃ => wpAny (model X.prog X.w) X.A (storeName X.env x r) (fun _ => SP X pins D .next) X.xe s₃) X.xe s₂) X.xe s := by
    refine thn (he pins s σ H _ I h) fun w s1 ⟨y, H1, I1, r1, q1⟩ => ?_
    refine thn (ho pins s1 σ H1 v y u w _ I1 r r1 q1) fun z s2 ⟨zv, H2, I2, r2, q2⟩ => ?_
    exact store_ok I2 hN hi hx r2 (fun s3 I3 => ⟨_, H2, I3, q2⟩) hf
  rcases l with ⟨hk, hm⟩ | ⟨hk, c, hc, hcell⟩
  · exact wpAny_loadName_local I.ok.kind hk hn hm go
  · rcases hk with hk | hk
    · exact wpAny_loadName_cell I.ok.kind hk hc hcell go
    · rcases hx with k | k
      · have : X.env.scope.names.lookup x = some .free := hk
        rw [k] at this; cases this
      · have : X.env.scope.names.lookup x = some .free := hk
        rw [k] at this; cases this
/-- ints -/
def ipI (f : Int → Int → Int) : TIp := fun x y H Q => ∃ i j, x = .int i ∧ y = .int j ∧ Q (.int (f i j)) H
theorem ip_add : PIp X .Add (ipI fun i j => i + j) := by
  intro pins s σ H x y v u Q I r1 r2 h
  obtain ⟨i, j, e1, e2, q⟩ := h
  subst e1; subst e2
  obtain ⟨t, rfl⟩ := r1
  obtain ⟨t', rfl⟩ := r2
  exact iadd_int ⟨.int _, H, I.tok _, ⟨_, rfl⟩, q⟩
theorem ip_sub : PIp X .Sub (ipI fun i j => i - j) := by
  intro pins s σ H x y v u Q I r1 r2 h
  obtain ⟨i, j, e1, e2, q⟩ := h
  subst e1; subst e2
  obtain ⟨t, rfl⟩ := r1
  obtain ⟨t', rfl⟩ := r2
  exact isub_int ⟨.int _, H, I.tok _, ⟨_, rfl⟩, q⟩
end

section
variable {X : Cx} {pos : Pos}
/-- the invariant W with its measure -/
def tWhile (c : TT) (tb : TS) : TS := fun D σ H => ∃ W : Nat → St → Hp → Prop, (∃ m, W m σ H) ∧ ∀ m σ H, W m σ H →
  c σ H fun b H1 => if b = true then ∃ N : St → Hp → Prop, (∀ σ' H', N σ' H' → ∃ m', m' < m ∧ W m' σ' H') ∧ tb { D with nx := N, ct := N, bk := D.nx } σ H1 else D.nx σ H1
theorem ps_while {c : Expr} {body : List Stmt} {tc : TT} {tb : TS} (hp : PassesOwn (model X.prog X.w) X.A X.env X.xe) (hc : PT X c tc) (hb : PSs X body tb) : PS X (.While c body [] pos) (tWhile tc tb) := by
  intro pins s σ H D I h
  obtain ⟨W, ⟨m0, w0⟩, turn⟩ := h
  refine wpAny_While (codeAny_whileLoop (fun n s' => ∃ σ' H', Inv X pins σ' H' s' ∧ W n σ' H') ?_ m0 ⟨σ, H, I, w0⟩)
  rintro n s1 ⟨σ1, H1, I1, w1⟩
  refine wpAny_passesOwn hp (thn (hc pins s1 σ1 H1 _ I1 (turn n σ1 H1 w1)) fun b s2 ⟨H2, I2, q2⟩ => ?_)
  cases b with
  | true =>
    obtain ⟨N, hN, q2⟩ := q2
    rw [if_pos rfl]
    refine wpAny_passesOwn hp (thn (hb pins s2 σ1 H2 _ I2 q2) fun f s3 q3 => ?_)
    cases f with
    | next =>
      obtain ⟨σ3, H3, I3, n3⟩ := q3
      obtain ⟨m', hm, w3⟩ := hN σ3 H3 n3
      exact ⟨m', hm, σ3, H3, I3, w3⟩
    | cont =>
      obtain ⟨σ3, H3, I3, n3⟩ := q3
      obtain ⟨m', hm, w3⟩ := hN σ3 H3 n3
      exact ⟨m', hm, σ3, H3, I3, w3⟩
    | brk => exact q3
    | ret v => exact q3
  | false =>
    rw [if_neg Bool.false_ne_true]
    exact wpAny_execs_nil ⟨σ1, H2, I2, q2⟩
end

/-- at turn i: it yields x (the heap may grow), or it stops -/
structure It where
  go : Nat → Hp → Prop
  yld : Nat → Hp → V → Hp → Prop
  stop : Nat → Hp → Prop
/-- the iterator's own objects may turn: they are not the frame's, not pinned, younger than the entry (or a comprehension's own) -/
def FpOk (X : Cx) (pins : List (Addr × Obj)) (H : Hp) (b : Addr) : Prop :=
  H b = none ∧ b ≠ X.env.locals ∧ b ∉ X.fs ∧ (b ∈ X.ex ∨ X.s₀.heap.objs.size ≤ b) ∧ (∀ x c, X.env.cells.lookup x = some c → c ≠ b) ∧ ∀ p ∈ X.pn ++ pins, p.1 ≠ b
theorem Inv.fpOk {X : Cx} {pins : List (Addr × Obj)} {σ : St} {H H' : Hp} {s : Shared} {b : Addr} (I : Inv X pins σ H s) (hb : s.heap.objs.size ≤ b) (hn : H' b = none) : FpOk X pins H' b := by
  refine ⟨hn, Nat.ne_of_gt (Nat.lt_of_lt_of_le I.lt hb), I.nofs hb, .inr (Nat.le_trans I.sz hb), fun x c e z => ?_, fun p hp z => ?_⟩
  · obtain ⟨v, q⟩ := I.cell x c e
    exact absurd (Nat.lt_of_lt_of_le q.lt (by rw [z]; exact hb)) (Nat.lt_irrefl _)
  · exact absurd (Nat.lt_of_lt_of_le (Heap.lt_size (I.pin p hp).1) (by rw [z]; exact hb)) (Nat.lt_irrefl _)
structure Turn (P : Program) (w : World) (K : PySem.W.Frag) (tg : Expr) (J : It) (fp : List Addr) (it : Addr) (tn : Nat → Heap → Prop) : Prop where
  mem : it ∈ fp
  obj : ∀ i h, tn i h → ∀ b ∈ fp, ∃ o, h.get? b = some o ∧ ∀ v, o.data ≠ .cell v
  keep : ∀ i h h', tn i h → (∀ b ∈ fp, ∀ o, h.get? b = some o → h'.get? b = some o) → tn i h'
  item : ∀ (X : Cx), X.prog = P → X.w = w → X.K = K → X.calm = true → ∀ (i : Nat) (pins : List (Addr × Obj)) (s : Shared) (σ : St) (H : Hp) (E : Value → Shared → Prop), Inv X pins σ H s → (∀ b ∈ fp, FpOk X pins H b) → tn i s.heap → J.go i H →
    wpAny (model P w) X.A (pyNext (.ref it)) (fun r s1 => ∃ u, r = some u ∧
      wpAny (model P w) X.A (letOwnedTupleGo tg (.ref it) u) (fun _ s2 => ∃ x H', Inv X pins σ H' s2 ∧ RelV x u ∧ J.yld i H x H' ∧ tn (i + 1) s2.heap ∧ ∀ b ∈ fp, H' b = none) E s1) E s
  done : ∀ (X : Cx), X.prog = P → X.w = w → X.K = K → X.calm = true → ∀ (i : Nat) (pins : List (Addr × Obj)) (s : Shared) (σ : St) (H : Hp) (E : Value → Shared → Prop), Inv X pins σ H s → (∀ b ∈ fp, FpOk X pins H b) → tn i s.heap → J.stop i H →
    wpAny (model P w) X.A (pyNext (.ref it)) (fun r s1 => r = none ∧ Inv X pins σ H s1) E s
  self : ∀ (A : Around) (i : Nat) (s : Shared) (Q : Value → Shared → Prop) (E : Value → Shared → Prop), tn i s.heap → Q (.ref it) s → wpAny (model P w) A (pyIter (.ref it)) Q E s
abbrev TI := St → Hp → (It → Hp → Prop) → Prop
/-- an iterator has come -/
def PIE (X : Cx) (pins : List (Addr × Obj)) (σ : St) (tg : Expr) (R : It → Hp → Prop) (itv : Value) (s2 : Shared) : Prop :=
  ∃ (it : Addr) (fp : List Addr) (tn : Nat → Heap → Prop) (J : It) (H' : Hp), itv = .ref it ∧ Inv X pins σ H' s2 ∧ Turn X.prog X.w X.K tg J fp it tn ∧ tn 0 s2.heap ∧ (∀ b ∈ fp, FpOk X pins H' b) ∧ R J H'
def PI (X : Cx) (tg iter : Expr) (wi : TI) : Prop :=
  ∀ (pins : List (Addr × Obj)) (s : Shared) (σ : St) (H : Hp) (R : It → Hp → Prop), Inv X pins σ H s → wi σ H R →
    wpAny (model X.prog X.w) X.A (eval iter X.env) (fun v s1 => wpAny (model X.prog X.w) X.A (pyIter v) (PIE X pins σ tg R) X.xe s1) X.xe s

/-- the step ahead of the store is nothing for an iterator that keeps no tuple -/
theorem go_of {M : Model} {A : Around} {E : Value → Shared → Prop} {s : Shared} {tg : Expr} {it : Addr} {u : Value} {o : Obj} {n : String} {vs : Array Value} {Q : Unit → Shared → Prop} (ho : s.heap.get? it = some o) (hc : o.cls = .type n) (hd : o.data = .fields vs)
    (hn : ["enumerate", "zip", "dict_itemiterator", "dict_reverseitemiterator", "odict_iterator", "itertools.zip_longest", "itertools.pairwise"].contains n = false) (hQ : Q () s) : wpAny M A (letOwnedTupleGo tg (.ref it) u) Q E s := by
  unfold letOwnedTupleGo
  cases tg <;> first
    | exact wpAny_pure hQ
    | (cases u <;> first
        | exact wpAny_pure hQ
        | (refine wpAny_bind (wpAny_load ho ?_)
           rw [hc, hd]
           show wpAny M A (if (["enumerate", "zip", "dict_itemiterator", "dict_reverseitemiterator", "odict_iterator", "itertools.zip_longest", "itertools.pairwise"].contains n && vs[0]? == some (rawInt _)) = true then _ else _) Q E s
           rw [if_neg (by intro h; rw [hn, Bool.false_and] at h; cases h)]
           exact wpAny_pure hQ))

/-- the list at a, as it stands at each turn (a loop may append to it) -/
def Itl (K : PySem.W.Frag) (a : Addr) : It :=
  ⟨fun i H => ∃ xs x, SqL K H a xs ∧ xs[i]? = some x, fun i H x H' => H' = H ∧ ∀ xs, SqL K H a xs → xs[i]? = some x, fun i H => ∃ xs, SqL K H a xs ∧ xs.length ≤ i⟩
def Itt (K : PySem.W.Frag) (a : Addr) : It :=
  ⟨fun i H => ∃ xs x, SqT K H a xs ∧ xs[i]? = some x, fun i H x H' => H' = H ∧ ∀ xs, SqT K H a xs → xs[i]? = some x, fun i H => ∃ xs, SqT K H a xs ∧ xs.length ≤ i⟩
/-- lo, lo + 1, .. (n of them) -/
def Itr (lo : Int) (n : Nat) : It := ⟨fun i _ => i < n, fun i H x H' => H' = H ∧ x = .int (lo + i), fun i _ => n ≤ i⟩
theorem turn_list {P : Program} {w : World} {K : PySem.W.Frag} {tg : Expr} (a it : Addr) : Turn P w K tg (Itl K a) [it] it (fun i h => h.IsListIter it a i) where
  mem := by simp
  obj := fun i h st b hb => by
    have e : b = it := by simpa using hb
    subst e
    obtain ⟨o, e, c, d⟩ := st
    exact ⟨o, e, fun v z => by rw [d] at z; cases z⟩
  keep := fun i h h' st k => st.at fun o e => k it (by simp) o e
  item := by
    intro X hP hw hK hc i pins s σ H E I hf st hg
    subst hP hw hK
    obtain ⟨xs, x, hq, hx⟩ := hg
    obtain ⟨its, rv, p, hz⟩ := I.list hq
    obtain ⟨u, hu, ru⟩ := rv.get hx
    obtain ⟨f0, f1, f2, f3, f4, f5⟩ := hf it (by simp)
    refine wpAny_pyNext_list_item st p.isList (x := u) (by simpa using hu) fun h' st' sb => ?_
    have I1 : Inv X pins σ H { s with heap := h' } := I.turned (t' := s.toks) (fun b o hb e => (sb.2 b hb).trans e) f0 f1 f3 f4 f5
    obtain ⟨o, e, c, d⟩ := id st'
    exact ⟨u, rfl, go_of (s := { s with heap := h' }) e c d (by decide) ⟨x, H, I1, ru, ⟨rfl, fun ys hy => by rw [I.list_inj hy hq]; exact hx⟩, st', fun b hb => (hf b hb).1⟩⟩
  done := by
    intro X hP hw hK hc i pins s σ H E I hf st hg
    subst hP hw hK
    obtain ⟨xs, hq, hx⟩ := hg
    obtain ⟨its, rv, p, hz⟩ := I.list hq
    obtain ⟨f0, f1, f2, f3, f4, f5⟩ := hf it (by simp)
    have hl := rv.length
    exact wpAny_pyNext_list_end (I.ok.hd hc) st p.isList (by simp; omega) fun h' eb => ⟨rfl, I.turned (t' := s.toks) (fun b o hb e => eb b o hb e) f0 f1 f3 f4 f5⟩
  self := fun _ _ _ _ _ st h => wpAny_pyIter_listiter st h
theorem turn_tuple {P : Program} {w : World} {K : PySem.W.Frag} {tg : Expr} (a it : Addr) : Turn P w K tg (Itt K a) [it] it (fun i h => h.IsTupleIter it a i) where
  mem := by simp
  obj := fun i h st b hb => by
    have e : b = it := by simpa using hb
    subst e
    obtain ⟨o, e, c, d⟩ := st
    exact ⟨o, e, fun v z => by rw [d] at z; cases z⟩
  keep := fun i h h' st k => st.at fun o e => k it (by simp) o e
  item := by
    intro X hP hw hK hc i pins s σ H E I hf st hg
    subst hP hw hK
    obtain ⟨xs, x, hq, hx⟩ := hg
    obtain ⟨its, rv, p, hz⟩ := I.tuple hq
    obtain ⟨u, hu, ru⟩ := rv.get hx
    obtain ⟨f0, f1, f2, f3, f4, f5⟩ := hf it (by simp)
    refine wpAny_pyNext_tuple_item st (show s.heap.IsTuple a its.toArray from p) (x := u) (by simpa using hu) fun h' st' sb => ?_
    have I1 : Inv X pins σ H { s with heap := h' } := I.turned (t' := s.toks) (fun b o hb e => (sb.2 b hb).trans e) f0 f1 f3 f4 f5
    obtain ⟨o, e, c, d⟩ := id st'
    exact ⟨u, rfl, go_of (s := { s with heap := h' }) e c d (by decide) ⟨x, H, I1, ru, ⟨rfl, fun ys hy => by rw [I.tuple_inj hy hq]; exact hx⟩, st', fun b hb => (hf b hb).1⟩⟩
  done := by
    intro X hP hw hK hc i pins s σ H E I hf st hg
    subst hP hw hK
    obtain ⟨xs, hq, hx⟩ := hg
    obtain ⟨its, rv, p, hz⟩ := I.tuple hq
    obtain ⟨f0, f1, f2, f3, f4, f5⟩ := hf it (by simp)
    have hl := rv.length
    exact wpAny_pyNext_tuple_end (I.ok.hd hc) st (show s.heap.IsTuple a its.toArray from p) (by simp; omega) fun h' eb => ⟨rfl, I.turned (t' := s.toks) (fun b o hb e => eb b o hb e) f0 f1 f3 f4 f5⟩
  self := fun _ _ _ _ _ st h => wpAny_pyIter_tupleiter st h
theorem turn_range {P : Program} {w : World} {K : PySem.W.Frag} {tg : Expr} (it : Addr) (lo : Int) (n : Nat) : Turn P w K tg (Itr lo n) [it] it (fun i h => IsRangeIter h it (lo + (i : Nat) * 1) ((n : Int) - (i : Nat)) 1) where
  mem := by simp
  obj := fun i h st b hb => by
    have e : b = it := by simpa using hb
    subst e
    exact ⟨_, st, fun v z => by
      have z' : Data.fields _ = Data.cell v := z
      cases z'⟩
  keep := fun i h h' st k => k it (by simp) _ st
  item := by
    intro X hP hw hK hc i pins s σ H E I hf st hg
    subst hP hw hK
    obtain ⟨f0, f1, f2, f3, f4, f5⟩ := hf it (by simp)
    have W := Walks.range (prog := X.prog) (w := X.w) (I.ok.hd hc) it lo 1 n
    refine W.item i s _ _ hg st fun v h' tk hv st' kk => ?_
    obtain ⟨t, rfl⟩ := hv
    have I1 : Inv X pins σ H { s with heap := h', toks := tk } := I.turned (fun b o hb e => kk b o (by simpa using hb) e) f0 f1 f3 f4 f5
    refine ⟨_, rfl, go_of (s := { s with heap := h', toks := tk }) (n := "range_iterator") st' rfl rfl (by decide) ⟨.int (lo + i), H, I1, ⟨t, ?_⟩, ⟨rfl, rfl⟩, st', fun b hb => (hf b hb).1⟩⟩
    rw [Int.mul_one]
  done := by
    intro X hP hw hK hc i pins s σ H E I hf st hg
    subst hP hw hK
    obtain ⟨f0, f1, f2, f3, f4, f5⟩ := hf it (by simp)
    exact wpAny_pyNext_range_end (I.ok.hd hc) st (by have : n ≤ i := hg; omega) fun h' eb => ⟨rfl, I.turned (t' := s.toks) (fun b o hb e => eb b o hb e) f0 f1 f3 f4 f5⟩
  self := fun _ _ _ _ _ st h => wpAny_pyIter_rangeiter st h
end L2

namespace L2
open PySem PySem.Spec PyProof.Rows
section
variable {X : Cx} {tg : Expr}
/-- a range object just made, walked -/
theorem range_it {pins : List (Addr × Obj)} {σ : St} {H : Hp} {s : Shared} {R : It → Hp → Prop} {E : Value → Shared → Prop} {lo hi : Int} {t u v : Tok} {tk : Nat} (I : Inv X pins σ H s) (h1 : -(2 ^ 62) ≤ lo) (h2 : lo < 2 ^ 62) (h3 : -(2 ^ 62) ≤ hi) (h4 : hi < 2 ^ 62)
    (q : R (Itr lo (hi - lo).toNat) H) : wpAny (model X.prog X.w) X.A (pyIter (.ref s.heap.objs.size)) (PIE X pins σ tg R) E { s with heap := s.heap.push { cls := .type "range", data := .fields #[.int lo t, .int hi u, .int 1 v] }, toks := tk } := by
  refine wpAny_pyIter_range (IsRange.new ..) (small_one h1 h2 h3 h4) ?_
  have I1 : Inv X pins σ H { s with heap := s.heap.push { cls := .type "range", data := .fields #[.int lo t, .int hi u, .int 1 v] }, toks := tk } := I.kept fun b o e => Heap.get?_push_of_some _ e
  refine ⟨(s.heap.push { cls := .type "range", data := .fields #[.int lo t, .int hi u, .int 1 v] }).objs.size, [(s.heap.push { cls := .type "range", data := .fields #[.int lo t, .int hi u, .int 1 v] }).objs.size], _, _, H, rfl,
    I1.kept (t' := tk) fun b o e => Heap.get?_push_of_some _ e, turn_range _ lo (hi - lo).toNat, ?_, fun b hb => ?_, q⟩
  · have e1 : lo + ((0 : Nat) : Int) * 1 = lo := by simp
    have e2 : (((hi - lo).toNat : Nat) : Int) - ((0 : Nat) : Int) = Builtin.Range.rangeSize lo hi 1 := by rw [rangeSize_one]; split <;> omega
    show IsRangeIter _ _ (lo + ((0 : Nat) : Int) * 1) ((((hi - lo).toNat : Nat) : Int) - ((0 : Nat) : Int)) 1
    rw [e1, e2]
    exact Heap.get?_push_size _ rfl
  · have e : b = (s.heap.push { cls := .type "range", data := .fields #[.int lo t, .int hi u, .int 1 v] }).objs.size := by simpa using hb
    subst e
    exact I1.fpOk (Nat.le_refl _) (I1.hok.fresh (Nat.le_refl _))
/-- W: the invariant by the turn and a measure; N: what the body is to reach -/
def tFor (wi : TI) (g : TG) (tb : TS) : TS := fun D σ H => wi σ H fun J H1 => ∃ W : Nat → Nat → St → Hp → Prop, (∃ m, W 0 m σ H1) ∧ ∀ i m σ H, W i m σ H →
  (J.stop i H ∧ D.nx σ H) ∨ (J.go i H ∧ ∃ N : St → Hp → Prop, (∀ σ' H', N σ' H' → ∃ m', m' < m ∧ W (i + 1) m' σ' H') ∧ ∀ x H', J.yld i H x H' → g x σ H' fun σ2 H2 => tb { D with nx := N, ct := N, bk := D.nx } σ2 H2)
/-- the records at fp as they stand -/
def pinsAt (fp : List Addr) (h : Heap) : List (Addr × Obj) := fp.filterMap fun b => (h.get? b).map fun o => (b, o)
theorem mem_pinsAt {fp : List Addr} {h : Heap} {b : Addr} {o : Obj} (hb : b ∈ fp) (e : h.get? b = some o) : (b, o) ∈ pinsAt fp h := List.mem_filterMap.mpr ⟨b, hb, by rw [e]; rfl⟩
theorem of_pinsAt {fp : List Addr} {h : Heap} {p : Addr × Obj} (hp : p ∈ pinsAt fp h) : p.1 ∈ fp ∧ h.get? p.1 = some p.2 := by
  obtain ⟨b, hb, e⟩ := List.mem_filterMap.mp hp
  cases q : h.get? b with
  | none => rw [q] at e; cases e
  | some o =>
    rw [q] at e
    have e' : (b, o) = p := Option.some.inj e
    subst e'
    exact ⟨hb, q⟩
theorem Inv.pinned {pins : List (Addr × Obj)} {σ : St} {H : Hp} {s : Shared} {fp : List Addr} (I : Inv X pins σ H s) (hf : ∀ b ∈ fp, FpOk X pins H b) (ho : ∀ b ∈ fp, ∃ o, s.heap.get? b = some o ∧ ∀ v, o.data ≠ .cell v) : Inv X (pins ++ pinsAt fp s.heap) σ H s :=
  I.pins_of fun p hp => (List.mem_append.mp hp).elim (fun z => I.pin p (List.mem_append_right _ z)) fun z => by
    obtain ⟨hb, e⟩ := of_pinsAt z
    obtain ⟨f0, f1, f2, _⟩ := hf p.1 hb
    obtain ⟨o, e', d⟩ := ho p.1 hb
    rw [e] at e'; cases e'
    exact ⟨e, f0, f1, f2, d⟩
theorem Inv.unpinned {pins pl : List (Addr × Obj)} {σ : St} {H : Hp} {s : Shared} (I : Inv X (pins ++ pl) σ H s) : Inv X pins σ H s := I.pins_of fun p hp => I.pin p (List.mem_append_right _ (List.mem_append_left _ hp))
theorem ps_for {iter : Expr} {body : List Stmt} {wi : TI} {g : TG} {tb : TS} {pos : Pos} (hp : PassesOwn (model X.prog X.w) X.A X.env X.xe) (hc : X.calm = true) (hi : PI X tg iter wi) (hg : PG X tg g) (hb : PSs X body tb)
    (hs : ∀ x, foldedSetIterable iter X.env x = pure x := by intro _; rfl) : PS X (.For tg iter body [] pos) (tFor wi g tb) := by
  intro pins s σ H D I h
  refine wpAny_For (thn (hi pins s σ H _ I h) fun v s1 h1 => thn h1 fun itv s2 h2 => ?_) hs
  obtain ⟨it, fp, tn, J, H2, e, I2, T, st2, f2, W, ⟨m0, w0⟩, turn⟩ := h2
  subst e
  -- what stays true of the iterator's objects through the loop
  have stat : ∀ {H' : Hp}, (∀ b ∈ fp, H' b = none) → ∀ b ∈ fp, FpOk X pins H' b := fun hn b hb => ⟨hn b hb, (f2 b hb).2⟩
  refine codeAny_forLoop_any (fun n s' => ∃ i σ' H', Inv X pins σ' H' s' ∧ tn i s'.heap ∧ (∀ b ∈ fp, H' b = none) ∧ W i n σ' H') ?_ m0 ⟨0, σ, H2, I2, st2, fun b hb => (f2 b hb).1, w0⟩
  rintro n s3 ⟨i, σ3, H3, I3, st3, fr3, w3⟩
  rcases turn i n σ3 H3 w3 with ⟨stop, qn⟩ | ⟨go, N, hN, step⟩
  · refine wpAny_passesOwn hp (thn (T.done X rfl rfl rfl hc i pins s3 σ3 H3 X.xe I3 (stat fr3) st3 stop) fun r s4 ⟨hr, I4⟩ => ?_)
    subst hr
    exact wpAny_execs_nil ⟨σ3, H3, I4, qn⟩
  · refine wpAny_passesOwn hp (thn (T.item X rfl rfl rfl hc i pins s3 σ3 H3 X.xe I3 (stat fr3) st3 go) fun r s4 ⟨u, hr, h4⟩ => ?_)
    subst hr
    refine wpAny_passesOwn hp (thn h4 fun _ s5 ⟨x, H5, I5, r5, y5, st5, fr5⟩ => ?_)
    have I5' := I5.pinned (stat fr5) (T.obj _ _ st5)
    refine wpAny_passesOwn hp (thn (hg _ s5 σ3 H5 x u _ I5' r5 (step x H5 y5)) fun _ s6 ⟨σ6, H6, I6, q6⟩ => ?_)
    refine wpAny_passesOwn hp (thn (hb _ s6 σ6 H6 _ I6 q6) fun f s7 q7 => ?_)
    have again : ∀ {σ7 : St} {H7 : Hp}, Inv X (pins ++ pinsAt fp s5.heap) σ7 H7 s7 → N σ7 H7 → ∃ m, m < n ∧ ∃ i σ' H', Inv X pins σ' H' s7 ∧ tn i s7.heap ∧ (∀ b ∈ fp, H' b = none) ∧ W i m σ' H' := fun {σ7 H7} I7 n7 => by
      obtain ⟨m', hm, w7⟩ := hN σ7 H7 n7
      refine ⟨m', hm, i + 1, σ7, H7, I7.unpinned, T.keep _ _ _ st5 fun b hb o e => (I7.pin (b, o) (List.mem_append_right _ (List.mem_append_right _ (mem_pinsAt hb e)))).1, fun b hb => ?_, w7⟩
      obtain ⟨o, e, d⟩ := T.obj _ _ st5 b hb
      exact (I7.pin (b, o) (List.mem_append_right _ (List.mem_append_right _ (mem_pinsAt hb e)))).2.1
    cases f with
    | next => obtain ⟨σ7, H7, I7, n7⟩ := q7; exact again I7 n7
    | cont => obtain ⟨σ7, H7, I7, n7⟩ := q7; exact again I7 n7
    | brk => obtain ⟨σ7, H7, I7, q7⟩ := q7; exact ⟨σ7, H7, I7.unpinned, q7⟩
    | ret v => obtain ⟨x7, σ7, H7, I7, r7, q7⟩ := q7; exact ⟨x7, σ7, H7, I7.unpinned, r7, q7⟩
end

end L2

namespace L2
open PySem PySem.Spec PyProof.Rows

abbrev R2 := V → V → Hp → VK → Prop
/-- a two-place operation on values: f is binaryOp op, inplaceOp op or compareOp op -/
def OpR (X : Cx) (f : Value → Value → Sem Value) (r : R2) : Prop :=
  ∀ (pins : List (Addr × Obj)) (s : Shared) (σ : St) (H : Hp) (x y : V) (v u : Value) (Q : VK), Inv X pins σ H s → RelV x v → RelV y u → r x y H Q →
    wpAny (model X.prog X.w) X.A (f v u) (EP X pins σ Q) X.xe s
/-- a one-place operation -/
def UnR (X : Cx) (f : Value → Sem Value) (r : V → Hp → VK → Prop) : Prop :=
  ∀ (pins : List (Addr × Obj)) (s : Shared) (σ : St) (H : Hp) (x : V) (v : Value) (Q : VK), Inv X pins σ H s → RelV x v → r x H Q →
    wpAny (model X.prog X.w) X.A (f v) (EP X pins σ Q) X.xe s
/-- a call of a value that is known (a builtin, a type) with values -/
def CallR (X : Cx) (f : Value) (r : List V → Hp → VK → Prop) : Prop :=
  ∀ (pins : List (Addr × Obj)) (s : Shared) (σ : St) (H : Hp) (xs : List V) (us : List Value) (Q : VK), Inv X pins σ H s → Vals xs us → r xs H Q →
    wpAny (model X.prog X.w) X.A (call f us) (EP X pins σ Q) X.xe s
/-- a value's truth -/
def TruR (X : Cx) (r : V → Hp → (Bool → Hp → Prop) → Prop) : Prop :=
  ∀ (pins : List (Addr × Obj)) (s : Shared) (σ : St) (H : Hp) (x : V) (v : Value) (Q : Bool → Hp → Prop), Inv X pins σ H s → RelV x v → r x H Q →
    wpAny (model X.prog X.w) X.A (truthy v) (TP X pins σ Q) X.xe s

def tOp (r : R2) (ta tb : TE) : TE := fun σ H Q => ta σ H fun x H1 => tb σ H1 fun y H2 => r x y H2 Q
/-- ints in, under C, and a value out -/
def rI (C : Int → Int → Prop) (g : Int → Int → V) : R2 := fun x y H Q => ∃ i j, x = .int i ∧ y = .int j ∧ C i j ∧ Q (g i j) H
def rI0 (g : Int → Int → V) : R2 := fun x y H Q => ∃ i j, x = .int i ∧ y = .int j ∧ Q (g i j) H
def rU (g : Int → V) : V → Hp → VK → Prop := fun x H Q => ∃ i, x = .int i ∧ Q (g i) H

section
variable {X : Cx} {a b c : Expr} {ta tb tc : TE} {pos : Pos}

theorem binT (ha : PE X a ta) (hb : PE X b tb) {pins : List (Addr × Obj)} {s : Shared} {σ : St} {H : Hp} {R : V → V → Hp → Prop} (I : Inv X pins σ H s)
    (h : ta σ H fun x H1 => tb σ H1 fun y H2 => R x y H2) {Q : Value → Shared → Prop} {f : Value → Value → Sem Value}
    (hf : ∀ v u s2 x y H2, Inv X pins σ H2 s2 → RelV x v → RelV y u → R x y H2 → wpAny (model X.prog X.w) X.A (f v u) Q X.xe s2) :
    wpAny (model X.prog X.w) X.A (eval a X.env) (fun v s₁ => wpAny (model X.prog X.w) X.A (eval b X.env) (fun u s₂ => wpAny (model X.prog X.w) X.A (f v u) Q X.xe s₂) X.xe s₁) X.xe s := by
  refine thn (ha pins s σ H _ I h) fun v s1 ⟨x, H1, I1, r1, q1⟩ => ?_
  refine thn (hb pins s1 σ H1 _ I1 q1) fun u s2 ⟨y, H2, I2, r2, q2⟩ => ?_
  exact hf v u s2 x y H2 I2 r1 r2 q2

theorem opI {f : Value → Value → Sem Value} {C : Int → Int → Prop} {g : Int → Int → Int}
    (rule : ∀ (i j : Int) (t u : Tok) (s : Shared) (Q : Value → Shared → Prop) (E : Value → Shared → Prop), C i j → Q (.int (g i j) s.toks) { s with toks := s.toks + 1 } → wpAny (model X.prog X.w) X.A (f (.int i t) (.int j u)) Q E s) :
    OpR X f (rI C fun i j => .int (g i j)) := by
  intro pins s σ H x y v u Q I rx ry h
  obtain ⟨i, j, rfl, rfl, hc, q⟩ := h
  obtain ⟨t, rfl⟩ := rx
  obtain ⟨t', rfl⟩ := ry
  exact rule i j t t' s _ _ hc ⟨.int (g i j), H, I.tok _, ⟨_, rfl⟩, q⟩
theorem opI0 {f : Value → Value → Sem Value} {g : Int → Int → Int}
    (rule : ∀ (i j : Int) (t u : Tok) (s : Shared) (Q : Value → Shared → Prop) (E : Value → Shared → Prop), Q (.int (g i j) s.toks) { s with toks := s.toks + 1 } → wpAny (model X.prog X.w) X.A (f (.int i t) (.int j u)) Q E s) :
    OpR X f (rI0 fun i j => .int (g i j)) := by
  intro pins s σ H x y v u Q I rx ry h
  obtain ⟨i, j, rfl, rfl, q⟩ := h
  obtain ⟨t, rfl⟩ := rx
  obtain ⟨t', rfl⟩ := ry
  exact rule i j t t' s _ _ ⟨.int (g i j), H, I.tok _, ⟨_, rfl⟩, q⟩
theorem opB0 {f : Value → Value → Sem Value} {g : Int → Int → Bool}
    (rule : ∀ (i j : Int) (t u : Tok) (s : Shared) (Q : Value → Shared → Prop) (E : Value → Shared → Prop), Q (.bool (g i j)) s → wpAny (model X.prog X.w) X.A (f (.int i t) (.int j u)) Q E s) :
    OpR X f (rI0 fun i j => .bl (g i j)) := by
  intro pins s σ H x y v u Q I rx ry h
  obtain ⟨i, j, rfl, rfl, q⟩ := h
  obtain ⟨t, rfl⟩ := rx
  obtain ⟨t', rfl⟩ := ry
  exact rule i j t t' s _ _ ⟨.bl (g i j), H, I, rfl, q⟩

def CDiv (i j : Int) : Prop := 0 < j ∧ j < 1073741824
def CPow (i j : Int) : Prop := 0 ≤ j ∧ j ≤ 1000000 ∧ i.natAbs < 2 ^ 64
def CMul (i j : Int) : Prop := (-(2 ^ 64) < i ∧ i < 2 ^ 64) ∨ (-(2 ^ 64) < j ∧ j < 2 ^ 64)
theorem CMul.ok {i j : Int} (h : CMul i j) : IntMulOk i j := by
  rcases h with ⟨h1, h2⟩ | ⟨h1, h2⟩
  · exact .of_left (intBits_le_64 h1 h2)
  · exact .of_right (intBits_le_64 h1 h2)
theorem op_add : OpR X (binaryOp .Add) (rI0 fun i j => .int (i + j)) := opI0 fun _ _ _ _ _ _ _ q => add_int q
theorem op_sub : OpR X (binaryOp .Sub) (rI0 fun i j => .int (i - j)) := opI0 fun _ _ _ _ _ _ _ q => sub_int q
theorem op_mul : OpR X (binaryOp .Mult) (rI CMul fun i j => .int (i * j)) := opI fun _ _ _ _ _ _ _ hc q => mul_int q hc.ok
/-- // by a positive divisor -/
theorem op_fdiv : OpR X (binaryOp .FloorDiv) (rI CDiv fun i j => .int (i / j)) := opI fun i j _ _ _ _ _ hc q => by
  have h1 : (0 : Int) < j := hc.1
  have h2 : j < 1073741824 := hc.2
  exact floordiv_int (by omega) (by rw [Int.fdiv_eq_ediv_of_nonneg i (by omega)]; exact q) (.inl (PyProof.noPylong_small (by omega)))
/-- % by a positive divisor of any size -/
theorem op_mod : OpR X (binaryOp .Mod) (rI (fun _ j => 0 < j) fun i j => .int (i % j)) := opI fun i j _ _ _ _ _ hc q => by
  have h1 : (0 : Int) < j := hc
  exact mod_int' (by omega) (by rw [Int.fmod_eq_emod_of_nonneg i (by omega)]; exact q)
theorem op_pow : OpR X (binaryOp .Pow) (rI CPow fun i j => .int (i ^ j.toNat)) := opI fun _ _ _ _ _ _ _ hc q => pow_int_small hc.1 hc.2.1 hc.2.2 q
theorem op_shl : OpR X (binaryOp .LShift) (rI CPow fun i j => .int (i * 2 ^ j.toNat)) := opI fun _ _ _ _ _ _ _ hc q => lshift_int_small hc.1 hc.2.1 hc.2.2 q
theorem unI {f : Value → Sem Value} {g : Int → Int}
    (rule : ∀ (i : Int) (t : Tok) (s : Shared) (Q : Value → Shared → Prop) (E : Value → Shared → Prop), Q (.int (g i) s.toks) { s with toks := s.toks + 1 } → wpAny (model X.prog X.w) X.A (f (.int i t)) Q E s) :
    UnR X f (rU fun i => .int (g i)) := by
  intro pins s σ H x v Q I rx h
  obtain ⟨i, rfl, q⟩ := h
  obtain ⟨t, rfl⟩ := rx
  exact rule i t s _ _ ⟨.int (g i), H, I.tok _, ⟨_, rfl⟩, q⟩
theorem un_neg : UnR X (unaryOp .USub) (rU fun i => .int (-i)) := unI fun _ _ _ _ _ q => neg_int q
end

section
variable {X : Cx} {a b c : Expr} {ta tb tc : TE} {pos : Pos}
theorem fin_bl {pins : List (Addr × Obj)} {σ : St} {H : Hp} {s : Shared} {Q : VK} {k k' : Bool} (I : Inv X pins σ H s) (q : Q (.bl k) H) (e : k = k') : EP X pins σ Q (.bool k') s := by
  subst e
  exact ⟨.bl k, H, I, rfl, q⟩
theorem op_lt : OpR X (compareOp .Lt) (rI0 fun i j => .bl (decide (i < j))) := opB0 fun _ _ _ _ _ _ _ q => lt_int q
theorem op_le : OpR X (compareOp .LtE) (rI0 fun i j => .bl (decide (i ≤ j))) := opB0 fun _ _ _ _ _ _ _ q => le_int q
theorem op_gt : OpR X (compareOp .Gt) (rI0 fun i j => .bl (decide (j < i))) := opB0 fun _ _ _ _ _ _ _ q => gt_int q
theorem op_ge : OpR X (compareOp .GtE) (rI0 fun i j => .bl (decide (j ≤ i))) := opB0 fun _ _ _ _ _ _ _ q => ge_int q
/-- is None, is not None: the right side a value none -/
theorem op_isN : OpR X (compareOp .Is) (fun x y H Q => y = .non ∧ Q (.bl (decide (x = .non))) H) := by
  intro pins s σ H x y v u Q I rx ry h
  obtain ⟨rfl, q⟩ := h
  cases ry
  refine is_none_gen (fin_bl I q ?_)
  cases x <;> first
    | (cases rx; rfl)
    | (obtain ⟨t, rfl⟩ := rx; rfl)
/-- two rules for one operation: by cases -/
theorem OpR.or {f : Value → Value → Sem Value} {r r' : R2} (h : OpR X f r) (h' : OpR X f r') : OpR X f (fun x y H Q => r x y H Q ∨ r' x y H Q) := by
  intro pins s σ H x y v u Q I rx ry q
  rcases q with q | q
  · exact h pins s σ H x y v u Q I rx ry q
  · exact h' pins s σ H x y v u Q I rx ry q

theorem nomark (b : Expr) {op : CmpOp} (h : op ≠ .In := by decide) (h2 : op ≠ .NotIn := by decide) : behindInMarks op b = false := by
  have e1 : (op == CmpOp.In) = false := by cases op <;> first | rfl | exact absurd rfl h
  have e2 : (op == CmpOp.NotIn) = false := by cases op <;> first | rfl | exact absurd rfl h2
  cases b <;> simp [behindInMarks, e1, e2]
/-- a value's truth by the abstract heap -/
def TruV (K : PySem.W.Frag) (x : V) (H : Hp) (k : Bool) : Prop :=
  match x with
  | .non => k = false
  | .bl b => k = b
  | .int i => k = (i != 0)
  | .str y => y.length ≤ sizeLine ∧ k = ((y.length : Int) != 0)
  | .byt y => y.size ≤ sizeLine ∧ k = ((y.size : Int) != 0)
  | .ref p => (∃ xs, SqL K H p xs ∧ k = !xs.isEmpty) ∨ (∃ xs, SqT K H p xs ∧ k = !xs.isEmpty) ∨ ∃ kvs, H p = some (.dK kvs) ∧ k = !kvs.isEmpty
  | _ => False
theorem isEmpty_kv {κ : Type} {kvs : List (κ × V)} {vs : List (κ × Value)} (r : KV kvs vs) : (!vs.isEmpty) = !kvs.isEmpty := by
  cases r <;> rfl
theorem isEmpty_of {xs : List V} {its : List Value} (r : Vals xs its) : (!its.toArray.isEmpty) = !xs.isEmpty := by
  cases r <;> simp
theorem line63 : (sizeLine : Nat) < 2 ^ 63 := by rw [sizeLine_eq]; decide
theorem tru_ok : TruR X (fun x H Q => ∃ k, TruV X.K x H k ∧ Q k H) := by
  intro pins s σ H x v Q I rx h
  obtain ⟨k, e, q⟩ := h
  have hl := line63
  have hs : sizeLine = 16777216 := sizeLine_eq
  cases x with
  | non =>
    cases rx
    have e' : k = false := e
    subst e'
    exact truthy_none ⟨H, I, q⟩
  | bl b =>
    cases rx
    have e' : k = b := e
    subst e'
    exact wpAny_truthy_bool ⟨H, I, q⟩
  | int i =>
    obtain ⟨t, rfl⟩ := rx
    have e' : k = (i != 0) := e
    subst e'
    exact PySem.P.truthy_int ⟨H, I, q⟩
  | str y =>
    obtain ⟨t, rfl⟩ := rx
    obtain ⟨hy, e'⟩ : y.length ≤ sizeLine ∧ k = ((y.length : Int) != 0) := e
    subst e'
    exact PySem.P.truthy_str (by omega) ⟨H, I.tok _, q⟩
  | byt y =>
    obtain ⟨t, rfl⟩ := rx
    obtain ⟨hy, e'⟩ : y.size ≤ sizeLine ∧ k = ((y.size : Int) != 0) := e
    subst e'
    exact PySem.W.truthy_bytes (by omega) ⟨H, I.tok _, q⟩
  | ref p =>
    cases rx
    have e' : (∃ xs, SqL X.K H p xs ∧ k = !xs.isEmpty) ∨ (∃ xs, SqT X.K H p xs ∧ k = !xs.isEmpty) ∨ ∃ kvs, H p = some (.dK kvs) ∧ k = !kvs.isEmpty := e
    rcases e' with ⟨xs, hx, e'⟩ | ⟨xs, hx, e'⟩ | ⟨kvs, hx, e'⟩
    · subst e'
      obtain ⟨its, r, pl, hz⟩ := I.list hx
      have hlen := r.length
      exact wpAny_truthy_list pl.isList (by simp only [List.size_toArray]; omega) ⟨H, I.tok _, by rw [isEmpty_of r]; exact q⟩
    · subst e'
      obtain ⟨its, r, pl, hz⟩ := I.tuple hx
      have hlen := r.length
      exact truthy_tuple pl (by simp only [List.size_toArray]; omega) ⟨H, I.tok _, by rw [isEmpty_of r]; exact q⟩
    · subst e'
      obtain ⟨hz, hS, vs, r, m⟩ : kvs.length ≤ sizeLine ∧ (p == sysModules) = false ∧ ∃ vs, KV kvs vs ∧ s.heap.DictOf (mixKind X.prog X.w) p vs := I.hok p _ hx
      have hlen : kvs.length = vs.length := Paired.length r
      exact wpAny_truthy_dict hS m (by omega) ⟨H, I.tok _, by rw [isEmpty_kv r]; exact q⟩
  | _ => exact (show False from e).elim
theorem op_add_str : OpR X (binaryOp .Add) (fun x y H Q => ∃ i j, x = .str i ∧ y = .str j ∧ i.length + j.length ≤ sizeLine ∧ Q (.str (i ++ j)) H) := by
  intro pins s σ H x y v u Q I rx ry h
  obtain ⟨i, j, rfl, rfl, hz, q⟩ := h
  obtain ⟨t, rfl⟩ := rx
  obtain ⟨t', rfl⟩ := ry
  exact add_str (fun t' tk => ⟨.str (i ++ j), H, I.tok _, ⟨_, rfl⟩, q⟩) hz
theorem vals1 {x : V} {us : List Value} (r : Vals [x] us) : ∃ u, us = [u] ∧ RelV x u := by
  cases r with
  | cons r1 r2 => cases r2; exact ⟨_, rfl, r1⟩
theorem vals2 {x y : V} {us : List Value} (r : Vals [x, y] us) : ∃ u w', us = [u, w'] ∧ RelV x u ∧ RelV y w' := by
  cases r with
  | cons r1 r2 =>
    cases r2 with
    | cons r3 r4 => cases r4; exact ⟨_, _, rfl, r1, r3⟩
theorem call_int1 : CallR X (.type "int") (fun xs H Q => (∃ i, xs = [.int i] ∧ Q (.int i) H) ∨ ∃ k, xs = [.bl k] ∧ Q (.int (if k then 1 else 0)) H) := by
  intro pins s σ H xs us Q I r h
  rcases h with ⟨i, rfl, q⟩ | ⟨k, rfl, q⟩
  · obtain ⟨u, rfl, t, rfl⟩ := vals1 r
    exact call_int_int ⟨.int i, H, I, ⟨_, rfl⟩, q⟩
  · obtain ⟨u, rfl, r1⟩ := vals1 r
    cases r1
    exact call_int_bool ⟨.int (if k then 1 else 0), H, I.tok _, ⟨_, rfl⟩, q⟩
/-- len of a str, a bytes, a list, a tuple -/
def LenV (K : PySem.W.Frag) (x : V) (H : Hp) (n : Nat) : Prop :=
  match x with
  | .str y => y.length ≤ sizeLine ∧ n = y.length
  | .byt y => y.size ≤ sizeLine ∧ n = y.size
  | .ref p => (∃ xs, SqL K H p xs ∧ n = xs.length) ∨ ∃ xs, SqT K H p xs ∧ n = xs.length
  | _ => False
theorem call_len : CallR X (.builtin "len") (fun xs H Q => ∃ x n, xs = [x] ∧ LenV X.K x H n ∧ Q (.int n) H) := by
  intro pins s σ H xs us Q I r h
  obtain ⟨x, n, rfl, e, q⟩ := h
  obtain ⟨u, rfl, rx⟩ := vals1 r
  have hl := line63
  have hs : sizeLine = 16777216 := sizeLine_eq
  cases x with
  | str y =>
    obtain ⟨t, rfl⟩ := rx
    obtain ⟨hy, e'⟩ : y.length ≤ sizeLine ∧ n = y.length := e
    subst e'
    exact len_str (by omega) ⟨.int _, H, I.tok _, ⟨_, rfl⟩, q⟩
  | byt y =>
    obtain ⟨t, rfl⟩ := rx
    obtain ⟨hy, e'⟩ : y.size ≤ sizeLine ∧ n = y.size := e
    subst e'
    exact PySem.W.len_bytes (by omega) ⟨.int _, H, I.tok _, ⟨_, rfl⟩, q⟩
  | ref p =>
    cases rx
    have e' : (∃ xs, SqL X.K H p xs ∧ n = xs.length) ∨ ∃ xs, SqT X.K H p xs ∧ n = xs.length := e
    rcases e' with ⟨xs, hx, e'⟩ | ⟨xs, hx, e'⟩
    · subst e'
      obtain ⟨its, r', pl, hz⟩ := I.list hx
      have hlen := r'.length
      exact Calls.call_len_list pl.isList (by simp only [List.size_toArray]; omega) ⟨.int xs.length, H, I.tok _, ⟨_, by simp only [List.size_toArray]; rw [hlen]⟩, q⟩
    · subst e'
      obtain ⟨its, r', pl, hz⟩ := I.tuple hx
      have hlen := r'.length
      exact len_tuple pl (by simp only [List.size_toArray]; omega) ⟨.int xs.length, H, I.tok _, ⟨_, by simp only [List.size_toArray]; rw [hlen]⟩, q⟩
  | _ => exact (show False from e).elim
end
end L2

namespace L2
open PySem PySem.Spec PyProof.Rows

structure ObjM (h : Heap) (x dx C : Addr) (mA : Str → Option Value) : Prop where
  obj : h.get? x = some (PySem.W.instObj C dx)
  ns : h.Ns1 dx mA
  ne : dx ≠ x

theorem lookIn_ns {h : Heap} {dx : Addr} {mA : Str → Option Value} (n : h.Ns1 dx mA) : ∃ od, h.get? dx = some od ∧ ∀ name, PySem.W.lookIn name od = some (mA name) := by
  obtain ⟨o, es, ep, ho, hd, hk, _, hm⟩ := n
  refine ⟨o, ho, fun name => ?_⟩
  have e := hm name
  unfold nsFind findBy at e
  rw [← Array.find?_toList] at e
  unfold PySem.W.lookIn
  rw [hd]
  dsimp only
  split
  · rename_i y q
    rw [q] at e
    exact congrArg some e
  · rename_i q
    rw [q] at e
    have a : es.toList.any (·.refKey) = false := by
      rw [List.any_eq_false]
      intro y hy
      obtain ⟨z, t, hkey⟩ := hk y (Array.mem_toList_iff.mp hy)
      simp [DictEntry.refKey, hkey]
    have a' : ¬ es.toList.any (·.refKey) = true := by rw [a]; exact Bool.false_ne_true
    rw [if_neg a']
    exact congrArg some e

theorem ObjM.look {h : Heap} {x dx C : Addr} {mA : Str → Option Value} (I : ObjM h x dx C mA) : ∃ od, PySem.W.InstAt h x (PySem.W.instObj C dx) C (some od) ∧ ∀ name, PySem.W.lookIn name od = some (mA name) :=
  let ⟨od, ho, hl⟩ := lookIn_ns I.ns
  ⟨od, ⟨I.obj, rfl, rfl, ho⟩, hl⟩

section
variable {prog : Program} {w : World} {A : Around} {E : Value → Shared → Prop} {s : Shared} {K : PySem.W.Frag} {x dx C f : Addr} {mA : Str → Option Value} {name : Str} {v : Value}

end

section
variable {P : Program} {w : World} {H H' : Hp} {h h' : Heap} {a C dx : Addr} {fs fs' : List (Str × V)}
theorem ins_get (hok : HOk P w H h) (e : H a = some (.ins C dx fs)) : ∃ mA, ObjM h a dx C mA ∧ (∀ f, RelO (fs.lookup f) (mA f)) ∧ PySem.Within mA (fs.map (·.1)) ∧ fs.length ≤ 1000 ∧ H dx = some (.own a) := by
  obtain ⟨d, z, ne, ob, mA, n, r, q⟩ := (show ObjOk P w H h a (.ins C dx fs) from hok a _ e)
  exact ⟨mA, ⟨ob, n, ne⟩, r, q, z, d⟩
end

structure Cls (K : PySem.W.Frag) (C : Addr) : Prop where
  pg : PySem.W.plainGet K C Str.empty = true
  hd : PySem.W.hasDictIn K C = true
  po : PySem.W.plainOver K C = true
  sa : PySem.W.findIn K (.ref C) "__setattr__" = some (some (.builtin "object.__setattr__"))
theorem Cls.get {K : PySem.W.Frag} {C : Addr} (c : Cls K C) (f : Str) : PySem.W.plainGet K C f = true := c.pg
section
variable {X : Cx} {pins : List (Addr × Obj)} {σ : St} {H : Hp} {s : Shared} {a C dx : Addr} {fs : List (Str × V)} {f : Str} {v : V} {A : Around} {E : Value → Shared → Prop}

/-- a new instance, tracked, without attributes -/
theorem Inv.made (I : Inv X pins σ H s) : Inv X pins σ (upd (upd H s.heap.objs.size (.own (s.heap.objs.size + 1))) (s.heap.objs.size + 1) (.ins C s.heap.objs.size []))
    { s with heap := (s.heap.push PySem.W.emptyDict).push (PySem.W.instObj C s.heap.objs.size) } := by
  have e1 : (s.heap.push PySem.W.emptyDict).get? s.heap.objs.size = some PySem.W.emptyDict := Heap.get?_push_size s.heap rfl
  have e2 : ((s.heap.push PySem.W.emptyDict).push (PySem.W.instObj C s.heap.objs.size)).get? (s.heap.objs.size + 1) = some (PySem.W.instObj C s.heap.objs.size) := by
    have := Heap.get?_push_size (s.heap.push PySem.W.emptyDict) (o := PySem.W.instObj C s.heap.objs.size) rfl
    rwa [Heap.size_push] at this
  have e3 : (s.heap.push PySem.W.emptyDict).Ns s.heap.objs.size (fun _ => none) := ⟨PySem.W.emptyDict, #[], _, e1, rfl, (fun e he => absurd he (by simp)), fun _ => rfl⟩
  have I1 := I.laid (a := s.heap.objs.size) (o := .own (s.heap.objs.size + 1)) (h' := s.heap.push PySem.W.emptyDict) (t' := s.toks) (fun b u q => Heap.get?_push_of_some _ q) (Nat.le_refl _) ⟨_, e1⟩
  refine I1.laid (a := s.heap.objs.size + 1) (o := .ins C s.heap.objs.size []) (t' := s.toks) (fun b u q => Heap.get?_push_of_some _ q) (Nat.le_of_eq (Heap.size_push _ _)) ?_
  have ne : s.heap.objs.size ≠ s.heap.objs.size + 1 := Nat.ne_of_lt (Nat.lt_succ_self _)
  refine ⟨by rw [upd_ne ne, upd_same], Nat.zero_le _, ne, e2, fun _ => none, (Heap.Ns1.of_empty e3).at fun o q => Heap.get?_push_of_some _ q, fun _ => True.intro, fun y hy => absurd rfl hy⟩

end

section
variable {X : Cx} {o e value : Expr} {f : Str} {pos pos' tpos : Pos} {ta tv : TE}
end

section
variable {X : Cx} {pins : List (Addr × Obj)} {σ : St} {H : Hp} {s : Shared} {A : Around} {E : Value → Shared → Prop} {Q : Value → Shared → Prop} {c : Value} {b : Bool}
/-- the type of a value, as the fragment's deciders take it; for an instance its class -/
inductive TyOf (K : PySem.W.Frag) (H : Hp) : V → Value → Prop where
  | non : TyOf K H .non (.type "NoneType")
  | bl (x : Bool) : TyOf K H (.bl x) (.type "bool")
  | int (i : Int) : TyOf K H (.int i) (.type "int")
  | str (x : Str) : TyOf K H (.str x) (.type "str")
  | flt (x : UInt64) : TyOf K H (.flt x) (.type "float")
  | lst {a : Addr} {xs : List V} (e : H a = some (.lst xs)) : TyOf K H (.ref a) (.type "list")
  | frz {a : Addr} {o : Obj} {xs : List V} (e : H a = some (.frz o (.lst xs))) : TyOf K H (.ref a) (.type "list")
  | tup {a : Addr} {xs : List V} (e : H a = some (.tup xs)) : TyOf K H (.ref a) (.type "tuple")
  | dK {a : Addr} {kvs : List (Key × V)} (e : H a = some (.dK kvs)) : TyOf K H (.ref a) (.type "dict")
  | dT {a : Addr} {kvs : List (List Key × V)} (e : H a = some (.dT kvs)) : TyOf K H (.ref a) (.type "dict")
  | ins {a C dx : Addr} {fs : List (Str × V)} (e : H a = some (.ins C dx fs)) (cl : Cls K C) (ha : PySem.W.findIn K (.ref C) "__class__" = some (some (.builtin "object.__class__")))
      (hn : PySem.W.specialIn K (.builtin "object.__class__") "__get__" = some (some (.builtin "getset_descriptor.__get__"))) (htk : PySem.W.takesIn K (.builtin "object.__class__") = some true)
      (hm : PySem.W.mroIn K C (.type "object") = some true) : TyOf K H (.ref a) (.ref C)
/-- isinstance(x, c) for one class c, a built-in or an own one: kitOne's answer -/
theorem isinst_ok {x : V} {u t : Value} (I : Inv X pins σ H s) (rx : RelV x u) (ty : TyOf X.K H x t) (e : PySem.W.kitOne X.K t c = some b) (h : ∀ tk, Q (.bool b) { s with toks := tk }) :
    wpAny (model X.prog X.w) A (call (.builtin "isinstance") [u, c]) Q E s := by
  cases ty with
  | non => cases (show u = Value.none from rx); exact PySem.W.kia_one PySem.W.kitx_none I.kIn True.intro e (fun z => nomatch z) h
  | bl y => cases (show u = Value.bool y from rx); exact PySem.W.kia_one PySem.W.kitx_bool I.kIn True.intro e (fun z => nomatch z) h
  | int i => obtain ⟨t, q⟩ := (show ∃ t, u = Value.int i t from rx); cases q; exact PySem.W.kia_one PySem.W.kitx_int I.kIn True.intro e (fun z => nomatch z) h
  | str y => obtain ⟨t, q⟩ := (show ∃ t, u = Value.str y t from rx); cases q; exact PySem.W.kia_one PySem.W.kitx_str I.kIn True.intro e (fun z => nomatch z) h
  | flt y => obtain ⟨t, q⟩ := (show ∃ t, u = Value.float y t from rx); cases q; exact PySem.W.kia_one PySem.W.kitx_float I.kIn True.intro e (fun z => nomatch z) h
  | @lst a xs ea =>
    cases (show u = Value.ref a from rx)
    obtain ⟨_, _, n, _, h1⟩ := (show ObjOk X.prog X.w H s.heap a (.lst xs) from I.hok a _ ea)
    exact PySem.W.kia_one PySem.W.kitx_list I.kIn ⟨_, h1, rfl⟩ e (fun z => nomatch z) h
  | @frz a ob xs ea =>
    cases (show u = Value.ref a from rx)
    obtain ⟨_, _, _, n, _, h1⟩ := (show ObjOk X.prog X.w H s.heap a (.frz ob (.lst xs)) from I.hok a _ ea)
    exact PySem.W.kia_one PySem.W.kitx_list I.kIn ⟨_, h1, rfl⟩ e (fun z => nomatch z) h
  | @tup a xs ea =>
    cases (show u = Value.ref a from rx)
    obtain ⟨_, _, _, p⟩ := (show ObjOk X.prog X.w H s.heap a (.tup xs) from I.hok a _ ea)
    obtain ⟨o, h1, h2, _⟩ := p
    exact PySem.W.kia_one PySem.W.kitx_tuple I.kIn ⟨o, h1, h2⟩ e (fun z => nomatch z) h
  | @dK a kvs ea =>
    cases (show u = Value.ref a from rx)
    obtain ⟨_, _, vs, _, p⟩ := (show ObjOk X.prog X.w H s.heap a (.dK kvs) from I.hok a _ ea)
    obtain ⟨o, es, ep, h1, h2, _⟩ := p
    exact PySem.W.kia_one PySem.W.kitx_dict I.kIn ⟨o, h1, h2.1⟩ e (fun z => nomatch z) h
  | @dT a kvs ea =>
    cases (show u = Value.ref a from rx)
    obtain ⟨_, _, xs, _, o, es, ep, h1, h2, _⟩ := (show ObjOk X.prog X.w H s.heap a (.dT kvs) from I.hok a _ ea)
    exact PySem.W.kia_one PySem.W.kitx_dict I.kIn ⟨o, h1, h2.1⟩ e (fun z => nomatch z) h
  | @ins a C dx fs ea cl ha hn htk hm =>
    cases (show u = Value.ref a from rx)
    obtain ⟨mA, O, _⟩ := ins_get I.hok ea
    obtain ⟨od, J, _⟩ := O.look
    exact PySem.W.kia_one (PySem.W.kitx_own (cl.get _) cl.hd ha hn htk hm) I.kIn J e (fun z => nomatch z) h
end
end L2

namespace L2
open PySem PySem.Spec PyProof.Rows

structure Room (k : Nat) (A : Around) : Prop where
  hd : A.handled = none
  dp : A.depth + 3 * k + 5 < recursionLimit
  un : A.units + 16 * k + 200 < cLine
theorem Room.mono {j k : Nat} {A : Around} (r : Room k A) (h : j ≤ k) : Room j A := ⟨r.hd, by have := r.dp; omega, by have := r.un; omega⟩
theorem Room.deeper {k : Nat} {A : Around} (r : Room (k + 1) A) (env : Env) : Room k (A.deeper env) :=
  ⟨r.hd, by have := r.dp; show A.depth + 1 + 3 * k + 5 < _; omega, by have := r.un; show A.units + 3 + 16 * k + 200 < _; omega⟩
theorem Room.in1 {k : Nat} {A : Around} (r : Room (k + 1) A) : Room k A.in1 :=
  ⟨r.hd, by have := r.dp; show A.depth + 3 * k + 5 < _; omega, by have := r.un; show A.units + 1 + 16 * k + 200 < _; omega⟩
theorem Room.depth {k : Nat} {A : Around} (r : Room k A) : A.depth < recursionLimit := by have := r.dp; omega
theorem Room.units {k : Nat} {A : Around} (r : Room k A) : A.units + 64 < cLine := by have := r.un; omega
def tNil : TA := fun _ H Q => Q [] H
section
variable {X : Cx} {e : Expr} {es : List Expr} {te : TE} {t : TA} {pos : Pos}
theorem pa_nil : PA X [] tNil := fun _ _ _ _ H Q I h => Calls.spliced_nil ⟨[], H, I, .nil, h⟩
/-- a tuple, a list of written items -/
def tTup (t : TA) : TE := fun σ H Q => t σ H fun xs H1 => xs.length ≤ sizeLine ∧ ∀ p, H1 p = none → Q (.ref p) (upd H1 p (.tup xs))
def tLst (t : TA) : TE := fun σ H Q => t σ H fun xs H1 => xs.length ≤ sizeLine ∧ ∀ p, H1 p = none → Q (.ref p) (upd H1 p (.lst xs))
theorem pe_tup {x1} (h : PA X es t) : PE X (.Tuple es x1 pos) (tTup t) := by
  intro pins s σ H Q I hq
  refine wpAny_Tuple_spliced (thn (h pos pins s σ H _ I hq) fun us s1 ⟨xs, H1, I1, r, z, q⟩ => ⟨by rw [← r.length]; exact z, ?_⟩)
  have hf : H1 s1.heap.objs.size = none := I1.hok.fresh (Nat.le_refl _)
  refine ⟨.ref s1.heap.objs.size, upd H1 s1.heap.objs.size (.tup xs), I1.laid (t' := s1.toks) (fun b u e => Heap.get?_push_of_some _ e) (Nat.le_refl _) ?_, rfl, q _ hf⟩
  exact ⟨z, us, r, ⟨_, Heap.get?_push_size _ rfl, rfl, _, rfl⟩⟩
theorem pe_lst (h : PA X es t) : PE X (.List es pos) (tLst t) := by
  intro pins s σ H Q I hq
  refine wpAny_List_spliced (thn (h pos pins s σ H _ I hq) fun us s1 ⟨xs, H1, I1, r, z, q⟩ => ⟨by rw [← r.length]; exact z, ?_⟩)
  have hf : H1 s1.heap.objs.size = none := I1.hok.fresh (Nat.le_refl _)
  refine ⟨.ref s1.heap.objs.size, upd H1 s1.heap.objs.size (.lst xs), I1.laid (t' := s1.toks) (fun b u e => Heap.get?_push_of_some _ e) (Nat.le_refl _) ?_, rfl, q _ hf⟩
  exact ⟨z, us, 0, r, Heap.get?_push_size _ rfl⟩
end

/-- a def's promise: the bound arguments in the parameters' order, the heap, the wanted end, the wanted exception -/
abbrev Sp := List V → Hp → VK → XK → Prop
/-- how an exception lies behind a call (file 08 gives it): the callers' frames, abstract heap and state ahead of the call, the wish, the exception, the state -/
abbrev CXT := List Env → Hp → Shared → XK → Value → Shared → Prop

/-- the state at a call -/
structure Env0 (P : Program) (w : World) (K : PySem.W.Frag) (mg : Str → Option Value) (base : Heap) (A : Around) (outer : List Env) (s : Shared) (H : Hp) : Prop where
  frames : A.frames = some outer
  mod : Mod K mg base
  bs : ∀ b o, base.get? b = some o → s.heap.get? b = some o ∧ H b = none
  bsz : base.objs.size ≤ s.heap.objs.size
  funs : s.heap.FunFrames base outer
  frf : ∀ b ∈ frs outer, H b = none
  hok : HOk P w H s.heap
  bare : AllBare s.gens
/-- a call's end -/
def CE (outer : List Env) (P : Program) (w : World) (H : Hp) (s : Shared) (Q : VK) (u : Value) (s' : Shared) : Prop :=
  ∃ v H', s'.os = s.os ∧ AllBare s'.gens ∧ Un (frs outer) [] H H' s.heap s'.heap ∧ HOk P w H' s'.heap ∧ RelV v u ∧ Q v H'
def CR (CX : CXT) (outer : List Env) (P : Program) (w : World) (H : Hp) (s : Shared) (Q : VK) (E : XK) (r : Result) (s' : Shared) : Prop :=
  match r with
  | .ok (.ret u) => CE outer P w H s Q u s'
  | .ok _ => False
  | .error e => CX outer H s E e s'
structure FnOk (P : Program) (w : World) (K : PySem.W.Frag) (mg : Str → Option Value) (base : Heap) (CX : CXT) (k : Nat) (f : Addr) (fd : FuncData) (ps : List Str) (sp : Sp) : Prop where
  len : ∀ vs H Q E, sp vs H Q E → vs.length = ps.length
  run : ∀ (A : Around) (outer : List Env) (s : Shared) (H : Hp) (args : Args) (us : List Value) (vs : List V) (Q : VK) (E : XK), Room k A → Env0 P w K mg base A outer s H → BindsTo s fd args (ps.zip us) → Vals vs us → sp vs H Q E →
    codeAny (model P w) A (.call (.ref f) args) (CR CX outer P w H s Q E) s
theorem FnOk.mono {P : Program} {w : World} {K : PySem.W.Frag} {mg : Str → Option Value} {base : Heap} {CX : CXT} {j k : Nat} {f : Addr} {fd : FuncData} {ps : List Str} {sp : Sp} (F : FnOk P w K mg base CX j f fd ps sp) (h : j ≤ k) :
    FnOk P w K mg base CX k f fd ps sp := ⟨F.len, fun A outer s H args us vs Q E hr => F.run A outer s H args us vs Q E (hr.mono h)⟩
/-- a weaker promise -/
theorem FnOk.imp {P : Program} {w : World} {K : PySem.W.Frag} {mg : Str → Option Value} {base : Heap} {CX : CXT} {k : Nat} {f : Addr} {fd : FuncData} {ps : List Str} {sp sp' : Sp} (F : FnOk P w K mg base CX k f fd ps sp)
    (h : ∀ vs H Q E, sp' vs H Q E → sp vs H Q E) : FnOk P w K mg base CX k f fd ps sp' :=
  ⟨fun vs H Q E q => F.len vs H Q E (h _ _ _ _ q), fun A outer s H args us vs Q E hr he hb hv hs => F.run A outer s H args us vs Q E hr he hb hv (h _ _ _ _ hs)⟩

theorem Env0.in1 {P : Program} {w : World} {K : PySem.W.Frag} {mg : Str → Option Value} {base : Heap} {A : Around} {outer : List Env} {s : Shared} {H : Hp} (e : Env0 P w K mg base A outer s H) :
    Env0 P w K mg base A.in1 outer s H := ⟨e.frames, e.mod, e.bs, e.bsz, e.funs, e.frf, e.hok, e.bare⟩

section
variable {X : Cx} {pins : List (Addr × Obj)} {σ : St} {H : Hp} {s s' : Shared}
/-- from a body: what a callee wants -/
theorem Inv.env0 (I : Inv X pins σ H s) : Env0 X.prog X.w X.K X.mg X.base X.A X.stack s H :=
  ⟨I.ok.frames, I.ok.mod, I.bs, Nat.le_trans I.ok.bsz I.sz, I.stack, I.stkFree, I.hok, I.bare⟩
/-- behind a call -/
theorem Inv.after {Q : VK} {u : Value} (I : Inv X pins σ H s) (h : CE X.stack X.prog X.w H s Q u s') : EP X pins σ Q u s' := by
  obtain ⟨v, H', os, bare, un, hok, r, q⟩ := h
  obtain ⟨hh, g, d, t, os'⟩ := s'
  obtain rfl : os' = s.os := os
  exact ⟨v, H', I.call (h' := hh) (g' := g) (d' := d) (t' := t) (ch := []) un hok bare (fun b z => absurd z (by simp)), r, q⟩
end

/-- how the parameters are bound: us the positional arguments, kw the keywords' values by name, ds the defaults that fill up -/
def Binds (K : PySem.W.Frag) (fd : FuncData) (ps : List Str) (ds : List Value) : Prop :=
  ∀ (s : Shared) (us : List Value), K.In s.heap → (us ++ ds).length = ps.length → BindsTo s fd ⟨us, []⟩ (ps.zip (us ++ ds))
/-- every parameter is given -/
theorem Binds.all {K : PySem.W.Frag} {fd : FuncData} {ps : List Str} (h : ∀ us : List Value, us.length = ps.length → bindArgs fd ⟨us, []⟩ = pure (ps.zip us)) : Binds K fd ps [] := fun s us _ hl => by
  rw [List.append_nil] at hl ⊢
  exact .of_eq (h us hl)

section
variable {X : Cx} {CX : CXT} {k : Nat} {f C : Addr} {fd : FuncData} {ps : List Str} {sp : Sp} {dvs : List V} {ds : List Value} {E : XK} {x m : Str} {p pos apos : Pos} {e o : Expr} {es : List Expr} {ta : TE} {t : TA}

end

section
variable {X : Cx} {CX : CXT} {k : Nat} {f C : Addr} {fd : FuncData} {ps ks : List Str} {sp : Sp} {E : XK} {x m : Str} {p pos apos kpos : Pos} {e o : Expr} {es : List Expr} {kws : List Keyword} {te ta : TE} {t tk : TA} {nm : Option Str}
variable {g : List Value → List Value → List Value} {gV : List V → List V → List V}
end

/-- names: the parameters first -/
structure FnScope (N P : List Str) (sc : Scope) : Prop where
  kind : sc.kind = .function
  co : sc.isCoroutine = false
  gen : sc.isGenerator = false
  nd : N.Nodup
  pre : N.take P.length = P
  par : ∀ x ∈ P, sc.names.lookup x = some .local ∨ sc.names.lookup x = some .cell
  nofree : ∀ y ∈ sc.names, y.2 ≠ .free

theorem bindL_out {kindOf : Str → Option NameKind} {x : Str} : ∀ {binds : List (Str × Value)} {m : Str → Option Value}, (∀ v, (x, v) ∉ binds) → bindL kindOf binds m x = m x
  | [], _, _ => rfl
  | (n, v) :: r, m, h => by
    unfold bindL
    rw [bindL_out fun w hw => h w (List.mem_cons_of_mem _ hw)]
    split
    · have : x ≠ n := by rintro rfl; exact h v List.mem_cons_self
      simp [this]
    · rfl
theorem bindC_out {kindOf : Str → Option NameKind} {x : Str} : ∀ {binds : List (Str × Value)} {m : Str → Option Value}, (∀ v, (x, v) ∉ binds) → bindC kindOf binds m x = m x
  | [], _, _ => rfl
  | (n, v) :: r, m, h => by
    unfold bindC
    rw [bindC_out fun w hw => h w (List.mem_cons_of_mem _ hw)]
    split
    · rfl
    · have : x ≠ n := by rintro rfl; exact h v List.mem_cons_self
      simp [this]
theorem bindL_get {kindOf : Str → Option NameKind} {x : Str} {v : Value} : ∀ {P : List Str} {vs : List Value} {i : Nat} {m : Str → Option Value}, P.Nodup → P[i]? = some x → vs[i]? = some v → kindOf x = some .local →
    bindL kindOf (P.zip vs) m x = some v
  | [], _, _, _, _, h, _, _ => by simp at h
  | _ :: _, [], _, _, _, _, h, _ => by simp at h
  | p :: P, w :: vs, 0, m, nd, h1, h2, hk => by
    simp at h1 h2; subst h1; subst h2
    show bindL kindOf ((p, w) :: P.zip vs) m p = _
    unfold bindL
    rw [bindL_out fun v hv => (List.nodup_cons.mp nd).1 (List.of_mem_zip hv).1, if_pos hk]
    simp
  | p :: P, w :: vs, i + 1, m, nd, h1, h2, hk => by
    show bindL kindOf ((p, w) :: P.zip vs) m x = _
    unfold bindL
    exact bindL_get (i := i) (List.nodup_cons.mp nd).2 (by simpa using h1) (by simpa using h2) hk
theorem bindC_get {kindOf : Str → Option NameKind} {x : Str} {v : Value} : ∀ {P : List Str} {vs : List Value} {i : Nat} {m : Str → Option Value}, P.Nodup → P[i]? = some x → vs[i]? = some v → kindOf x ≠ some .local →
    bindC kindOf (P.zip vs) m x = some v
  | [], _, _, _, _, h, _, _ => by simp at h
  | _ :: _, [], _, _, _, _, h, _ => by simp at h
  | p :: P, w :: vs, 0, m, nd, h1, h2, hk => by
    simp at h1 h2; subst h1; subst h2
    show bindC kindOf ((p, w) :: P.zip vs) m p = _
    unfold bindC
    rw [bindC_out fun v hv => (List.nodup_cons.mp nd).1 (List.of_mem_zip hv).1, if_neg hk]
    simp
  | p :: P, w :: vs, i + 1, m, nd, h1, h2, hk => by
    show bindC kindOf ((p, w) :: P.zip vs) m x = _
    unfold bindC
    exact bindC_get (i := i) (List.nodup_cons.mp nd).2 (by simpa using h1) (by simpa using h2) hk

/-- the names' values at the entry -/
def start (N : List Str) (vs : List V) : St := vs.map some ++ List.replicate (N.length - vs.length) none

/-- the context of a def's body, at its entry; an exception leaves the frame, then lies as CX says -/
def cxOf (CX : CXT) (P : Program) (w : World) (K : PySem.W.Frag) (mg : Str → Option Value) (base : Heap) (N : List Str) (qual : Str) (scope : Scope) (f : Addr) (cd : Value) (A : Around) (outer : List Env) (s : Shared) (H : Hp) (E : XK) : Cx where
  prog := P
  w := w
  K := K
  mg := mg
  base := base
  A := A.deeper (envOfC qual scope s.heap.objs.size f cd)
  N := N
  s₀ := s
  H₀ := H
  env := envOfC qual scope s.heap.objs.size f cd
  outer := outer
  stack := envOfC qual scope s.heap.objs.size f cd :: outer
  ex := []
  calm := true
  fn := fun _ => true
  pn := []
  xe := fun e s' => wpAny (model P w) (A.deeper (envOfC qual scope s.heap.objs.size f cd)) (leaving (envOfC qual scope s.heap.objs.size f cd) e) (fun _ s'' => CX outer H s E e s'') (fun e' s'' => CX outer H s E e' s'') s'

theorem cell_has {sc : Scope} {n : Nat} {x : Str} (h : sc.names.lookup x = some .cell) : ∃ c, (cellsFrom n sc.names []).lookup x = some c := by
  have q := PySem.W.cellsFrom_some sc.names n [] (.inl h)
  exact Option.isSome_iff_exists.mp q

theorem inv_start {CX : CXT} {P : Program} {w : World} {K : PySem.W.Frag} {mg : Str → Option Value} {base : Heap} {N ps : List Str} {qual : Str} {scope : Scope} {f : Addr} {cd : Value} {A : Around} {outer : List Env} {s s1 : Shared} {H : Hp} {E : XK} {us : List Value} {vs : List V}
    (S : FnScope N ps scope) (hd : A.handled = none) (e0 : Env0 P w K mg base A outer s H) (hl : vs.length = ps.length) (r : Vals vs us)
    (x : InCallC s s.heap.objs.size (bindL (envOfC qual scope s.heap.objs.size f cd).kindOf (ps.zip us) fun _ => none) (cellsFrom (s.heap.objs.size + 1) scope.names []) (bindC (envOfC qual scope s.heap.objs.size f cd).kindOf (ps.zip us) fun _ => none) s1) :
    Inv (cxOf CX P w K mg base N qual scope f cd A outer s H E) [] (start N vs) H s1 := by
  have hpl : ps.length ≤ N.length := by have := congrArg List.length S.pre; rw [List.length_take] at this; omega
  obtain ⟨h1, tk, rfl, hk⟩ := x.done
  have noA : ∀ b : Addr, b ∉ (cxOf CX P w K mg base N qual scope f cd A outer s H E).ex := fun b z => absurd (show b ∈ ([] : List Addr) from z) (by simp)
  refine ⟨⟨e0.mod, S.kind, rfl, rfl, Nat.le_refl _, fun y z c h1 h2 => ?_, fun y hy => ?_, fun y c _ h => ?_, fun _ => hd, Around.frames_deeper e0.frames, .inr ⟨rfl, rfl⟩, fun b z => absurd z (noA b), e0.bs, e0.bsz, fun b _ _ => noA b, fun b z => absurd z (noA b), e0.funs, e0.frf⟩,
    rfl, e0.bare, Un.kept hk, ⟨_, x.toInCall.ns, fun i y v h1 h2 h3 => ?_⟩, fun y c h => ⟨_, x.cell y c h⟩, e0.hok.fresh (Nat.le_refl _), fun y c h => ?_, fun p hp => absurd (show p ∈ ([] : List (Addr × Obj)) from hp) (by simp), e0.hok.kept hk, ?_⟩
  · exact name_of_addr x.apart (PySem.mem_of_lookup h1) (PySem.mem_of_lookup h2)
  · have hy : scope.names.lookup y = some .cell ∨ scope.names.lookup y = some .free := hy
    rcases hy with hy | hy
    · exact cell_has hy
    · exact absurd rfl (S.nofree _ (PySem.mem_of_lookup hy))
  · exact Nat.le_of_lt (x.above y c (PySem.mem_of_lookup h))
  · have hi : i < vs.length := by
      unfold start at h2
      by_cases hi : i < vs.length
      · exact hi
      · rw [List.getElem?_append_right (by simpa using hi)] at h2
        rw [List.getElem?_replicate] at h2
        split at h2 <;> cases h2
    have ha : vs[i]? = some v := by
      unfold start at h2
      rw [List.getElem?_append_left (by simpa using hi), List.getElem?_map] at h2
      cases e : vs[i]? with
      | none => rw [e] at h2; cases h2
      | some a => rw [e] at h2; cases h2; rfl
    obtain ⟨u, hu, rv⟩ := r.get ha
    have hp : ps[i]? = some y := by
      rw [← S.pre, List.getElem?_take_of_lt (by omega)]; exact h1
    have ndP : ps.Nodup := by rw [← S.pre]; exact S.nd.sublist (List.take_sublist _ _)
    refine ⟨u, rv, ?_⟩
    rcases S.par y (List.mem_of_getElem? hp) with k | k
    · exact .inl ⟨k, bindL_get ndP hp hu k⟩
    · obtain ⟨c, e⟩ := cell_has (n := s.heap.objs.size + 1) k
      refine .inr ⟨.inl k, c, e, ?_⟩
      have q := x.cell y c e
      rw [bindC_get ndP hp hu (by show scope.names.lookup y ≠ _; rw [k]; decide)] at q
      exact q
  · exact e0.hok.fresh (Nat.le_of_lt (x.above y c (PySem.mem_of_lookup h)))
  · unfold start
    show _ = N.length
    rw [List.length_append, List.length_map, List.length_replicate]
    omega

/-- THE RULE: a def (or a method) of the text, by its body. The body's reading t is chosen for each entry; it is run at the parameters' values -/
theorem fn_of {CX : CXT} {P : Program} {w : World} {K : PySem.W.Frag} {mg : Str → Option Value} {base : Heap} {k : Nat} {f : Addr} {name qual : Str} {params : Arguments} {body : List Stmt} {scope : Scope} {dV kV doc pm cdv ct oc : Value} {an od : Option Addr}
    {osl : Array (Option Value)} {N ps : List Str} {sp : Sp} (lk : K.lookup f = some ⟨oc, od, .func (PySem.W.fnOf name qual params body scope dV kV doc pm an cdv ct), osl⟩) (hcd : PySem.W.codeIn K cdv qual = true) (S : FnScope N ps scope)
    (len : ∀ vs H Q E, sp vs H Q E → vs.length = ps.length)
    (hbody : ∀ (A : Around) (outer : List Env) (s : Shared) (H : Hp) (vs : List V) (Q : VK) (E : XK), Room k (A.deeper (envOfC qual scope s.heap.objs.size f cdv)) → sp vs H Q E →
      ∃ t, PSs (cxOf CX P w K mg base N qual scope f cdv A outer s H E) body t ∧ t { nx := fun _ H' => Q .non H', rt := Q } (start N vs) H) :
    FnOk P w K mg base CX (k + 1) f (PySem.W.fnOf name qual params body scope dV kV doc pm an cdv ct) ps sp := by
  refine ⟨len, fun A outer s H args us vs Q E hr e0 hb r hsp => ?_⟩
  have hl := len _ _ _ _ hsp
  have KX : K.In s.heap := e0.mod.kin.keeps fun b o e => (e0.bs b o e).1
  have lim : s.heap.NoLimit := e0.mod.nolimit.keeps fun b o e => (e0.bs b o e).1
  have hkind : ∀ y ∈ ps.zip us, scope.names.lookup y.1 = some .local ∨ (scope.names.lookup y.1 = some .cell ∧ ((cellsFrom (s.heap.objs.size + 1) scope.names []).lookup y.1).isSome = true) := fun ⟨n, v⟩ hy => by
    rcases S.par n (List.of_mem_zip hy).1 with q | q
    · exact .inl q
    · exact .inr ⟨q, PySem.W.cellsFrom_some _ _ _ (.inl q)⟩
  refine codeAny_call_function hr.depth (KX _ _ lk) rfl S.co S.gen rfl (PySem.W.codeRec_of KX hcd) (hb _ _ _ _ ?_)
  refine wpAny_newFunctionEnv_cells S.kind hkind fun env he s1 x => ?_
  subst he
  refine ⟨lim.keeps x.toInCall.keep, codeAny_func ?_⟩
  obtain ⟨t, ht, hq⟩ := hbody A outer s H vs Q E (hr.deeper _) hsp
  have I : Inv (cxOf CX P w K mg base N qual scope f cdv A outer s H E) [] (start N vs) H s1 := inv_start S hr.hd e0 hl r x
  refine wpAny_mono (ht [] s1 (start N vs) H _ I hq) (fun fl s' hs => ?_) fun e s' hs => hs
  have fin : ∀ {σ' : St} {H' : Hp} {v : V} {u : Value}, Inv (cxOf CX P w K mg base N qual scope f cdv A outer s H E) [] σ' H' s' → RelV v u → Q v H' → CE outer P w H s Q u s' :=
    fun {σ' H' v u} J rv q => ⟨v, H', J.os, J.bare, J.base, J.hok, rv, q⟩
  cases fl with
  | ret u =>
    obtain ⟨v, σ', H', J, rv, q⟩ := hs
    exact fin J rv q
  | next =>
    obtain ⟨σ', H', J, q⟩ := hs
    exact fin (v := V.non) (u := Value.none) J rfl q
  | brk =>
    obtain ⟨_, _, _, q⟩ := hs
    exact False.elim q
  | cont =>
    obtain ⟨_, _, _, q⟩ := hs
    exact False.elim q
end L2

namespace L2
open PySem PySem.Spec PyProof.Rows
section
variable {X : Cx} {x : Str} {p pos : Pos} {e : Expr} {es : List Expr} {t : TA} {id T : String} {r : List V → Hp → VK → Prop}

end
end L2

namespace HT
open PySem PyProof.Rows

section
open PySem.SeqAt
open PySem.AutoSeq1 (wpAny_loadPart')
open PySem.MeetsSeq PySem.MeetsSeq2 PySem.MeetsSeq3

end

section
variable {prog : Program} {w : World} {A : Around} {E : Value → Shared → Prop} {s : Shared}

/-- t + u, t not empty -/
theorem cat_tup {t b : Addr} {vs ws : List Value} {Q : Value → Shared → Prop} (ht : IsTup s.heap t vs.toArray) (hb : IsTup s.heap b ws.toArray) (hv : vs ≠ [])
    (h1 : ws = [] → Q (.ref t) s) (h2 : ws ≠ [] → Q (.ref s.heap.objs.size) { s with heap := s.heap.push { cls := .type "tuple", data := .seq (vs ++ ws).toArray } })
    (hsz : vs.length + ws.length ≤ sizeLine) : wpAny (model prog w) A (binaryOp .Add (.ref t) (.ref b)) Q E s := by
  obtain ⟨⟨cls, dd, data, sl⟩, ho, hc, n, hd⟩ := id ht
  obtain ⟨⟨cls2, dd2, data2, sl2⟩, ho2, hc2, n2, hd2⟩ := id hb
  simp only at hc hd hc2 hd2
  subst hc hd hc2 hd2
  have e : vs.toArray ++ ws.toArray = (vs ++ ws).toArray := by simp
  by_cases hw : ws = []
  · exact concat_meets ⟨_, ho, rfl⟩ ⟨_, ho2, rfl⟩ noFill_tuple_add seq_tuple_add PySem.F.slot_tuple_add PySem.F.entry_tuple_add (PySem.F.args_tuple_add_2 _ _)
      (tuple_addW1 t b vs.toArray ws.toArray n n2 dd dd2 sl sl2 (by simpa using hv) (by simp [hw])) ⟨ho, ho2, h1 hw⟩
  · refine concat_meets ⟨_, ho, rfl⟩ ⟨_, ho2, rfl⟩ noFill_tuple_add seq_tuple_add PySem.F.slot_tuple_add PySem.F.entry_tuple_add (PySem.F.args_tuple_add_2 _ _)
      (tuple_addW2 t b vs.toArray ws.toArray n n2 dd dd2 sl sl2 (by simpa using hv) (by simpa using hw) (by rw [List.size_toArray, List.size_toArray]; exact hsz)) ⟨ho, ho2, ?_⟩
    rw [e]
    exact h2 hw

/-- a slice's bound as a place among n (d where it is left out) -/
def sIx (n d : Nat) : Option Int → Nat
  | none => d
  | some v => if v < 0 then (v + (n : Int)).toNat else min v.toNat n
theorem sIx_le (n d : Nat) (hd : d ≤ n) (o : Option Int) : sIx n d o ≤ n := by
  cases o with
  | none => exact hd
  | some v =>
    show (if v < 0 then (v + (n : Int)).toNat else min v.toNat n) ≤ n
    by_cases hv : v < 0
    · rw [if_pos hv]; omega
    · rw [if_neg hv]; exact Nat.min_le_right _ _
theorem clip_eq (v : Int) (n d : Nat) : (if v < 0 then max (v + (n : Int)) 0 else min v (n : Int)) = ((sIx n d (some v) : Nat) : Int) := by
  show (if v < 0 then max (v + (n : Int)) 0 else min v (n : Int)) = (((if v < 0 then (v + (n : Int)).toNat else min v.toNat n) : Nat) : Int)
  by_cases hv : v < 0
  · simp only [if_pos hv]; omega
  · simp only [if_neg hv]; omega
theorem adjust_gen (lo hi : Option Int) (n : Nat) : Builtin.Slice.sliceAdjust lo hi 1 (n : Int) = (((sIx n 0 lo : Nat) : Int), ((sIx n n hi : Nat) : Int)) := by
  have h1 : ¬ ((1 : Int) < 0) := by omega
  unfold Builtin.Slice.sliceAdjust
  simp only [h1, if_false]
  refine Prod.ext ?_ ?_
  · cases lo with
    | none => rfl
    | some v => exact clip_eq v n 0
  · cases hi with
    | none => rfl
    | some v => exact clip_eq v n n
theorem places_gen (i j : Nat) : Builtin.Slice.slicePlaces (i : Int) (j : Int) 1 = j - i := by
  unfold Builtin.Slice.slicePlaces
  have h1 : (1 : Int) > 0 := by omega
  simp only [h1, if_true, Int.ediv_one]
  split <;> omega
theorem slicePart_ {v : Value} {o : Option Int} {Q : Option Int → Shared → Prop} (p : IsPart v o) (h : Q o s) : wpAny (model prog w) A (Builtin.Slice.slicePartIndex v) Q E s := by
  cases p with
  | none => exact slicePart_none h
  | int i t => exact slicePart_int h
theorem sliceApplied_gen {sl : Addr} {vl vu : Value} {lo hi : Option Int} {n : Nat} {Q : Int × Int × Nat → Shared → Prop} (hs : s.heap.IsSliceOf sl vl vu .none) (pl : IsPart vl lo) (pu : IsPart vu hi)
    (h : Q (((sIx n 0 lo : Nat) : Int), 1, sIx n n hi - sIx n 0 lo) s) : wpAny (model prog w) A (Builtin.Slice.sliceApplied (.ref sl) (pure (n : Int))) Q E s := by
  obtain ⟨os, hos, hcs, hds⟩ := id hs
  unfold Builtin.Slice.sliceApplied Builtin.Slice.sliceFields
  refine wpAny_bind (wpAny_bind (wpAny_field hos hds (x := vl) rfl (wpAny_bind (wpAny_field hos hds (x := vu) rfl (wpAny_bind (wpAny_field hos hds (x := .none) rfl (wpAny_pure ?_)))))))
  refine wpAny_bind (slicePart_none ?_)
  show wpAny _ _ (if ((1 : Int) == 0) = true then _ else _) _ _ s
  rw [if_neg (by decide)]
  refine wpAny_bind (slicePart_ pl (wpAny_bind (slicePart_ pu (wpAny_bind (wpAny_pure ?_)))))
  show wpAny _ _ (match Builtin.Slice.sliceAdjust lo hi 1 (n : Int) with | (lo, hi) => pure (lo, (1 : Int), Builtin.Slice.slicePlaces lo hi 1)) _ _ s
  rw [adjust_gen lo hi n]
  show wpAny _ _ (pure (((sIx n 0 lo : Nat) : Int), (1 : Int), Builtin.Slice.slicePlaces ((sIx n 0 lo : Nat) : Int) ((sIx n n hi : Nat) : Int) 1)) _ _ s
  rw [places_gen]
  exact wpAny_pure h
theorem pick_gen (xs : Array Value) (i k : Nat) : ((List.range k).filterMap fun (m : Nat) => xs[((i : Int) + (m : Int) * 1).toNat]?).toArray = ((xs.toList.drop i).take k).toArray := by
  have e : (fun (m : Nat) => xs[((i : Int) + (m : Int) * 1).toNat]?) = fun m => xs[i + m]? := by
    funext m
    have : ((i : Int) + (m : Int) * 1).toNat = i + m := by omega
    rw [this]
  rw [e]
  have := pick_run xs i k
  rw [List.filterMap_map] at this
  have e2 : ((fun x => xs[x]?) ∘ fun x => i + x) = fun m => xs[i + m]? := rfl
  rw [e2] at this
  rw [this]

theorem getItem_tuple_cut {t sl : Addr} {items : Array Value} {vl vu : Value} {lo hi : Option Int} {Q : Value → Shared → Prop} (ht : IsTup s.heap t items) (hs : s.heap.IsSliceOf sl vl vu .none) (pl : IsPart vl lo) (pu : IsPart vu hi)
    (hw : ¬ (sIx items.size 0 lo = 0 ∧ sIx items.size items.size hi = items.size))
    (h : Q (.ref s.heap.objs.size) { s with heap := s.heap.push { cls := .type "tuple", data := .seq ((items.toList.drop (sIx items.size 0 lo)).take (sIx items.size items.size hi - sIx items.size 0 lo)).toArray } })
    (hsz : items.size ≤ sizeLine) : wpAny (model prog w) A (getItem (.ref t) (.ref sl)) Q E s := by
  have htake : sizeOk (.seq ((items.toList.drop (sIx items.size 0 lo)).take (sIx items.size items.size hi - sIx items.size 0 lo)).toArray) := by
    show ((items.toList.drop (sIx items.size 0 lo)).take (sIx items.size items.size hi - sIx items.size 0 lo)).toArray.size ≤ sizeLine
    rw [List.size_toArray, List.length_take, List.length_drop, Array.length_toList]
    omega
  have hj : sIx items.size items.size hi ≤ items.size := sIx_le _ _ (Nat.le_refl _) hi
  obtain ⟨os, hos, hcs, hds⟩ := id hs
  have hTs : s.TypeIs (.ref sl) "slice" := ⟨os, hos, hcs⟩
  unfold getItem
  try with_reducible refine wpAny_holding ?_
  first | refine wpAny_bind (wpAny_pure ?_) | skip
  refine wpAny_bind (wpAny_sequenceKey ht.typeIs (by decide) ?_)
  refine wpAny_bind (wpAny_callSpecial?_slot (name := Str.ofString "__getitem__") ht.typeIs PyProof.Rows.slot_tuple_getitem
    (wpAny_call_entry PyProof.Rows.slot_tuple_getitem ht.typeIs entry_tuple_getitem ?_ (args_tuple_getitem _ _)))
  show wpAny _ _ (Builtin.Tuple.tupleItemsOf (.ref t) >>= _) _ _ s
  refine wpAny_bind (tupleItemsOf_ ht ?_)
  refine wpAny_bind (wpAny_typeOf hTs ?_)
  rw [if_pos (by decide)]
  refine wpAny_bind (sliceApplied_gen hs pl pu ?_)
  have hno : ¬ ((((sIx items.size 0 lo : Nat) : Int) == 0 && (1 : Int) == 1 && (sIx items.size items.size hi - sIx items.size 0 lo) == items.size) = true) := by
    intro q
    rw [Bool.and_eq_true, Bool.and_eq_true] at q
    have q1 : ((sIx items.size 0 lo : Nat) : Int) = 0 := eq_of_beq q.1.1
    have q2 : sIx items.size items.size hi - sIx items.size 0 lo = items.size := eq_of_beq q.2
    exact hw ⟨by omega, by omega⟩
  show wpAny _ _ (if (((sIx items.size 0 lo : Nat) : Int) == 0 && (1 : Int) == 1 && (sIx items.size items.size hi - sIx items.size 0 lo) == items.size) = true then _ else _) _ _ s
  rw [if_neg hno, pick_gen]
  first
    | exact wpAny_bind (m := Builtin.Tuple.tupleExact _) (wpAny_newObj_type (wpAny_pure ⟨_, rfl, wpAny_pure h⟩) htake)
    | exact wpAny_bind (m := Builtin.Tuple.tupleExact _) (wpAny_newObj_type (wpAny_bind (wpAny_pure (wpAny_pure ⟨_, rfl, wpAny_pure h⟩))) htake)
    | exact wpAny_bind (wpAny_bind (m := Builtin.Tuple.tupleExact _) (wpAny_newObj_type (wpAny_pure (wpAny_pure ⟨_, rfl, wpAny_pure h⟩)) htake))
    | exact wpAny_bind (wpAny_bind (m := Builtin.Tuple.tupleExact _) (wpAny_newObj_type (wpAny_pure ⟨_, rfl, wpAny_pure h⟩) htake))
end
end HT

namespace L2
open PySem PySem.Spec PyProof.Rows

abbrev TO := St → Hp → (Option Int → Hp → Prop) → Prop
/-- a slice's part (left out, or an int) -/
def PO (X : Cx) (e : Option Expr) (t : TO) : Prop :=
  ∀ (pins : List (Addr × Obj)) (s : Shared) (σ : St) (H : Hp) (Q : Option Int → Hp → Prop), Inv X pins σ H s → t σ H Q →
    wpAny (model X.prog X.w) X.A (evalPart e X.env) (fun u s' => ∃ o H', Inv X pins σ H' s' ∧ IsPart u o ∧ Q o H') X.xe s
def tPart (t : TE) : TO := fun σ H Q => t σ H fun x H1 => ∃ i, x = .int i ∧ Q (some i) H1

section
variable {X : Cx} {e : Expr} {te : TE} {lo hi : Option Expr} {tl th : TO} {pos p2 : Pos}

theorem po_some (h : PE X e te) : PO X (some e) (tPart te) := by
  intro pins s σ H Q I hw
  rw [evalPart_some]
  refine thn (h pins s σ H _ I hw) fun u s1 ⟨x, H1, I1, r1, q1⟩ => ?_
  obtain ⟨i, rfl, q⟩ := q1
  obtain ⟨t, rfl⟩ := r1
  exact ⟨some i, H1, I1, .int i t, q⟩

/-- what a slice of a value is, by values: the slice object stands at sl -/
def SlR (X : Cx) (r : V → Option Int → Option Int → Hp → VK → Prop) : Prop :=
  ∀ (pins : List (Addr × Obj)) (s : Shared) (σ : St) (H : Hp) (x : V) (v vl vu : Value) (lo hi : Option Int) (sl : Addr) (Q : VK), Inv X pins σ H s → RelV x v → s.heap.IsSliceOf sl vl vu .none → IsPart vl lo → IsPart vu hi → r x lo hi H Q →
    ∃ T id, typeLookup (.type T) "__getitem__" = pure (some (.builtin id)) ∧ s.TypeIs v T ∧ wpAny (model X.prog X.w) X.A (getItem v (.ref sl)) (EP X pins σ Q) X.xe s
theorem SlR.or {r r' : V → Option Int → Option Int → Hp → VK → Prop} (h : SlR X r) (h' : SlR X r') : SlR X (fun x lo hi H Q => r x lo hi H Q ∨ r' x lo hi H Q) := by
  intro pins s σ H x v vl vu lo hi sl Q I rx hs pl pu q
  rcases q with q | q
  · exact h pins s σ H x v vl vu lo hi sl Q I rx hs pl pu q
  · exact h' pins s σ H x v vl vu lo hi sl Q I rx hs pl pu q
def tSl (r : V → Option Int → Option Int → Hp → VK → Prop) (te : TE) (tl th : TO) : TE := fun σ H Q => te σ H fun x H1 => tl σ H1 fun l H2 => th σ H2 fun u H3 => r x l u H3 Q
/-- a[lo:hi], any a -/
theorem pe_slice {r : V → Option Int → Option Int → Hp → VK → Prop} (hr : SlR X r) (he : PE X e te) (hl : PO X lo tl) (hu : PO X hi th) : PE X (.Subscript e (.Slice lo hi none p2) pos) (tSl r te tl th) := by
  intro pins s σ H Q I h
  refine Subscript_ (thn (he pins s σ H _ I h) fun v s1 ⟨x, H1, I1, r1, q1⟩ => ?_)
  refine wpAny_Slice (thn (hl pins s1 σ H1 _ I1 q1) fun vl s2 ⟨l, H2, I2, pl, q2⟩ => thn (hu pins s2 σ H2 _ I2 q2) fun vu s3 ⟨u, H3, I3, pu, q3⟩ => ?_)
  rw [evalPart_none]
  refine wpAny_pure ?_
  have I4 : Inv X pins σ H3 { s3 with heap := s3.heap.push { cls := .type "slice", data := .fields #[vl, vu, .none] } } := I3.kept (t' := s3.toks) fun b ob q => Heap.get?_push_of_some _ q
  obtain ⟨T, id, hT, ht, hg⟩ := hr pins { s3 with heap := s3.heap.push { cls := .type "slice", data := .fields #[vl, vu, .none] } } σ H3 x v vl vu l u s3.heap.objs.size Q I4 r1 (Heap.IsSliceOf.new ..) pl pu q3
  show wpAny (model X.prog X.w) X.A (subscriptTail e (.Slice lo hi none p2) v (.ref s3.heap.objs.size)) (EP X pins σ Q) X.xe { s3 with heap := s3.heap.push { cls := .type "slice", data := .fields #[vl, vu, .none] } }
  exact tail_any (ops := [.ref s3.heap.objs.size, v]) ht hT hg (by with_unfolding_all rfl)

/-- the items of xs[lo:hi] -/
def cutV (xs : List V) (lo hi : Option Int) : List V := (xs.drop (HT.sIx xs.length 0 lo)).take (HT.sIx xs.length xs.length hi - HT.sIx xs.length 0 lo)
theorem cutV_length (xs : List V) (lo hi : Option Int) : (cutV xs lo hi).length ≤ xs.length := by
  unfold cutV
  rw [List.length_take, List.length_drop]
  omega
/-- t[lo:hi], not the whole of it (the whole would be t itself) -/
def rSlT (K : PySem.W.Frag) : V → Option Int → Option Int → Hp → VK → Prop := fun x lo hi H Q => ∃ a xs, x = .ref a ∧ SqT K H a xs ∧
  ¬ (HT.sIx xs.length 0 lo = 0 ∧ HT.sIx xs.length xs.length hi = xs.length) ∧ ∀ p, H p = none → Q (.ref p) (upd H p (.tup (cutV xs lo hi)))
theorem sl_tup : SlR X (rSlT X.K) := by
  intro pins s σ H x v vl vu lo hi sl Q I rx hs pl pu h
  obtain ⟨a, xs, rfl, hx, hw, q⟩ := h
  cases rx
  obtain ⟨its, r, ht, hz⟩ := I.tuple hx
  have hlen : its.toArray.size = xs.length := by rw [List.size_toArray]; exact r.length.symm
  refine ⟨"tuple", _, PyProof.Rows.slot_tuple_getitem.lookup, ht.typeIs, ?_⟩
  refine HT.getItem_tuple_cut ht hs pl pu (by rw [hlen]; exact hw) ?_ (by rw [hlen]; exact hz)
  rw [hlen]
  refine ⟨.ref s.heap.objs.size, _, I.laid (t' := s.toks) (o := .tup (cutV xs lo hi)) (fun b ob q => Heap.get?_push_of_some _ q) (Nat.le_refl _) ?_, rfl, q _ (I.hok.fresh (Nat.le_refl _))⟩
  exact ⟨Nat.le_trans (cutV_length xs lo hi) hz, _, (r.drop (HT.sIx xs.length 0 lo)).take (HT.sIx xs.length xs.length hi - HT.sIx xs.length 0 lo), IsTup.new _ _⟩

end
end L2

namespace L2
open PySem PySem.Spec PyProof.Rows

/-- the place that an index of any sign means -/
def ixN (n : Nat) (i : Int) : Option Nat := if 0 ≤ i then (if i < n then some i.toNat else none) else if -(n : Int) ≤ i then some (i + n).toNat else none
def atI {α : Type} (xs : List α) (i : Int) : Option α := (ixN xs.length i).bind fun j => xs[j]?
theorem ixN_seq {n : Nat} {i : Int} {j : Nat} (h : ixN n i = some j) : seqIndex? i n = some j ∧ j < n ∧ -(n : Int) ≤ i ∧ i < n := by
  unfold ixN at h
  by_cases h0 : 0 ≤ i
  · rw [if_pos h0] at h
    by_cases h1 : i < n
    · rw [if_pos h1] at h
      have e : i.toNat = j := Option.some.inj h
      exact ⟨by rw [seqIndex_of h0 h1, e], by omega, by omega, h1⟩
    · rw [if_neg h1] at h; cases h
  · rw [if_neg h0] at h
    by_cases h1 : -(n : Int) ≤ i
    · rw [if_pos h1] at h
      have e : (i + n).toNat = j := Option.some.inj h
      exact ⟨by rw [seqIndex_neg (by omega) h1, e], by omega, h1, by omega⟩
    · rw [if_neg h1] at h; cases h
theorem atI_get {α : Type} {xs : List α} {i : Int} {v : α} (h : atI xs i = some v) : ∃ j, seqIndex? i xs.length = some j ∧ xs[j]? = some v ∧ j < xs.length ∧ -(xs.length : Int) ≤ i ∧ i < xs.length := by
  unfold atI at h
  cases e : ixN xs.length i with
  | none => rw [e] at h; cases h
  | some j =>
    rw [e] at h
    obtain ⟨h1, h2, h3, h4⟩ := ixN_seq e
    exact ⟨j, h1, h, h2, h3, h4⟩
/-- what stands as an index of a plain subscript -/
def PlainIx (b : Expr) : Prop := ∀ o i, subscripted b false o i = operate [o, i] (getItem o i)
/-- a subscript by values -/
def IxR (X : Cx) (r : R2) : Prop :=
  ∀ (value slice : Expr) (pins : List (Addr × Obj)) (s : Shared) (σ : St) (H : Hp) (x y : V) (v u : Value) (Q : VK), Inv X pins σ H s → RelV x v → RelV y u → r x y H Q →
    subscripted slice false v u = operate [v, u] (getItem v u) → wpAny (model X.prog X.w) X.A (subscriptTail value slice v u) (EP X pins σ Q) X.xe s
/-- a call of a builtin's method by values: the receiver, the arguments -/
def MtR (X : Cx) (id : String) (r : V → List V → Hp → VK → Prop) : Prop :=
  ∀ (pins : List (Addr × Obj)) (s : Shared) (σ : St) (H : Hp) (x : V) (xs : List V) (v : Value) (us : List Value) (Q : VK), Inv X pins σ H s → RelV x v → Vals xs us → r x xs H Q →
    wpAny (model X.prog X.w) X.A (call (.builtin id) (v :: us)) (EP X pins σ Q) X.xe s
section
variable {X : Cx} {a b : Expr} {ta tb : TE} {pos : Pos}
theorem IxR.or {r r' : R2} (h : IxR X r) (h' : IxR X r') : IxR X (fun x y H Q => r x y H Q ∨ r' x y H Q) := by
  intro value slice pins s σ H x y v u Q I rx ry q hs
  rcases q with q | q
  · exact h value slice pins s σ H x y v u Q I rx ry q hs
  · exact h' value slice pins s σ H x y v u Q I rx ry q hs
theorem MtR.or {id : String} {r r' : V → List V → Hp → VK → Prop} (h : MtR X id r) (h' : MtR X id r') : MtR X id (fun x xs H Q => r x xs H Q ∨ r' x xs H Q) := by
  intro pins s σ H x xs v us Q I rx rs q
  rcases q with q | q
  · exact h pins s σ H x xs v us Q I rx rs q
  · exact h' pins s σ H x xs v us Q I rx rs q
/-- a[b] -/
theorem pe_ix {r : R2} (hr : IxR X r) (ha : PE X a ta) (hb : PE X b tb) (hs : PlainIx b) : PE X (.Subscript a b pos) (tOp r ta tb) := by
  intro pins s σ H Q I h
  exact Subscript_ (binT ha hb I h fun v u s2 x y H2 I2 rx ry q => hr a b pins s2 σ H2 x y v u Q I2 rx ry q (hs _ _))

def rIxL (K : PySem.W.Frag) : R2 := fun x y H Q => ∃ p xs i v, x = .ref p ∧ y = .int i ∧ SqL K H p xs ∧ atI xs i = some v ∧ Q v H
def rIxT (K : PySem.W.Frag) : R2 := fun x y H Q => ∃ p xs i v, x = .ref p ∧ y = .int i ∧ SqT K H p xs ∧ atI xs i = some v ∧ Q v H
theorem ix_list : IxR X (rIxL X.K) := by
  intro value slice pins s σ H x y v u Q I rx ry h hs
  obtain ⟨p, xs, i, z, rfl, rfl, hq, he, q⟩ := h
  cases rx
  obtain ⟨t, rfl⟩ := ry
  obtain ⟨its, r, pl, hz⟩ := I.list hq
  obtain ⟨j, h1, h2, h3, h4, h5⟩ := atI_get he
  obtain ⟨w, ew, rw'⟩ := r.get h2
  have hl := r.length
  have hn := line63
  have fin : EP X pins σ Q w s := ⟨z, H, I, rw', q⟩
  by_cases h0 : 0 ≤ i
  · have hj : i.toNat = j := by
      rw [seqIndex_of h0 h5] at h1
      exact Option.some.inj h1
    exact item_listR pl.isList h0 (by omega) (by rw [hj]; simpa using ew) fin hs
  · have hj : (i + (its.toArray.size : Int)).toNat = j := by
      rw [seqIndex_neg (by omega) h4] at h1
      rw [List.size_toArray, ← hl]
      exact Option.some.inj h1
    exact subscriptTail_builtinR (x := w) pl.isList.typeIs slot_list_getitem.lookup
      (wpAny_getItem_list_neg (Q := fun r s' => r = w ∧ EP X pins σ Q r s') pl.isList (by omega) (by rw [List.size_toArray] <;> omega) (by omega) (by rw [hj]; simpa using ew) ⟨rfl, fin⟩) hs
theorem ix_tup : IxR X (rIxT X.K) := by
  intro value slice pins s σ H x y v u Q I rx ry h hs
  obtain ⟨p, xs, i, z, rfl, rfl, hq, he, q⟩ := h
  cases rx
  obtain ⟨t, rfl⟩ := ry
  obtain ⟨its, r, pl, hz⟩ := I.tuple hq
  obtain ⟨j, h1, h2, h3, h4, h5⟩ := atI_get he
  obtain ⟨w, ew, rw'⟩ := r.get h2
  have hl := r.length
  have hn := line63
  have fin : EP X pins σ Q w s := ⟨z, H, I, rw', q⟩
  exact subscriptTail_builtinR (x := w) pl.typeIs slot_tuple_getitem.lookup
    (getItem_tuple (j := j) (Q := fun r s' => r = w ∧ EP X pins σ Q r s') pl (by omega) (by omega) (by rw [List.size_toArray, ← hl]; exact h1) (by simpa using ew) ⟨rfl, fin⟩) hs
/-- the list's object behind a store -/
theorem mapSeq_set (its : List Value) (n j : Nat) (u : Value) : Obj.mapSeq (·.setIfInBounds j u) { cls := .type "list", data := .seq its.toArray n } = { cls := .type "list", data := .seq (its.set j u).toArray n } := by
  simp [Obj.mapSeq]
theorem Inv.lst {pins : List (Addr × Obj)} {σ : St} {H : Hp} {s : Shared} {p : Addr} {xs : List V} (I : Inv X pins σ H s) (h : H p = some (.lst xs)) :
    ∃ (its : List Value) (n : Nat), Vals xs its ∧ s.heap.get? p = some { cls := .type "list", data := .seq its.toArray n } ∧ xs.length ≤ sizeLine := by
  obtain ⟨z, its, n, r, e⟩ := I.hok p _ h
  exact ⟨its, n, r, e, z⟩
/-- the list at p is written by an update of its object -/
theorem Inv.lstUpd {pins : List (Addr × Obj)} {σ : St} {H : Hp} {s : Shared} {p : Addr} {xs ys : List V} {its its' : List Value} {n n' : Nat} {f : Obj → Obj} (I : Inv X pins σ H s) (h : H p = some (.lst xs))
    (ho : s.heap.get? p = some { cls := .type "list", data := .seq its.toArray n }) (hf : f { cls := .type "list", data := .seq its.toArray n } = { cls := .type "list", data := .seq its'.toArray n' }) (r : Vals ys its') (hz : ys.length ≤ sizeLine) (t : Nat) :
    Inv X pins σ (upd H p (.lst ys)) { s with heap := s.heap.update p f, toks := t } := by
  have e : (s.heap.update p f).get? p = some { cls := .type "list", data := .seq its'.toArray n' } := by
    rw [Heap.get?_update_self f ho (by rw [hf] <;> rfl), hf]
  refine I.write (x := p) (e := p) (by rw [h]; trivial) (.inl rfl) (fun b u hb q => (Heap.get?_update_other _ _ (Ne.symm hb)).trans q) ⟨_, e⟩ ?_
  exact ⟨hz, its', n', r, e⟩
def rSetL : V → V → V → Hp → (Hp → Prop) → Prop := fun o i v H Q => ∃ p xs k j, o = .ref p ∧ i = .int k ∧ H p = some (.lst xs) ∧ ixN xs.length k = some j ∧ Q (upd H p (.lst (xs.set j v)))
theorem set_list : PSet X rSetL := by
  intro pins s σ H o i v ov iv u Q I ro ri rv h
  obtain ⟨p, xs, k, j, rfl, rfl, hp, hj, q⟩ := h
  cases ro
  obtain ⟨t, rfl⟩ := ri
  obtain ⟨its, n, r, ho, hz⟩ := I.lst hp
  obtain ⟨h1, h2, h3, h4⟩ := ixN_seq hj
  have hl := r.length
  have hn := line63
  have I' : Inv X pins σ (upd H p (.lst (xs.set j v))) { s with heap := s.heap.update p (Obj.mapSeq (·.setIfInBounds j u)) } :=
    I.lstUpd hp ho (mapSeq_set its n j u) (r.set rv j) (by rw [List.length_set]; exact hz) s.toks
  by_cases h0 : 0 ≤ k
  · have hk : k.toNat = j := by
      rw [seqIndex_of h0 h4] at h1
      exact Option.some.inj h1
    exact PySem.W.ki_setAt ho h0 (by omega) (by rw [List.size_toArray, ← hl]; exact h4) (by rw [hk]; exact ⟨_, I', q⟩)
  · have hk : (k + (its.toArray.size : Int)).toNat = j := by
      rw [seqIndex_neg (by omega) h3] at h1
      rw [List.size_toArray, ← hl]
      exact Option.some.inj h1
    exact PySem.W.ki_setBack ho (by omega) (by rw [List.size_toArray, ← hl]; exact h3) (by omega) (by rw [hk]; exact ⟨_, I', q⟩)

theorem slice_bounds (lo hi : Option Int) (n : Nat) : (sliceBounds lo hi none n).1 = ((HT.sIx n 0 lo : Nat) : Int) ∧ (sliceBounds lo hi none n).2.1 = ((HT.sIx n n hi : Nat) : Int) ∧ (sliceBounds lo hi none n).2.2 = 1 := by
  refine ⟨?_, ?_, rfl⟩
  · cases lo with
    | none => simp [sliceBounds, HT.sIx]
    | some i =>
      simp only [sliceBounds, HT.sIx, Option.getD_none, show (1 : Int) > 0 by decide, if_true]
      by_cases h : i < 0
      · simp only [h, if_true] <;> omega
      · simp only [h, if_false] <;> omega
  · cases hi with
    | none => simp [sliceBounds, HT.sIx]
    | some i =>
      simp only [sliceBounds, HT.sIx, Option.getD_none, show (1 : Int) > 0 by decide, if_true]
      by_cases h : i < 0
      · simp only [h, if_true] <;> omega
      · simp only [h, if_false] <;> omega
theorem slicePick_cut (its : List Value) (lo hi : Option Int) : slicePick its.toArray lo hi none = ((its.drop (HT.sIx its.length 0 lo)).take (HT.sIx its.length its.length hi - HT.sIx its.length 0 lo)).toArray := by
  obtain ⟨h1, h2, h3⟩ := slice_bounds lo hi its.toArray.size
  unfold slicePick
  rw [h1, h2, h3]
  simp only [sliceRange_one, pick_run, List.size_toArray] <;> rfl
/-- xs[lo:hi] of a list: a new list -/
def rSlL (K : PySem.W.Frag) : V → Option Int → Option Int → Hp → VK → Prop := fun x lo hi H Q => ∃ a xs, x = .ref a ∧ SqL K H a xs ∧ ∀ p, H p = none → Q (.ref p) (upd H p (.lst (cutV xs lo hi)))
theorem sl_list : SlR X (rSlL X.K) := by
  intro pins s σ H x v vl vu lo hi sl Q I rx hs pl pu h
  obtain ⟨a, xs, rfl, hx, q⟩ := h
  cases rx
  obtain ⟨its, r, ht, hz⟩ := I.list hx
  have hlen := r.length
  refine ⟨"list", _, slot_list_getitem.lookup, ht.isList.typeIs, ?_⟩
  refine wpAny_getItem_list_slice ht.isList hs pl pu .none (by simp) ?_ (by rw [List.size_toArray] <;> omega)
  rw [slicePick_cut, ← hlen]
  refine ⟨.ref s.heap.objs.size, _, I.laid (t' := s.toks) (o := .lst (cutV xs lo hi)) (fun b ob q => Heap.get?_push_of_some _ q) (Nat.le_refl _) ?_, rfl, q _ (I.hok.fresh (Nat.le_refl _))⟩
  exact ⟨Nat.le_trans (cutV_length xs lo hi) hz, _, 0, (r.drop (HT.sIx xs.length 0 lo)).take (HT.sIx xs.length xs.length hi - HT.sIx xs.length 0 lo), Heap.get?_push_size _ rfl⟩

theorem CallR.or {f : Value} {r r' : List V → Hp → VK → Prop} (h : CallR X f r) (h' : CallR X f r') : CallR X f (fun xs H Q => r xs H Q ∨ r' xs H Q) := by
  intro pins s σ H xs us Q I rs q
  rcases q with q | q
  · exact h pins s σ H xs us Q I rs q
  · exact h' pins s σ H xs us Q I rs q
theorem call_list_of : CallR X (.type "list") (fun xs H Q => ∃ p ys, xs = [.ref p] ∧ (SqL X.K H p ys ∨ SqT X.K H p ys) ∧ ∀ l, H l = none → Q (.ref l) (upd H l (.lst ys))) := by
  intro pins s σ H xs us Q I r h
  obtain ⟨p, ys, rfl, hq, q⟩ := h
  obtain ⟨u, rfl, rx⟩ := vals1 r
  cases rx
  have fin : ∀ (its : List Value), Vals ys its → ys.length ≤ sizeLine → ∀ (h' : Heap) (c' : Nat), (∀ b o', s.heap.get? b = some o' → h'.get? b = some o') →
      h'.get? s.heap.objs.size = some { cls := .type "list", dict := none, data := .seq its.toArray c', slots := #[] } → EP X pins σ Q (.ref s.heap.objs.size) { s with heap := h' } := fun its r' hz h' c' kp e =>
    ⟨.ref s.heap.objs.size, _, I.laid (t' := s.toks) kp (Nat.le_refl _) (show ObjOk X.prog X.w _ h' _ (.lst ys) from ⟨hz, its, c', r', e⟩), rfl, q _ (I.hok.fresh (Nat.le_refl _))⟩
  rcases hq with hq | hq
  · obtain ⟨its, r', pl, hz⟩ := I.list hq
    have hlen := r'.length
    obtain ⟨o, ho, hc, n, hd⟩ := pl.isList
    exact call_list_seq p (.inl rfl) ho hc hd (fun h' c' kp e => fin its r' hz h' c' kp e) (by simp only [List.size_toArray] <;> omega)
  · obtain ⟨its, r', pl, hz⟩ := I.tuple hq
    have hlen := r'.length
    obtain ⟨o, ho, hc, n, hd⟩ := pl
    exact call_list_seq p (.inr rfl) ho hc hd (fun h' c' kp e => fin its r' hz h' c' kp e) (by simp only [List.size_toArray] <;> omega)
theorem call_tuple_of : CallR X (.type "tuple") (fun xs H Q => ∃ p ys, xs = [.ref p] ∧ ((SqL X.K H p ys ∧ ∀ l, H l = none → Q (.ref l) (upd H l (.tup ys))) ∨ (SqT X.K H p ys ∧ Q (.ref p) H))) := by
  intro pins s σ H xs us Q I r h
  obtain ⟨p, ys, rfl, h⟩ := h
  obtain ⟨u, rfl, rx⟩ := vals1 r
  cases rx
  rcases h with ⟨hq, q⟩ | ⟨hq, q⟩
  · obtain ⟨its, r', pl, hz⟩ := I.list hq
    have hlen := r'.length
    refine call_tuple_list pl.isList (fun h' kp => ?_) (by simp only [List.size_toArray] <;> omega)
    have I1 : Inv X pins σ H { s with heap := h' } := I.kept (t' := s.toks) kp
    have I2 : Inv X pins σ (upd H h'.objs.size (.tup ys)) { s with heap := h'.push { cls := .type "tuple", data := .seq its.toArray } } :=
      I1.laid (t' := s.toks) (fun b o e => Heap.get?_push_of_some _ e) (Nat.le_refl _) (show ObjOk X.prog X.w _ _ _ (.tup ys) from ⟨hz, its, r', IsTup.new _ _⟩)
    exact ⟨.ref h'.objs.size, _, I2, rfl, q _ (I1.hok.fresh (Nat.le_refl _))⟩
  · obtain ⟨its, r', pl, hz⟩ := I.tuple hq
    exact call_tuple_same pl ⟨.ref p, H, I, rfl, q⟩

/-- the value is of that builtin type -/
def tyV (K : PySem.W.Frag) (T : String) (x : V) (H : Hp) : Prop := match x with
  | .str _ => T = "str"
  | .int _ => T = "int"
  | .ref p => (T = "list" ∧ ∃ xs, SqL K H p xs) ∨ (T = "tuple" ∧ ∃ o, K.lookup p = some o ∧ o.cls = .type "tuple" ∧ o.dict = none) ∨
      (T = "dict" ∧ ((∃ kvs, H p = some (.dK kvs)) ∨ ∃ kvs, H p = some (.dT kvs))) ∨ (T = "set" ∧ ∃ S n, H p = some (.set S n))
  | _ => False
theorem tyV_is {pins : List (Addr × Obj)} {σ : St} {H : Hp} {s : Shared} {T : String} {x : V} {v : Value} (I : Inv X pins σ H s) (r : RelV x v) (ty : tyV X.K T x H) :
    s.TypeIs v T ∧ ∀ a, v = .ref a → ∃ ob, s.heap.get? a = some ob ∧ ob.dict = none := by
  cases x with
  | str z =>
    obtain ⟨t, rfl⟩ := r
    cases (show T = "str" from ty)
    exact ⟨typeIs_str s z t, fun _ e => nomatch e⟩
  | int i =>
    obtain ⟨t, rfl⟩ := r
    cases (show T = "int" from ty)
    exact ⟨typeIs_int s i t, fun _ e => nomatch e⟩
  | ref p =>
    cases r
    rcases ty with ⟨rfl, xs, hq⟩ | ⟨rfl, o, hk, hc, hd⟩ | ⟨rfl, hk⟩ | ⟨rfl, S, n, hk⟩
    · obtain ⟨its, _, pl, _⟩ := I.list hq
      refine ⟨pl.isList.typeIs, fun a e => ?_⟩
      cases e
      obtain ⟨o, n, e, c, hd, _⟩ := pl
      exact ⟨o, e, hd⟩
    · refine ⟨⟨o, I.kIn p o hk, hc⟩, fun a e => ?_⟩
      cases e
      exact ⟨o, I.kIn _ o hk, hd⟩
    · have z : ∃ o, s.heap.get? p = some o ∧ o.ExactDict := by
        rcases hk with ⟨kvs, hk⟩ | ⟨kvs, hk⟩
        · obtain ⟨_, _, _, _, o, _, _, e, ex, _⟩ := I.hok p _ hk
          exact ⟨o, e, ex⟩
        · obtain ⟨_, _, _, _, o, _, _, e, ex, _⟩ := I.hok p _ hk
          exact ⟨o, e, ex⟩
      obtain ⟨o, e, ex⟩ := z
      refine ⟨⟨o, e, ex.1⟩, fun a e2 => ?_⟩
      cases e2
      exact ⟨o, e, ex.2.1⟩
    · obtain ⟨o, _, _, _, e, ex, _⟩ := I.hok p _ hk
      refine ⟨⟨o, e, ex.1⟩, fun a e2 => ?_⟩
      cases e2
      exact ⟨o, e, ex.2.1⟩
  | _ => exact False.elim ty
variable {o e : Expr} {es : List Expr} {to : TE} {t : TA} {name : Str} {apos cpos : Pos} {T id : String} {r : V → List V → Hp → VK → Prop}
/- xs.append(e), list.index on a module's tuple .. are MtR facts of 06m -/
end
end L2

namespace L2
open PySem PySem.Spec PyProof.Rows

def MtM (X : Cx) (id : String) (r : V → List V → Hp → VK → Prop) : Prop :=
  ∀ (pins : List (Addr × Obj)) (s : Shared) (σ : St) (H : Hp) (x : V) (xs : List V) (v : Value) (us : List Value) (Q : VK), Inv X pins σ H s → RelV x v → Vals xs us → r x xs H Q →
    wpAny (model X.prog X.w) X.A (call (.builtin id) (v :: us)) (EP X pins σ Q) X.xe s

theorem Vals.one : ∀ {x : V} {us : List Value}, Vals [x] us → ∃ u, us = [u] ∧ RelV x u
  | _, _, .cons r .nil => ⟨_, rfl, r⟩
theorem Vals.two : ∀ {x y : V} {us : List Value}, Vals [x, y] us → ∃ u v, us = [u, v] ∧ RelV x u ∧ RelV y v
  | _, _, _, .cons r (.cons q .nil) => ⟨_, _, rfl, r, q⟩
theorem Vals.zero : ∀ {us : List Value}, Vals [] us → us = []
  | _, .nil => rfl
theorem Vals.reverse {xs : List V} {us : List Value} (h : Vals xs us) : Vals xs.reverse us.reverse := by
  induction h with
  | nil => exact .nil
  | cons r t ih => rw [List.reverse_cons, List.reverse_cons]; exact Vals.append ih (.cons r .nil)
theorem Vals.rep {xs : List V} {us : List Value} (h : Vals xs us) : ∀ k : Nat, Vals (List.replicate k xs).flatten (List.replicate k us).flatten
  | 0 => .nil
  | k + 1 => by
    rw [List.replicate_succ, List.replicate_succ, List.flatten_cons, List.flatten_cons]
    exact Vals.append h (Vals.rep h k)
section
variable {X : Cx} {pins : List (Addr × Obj)} {σ : St} {H : Hp} {s : Shared} {l b : Addr} {xs ys zs : List V}

theorem Inv.lset {its its' : List Value} {n : Nat} {f : Array Value → Array Value} {t' : Nat} (I : Inv X pins σ H s) (hH : H l = some (.lst xs))
    (e : s.heap.get? l = some { cls := .type "list", data := .seq its.toArray n }) (hf : f its.toArray = its'.toArray) (hv : Vals ys its') (hz : ys.length ≤ sizeLine) :
    Inv X pins σ (upd H l (.lst ys)) { s with heap := s.heap.update l (Obj.mapSeq f), toks := t' } := by
  have q := PySem.IsL.update e f
  rw [hf] at q
  refine I.write (x := l) (e := l) (by rw [hH]; exact trivial) (.inl rfl) (fun b' u hb hu => (Heap.get?_update_other s.heap (Obj.mapSeq f) (Ne.symm hb)).trans hu) ⟨_, q⟩ ?_
  exact ⟨hz, its', _, hv, q⟩
theorem Inv.fresh (I : Inv X pins σ H s) : H s.heap.objs.size = none := I.hok.fresh (Nat.le_refl _)
theorem Inv.lstM (I : Inv X pins σ H s) (hH : H l = some (.lst xs)) : xs.length ≤ sizeLine ∧ ∃ (its : List Value) (n : Nat), Vals xs its ∧ xs.length = its.length ∧ s.heap.get? l = some { cls := .type "list", data := .seq its.toArray n } := by
  obtain ⟨z, its, n, r, e⟩ := I.hok l _ hH
  exact ⟨z, its, n, r, r.length, e⟩

end

section
variable {X : Cx}

def rAppend : V → List V → Hp → VK → Prop := fun x vs H Q => ∃ l xs y, x = .ref l ∧ vs = [y] ∧ H l = some (.lst xs) ∧ xs.length < sizeLine ∧ Q .non (upd H l (.lst (xs ++ [y])))
theorem mt_append : MtM X "list.append" rAppend := by
  intro pins s σ H x vs v us Q I rx rv h
  obtain ⟨l, xs, y, rfl, rfl, hH, hz, q⟩ := h
  cases rx
  obtain ⟨u, rfl, ru⟩ := rv.one
  obtain ⟨z, its, n, r, hl, e⟩ := I.lstM hH
  refine call_meets F.slot_list_append ⟨_, e, rfl⟩ F.entry_list_append (F.args_list_append_2 _ _) (PySem.list_append l its.toArray n u (by rw [List.size_toArray]; omega)) ⟨e, ?_⟩
  refine ⟨.non, _, I.lset (its' := its ++ [u]) hH e (by simp) (r.append (.cons ru .nil)) ?_, rfl, q⟩
  rw [List.length_append, List.length_singleton]
  omega

end

section
variable {prog : Program} {w : World} {A : Around} {E : Value → Shared → Prop} {s : Shared}
end

section
variable {X : Cx}
end
end L2

namespace L2
open PySem PySem.Spec PyProof.Rows

section
variable {κ : Type} [DecidableEq κ]
def valV (kvs : List (κ × V)) (k : κ) : Option V := (kvs.find? fun kv => decide (kv.1 = k)).map (·.2)
/-- in its place, or at the end -/
def putK (kvs : List (κ × V)) (k : κ) (v : V) : List (κ × V) :=
  if (kvs.any fun kv => decide (kv.1 = k)) = true then kvs.map (fun kv => if kv.1 = k then (kv.1, v) else kv) else kvs ++ [(k, v)]
def dropK (kvs : List (κ × V)) (k : κ) : List (κ × V) := kvs.filter fun kv => decide (kv.1 ≠ k)

theorem valV_pos {p : κ × V} {r : List (κ × V)} {k : κ} (e : p.1 = k) : valV (p :: r) k = some p.2 := by simp [valV, List.find?_cons, e]
theorem valV_neg {p : κ × V} {r : List (κ × V)} {k : κ} (e : ¬ p.1 = k) : valV (p :: r) k = valV r k := by simp [valV, List.find?_cons, e]
theorem valV_any (k : κ) : ∀ kvs : List (κ × V), (kvs.any fun kv => decide (kv.1 = k)) = (valV kvs k).isSome
  | [] => rfl
  | p :: r => by
    rw [List.any_cons]
    by_cases e : p.1 = k
    · simp only [valV_pos e, decide_eq_true e, Bool.true_or, Option.isSome_some]
    · rw [valV_neg e, decide_eq_false e, Bool.false_or]; exact valV_any k r
theorem length_putK (kvs : List (κ × V)) (k : κ) (v : V) : (putK kvs k v).length ≤ kvs.length + 1 := by
  unfold putK
  split
  · rw [List.length_map]; omega
  · rw [List.length_append, List.length_cons, List.length_nil]; omega
theorem RelO.isSome_eq {o : Option V} {u : Option Value} (r : RelO o u) : o.isSome = u.isSome := by
  cases o with
  | none => cases u with
    | none => rfl
    | some _ => exact (show False from r).elim
  | some _ => cases u with
    | none => exact (show False from r).elim
    | some _ => rfl
theorem RelO.getD {o : Option V} {u : Option Value} {d : V} {d' : Value} (r : RelO o u) (rd : RelV d d') : RelV (o.getD d) (u.getD d') := by
  cases o with
  | none => cases u with
    | none => exact rd
    | some _ => exact (show False from r).elim
  | some _ => cases u with
    | none => exact (show False from r).elim
    | some _ => exact r

/-- raw tables of the same keys -/
theorem KV.val {kvs : List (κ × V)} {vs : List (κ × Value)} (r : KV kvs vs) (k : κ) : RelO (valV kvs k) (valueAt vs k) := by
  unfold KV at r
  induction r with
  | nil => exact True.intro
  | @cons p q ps qs h t ih =>
    obtain ⟨h1, h2⟩ := h
    by_cases e : p.1 = k
    · have e' : q.1 = k := h1.symm.trans e
      have b : valueAt (q :: qs) k = some q.2 := by simp [valueAt, List.find?_cons, e']
      rw [valV_pos e, b]; exact h2
    · have e' : ¬ q.1 = k := fun z => e (h1.trans z)
      have b : valueAt (q :: qs) k = valueAt qs k := by simp [valueAt, List.find?_cons, e']
      rw [valV_neg e, b]; exact ih
theorem KV.any {kvs : List (κ × V)} {vs : List (κ × Value)} (r : KV kvs vs) (k : κ) : (kvs.any fun kv => decide (kv.1 = k)) = vs.any fun kv => decide (kv.1 = k) := by
  unfold KV at r
  induction r with
  | nil => rfl
  | cons h t ih => rw [List.any_cons, List.any_cons, ih, h.1]
theorem KV.repl {kvs : List (κ × V)} {vs : List (κ × Value)} (r : KV kvs vs) (k : κ) {y : V} {u : Value} (ry : RelV y u) :
    KV (kvs.map fun kv => if kv.1 = k then (kv.1, y) else kv) (vs.map fun kv => if kv.1 = k then (kv.1, u) else kv) := by
  unfold KV at r ⊢
  induction r with
  | nil => exact .nil
  | @cons p q ps qs h t ih =>
    rw [List.map_cons, List.map_cons]
    refine .cons ?_ ih
    obtain ⟨h1, h2⟩ := h
    by_cases e : p.1 = k
    · rw [if_pos e, if_pos (h1.symm.trans e)]; exact ⟨h1, ry⟩
    · rw [if_neg e, if_neg (fun z => e (h1.trans z))]; exact ⟨h1, h2⟩
theorem KV.put {kvs : List (κ × V)} {vs : List (κ × Value)} (r : KV kvs vs) (k : κ) {y : V} {u : Value} (ry : RelV y u) : KV (putK kvs k y) (stored vs k u) := by
  unfold putK stored
  rw [r.any k]
  by_cases e : (vs.any fun kv => decide (kv.1 = k)) = true
  · rw [if_pos e, if_pos e]; exact r.repl k ry
  · rw [if_neg e, if_neg e]; exact Paired.snoc r ⟨rfl, ry⟩
theorem KV.drop {kvs : List (κ × V)} {vs : List (κ × Value)} (r : KV kvs vs) (k : κ) : KV (dropK kvs k) (without vs k) := by
  unfold KV at r ⊢
  unfold dropK without
  induction r with
  | nil => exact .nil
  | @cons p q ps qs h t ih =>
    obtain ⟨h1, h2⟩ := h
    rw [List.filter_cons, List.filter_cons]
    by_cases e : p.1 = k
    · have a : ¬ decide (p.1 ≠ k) = true := by simp [e]
      have b : ¬ decide (q.1 ≠ k) = true := by simp [h1.symm.trans e]
      rw [if_neg a, if_neg b]; exact ih
    · have e' : ¬ q.1 = k := fun z => e (h1.trans z)
      have a : decide (p.1 ≠ k) = true := by simp [e]
      have b : decide (q.1 ≠ k) = true := by simp [e']
      rw [if_pos a, if_pos b]; exact .cons ⟨h1, h2⟩ ih
theorem KV.keys {kvs : List (κ × V)} {vs : List (κ × Value)} (r : KV kvs vs) : kvs.map (·.1) = vs.map (·.1) := by
  unfold KV at r
  induction r with
  | nil => rfl
  | cons h t ih => rw [List.map_cons, List.map_cons, ih, h.1]
theorem KV.length {kvs : List (κ × V)} {vs : List (κ × Value)} (r : KV kvs vs) : kvs.length = vs.length := Paired.length r
end


theorem kV_is {P : Program} {w : World} {k : Key} {u : Value} (r : RelV (kV k) u) : (mixKind P w).is k u = true := by
  cases k with
  | inl i => obtain ⟨t, e⟩ := (show ∃ t, u = Value.int i t from r); subst e; exact mixKind_int P w i t
  | inr x => obtain ⟨t, e⟩ := (show ∃ t, u = Value.str x t from r); subst e; exact mixKind_str P w x t
theorem items_are {P : Program} {w : World} : ∀ {ks : List Key} {us : List Value}, Vals (ks.map kV) us → ItemsAre (mixKind P w) ks us
  | [], _, r => by rw [List.map_nil] at r; cases r; exact .nil
  | k :: ks, _, r => by
    rw [List.map_cons] at r
    cases r with
    | cons h t => exact .cons (kV_is h) (items_are t)

/-- raw entries of a dict with tuple keys -/
abbrev KT (H : Hp) : List (List Key × V) → List (List Key × Addr × Value) → Prop := Paired fun p q => p.1 = q.1 ∧ H q.2.1 = some (.tup (p.1.map kV)) ∧ RelV p.2 q.2.2
theorem KT.val {H : Hp} {kvs : List (List Key × V)} {xs : List (List Key × Addr × Value)} (r : KT H kvs xs) (k : List Key) : RelO (valV kvs k) ((atKey xs k).map (·.2)) := by
  induction r with
  | nil => exact True.intro
  | @cons p q ps qs h t ih =>
    obtain ⟨h1, _, h2⟩ := h
    by_cases e : p.1 = k
    · have e' : q.1 = k := h1.symm.trans e
      have b : atKey (q :: qs) k = some q.2 := by simp [atKey, List.find?_cons, e']
      rw [valV_pos e, b]; exact h2
    · have e' : ¬ q.1 = k := fun z => e (h1.trans z)
      have b : atKey (q :: qs) k = atKey qs k := by simp [atKey, List.find?_cons, e']
      rw [valV_neg e, b]; exact ih
theorem KT.repl {H : Hp} {kvs : List (List Key × V)} {xs : List (List Key × Addr × Value)} (r : KT H kvs xs) (k : List Key) {y : V} {u : Value} (ry : RelV y u) :
    KT H (kvs.map fun kv => if kv.1 = k then (kv.1, y) else kv) (xs.map (putAt k u)) := by
  induction r with
  | nil => exact .nil
  | @cons p q ps qs h t ih =>
    rw [List.map_cons, List.map_cons]
    refine .cons ?_ ih
    obtain ⟨h1, h2, h3⟩ := h
    unfold putAt
    by_cases e : p.1 = k
    · rw [if_pos e, if_pos (h1.symm.trans e)]; exact ⟨h1, h2, ry⟩
    · rw [if_neg e, if_neg (fun z => e (h1.trans z))]; exact ⟨h1, h2, h3⟩
theorem KT.put {H : Hp} {kvs : List (List Key × V)} {xs : List (List Key × Addr × Value)} (r : KT H kvs xs) (k : List Key) {b : Addr} {y : V} {u : Value} (hb : H b = some (.tup (k.map kV))) (ry : RelV y u) :
    KT H (putK kvs k y) (storedH xs k b u) := by
  have e : (kvs.any fun kv => decide (kv.1 = k)) = (atKey xs k).isSome := by
    rw [valV_any, (r.val k).isSome_eq, Option.isSome_map]
  unfold putK storedH
  rw [e]
  by_cases q : (atKey xs k).isSome = true
  · rw [if_pos q, if_pos q]; exact r.repl k ry
  · rw [if_neg q, if_neg q]; exact Paired.snoc r ⟨rfl, hb, ry⟩
theorem KT.keeps {H H' : Hp} {kvs : List (List Key × V)} {xs : List (List Key × Addr × Value)} (r : KT H kvs xs) (ht : ∀ b ys, H b = some (.tup ys) → H' b = some (.tup ys)) : KT H' kvs xs :=
  Paired.mapP r fun _ _ z => ⟨z.1, ht _ _ z.2.1, z.2.2⟩

section
variable {P : Program} {w : World} {H : Hp} {h : Heap} {a : Addr}
theorem rd_of {u : HO} (ok : HOk P w H h) (e : Rd H a u) : ObjOk P w H h a u := e.ok ok
theorem dk_rd {kvs : List (Key × V)} (ok : HOk P w H h) (e : Rd H a (.dK kvs)) : kvs.length ≤ sizeLine ∧ (a == sysModules) = false ∧ ∃ vs, KV kvs vs ∧ h.DictOf (mixKind P w) a vs :=
  show ObjOk P w H h a (.dK kvs) from rd_of ok e
theorem dk_of {kvs : List (Key × V)} (ok : HOk P w H h) (e : H a = some (.dK kvs)) : kvs.length ≤ sizeLine ∧ (a == sysModules) = false ∧ ∃ vs, KV kvs vs ∧ h.DictOf (mixKind P w) a vs := dk_rd ok (.inl e)
/-- a tracked tuple of ints and texts is a key -/
theorem key_of {ks : List Key} (ok : HOk P w H h) (e : H a = some (.tup (ks.map kV))) : (tupleKind (mixKind P w)).is h ks a := by
  obtain ⟨_, its, r, o, h1, h2, n, h3⟩ := (show ObjOk P w H h a (.tup (ks.map kV)) from ok a _ e)
  exact ⟨o, its.toArray, n, h1, h2, h3, by simpa using items_are r⟩
theorem dt_rd {kvs : List (List Key × V)} (ok : HOk P w H h) (e : Rd H a (.dT kvs)) : kvs.length ≤ sizeLine ∧ (a == sysModules) = false ∧
    ∃ xs, KT H kvs xs ∧ h.DictOfH (tupleKind (mixKind P w)) a xs := by
  obtain ⟨z, y, xs, r, o, es, ep, h1, h2, h3, h4, h5⟩ := (show ObjOk P w H h a (.dT kvs) from rd_of ok e)
  refine ⟨z, y, xs, r, o, es, ep, h1, h2, h3, h4, fun x hx => ?_, h5⟩
  have all : ∀ {l : List (List Key × V)} {m : List (List Key × Addr × Value)}, KT H l m → ∀ x ∈ m, (tupleKind (mixKind P w)).is h x.1 x.2.1 := by
    intro l m q
    induction q with
    | nil => intro x hx; exact nomatch hx
    | @cons p q ps qs hq t ih =>
      intro x hx
      rcases List.mem_cons.mp hx with e | hx
      · subst e
        exact key_of ok (by rw [← hq.1]; exact hq.2.1)
      · exact ih x hx
  exact all r x hx
theorem dt_of {kvs : List (List Key × V)} (ok : HOk P w H h) (e : H a = some (.dT kvs)) : kvs.length ≤ sizeLine ∧ (a == sysModules) = false ∧
    ∃ xs, KT H kvs xs ∧ h.DictOfH (tupleKind (mixKind P w)) a xs := dt_rd ok (.inl e)
end

/-- what the dict at a holds at the key y -/
def DGet (H : Hp) (a : Addr) (y : V) (r : Option V) : Prop :=
  (∃ kvs k, Rd H a (.dK kvs) ∧ y = kV k ∧ r = valV kvs k) ∨ ∃ kvs k b, Rd H a (.dT kvs) ∧ y = .ref b ∧ H b = some (.tup (k.map kV)) ∧ r = valV kvs k
/-- the heap behind a[y] = v -/
def DPut (H : Hp) (a : Addr) (y v : V) (H' : Hp) : Prop :=
  (∃ kvs k, H a = some (.dK kvs) ∧ y = kV k ∧ kvs.length < sizeLine ∧ H' = upd H a (.dK (putK kvs k v))) ∨
  ∃ kvs k b, H a = some (.dT kvs) ∧ y = .ref b ∧ H b = some (.tup (k.map kV)) ∧ kvs.length < sizeLine ∧ H' = upd H a (.dT (putK kvs k v))
theorem DGet.k {H : Hp} {a : Addr} {kvs : List (Key × V)} {k : Key} (e : H a = some (.dK kvs)) : DGet H a (kV k) (valV kvs k) := .inl ⟨kvs, k, .inl e, rfl, rfl⟩
theorem DGet.t {H : Hp} {a b : Addr} {kvs : List (List Key × V)} {k : List Key} (e : H a = some (.dT kvs)) (eb : H b = some (.tup (k.map kV))) : DGet H a (.ref b) (valV kvs k) := .inr ⟨kvs, k, b, .inl e, rfl, eb, rfl⟩
theorem DPut.k {H : Hp} {a : Addr} {kvs : List (Key × V)} {k : Key} {v : V} (e : H a = some (.dK kvs)) (hl : kvs.length < sizeLine) : DPut H a (kV k) v (upd H a (.dK (putK kvs k v))) := .inl ⟨kvs, k, e, rfl, hl, rfl⟩
theorem DPut.t {H : Hp} {a b : Addr} {kvs : List (List Key × V)} {k : List Key} {v : V} (e : H a = some (.dT kvs)) (eb : H b = some (.tup (k.map kV))) (hl : kvs.length < sizeLine) :
    DPut H a (.ref b) v (upd H a (.dT (putK kvs k v))) := .inr ⟨kvs, k, b, e, rfl, eb, hl, rfl⟩


section
variable {X : Cx} {pins : List (Addr × Obj)} {σ : St} {H : Hp} {s : Shared} {a : Addr} {y v : V} {u r : Value} {o : Option V} {A : Around} {E : Value → Shared → Prop}

theorem Inv.big (I : Inv X pins σ H s) : sysModules < s.heap.objs.size := by
  have h : mainGlobals < s.heap.objs.size := (I.mod.glob.keeps I.bk).lt
  exact Nat.lt_trans (by decide) h

/-- a dict's object is replaced -/
theorem d_write {h' : Heap} {t' : Nat} {ob : HO} (I : Inv X pins σ H s) (mu : Mut (H a)) (hs : Heap.SameBut a s.heap h') (he : ∃ q, h'.get? a = some q) (new : ObjOk X.prog X.w (upd H a ob) h' a ob) :
    Inv X pins σ (upd H a ob) { s with heap := h', toks := t' } :=
  I.write (x := a) (e := a) mu (.inl rfl) (fun b q hb z => (hs.2 b hb).trans z) he new
theorem dk_new {P : Program} {w : World} {H' : Hp} {h' : Heap} {kvs : List (Key × V)} {vs : List (Key × Value)} (z : kvs.length ≤ sizeLine) (hd : (a == sysModules) = false) (rel : KV kvs vs) (dd : h'.DictOf (mixKind P w) a vs) :
    ObjOk P w H' h' a (.dK kvs) := ⟨z, hd, vs, rel, dd⟩
/-- d[y] = v -/
theorem d_setItem {H' : Hp} {Q : Unit → Shared → Prop} (hu : A.units + 1 < cLine) (I : Inv X pins σ H s) (g : DPut H a y v H') (ry : RelV y u) (rv : RelV v r) (h : ∀ s', Inv X pins σ H' s' → Q () s') :
    wpAny (model X.prog X.w) A (setItem (.ref a) u r) Q E s := by
  rcases g with ⟨kvs, k, e, ey, l, eH⟩ | ⟨kvs, k, b, e, ey, eb, l, eH⟩
  · subst ey eH
    obtain ⟨z, hd, vs, rel, dd⟩ := dk_of I.hok e
    have hz : vs.length ≤ sizeLine := by rw [← rel.length]; exact z
    have hl : (putK kvs k v).length ≤ sizeLine := by have := length_putK kvs k v; omega
    refine wpAny_setItem_pairs (hsz := hz) (kV_is ry) dd fun h' dd' hs => h _ ?_
    have he : ∃ q, h'.get? a = some q := let ⟨q, _, _, hq, _⟩ := dd'; ⟨q, hq⟩
    exact d_write I (by rw [e]; exact True.intro) hs he (dk_new hl hd (rel.put k rv) dd')
  · subst ey eH
    cases (show u = Value.ref b from ry)
    obtain ⟨z, hd, xs, rel, dd⟩ := dt_of I.hok e
    have hz : xs.length ≤ sizeLine := by rw [← Paired.length rel]; exact z
    have hl : (putK kvs k v).length ≤ sizeLine := by have := length_putK kvs k v; omega
    refine wpAny_setItem_heap (hsz := hz) (tupleKind_room_in1 hu) (key_of I.hok eb) dd fun h' dd' hs => h _ ?_
    obtain ⟨q, es, ep, hq, h2, h3, h4, _, h5⟩ := dd'
    refine d_write I (by rw [e]; exact True.intro) hs ⟨q, hq⟩ ⟨hl, hd, _, (rel.put k eb rv).keeps fun c ys ec => ?_, q, es, ep, hq, h2, h3, h4, h5⟩
    rw [upd_ne (ne_of ec e (fun z => nomatch z))]
    exact ec
end

section
variable {X : Cx} {pins : List (Addr × Obj)} {σ : St} {H : Hp} {s : Shared} {a : Addr} {kvs : List (Key × V)} {k : Key} {u : Value} {A : Around} {E : Value → Shared → Prop}
end


section
variable {X : Cx} {o i e value : Expr} {pos pos' tpos : Pos} {td ty tv : TE}
end


theorem dk_empty {P : Program} {w : World} {H : Hp} (h : Heap) (hb : sysModules < h.objs.size) : ObjOk P w H (h.push { cls := .type "dict", data := .dict #[] }) h.objs.size (.dK []) :=
  ⟨Nat.zero_le _, beq_eq_false_iff_ne.mpr (Ne.symm (Nat.ne_of_lt hb)), [], .nil, Heap.DictOf.new h⟩
/-- {}, to be a dict of the kind that is wanted -/
def tDNewK : TE := fun _ H Q => ∀ p, H p = none → Q (.ref p) (upd H p (.dK []))
section
variable {X : Cx} {pos : Pos}
theorem pe_dnewK : PE X (.Dict [] [] pos) tDNewK := fun pins s σ H Q I h =>
  wpAny_Dict_empty ⟨.ref s.heap.objs.size, _, I.laid (a := s.heap.objs.size) (o := .dK []) (t' := s.toks) (fun _ _ q => Heap.get?_push_of_some _ q) (Nat.le_refl _) (dk_empty s.heap I.big), rfl, h _ (I.hok.fresh (Nat.le_refl _))⟩
end

section
variable {X : Cx} {pins : List (Addr × Obj)} {σ : St} {H : Hp} {s : Shared} {a : Addr} {y d : V} {u r : Value} {o : Option V} {A : Around} {E : Value → Shared → Prop}
/-- d.get(y, x) -/
theorem d_get2 {Q : Value → Shared → Prop} (hu : A.units + 1 < cLine) (I : Inv X pins σ H s) (g : DGet H a y o) (ry : RelV y u) (rd : RelV d r) (h : ∀ w' s', Inv X pins σ H s' → RelV (o.getD d) w' → Q w' s') :
    wpAny (model X.prog X.w) A (call (.builtin "dict.get") [.ref a, u, r]) Q E s := by
  rcases g with ⟨kvs, k, e, ey, l⟩ | ⟨kvs, k, b, e, ey, eb, l⟩
  · subst ey
    obtain ⟨z, hd, vs, rel, dd⟩ := dk_rd I.hok e
    refine call_meetsIn PySem.F.slot_dict_get dd.typeIs PySem.F.entry_dict_get (PySem.F.args_dict_get_3 _ _ _) (meets_dict_get_default (mixKind X.prog X.w) a (kV_is ry) hd r) ⟨_, dd.mapOf, h _ _ (I.tok _) ?_⟩
    rw [l]
    exact (rel.val k).getD rd
  · subst ey
    cases (show u = Value.ref b from ry)
    obtain ⟨z, hd, xs, rel, dd⟩ := dt_rd I.hok e
    refine call_meetsIn PySem.F.slot_dict_get dd.typeIs PySem.F.entry_dict_get (PySem.F.args_dict_get_3 _ _ _) (meetsH_dict_get_default (tupleKind (mixKind X.prog X.w)) a b hd r) ⟨tupleKind_room_in1 hu, k, xs, key_of I.hok eb, dd, h _ _ (I.tok _) ?_⟩
    rw [l]
    exact (rel.val k).getD rd
end

section
variable {X : Cx} {o e f : Expr} {apos cpos : Pos} {td ty tx : TE}
end

section
variable {X : Cx} {pins : List (Addr × Obj)} {σ : St} {H : Hp} {s : Shared} {a : Addr} {kvs : List (Key × V)} {A : Around} {E : Value → Shared → Prop}
end


section
variable {X : Cx} {pins : List (Addr × Obj)} {σ : St} {H : Hp} {s : Shared} {a : Addr} {y : V} {u : Value} {A : Around} {E : Value → Shared → Prop}
end
end L2


namespace Att
open PySem PySem.W PySem.Calls PyProof.Rows

theorem ints_of_wellAll {P : Params} {h : Heap} : ∀ (ns : List Int) (vs : List Value), WellAll P h vs (ns.map WData.int) → IntsAre vs ns := by
  intro ns
  induction ns with
  | nil =>
    intro vs w
    rw [List.map_nil] at w
    cases w
    exact .nil
  | cons n ns ih =>
    intro vs w
    rw [List.map_cons] at w
    cases w with
    | cons a b =>
      cases a
      exact .cons _ _ (ih _ b)

theorem script_of {l : OpenLaw} {n : Nat} (hn : l.most = some n) {P : Params} {h : Heap} {args : List WData} {vals : List Value}
    (hpre : l.row.toRowW.claim.pre args = true) (hwl : WellAll P h vals args) :
    ∃ a vs ns, vals = [Value.ref a] ∧ args = [WData.list (ns.map WData.int)] ∧ h.get? a = some { cls := .type "list", data := .seq vs.toArray } ∧ IntsAre vs ns ∧ ns.length ≤ n := by
  have hsh : WShape.hasAll [] args [.list .int] = true := (pre_splitW hpre).1
  have hc : l.pre.holds [] { args := args } = true := (pre_splitW hpre).2
  obtain ⟨d, r, rfl, h1, h2⟩ := hasAllW_cons hsh
  obtain rfl := hasAllW_nil h2
  obtain ⟨xs, rfl, h3⟩ := hasW_list h1
  obtain ⟨ns, rfl⟩ := items_int h3
  have hlen : ns.length ≤ n := by
    unfold OpenLaw.pre at hc
    have h4 : (WTm.not (.lt (.lit (.int (n : Int))) (.len (.arg 0)))).holds [] { args := [.list (ns.map .int)] } = true := by
      have h4 := (holds_andW hc).1
      rw [hn] at h4
      exact h4
    have h5 := condW_of h4 (w_not (w_lt w_lit (w_len_list (w_arg rfl))))
    rw [List.length_map] at h5
    refine Nat.le_of_not_lt fun q => ?_
    have q' : (n : Int) < ((ns.length : Nat) : Int) := by omega
    first
      | (rw [decide_eq_true q'] at h5; exact absurd h5 (by decide))
      | (simp at h5; omega)
  cases hwl with
  | cons w1 w2 =>
    cases w2
    cases w1 with
    | list ho hall => exact ⟨_, _, ns, rfl, rfl, ho, ints_of_wellAll ns _ hall, hlen⟩

theorem post_true (l : OpenLaw) (args : List WData) : l.row.toRowW.claim.post args (.bool true) args = true :=
  postW_of (r := l.row.toRowW) (X := (true == true))
    (show WShape.has [] (.bool true) .bool = true by first | rfl | decide | simp [WShape.has, WShape.arms, WShape.armsAll])
    (show (WTm.eq .res (.lit (.bool true))).value [] { args := args, res := some (.bool true), after := args } = some (.bool (true == true)) from w_eq_bool (w_res rfl) w_lit) rfl

/-- the same from a codeAny of the CALL (for a layer whose function contracts speak of calls) -/
theorem attach_call {l : OpenLaw} {n : Nat} {q : Program} {loose : List Str} {XP : (Str → Option Value) → Heap → Prop} {YP : World → Heap → Prop} {d : DefRec}
    (hn : l.most = some n) (hdf : d.params.defaults = [])
    (call : ∀ (w : World) (s₀ s₁ : Shared) (mg mb : Str → Option Value) (fa : Addr) (o : Obj) (pm cd doc : Value) (a : Addr) (vs : List Value) (ns : List Int),
      Ground q loose [] XP w s₀ mg mb s₁.heap → YP w s₁.heap →
      s₁.heap.get? fa = some o → o.data = .func (docDef d.name d.params d.body d.scope pm cd doc) → s₁.heap.CodeRec cd d.name → mg d.name = some (.ref fa) →
      s₁.heap.get? a = some { cls := .type "list", data := .seq vs.toArray } → IntsAre vs ns → ns.length ≤ n → s₁.gens = #[] →
      codeAny (model l.prog w) callerA (.call (.ref fa) ⟨[.ref a], []⟩) (fun r s' => r = .ok (.ret (.bool true)) ∧ OldK s₁.heap s'.heap ∧ s'.os = s₁.os ∧ AllBare s'.gens) s₁) :
    WalkO q loose XP YP l.row.toRowW d [] (fun f vs => PySem.call f vs) := by
  intro w s₀ s₁ mg mb G Y fa o pm cd doc dV kV ho hd hcd hD hmg hg args vals as hpre hlay hrd hwl hlo
  obtain rfl : dV = .none := Dflts.none hD hdf
  obtain rfl : kV = .none := Dflts.noKw hD
  obtain ⟨a, vs, ns, rfl, rfl, hobj, hints, hlen⟩ := script_of hn hpre hwl
  refine enter_call (codeAny_mono (call w s₀ s₁ mg mb fa o pm cd doc a vs ns G Y ho (fd_plain hd) hcd hmg hobj hints hlen hg) fun r s' hq => ?_)
  obtain ⟨rfl, h2, h3, h4⟩ := hq
  exact ⟨.inl ⟨.bool true, .bool true, [], rfl, fun _ => rfl, .bool true, post_true l _, fun _ => ⟨List.Pairwise.nil, fun _ hm => (nomatch hm)⟩⟩, h2, h3, h4⟩

section
variable {prog : Program} {w : World} {A : Around} {E : Value → Shared → Prop} {s : Shared} {K : Frag}

def ledger (h : Heap) (L d : Addr) : List (Addr × Obj) := (List.range h.objs.size).filterMap fun a => if a = L ∨ a = d then none else (h.get? a).map fun o => (a, o)
end
end Att

namespace L2
open PySem PySem.Spec PyProof.Rows

theorem vals_ints : ∀ {vs : List Value} {ns : List Int}, IntsAre vs ns → Vals (ns.map V.int) vs
  | _, _, .nil => .nil
  | _, _, .cons n t h => .cons ⟨t, rfl⟩ (vals_ints h)

/-- nothing is tracked but the script, known to the object (or it is an object of the module) -/
def SqX (K : PySem.W.Frag) (H : Hp) (a : Addr) (xs : List V) : Prop :=
  Rd H a (.lst xs) ∨ ∃ (its : List Value) (n : Nat), K.lookup a = some { cls := .type "list", data := .seq its.toArray n } ∧ xs.length ≤ sizeLine ∧ Vals xs its
theorem SqX.l {K : PySem.W.Frag} {H : Hp} {a : Addr} {xs : List V} (h : SqX K H a xs) : SqL K H a xs := by
  rcases h with h | ⟨its, n, e, l, v⟩
  · exact .inl h
  · exact .inr ⟨_, its.toArray, n, e, rfl, rfl, rfl, by rw [List.size_toArray, ← v.length]; exact l, by simpa using v⟩
def Only (H : Hp) : Prop := ∀ b, H b = none ∨ ∃ o xs, H b = some (.frz o (.lst xs))

/-- THE HEAD: the law's promise, at the heap behind the top. F, the promise of the law's def, may use that base is part of the heap (so K.In base, base.Ns mainGlobals mg stand in Mod) -/
theorem law_call {P : Program} {w : World} {K : PySem.W.Frag} {mg mb : Str → Option Value} {CX : CXT} {k : Nat} {fa a : Addr} {fd : FuncData} {x : Str} {sp : Sp} {s₁ : Shared} {vs : List Value} {ns : List Int}
    (KX : K.In s₁.heap) (hns : s₁.heap.Ns mainGlobals mg) (hb : s₁.heap.Ns builtinsNs mb) (hbb : ∀ x : Str, x ≠ "__name__" → mb x = bootBuiltins x) (hlim : s₁.heap.NoLimit) (hg : s₁.gens = #[])
    (ha : s₁.heap.get? a = some { cls := .type "list", data := .seq vs.toArray }) (hi : IntsAre vs ns) (hl : ns.length ≤ sizeLine) (hr : Room k callerA)
    (F : ∀ base : Heap, K.In base → base.Ns mainGlobals mg → FnOk P w K mg base CX k fa fd [x] sp) (hbind : ∀ (s : Shared) (u : Value), BindsTo s fd ⟨[u], []⟩ [(x, u)])
    (hsp : ∀ H : Hp, Only H → SqX K H a (ns.map V.int) → sp [.ref a] H (fun v _ => v = .bl true) fun _ _ _ => False)
    (hCX : ∀ H e s', CX [] H s₁ (fun _ _ _ => False) e s' → False) :
    codeAny (model P w) callerA (.call (.ref fa) ⟨[.ref a], []⟩) (fun r s' => r = .ok (.ret (.bool true)) ∧ OldK s₁.heap s'.heap ∧ s'.os = s₁.os ∧ AllBare s'.gens) s₁ := by
  have rv := vals_ints hi
  have lenV := hi.length
  -- from an abstract heap in which nothing but the script may be tracked
  have core : ∀ H : Hp, Only H → SqX K H a (ns.map V.int) → HOk P w H s₁.heap → (∀ b, H b ≠ none → b = a) → (H a ≠ none → K.lookup a = none) →
      codeAny (model P w) callerA (.call (.ref fa) ⟨[.ref a], []⟩) (fun r s' => r = .ok (.ret (.bool true)) ∧ OldK s₁.heap s'.heap ∧ s'.os = s₁.os ∧ AllBare s'.gens) s₁ := by
    intro H hO hS hok hA hK
    have base_of : ∀ {b : Addr} {o : Obj}, s₁.heap.get? b = some o → H b = none → (hidT s₁.heap H).get? b = some o := fun e n => hidT_get e n
    have noA : ∀ {b : Addr} {o : Obj} {es : Array DictEntry} {ep : Nat}, s₁.heap.get? b = some o → o.data = .dict es ep → H b = none := fun {b o es ep} e d => by
      cases q : H b with
      | none => rfl
      | some u =>
        have e' : b = a := hA b (by rw [q]; simp)
        subst e'
        rw [ha] at e; cases e
        have d' : Data.seq vs.toArray _ = Data.dict es ep := d
        cases d'
    have nsK : ∀ {b : Addr} {m : Str → Option Value}, s₁.heap.Ns b m → (hidT s₁.heap H).Ns b m := fun {b m} ⟨o, es, ep, e, d, r⟩ => ⟨o, es, ep, base_of e (noA e d), d, r⟩
    have hKb : K.In (hidT s₁.heap H) := fun b o e => base_of (KX b o e) (by
      cases q : H b with
      | none => rfl
      | some u =>
        have e' : b = a := hA b (by rw [q]; simp)
        subst e'
        rw [hK (by rw [q]; simp)] at e; cases e)
    have hM : Mod K mg (hidT s₁.heap H) := ⟨hKb, nsK hns, ⟨mb, nsK hb, hbb⟩, let ⟨mc, h1, h2⟩ := hlim; ⟨mc, nsK h1, h2⟩⟩
    have e0 : Env0 P w K mg (hidT s₁.heap H) callerA [] s₁ H := ⟨rfl, hM, fun b o e => of_hidT e, Nat.le_of_eq (hidT_size _ _), trivial, fun b hb => absurd (show b ∈ ([] : List Addr) from hb) (by simp), hok, .of_eq hg⟩
    refine codeAny_mono ((F _ hKb (nsK hns)).run callerA [] s₁ H ⟨[.ref a], []⟩ [.ref a] [.ref a] _ _ hr e0 (hbind s₁ (.ref a)) (.cons rfl .nil) (hsp H hO hS)) fun r s' h => ?_
    cases r with
    | error e => exact (hCX H e s' h).elim
    | ok fl =>
      cases fl with
      | next => exact False.elim h
      | brk => exact False.elim h
      | cont => exact False.elim h
      | ret u =>
        obtain ⟨v, H', os, bare, un, hok', r', q⟩ := h
        have q' : v = .bl true := q
        subst q'
        obtain rfl : u = Value.bool true := r'
        refine ⟨rfl, OldK.of_keep fun b o e => ?_, os, bare⟩
        cases q : H b with
        | none => exact un.keep b o e q (by intro z; exact absurd (show b ∈ ([] : List Addr) from z) (by simp)) (by simp)
        | some u =>
          rcases hO b with z | ⟨ob, xs, z⟩
          · rw [q] at z; cases z
          · have z2 := un.frzs b ob _ z
            obtain ⟨e1, _⟩ := hok b _ z
            obtain ⟨e2, _⟩ := hok' b _ z2
            rw [e] at e1; cases e1
            exact e2
  cases hk : K.lookup a with
  | some o =>
    -- the script is one of the module's own objects
    have e := KX a o hk
    rw [ha] at e
    cases e
    refine core (fun _ => none) (fun _ => .inl rfl) (.inr ⟨vs, _, hk, by rw [List.length_map]; exact hl, rv⟩) (fun b u z => by have z' : (none : Option HO) = some u := z; cases z') (fun b z => absurd rfl z) fun z => absurd rfl z
  | none =>
    refine core (fun b => if b = a then some (.frz { cls := .type "list", data := .seq vs.toArray } (.lst (ns.map V.int))) else none) (fun b => ?_) (.inl (.inr ⟨{ cls := .type "list", data := .seq vs.toArray }, if_pos rfl⟩)) (fun b u z => ?_) (fun b z => ?_) fun _ => hk
    · by_cases hb : b = a
      · exact .inr ⟨_, _, if_pos hb⟩
      · exact .inl (if_neg hb)
    · by_cases hb : b = a
      · have z' := (if_pos hb).symm.trans z
        cases z'
        subst hb
        exact ⟨ha, by rw [List.length_map]; exact hl, vs, _, rv, ha⟩
      · have z' := (if_neg hb).symm.trans z
        cases z'
    · by_cases hb : b = a
      · exact hb
      · exact absurd (if_neg hb) z
end L2

namespace L2
open PySem PySem.Spec PyProof.Rows

/-- the goal that k_head leaves (case hc), from the law's promise. F gives the function object fd (K's own) once, then the promise over every base -/
theorem walk_of {l : PySem.W.OpenLaw} {n k : Nat} {q : Program} {loose : List Str} {XP : (Str → Option Value) → Heap → Prop} {YP : World → Heap → Prop} {d : DefRec} {K : Params → PySem.W.Frag} {CX : World → CXT} {sp : World → Sp} {x : Str}
    (hn : l.most = some n) (hn2 : n ≤ sizeLine) (hdf : d.params.defaults = []) (hr : Room k callerA)
    (hY : ∀ (w : World) (h : Heap), YP w h → (K w.params).In h)
    (F : ∀ (w : World) (mg : Str → Option Value) (fa : Addr) (h : Heap), (K w.params).In h → h.Ns mainGlobals mg → mg d.name = some (.ref fa) →
      ∃ fd : FuncData, (∀ (s : Shared) (u : Value), BindsTo s fd ⟨[u], []⟩ [(x, u)]) ∧
        ∀ base : Heap, (K w.params).In base → base.Ns mainGlobals mg → FnOk l.prog w (K w.params) mg base (CX w) k fa fd [x] (sp w))
    (hsp : ∀ (w : World) (H : Hp) (a : Addr) (ns : List Int), ns.length ≤ n → Only H → SqX (K w.params) H a (ns.map V.int) → sp w [.ref a] H (fun v _ => v = .bl true) fun _ _ _ => False)
    (hCX : ∀ (w : World) (H : Hp) (s : Shared) (e : Value) (s' : Shared), CX w [] H s (fun _ _ _ => False) e s' → False) :
    PySem.W.WalkO q loose XP YP l.row.toRowW d [] (fun f vs => PySem.call f vs) := by
  refine Att.attach_call hn hdf fun w s₀ s₁ mg mb fa o pm cd doc a vs ns G Y ho hd hcd hmg hobj hints hlen hg => ?_
  have KX := hY w _ Y
  obtain ⟨fd, hb, hF⟩ := F w mg fa _ KX G.T.g hmg
  exact law_call KX G.T.g G.T.b G.T.builtins G.T.nolimit hg hobj hints (Nat.le_trans hlen hn2) hr hF hb (fun H hO hS => hsp w H a ns hlen hO hS) fun H e s' => hCX w H s₁ e s'
end L2

namespace L2
open PySem PySem.Spec PyProof.Rows

def defArgs (s : Stmt) : Arguments := match s with
  | .FunctionDef _ a _ _ _ _ _ _ _ _ => a
  | _ => { posonlyargs := [], args := [], vararg := none, kwonlyargs := [], kw_defaults := [], kwarg := none, defaults := [] }
def defBody (s : Stmt) : List Stmt := match s with
  | .FunctionDef _ _ b _ _ _ _ _ _ _ => b
  | _ => []
def defScope (s : Stmt) : Scope := match s with
  | .FunctionDef _ _ _ _ _ _ sc _ _ _ => sc
  | _ => { kind := .function, names := [], isGenerator := false, isCoroutine := false }

abbrev CX0 : CXT := fun _ _ _ _ _ _ => False
structure Fun (K : PySem.W.Frag) (x qual : Str) (st : Stmt) (f : Addr) (fd : FuncData) : Prop where
  ex : ∃ (oc : Value) (od : Option Addr) (kV doc pm : Value) (an : Option Addr) (cdv ct : Value) (osl : Array (Option Value)),
    fd = PySem.W.fnOf x qual (defArgs st) (defBody st) (defScope st) .none kV doc pm an cdv ct ∧ K.lookup f = some ⟨oc, od, .func fd, osl⟩ ∧ PySem.W.codeIn K cdv qual = true
  kp : PySem.W.keepIn K (.ref f) = true
section
variable {P : Program} {w : World} {K : PySem.W.Frag} {mg : Str → Option Value} {base : Heap}
/-- THE RULE for a def: its body as a term of rules, and the reading of that term -/
theorem Fun.ok {x qual : Str} {st : Stmt} {f : Addr} {fd : FuncData} {N ps : List Str} {k : Nat} {sp : Sp} (F : Fun K x qual st f fd) (S : FnScope N ps (defScope st)) (len : ∀ vs H Q E, sp vs H Q E → vs.length = ps.length)
    (hbody : ∀ (cdv : Value) (A : Around) (outer : List Env) (s : Shared) (H : Hp) (vs : List V) (Q : VK) (E : XK), Room k (A.deeper (envOfC qual (defScope st) s.heap.objs.size f cdv)) → sp vs H Q E →
      ∃ t, PSs (cxOf CX0 P w K mg base N qual (defScope st) f cdv A outer s H E).nox (defBody st) t ∧ t { nx := fun _ H' => Q .non H', rt := Q } (start N vs) H) : FnOk P w K mg base CX0 (k + 1) f fd ps sp := by
  obtain ⟨oc, od, kV, doc, pm, an, cdv, ct, osl, rfl, lk, hcd⟩ := F.ex
  refine fn_of lk hcd S len fun A outer s H vs Q E hr hsp => ?_
  obtain ⟨t, h, q⟩ := hbody cdv A outer s H vs Q E hr hsp
  exact ⟨t, h.nox, q⟩
/-- how its arguments bind (no defaults): h is «fun _ _ _ _ _ _ us hl => match us, hl with | [_, _], _ => rfl», one _ a parameter -/
theorem Fun.binds {x qual : Str} {st : Stmt} {f : Addr} {fd : FuncData} {ps : List Str} (F : Fun K x qual st f fd)
    (h : ∀ (kV doc pm : Value) (an : Option Addr) (cdv ct : Value) (us : List Value), us.length = ps.length → bindArgs (PySem.W.fnOf x qual (defArgs st) (defBody st) (defScope st) .none kV doc pm an cdv ct) ⟨us, []⟩ = pure (ps.zip us)) : Binds K fd ps [] := by
  obtain ⟨oc, od, kV, doc, pm, an, cdv, ct, osl, rfl, lk, hcd⟩ := F.ex
  exact .all (h kV doc pm an cdv ct)
theorem fun_mk {x qual : Str} {st : Stmt} {f : Addr} {oc : Value} {od an : Option Addr} {osl : Array (Option Value)} {kV doc pm cdv ct : Value} (l : K.lookup f = some ⟨oc, od, .func (PySem.W.fnOf x qual (defArgs st) (defBody st) (defScope st) .none kV doc pm an cdv ct), osl⟩)
    (c : PySem.W.codeIn K cdv qual = true) (k : PySem.W.keepIn K (.ref f) = true) : Fun K x qual st f (PySem.W.fnOf x qual (defArgs st) (defBody st) (defScope st) .none kV doc pm an cdv ct) := ⟨⟨oc, od, kV, doc, pm, an, cdv, ct, osl, rfl, l, c⟩, k⟩
end
section
variable {X : Cx}
theorem pv (i : Nat) {x : Str} {pos : Pos} (hN : X.N[i]? = some x := by rfl) (hv : Vis X.env.scope x := by first | exact Or.inl rfl | exact Or.inr (Or.inl rfl) | exact Or.inr (Or.inr rfl)) (hd : (x == ("__debug__" : Str)) = false := by decide)
    (hcd : (x == ("__classdict__" : Str)) = false := by decide) : PE X (.Name x pos) (tVar i) := pe_var hN hv hd hcd
end

/-- all that was tracked is as it was -/
def Same (H H' : Hp) : Prop := ∀ b o, H b = some o → H' b = some o
theorem Same.refl (H : Hp) : Same H H := fun _ _ h => h
theorem Same.trans {H H1 H2 : Hp} (a : Same H H1) (b : Same H1 H2) : Same H H2 := fun c o h => b c o (a c o h)
theorem Same.free {H H' : Hp} (e : Same H H') {l : Addr} (h : H' l = Option.none) : H l = Option.none := by
  cases q : H l with
  | none => rfl
  | some o =>
    rw [e l o q] at h
    cases h
theorem Same.seq {K : PySem.W.Frag} {H H' : Hp} {a : Addr} {xs : List V} (e : Same H H') (h : SqL K H a xs) : SqL K H' a xs := by
  rcases h with (h | ⟨o, h⟩) | h
  · exact .inl (.inl (e _ _ h))
  · exact .inl (.inr ⟨o, e _ _ h⟩)
  · exact .inr h

section
variable {κ : Type} [DecidableEq κ]
end
end L2
end

-- Dd
section
set_option Elab.async false
set_option linter.all false
set_option maxRecDepth 100000
namespace DL
open PySem PySem.Spec PyProof.Rows L2

inductive D where
  | non | bl (b : Bool) | int (i : Int) | str (x : Str) | ty (n : String) | obj (a : Addr) | tup (xs : List D) | lst (xs : List D) | dct0 | loc (i : Nat) | exn (c : Value)
/-- a caught exception, by its class -/
def exnO (a : Addr) (c : Value) : HO := .ext fun h => ∃ ob, h.get? a = some ob ∧ ob.cls = c
inductive MO where
  | dead | lst (xs : List D) | dct (kvs : List (Key × D)) | ins (C : Addr) (fs : List (Str × D))
abbrev Sto := List MO
inductive Res (β : Type) where
  | ok (d : β) (S : Sto) | ex (c : Value) (x : D) (S : Sto) | bad
@[inline] def Res.bind {β γ : Type} (r : Res β) (f : β → Sto → Res γ) : Res γ :=
  match r with
  | .ok d S => f d S
  | .ex c x S => .ex c x S
  | .bad => .bad
section
variable (K : PySem.W.Frag) (P : Hp) (α : List Addr)
mutual
def Rep : D → V → Prop
  | .non, v => v = .non
  | .bl b, v => v = .bl b
  | .int i, v => v = .int i
  | .str x, v => v = .str x
  | .ty n, v => v = .ty n
  | .obj a, v => v = .ref a ∧ PySem.W.keepIn K (.ref a) = true
  | .tup ds, v => ∃ a vs, v = .ref a ∧ SqT K P a vs ∧ Reps ds vs
  | .lst ds, v => ∃ a vs, v = .ref a ∧ SqX K P a vs ∧ Reps ds vs
  | .dct0, v => ∃ a, v = .ref a ∧ P a = some (.dK [])
  | .loc i, v => ∃ a, v = .ref a ∧ α[i]? = some a
  | .exn c, v => ∃ a, v = .ref a ∧ P a = some (exnO a c)
def Reps : List D → List V → Prop
  | [], vs => vs = []
  | d :: ds, vs => ∃ w ws, vs = w :: ws ∧ Rep d w ∧ Reps ds ws
end
end
section
variable {K : PySem.W.Frag} {P P' : Hp} {α α' : List Addr}
theorem sqT_mono (e : Same P P') {a : Addr} {xs : List V} (h : SqT K P a xs) : SqT K P' a xs := by
  rcases h with (h | ⟨o, h⟩) | h
  · exact .inl (.inl (e _ _ h))
  · exact .inl (.inr ⟨o, e _ _ h⟩)
  · exact .inr h
theorem rd_mono (e : Same P P') {a : Addr} {u : HO} (h : Rd P a u) : Rd P' a u := by
  rcases h with h | ⟨o, h⟩
  · exact .inl (e _ _ h)
  · exact .inr ⟨o, e _ _ h⟩
theorem sqX_mono (e : Same P P') {a : Addr} {xs : List V} (h : SqX K P a xs) : SqX K P' a xs := by
  rcases h with h | h
  · exact .inl (rd_mono e h)
  · exact .inr h
theorem pre_get {i : Nat} {a : Addr} (h : α <+: α') (e : α[i]? = some a) : α'[i]? = some a := by
  obtain ⟨r, rfl⟩ := h
  rw [List.getElem?_append_left (List.getElem?_eq_some_iff.mp e).1]
  exact e
mutual
theorem Rep.mono (e : Same P P') (h : α <+: α') : ∀ (d : D) (v : V), Rep K P α d v → Rep K P' α' d v
  | .non, _, r => by simpa only [Rep] using r
  | .bl _, _, r => by simpa only [Rep] using r
  | .int _, _, r => by simpa only [Rep] using r
  | .str _, _, r => by simpa only [Rep] using r
  | .ty _, _, r => by simpa only [Rep] using r
  | .obj _, _, r => by simpa only [Rep] using r
  | .tup ds, v, r => by
    simp only [Rep] at r ⊢
    obtain ⟨a, vs, rfl, q, t⟩ := r
    exact ⟨a, vs, rfl, sqT_mono e q, Reps.mono e h ds vs t⟩
  | .lst ds, v, r => by
    simp only [Rep] at r ⊢
    obtain ⟨a, vs, rfl, q, t⟩ := r
    exact ⟨a, vs, rfl, sqX_mono e q, Reps.mono e h ds vs t⟩
  | .dct0, v, r => by
    simp only [Rep] at r ⊢
    obtain ⟨a, rfl, q⟩ := r
    exact ⟨a, rfl, e _ _ q⟩
  | .loc i, v, r => by
    simp only [Rep] at r ⊢
    obtain ⟨a, rfl, q⟩ := r
    exact ⟨a, rfl, pre_get h q⟩
  | .exn c, v, r => by
    simp only [Rep] at r ⊢
    obtain ⟨a, rfl, q⟩ := r
    exact ⟨a, rfl, e _ _ q⟩
theorem Reps.mono (e : Same P P') (h : α <+: α') : ∀ (ds : List D) (vs : List V), Reps K P α ds vs → Reps K P' α' ds vs
  | [], vs, r => by simpa only [Reps] using r
  | d :: ds, vs, r => by
    simp only [Reps] at r ⊢
    obtain ⟨w, ws, rfl, r1, r2⟩ := r
    exact ⟨w, ws, rfl, Rep.mono e h d w r1, Reps.mono e h ds ws r2⟩
end
theorem Reps.nil : Reps K P α [] [] := by simp only [Reps]
theorem Reps.cons {d : D} {v : V} {ds : List D} {vs : List V} (r : Rep K P α d v) (t : Reps K P α ds vs) : Reps K P α (d :: ds) (v :: vs) := by
  simp only [Reps]; exact ⟨v, vs, rfl, r, t⟩
theorem Reps.nil_inv {vs : List V} (r : Reps K P α [] vs) : vs = [] := by simpa only [Reps] using r
theorem Reps.cons_inv {d : D} {ds : List D} {vs : List V} (r : Reps K P α (d :: ds) vs) : ∃ w ws, vs = w :: ws ∧ Rep K P α d w ∧ Reps K P α ds ws := by simpa only [Reps] using r
theorem Reps.length : ∀ {ds : List D} {vs : List V}, Reps K P α ds vs → ds.length = vs.length
  | [], vs, r => by rw [r.nil_inv]; rfl
  | d :: ds, vs, r => by
    obtain ⟨w, ws, rfl, _, t⟩ := r.cons_inv
    rw [List.length_cons, List.length_cons, t.length]
theorem Reps.append : ∀ {ds es : List D} {vs ws : List V}, Reps K P α ds vs → Reps K P α es ws → Reps K P α (ds ++ es) (vs ++ ws)
  | [], es, vs, ws, r, t => by rw [r.nil_inv]; exact t
  | d :: ds, es, vs, ws, r, t => by
    obtain ⟨w, us, rfl, r1, r2⟩ := r.cons_inv
    exact .cons r1 (r2.append t)
theorem Reps.get : ∀ {ds : List D} {vs : List V} {i : Nat} {d : D}, Reps K P α ds vs → ds[i]? = some d → ∃ v, vs[i]? = some v ∧ Rep K P α d v
  | [], _, _, _, _, e => by simp at e
  | d :: ds, vs, i, d', r, e => by
    obtain ⟨w, ws, rfl, r1, r2⟩ := r.cons_inv
    cases i with
    | zero => simp at e; subst e; exact ⟨w, rfl, r1⟩
    | succ i =>
      obtain ⟨v, h1, h2⟩ := r2.get (i := i) (d := d') (by simpa using e)
      exact ⟨v, by simpa using h1, h2⟩
theorem Reps.drop : ∀ {ds : List D} {vs : List V} (n : Nat), Reps K P α ds vs → Reps K P α (ds.drop n) (vs.drop n)
  | ds, vs, 0, r => by simpa using r
  | [], vs, n + 1, r => by rw [r.nil_inv]; exact .nil
  | d :: ds, vs, n + 1, r => by
    obtain ⟨w, ws, rfl, _, r2⟩ := r.cons_inv
    simpa using r2.drop n
theorem Reps.take : ∀ {ds : List D} {vs : List V} (n : Nat), Reps K P α ds vs → Reps K P α (ds.take n) (vs.take n)
  | ds, vs, 0, r => by simpa using Reps.nil
  | [], vs, n + 1, r => by rw [r.nil_inv]; exact .nil
  | d :: ds, vs, n + 1, r => by
    obtain ⟨w, ws, rfl, r1, r2⟩ := r.cons_inv
    simpa using Reps.cons r1 (r2.take n)
theorem Reps.set {d : D} {v : V} (q : Rep K P α d v) : ∀ {ds : List D} {vs : List V} (n : Nat), Reps K P α ds vs → Reps K P α (ds.set n d) (vs.set n v)
  | [], vs, n, r => by rw [r.nil_inv]; exact .nil
  | e :: ds, vs, 0, r => by
    obtain ⟨w, ws, rfl, r1, r2⟩ := r.cons_inv
    exact .cons q r2
  | e :: ds, vs, n + 1, r => by
    obtain ⟨w, ws, rfl, r1, r2⟩ := r.cons_inv
    exact .cons r1 (r2.set q n)
theorem Reps.reverse : ∀ {ds : List D} {vs : List V}, Reps K P α ds vs → Reps K P α ds.reverse vs.reverse
  | [], vs, r => by rw [r.nil_inv]; exact .nil
  | d :: ds, vs, r => by
    obtain ⟨w, ws, rfl, r1, r2⟩ := r.cons_inv
    rw [List.reverse_cons, List.reverse_cons]
    exact r2.reverse.append (.cons r1 .nil)
end

abbrev DEnv := List (Option D)
def REnv (K : PySem.W.Frag) (P : Hp) (α : List Addr) (σ : L2.St) (env : DEnv) : Prop := env.length = σ.length ∧ ∀ (i : Nat) (d : D), env[i]? = some (some d) → ∃ v, σ[i]? = some (some v) ∧ Rep K P α d v
def KVs (K : PySem.W.Frag) (P : Hp) (α : List Addr) {κ : Type} : List (κ × D) → List (κ × V) → Prop := Paired fun (p : κ × D) (q : κ × V) => p.1 = q.1 ∧ Rep K P α p.2 q.2
def MOk (K : PySem.W.Frag) (H P : Hp) (α : List Addr) (a : Addr) : MO → Prop
  | .dead => True
  | .lst ds => ∃ vs, H a = some (.lst vs) ∧ Reps K P α ds vs
  | .dct kvs => ∃ vs, H a = some (.dK vs) ∧ KVs K P α kvs vs
  | .ins C fs => ∃ dx vs, H a = some (.ins C dx vs) ∧ KVs K P α fs vs
structure Rel (K : PySem.W.Frag) (H P : Hp) (α : List Addr) (S : Sto) : Prop where
  sub : Same P H
  len : α.length = S.length
  nd : α.Nodup
  sep : ∀ (i : Nat) (a : Addr) (o : MO), α[i]? = some a → S[i]? = some o → o ≠ .dead → P a = none
  at' : ∀ (i : Nat) (a : Addr) (o : MO), α[i]? = some a → S[i]? = some o → MOk K H P α a o
  own : ∀ (i : Nat) (a : Addr), α[i]? = some a → H a ≠ none
section
variable {K : PySem.W.Frag} {H P P' : Hp} {α α' : List Addr} {S : Sto}
theorem REnv.mono {σ : L2.St} {env : DEnv} (e : Same P P') (h : α <+: α') (r : REnv K P α σ env) : REnv K P' α' σ env :=
  ⟨r.1, fun i d q => let ⟨v, h1, h2⟩ := r.2 i d q; ⟨v, h1, Rep.mono e h d v h2⟩⟩
theorem KVs.mono {κ : Type} (e : Same P P') (h : α <+: α') {kvs : List (κ × D)} {vs : List (κ × V)} (r : KVs K P α kvs vs) : KVs K P' α' kvs vs := by
  refine Paired.mapP r fun p q z => ⟨z.1, Rep.mono e h _ _ z.2⟩
theorem MOk.mono {a : Addr} (e : Same P P') (h : α <+: α') : ∀ {o : MO}, MOk K H P α a o → MOk K H P' α' a o
  | .dead, _ => trivial
  | .lst _, ⟨vs, q, r⟩ => ⟨vs, q, Reps.mono e h _ _ r⟩
  | .dct _, ⟨vs, q, r⟩ => ⟨vs, q, r.mono e h⟩
  | .ins _ _, ⟨dx, vs, q, r⟩ => ⟨dx, vs, q, r.mono e h⟩
/-- the abstract heap has grown -/
theorem Rel.grow {H' : Hp} (r : Rel K H P α S) (e : Same H H') : Rel K H' P α S where
  sub := r.sub.trans e
  len := r.len
  nd := r.nd
  sep := r.sep
  at' := fun i a o q1 q2 => by
    have m := r.at' i a o q1 q2
    cases o with
    | dead => trivial
    | lst ds => obtain ⟨vs, q, t⟩ := m; exact ⟨vs, e _ _ q, t⟩
    | dct kvs => obtain ⟨vs, q, t⟩ := m; exact ⟨vs, e _ _ q, t⟩
    | ins C fs => obtain ⟨dx, vs, q, t⟩ := m; exact ⟨dx, vs, e _ _ q, t⟩
  own := fun i a q => by
    have m := r.own i a q
    cases z : H a with
    | none => exact absurd z m
    | some o => rw [e _ _ z]; intro w; cases w
theorem same_upd {H : Hp} {a : Addr} {o : HO} (h : H a = none) : Same H (upd H a o) := fun b u e => by rw [upd_ne (ne_of_none e h)]; exact e
/-- a new thing that never changes -/
theorem Rel.pure {a : Addr} {o : HO} (r : Rel K H P α S) (h : H a = none) : Rel K (upd H a o) (upd P a o) α S ∧ Same P (upd P a o) := by
  have hP : P a = none := by
    cases z : P a with
    | none => rfl
    | some u => rw [r.sub _ _ z] at h; cases h
  have sP : Same P (upd P a o) := same_upd hP
  have r1 := r.grow (same_upd (o := o) h)
  refine ⟨⟨fun b u e => ?_, r.len, r.nd, fun i b u q1 q2 q3 => ?_, fun i b u q1 q2 => (r1.at' i b u q1 q2).mono sP (List.prefix_refl _), r1.own⟩, sP⟩
  · by_cases hb : b = a
    · subst hb; rw [upd_same] at e ⊢; exact e
    · rw [upd_ne hb] at e ⊢; exact r.sub _ _ e
  · have hb : b ≠ a := by rintro rfl; exact r.own i b q1 h
    rw [upd_ne hb]
    exact r.sep i b u q1 q2 q3
/-- a new mutable thing -/
theorem Rel.new {a : Addr} {o : HO} {m : MO} (r : Rel K H P α S) (h : H a = none) (hm : MOk K (upd H a o) P (α ++ [a]) a m) : Rel K (upd H a o) P (α ++ [a]) (S ++ [m]) := by
  have hP : P a = none := by
    cases z : P a with
    | none => rfl
    | some u => rw [r.sub _ _ z] at h; cases h
  have r1 := r.grow (same_upd (o := o) h)
  have hp : α <+: α ++ [a] := List.prefix_append _ _
  have split : ∀ (i : Nat) (b : Addr), (α ++ [a])[i]? = some b → (i < α.length ∧ α[i]? = some b) ∨ (i = α.length ∧ b = a) := fun i b q => by
    by_cases hi : i < α.length
    · rw [List.getElem?_append_left hi] at q; exact .inl ⟨hi, q⟩
    · rw [List.getElem?_append_right (by omega)] at q
      cases hk : i - α.length with
      | zero => rw [hk] at q; simp at q; exact .inr ⟨by omega, q.symm⟩
      | succ k => rw [hk] at q; simp at q
  refine ⟨r1.sub, by simp [r.len], ?_, fun i b u q1 q2 q3 => ?_, fun i b u q1 q2 => ?_, fun i b q => ?_⟩
  · rw [List.nodup_append]
    refine ⟨r.nd, by simp, fun b hb c hc e => ?_⟩
    simp at hc; subst hc; subst e
    obtain ⟨i, hi, e⟩ := List.mem_iff_getElem.mp hb
    exact r.own i b (by rw [List.getElem?_eq_getElem hi, e]) h
  · rcases split i b q1 with ⟨hi, z⟩ | ⟨hi, rfl⟩
    · rw [List.getElem?_append_left (by rw [← r.len]; exact hi)] at q2
      exact r.sep i b u z q2 q3
    · exact hP
  · rcases split i b q1 with ⟨hi, z⟩ | ⟨hi, rfl⟩
    · rw [List.getElem?_append_left (by rw [← r.len]; exact hi)] at q2
      exact (r1.at' i b u z q2).mono (Same.refl _) hp
    · rw [hi, r.len, List.getElem?_append_right (Nat.le_refl _)] at q2
      simp at q2; subst q2
      exact hm
  · rcases split i b q with ⟨_, z⟩ | ⟨_, rfl⟩
    · exact r1.own i b z
    · rw [upd_same]; intro z; cases z
theorem nodup_ixA {N : List Addr} (hN : N.Nodup) {i j : Nat} {x : Addr} (a : N[i]? = some x) (b : N[j]? = some x) : i = j := by
  obtain ⟨h1, e1⟩ := List.getElem?_eq_some_iff.mp a
  obtain ⟨h2, e2⟩ := List.getElem?_eq_some_iff.mp b
  exact (List.getElem_inj hN).mp (e1.trans e2.symm)
/-- a mutable thing is written -/
theorem Rel.put {a : Addr} {i : Nat} {o : HO} {m m' : MO} (r : Rel K H P α S) (ha : α[i]? = some a) (hs : S[i]? = some m) (hd : m ≠ .dead) (hm : MOk K (upd H a o) P α a m') : Rel K (upd H a o) P α (S.set i m') := by
  have hP := r.sep i a m ha hs hd
  have hi : i < S.length := (List.getElem?_eq_some_iff.mp hs).1
  refine ⟨fun b u e => ?_, by simp [r.len], r.nd, fun j b u q1 q2 q3 => ?_, fun j b u q1 q2 => ?_, fun j b q => ?_⟩
  · have hb : b ≠ a := by rintro rfl; rw [hP] at e; cases e
    rw [upd_ne hb]; exact r.sub _ _ e
  · by_cases hj : j = i
    · subst hj; rw [ha] at q1; cases q1; exact hP
    · rw [List.getElem?_set_ne (Ne.symm hj)] at q2; exact r.sep j b u q1 q2 q3
  · by_cases hj : j = i
    · subst hj; rw [ha] at q1; cases q1
      rw [List.getElem?_set_self hi] at q2; cases q2
      exact hm
    · rw [List.getElem?_set_ne (Ne.symm hj)] at q2
      have hb : b ≠ a := by rintro rfl; exact hj (nodup_ixA r.nd q1 ha)
      have z := r.at' j b u q1 q2
      cases u with
      | dead => trivial
      | lst ds => obtain ⟨vs, q, t⟩ := z; exact ⟨vs, by rw [upd_ne hb]; exact q, t⟩
      | dct kvs => obtain ⟨vs, q, t⟩ := z; exact ⟨vs, by rw [upd_ne hb]; exact q, t⟩
      | ins C fs => obtain ⟨dx, vs, q, t⟩ := z; exact ⟨dx, vs, by rw [upd_ne hb]; exact q, t⟩
  · by_cases hb : b = a
    · subst hb; rw [upd_same]; intro z; cases z
    · rw [upd_ne hb]; exact r.own j b q
end
end DL
end

-- Dj
section
set_option Elab.async false
set_option linter.all false
set_option maxRecDepth 100000
namespace DL
open PySem PySem.Spec PyProof.Rows L2

abbrev DE := DEnv → Sto → Res D
abbrev DT := DEnv → Sto → Res Bool
abbrev DA := DEnv → Sto → Res (List D)
inductive Out where
  | nx (env : DEnv) (S : Sto) | rt (d : D) (S : Sto) | bk (env : DEnv) (S : Sto) | ct (env : DEnv) (S : Sto) | ex (c : Value) (x : D) (env : DEnv) (S : Sto) | bad
abbrev DS := DEnv → Sto → Out

/-- what must stand still while an exception flies -/
def Old (X : Cx) (pins : List (Addr × Obj)) (H : Hp) (b : Addr) : Prop :=
  (∃ o, X.s₀.heap.get? b = some o) ∨ H b ≠ none ∨ (∃ p ∈ X.pn ++ pins, p.1 = b) ∨ ∃ x, X.env.cells.lookup x = some b
def Cv (X : Cx) (pins : List (Addr × Obj)) (H : Hp) (B h : Heap) : Prop := ∀ b o, h.get? b = some o → Old X pins H b → b ∉ frs X.stack → B.get? b = some o
/-- the exception at e, of the class c: just made in this frame, or come out of a call -/
inductive FlyX (X : Cx) (pins : List (Addr × Obj)) (H : Hp) (c : Value) (e : Addr) (h : Heap) : Prop where
  | new (g : Heap) (args : List Value) : Heap.MadeExcOf g h e c args → g.FunFrames X.base X.stack → (∀ b o, h.get? b = some o → Old X pins H b → g.get? b = some o) → FlyX X pins H c e h
  | fly (B : Heap) (a0 : Value) : Heap.FlyingW B X.stack e c a0 h → Cv X pins H B h → FlyX X pins H c e h
/-- an exception in flight within the frame: its class, the datum that tells it, the state behind it -/
def XOk (X : Cx) (P : Hp) (α : List Addr) (c : Value) (x : D) (S : Sto) (u : Value) (s : Shared) : Prop :=
  ∃ e pins σ H P' α', u = .ref e ∧ Inv X pins σ H s ∧ Rel X.K H P' α' S ∧ Same P P' ∧ α <+: α' ∧ (X.ex = [] ∧ X.stack = X.env :: X.outer ∧ X.env.frame = some X.env.locals) ∧ FlyX X pins H c e s.heap
theorem XOk.base {X : Cx} {P P1 : Hp} {α α1 : List Addr} {c : Value} {x : D} {S : Sto} {u : Value} {s : Shared} (e : Same P P1) (h : α <+: α1) (k : XOk X P1 α1 c x S u s) : XOk X P α c x S u s := by
  obtain ⟨a, pins, σ, H, P', α', e1, I, r, q1, q2, q3, q4⟩ := k
  exact ⟨a, pins, σ, H, P', α', e1, I, r, e.trans q1, h.trans q2, q3, q4⟩

section
variable (X : Cx)
def AfterG {β : Type} (P : Hp) (α : List Addr) (r : Res β) (Ok : β → Sto → Prop) : Prop :=
  match r with
  | .ok d S' => Ok d S'
  | .ex c x S' => ∀ u s', XOk X P α c x S' u s' → X.xe u s'
  | .bad => False
def OkV (P : Hp) (α : List Addr) (Q : VK) (d : D) (S' : Sto) : Prop := ∀ v H' P' α', Rel X.K H' P' α' S' → Same P P' → α <+: α' → Rep X.K P' α' d v → Q v H'
def OkT (P : Hp) (α : List Addr) (Q : Bool → Hp → Prop) (b : Bool) (S' : Sto) : Prop := ∀ H' P' α', Rel X.K H' P' α' S' → Same P P' → α <+: α' → Q b H'
def OkA (P : Hp) (α : List Addr) (Q : List V → Hp → Prop) (ds : List D) (S' : Sto) : Prop := ∀ vs H' P' α', Rel X.K H' P' α' S' → Same P P' → α <+: α' → Reps X.K P' α' ds vs → Q vs H'
abbrev After (P : Hp) (α : List Addr) (r : Res D) (Q : VK) : Prop := AfterG X P α r (OkV X P α Q)
abbrev AfterT (P : Hp) (α : List Addr) (r : Res Bool) (Q : Bool → Hp → Prop) : Prop := AfterG X P α r (OkT X P α Q)
abbrev AfterA (P : Hp) (α : List Addr) (r : Res (List D)) (Q : List V → Hp → Prop) : Prop := AfterG X P α r (OkA X P α Q)
def AfterS (P : Hp) (α : List Addr) (r : Out) (D : Ends) : Prop :=
  match r with
  | .nx env' S' => ∀ σ' H' P' α', Rel X.K H' P' α' S' → REnv X.K P' α' σ' env' → Same P P' → α <+: α' → D.nx σ' H'
  | .bk env' S' => ∀ σ' H' P' α', Rel X.K H' P' α' S' → REnv X.K P' α' σ' env' → Same P P' → α <+: α' → D.bk σ' H'
  | .ct env' S' => ∀ σ' H' P' α', Rel X.K H' P' α' S' → REnv X.K P' α' σ' env' → Same P P' → α <+: α' → D.ct σ' H'
  | .rt d S' => ∀ v H' P' α', Rel X.K H' P' α' S' → Same P P' → α <+: α' → Rep X.K P' α' d v → D.rt v H'
  | .ex c x _ S' => ∀ u s', XOk X P α c x S' u s' → X.xe u s'
  | .bad => False
def tD (f : DE) : TE := fun σ H Q => ∃ P α env S, Rel X.K H P α S ∧ REnv X.K P α σ env ∧ After X P α (f env S) Q
def tDT (f : DT) : TT := fun σ H Q => ∃ P α env S, Rel X.K H P α S ∧ REnv X.K P α σ env ∧ AfterT X P α (f env S) Q
def tDA (f : DA) : TA := fun σ H Q => ∃ P α env S, Rel X.K H P α S ∧ REnv X.K P α σ env ∧ AfterA X P α (f env S) Q
def tDS (f : DS) : TS := fun D σ H => ∃ P α env S, Rel X.K H P α S ∧ REnv X.K P α σ env ∧ AfterS X P α (f env S) D
end
section
variable {X : Cx} {P P1 : Hp} {α α1 : List Addr}
theorem After.base {r : Res D} {Q : VK} (e : Same P P1) (h : α <+: α1) (k : After X P α r Q) : After X P1 α1 r Q := by
  cases r with
  | ok d S => exact fun v H' P' α' r q1 q2 q3 => k v H' P' α' r (e.trans q1) (h.trans q2) q3
  | ex c x S => exact fun u s' q => k u s' (q.base e h)
  | bad => exact k
theorem AfterT.base {r : Res Bool} {Q : Bool → Hp → Prop} (e : Same P P1) (h : α <+: α1) (k : AfterT X P α r Q) : AfterT X P1 α1 r Q := by
  cases r with
  | ok d S => exact fun H' P' α' r q1 q2 => k H' P' α' r (e.trans q1) (h.trans q2)
  | ex c x S => exact fun u s' q => k u s' (q.base e h)
  | bad => exact k
theorem AfterA.base {r : Res (List D)} {Q : List V → Hp → Prop} (e : Same P P1) (h : α <+: α1) (k : AfterA X P α r Q) : AfterA X P1 α1 r Q := by
  cases r with
  | ok d S => exact fun v H' P' α' r q1 q2 q3 => k v H' P' α' r (e.trans q1) (h.trans q2) q3
  | ex c x S => exact fun u s' q => k u s' (q.base e h)
  | bad => exact k
theorem AfterS.base {r : Out} {D : Ends} (e : Same P P1) (h : α <+: α1) (k : AfterS X P α r D) : AfterS X P1 α1 r D := by
  cases r with
  | nx env S => exact fun v H' P' α' r q0 q1 q2 => k v H' P' α' r q0 (e.trans q1) (h.trans q2)
  | bk env S => exact fun v H' P' α' r q0 q1 q2 => k v H' P' α' r q0 (e.trans q1) (h.trans q2)
  | ct env S => exact fun v H' P' α' r q0 q1 q2 => k v H' P' α' r q0 (e.trans q1) (h.trans q2)
  | rt d S => exact fun v H' P' α' r q1 q2 q3 => k v H' P' α' r (e.trans q1) (h.trans q2) q3
  | ex c x env S => exact fun u s' q => k u s' (q.base e h)
  | bad => exact k
theorem xr {Q : VK} {v : V} {H : Hp} {d : D} {S : Sto} (k : OkV X P α Q d S) (r : Rel X.K H P α S) (q : Rep X.K P α d v) : Q v H := k v H P α r (Same.refl _) (List.prefix_refl _) q
end

section
variable {X : Cx} {a b e : Expr} {pos : Pos}
theorem peW {t t' : TE} (h : PE X e t) (w : ∀ σ H Q, t' σ H Q → t σ H Q) : PE X e t' := fun pins s σ H Q I q => h pins s σ H Q I (w σ H Q q)
theorem psW {st : Stmt} {t t' : TS} (h : PS X st t) (w : ∀ D σ H, t' D σ H → t D σ H) : PS X st t' := fun pins s σ H D I q => h pins s σ H D I (w D σ H q)
theorem pssW {st : List Stmt} {t t' : TS} (h : PSs X st t) (w : ∀ D σ H, t' D σ H → t D σ H) : PSs X st t' := fun pins s σ H D I q => h pins s σ H D I (w D σ H q)
theorem paW {es : List Expr} {t t' : TA} (h : PA X es t) (w : ∀ σ H Q, t' σ H Q → t σ H Q) : PA X es t' := fun pos pins s σ H Q I q => h pos pins s σ H Q I (w σ H Q q)

/-- one expression, then what comes of it -/
structure Got (X : Cx) (pins : List (Addr × Obj)) (σ : L2.St) (env : DEnv) (P : Hp) (α : List Addr) (u : Value) (s1 : Shared) (v : V) (H1 P1 : Hp) (α1 : List Addr) (d : D) (S1 : Sto) : Prop where
  inv : Inv X pins σ H1 s1
  val : RelV v u
  rel : Rel X.K H1 P1 α1 S1
  env : REnv X.K P1 α1 σ env
  rep : Rep X.K P1 α1 d v
  same : Same P P1
  pre : α <+: α1
theorem dThen {γ : Type} {f : DE} {g : D → Sto → Res γ} {Ok : γ → Sto → Prop} {pins : List (Addr × Obj)} {s : Shared} {σ : L2.St} {H P : Hp} {α : List Addr} {env : DEnv} {S : Sto} (he : PE X e (tD X f)) (I : Inv X pins σ H s) (r : Rel X.K H P α S)
    (re : REnv X.K P α σ env) (af : AfterG X P α ((f env S).bind g) Ok) :
    wpAny (model X.prog X.w) X.A (eval e X.env) (fun u s1 => ∃ v H1 P1 α1 d S1, Got X pins σ env P α u s1 v H1 P1 α1 d S1 ∧ AfterG X P α (g d S1) Ok) X.xe s := by
  refine thn (he pins s σ H (fun v H1 => ∃ P1 α1 d S1, Rel X.K H1 P1 α1 S1 ∧ REnv X.K P1 α1 σ env ∧ Rep X.K P1 α1 d v ∧ Same P P1 ∧ α <+: α1 ∧ AfterG X P α (g d S1) Ok) I ⟨P, α, env, S, r, re, ?_⟩) fun u s1 ⟨v, H1, I1, rv, P1, α1, d, S1, q1, q2, q3, q4, q5, q6⟩ => ⟨v, H1, P1, α1, d, S1, ⟨I1, rv, q1, q2, q3, q4, q5⟩, q6⟩
  cases q : f env S with
  | bad => rw [q] at af; exact af
  | ex c x S' => rw [q] at af; exact af
  | ok d S' =>
    rw [q] at af
    exact fun v H' P' α' r' e1 e2 rp => ⟨P', α', d, S', r', re.mono e1 e2, rp, e1, e2, af⟩
theorem dThenA {γ : Type} {es : List Expr} {f : DA} {g : List D → Sto → Res γ} {Ok : γ → Sto → Prop} {pins : List (Addr × Obj)} {s : Shared} {σ : L2.St} {H P : Hp} {α : List Addr} {env : DEnv} {S : Sto} (he : PA X es (tDA X f)) (I : Inv X pins σ H s) (r : Rel X.K H P α S)
    (re : REnv X.K P α σ env) (af : AfterG X P α ((f env S).bind g) Ok) (pos : Pos) :
    wpAny (model X.prog X.w) X.A (spliced (backTo pos (starEach es X.env))) (fun us s1 => ∃ vs H1 P1 α1 ds S1, Inv X pins σ H1 s1 ∧ Vals vs us ∧ Rel X.K H1 P1 α1 S1 ∧ REnv X.K P1 α1 σ env ∧ Reps X.K P1 α1 ds vs ∧ Same P P1 ∧ α <+: α1 ∧ AfterG X P α (g ds S1) Ok) X.xe s := by
  refine thn (he pos pins s σ H (fun vs H1 => ∃ P1 α1 ds S1, Rel X.K H1 P1 α1 S1 ∧ REnv X.K P1 α1 σ env ∧ Reps X.K P1 α1 ds vs ∧ Same P P1 ∧ α <+: α1 ∧ AfterG X P α (g ds S1) Ok) I ⟨P, α, env, S, r, re, ?_⟩) fun u s1 ⟨v, H1, I1, rv, P1, α1, d, S1, q1, q2, q3, q4, q5, q6⟩ => ⟨v, H1, P1, α1, d, S1, I1, rv, q1, q2, q3, q4, q5, q6⟩
  cases q : f env S with
  | bad => rw [q] at af; exact af
  | ex c x S' => rw [q] at af; exact af
  | ok d S' =>
    rw [q] at af
    exact fun v H' P' α' r' e1 e2 rp => ⟨P', α', d, S', r', re.mono e1 e2, rp, e1, e2, af⟩
theorem dThenT {γ : Type} {f : DT} {g : Bool → Sto → Res γ} {Ok : γ → Sto → Prop} {pins : List (Addr × Obj)} {s : Shared} {σ : L2.St} {H P : Hp} {α : List Addr} {env : DEnv} {S : Sto} {m : Sem Bool}
    (he : ∀ (Q : Bool → Hp → Prop), tDT X f σ H Q → wpAny (model X.prog X.w) X.A m (TP X pins σ Q) X.xe s) (r : Rel X.K H P α S) (re : REnv X.K P α σ env) (af : AfterG X P α ((f env S).bind g) Ok) :
    wpAny (model X.prog X.w) X.A m (fun b s1 => ∃ H1 P1 α1 S1, Inv X pins σ H1 s1 ∧ Rel X.K H1 P1 α1 S1 ∧ REnv X.K P1 α1 σ env ∧ Same P P1 ∧ α <+: α1 ∧ AfterG X P α (g b S1) Ok) X.xe s := by
  refine thn (he (fun b H1 => ∃ P1 α1 S1, Rel X.K H1 P1 α1 S1 ∧ REnv X.K P1 α1 σ env ∧ Same P P1 ∧ α <+: α1 ∧ AfterG X P α (g b S1) Ok) ⟨P, α, env, S, r, re, ?_⟩) fun b s1 ⟨H1, I1, P1, α1, S1, q1, q2, q4, q5, q6⟩ => ⟨H1, P1, α1, S1, I1, q1, q2, q4, q5, q6⟩
  cases q : f env S with
  | bad => rw [q] at af; exact af
  | ex c x S' => rw [q] at af; exact af
  | ok d S' =>
    rw [q] at af
    exact fun H' P' α' r' e1 e2 => ⟨P', α', S', r', re.mono e1 e2, e1, e2, af⟩

def dC (d : D) : DE := fun _ S => .ok d S
def dVar (i : Nat) : DE := fun env S => match env[i]? with
  | some (some d) => .ok d S
  | _ => .bad
theorem de_int {i j} : PE X (.Constant (.int i) j pos) (tD X (dC (.int i))) := peW pe_int fun σ H Q ⟨P, α, env, S, r, re, af⟩ => xr af r (by simp only [Rep])
theorem de_bl {i j} : PE X (.Constant (.bool i) j pos) (tD X (dC (.bl i))) := peW pe_bl fun σ H Q ⟨P, α, env, S, r, re, af⟩ => xr af r (by simp only [Rep])
theorem de_str {i j} : PE X (.Constant (.str i) j pos) (tD X (dC (.str i))) := peW pe_str fun σ H Q ⟨P, α, env, S, r, re, af⟩ => xr af r (by simp only [Rep])
theorem de_non {j} : PE X (.Constant .none j pos) (tD X (dC .non)) := peW pe_non fun σ H Q ⟨P, α, env, S, r, re, af⟩ => xr af r (by simp only [Rep])
theorem tVar_of {i : Nat} {σ : L2.St} {H : Hp} {Q : VK} (h : tD X (dVar i) σ H Q) : tVar i σ H Q := by
  obtain ⟨P, α, env, S, r, re, af⟩ := h
  unfold dVar at af
  split at af
  · rename_i d q
    obtain ⟨v, h1, h2⟩ := re.2 i d q
    exact ⟨v, h1, xr af r h2⟩
  · exact False.elim af
theorem dv (i : Nat) {x : Str} (hN : X.N[i]? = some x := by rfl) (hv : Vis X.env.scope x := by first | exact Or.inl rfl | exact Or.inr (Or.inl rfl) | exact Or.inr (Or.inr rfl)) (hd : (x == ("__debug__" : Str)) = false := by decide)
    (hcd : (x == ("__classdict__" : Str)) = false := by decide) : PE X (.Name x pos) (tD X (dVar i)) := peW (pe_var hN hv hd hcd) fun σ H Q h => tVar_of h
/-- a module's number -/
theorem de_glob {x : Str} {d : D} {v : V} {u : Value} (hg : Gl X x) (hm : X.mg x = some u) (r : RelV v u) (q : ∀ P α, Rep X.K P α d v) (hd : (x == ("__debug__" : Str)) = false := by decide) : PE X (.Name x pos) (tD X (dC d)) :=
  peW (pe_glob hg hm r hd) fun σ H Q ⟨P, α, env, S, r, re, af⟩ => xr af r (q _ _)
theorem de_bltn {x : Str} {n : String} (hg : Gl X x) (hm : X.mg x = none) (hv : bootBuiltins x = some (.type n)) (hn : x ≠ "__name__" := by decide) (hd : (x == ("__debug__" : Str)) = false := by decide) : PE X (.Name x pos) (tD X (dC (.ty n))) :=
  peW (pe_bltn (v := .ty n) hg hm hv rfl hn hd) fun σ H Q ⟨P, α, env, S, r, re, af⟩ => xr af r (by simp only [Rep])

abbrev G2 := D → D → Sto → Res D
def OpD (X : Cx) (f : Value → Value → Sem Value) (g : G2) : Prop :=
  ∀ (pins : List (Addr × Obj)) (σ : L2.St) (H : Hp) (s : Shared) (P : Hp) (α : List Addr) (S : Sto) (v u : V) (vv uu : Value) (a b : D) (Q : VK), Inv X pins σ H s → Rel X.K H P α S → RelV v vv → RelV u uu → Rep X.K P α a v → Rep X.K P α b u → After X P α (g a b S) Q →
    wpAny (model X.prog X.w) X.A (f vv uu) (EP X pins σ Q) X.xe s
theorem OpD.of {f : Value → Value → Sem Value} {r : R2} {g : G2} (h : OpR X f r) (w : ∀ H P α S v u a b Q, Rel X.K H P α S → Rep X.K P α a v → Rep X.K P α b u → After X P α (g a b S) Q → r v u H Q) : OpD X f g :=
  fun pins σ H s P α S v u vv uu a b Q I rl r1 r2 p1 p2 af => h pins s σ H v u vv uu Q I r1 r2 (w H P α S v u a b Q rl p1 p2 af)
def UnD (X : Cx) (f : Value → Sem Value) (g : D → Sto → Res D) : Prop :=
  ∀ (pins : List (Addr × Obj)) (σ : L2.St) (H : Hp) (s : Shared) (P : Hp) (α : List Addr) (S : Sto) (v : V) (vv : Value) (a : D) (Q : VK), Inv X pins σ H s → Rel X.K H P α S → RelV v vv → Rep X.K P α a v → After X P α (g a S) Q →
    wpAny (model X.prog X.w) X.A (f vv) (EP X pins σ Q) X.xe s
def IxD (X : Cx) (g : G2) : Prop :=
  ∀ (value slice : Expr) (pins : List (Addr × Obj)) (σ : L2.St) (H : Hp) (s : Shared) (P : Hp) (α : List Addr) (S : Sto) (v u : V) (vv uu : Value) (a b : D) (Q : VK), Inv X pins σ H s → Rel X.K H P α S → RelV v vv → RelV u uu → Rep X.K P α a v → Rep X.K P α b u → After X P α (g a b S) Q →
    subscripted slice false vv uu = operate [vv, uu] (getItem vv uu) → wpAny (model X.prog X.w) X.A (subscriptTail value slice vv uu) (EP X pins σ Q) X.xe s
def CallD (X : Cx) (f : Value) (g : List D → Sto → Res D) : Prop :=
  ∀ (pins : List (Addr × Obj)) (σ : L2.St) (H : Hp) (s : Shared) (P : Hp) (α : List Addr) (S : Sto) (vs : List V) (us : List Value) (ds : List D) (Q : VK), Inv X pins σ H s → Rel X.K H P α S → Vals vs us → Reps X.K P α ds vs → After X P α (g ds S) Q →
    wpAny (model X.prog X.w) X.A (call f us) (EP X pins σ Q) X.xe s
def d2 (g : G2) (fa fb : DE) : DE := fun env S => (fa env S).bind fun x S1 => (fb env S1).bind fun y S2 => g x y S2
def d1 (g : D → Sto → Res D) (fa : DE) : DE := fun env S => (fa env S).bind g
variable {fa fb : DE}
theorem d2_run {g : G2} {f : Value → Value → Sem Value} {pins : List (Addr × Obj)} {s : Shared} {σ : L2.St} {H : Hp} {Q : VK} (ho : OpD X f g) (ha : PE X a (tD X fa)) (hb : PE X b (tD X fb)) (I : Inv X pins σ H s) (h : tD X (d2 g fa fb) σ H Q) :
    wpAny (model X.prog X.w) X.A (eval a X.env) (fun v s₁ => wpAny (model X.prog X.w) X.A (eval b X.env) (fun u s₂ => wpAny (model X.prog X.w) X.A (f v u) (EP X pins σ Q) X.xe s₂) X.xe s₁) X.xe s := by
  obtain ⟨P, α, env, S, r, re, af⟩ := h
  refine thn (dThen ha I r re af) fun vv s1 ⟨v, H1, P1, α1, d, S1, G1, af1⟩ => ?_
  refine thn (dThen hb G1.inv G1.rel G1.env (P := P1) (α := α1) (Ok := OkV X P1 α1 Q) (g := fun y S2 => g d y S2) ?_) fun uu s2 ⟨u, H2, P2, α2, d', S2, G2, af2⟩ => ?_
  · exact After.base G1.same G1.pre af1
  · exact ho pins σ H2 s2 P2 α2 S2 v u vv uu d d' Q G2.inv G2.rel G1.val G2.val (Rep.mono G2.same G2.pre _ _ G1.rep) G2.rep (After.base G2.same G2.pre af2)
theorem de_op {op : Operator} {g : G2} (ho : OpD X (binaryOp op) g) (ha : PE X a (tD X fa)) (hb : PE X b (tD X fb)) : PE X (.BinOp a op b pos) (tD X (d2 g fa fb)) :=
  fun pins s σ H Q I h => wpAny_BinOp (d2_run ho ha hb I h)
theorem de_cmp {op : CmpOp} {g : G2} (ho : OpD X (compareOp op) g) (ha : PE X a (tD X fa)) (hb : PE X b (tD X fb)) (hm : behindInMarks op b = false := by first | exact nomark _ | with_unfolding_all rfl) : PE X (.Compare a [op] [b] pos) (tD X (d2 g fa fb)) :=
  fun pins s σ H Q I h => wpAny_Compare1 (d2_run ho ha hb I h) hm
theorem de_un {op : UnaryOp} {g : D → Sto → Res D} (ho : UnD X (unaryOp op) g) (ha : PE X a (tD X fa)) : PE X (.UnaryOp op a pos) (tD X (d1 g fa)) := by
  intro pins s σ H Q I h
  obtain ⟨P, α, env, S, r, re, af⟩ := h
  exact UnaryOp_ (thn (dThen ha I r re af) fun vv s1 ⟨v, H1, P1, α1, d, S1, G1, af1⟩ => ho pins σ H1 s1 P1 α1 S1 v vv d Q G1.inv G1.rel G1.val G1.rep (After.base G1.same G1.pre af1))
theorem de_ix {g : G2} (ho : IxD X g) (ha : PE X a (tD X fa)) (hb : PE X b (tD X fb)) (hs : PlainIx b := by intro _ _; rfl) : PE X (.Subscript a b pos) (tD X (d2 g fa fb)) := by
  intro pins s σ H Q I h
  obtain ⟨P, α, env, S, r, re, af⟩ := h
  have IxR' : IxR X (fun x y H Q => ∃ P α S a b, Rel X.K H P α S ∧ Rep X.K P α a x ∧ Rep X.K P α b y ∧ After X P α (g a b S) Q) := fun value slice pins s σ H x y v u Q I rx ry ⟨P, α, S, a, b, r, p1, p2, af⟩ hsl =>
    ho value slice pins σ H s P α S x y v u a b Q I r rx ry p1 p2 af hsl
  refine peW (pe_ix IxR' ha hb hs) (t' := tD X (d2 g fa fb)) (fun σ H Q h => ?_) pins s σ H Q I ⟨P, α, env, S, r, re, af⟩
  obtain ⟨P, α, env, S, r, re, af⟩ := h
  refine ⟨P, α, env, S, r, re, ?_⟩
  unfold d2 at af
  cases q : fa env S with
  | bad => rw [q] at af; exact af
  | ex c x S' => rw [q] at af; exact af
  | ok d S1 =>
    rw [q] at af
    intro v H1 P1 α1 r1 e1 e2 rp
    refine ⟨P1, α1, env, S1, r1, re.mono e1 e2, ?_⟩
    have af' : After X P α ((fb env S1).bind fun y S2 => g d y S2) Q := af
    cases q2 : fb env S1 with
    | bad => rw [q2] at af'; exact af'
    | ex c x S' => rw [q2] at af'; exact fun u s' z => af' u s' (z.base e1 e2)
    | ok d' S2 =>
      rw [q2] at af'
      intro u H2 P2 α2 r2 e3 e4 rp2
      exact ⟨P2, α2, S2, d, d', r2, Rep.mono e3 e4 _ _ rp, rp2, After.base (e1.trans e3) (e2.trans e4) af'⟩

def daNil : DA := fun _ S => .ok [] S
def daCons (f : DE) (g : DA) : DA := fun env S => (f env S).bind fun x S1 => (g env S1).bind fun xs S2 => .ok (x :: xs) S2
theorem da_nil : PA X [] (tDA X daNil) := paW pa_nil fun σ H Q ⟨P, α, env, S, r, re, af⟩ => af [] H P α r (Same.refl _) (List.prefix_refl _) .nil
theorem da_cons {es : List Expr} {g : DA} (ha : PE X e (tD X fa)) (hr : PA X es (tDA X g)) (hs : starEach (e :: es) X.env = (false, eval e X.env) :: starEach es X.env := by rfl) : PA X (e :: es) (tDA X (daCons fa g)) := by
  intro pos pins s σ H Q I h
  obtain ⟨P, α, env, S, r, re, af⟩ := h
  rw [hs]
  show wpAny _ _ (spliced ((false, eval e X.env) :: backTo pos (starEach es X.env))) _ _ s
  refine Calls.spliced_cons (thn (dThen ha I r re af) fun u s1 ⟨x, H1, P1, α1, d, S1, G1, af1⟩ => ?_)
  refine thn (dThenA hr G1.inv G1.rel G1.env (P := P1) (α := α1) (Ok := OkA X P1 α1 Q) (AfterA.base G1.same G1.pre af1) pos) fun us s2 ⟨xs, H2, P2, α2, ds, S2, I2, rv, r2, re2, rp2, e1, e2, af2⟩ => ?_
  exact ⟨x :: xs, H2, I2, .cons G1.val rv, af2 _ _ _ _ r2 e1 e2 (.cons (Rep.mono e1 e2 _ _ G1.rep) rp2)⟩
def lim : Nat := 16777216
theorem lim_eq : lim = sizeLine := sizeLine_eq.symm
/-- a tuple of items -/
def dTup (f : DA) : DE := fun env S => (f env S).bind fun xs S1 => if xs.length ≤ lim then .ok (.tup xs) S1 else .bad
/-- a list that is not changed later -/
def dLst (f : DA) : DE := fun env S => (f env S).bind fun xs S1 => if xs.length ≤ lim then .ok (.lst xs) S1 else .bad
/-- a list that may be changed -/
def dLstM (f : DA) : DE := fun env S => (f env S).bind fun xs S1 => if xs.length ≤ lim then .ok (.loc S1.length) (S1 ++ [.lst xs]) else .bad
theorem rep_tup {K : PySem.W.Frag} {P : Hp} {α : List Addr} {a : Addr} {ds : List D} {vs : List V} (h : SqT K P a vs) (r : Reps K P α ds vs) : Rep K P α (.tup ds) (.ref a) := by simp only [Rep]; exact ⟨a, vs, rfl, h, r⟩
theorem rep_lst {K : PySem.W.Frag} {P : Hp} {α : List Addr} {a : Addr} {ds : List D} {vs : List V} (h : SqX K P a vs) (r : Reps K P α ds vs) : Rep K P α (.lst ds) (.ref a) := by simp only [Rep]; exact ⟨a, vs, rfl, h, r⟩
theorem pure_tup {H P : Hp} {α : List Addr} {S : Sto} {p : Addr} {ds : List D} {vs : List V} {Q : VK} (r : Rel X.K H P α S) (hp : H p = none) (rp : Reps X.K P α ds vs) (af : OkV X P α Q (.tup ds) S) : Q (.ref p) (upd H p (.tup vs)) := by
  obtain ⟨r1, e1⟩ := r.pure (o := .tup vs) hp
  exact af _ _ _ α r1 e1 (List.prefix_refl _) (rep_tup (.of upd_same) (Reps.mono e1 (List.prefix_refl _) _ _ rp))
theorem pure_lst {H P : Hp} {α : List Addr} {S : Sto} {p : Addr} {ds : List D} {vs : List V} {Q : VK} (r : Rel X.K H P α S) (hp : H p = none) (rp : Reps X.K P α ds vs) (af : OkV X P α Q (.lst ds) S) : Q (.ref p) (upd H p (.lst vs)) := by
  obtain ⟨r1, e1⟩ := r.pure (o := .lst vs) hp
  exact af _ _ _ α r1 e1 (List.prefix_refl _) (rep_lst (.inl (.inl upd_same)) (Reps.mono e1 (List.prefix_refl _) _ _ rp))
theorem mut_lst {H P : Hp} {α : List Addr} {S : Sto} {p : Addr} {ds : List D} {vs : List V} {Q : VK} (r : Rel X.K H P α S) (hp : H p = none) (rp : Reps X.K P α ds vs) (af : OkV X P α Q (.loc S.length) (S ++ [.lst ds])) : Q (.ref p) (upd H p (.lst vs)) := by
  have hpre : α <+: α ++ [p] := List.prefix_append _ _
  have r1 := r.new (o := .lst vs) (m := .lst ds) hp ⟨vs, upd_same, Reps.mono (Same.refl _) hpre _ _ rp⟩
  refine af _ _ _ _ r1 (Same.refl _) hpre ?_
  simp only [Rep]
  exact ⟨p, rfl, by rw [← r.len]; simp⟩
theorem disp_of {f : DA} {σ : L2.St} {H : Hp} {Q : VK} {G : List D → Sto → Res D} {mk : List V → HO} (h : tD X (fun env S => (f env S).bind fun xs S1 => if xs.length ≤ lim then G xs S1 else .bad) σ H Q)
    (k : ∀ H1 P1 α1 S1 ds vs p, Rel X.K H1 P1 α1 S1 → H1 p = none → Reps X.K P1 α1 ds vs → After X P1 α1 (G ds S1) Q → Q (.ref p) (upd H1 p (mk vs))) :
    tDA X f σ H fun vs H1 => vs.length ≤ sizeLine ∧ ∀ p, H1 p = none → Q (.ref p) (upd H1 p (mk vs)) := by
  obtain ⟨P, α, env, S, r, re, af⟩ := h
  refine ⟨P, α, env, S, r, re, ?_⟩
  have af' : After X P α ((f env S).bind fun xs S1 => if xs.length ≤ lim then G xs S1 else .bad) Q := af
  cases q : f env S with
  | bad => rw [q] at af'; exact af'
  | ex c x S' => rw [q] at af'; exact af'
  | ok ds S1 =>
    rw [q] at af'
    intro vs H1 P1 α1 r1 e1 e2 rp
    have af2 : After X P α (if ds.length ≤ lim then G ds S1 else .bad) Q := af'
    by_cases hl : ds.length ≤ lim
    · rw [if_pos hl] at af2
      exact ⟨by rw [← rp.length, ← lim_eq]; exact hl, fun p hp => k H1 P1 α1 S1 ds vs p r1 hp rp (After.base e1 e2 af2)⟩
    · rw [if_neg hl] at af2; exact False.elim af2
theorem de_tup {es : List Expr} {f : DA} {x1} (h : PA X es (tDA X f)) : PE X (.Tuple es x1 pos) (tD X (dTup f)) :=
  peW (pe_tup h) fun σ H Q q => disp_of (G := fun xs S1 => .ok (.tup xs) S1) (mk := .tup) q fun H1 P1 α1 S1 ds vs p r hp rp af => pure_tup r hp rp af
theorem de_lst {es : List Expr} {f : DA} (h : PA X es (tDA X f)) : PE X (.List es pos) (tD X (dLst f)) :=
  peW (pe_lst h) fun σ H Q q => disp_of (G := fun xs S1 => .ok (.lst xs) S1) (mk := .lst) q fun H1 P1 α1 S1 ds vs p r hp rp af => pure_lst r hp rp af
theorem de_lstM {es : List Expr} {f : DA} (h : PA X es (tDA X f)) : PE X (.List es pos) (tD X (dLstM f)) :=
  peW (pe_lst h) fun σ H Q q => disp_of (G := fun xs S1 => .ok (.loc S1.length) (S1 ++ [MO.lst xs])) (mk := .lst) q fun H1 P1 α1 S1 ds vs p r hp rp af => mut_lst r hp rp af
end
end DL
end

-- Ds
section
set_option Elab.async false
set_option linter.all false
set_option maxRecDepth 100000
namespace DL
open PySem PySem.Spec PyProof.Rows L2
section
variable {X : Cx} {a b c e : Expr} {pos : Pos} {fa fb fc : DE} {ta tb : DT}

/-- a datum's truth -/
def truD : D → Sto → Option Bool
  | .non, _ => some false
  | .bl b, _ => some b
  | .int i, _ => some (i != 0)
  | .str x, _ => if x.length ≤ lim then some ((x.length : Int) != 0) else none
  | .tup xs, _ => some (!xs.isEmpty)
  | .lst xs, _ => some (!xs.isEmpty)
  | .dct0, _ => some false
  | .loc i, S => match S[i]? with
    | some (.lst xs) => some (!xs.isEmpty)
    | some (.dct kvs) => some (!kvs.isEmpty)
    | _ => none
  | _, _ => none
theorem Reps.isEmpty {K : PySem.W.Frag} {P : Hp} {α : List Addr} {ds : List D} {vs : List V} (r : Reps K P α ds vs) : (!ds.isEmpty) = !vs.isEmpty := by
  cases ds with
  | nil => rw [r.nil_inv]; rfl
  | cons d ds => obtain ⟨w, ws, rfl, _, _⟩ := r.cons_inv; rfl
theorem sqT_sub {K : PySem.W.Frag} {H P : Hp} (e : Same P H) {a : Addr} {xs : List V} (h : SqT K P a xs) : SqT K H a xs := sqT_mono e h
theorem truV_of {H P : Hp} {α : List Addr} {S : Sto} {v : V} {d : D} {k : Bool} (r : Rel X.K H P α S) (p : Rep X.K P α d v) (h : truD d S = some k) : TruV X.K v H k := by
  cases d with
  | non => simp only [Rep] at p; subst p; cases h; rfl
  | bl b => simp only [Rep] at p; subst p; cases h; rfl
  | int i => simp only [Rep] at p; subst p; cases h; rfl
  | str x =>
    simp only [Rep] at p; subst p
    simp only [truD] at h
    split at h
    · rename_i hl; cases h; exact ⟨by rw [← lim_eq]; exact hl, rfl⟩
    · cases h
  | tup xs =>
    simp only [Rep] at p
    obtain ⟨a, vs, rfl, q, t⟩ := p
    cases h
    exact .inr (.inl ⟨vs, sqT_sub r.sub q, t.isEmpty⟩)
  | lst xs =>
    simp only [Rep] at p
    obtain ⟨a, vs, rfl, q, t⟩ := p
    cases h
    exact .inl ⟨vs, (sqX_mono r.sub q).l, t.isEmpty⟩
  | dct0 =>
    simp only [Rep] at p
    obtain ⟨a, rfl, q⟩ := p
    cases h
    exact .inr (.inr ⟨[], r.sub _ _ q, rfl⟩)
  | loc i =>
    simp only [Rep] at p
    obtain ⟨a, rfl, q⟩ := p
    simp only [truD] at h
    split at h
    · rename_i xs hs
      cases h
      obtain ⟨vs, z, t⟩ := r.at' i a _ q hs
      exact .inl ⟨vs, .of z, t.isEmpty⟩
    · rename_i kvs hs
      cases h
      obtain ⟨vs, z, t⟩ := r.at' i a _ q hs
      refine .inr (.inr ⟨vs, z, ?_⟩)
      cases t <;> rfl
    · cases h
  | ty n => cases h
  | obj a => cases h
  | exn c => cases h
theorem tru_d {pins : List (Addr × Obj)} {s : Shared} {σ : L2.St} {H P : Hp} {α : List Addr} {S : Sto} {v : V} {vv : Value} {d : D} {k : Bool} {Q : Bool → Hp → Prop} (I : Inv X pins σ H s) (r : Rel X.K H P α S) (rv : RelV v vv) (p : Rep X.K P α d v) (h : truD d S = some k) (q : Q k H) :
    wpAny (model X.prog X.w) X.A (truthy vv) (TP X pins σ Q) X.xe s := tru_ok pins s σ H v vv Q I rv ⟨k, truV_of r p h, q⟩
def resB (o : Option Bool) (S : Sto) : Res Bool := match o with
  | some b => .ok b S
  | none => .bad
/-- an expression's value as a test -/
def dTr (f : DE) : DT := fun env S => (f env S).bind fun d S1 => resB (truD d S1) S1
theorem resB_ok {o : Option Bool} {S : Sto} {P : Hp} {α : List Addr} {Ok : Bool → Sto → Prop} (h : AfterG X P α (resB o S) Ok) : ∃ b, o = some b ∧ Ok b S := by
  cases o with
  | none => exact False.elim h
  | some b => exact ⟨b, rfl, h⟩
theorem dt_val (ha : PE X a (tD X fa)) (he : ∀ whole, isTrue a X.env whole = (do let v ← whole; standAt a.pos; holding [v] (truthy v)) := by intro _; rfl) : PT X a (tDT X (dTr fa)) := by
  intro pins s σ H Q I h
  obtain ⟨P, α, env, S, r, re, af⟩ := h
  refine isTrue_plain (thn (dThen ha I r re af) fun vv s1 ⟨v, H1, P1, α1, d, S1, G1, af1⟩ => ?_) (he _)
  obtain ⟨k, e1, q⟩ := resB_ok af1
  exact tru_d G1.inv G1.rel G1.val G1.rep e1 (q H1 P1 α1 G1.rel G1.same G1.pre)
theorem dt_cmp {op : CmpOp} {g : G2} (ho : OpD X (compareOp op) g) (ha : PE X a (tD X fa)) (hb : PE X b (tD X fb)) (hm : behindInMarks op b = false := by first | exact nomark _ | with_unfolding_all rfl) : PT X (.Compare a [op] [b] pos) (tDT X (dTr (d2 g fa fb))) := by
  intro pins s σ H Q I h
  obtain ⟨P, α, env, S, r, re, af⟩ := h
  refine wpAny_isTrue_Compare1 ?_ hm
  have key : tD X (d2 g fa fb) σ H (fun v H1 => ∃ k, TruV X.K v H1 k ∧ Q k H1) := by
    refine ⟨P, α, env, S, r, re, ?_⟩
    have af' : AfterG X P α ((d2 g fa fb env S).bind fun d S1 => resB (truD d S1) S1) (OkT X P α Q) := af
    cases q : d2 g fa fb env S with
    | bad => rw [q] at af'; exact af'
    | ex c x S' => rw [q] at af'; exact af'
    | ok d S1 =>
      rw [q] at af'
      obtain ⟨k, e1, qk⟩ := resB_ok (X := X) af'
      exact fun v H1 P1 α1 r1 e3 e4 rp => ⟨k, truV_of r1 rp e1, qk H1 P1 α1 r1 e3 e4⟩
  exact thn (d2_run ho ha hb I key) fun v s1 h1 => thn h1 fun u s2 h2 => thn h2 fun x s3 ⟨y, H3, I3, r3, k, tk, qk⟩ => tru_ok pins s3 σ H3 y x Q I3 r3 ⟨k, tk, qk⟩
/-- a op1 b op2 c -/
def dChain (g g' : G2) (fa fb fc : DE) : DE := fun env S => (fa env S).bind fun x S1 => (fb env S1).bind fun y S2 => (g x y S2).bind fun z S3 =>
  match truD z S3 with
  | some true => (fc env S3).bind fun w S4 => g' y w S4
  | some false => .ok z S3
  | none => .bad
/-- an operation's outcome, then what comes of it -/
theorem opThen {γ : Type} {f : Value → Value → Sem Value} {g : G2} {k : D → Sto → Res γ} {Ok : γ → Sto → Prop} {pins : List (Addr × Obj)} {σ : L2.St} {H : Hp} {s : Shared} {P : Hp} {α : List Addr} {S : Sto} {v u : V} {vv uu : Value} {a b : D} (ho : OpD X f g) (I : Inv X pins σ H s) (r : Rel X.K H P α S)
    (rv : RelV v vv) (ru : RelV u uu) (pa : Rep X.K P α a v) (pb : Rep X.K P α b u) (af : AfterG X P α ((g a b S).bind k) Ok) :
    wpAny (model X.prog X.w) X.A (f vv uu) (fun w s1 => ∃ y H1 P1 α1 d S1, Inv X pins σ H1 s1 ∧ RelV y w ∧ Rel X.K H1 P1 α1 S1 ∧ Rep X.K P1 α1 d y ∧ Same P P1 ∧ α <+: α1 ∧ AfterG X P α (k d S1) Ok) X.xe s := by
  refine thn (ho pins σ H s P α S v u vv uu a b (fun y H1 => ∃ P1 α1 d S1, Rel X.K H1 P1 α1 S1 ∧ Rep X.K P1 α1 d y ∧ Same P P1 ∧ α <+: α1 ∧ AfterG X P α (k d S1) Ok) I r rv ru pa pb ?_) fun w s1 ⟨y, H1, I1, r1, P1, α1, d, S1, q⟩ => ⟨y, H1, P1, α1, d, S1, I1, r1, q⟩
  cases q : g a b S with
  | bad => rw [q] at af; exact af
  | ex c x S' => rw [q] at af; exact af
  | ok d S' =>
    rw [q] at af
    exact fun v H' P' α' r' e1 e2 rp => ⟨P', α', d, S', r', rp, e1, e2, af⟩
theorem AfterG.base' {β : Type} {P P1 : Hp} {α α1 : List Addr} {r : Res β} {Ok Ok1 : β → Sto → Prop} (e : Same P P1) (h : α <+: α1) (ho : ∀ d S, Ok d S → Ok1 d S) (k : AfterG X P α r Ok) : AfterG X P1 α1 r Ok1 := by
  cases r with
  | ok d S => exact ho d S k
  | ex c x S => exact fun u s' q => k u s' (q.base e h)
  | bad => exact k
theorem de_chain {op op' : CmpOp} {g g' : G2} (ho : OpD X (compareOp op) g) (ho' : OpD X (compareOp op') g') (ha : PE X a (tD X fa)) (hb : PE X b (tD X fb)) (hc : PE X c (tD X fc))
    (hm : lastMarks [op, op'] [b, c] = false := by with_unfolding_all rfl) : PE X (.Compare a [op, op'] [b, c] pos) (tD X (dChain g g' fa fb fc)) := by
  intro pins s σ H Q I h
  obtain ⟨P, α, env, S, r, re, af⟩ := h
  refine Compare_chain (thn (dThen ha I r re af) fun vv s1 ⟨v, H1, P1, α1, d, S1, G1, af1⟩ => chain_link (thn (dThen hb G1.inv G1.rel G1.env (After.base G1.same G1.pre af1)) fun uu s2 ⟨u, H2, P2, α2, d', S2, G2, af2⟩ =>
    thn (opThen ho G2.inv G2.rel G1.val G2.val (Rep.mono G2.same G2.pre _ _ G1.rep) G2.rep (After.base G2.same G2.pre af2)) fun w s3 ⟨y, H3, P3, α3, z, S3, I3, r3, rl3, rp3, e3, e4, af3⟩ => ?_)) hm
  cases ht : truD z S3 with
  | none => simp only [ht] at af3; exact False.elim af3
  | some k =>
    simp only [ht] at af3
    have tv := truV_of rl3 rp3 ht
    refine thn (tru_ok pins s3 σ H3 y w (fun k' H' => k' = k ∧ H' = H3) I3 r3 ⟨k, tv, rfl, rfl⟩) fun k' s4 ⟨H4, I4, hk, hH⟩ => ?_
    subst hk; subst hH
    cases k' with
    | false => exact ite_ff ⟨y, H4, I4, r3, af3 y H4 P3 α3 rl3 e3 e4 rp3⟩
    | true =>
      refine ite_tt (chain_last (thn (dThen hc I4 rl3 (G2.env.mono e3 e4) (After.base e3 e4 af3)) fun ww s5 ⟨w', H5, P5, α5, d5, S5, G5, af5⟩ => ?_))
      exact ho' pins σ H5 s5 P5 α5 S5 u w' uu ww d' d5 Q G5.inv G5.rel G2.val G5.val (Rep.mono (e3.trans G5.same) (e4.trans G5.pre) _ _ G2.rep) G5.rep (After.base G5.same G5.pre af5)
def dNotT (t : DT) : DT := fun env S => (t env S).bind fun b S1 => .ok (!b) S1
def dAndT (t u : DT) : DT := fun env S => (t env S).bind fun b S1 => if b then u env S1 else .ok false S1
def dOrT (t u : DT) : DT := fun env S => (t env S).bind fun b S1 => if b then .ok true S1 else u env S1
theorem dt_not (ha : PT X a (tDT X ta)) : PT X (.UnaryOp .Not a pos) (tDT X (dNotT ta)) := by
  intro pins s σ H Q I h
  obtain ⟨P, α, env, S, r, re, af⟩ := h
  refine isTrue_not (thn (dThenT (fun Q' q => ha pins s σ H Q' I q) r re af) fun b s1 ⟨H1, P1, α1, S1, I1, r1, re1, e1, e2, af1⟩ => ⟨H1, I1, af1 H1 P1 α1 r1 e1 e2⟩)
def PWD (X : Cx) (e : Expr) (t : DT) : Prop := PW X e (tDT X t)
theorem PWD.pt {t : DT} (h : PWD X e t) : PT X e (tDT X t) := h _
theorem dw_or1 (ha : PT X a (tDT X ta)) : PWD X (.BoolOp .Or [a] pos) ta := pw_or1 ha
theorem dw_or {rest : List Expr} (ha : PT X a (tDT X ta)) (hb : PWD X (.BoolOp .Or (b :: rest) pos) tb) : PWD X (.BoolOp .Or (a :: b :: rest) pos) (dOrT ta tb) := by
  intro wh pins s σ H Q I h
  obtain ⟨P, α, env, S, r, re, af⟩ := h
  refine isTrue_or (thn (dThenT (fun Q' q => ha pins s σ H Q' I q) r re af) fun k s1 ⟨H1, P1, α1, S1, I1, r1, re1, e1, e2, af1⟩ => ?_)
  cases k with
  | true => exact ⟨H1, I1, af1 H1 P1 α1 r1 e1 e2⟩
  | false => exact hb wh pins s1 σ H1 Q I1 ⟨P1, α1, env, S1, r1, re1, AfterT.base e1 e2 af1⟩
/-- .. as values -/
def dAnd (f g : DE) : DE := fun env S => (f env S).bind fun x S1 => match truD x S1 with
  | some true => g env S1
  | some false => .ok x S1
  | none => .bad
def dOr (f g : DE) : DE := fun env S => (f env S).bind fun x S1 => match truD x S1 with
  | some true => .ok x S1
  | some false => g env S1
  | none => .bad
def dNot (f : DE) : DE := fun env S => (f env S).bind fun x S1 => match truD x S1 with
  | some b => .ok (.bl (!b)) S1
  | none => .bad
theorem de_one {op} (h : PE X a (tD X fa)) : PE X (.BoolOp op [a] pos) (tD X fa) := pe_one h
theorem truK {pins : List (Addr × Obj)} {s : Shared} {σ : L2.St} {H : Hp} {v : V} {vv : Value} {k : Bool} {R : Bool → Shared → Prop} (I : Inv X pins σ H s) (rv : RelV v vv) (t : TruV X.K v H k) (h : ∀ s', Inv X pins σ H s' → R k s') :
    wpAny (model X.prog X.w) X.A (truthy vv) R X.xe s := thn (tru_ok pins s σ H v vv (fun k' H' => k' = k ∧ H' = H) I rv ⟨k, t, rfl, rfl⟩) fun k' s4 ⟨H4, I4, hk, hH⟩ => by subst hk; subst hH; exact h s4 I4
theorem de_and {rest : List Expr} (ha : PE X a (tD X fa)) (hb : PE X (.BoolOp .And (b :: rest) pos) (tD X fb)) : PE X (.BoolOp .And (a :: b :: rest) pos) (tD X (dAnd fa fb)) := by
  intro pins s σ H Q I h
  obtain ⟨P, α, env, S, r, re, af⟩ := h
  refine BoolOp_and (thn (dThen ha I r re af) fun vv s1 ⟨v, H1, P1, α1, d, S1, G1, af1⟩ => ?_)
  cases ht : truD d S1 with
  | none => simp only [ht] at af1; exact False.elim af1
  | some k =>
    simp only [ht] at af1
    refine truK G1.inv G1.val (truV_of G1.rel G1.rep ht) fun s2 I2 => ?_
    cases k with
    | true => exact hb pins s2 σ H1 Q I2 ⟨P1, α1, env, S1, G1.rel, G1.env, After.base G1.same G1.pre af1⟩
    | false => exact ⟨v, H1, I2, G1.val, af1 v H1 P1 α1 G1.rel G1.same G1.pre G1.rep⟩
theorem de_not (ha : PE X a (tD X fa)) : PE X (.UnaryOp .Not a pos) (tD X (dNot fa)) := by
  intro pins s σ H Q I h
  obtain ⟨P, α, env, S, r, re, af⟩ := h
  refine UnaryOp_ (thn (dThen ha I r re af) fun vv s1 ⟨v, H1, P1, α1, d, S1, G1, af1⟩ => ?_)
  cases ht : truD d S1 with
  | none => simp only [ht] at af1; exact False.elim af1
  | some k =>
    simp only [ht] at af1
    exact not_of (truK G1.inv G1.val (truV_of G1.rel G1.rep ht) fun s2 I2 => ⟨.bl (!k), H1, I2, rfl, af1 (.bl (!k)) H1 P1 α1 G1.rel G1.same G1.pre (by simp only [Rep])⟩)
def dIf (t : DT) (f g : DE) : DE := fun env S => (t env S).bind fun b S1 => if b then f env S1 else g env S1
end
end DL
end

-- Df
section
set_option Elab.async false
set_option linter.all false
set_option maxRecDepth 100000
namespace DL
open PySem PySem.Spec PyProof.Rows L2

@[inline] def Res.toS {β : Type} (env : DEnv) (r : Res β) (k : β → Sto → Out) : Out :=
  match r with
  | .ok d S => k d S
  | .ex c x S => .ex c x env S
  | .bad => .bad
section
variable {X : Cx} {a b c e : Expr} {pos : Pos} {fa fb fc : DE} {ta tb : DT} {f g : DS} {st : Stmt} {rest : List Stmt}

def sNext : DS := fun env S => .nx env S
def sSeq (f g : DS) : DS := fun env S => match f env S with
  | .nx env1 S1 => g env1 S1
  | o => o
theorem ds_nil : PSs X [] (tDS X sNext) := pssW pss_nil fun D σ H ⟨P, α, env, S, r, re, af⟩ => af σ H P α r re (Same.refl _) (List.prefix_refl _)
theorem ds_cons (h1 : PS X st (tDS X f)) (h2 : PSs X rest (tDS X g)) : PSs X (st :: rest) (tDS X (sSeq f g)) := pssW (pss_cons h1 h2) fun D σ H ⟨P, α, env, S, r, re, af⟩ => by
  refine ⟨P, α, env, S, r, re, ?_⟩
  unfold sSeq at af
  cases q : f env S with
  | nx env1 S1 =>
    rw [q] at af
    exact fun σ' H' P' α' r' re' e1 e2 => ⟨P', α', env1, S1, r', re', AfterS.base e1 e2 af⟩
  | rt d S1 => rw [q] at af; exact af
  | bk env1 S1 => rw [q] at af; exact af
  | ct env1 S1 => rw [q] at af; exact af
  | ex c x env1 S1 => rw [q] at af; exact af
  | bad => rw [q] at af; exact af
theorem ds_one (h1 : PS X st (tDS X f)) : PSs X [st] (tDS X f) := pss_one h1
/-- an outcome's way out into a statement's -/
theorem toS_after {β : Type} {P : Hp} {α : List Addr} {env : DEnv} {r : Res β} {k : β → Sto → Out} {D : Ends} (h : AfterS X P α (r.toS env k) D) : AfterG X P α r fun d S => AfterS X P α (k d S) D := by
  cases r with
  | ok d S => exact h
  | ex c x S => exact h
  | bad => exact h
theorem dThenS {k : D → Sto → Out} {pins : List (Addr × Obj)} {s : Shared} {σ : L2.St} {H P : Hp} {α : List Addr} {env : DEnv} {S : Sto} {D : Ends} (he : PE X e (tD X fa)) (I : Inv X pins σ H s) (r : Rel X.K H P α S)
    (re : REnv X.K P α σ env) (af : AfterS X P α ((fa env S).toS env k) D) :
    wpAny (model X.prog X.w) X.A (eval e X.env) (fun u s1 => ∃ v H1 P1 α1 d S1, Got X pins σ env P α u s1 v H1 P1 α1 d S1 ∧ AfterS X P1 α1 (k d S1) D) X.xe s := by
  have af1 : AfterG X P α ((fa env S).bind fun d S => .ok d S) fun d S => AfterS X P α (k d S) D := by
    have := toS_after af
    cases q : fa env S <;> rw [q] at this <;> exact this
  exact thn (dThen he I r re af1) fun u s1 ⟨v, H1, P1, α1, d, S1, G, q⟩ => ⟨v, H1, P1, α1, d, S1, G, AfterS.base G.same G.pre q⟩
def sExpr (f : DE) : DS := fun env S => (f env S).toS env fun _ S1 => .nx env S1
theorem ds_expr (he : PE X e (tD X fa)) (hs : swapsWith e none pos.line X.env = pure false := by rfl) : PS X (.Expr e pos) (tDS X (sExpr fa)) := by
  intro pins s σ H D I h
  obtain ⟨P, α, env, S, r, re, af⟩ := h
  exact wpAny_Expr_any (thn (dThenS he I r re af) fun v s1 ⟨x, H1, P1, α1, d, S1, G, q⟩ => ⟨σ, H1, G.inv, q σ H1 P1 α1 G.rel G.env (Same.refl _) (List.prefix_refl _)⟩) I.quiet hs
def sRet (f : DE) : DS := fun env S => (f env S).toS env fun d S1 => .rt d S1
theorem ds_ret (he : PE X e (tD X fa)) : PS X (.Return (some e) pos) (tDS X (sRet fa)) := by
  intro pins s σ H D I h
  obtain ⟨P, α, env, S, r, re, af⟩ := h
  exact wpAny_Return_some (thn (dThenS he I r re af) fun v s1 ⟨x, H1, P1, α1, d, S1, G, q⟩ => ⟨x, σ, H1, G.inv, G.val, q x H1 P1 α1 G.rel (Same.refl _) (List.prefix_refl _) G.rep⟩)
def sRetN : DS := fun _ S => .rt .non S
def sIf (t : DT) (f g : DS) : DS := fun env S => (t env S).toS env fun b S1 => if b then f env S1 else g env S1
theorem ds_if {c : Expr} {as bs : List Stmt} (hc : PT X c (tDT X ta)) (ha : PSs X as (tDS X f)) (hb : PSs X bs (tDS X g)) : PS X (.If c as bs pos) (tDS X (sIf ta f g)) := by
  intro pins s σ H D I h
  obtain ⟨P, α, env, S, r, re, af⟩ := h
  have af1 : AfterG X P α ((ta env S).bind fun d S => .ok d S) fun b S => AfterS X P α (if b then f env S else g env S) D := by
    have := toS_after af
    cases q : ta env S <;> rw [q] at this <;> exact this
  refine wpAny_If (thn (dThenT (fun Q' q => hc pins s σ H Q' I q) r re af1) fun k s1 ⟨H1, P1, α1, S1, I1, r1, re1, e1, e2, af2⟩ => ?_)
  cases k with
  | true => exact ha pins s1 σ H1 D I1 ⟨P1, α1, env, S1, r1, re1, AfterS.base e1 e2 af2⟩
  | false => exact hb pins s1 σ H1 D I1 ⟨P1, α1, env, S1, r1, re1, AfterS.base e1 e2 af2⟩

abbrev DG := D → DEnv → Sto → Res DEnv
abbrev DGs := List D → DEnv → Sto → Res DEnv
def OkE (X : Cx) (P : Hp) (α : List Addr) (Q : L2.St → Hp → Prop) (env' : DEnv) (S' : Sto) : Prop := ∀ σ' H' P' α', Rel X.K H' P' α' S' → REnv X.K P' α' σ' env' → Same P P' → α <+: α' → Q σ' H'
def tDG (X : Cx) (g : DG) : TG := fun v σ H Q => ∃ P α env S d, Rel X.K H P α S ∧ REnv X.K P α σ env ∧ Rep X.K P α d v ∧ AfterG X P α (g d env S) (OkE X P α Q)
def tDGs (X : Cx) (g : DGs) : TGs := fun vs σ H Q => ∃ P α env S ds, Rel X.K H P α S ∧ REnv X.K P α σ env ∧ Reps X.K P α ds vs ∧ AfterG X P α (g ds env S) (OkE X P α Q)
theorem REnv.set {K : PySem.W.Frag} {P : Hp} {α : List Addr} {σ : L2.St} {env : DEnv} {d : D} {v : V} (re : REnv K P α σ env) (i : Nat) (rp : Rep K P α d v) : REnv K P α (σ.set i (some v)) (env.set i (some d)) := by
  refine ⟨by simp [re.1], fun j d' e => ?_⟩
  by_cases hj : i = j
  · subst hj
    by_cases hi : i < env.length
    · rw [List.getElem?_set_self hi] at e
      cases e
      exact ⟨v, by rw [List.getElem?_set_self (by rw [← re.1]; exact hi)], rp⟩
    · rw [List.getElem?_eq_none (by simp; omega)] at e; cases e
  · rw [List.getElem?_set_ne hj] at e ⊢
    exact re.2 j d' e
def gNm (i : Nat) : DG := fun d env S => .ok (env.set i (some d)) S
theorem dg_name {i : Nat} {x : Str} (hN : X.N.Nodup) (hi : X.N[i]? = some x := by rfl) (hx : Loc X.env.scope x := by first | exact Or.inl rfl | exact Or.inr rfl) (hf : X.fn x = true ∨ X.env.scope.names.lookup x = some .local := by first | exact .inl rfl | exact .inr rfl | assumption) : PG X (.Name x pos) (tDG X (gNm i)) := by
  intro pins s σ H v u Q I rv h
  obtain ⟨P, α, env, S, d, r, re, rp, af⟩ := h
  exact pg_name hN hi hx hf pins s σ H v u Q I rv (af _ H P α r (re.set i rp) (Same.refl _) (List.prefix_refl _))
def gsNil : DGs := fun ds env S => match ds with
  | [] => .ok env S
  | _ => .bad
def gsCons (g : DG) (gs : DGs) : DGs := fun ds env S => match ds with
  | d :: r => (g d env S).bind fun env1 S1 => gs r env1 S1
  | [] => .bad
theorem dgs_nil : PGs X [] (tDGs X gsNil) := by
  intro pins s σ H vs us Q I rv h
  obtain ⟨P, α, env, S, ds, r, re, rp, af⟩ := h
  cases ds with
  | nil => exact pgs_nil pins s σ H vs us Q I rv ⟨rp.nil_inv, af σ H P α r re (Same.refl _) (List.prefix_refl _)⟩
  | cons d ds => exact False.elim af
theorem dgs_cons {es : List Expr} {g : DG} {gs : DGs} (h1 : PG X e (tDG X g)) (h2 : PGs X es (tDGs X gs)) (hs : (assignEach (e :: es) X.env).map (·.2) = assign e X.env :: (assignEach es X.env).map (·.2) := by rfl) : PGs X (e :: es) (tDGs X (gsCons g gs)) := by
  intro pins s σ H vs us Q I rv h
  obtain ⟨P, α, env, S, ds, r, re, rp, af⟩ := h
  cases ds with
  | nil => exact False.elim af
  | cons d ds =>
    obtain ⟨w, ws, rfl, p1, p2⟩ := rp.cons_inv
    refine pgs_cons h1 h2 hs pins s σ H _ us Q I rv ⟨w, ws, rfl, P, α, env, S, d, r, re, p1, ?_⟩
    have af' : AfterG X P α ((g d env S).bind fun env1 S1 => gs ds env1 S1) (OkE X P α Q) := af
    cases q : g d env S with
    | bad => rw [q] at af'; exact af'
    | ex c x S' => rw [q] at af'; exact af'
    | ok env1 S1 =>
      rw [q] at af'
      intro σ' H' P' α' r' re' e1 e2
      refine ⟨P', α', env1, S1, ds, r', re', Reps.mono e1 e2 _ _ p2, AfterG.base' e1 e2 (fun env' S' ok σ2 H2 P2 α2 r2 re2 e3 e4 => ok σ2 H2 P2 α2 r2 re2 (e1.trans e3) (e2.trans e4)) af'⟩
def gTp (n : Nat) (gs : DGs) : DG := fun d env S => match d with
  | .tup xs => if xs.length = n then gs xs env S else .bad
  | _ => .bad
theorem dg_tup {es : List Expr} {k : Nat} {gs : DGs} {n : Nat} (hc : X.calm = true) (h : PGs X es (tDGs X gs)) (hn : (assignEach es X.env).length = n := by rfl) (hst : (assignEach es X.env).findIdx? (·.1) = none := by rfl) : PG X (.Tuple es k pos) (tDG X (gTp n gs)) := by
  intro pins s σ H v u Q I rv hw
  obtain ⟨P, α, env, S, d, r, re, rp, af⟩ := hw
  cases d with
  | tup xs =>
    simp only [Rep] at rp
    obtain ⟨a, vs, rfl, q, t⟩ := rp
    simp only [gTp] at af
    split at af
    · rename_i hl
      exact pg_tup hc h hn hst pins s σ H _ u Q I rv ⟨a, vs, rfl, sqT_sub r.sub q, by rw [← t.length]; exact hl, P, α, env, S, xs, r, re, t, af⟩
    · exact False.elim af
  | _ => exact False.elim af
abbrev G3 := D → D → D → Sto → Res Unit
def OkU (X : Cx) (P : Hp) (α : List Addr) (Q : Hp → Prop) (_ : Unit) (S' : Sto) : Prop := ∀ H' P' α', Rel X.K H' P' α' S' → Same P P' → α <+: α' → Q H'
def tDSet (X : Cx) (g : G3) : TSet := fun o i v H Q => ∃ P α S a b d, Rel X.K H P α S ∧ Rep X.K P α a o ∧ Rep X.K P α b i ∧ Rep X.K P α d v ∧ AfterG X P α (g a b d S) (OkU X P α Q)
def gSb (fo fi : DE) (g : G3) : DG := fun d env S => (fo env S).bind fun o S1 => (fi env S1).bind fun i S2 => (g o i d S2).bind fun _ S3 => .ok env S3
theorem dg_sub {o i : Expr} {fo fi : DE} {g : G3} (ho : PE X o (tD X fo)) (hi : PE X i (tD X fi)) (hs : PSet X (tDSet X g))
    (ha : ∀ v, assign (.Subscript o i pos) X.env v = (do
      let ov ← holding [v] (eval o X.env)
      let iv ← holding [v, ov] (eval i X.env)
      standAt pos
      holding [v, ov, iv] (setItem ov iv v)
      release [v, ov, iv] []) := by intro _; rfl) : PG X (.Subscript o i pos) (tDG X (gSb fo fi g)) := by
  intro pins s σ H v u Q I rv h
  obtain ⟨P, α, env, S, d, r, re, rp, af⟩ := h
  rw [ha]
  refine wpAny_bind (wpAny_holding (thn (dThen ho I r re af) fun ov s1 ⟨x, H1, P1, α1, d1, S1, G1, af1⟩ => ?_))
  refine wpAny_bind (wpAny_holding (thn (dThen hi G1.inv G1.rel G1.env (P := P1) (α := α1) (Ok := OkE X P1 α1 Q) (AfterG.base' G1.same G1.pre (fun env' S' ok σ2 H2 P2 α2 r2 re2 e3 e4 => ok σ2 H2 P2 α2 r2 re2 (G1.same.trans e3) (G1.pre.trans e4)) af1)) fun iv s2 ⟨y, H2, P2, α2, d2, S2, G2, af2⟩ => ?_))
  refine wpAny_bind (wpAny_standAt (wpAny_bind (wpAny_holding (thn (hs pins s2 σ H2 x y v ov iv u (fun H3 => Q σ H3) G2.inv G1.val G2.val rv ⟨P2, α2, S2, d1, d2, d, G2.rel, Rep.mono G2.same G2.pre _ _ G1.rep, G2.rep, Rep.mono (G1.same.trans G2.same) (G1.pre.trans G2.pre) _ _ rp, ?_⟩) fun _ s3 ⟨H3, I3, q3⟩ => ?_))))
  · cases q : g d1 d2 d S2 with
    | bad => rw [q] at af2; exact af2
    | ex c x S' => rw [q] at af2; exact fun u s' z => af2 u s' (z.base G2.same G2.pre)
    | ok w S3 =>
      rw [q] at af2
      exact fun H' P' α' r' e1 e2 => af2 σ H' P' α' r' (G2.env.mono e1 e2) (G2.same.trans e1) (G2.pre.trans e2)
  · exact wpAny_release ⟨σ, H3, I3, q3⟩
def sAsg (f : DE) (g : DG) : DS := fun env S => (f env S).toS env fun d S1 => (g d env S1).toS env fun env' S2 => .nx env' S2
theorem asg_after {g : DG} {d : D} {env : DEnv} {S : Sto} {P : Hp} {α : List Addr} {D' : Ends} (h : AfterS X P α ((g d env S).toS env fun env' S2 => .nx env' S2) D') : AfterG X P α (g d env S) (OkE X P α D'.nx) := by
  cases q : g d env S with
  | bad => rw [q] at h; exact h
  | ex c x S' => rw [q] at h; exact h
  | ok env1 S1 => rw [q] at h; exact h
theorem ds_asg {tg e : Expr} {g : DG} (he : PE X e (tD X fa)) (hg : PG X tg (tDG X g)) (hs : swapsWithSole [tg] e pos.line X.env = pure false := by rfl) (hw : swappedStores [tg] e X.env = pure none := by rfl)
    (h1 : (assignEach [tg] X.env).map (·.2) = [assign tg X.env] := by rfl) : PS X (.Assign [tg] e pos) (tDS X (sAsg fa g)) := by
  intro pins s σ H D I h
  obtain ⟨P, α, env, S, r, re, af⟩ := h
  refine wpAny_Assign_stores (thn (dThenS he I r re af) fun v s1 ⟨x, H1, P1, α1, d, S1, G, q⟩ => ?_) hs hw
  rw [h1]
  exact thn (hg pins s1 σ H1 x v _ G.inv G.val ⟨P1, α1, env, S1, d, G.rel, G.env, G.rep, asg_after q⟩) fun _ s2 q => q
theorem ds_set {i : Nat} {x : Str} {e : Expr} {pos' : Pos} (hN : X.N.Nodup) (he : PE X e (tD X fa)) (hi : X.N[i]? = some x := by rfl) (hx : Loc X.env.scope x := by first | exact Or.inl rfl | exact Or.inr rfl) (hs : swapsWith e (some (.Name x pos')) pos.line X.env = pure false := by rfl)
    (hf : X.fn x = true ∨ X.env.scope.names.lookup x = some .local := by first | exact .inl rfl | exact .inr rfl | assumption) : PS X (.Assign [.Name x pos'] e pos) (tDS X (sAsg fa (gNm i))) := by
  intro pins s σ H D I h
  obtain ⟨P, α, env, S, r, re, af⟩ := h
  refine wpAny_Assign_Name (thn (dThenS he I r re af) fun v s1 ⟨y, H1, P1, α1, d, S1, G, q⟩ => ?_) hs
  exact store_ok G.inv hN hi hx G.val (fun s2 I2 => ⟨_, H1, I2, q _ H1 P1 α1 G.rel (G.env.set i G.rep) (Same.refl _) (List.prefix_refl _)⟩) hf
/-- a, b = x, y -/
def parOut (i j : Nat) (env : DEnv) (S1 : Sto) : List D → Out
  | [x, y] => .nx ((env.set i (some x)).set j (some y)) S1
  | _ => .bad
def sPar (i j : Nat) (f : DA) : DS := fun env S => (f env S).toS env fun ds S1 => parOut i j env S1 ds
theorem ds_par {i j : Nat} {x y : Str} {a b : Expr} {f : DA} {px py pt : Pos} {kt k2 pt2} (hc : X.calm = true) (hN : X.N.Nodup) (ha : PA X [a, b] (tDA X f)) (hi : X.N[i]? = some x := by rfl) (hj : X.N[j]? = some y := by rfl) (hij : i ≠ j := by decide)
    (hx : X.env.scope.names.lookup x = some .local := by rfl) (hy : X.env.scope.names.lookup y = some .local := by rfl)
    (hw : swappedStores [.Tuple [.Name x px, .Name y py] kt pt] (.Tuple [a, b] k2 pt2) X.env = pure (some [x, y]) := by rfl)
    (hs : swapsWithSole [.Tuple [.Name x px, .Name y py] kt pt] (.Tuple [a, b] k2 pt2) pos.line X.env = pure false := by rfl) :
    PS X (.Assign [.Tuple [.Name x px, .Name y py] kt pt] (.Tuple [a, b] k2 pt2) pos) (tDS X (sPar i j f)) := psW (ps_par hc hN hi hj hij hx hy ha hw hs) fun D σ H ⟨P, α, env, S, r, re, af⟩ => by
  refine ⟨P, α, env, S, r, re, ?_⟩
  have af1 := toS_after af
  cases q : f env S with
  | bad => rw [q] at af1; exact af1
  | ex c x S' => rw [q] at af1; exact af1
  | ok ds S1 =>
    rw [q] at af1
    intro vs H' P' α' r' e1 e2 rp
    have af2 : AfterS X P α (parOut i j env S1 ds) D := af1
    cases ds with
    | nil => exact False.elim af2
    | cons d ds => cases ds with
      | nil => exact False.elim af2
      | cons d' ds => cases ds with
        | cons _ _ => exact False.elim af2
        | nil =>
          obtain ⟨w, ws, rfl, p1, t⟩ := rp.cons_inv
          obtain ⟨w', ws', rfl, p2, t⟩ := t.cons_inv
          rw [t.nil_inv]
          exact ⟨w, w', rfl, af2 _ _ P' α' r' (((re.mono e1 e2).set i p1).set j p2) e1 e2⟩
end
end DL
end

-- Dl
section
set_option Elab.async false
set_option linter.all false
set_option maxRecDepth 100000
namespace DL
open PySem PySem.Spec PyProof.Rows L2
structure ItD (K : PySem.W.Frag) (J : It) (P : Hp) (α : List Addr) (ds : List D) : Prop where
  go : ∀ i H P1 α1 S, i < ds.length → Rel K H P1 α1 S → Same P P1 → α <+: α1 → J.go i H
  yld : ∀ i H x H' P1 α1 S, i < ds.length → Rel K H P1 α1 S → Same P P1 → α <+: α1 → J.yld i H x H' → ∃ P2 d, ds[i]? = some d ∧ Rel K H' P2 α1 S ∧ Same P1 P2 ∧ Rep K P2 α1 d x
  stop : ∀ i H P1 α1 S, ds.length ≤ i → Rel K H P1 α1 S → Same P P1 → α <+: α1 → J.stop i H
abbrev DI := DEnv → Sto → Res (List D)
def OkI (X : Cx) (P : Hp) (α : List Addr) (R : It → Hp → Prop) (ds : List D) (S' : Sto) : Prop := ∀ J H' P' α', Rel X.K H' P' α' S' → Same P P' → α <+: α' → ItD X.K J P' α' ds → R J H'
def tDI (X : Cx) (f : DI) : TI := fun σ H R => ∃ P α env S, Rel X.K H P α S ∧ REnv X.K P α σ env ∧ AfterG X P α (f env S) (OkI X P α R)
def resO {β : Type} (o : Option β) (S : Sto) : Res β := match o with
  | some b => .ok b S
  | none => .bad
theorem resO_ok {X : Cx} {β : Type} {o : Option β} {S : Sto} {P : Hp} {α : List Addr} {Ok : β → Sto → Prop} (h : AfterG X P α (resO o S) Ok) : ∃ b, o = some b ∧ Ok b S := by
  cases o with
  | none => exact False.elim h
  | some b => exact ⟨b, rfl, h⟩
def itemsD : D → Option (List D)
  | .tup xs => some xs
  | .lst xs => some xs
  | _ => none
def dItems (f : DE) : DI := fun env S => (f env S).bind fun d S1 => resO (itemsD d) S1
section
variable {X : Cx} {K : PySem.W.Frag} {tg e : Expr} {fa : DE} {pos : Pos}
theorem itd_list {P : Hp} {α : List Addr} {a : Addr} {ds : List D} {vs : List V} (q : SqL K P a vs) (t : Reps K P α ds vs) : ItD K (Itl K a) P α ds where
  go := fun i H P1 α1 S hi r e _ => ⟨vs, vs[i]'(by rw [← t.length]; exact hi), (e.trans r.sub).seq q, by simp⟩
  yld := fun i H x H' P1 α1 S hi r e e2 y => by
    obtain ⟨rfl, y⟩ := y
    have hx := y vs ((e.trans r.sub).seq q)
    obtain ⟨v, h1, h2⟩ := t.get (List.getElem?_eq_getElem hi)
    rw [hx] at h1; cases h1
    exact ⟨P1, _, List.getElem?_eq_getElem hi, r, Same.refl _, Rep.mono e e2 _ _ h2⟩
  stop := fun i H P1 α1 S hi r e _ => ⟨vs, (e.trans r.sub).seq q, by rw [← t.length]; exact hi⟩
theorem itd_tup {P : Hp} {α : List Addr} {a : Addr} {ds : List D} {vs : List V} (q : SqT K P a vs) (t : Reps K P α ds vs) : ItD K (Itt K a) P α ds where
  go := fun i H P1 α1 S hi r e _ => ⟨vs, vs[i]'(by rw [← t.length]; exact hi), sqT_mono (e.trans r.sub) q, by simp⟩
  yld := fun i H x H' P1 α1 S hi r e e2 y => by
    obtain ⟨rfl, y⟩ := y
    have hx := y vs (sqT_mono (e.trans r.sub) q)
    obtain ⟨v, h1, h2⟩ := t.get (List.getElem?_eq_getElem hi)
    rw [hx] at h1; cases h1
    exact ⟨P1, _, List.getElem?_eq_getElem hi, r, Same.refl _, Rep.mono e e2 _ _ h2⟩
  stop := fun i H P1 α1 S hi r e _ => ⟨vs, sqT_mono (e.trans r.sub) q, by rw [← t.length]; exact hi⟩
/-- an iterator of a value -/
theorem iter_val {pins : List (Addr × Obj)} {σ : L2.St} {H P : Hp} {α : List Addr} {S : Sto} {s : Shared} {v : V} {vv : Value} {d : D} {ds : List D} {R : It → Hp → Prop} (I : Inv X pins σ H s) (r : Rel X.K H P α S) (rv : RelV v vv) (rp : Rep X.K P α d v) (hd : itemsD d = some ds)
    (q : OkI X P α R ds S) : wpAny (model X.prog X.w) X.A (pyIter vv) (PIE X pins σ tg R) X.xe s := by
  cases d with
  | tup xs =>
    cases hd
    simp only [Rep] at rp
    obtain ⟨a, vs, rfl, sq, t⟩ := rp
    cases rv
    obtain ⟨its, rv, p, hz⟩ := I.tuple (sqT_sub r.sub sq)
    refine wpAny_pyIter_tuple (show s.heap.IsTuple a its.toArray from p) ?_
    refine ⟨s.heap.objs.size, [s.heap.objs.size], _, _, H, rfl, I.kept (t' := s.toks) fun b o e => Heap.get?_push_of_some _ e, turn_tuple a _, ⟨_, Heap.get?_push_size _ rfl, rfl, rfl⟩, fun b hb => ?_, q _ _ P α r (Same.refl _) (List.prefix_refl _) (itd_tup sq t)⟩
    have e : b = s.heap.objs.size := by simpa using hb
    subst e
    exact I.fpOk (Nat.le_refl _) (I.hok.fresh (Nat.le_refl _))
  | lst xs =>
    cases hd
    simp only [Rep] at rp
    obtain ⟨a, vs, rfl, sq, t⟩ := rp
    cases rv
    obtain ⟨its, rv, p, hz⟩ := I.list ((sqX_mono r.sub sq).l)
    refine wpAny_pyIter_list p.isList ?_
    refine ⟨s.heap.objs.size, [s.heap.objs.size], _, _, H, rfl, I.kept (t' := s.toks) fun b o e => Heap.get?_push_of_some _ e, turn_list a _, ⟨_, Heap.get?_push_size _ rfl, rfl, rfl⟩, fun b hb => ?_, q _ _ P α r (Same.refl _) (List.prefix_refl _) (itd_list sq.l t)⟩
    have e : b = s.heap.objs.size := by simpa using hb
    subst e
    exact I.fpOk (Nat.le_refl _) (I.hok.fresh (Nat.le_refl _))
  | _ => cases hd
theorem OkI.base {P P1 : Hp} {α α1 : List Addr} {R : It → Hp → Prop} {ds : List D} {S : Sto} (e : Same P P1) (h : α <+: α1) (k : OkI X P α R ds S) : OkI X P1 α1 R ds S := fun J H' P' α' r q1 q2 q3 => k J H' P' α' r (e.trans q1) (h.trans q2) q3
theorem di_val (ha : PE X e (tD X fa)) : PI X tg e (tDI X (dItems fa)) := by
  intro pins s σ H R I h
  obtain ⟨P, α, env, S, r, re, af⟩ := h
  refine thn (dThen ha I r re af) fun vv s1 ⟨v, H1, P1, α1, d, S1, G1, af1⟩ => ?_
  obtain ⟨ds, e1, q⟩ := resO_ok af1
  exact iter_val G1.inv G1.rel G1.val G1.rep e1 (q.base G1.same G1.pre)
def rangeD (lo : Int) (n : Nat) : List D := (List.range n).map fun (i : Nat) => D.int (lo + (i : Int))
theorem rangeD_len (lo : Int) (n : Nat) : (rangeD lo n).length = n := by simp [rangeD]
theorem itd_range {P : Hp} {α : List Addr} {lo : Int} {n : Nat} : ItD K (Itr lo n) P α (rangeD lo n) where
  go := fun i H P1 α1 S hi r e _ => by rw [rangeD_len] at hi; exact hi
  yld := fun i H x H' P1 α1 S hi r e e2 y => by
    obtain ⟨rfl, rfl⟩ := y
    rw [rangeD_len] at hi
    exact ⟨P1, .int (lo + i), by simp [rangeD, hi], r, Same.refl _, by simp only [Rep]⟩
  stop := fun i H P1 α1 S hi r e _ => by rw [rangeD_len] at hi; exact hi
def rngI (ds : List D) : Option (List D) := match ds with
  | [.int j] => if -(2 ^ 62) ≤ j ∧ j < 2 ^ 62 then some (rangeD 0 j.toNat) else none
  | [.int i, .int j] => if -(2 ^ 62) ≤ i ∧ i < 2 ^ 62 ∧ -(2 ^ 62) ≤ j ∧ j < 2 ^ 62 then some (rangeD i (j - i).toNat) else none
  | _ => none
def dRng (f : DA) : DI := fun env S => (f env S).bind fun ds S1 => resO (rngI ds) S1
theorem rng1 {ds its : List D} {v : V} {P : Hp} {α : List Addr} (rp : Reps X.K P α ds [v]) (h : rngI ds = some its) : ∃ j, v = .int j ∧ -(2 ^ 62) ≤ j ∧ j < 2 ^ 62 ∧ its = rangeD 0 j.toNat := by
  cases ds with
  | nil => cases h
  | cons d ds =>
    obtain ⟨w, ws, e, p1, t⟩ := rp.cons_inv
    cases e
    cases ds with
    | cons _ _ => have := t.length; simp at this
    | nil =>
      cases d with
      | int j =>
        simp only [Rep] at p1
        simp only [rngI] at h
        split at h
        · rename_i hb; cases h; exact ⟨j, p1, hb.1, hb.2, rfl⟩
        · cases h
      | _ => cases h
theorem rng2 {ds its : List D} {v u : V} {P : Hp} {α : List Addr} (rp : Reps X.K P α ds [v, u]) (h : rngI ds = some its) : ∃ i j, v = .int i ∧ u = .int j ∧ (-(2 ^ 62) ≤ i ∧ i < 2 ^ 62 ∧ -(2 ^ 62) ≤ j ∧ j < 2 ^ 62) ∧ its = rangeD i (j - i).toNat := by
  cases ds with
  | nil => cases h
  | cons d ds =>
    obtain ⟨w, ws, e, p1, t⟩ := rp.cons_inv
    cases e
    cases ds with
    | nil => have := t.length; simp at this
    | cons d' ds =>
      obtain ⟨w, ws, e, p2, t⟩ := t.cons_inv
      cases e
      cases ds with
      | cons _ _ => have := t.length; simp at this
      | nil =>
        cases d with
        | int i =>
          cases d' with
          | int j =>
            simp only [Rep] at p1 p2
            simp only [rngI] at h
            split at h
            · rename_i hb; cases h; exact ⟨i, j, p1, p2, hb, rfl⟩
            · cases h
          | _ => cases h
        | _ => cases d' <;> cases h
end
section
variable {X : Cx} {tg a b : Expr} {f : DA} {p pos : Pos}
theorem vals_len1 {vs : List V} {us : List Value} (r : Vals vs us) (h : us.length = 1) : ∃ v, vs = [v] := by
  have := r.length
  cases vs with
  | nil => simp at this; omega
  | cons v vs => cases vs with
    | nil => exact ⟨v, rfl⟩
    | cons _ _ => simp at this; omega
theorem vals_len2 {vs : List V} {us : List Value} (r : Vals vs us) (h : us.length = 2) : ∃ v w, vs = [v, w] := by
  have := r.length
  cases vs with
  | nil => simp at this; omega
  | cons v vs => cases vs with
    | nil => simp at this; omega
    | cons w vs => cases vs with
      | nil => exact ⟨v, w, rfl⟩
      | cons _ _ => simp at this; omega
theorem di_range {e : Expr} {es : List Expr} (hg : Gl X "range") (hm : X.mg "range" = none) (ha : PA X (e :: es) (tDA X f)) (hs : starEach (e :: es) X.env = (false, eval e X.env) :: starEach es X.env := by rfl) (hpl : (backTo pos (starEach es X.env)).any (·.1) = false := by rfl) :
    PI X tg (.Call (.Name "range" p) (e :: es) [] pos) (tDI X (dRng f)) := by
  intro pins s σ H R I h
  obtain ⟨P, α, env, S, r, re, af⟩ := h
  refine Call_ (ld_blt I hg hm boot_range (PyProof.Rows.callWith_type1 (thn (dThenA ha I r re af pos) fun us s1 ⟨vs, H1, P1, α1, ds, S1, I1, rv, r1, re1, rp, e1, e2, af1⟩ => ?_) hs hpl))
  obtain ⟨its, hi, q⟩ := resO_ok af1
  have hl : ds.length = 1 ∨ ds.length = 2 := by
    unfold rngI at hi
    split at hi
    · exact .inl rfl
    · exact .inr rfl
    · cases hi
  have l1 := rp.length
  have l2 := rv.length
  rcases hl with hl | hl
  · obtain ⟨v, rfl⟩ := vals_len1 rv (by omega)
    obtain ⟨j, rfl, q1, q2, rfl⟩ := rng1 rp hi
    obtain ⟨u, rfl, t, rfl⟩ := vals1 rv
    refine call_range_1 (range_it I1 (by omega) (by omega) q1 q2 ?_)
    have z := q (Itr 0 j.toNat) H1 P1 α1 r1 e1 e2 itd_range
    simpa using z
  · obtain ⟨v, w, rfl⟩ := vals_len2 rv (by omega)
    obtain ⟨i, j, rfl, rfl, ⟨q1, q2, q3, q4⟩, rfl⟩ := rng2 rp hi
    obtain ⟨u, u', rfl, ⟨t, rfl⟩, t', rfl⟩ := vals2 rv
    exact call_range_2 (range_it I1 q1 q2 q3 q4 (q (Itr i (j - i).toNat) H1 P1 α1 r1 e1 e2 itd_range))

def loopD (g : DG) (f : DS) : List D → DEnv → Sto → Out
  | [], env, S => .nx env S
  | d :: ds, env, S => (g d env S).toS env fun env1 S1 => match f env1 S1 with
    | .nx env2 S2 => loopD g f ds env2 S2
    | .ct env2 S2 => loopD g f ds env2 S2
    | .bk env2 S2 => .nx env2 S2
    | o => o
def sFor (fi : DI) (g : DG) (f : DS) : DS := fun env S => (fi env S).toS env fun ds S1 => loopD g f ds env S1
def LoopW (X : Cx) (P1 : Hp) (α1 : List Addr) (g : DG) (f : DS) (ds : List D) (D : Ends) (i m : Nat) (σ : L2.St) (H : Hp) : Prop :=
  i ≤ ds.length ∧ m = ds.length - i ∧ ∃ P2 α2 env2 S2, Rel X.K H P2 α2 S2 ∧ REnv X.K P2 α2 σ env2 ∧ Same P1 P2 ∧ α1 <+: α2 ∧ AfterS X P2 α2 (loopD g f (ds.drop i) env2 S2) D
theorem ds_for {iter : Expr} {body : List Stmt} {fi : DI} {g : DG} {f : DS} (hp : PassesOwn (model X.prog X.w) X.A X.env X.xe) (hc : X.calm = true) (hi : PI X tg iter (tDI X fi)) (hg : PG X tg (tDG X g)) (hb : PSs X body (tDS X f))
    (hs : ∀ x, foldedSetIterable iter X.env x = pure x := by intro _; rfl) : PS X (.For tg iter body [] pos) (tDS X (sFor fi g f)) := psW (ps_for hp hc hi hg hb hs) fun D σ H ⟨P, α, env, S, r, re, af⟩ => by
  refine ⟨P, α, env, S, r, re, ?_⟩
  have af1 := toS_after af
  cases q : fi env S with
  | bad => rw [q] at af1; exact af1
  | ex c x S' => rw [q] at af1; exact af1
  | ok ds S1 =>
    rw [q] at af1
    have af2 : AfterS X P α (loopD g f ds env S1) D := af1
    intro J H1 P1 α1 r1 e1 e2 it
    refine ⟨LoopW X P1 α1 g f ds D,
      ⟨ds.length, Nat.zero_le _, rfl, P1, α1, env, S1, r1, re.mono e1 e2, Same.refl _, List.prefix_refl _, AfterS.base e1 e2 af2⟩, ?_⟩
    rintro i m σ2 H2 ⟨hi, rfl, P2, α2, env2, S2, r2, re2, e3, e4, af3⟩
    by_cases hlt : i < ds.length
    · refine .inr ⟨it.go i H2 P2 α2 S2 hlt r2 e3 e4, LoopW X P1 α1 g f ds D (i + 1) (ds.length - (i + 1)), fun σ' H' w => ⟨_, ?_, w⟩, fun x H3 y => ?_⟩
      · omega
      · obtain ⟨P3, d, hd, r3, e5, rp⟩ := it.yld i H2 x H3 P2 α2 S2 hlt r2 e3 e4 y
        have hdr : ds.drop i = d :: ds.drop (i + 1) := by
          rw [List.drop_eq_getElem_cons hlt]
          rw [List.getElem?_eq_getElem hlt] at hd
          rw [Option.some.inj hd]
        rw [hdr] at af3
        have af4 := toS_after (AfterS.base e5 (List.prefix_refl _) af3)
        refine ⟨P3, α2, env2, S2, d, r3, re2.mono e5 (List.prefix_refl _), rp, ?_⟩
        cases q2 : g d env2 S2 with
        | bad => rw [q2] at af4; exact af4
        | ex c x S' => rw [q2] at af4; exact af4
        | ok env3 S3 =>
          rw [q2] at af4
          intro σ4 H4 P4 α4 r4 re4 e6 e7
          refine ⟨P4, α4, env3, S3, r4, re4, ?_⟩
          have af5 := AfterS.base e6 e7 af4
          cases q3 : f env3 S3 with
          | bad => simp only [q3] at af5; exact af5
          | ex c x env4 S4 => simp only [q3] at af5; exact af5
          | rt d4 S4 => simp only [q3] at af5; exact af5
          | bk env4 S4 => simp only [q3] at af5; exact af5
          | nx env4 S4 =>
            simp only [q3] at af5
            exact fun σ5 H5 P5 α5 r5 re5 e8 e9 => ⟨hlt, rfl, P5, α5, env4, S4, r5, re5, ((e3.trans e5).trans e6).trans e8, (e4.trans e7).trans e9, AfterS.base e8 e9 af5⟩
          | ct env4 S4 =>
            simp only [q3] at af5
            exact fun σ5 H5 P5 α5 r5 re5 e8 e9 => ⟨hlt, rfl, P5, α5, env4, S4, r5, re5, ((e3.trans e5).trans e6).trans e8, (e4.trans e7).trans e9, AfterS.base e8 e9 af5⟩
    · have hdr : ds.drop i = [] := List.drop_eq_nil_of_le (by omega)
      rw [hdr] at af3
      exact .inl ⟨it.stop i H2 P2 α2 S2 (by omega) r2 e3 e4, af3 σ2 H2 P2 α2 r2 re2 (Same.refl _) (List.prefix_refl _)⟩
end
end DL
end

-- Dc
section
set_option Elab.async false
set_option linter.all false
set_option maxRecDepth 100000
namespace DL
open PySem PySem.Spec PyProof.Rows L2
abbrev DF := List D → Sto → Res D
section
variable {X : Cx} {x : Str} {p pos : Pos} {e : Expr} {es : List Expr} {F : DF} {fa : DA}
def dCallB (F : DF) (fa : DA) : DE := fun env S => (fa env S).bind fun ds S1 => F ds S1
theorem callB_run {F : DF} {u : Value} {pins : List (Addr × Obj)} {s1 : Shared} {σ : L2.St} {H1 P P1 : Hp} {α α1 : List Addr} {vs : List V} {us : List Value} {ds : List D} {S1 : Sto} {Q : VK} (hc : CallD X u F) (I1 : Inv X pins σ H1 s1) (r1 : Rel X.K H1 P1 α1 S1) (rv : Vals vs us)
    (rp : Reps X.K P1 α1 ds vs) (e1 : Same P P1) (e2 : α <+: α1) (af : AfterG X P α (F ds S1) (OkV X P α Q)) : wpAny (model X.prog X.w) X.A (call u us) (EP X pins σ Q) X.xe s1 := hc pins σ H1 s1 P1 α1 S1 vs us ds Q I1 r1 rv rp (After.base e1 e2 af)
theorem de_callB {id : String} (hc : CallD X (.builtin id) F) (hg : Gl X x) (hm : X.mg x = none) (hv : bootBuiltins x = some (.builtin id)) (ha : PA X (e :: es) (tDA X fa)) (hn : x ≠ "__name__" := by decide) (hdb : (x == ("__debug__" : Str)) = false := by decide)
    (he : starEach (e :: es) X.env = (false, eval e X.env) :: starEach es X.env := by rfl) (hpl : (backTo pos (starEach es X.env)).any (·.1) = false := by rfl) : PE X (.Call (.Name x p) (e :: es) [] pos) (tD X (dCallB F fa)) := by
  intro pins s σ H Q I h
  obtain ⟨P, α, env, S, r, re, af⟩ := h
  refine wpAny_Call_Name_kw (ld_blt I hg hm hv ?_ hn hdb)
  exact PyProof.Rows.callWith_builtin1 (thn (dThenA ha I r re af pos) fun us s1 ⟨vs, H1, P1, α1, ds, S1, I1, rv, r1, re1, rp, e1, e2, af1⟩ => callB_run hc I1 r1 rv rp e1 e2 af1) he hpl
theorem de_callTy {T : String} (hc : CallD X (.type T) F) (hg : Gl X x) (hm : X.mg x = none) (hv : bootBuiltins x = some (.type T)) (ha : PA X (e :: es) (tDA X fa)) (hn : x ≠ "__name__" := by decide) (hdb : (x == ("__debug__" : Str)) = false := by decide)
    (he : starEach (e :: es) X.env = (false, eval e X.env) :: starEach es X.env := by rfl) (hpl : (backTo pos (starEach es X.env)).any (·.1) = false := by rfl) : PE X (.Call (.Name x p) (e :: es) [] pos) (tD X (dCallB F fa)) := by
  intro pins s σ H Q I h
  obtain ⟨P, α, env, S, r, re, af⟩ := h
  refine wpAny_Call_Name_kw (ld_blt I hg hm hv ?_ hn hdb)
  exact PyProof.Rows.callWith_type1 (thn (dThenA ha I r re af pos) fun us s1 ⟨vs, H1, P1, α1, ds, S1, I1, rv, r1, re1, rp, e1, e2, af1⟩ => callB_run hc I1 r1 rv rp e1 e2 af1) he hpl
end
end DL
end

-- Dk0
section
set_option Elab.async false
set_option linter.all false
set_option maxRecDepth 100000
namespace DL
open PySem PySem.Spec PyProof.Rows L2
section
variable {X : Cx}
def AccO (K : PySem.W.Frag) (P : Hp) (α : List Addr) (ds : List D) (o : Obj) : Prop := ∃ (its : List Value) (n : Nat) (vs : List V), o = { cls := .type "list", data := .seq its.toArray n } ∧ Vals vs its ∧ Reps K P α ds vs ∧ ds.length ≤ lim
theorem AccO.mono {K : PySem.W.Frag} {P P1 : Hp} {α α1 : List Addr} {ds : List D} {o : Obj} (e : Same P P1) (h : α <+: α1) (a : AccO K P α ds o) : AccO K P1 α1 ds o := by
  obtain ⟨its, n, vs, q1, q2, q3, q4⟩ := a
  exact ⟨its, n, vs, q1, q2, Reps.mono e h _ _ q3, q4⟩
theorem AccO.cell {K : PySem.W.Frag} {P : Hp} {α : List Addr} {ds : List D} {o : Obj} (a : AccO K P α ds o) : ∀ v, o.data ≠ .cell v := by
  obtain ⟨its, n, vs, rfl, _⟩ := a
  intro v z; cases z
end
end DL
end

-- Dk1
section
set_option Elab.async false
set_option linter.all false
set_option maxRecDepth 100000
namespace DL
open PySem PySem.Spec PyProof.Rows L2
section
variable {Y : Cx} {elt tg iter : Expr} {ifs : List Expr} {gens : List Comprehension} {scope : Scope} {pos : Pos} {k : Nat} {g : DG} {t : DT} {fe : DE} {it acc : Addr} {fp : List Addr} {J : It} {tn : Nat → Heap → Prop} {items : List D} {P1 : Hp} {α1 : List Addr} {pins : List (Addr × Obj)}
end
end DL
end

-- Dk2
section
set_option Elab.async false
set_option linter.all false
set_option maxRecDepth 100000
namespace DL
open PySem PySem.Spec PyProof.Rows L2
section
variable {X : Cx} {scope : Scope} {N' : List Str} {cap : List (Option Nat)} {pins : List (Addr × Obj)} {σ : L2.St} {H2 : Hp} {s2 : Shared} {fp : List Addr}
end
end DL
end

-- Dk3
section
set_option Elab.async false
set_option linter.all false
set_option maxRecDepth 100000
namespace DL
open PySem PySem.Spec PyProof.Rows L2
section
variable {X : Cx} {elt tg iter : Expr} {ifs : List Expr} {scope : Scope} {pos : Pos} {N' : List Str} {cap : List (Option Nat)} {fi : DI} {g : DG} {t : DT} {fe : DE}
end
end DL
end

-- Deq
section
set_option Elab.async false
set_option linter.all false
set_option maxRecDepth 100000
namespace DL
open PySem PySem.Spec PyProof.Rows L2 PySem.SeqAt
def b01 (b : Bool) : Int := if b then 1 else 0
mutual
def eqD : D → D → Bool
  | .non, .non => true
  | .bl a, .bl b => a == b
  | .bl a, .int b => b01 a == b
  | .int a, .bl b => a == b01 b
  | .int a, .int b => a == b
  | .str a, .str b => a == b
  | .tup xs, .tup ys => eqDs xs ys
  | .lst xs, .lst ys => eqDs xs ys
  | _, _ => false
def eqDs : List D → List D → Bool
  | [], [] => true
  | x :: xs, y :: ys => eqD x y && eqDs xs ys
  | _, _ => false
end
/-- plain data, at most n deep -/
def pl : Nat → D → Bool
  | _, .non => true
  | _, .bl _ => true
  | _, .int _ => true
  | _, .str _ => true
  | n + 1, .tup xs => xs.all (pl n)
  | n + 1, .lst xs => xs.all (pl n)
  | _, _ => false
theorem eqDs_all : ∀ (xs ys : List D), eqDs xs ys = ((List.range (min xs.length ys.length)).all (fun j => eqD (xs.getD j .non) (ys.getD j .non)) && xs.length == ys.length)
  | [], [] => by simp [eqDs]
  | [], y :: ys => by simp [eqDs]
  | x :: xs, [] => by simp [eqDs]
  | x :: xs, y :: ys => by
    have ih := eqDs_all xs ys
    simp only [eqDs, List.length_cons, Nat.succ_min_succ, List.range_succ_eq_map, List.all_cons, List.getD_cons_zero, List.all_map]
    rw [ih]
    have e : (xs.length + 1 == ys.length + 1) = (xs.length == ys.length) := by simp
    rw [e, Bool.and_assoc]
    rfl
theorem eqDs_len {xs ys : List D} (h : xs.length ≠ ys.length) : eqDs xs ys = false := by
  rw [eqDs_all]
  simp [h]
section
variable {X : Cx} {pins : List (Addr × Obj)} {σ : L2.St} {H P : Hp} {α : List Addr} {S : Sto} {s : Shared}
theorem list_not_tup {a : Addr} {xs ys : List V} (I : Inv X pins σ H s) (h1 : SqL X.K H a xs) (h2 : SqT X.K H a ys) : False := by
  obtain ⟨_, _, ⟨o, n, e, hc, _⟩, _⟩ := I.list h1
  obtain ⟨_, _, ⟨o', e', hc', _⟩, _⟩ := I.tuple h2
  rw [e] at e'; cases e'
  rw [hc] at hc'
  exact absurd hc' (by decide)
theorem eq_same (I : Inv X pins σ H s) (r : Rel X.K H P α S) : ∀ (n : Nat) (d d' : D) (v : V), pl n d = true → pl n d' = true → Rep X.K P α d v → Rep X.K P α d' v → eqD d d' = true := by
  intro n
  have lists : ∀ m, (∀ (d d' : D) (v : V), pl m d = true → pl m d' = true → Rep X.K P α d v → Rep X.K P α d' v → eqD d d' = true) →
      ∀ (ds ds' : List D) (vs : List V), ds.all (pl m) = true → ds'.all (pl m) = true → Reps X.K P α ds vs → Reps X.K P α ds' vs → eqDs ds ds' = true := by
    intro m ih ds
    induction ds with
    | nil =>
      intro ds' vs h1 h2 r1 r2
      have := r1.nil_inv; subst this
      cases ds' with
      | nil => rfl
      | cons d' ds' => obtain ⟨_, _, z, _⟩ := r2.cons_inv; cases z
    | cons d ds ihl =>
      intro ds' vs h1 h2 r1 r2
      obtain ⟨w, ws, rfl, p1, t1⟩ := r1.cons_inv
      cases ds' with
      | nil => have := r2.nil_inv; cases this
      | cons d' ds' =>
        obtain ⟨w', ws', z, p2, t2⟩ := r2.cons_inv
        cases z
        rw [List.all_cons, Bool.and_eq_true] at h1 h2
        simp only [eqDs, Bool.and_eq_true]
        exact ⟨ih d d' w h1.1 h2.1 p1 p2, ihl ds' ws h1.2 h2.2 t1 t2⟩
  induction n with
  | zero =>
    intro d d' v h1 h2 p1 p2
    cases d <;> simp only [pl, Bool.false_eq_true] at h1 <;> cases d' <;> simp only [pl, Bool.false_eq_true] at h2 <;> simp only [Rep] at p1 p2 <;> subst p1 <;> first | (cases p2; simp [eqD]) | cases p2
  | succ m ih =>
    intro d d' v h1 h2 p1 p2
    cases d with
    | tup xs =>
      cases d' with
      | tup ys =>
        simp only [pl] at h1 h2
        simp only [Rep] at p1 p2
        obtain ⟨a, vs, rfl, q1, t1⟩ := p1
        obtain ⟨a', vs', e, q2, t2⟩ := p2
        cases e
        have := I.tuple_inj (sqT_sub r.sub q1) (sqT_sub r.sub q2)
        subst this
        simp only [eqD]
        exact lists m ih xs ys vs h1 h2 t1 t2
      | lst ys =>
        simp only [Rep] at p1 p2
        obtain ⟨a, vs, rfl, q1, t1⟩ := p1
        obtain ⟨a', vs', e, q2, t2⟩ := p2
        cases e
        exact (list_not_tup I ((sqX_mono r.sub q2).l) (sqT_sub r.sub q1)).elim
      | non => simp only [Rep] at p1 p2; obtain ⟨a, vs, rfl, _⟩ := p1; cases p2
      | bl _ => simp only [Rep] at p1 p2; obtain ⟨a, vs, rfl, _⟩ := p1; cases p2
      | int _ => simp only [Rep] at p1 p2; obtain ⟨a, vs, rfl, _⟩ := p1; cases p2
      | str _ => simp only [Rep] at p1 p2; obtain ⟨a, vs, rfl, _⟩ := p1; cases p2
      | _ => simp only [pl, Bool.false_eq_true] at h2
    | lst xs =>
      cases d' with
      | lst ys =>
        simp only [pl] at h1 h2
        simp only [Rep] at p1 p2
        obtain ⟨a, vs, rfl, q1, t1⟩ := p1
        obtain ⟨a', vs', e, q2, t2⟩ := p2
        cases e
        have := I.list_inj ((sqX_mono r.sub q1).l) ((sqX_mono r.sub q2).l)
        subst this
        simp only [eqD]
        exact lists m ih xs ys vs h1 h2 t1 t2
      | tup ys =>
        simp only [Rep] at p1 p2
        obtain ⟨a, vs, rfl, q1, t1⟩ := p1
        obtain ⟨a', vs', e, q2, t2⟩ := p2
        cases e
        exact (list_not_tup I ((sqX_mono r.sub q1).l) (sqT_sub r.sub q2)).elim
      | non => simp only [Rep] at p1 p2; obtain ⟨a, vs, rfl, _⟩ := p1; cases p2
      | bl _ => simp only [Rep] at p1 p2; obtain ⟨a, vs, rfl, _⟩ := p1; cases p2
      | int _ => simp only [Rep] at p1 p2; obtain ⟨a, vs, rfl, _⟩ := p1; cases p2
      | str _ => simp only [Rep] at p1 p2; obtain ⟨a, vs, rfl, _⟩ := p1; cases p2
      | _ => simp only [pl, Bool.false_eq_true] at h2
    | non => cases d' <;> simp only [pl, Bool.false_eq_true] at h2 <;> simp only [Rep] at p1 p2 <;> subst p1 <;> first | (obtain ⟨_, _, z, _⟩ := p2; cases z; done) | (cases p2; simp [eqD]; done) | (cases p2; done)
    | bl _ => cases d' <;> simp only [pl, Bool.false_eq_true] at h2 <;> simp only [Rep] at p1 p2 <;> subst p1 <;> first | (obtain ⟨_, _, z, _⟩ := p2; cases z; done) | (cases p2; simp [eqD]; done) | (cases p2; done)
    | int _ => cases d' <;> simp only [pl, Bool.false_eq_true] at h2 <;> simp only [Rep] at p1 p2 <;> subst p1 <;> first | (obtain ⟨_, _, z, _⟩ := p2; cases z; done) | (cases p2; simp [eqD]; done) | (cases p2; done)
    | str _ => cases d' <;> simp only [pl, Bool.false_eq_true] at h2 <;> simp only [Rep] at p1 p2 <;> subst p1 <;> first | (obtain ⟨_, _, z, _⟩ := p2; cases z; done) | (cases p2; simp [eqD]; done) | (cases p2; done)
    | _ => simp only [pl, Bool.false_eq_true] at h1
/-- a plain datum's value -/
inductive Kd (X : Cx) (P : Hp) (α : List Addr) (s : Shared) : D → Value → Prop where
  | non : Kd X P α s .non .none
  | bl (b : Bool) : Kd X P α s (.bl b) (.bool b)
  | int (i : Int) (t : Tok) : Kd X P α s (.int i) (.int i t)
  | str (x : Str) (t : Tok) : Kd X P α s (.str x) (.str x t)
  | tup (a : Addr) (xs : List D) (its : List Value) (vs : List V) (rp : Reps X.K P α xs vs) (rv : Vals vs its) (h : s.heap.IsTuple a its.toArray) (q : SqT X.K P a vs) : Kd X P α s (.tup xs) (.ref a)
  | lst (a : Addr) (xs : List D) (its : List Value) (vs : List V) (rp : Reps X.K P α xs vs) (rv : Vals vs its) (h : s.heap.IsList a its.toArray) (q : SqX X.K P a vs) : Kd X P α s (.lst xs) (.ref a)
theorem kd_of (I : Inv X pins σ H s) (r : Rel X.K H P α S) {n : Nat} {d : D} {v : V} {u : Value} (h : pl n d = true) (p : Rep X.K P α d v) (rv : RelV v u) : Kd X P α s d u := by
  cases d with
  | non => simp only [Rep] at p; subst p; cases rv; exact .non
  | bl b => simp only [Rep] at p; subst p; cases rv; exact .bl b
  | int i => simp only [Rep] at p; subst p; obtain ⟨t, rfl⟩ := rv; exact .int i t
  | str x => simp only [Rep] at p; subst p; obtain ⟨t, rfl⟩ := rv; exact .str x t
  | tup xs =>
    simp only [Rep] at p
    obtain ⟨a, vs, rfl, q, t⟩ := p
    cases rv
    obtain ⟨its, r1, p1, _⟩ := I.tuple (sqT_sub r.sub q)
    exact .tup a xs its vs t r1 p1 q
  | lst xs =>
    simp only [Rep] at p
    obtain ⟨a, vs, rfl, q, t⟩ := p
    cases rv
    obtain ⟨its, r1, p1, _⟩ := I.list ((sqX_mono r.sub q).l)
    exact .lst a xs its vs t r1 p1.isList q
  | _ => cases n <;> simp only [pl, Bool.false_eq_true] at h
theorem items_at {ds : List D} {vs : List V} {its : List Value} (rp : Reps X.K P α ds vs) (rv : Vals vs its) {j : Nat} (h : j < its.toArray.size) : ∃ v, Rep X.K P α (ds.getD j .non) v ∧ RelV v its.toArray[j] ∧ ds.getD j .non ∈ ds := by
  have l1 := rp.length
  have l2 := rv.length
  have hj : j < its.length := by simpa using h
  have hd : j < ds.length := by omega
  obtain ⟨v, e1, p⟩ := rp.get (List.getElem?_eq_getElem hd)
  obtain ⟨u, e2, q⟩ := rv.get e1
  have e3 : its.toArray[j] = u := by
    have : its[j]? = some its[j] := List.getElem?_eq_getElem hj
    rw [this] at e2
    simpa using Option.some.inj e2
  have e4 : ds.getD j .non = ds[j] := by simp [List.getD, hd]
  rw [e3, e4]
  exact ⟨v, p, q, List.getElem_mem hd⟩
theorem pl_of {n : Nat} {ds : List D} (h : ds.all (pl n) = true) {d : D} (hd : d ∈ ds) : pl n d = true := List.all_eq_true.mp h d hd
theorem eqAt_D (I : Inv X pins σ H s) (r : Rel X.K H P α S) : ∀ (n : Nat) (A : Around) (d d' : D) (v v' : V) (u u' : Value), A.units + n < cLine → pl n d = true → pl n d' = true → Rep X.K P α d v → Rep X.K P α d' v' → RelV v u → RelV v' u' →
    EqAt A s u u' (eqD d d') ∧ RcAt A s u u' (eqD d d') ∧ RcNeAt A s u u' (!eqD d d') := by
  intro n
  induction n with
  | zero =>
    intro A d d' v v' u u' hu h1 h2 p1 p2 q1 q2
    have k1 := kd_of I r h1 p1 q1
    have k2 := kd_of I r h2 p2 q2
    cases k1 with
    | tup a xs its vs _ _ _ _ => simp only [pl, Bool.false_eq_true] at h1
    | lst a xs its vs _ _ _ _ => simp only [pl, Bool.false_eq_true] at h1
    | non =>
      cases k2 with
      | tup a xs its vs _ _ _ _ => simp only [pl, Bool.false_eq_true] at h2
      | lst a xs its vs _ _ _ _ => simp only [pl, Bool.false_eq_true] at h2
      | non => exact ⟨EqAt.same _, RcAt.none_none, RcNeAt.none_none⟩
      | bl b => exact ⟨EqAt.none_bool b, RcAt.none_bool b, RcNeAt.none_bool b⟩
      | int i t => exact ⟨EqAt.none_int i t, RcAt.none_int i t, RcNeAt.none_int i t⟩
      | str i t => exact ⟨EqAt.none_str i t, RcAt.none_str i t, RcNeAt.none_str i t⟩
    | bl a =>
      cases k2 with
      | tup a xs its vs _ _ _ _ => simp only [pl, Bool.false_eq_true] at h2
      | lst a xs its vs _ _ _ _ => simp only [pl, Bool.false_eq_true] at h2
      | non => exact ⟨EqAt.bool_none a, RcAt.bool_none a, RcNeAt.bool_none a⟩
      | bl b => exact ⟨EqAt.bool_bool a b, RcAt.bool_bool a b, RcNeAt.bool_bool a b⟩
      | int i t => exact ⟨EqAt.bool_int a i t, RcAt.bool_int a i t, RcNeAt.bool_int a i t⟩
      | str i t => exact ⟨EqAt.bool_str a i t, RcAt.bool_str a i t, RcNeAt.bool_str a i t⟩
    | int a ta =>
      cases k2 with
      | tup a xs its vs _ _ _ _ => simp only [pl, Bool.false_eq_true] at h2
      | lst a xs its vs _ _ _ _ => simp only [pl, Bool.false_eq_true] at h2
      | non => exact ⟨EqAt.int_none a ta, RcAt.int_none a ta, RcNeAt.int_none a ta⟩
      | bl b => exact ⟨EqAt.int_bool a ta b, RcAt.int_bool a ta b, RcNeAt.int_bool a ta b⟩
      | int i t => exact ⟨EqAt.int_int a ta i t, RcAt.int_int a ta i t, RcNeAt.int_int a ta i t⟩
      | str i t => exact ⟨EqAt.int_str a ta i t, RcAt.int_str a ta i t, RcNeAt.int_str a ta i t⟩
    | str a ta =>
      cases k2 with
      | tup a xs its vs _ _ _ _ => simp only [pl, Bool.false_eq_true] at h2
      | lst a xs its vs _ _ _ _ => simp only [pl, Bool.false_eq_true] at h2
      | non => exact ⟨EqAt.str_none a ta, RcAt.str_none a ta, RcNeAt.str_none a ta⟩
      | bl b => exact ⟨EqAt.str_bool a ta b, RcAt.str_bool a ta b, RcNeAt.str_bool a ta b⟩
      | int i t => exact ⟨EqAt.str_int a ta i t, RcAt.str_int a ta i t, RcNeAt.str_int a ta i t⟩
      | str i t => exact ⟨EqAt.str_str a ta i t, RcAt.str_str a ta i t, RcNeAt.str_str a ta i t⟩
  | succ m ih =>
    intro A d d' v v' u u' hu h1 h2 p1 p2 q1 q2
    have k1 := kd_of I r h1 p1 q1
    have k2 := kd_of I r h2 p2 q2
    have hu0 : A.units < cLine := by omega
    have hu1 : A.in1.units + m < cLine := by show A.units + 1 + m < cLine; omega
    have sub : ∀ {xs ys : List D} {vs ws : List V} {its its2 : List Value}, xs.all (pl m) = true → ys.all (pl m) = true → Reps X.K P α xs vs → Vals vs its → Reps X.K P α ys ws → Vals ws its2 →
        ∀ j (h1 : j < its.toArray.size) (h2 : j < its2.toArray.size), EqAt A.in1 s its.toArray[j] its2.toArray[j] (eqD (xs.getD j .non) (ys.getD j .non)) := fun {xs ys vs ws its its2} a1 a2 b1 b2 c1 c2 j g1 g2 => by
      obtain ⟨w1, y1, z1, m1⟩ := items_at b1 b2 g1
      obtain ⟨w2, y2, z2, m2⟩ := items_at c1 c2 g2
      exact (ih A.in1 _ _ w1 w2 _ _ hu1 (pl_of a1 m1) (pl_of a2 m2) y1 y2 z1 z2).1
    cases k1 with
    | tup a xs its vs rp rv ha qa =>
      cases k2 with
      | tup b ys its2 ws rp2 rv2 hb qb =>
        simp only [pl] at h1 h2
        have l1 := rp.length
        have l2 := rv.length
        have l3 := rp2.length
        have l4 := rv2.length
        have e : eqD (.tup xs) (.tup ys) = ((List.range (min its.toArray.size its2.toArray.size)).all (fun j => eqD (xs.getD j .non) (ys.getD j .non)) && its.toArray.size == its2.toArray.size) := by
          simp only [eqD]
          rw [eqDs_all, List.size_toArray, List.size_toArray, l1, l2, l3, l4]
        have R1 : RcAt A s (.ref a) (.ref b) (eqD (.tup xs) (.tup ys)) := by rw [e]; exact RcAt.tuples ha hb hu0 (sub h1 h2 rp rv rp2 rv2)
        refine ⟨?_, R1, by rw [e]; exact RcNeAt.tuples ha hb hu0 (sub h1 h2 rp rv rp2 rv2)⟩
        by_cases hab : a = b
        · subst hab
          have : eqD (.tup xs) (.tup ys) = true := eq_same I r (m + 1) _ _ (.ref a) (by simp only [pl]; exact h1) (by simp only [pl]; exact h2) (rep_tup qa rp) (rep_tup qb rp2)
          rw [this]
          exact EqAt.same _
        · exact EqAt.of_refs hab R1
      | lst b ys its2 ws rp2 rv2 hb qb => exact ⟨EqAt.tuple_list ha hb hu0, RcAt.tuple_list ha hb hu0, RcNeAt.tuple_list ha hb hu0⟩
      | non => exact ⟨EqAt.tuple_none ha hu0, RcAt.tuple_none ha hu0, RcNeAt.tuple_none ha hu0⟩
      | bl b => exact ⟨EqAt.tuple_bool b ha hu0, RcAt.tuple_bool b ha hu0, RcNeAt.tuple_bool b ha hu0⟩
      | int i t => exact ⟨EqAt.tuple_int i t ha hu0, RcAt.tuple_int i t ha hu0, RcNeAt.tuple_int i t ha hu0⟩
      | str i t => exact ⟨EqAt.tuple_str i t ha hu0, RcAt.tuple_str i t ha hu0, RcNeAt.tuple_str i t ha hu0⟩
    | lst a xs its vs rp rv ha qa =>
      cases k2 with
      | lst b ys its2 ws rp2 rv2 hb qb =>
        simp only [pl] at h1 h2
        have l1 := rp.length
        have l2 := rv.length
        have l3 := rp2.length
        have l4 := rv2.length
        have R1 : RcAt A s (.ref a) (.ref b) (eqD (.lst xs) (.lst ys)) ∧ RcNeAt A s (.ref a) (.ref b) (!eqD (.lst xs) (.lst ys)) := by
          simp only [eqD]
          by_cases hl : its.toArray.size = its2.toArray.size
          · have hl' : xs.length = ys.length := by rw [List.size_toArray, List.size_toArray] at hl; omega
            have e : eqDs xs ys = (List.range its.toArray.size).all (fun j => eqD (xs.getD j .non) (ys.getD j .non)) := by
              rw [eqDs_all, List.size_toArray, ← hl', Nat.min_self, l1, l2]
              simp
            rw [e]
            exact ⟨RcAt.lists ha hb hl hu0 (sub h1 h2 rp rv rp2 rv2), RcNeAt.lists ha hb hl hu0 (sub h1 h2 rp rv rp2 rv2)⟩
          · have hl' : xs.length ≠ ys.length := by rw [List.size_toArray, List.size_toArray] at hl; omega
            rw [eqDs_len hl']
            exact ⟨RcAt.lists_lengths ha hb (by simpa using hl) hu0, RcNeAt.lists_lengths ha hb (by simpa using hl) hu0⟩
        refine ⟨?_, R1⟩
        by_cases hab : a = b
        · subst hab
          have : eqD (.lst xs) (.lst ys) = true := eq_same I r (m + 1) _ _ (.ref a) (by simp only [pl]; exact h1) (by simp only [pl]; exact h2) (rep_lst qa rp) (rep_lst qb rp2)
          rw [this]
          exact EqAt.same _
        · exact EqAt.of_refs hab R1.1
      | tup b ys its2 ws rp2 rv2 hb qb => exact ⟨EqAt.list_tuple ha hb hu0, RcAt.list_tuple ha hb hu0, RcNeAt.list_tuple ha hb hu0⟩
      | non => exact ⟨EqAt.list_none ha hu0, RcAt.list_none ha hu0, RcNeAt.list_none ha hu0⟩
      | bl b => exact ⟨EqAt.list_bool b ha hu0, RcAt.list_bool b ha hu0, RcNeAt.list_bool b ha hu0⟩
      | int i t => exact ⟨EqAt.list_int i t ha hu0, RcAt.list_int i t ha hu0, RcNeAt.list_int i t ha hu0⟩
      | str i t => exact ⟨EqAt.list_str i t ha hu0, RcAt.list_str i t ha hu0, RcNeAt.list_str i t ha hu0⟩
    | non =>
      cases k2 with
      | tup b ys its2 ws rp2 rv2 hb qb => exact ⟨EqAt.none_tuple hb hu0, RcAt.none_tuple hb hu0, RcNeAt.none_tuple hb hu0⟩
      | lst b ys its2 ws rp2 rv2 hb qb => exact ⟨EqAt.none_list hb hu0, RcAt.none_list hb hu0, RcNeAt.none_list hb hu0⟩
      | non => exact ⟨EqAt.same _, RcAt.none_none, RcNeAt.none_none⟩
      | bl b => exact ⟨EqAt.none_bool b, RcAt.none_bool b, RcNeAt.none_bool b⟩
      | int i t => exact ⟨EqAt.none_int i t, RcAt.none_int i t, RcNeAt.none_int i t⟩
      | str i t => exact ⟨EqAt.none_str i t, RcAt.none_str i t, RcNeAt.none_str i t⟩
    | bl a =>
      cases k2 with
      | tup b ys its2 ws rp2 rv2 hb qb => exact ⟨EqAt.bool_tuple a hb hu0, RcAt.bool_tuple a hb hu0, RcNeAt.bool_tuple a hb hu0⟩
      | lst b ys its2 ws rp2 rv2 hb qb => exact ⟨EqAt.bool_list a hb hu0, RcAt.bool_list a hb hu0, RcNeAt.bool_list a hb hu0⟩
      | non => exact ⟨EqAt.bool_none a, RcAt.bool_none a, RcNeAt.bool_none a⟩
      | bl b => exact ⟨EqAt.bool_bool a b, RcAt.bool_bool a b, RcNeAt.bool_bool a b⟩
      | int i t => exact ⟨EqAt.bool_int a i t, RcAt.bool_int a i t, RcNeAt.bool_int a i t⟩
      | str i t => exact ⟨EqAt.bool_str a i t, RcAt.bool_str a i t, RcNeAt.bool_str a i t⟩
    | int a ta =>
      cases k2 with
      | tup b ys its2 ws rp2 rv2 hb qb => exact ⟨EqAt.int_tuple a ta hb hu0, RcAt.int_tuple a ta hb hu0, RcNeAt.int_tuple a ta hb hu0⟩
      | lst b ys its2 ws rp2 rv2 hb qb => exact ⟨EqAt.int_list a ta hb hu0, RcAt.int_list a ta hb hu0, RcNeAt.int_list a ta hb hu0⟩
      | non => exact ⟨EqAt.int_none a ta, RcAt.int_none a ta, RcNeAt.int_none a ta⟩
      | bl b => exact ⟨EqAt.int_bool a ta b, RcAt.int_bool a ta b, RcNeAt.int_bool a ta b⟩
      | int i t => exact ⟨EqAt.int_int a ta i t, RcAt.int_int a ta i t, RcNeAt.int_int a ta i t⟩
      | str i t => exact ⟨EqAt.int_str a ta i t, RcAt.int_str a ta i t, RcNeAt.int_str a ta i t⟩
    | str a ta =>
      cases k2 with
      | tup b ys its2 ws rp2 rv2 hb qb => exact ⟨EqAt.str_tuple a ta hb hu0, RcAt.str_tuple a ta hb hu0, RcNeAt.str_tuple a ta hb hu0⟩
      | lst b ys its2 ws rp2 rv2 hb qb => exact ⟨EqAt.str_list a ta hb hu0, RcAt.str_list a ta hb hu0, RcNeAt.str_list a ta hb hu0⟩
      | non => exact ⟨EqAt.str_none a ta, RcAt.str_none a ta, RcNeAt.str_none a ta⟩
      | bl b => exact ⟨EqAt.str_bool a ta b, RcAt.str_bool a ta b, RcNeAt.str_bool a ta b⟩
      | int i t => exact ⟨EqAt.str_int a ta i t, RcAt.str_int a ta i t, RcNeAt.str_int a ta i t⟩
      | str i t => exact ⟨EqAt.str_str a ta i t, RcAt.str_str a ta i t, RcNeAt.str_str a ta i t⟩
/-- the depth to which data is compared -/
def eqDeep : Nat := 30
def gEq : G2 := fun a b S => if pl eqDeep a && pl eqDeep b then .ok (.bl (eqD a b)) S else .bad
def gNe : G2 := fun a b S => if pl eqDeep a && pl eqDeep b then .ok (.bl (!eqD a b)) S else .bad
theorem od_eq (hu : X.A.units + 64 < cLine) : OpD X (compareOp .Eq) gEq := by
  intro pins σ H s P α S v u vv uu a b Q I r rv ru pa pb af
  unfold gEq at af
  split at af
  · rename_i h
    rw [Bool.and_eq_true] at h
    exact (eqAt_D I r eqDeep X.A a b v u vv uu (by unfold eqDeep; omega) h.1 h.2 pa pb rv ru).2.1 _ _ _ _ ⟨.bl _, H, I, rfl, xr af r (by simp only [Rep])⟩
  · exact False.elim af
theorem od_ne (hu : X.A.units + 64 < cLine) : OpD X (compareOp .NotEq) gNe := by
  intro pins σ H s P α S v u vv uu a b Q I r rv ru pa pb af
  unfold gNe at af
  split at af
  · rename_i h
    rw [Bool.and_eq_true] at h
    exact (eqAt_D I r eqDeep X.A a b v u vv uu (by unfold eqDeep; omega) h.1 h.2 pa pb rv ru).2.2 _ _ _ _ ⟨.bl _, H, I, rfl, xr af r (by simp only [Rep])⟩
  · exact False.elim af
end
end DL
end

-- Do
section
set_option Elab.async false
set_option linter.all false
set_option maxRecDepth 100000
namespace DL
open PySem PySem.Spec PyProof.Rows L2
section
variable {X : Cx}
def i2 (C : Int → Int → Bool) (f : Int → Int → D) : G2 := fun a b S => match a, b with
  | .int i, .int j => if C i j then .ok (f i j) S else .bad
  | _, _ => .bad
theorem i2_ok {C : Int → Int → Bool} {f : Int → Int → D} {a b : D} {S : Sto} {P : Hp} {α : List Addr} {Ok : D → Sto → Prop} (h : AfterG X P α (i2 C f a b S) Ok) : ∃ i j, a = .int i ∧ b = .int j ∧ C i j = true ∧ Ok (f i j) S := by
  cases a with
  | int i =>
    cases b with
    | int j =>
      simp only [i2] at h
      split at h
      · rename_i hc; exact ⟨i, j, rfl, rfl, hc, h⟩
      · exact False.elim h
    | _ => exact False.elim h
  | _ => cases b <;> exact False.elim h
theorem rep_int {P : Hp} {α : List Addr} {i : Int} {v : V} (r : Rep X.K P α (.int i) v) : v = .int i := by simpa only [Rep] using r
theorem opD_i2 {f : Value → Value → Sem Value} {C' : Int → Int → Prop} {v : Int → Int → V} {C : Int → Int → Bool} {d : Int → Int → D} (h : OpR X f (rI C' v)) (hC : ∀ i j, C i j = true → C' i j) (hv : ∀ P α i j, Rep X.K P α (d i j) (v i j)) : OpD X f (i2 C d) :=
  OpD.of h fun H P α S x y a b Q r p1 p2 af => by
    obtain ⟨i, j, rfl, rfl, hc, ok⟩ := i2_ok af
    exact ⟨i, j, rep_int p1, rep_int p2, hC i j hc, xr ok r (hv P α i j)⟩
theorem opD_i0 {f : Value → Value → Sem Value} {v : Int → Int → V} {d : Int → Int → D} (h : OpR X f (rI0 v)) (hv : ∀ P α i j, Rep X.K P α (d i j) (v i j)) : OpD X f (i2 (fun _ _ => true) d) :=
  OpD.of h fun H P α S x y a b Q r p1 p2 af => by
    obtain ⟨i, j, rfl, rfl, _, ok⟩ := i2_ok af
    exact ⟨i, j, rep_int p1, rep_int p2, xr ok r (hv P α i j)⟩
def gSub : G2 := i2 (fun _ _ => true) fun i j => .int (i - j)
theorem od_sub : OpD X (binaryOp .Sub) gSub := opD_i0 op_sub fun P α i j => by simp only [Rep]
def cMul (i j : Int) : Bool := decide (-(2 ^ 64) < i ∧ i < 2 ^ 64) || decide (-(2 ^ 64) < j ∧ j < 2 ^ 64)
theorem od_mulI : OpD X (binaryOp .Mult) (i2 cMul fun i j => .int (i * j)) := opD_i2 op_mul (fun i j h => by
  unfold cMul at h
  rw [Bool.or_eq_true] at h
  rcases h with h | h
  · exact .inl (of_decide_eq_true h)
  · exact .inr (of_decide_eq_true h)) fun P α i j => by simp only [Rep]
def cDiv (i j : Int) : Bool := decide (0 < j ∧ j < 1073741824)
def gDiv : G2 := i2 cDiv fun i j => .int (i / j)
theorem od_div : OpD X (binaryOp .FloorDiv) gDiv := opD_i2 op_fdiv (fun i j h => (of_decide_eq_true h : 0 < j ∧ j < 1073741824)) fun P α i j => by simp only [Rep]
def gMod : G2 := i2 (fun _ j => decide (0 < j)) fun i j => .int (i % j)
theorem od_mod : OpD X (binaryOp .Mod) gMod := opD_i2 op_mod (fun i j h => of_decide_eq_true h) fun P α i j => by simp only [Rep]
def cPow (i j : Int) : Bool := decide (0 ≤ j ∧ j ≤ 1000000 ∧ i.natAbs < 2 ^ 64)
def gPow : G2 := i2 cPow fun i j => .int (i ^ j.toNat)
theorem od_pow : OpD X (binaryOp .Pow) gPow := opD_i2 op_pow (fun i j h => (of_decide_eq_true h : 0 ≤ j ∧ j ≤ 1000000 ∧ i.natAbs < 2 ^ 64)) fun P α i j => by simp only [Rep]
def gLt : G2 := i2 (fun _ _ => true) fun i j => .bl (decide (i < j))
def gLe : G2 := i2 (fun _ _ => true) fun i j => .bl (decide (i ≤ j))
def gGt : G2 := i2 (fun _ _ => true) fun i j => .bl (decide (j < i))
def gGe : G2 := i2 (fun _ _ => true) fun i j => .bl (decide (j ≤ i))
theorem od_lt : OpD X (compareOp .Lt) gLt := opD_i0 op_lt fun P α i j => by simp only [Rep]
theorem od_le : OpD X (compareOp .LtE) gLe := opD_i0 op_le fun P α i j => by simp only [Rep]
theorem od_gt : OpD X (compareOp .Gt) gGt := opD_i0 op_gt fun P α i j => by simp only [Rep]
theorem od_ge : OpD X (compareOp .GtE) gGe := opD_i0 op_ge fun P α i j => by simp only [Rep]
def gNeg : D → Sto → Res D := fun a S => match a with
  | .int i => .ok (.int (-i)) S
  | _ => .bad
theorem ud_neg : UnD X (unaryOp .USub) gNeg := by
  intro pins σ H s P α S v vv a Q I r rv p af
  cases a with
  | int i => exact un_neg pins s σ H v vv Q I rv ⟨i, rep_int p, xr af r (by simp only [Rep])⟩
  | _ => exact False.elim af
def gIs : G2 := fun a b S => match b with
  | .non => match a with
    | .non => .ok (.bl true) S
    | _ => .ok (.bl false) S
  | _ => .bad
theorem non_iff {P : Hp} {α : List Addr} {d : D} {v : V} (r : Rep X.K P α d v) : decide (v = .non) = (match d with | .non => true | _ => false) := by
  cases d <;> simp only [Rep] at r
  case non => subst r; rfl
  case bl => subst r; rfl
  case int => subst r; rfl
  case str => subst r; rfl
  case ty => subst r; rfl
  case obj => obtain ⟨rfl, _⟩ := r; rfl
  case tup => obtain ⟨a, vs, rfl, _⟩ := r; rfl
  case lst => obtain ⟨a, vs, rfl, _⟩ := r; rfl
  case dct0 => obtain ⟨a, rfl, _⟩ := r; rfl
  case loc => obtain ⟨a, rfl, _⟩ := r; rfl
  case exn => obtain ⟨a, rfl, _⟩ := r; rfl
theorem od_is : OpD X (compareOp .Is) gIs := OpD.of op_isN fun H P α S x y a b Q r p1 p2 af => by
  cases b with
  | non =>
    simp only [Rep] at p2
    refine ⟨p2, ?_⟩
    rw [non_iff p1]
    cases a <;> exact xr af r (by simp only [Rep])
  | _ => exact False.elim af
def gAdd : G2 := fun a b S => match a, b with
  | .int i, .int j => .ok (.int (i + j)) S
  | .str x, .str y => if x.length + y.length ≤ lim then .ok (.str (x ++ y)) S else .bad
  | .tup xs, .tup ys => if xs.length + ys.length ≤ lim then .ok (.tup (xs ++ ys)) S else .bad
  | .lst xs, .lst ys => if xs.length + ys.length ≤ lim then .ok (.lst (xs ++ ys)) S else .bad
  | _, _ => .bad
theorem tup_at {pins : List (Addr × Obj)} {σ : L2.St} {H P : Hp} {α : List Addr} {S : Sto} {s : Shared} {xs : List D} {v : V} (I : Inv X pins σ H s) (r : Rel X.K H P α S) (p : Rep X.K P α (.tup xs) v) :
    ∃ a vs its, v = .ref a ∧ SqT X.K P a vs ∧ Reps X.K P α xs vs ∧ Vals vs its ∧ IsTup s.heap a its.toArray ∧ xs.length = its.length ∧ xs.length ≤ lim := by
  simp only [Rep] at p
  obtain ⟨a, vs, rfl, q, t⟩ := p
  obtain ⟨its, rv, p1, z⟩ := I.tuple (sqT_sub r.sub q)
  exact ⟨a, vs, its, rfl, q, t, rv, p1, by rw [t.length, rv.length], by rw [t.length, lim_eq]; exact z⟩
theorem lst_at {pins : List (Addr × Obj)} {σ : L2.St} {H P : Hp} {α : List Addr} {S : Sto} {s : Shared} {xs : List D} {v : V} (I : Inv X pins σ H s) (r : Rel X.K H P α S) (p : Rep X.K P α (.lst xs) v) :
    ∃ a vs its n, v = .ref a ∧ SqX X.K P a vs ∧ Reps X.K P α xs vs ∧ Vals vs its ∧ s.heap.get? a = some { cls := .type "list", data := .seq its.toArray n } ∧ xs.length = its.length ∧ xs.length ≤ lim := by
  simp only [Rep] at p
  obtain ⟨a, vs, rfl, q, t⟩ := p
  have : ∃ its n, Vals vs its ∧ s.heap.get? a = some { cls := .type "list", data := .seq its.toArray n } ∧ vs.length ≤ sizeLine := by
    rcases q with q | ⟨its, n, e, z, rv⟩
    · obtain ⟨z, its, n, rv, e⟩ := (rd_mono r.sub q).ok I.hok
      exact ⟨its, n, rv, e, z⟩
    · exact ⟨its, n, rv, I.kIn _ _ e, z⟩
  obtain ⟨its, n, rv, e, z⟩ := this
  exact ⟨a, vs, its, n, rfl, q, t, rv, e, by rw [t.length, rv.length], by rw [t.length, lim_eq]; exact z⟩
theorem laid_tup {pins : List (Addr × Obj)} {σ : L2.St} {H P : Hp} {α : List Addr} {S : Sto} {s : Shared} {xs : List D} {vs : List V} {its : List Value} {Q : VK} (I : Inv X pins σ H s) (r : Rel X.K H P α S) (t : Reps X.K P α xs vs) (rv : Vals vs its) (hz : xs.length ≤ lim)
    (ok : OkV X P α Q (.tup xs) S) : EP X pins σ Q (.ref s.heap.objs.size) { s with heap := s.heap.push { cls := .type "tuple", data := .seq its.toArray } } := by
  refine ⟨.ref s.heap.objs.size, _, I.laid (t' := s.toks) (o := .tup vs) (fun b ob q => Heap.get?_push_of_some _ q) (Nat.le_refl _) ⟨by rw [← t.length, ← lim_eq]; exact hz, its, rv, IsTup.new _ _⟩, rfl, pure_tup r (I.hok.fresh (Nat.le_refl _)) t ok⟩
theorem laid_lst {pins : List (Addr × Obj)} {σ : L2.St} {H P : Hp} {α : List Addr} {S : Sto} {s : Shared} {xs : List D} {vs : List V} {its : List Value} {Q : VK} (I : Inv X pins σ H s) (r : Rel X.K H P α S) (t : Reps X.K P α xs vs) (rv : Vals vs its) (hz : xs.length ≤ lim)
    (ok : OkV X P α Q (.lst xs) S) : EP X pins σ Q (.ref s.heap.objs.size) { s with heap := s.heap.push { cls := .type "list", data := .seq its.toArray } } := by
  refine ⟨.ref s.heap.objs.size, _, I.laid (t' := s.toks) (o := .lst vs) (fun b ob q => Heap.get?_push_of_some _ q) (Nat.le_refl _) ⟨by rw [← t.length, ← lim_eq]; exact hz, its, 0, rv, Heap.get?_push_size _ rfl⟩, rfl, pure_lst r (I.hok.fresh (Nat.le_refl _)) t ok⟩
theorem od_add : OpD X (binaryOp .Add) gAdd := by
  intro pins σ H s P α S v u vv uu a b Q I r rv ru pa pb af
  cases a with
  | int i =>
    cases b with
    | int j => exact op_add pins s σ H v u vv uu Q I rv ru ⟨i, j, rep_int pa, rep_int pb, xr af r (by simp only [Rep])⟩
    | _ => exact False.elim af
  | str x =>
    cases b with
    | str y =>
      simp only [gAdd] at af
      split at af
      · rename_i hl
        simp only [Rep] at pa pb
        exact op_add_str pins s σ H v u vv uu Q I rv ru ⟨x, y, pa, pb, by rw [← lim_eq]; exact hl, xr af r (by simp only [Rep])⟩
      · exact False.elim af
    | _ => exact False.elim af
  | tup xs =>
    cases b with
    | tup ys =>
      simp only [gAdd] at af
      split at af
      · rename_i hl
        obtain ⟨a, vs, its, rfl, q1, t1, rv1, h1, l1, _⟩ := tup_at I r pa
        obtain ⟨b, ws, its2, rfl, q2, t2, rv2, h2, l2, _⟩ := tup_at I r pb
        cases rv
        cases ru
        by_cases hx : its = []
        · obtain ⟨⟨cls, dd, data, sl⟩, ho, hc, n, hd⟩ := id h1
          obtain ⟨⟨cls2, dd2, data2, sl2⟩, ho2, hc2, n2, hd2⟩ := id h2
          simp only at hc hd hc2 hd2
          subst hc hd hc2 hd2
          have hxs : xs = [] := by cases xs with | nil => rfl | cons _ _ => rw [hx] at l1; simp at l1
          subst hxs
          exact concat_meets ⟨_, ho, rfl⟩ ⟨_, ho2, rfl⟩ noFill_tuple_add seq_tuple_add PySem.F.slot_tuple_add PySem.F.entry_tuple_add (PySem.F.args_tuple_add_2 _ _) (tuple_addW0 a b its.toArray its2.toArray n n2 dd dd2 sl sl2 (by simp [hx]))
            ⟨ho, ho2, ⟨.ref b, H, I, rfl, xr af r (by rw [List.nil_append]; exact pb)⟩⟩
        · refine HT.cat_tup h1 h2 hx (fun z => ⟨.ref a, H, I, rfl, xr af r ?_⟩) (fun z => ?_) (by rw [← l1, ← l2, ← lim_eq]; exact hl)
          · have hys : ys = [] := by cases ys with | nil => rfl | cons _ _ => rw [z] at l2; simp at l2
            rw [hys, List.append_nil]; exact pa
          · exact laid_tup I r (t1.append t2) (rv1.append rv2) (by rw [List.length_append]; exact hl) af
      · exact False.elim af
    | _ => exact False.elim af
  | lst xs =>
    cases b with
    | lst ys =>
      simp only [gAdd] at af
      split at af
      · rename_i hl
        obtain ⟨a, vs, its, n, rfl, q1, t1, rv1, h1, l1, _⟩ := lst_at I r pa
        obtain ⟨b, ws, its2, n2, rfl, q2, t2, rv2, h2, l2, _⟩ := lst_at I r pb
        cases rv
        cases ru
        refine PySem.P.add_list h1 h2 ?_ (by rw [List.size_toArray, List.size_toArray, ← l1, ← l2, ← lim_eq]; exact hl)
        have ea : its.toArray ++ its2.toArray = (its ++ its2).toArray := by simp
        rw [ea]
        exact laid_lst I r (t1.append t2) (rv1.append rv2) (by rw [List.length_append]; exact hl) af
      · exact False.elim af
    | _ => exact False.elim af
  | _ => cases b <;> exact False.elim af

def gIx : G2 := fun a b S => match b with
  | .int k => match a with
    | .tup xs => resO (atI xs k) S
    | .lst xs => resO (atI xs k) S
    | .loc i => match S[i]? with
      | some (.lst xs) => resO (atI xs k) S
      | _ => .bad
    | _ => .bad
  | _ => .bad
theorem atI_rep {P : Hp} {α : List Addr} {ds : List D} {vs : List V} {k : Int} {d : D} (rp : Reps X.K P α ds vs) (h : atI ds k = some d) : ∃ v, atI vs k = some v ∧ Rep X.K P α d v := by
  unfold atI at h ⊢
  rw [← rp.length]
  cases q : ixN ds.length k with
  | none => rw [q] at h; cases h
  | some j =>
    rw [q] at h
    obtain ⟨v, h1, h2⟩ := rp.get (show ds[j]? = some d from h)
    exact ⟨v, h1, h2⟩
theorem ix_d : IxD X gIx := by
  intro value slice pins σ H s P α S v u vv uu a b Q I r rv ru pa pb af hs
  cases b with
  | int k =>
    have hk := rep_int pb
    cases a with
    | tup xs =>
      obtain ⟨d, e, ok⟩ := resO_ok (X := X) af
      simp only [Rep] at pa
      obtain ⟨p, vs, rfl, q, t⟩ := pa
      obtain ⟨w, e1, rw'⟩ := atI_rep t e
      exact ix_tup value slice pins s σ H _ u vv uu Q I rv ru ⟨p, vs, k, w, rfl, hk, sqT_sub r.sub q, e1, xr ok r rw'⟩ hs
    | lst xs =>
      obtain ⟨d, e, ok⟩ := resO_ok (X := X) af
      simp only [Rep] at pa
      obtain ⟨p, vs, rfl, q, t⟩ := pa
      obtain ⟨w, e1, rw'⟩ := atI_rep t e
      exact ix_list value slice pins s σ H _ u vv uu Q I rv ru ⟨p, vs, k, w, rfl, hk, (sqX_mono r.sub q).l, e1, xr ok r rw'⟩ hs
    | loc i =>
      simp only [gIx] at af
      split at af
      · rename_i xs hS
        obtain ⟨d, e, ok⟩ := resO_ok (X := X) af
        simp only [Rep] at pa
        obtain ⟨p, rfl, q⟩ := pa
        obtain ⟨vs, z, t⟩ := r.at' i p _ q hS
        obtain ⟨w, e1, rw'⟩ := atI_rep t e
        exact ix_list value slice pins s σ H _ u vv uu Q I rv ru ⟨p, vs, k, w, rfl, hk, .of z, e1, xr ok r rw'⟩ hs
      · exact False.elim af
    | _ => exact False.elim af
  | _ => exact False.elim af
def gSet : G3 := fun o i d S => match o, i with
  | .loc n, .int k => match S[n]? with
    | some (.lst xs) => match ixN xs.length k with
      | some j => .ok () (S.set n (.lst (xs.set j d)))
      | none => .bad
    | _ => .bad
  | _, _ => .bad
theorem set_d : PSet X (tDSet X gSet) := by
  intro pins s σ H o i v ov iv u Q I ro ri rv h
  obtain ⟨P, α, S, a, b, d, r, pa, pb, pd, af⟩ := h
  cases a with
  | loc n =>
    cases b with
    | int k =>
      simp only [gSet] at af
      split at af
      · rename_i xs hS
        split at af
        · rename_i j hj
          have pa0 := pa
          simp only [Rep] at pa
          obtain ⟨p, rfl, q⟩ := pa
          obtain ⟨vs, z, t⟩ := r.at' n p _ q hS
          refine set_list pins s σ H _ i v ov iv u Q I ro ri rv ⟨p, vs, k, j, rfl, rep_int pb, z, by rw [← t.length]; exact hj, ?_⟩
          refine af _ P α (r.put (m' := .lst (xs.set j d)) q hS (by intro z; cases z) ⟨vs.set j v, upd_same, t.set pd j⟩) (Same.refl _) (List.prefix_refl _)
        · exact False.elim af
      · exact False.elim af
    | _ => exact False.elim af
  | _ => cases b <;> exact False.elim af
def lenD : D → Sto → Option Nat
  | .tup xs, _ => some xs.length
  | .lst xs, _ => some xs.length
  | .str x, _ => if x.length ≤ lim then some x.length else none
  | .dct0, _ => some 0
  | .loc i, S => match S[i]? with
    | some (.lst xs) => some xs.length
    | _ => none
  | _, _ => none
def fLen : DF := fun ds S => match ds with
  | [d] => match lenD d S with
    | some n => .ok (.int n) S
    | none => .bad
  | _ => .bad
end
end DL
end

-- Db
section
set_option Elab.async false
set_option linter.all false
set_option maxRecDepth 100000
namespace DL
open PySem PySem.Spec PyProof.Rows L2
section
variable {X : Cx}
theorem reps1 {P : Hp} {α : List Addr} {d : D} {vs : List V} {us : List Value} (rp : Reps X.K P α [d] vs) (rv : Vals vs us) : ∃ v u, vs = [v] ∧ us = [u] ∧ Rep X.K P α d v ∧ RelV v u := by
  obtain ⟨v, ws, rfl, p, t⟩ := rp.cons_inv
  have := t.nil_inv; subst this
  obtain ⟨u, rfl, q⟩ := vals1 rv
  exact ⟨v, u, rfl, rfl, p, q⟩
theorem reps2 {P : Hp} {α : List Addr} {d e : D} {vs : List V} {us : List Value} (rp : Reps X.K P α [d, e] vs) (rv : Vals vs us) : ∃ v w u x, vs = [v, w] ∧ us = [u, x] ∧ Rep X.K P α d v ∧ Rep X.K P α e w ∧ RelV v u ∧ RelV w x := by
  obtain ⟨v, ws, rfl, p, t⟩ := rp.cons_inv
  obtain ⟨w, ws, rfl, p', t⟩ := t.cons_inv
  have := t.nil_inv; subst this
  obtain ⟨u, x, rfl, q, q'⟩ := vals2 rv
  exact ⟨v, w, u, x, rfl, rfl, p, p', q, q'⟩
theorem cd_len (hD : True) : CallD X (.builtin "len") (fun ds S => match ds with | [.dct0] => .bad | _ => fLen ds S) := by
  intro pins σ H s P α S vs us ds Q I r rv rp af
  have key : ∀ d n, ds = [d] → lenD d S = some n → (∀ z, d ≠ .dct0 ∨ z = 0) → OkV X P α Q (.int n) S → wpAny (model X.prog X.w) X.A (call (.builtin "len") us) (EP X pins σ Q) X.xe s := by
    intro d n hd hn hz ok
    subst hd
    obtain ⟨v, u, rfl, rfl, p, q⟩ := reps1 rp rv
    refine call_len pins s σ H _ _ Q I rv ⟨v, n, rfl, ?_, xr ok r (by simp only [Rep])⟩
    cases d with
    | str x =>
      simp only [Rep] at p; subst p
      simp only [lenD] at hn
      split at hn
      · rename_i hl; cases hn; exact ⟨by rw [← lim_eq]; exact hl, rfl⟩
      · cases hn
    | tup xs =>
      simp only [Rep] at p
      obtain ⟨a, ws, rfl, sq, t⟩ := p
      cases hn
      exact .inr ⟨ws, sqT_sub r.sub sq, t.length⟩
    | lst xs =>
      simp only [Rep] at p
      obtain ⟨a, ws, rfl, sq, t⟩ := p
      cases hn
      exact .inl ⟨ws, (sqX_mono r.sub sq).l, t.length⟩
    | loc i =>
      simp only [Rep] at p
      obtain ⟨a, rfl, e⟩ := p
      simp only [lenD] at hn
      split at hn
      · rename_i xs hS
        cases hn
        obtain ⟨ws, z, t⟩ := r.at' i a _ e hS
        exact .inl ⟨ws, .of z, t.length⟩
      · cases hn
    | dct0 => exact absurd (hz 1) (by rintro (h | h); exact h rfl; cases h)
    | _ => cases hn
  cases ds with
  | nil => exact False.elim af
  | cons d ds =>
    cases ds with
    | cons _ _ => cases d <;> exact False.elim af
    | nil =>
      by_cases hd : d = .dct0
      · subst hd; exact False.elim af
      · have af' : AfterG X P α (fLen [d] S) (OkV X P α Q) := by
          cases d <;> first | exact af | exact absurd rfl hd
        simp only [fLen] at af'
        split at af'
        · rename_i n hn; exact key d n rfl hn (fun z => .inl hd) af'
        · exact False.elim af'
def tyD : D → Sto → Option String
  | .non, _ => some "NoneType"
  | .bl _, _ => some "bool"
  | .int _, _ => some "int"
  | .str _, _ => some "str"
  | .tup _, _ => some "tuple"
  | .lst _, _ => some "list"
  | .dct0, _ => some "dict"
  | .loc i, S => match S[i]? with
    | some (.lst _) => some "list"
    | some (.dct _) => some "dict"
    | _ => none
  | _, _ => none
/-- is a value of the built-in type a one of the built-in type b -/
def isSub (a b : String) : Bool := a == b || (a == "bool" && b == "int")
def okTy (b : String) : Bool := b == "int" || b == "bool" || b == "tuple" || b == "list" || b == "str" || b == "dict"
def kit0 (a b : String) : Option Bool := if (Value.type a == Value.type b) = true then some true else if PySem.W.kitMeta b = true then (fastBuiltinMro a).map (·.contains (.type b)) else none
theorem kit_sub {K : PySem.W.Frag} {a b : String} (ha : a = "NoneType" ∨ a = "bool" ∨ a = "int" ∨ a = "str" ∨ a = "tuple" ∨ a = "list" ∨ a = "dict") (hb : okTy b = true) : PySem.W.kitOne K (.type a) (.type b) = some (isSub a b) := by
  have hb' : b = "int" ∨ b = "bool" ∨ b = "tuple" ∨ b = "list" ∨ b = "str" ∨ b = "dict" := by simpa [okTy, or_assoc] using hb
  rcases ha with rfl | rfl | rfl | rfl | rfl | rfl | rfl <;> rcases hb' with rfl | rfl | rfl | rfl | rfl | rfl <;> (show kit0 _ _ = _; decide +kernel)
def fIsi : DF := fun ds S => match ds with
  | [d, .ty b] => if okTy b then match tyD d S with
      | some a => .ok (.bl (isSub a b)) S
      | none => .bad
    else .bad
  | _ => .bad
theorem ty_of {pins : List (Addr × Obj)} {σ : L2.St} {H P : Hp} {α : List Addr} {S : Sto} {s : Shared} {d : D} {v : V} {a : String} (I : Inv X pins σ H s) (r : Rel X.K H P α S) (p : Rep X.K P α d v) (h : tyD d S = some a) :
    (∃ t, TyOf X.K H v t ∧ t = .type a ∨ (∃ p' vs, v = .ref p' ∧ (SqT X.K H p' vs ∧ a = "tuple" ∨ SqL X.K H p' vs ∧ a = "list"))) ∧ (a = "NoneType" ∨ a = "bool" ∨ a = "int" ∨ a = "str" ∨ a = "tuple" ∨ a = "list" ∨ a = "dict") := by
  cases d with
  | non => cases h; simp only [Rep] at p; subst p; exact ⟨⟨_, .inl ⟨.non, rfl⟩⟩, by simp⟩
  | bl b => cases h; simp only [Rep] at p; subst p; exact ⟨⟨_, .inl ⟨.bl b, rfl⟩⟩, by simp⟩
  | int i => cases h; simp only [Rep] at p; subst p; exact ⟨⟨_, .inl ⟨.int i, rfl⟩⟩, by simp⟩
  | str x => cases h; simp only [Rep] at p; subst p; exact ⟨⟨_, .inl ⟨.str x, rfl⟩⟩, by simp⟩
  | tup xs =>
    cases h
    simp only [Rep] at p
    obtain ⟨a, vs, rfl, q, t⟩ := p
    exact ⟨⟨.none, .inr ⟨a, vs, rfl, .inl ⟨sqT_sub r.sub q, rfl⟩⟩⟩, by simp⟩
  | lst xs =>
    cases h
    simp only [Rep] at p
    obtain ⟨a, vs, rfl, q, t⟩ := p
    exact ⟨⟨.none, .inr ⟨a, vs, rfl, .inr ⟨(sqX_mono r.sub q).l, rfl⟩⟩⟩, by simp⟩
  | dct0 =>
    cases h
    simp only [Rep] at p
    obtain ⟨a, rfl, q⟩ := p
    exact ⟨⟨_, .inl ⟨.dK (r.sub _ _ q), rfl⟩⟩, by simp⟩
  | loc i =>
    simp only [Rep] at p
    obtain ⟨a, rfl, q⟩ := p
    simp only [tyD] at h
    split at h
    · rename_i xs hS
      cases h
      obtain ⟨vs, z, t⟩ := r.at' i a _ q hS
      exact ⟨⟨_, .inl ⟨.lst z, rfl⟩⟩, by simp⟩
    · rename_i kvs hS
      cases h
      obtain ⟨vs, z, t⟩ := r.at' i a _ q hS
      exact ⟨⟨_, .inl ⟨.dK z, rfl⟩⟩, by simp⟩
    · cases h
  | _ => cases h
theorem cd_isi : CallD X (.builtin "isinstance") fIsi := by
  intro pins σ H s P α S vs us ds Q I r rv rp af
  unfold fIsi at af
  split at af
  · rename_i d b
    split at af
    · rename_i hb
      split at af
      · rename_i a ha
        obtain ⟨v, w, u, x, rfl, rfl, p, p', q, q'⟩ := reps2 rp rv
        simp only [Rep] at p'
        subst p'
        have e : x = Value.type b := q'
        subst e
        obtain ⟨⟨t, ht⟩, hn⟩ := ty_of I r p ha
        have kit := kit_sub (K := X.K) hn hb
        have fin : ∀ tk, EP X pins σ Q (.bool (isSub a b)) { s with toks := tk } := fun tk => ⟨.bl _, H, I.tok tk, rfl, xr af r (by simp only [Rep])⟩
        rcases ht with ⟨ht, rfl⟩ | ⟨p', ws, rfl, ⟨sq, rfl⟩ | ⟨sq, rfl⟩⟩
        · exact isinst_ok I q ht kit fin
        · cases (show u = Value.ref p' from q)
          obtain ⟨its, rv', ⟨o, h1, h2, _⟩, _⟩ := I.tuple sq
          exact PySem.W.kia_one PySem.W.kitx_tuple I.kIn ⟨o, h1, h2⟩ kit (fun z => nomatch z) fin
        · cases (show u = Value.ref p' from q)
          obtain ⟨its, rv', ⟨o, _, h1, h2, _⟩, _⟩ := I.list sq
          exact PySem.W.kia_one PySem.W.kitx_list I.kIn ⟨o, h1, h2⟩ kit (fun z => nomatch z) fin
      · exact False.elim af
    · exact False.elim af
  · exact False.elim af
def boolsD : List D → Option (List Bool)
  | [] => some []
  | .bl b :: r => (boolsD r).map (b :: ·)
  | _ => none
theorem bools_vals {P : Hp} {α : List Addr} : ∀ {ds : List D} {bs : List Bool} {vs : List V} {us : List Value}, boolsD ds = some bs → Reps X.K P α ds vs → Vals vs us → us = bs.map Value.bool
  | [], bs, vs, us, h, rp, rv => by
    cases h
    have := rp.nil_inv; subst this
    cases rv; rfl
  | d :: ds, bs, vs, us, h, rp, rv => by
    cases d with
    | bl b =>
      simp only [boolsD] at h
      cases q : boolsD ds with
      | none => rw [q] at h; cases h
      | some bs' =>
        rw [q] at h
        cases h
        obtain ⟨w, ws, rfl, p, t⟩ := rp.cons_inv
        simp only [Rep] at p; subst p
        cases rv with
        | cons q1 q2 =>
          cases (show _ = Value.bool b from q1)
          rw [bools_vals q t q2]
          rfl
    | _ => cases h
def fInt : DF := fun ds S => match ds with
  | [.int i] => .ok (.int i) S
  | [.bl b] => .ok (.int (b01 b)) S
  | _ => .bad
theorem cd_int : CallD X (.type "int") fInt := by
  intro pins σ H s P α S vs us ds Q I r rv rp af
  unfold fInt at af
  split at af
  · obtain ⟨v, u, rfl, rfl, p, q⟩ := reps1 rp rv
    exact call_int1 pins s σ H _ _ Q I rv (.inl ⟨_, by rw [rep_int p], xr af r (by simp only [Rep])⟩)
  · obtain ⟨v, u, rfl, rfl, p, q⟩ := reps1 rp rv
    simp only [Rep] at p; subst p
    exact call_int1 pins s σ H _ _ Q I rv (.inr ⟨_, rfl, xr af r (by simp only [Rep]; rfl)⟩)
  · exact False.elim af
def fTuple : DF := fun ds S => match ds with
  | [d] => match itemsD d with
    | some xs => .ok (.tup xs) S
    | none => .bad
  | _ => .bad
theorem cd_tuple : CallD X (.type "tuple") fTuple := by
  intro pins σ H s P α S vs us ds Q I r rv rp af
  unfold fTuple at af
  split at af
  · rename_i d
    split at af
    · rename_i xs hx
      obtain ⟨v, u, rfl, rfl, p, q⟩ := reps1 rp rv
      cases d with
      | tup ys =>
        cases hx
        have p0 := p
        simp only [Rep] at p
        obtain ⟨a, ws, rfl, sq, t⟩ := p
        exact call_tuple_of pins s σ H _ _ Q I rv ⟨a, ws, rfl, .inr ⟨sqT_sub r.sub sq, xr af r p0⟩⟩
      | lst ys =>
        cases hx
        simp only [Rep] at p
        obtain ⟨a, ws, rfl, sq, t⟩ := p
        exact call_tuple_of pins s σ H _ _ Q I rv ⟨a, ws, rfl, .inl ⟨(sqX_mono r.sub sq).l, fun l hl => pure_tup r hl t af⟩⟩
      | _ => cases hx
    · exact False.elim af
  · exact False.elim af
def fList : DF := fun ds S => match ds with
  | [d] => match itemsD d with
    | some xs => .ok (.lst xs) S
    | none => .bad
  | _ => .bad
theorem cd_list : CallD X (.type "list") fList := by
  intro pins σ H s P α S vs us ds Q I r rv rp af
  unfold fList at af
  split at af
  · rename_i d
    split at af
    · rename_i xs hx
      obtain ⟨v, u, rfl, rfl, p, q⟩ := reps1 rp rv
      cases d with
      | tup ys =>
        cases hx
        simp only [Rep] at p
        obtain ⟨a, ws, rfl, sq, t⟩ := p
        exact call_list_of pins s σ H _ _ Q I rv ⟨a, ws, rfl, .inr (sqT_sub r.sub sq), fun l hl => pure_lst r hl t af⟩
      | lst ys =>
        cases hx
        simp only [Rep] at p
        obtain ⟨a, ws, rfl, sq, t⟩ := p
        exact call_list_of pins s σ H _ _ Q I rv ⟨a, ws, rfl, .inl ((sqX_mono r.sub sq).l), fun l hl => pure_lst r hl t af⟩
      | _ => cases hx
    · exact False.elim af
  · exact False.elim af
end
end DL
end

-- Dz
section
set_option Elab.async false
set_option linter.all false
set_option maxRecDepth 100000
namespace DL
open PySem PySem.Spec PyProof.Rows L2
def IterAt (tp : Bool) (h : Heap) (it l : Addr) (k : Nat) : Prop := if tp then h.IsTupleIter it l k else h.IsListIter it l k
def SeqIs (tp : Bool) (h : Heap) (l : Addr) (xs : Array Value) : Prop := if tp then h.IsTuple l xs else h.IsList l xs
theorem IterAt.keep {tp : Bool} {h h' : Heap} {it l : Addr} {k : Nat} (x : IterAt tp h it l k) (q : ∀ o, h.get? it = some o → h'.get? it = some o) : IterAt tp h' it l k := by
  cases tp <;> (obtain ⟨o, e, r⟩ := x; exact ⟨o, q o e, r⟩)
theorem SeqIs.keep {tp : Bool} {h h' : Heap} {l : Addr} {xs : Array Value} (x : SeqIs tp h l xs) (q : ∀ o, h.get? l = some o → h'.get? l = some o) : SeqIs tp h' l xs := by
  cases tp <;> (obtain ⟨o, e, r⟩ := x; exact ⟨o, q o e, r⟩)
theorem IterAt.there {tp : Bool} {h : Heap} {it l : Addr} {k : Nat} (x : IterAt tp h it l k) : ∃ o, h.get? it = some o ∧ ∀ v, o.data ≠ .cell v := by
  cases tp <;> (obtain ⟨o, e, _, d⟩ := x; exact ⟨o, e, fun v z => by rw [d] at z; cases z⟩)
section
variable {prog : Program} {w : World} {A : Around} {E : Value → Shared → Prop} {s : Shared}
theorem next_tup {it t : Addr} {i : Nat} {items : Array Value} {x : Value} {Q : Value → Shared → Prop} (hit : s.heap.IsTupleIter it t i) (ht : s.heap.IsTuple t items) (hx : items[i]? = some x)
    (hQ : ∀ h', h'.IsTupleIter it t (i + 1) → Heap.SameBut it s.heap h' → Q x { s with heap := h' }) : wpAny (model prog w) A (Builtin.SmallTypes.nextOf (.ref it)) Q E s := by
  obtain ⟨o, e, c, d⟩ := id hit
  obtain ⟨u, eu, _, m, du⟩ := ht
  unfold Builtin.SmallTypes.nextOf
  refine wpAny_bind (wpAny_callSpecial?_slot (name := Str.ofString "__next__") hit.typeIs F.slot_tuple_iterator_next (wpAny_call_entry F.slot_tuple_iterator_next hit.typeIs F.entry_tuple_iterator_next ?_ (F.args_tuple_iterator_next_1 _)))
  show wpAny _ _ (field (.ref it) 0 >>= _) _ _ s; refine wpAny_bind (wpAny_field e d (x := .ref t) rfl ?_)
  show wpAny _ _ (if (Value.ref t == Value.none) = true then _ else _) _ _ s; rw [if_neg (show ¬ ((Value.ref t == Value.none) = true) from Bool.false_ne_true)]
  show wpAny _ _ (field (.ref it) 1 >>= _) _ _ s; refine wpAny_bind (wpAny_field e d (x := .int i 0) rfl ?_)
  show wpAny _ _ (seqItems? (.ref t) >>= _) _ _ s; refine wpAny_bind (wpAny_seqItems eu du ?_)
  simp only [Int.toNat_natCast, hx]
  refine wpAny_bind (wpAny_setField e d (by simp) (wpAny_pure ⟨x, rfl, wpAny_pure (hQ _ ⟨_, Heap.get?_update_self _ e (Obj.isFreed_of_fields (Obj.data_mapFields d _)), (Obj.cls_mapFields ..).trans c, ?_⟩ (Heap.SameBut.update ..))⟩))
  rw [Obj.data_mapFields d]; simp [rawInt]
theorem next_tup_end {it t : Addr} {i : Nat} {items : Array Value} {Q : Value → Shared → Prop} (hh : A.handled = none) (hit : s.heap.IsTupleIter it t i) (ht : s.heap.IsTuple t items) (hx : items[i]? = none)
    (hE : ∀ h' e, Heap.ExtBut it s.heap h' → (∃ o, h'.get? e = some o ∧ o.cls = .type "StopIteration") → E (.ref e) { s with heap := h' }) : wpAny (model prog w) A (Builtin.SmallTypes.nextOf (.ref it)) Q E s := by
  obtain ⟨o, e, c, d⟩ := id hit
  obtain ⟨u, eu, _, m, du⟩ := ht
  unfold Builtin.SmallTypes.nextOf
  refine wpAny_bind (wpAny_callSpecial?_slot (name := Str.ofString "__next__") hit.typeIs F.slot_tuple_iterator_next (wpAny_call_entry F.slot_tuple_iterator_next hit.typeIs F.entry_tuple_iterator_next ?_ (F.args_tuple_iterator_next_1 _)))
  show wpAny _ _ (field (.ref it) 0 >>= _) _ _ s; refine wpAny_bind (wpAny_field e d (x := .ref t) rfl ?_)
  show wpAny _ _ (if (Value.ref t == Value.none) = true then _ else _) _ _ s; rw [if_neg (show ¬ ((Value.ref t == Value.none) = true) from Bool.false_ne_true)]
  show wpAny _ _ (field (.ref it) 1 >>= _) _ _ s; refine wpAny_bind (wpAny_field e d (x := .int i 0) rfl ?_)
  show wpAny _ _ (seqItems? (.ref t) >>= _) _ _ s; refine wpAny_bind (wpAny_seqItems eu du ?_)
  simp only [Int.toNat_natCast, hx]; refine wpAny_bind (wpAny_rule (wpAny_bind (wpAny_setField e d (by simp) ?_)))
  show wpAny _ _ (newExc (.type "StopIteration") [] >>= _) _ _ _; refine wpAny_bind ?_
  simp only [newExc, newTuple]; refine wpAny_bind (wpAny_newObj_type ?_ (by size_fits))
  refine wpAny_bind (m := firstArgMember _ _) (wpAny_of_eq (a := Value.none) (by first | rfl | (simp only [firstArgMember]; rfl)) (wpAny_newObj_type ?_ (by size_fits)))
  simp only [raiseNew]; refine wpAny_bind (wpAny_handled ?_)
  first | rw [show A.in1.handled = none from hh] | rw [hh]
  exact wpAny_bind (wpAny_pure (wpAny_throw (hE _ _ (((Heap.SameBut.update ..).extBut.push _).push _) ⟨_, Heap.get?_push_size _ rfl, rfl⟩)))
theorem next_any {tp : Bool} {it l : Addr} {k : Nat} {xs : Array Value} {x : Value} {Q : Value → Shared → Prop} (hit : IterAt tp s.heap it l k) (hl : SeqIs tp s.heap l xs) (hx : xs[k]? = some x)
    (hQ : ∀ h', IterAt tp h' it l (k + 1) → Heap.SameBut it s.heap h' → Q x { s with heap := h' }) : wpAny (model prog w) A (Builtin.SmallTypes.nextOf (.ref it)) Q E s := by
  cases tp with
  | false => exact wpAny_nextOf_list_item hit hl hx hQ
  | true => exact next_tup hit hl hx hQ
theorem next_any_end {tp : Bool} {it l : Addr} {k : Nat} {xs : Array Value} {Q : Value → Shared → Prop} (hh : A.handled = none) (hit : IterAt tp s.heap it l k) (hl : SeqIs tp s.heap l xs) (hx : xs[k]? = none)
    (hE : ∀ h' e, Heap.ExtBut it s.heap h' → (∃ o, h'.get? e = some o ∧ o.cls = .type "StopIteration") → E (.ref e) { s with heap := h' }) : wpAny (model prog w) A (Builtin.SmallTypes.nextOf (.ref it)) Q E s := by
  cases tp with
  | false => exact wpAny_nextOf_list_end hh hit hl hx hE
  | true => exact next_tup_end hh hit hl hx hE
/-- the records of a zip, apart from one another and from what they walk -/
structure ZA (z I O i j : Addr) : Prop where
  Iz : I ≠ z
  Oz : O ≠ z
  iz : i ≠ z
  jz : j ≠ z
  IO : I ≠ O
  Ii : I ≠ i
  Ij : I ≠ j
  Oi : O ≠ i
  Oj : O ≠ j
  ij : i ≠ j
structure Off (z O i j a : Addr) : Prop where
  z : a ≠ z
  O : a ≠ O
  i : a ≠ i
  j : a ≠ j
abbrev Four (z O i j : Addr) (h h' : Heap) : Prop := ∀ c o, c ≠ z → c ≠ O → c ≠ i → c ≠ j → h.get? c = some o → h'.get? c = some o
theorem zip_item {tp tq : Bool} {z I O i j a b : Addr} {k : Nat} {xs ys : Array Value} {x y p q : Value} {Q : Value → Shared → Prop} (D : ZA z I O i j) (Da : Off z O i j a) (Db : Off z O i j b)
    (hz : IsZip s.heap z I O .none) (hI : IsPair s.heap I (.ref i) (.ref j)) (hO : IsPair s.heap O p q) (h1 : IterAt tp s.heap i a k) (h2 : IterAt tq s.heap j b k) (ha : SeqIs tp s.heap a xs) (hb : SeqIs tq s.heap b ys) (hx : xs[k]? = some x) (hy : ys[k]? = some y)
    (hQ : ∀ h', IsZip h' z I O (rawInt s.heap.objs.size) → IsPair h' O x y → IterAt tp h' i a (k + 1) → IterAt tq h' j b (k + 1) → IsPair h' s.heap.objs.size x y → h'.objs.size = s.heap.objs.size + 1 → Four z O i j s.heap h' → Q (.ref s.heap.objs.size) { s with heap := h' }) :
    wpAny (model prog w) A (Builtin.«zip.__next__» ⟨[.ref z], []⟩) (fun fin s' => ∃ v, fin = .done (.ret v) ∧ Q v s') E s := by
  show wpAny _ _ (field (.ref z) 2 >>= _) _ _ _; refine wpAny_bind (wpAny_field hz rfl (x := .bool false) rfl ?_)
  show wpAny _ _ (field (.ref z) 3 >>= _) _ _ _; refine wpAny_bind (wpAny_field hz rfl (x := .ref I) rfl (wpAny_bind (wpAny_seqItems hI rfl ?_)))
  show wpAny _ _ (Builtin.SmallTypes.ownedTupleIsFree (.ref z) >>= _) _ _ _; refine wpAny_bind ?_
  unfold Builtin.SmallTypes.ownedTupleIsFree; refine wpAny_bind (wpAny_field hz rfl (x := .none) rfl (wpAny_pure ?_))
  simp only [if_true]; refine wpAny_bind (wpAny_rule (wpAny_bind (wpAny_field hz rfl (x := .ref O) rfl (wpAny_bind (wpAny_setField_rec hz (by simp) fun g1 z1 s1 => ?_)))))
  replace z1 : IsZip g1 z I O .ellipsis := z1
  refine wpAny_bind ?_; simp only [List.zipIdx_cons, List.zipIdx_nil, List.forIn_cons, List.forIn_nil]
  -- the first
  refine wpAny_bind (wpAny_bind (wpAny_onRaise ?_)); show wpAny _ _ (Builtin.SmallTypes.nextOf (.ref i) >>= _) _ _ _
  refine wpAny_bind (next_any (h1.keep fun o e => s1.extBut _ _ D.iz e) (ha.keep fun o e => s1.extBut _ _ Da.z e) hx fun g2 i2 s2 => wpAny_pure ?_)
  have O2 : IsPair g2 O p q := s2.extBut _ _ D.Oi (s1.extBut _ _ D.Oz hO)
  refine wpAny_bind (wpAny_seqItems O2 rfl (wpAny_bind (wpAny_updateSeq_pair O2 fun g3 O3 s3 => wpAny_bind (wpAny_letGo (wpAny_pure ?_)))))
  replace O3 : IsPair g3 O x q := O3
  -- the second
  refine wpAny_bind (wpAny_bind (wpAny_onRaise ?_)); show wpAny _ _ (Builtin.SmallTypes.nextOf (.ref j) >>= _) _ _ _
  refine wpAny_bind (next_any (h2.keep fun o e => s3.extBut _ _ D.Oj.symm (s2.extBut _ _ D.ij.symm (s1.extBut _ _ D.jz e))) (hb.keep fun o e => s3.extBut _ _ Db.O (s2.extBut _ _ Db.i (s1.extBut _ _ Db.z e))) hy fun g4 j4 s4 => wpAny_pure ?_)
  have O4 : IsPair g4 O x q := s4.extBut _ _ D.Oj O3
  refine wpAny_bind (wpAny_seqItems O4 rfl (wpAny_bind (wpAny_updateSeq_pair O4 fun g5 O5 s5 => wpAny_bind (wpAny_letGo (wpAny_pure (wpAny_pure ?_))))))
  replace O5 : IsPair g5 O x y := O5
  refine wpAny_bind (wpAny_seqItems O5 rfl (wpAny_bind (wpAny_newTuple ?_)))
  have sz : g5.objs.size = s.heap.objs.size := by rw [s5.1, s4.1, s3.1, s2.1, s1.1]
  have z5 : IsZip g5 z I O .ellipsis := s5.extBut _ _ D.Oz.symm (s4.extBut _ _ D.jz.symm (s3.extBut _ _ D.Oz.symm (s2.extBut _ _ D.iz.symm z1)))
  have k5 : Four z O i j s.heap g5 := fun c o c1 c2 c3 c4 e => s5.extBut _ _ c2 (s4.extBut _ _ c4 (s3.extBut _ _ c2 (s2.extBut _ _ c3 (s1.extBut _ _ c1 e))))
  have i5 : IterAt tp g5 i a (k + 1) := i2.keep fun o e => s5.extBut _ _ D.Oi.symm (s4.extBut _ _ D.ij (s3.extBut _ _ D.Oi.symm e))
  have j5 : IterAt tq g5 j b (k + 1) := j4.keep fun o e => s5.extBut _ _ D.Oj.symm e
  have zl : z < g5.objs.size := Heap.lt_size z5
  show wpAny _ _ (Builtin.SmallTypes.ownedTupleHandOut (.ref z) (.ref g5.objs.size) >>= _) _ _ _
  refine wpAny_bind ?_; unfold Builtin.SmallTypes.ownedTupleHandOut
  have z6 : IsZip (g5.push { cls := .type "tuple", data := .seq #[x, y] }) z I O .ellipsis := Heap.get?_push_of_some _ z5
  refine wpAny_bind (wpAny_setField_rec z6 (by simp) fun g7 z7 s7 => ?_)
  replace z7 : IsZip g7 z I O (rawInt g5.objs.size) := z7
  refine wpAny_setField_rec z7 (by simp) fun g8 z8 s8 => ?_
  replace z8 : IsZip g8 z I O (rawInt g5.objs.size) := z8
  have up : ∀ c o, c ≠ z → g5.get? c = some o → g8.get? c = some o := fun c o c1 e => s8.extBut _ _ c1 (s7.extBut _ _ c1 (Heap.get?_push_of_some _ e))
  have T8 : IsPair g8 g5.objs.size x y := s8.extBut _ _ (Nat.ne_of_gt zl) (s7.extBut _ _ (Nat.ne_of_gt zl) (Heap.get?_push_size _ rfl))
  have sz8 : g8.objs.size = g5.objs.size + 1 := by rw [s8.1, s7.1, Heap.size_push]
  rw [sz] at z8 T8 sz8
  refine wpAny_pure ⟨_, rfl, ?_⟩
  show Q (.ref g5.objs.size) _
  rw [sz]
  exact hQ g8 z8 (up _ _ D.Oz O5) (i5.keep fun o e => up _ o D.iz e) (j5.keep fun o e => up _ o D.jz e) T8 sz8 fun c o c1 c2 c3 c4 e => up c o c1 (k5 c o c1 c2 c3 c4 e)
end
end DL
end

-- Dx1
section
set_option Elab.async false
set_option linter.all false
set_option maxRecDepth 100000
namespace DL
open PySem PySem.Spec PyProof.Rows L2
theorem ObjOk.there {P : Program} {w : World} {H : Hp} {h : Heap} {a : Addr} {o : HO} (x : ObjOk P w H h a o) : ∃ ob, h.get? a = some ob := by
  cases o with
  | lst xs => obtain ⟨_, _, _, _, e⟩ := x; exact ⟨_, e⟩
  | tup xs => obtain ⟨_, _, _, ob, e, _⟩ := x; exact ⟨_, e⟩
  | dK kvs => obtain ⟨_, _, _, _, o, _, _, e, _⟩ := x; exact ⟨_, e⟩
  | dT kvs => obtain ⟨_, _, _, _, o, _, _, e, _⟩ := x; exact ⟨_, e⟩
  | set S n => obtain ⟨o, _, _, _, e, _⟩ := x; exact ⟨_, e⟩
  | ins C dx fs => obtain ⟨_, _, _, e, _⟩ := x; exact ⟨_, e⟩
  | own y => obtain ⟨_, e⟩ := x; exact ⟨_, e⟩
  | xd fs => obtain ⟨_, ⟨_, _, _, e, _⟩, _⟩ := x; exact ⟨_, e⟩
  | rng lo hi => obtain ⟨_, _, _, e⟩ := x; exact ⟨_, e⟩
  | frz ob u => obtain ⟨e, _⟩ := x; exact ⟨_, e⟩
  | tbl ps => exact ⟨_, show h.get? a = some _ from x⟩
  | met f y => exact ⟨_, show h.get? a = some _ from x⟩
  | ext φ => obtain ⟨_, e, _⟩ := x; exact e
section
variable {X : Cx} {pins : List (Addr × Obj)} {σ : L2.St} {H : Hp} {s : Shared} {B h' : Heap}
abbrev Fn1 (X : Cx) : Prop := X.ex = [] ∧ X.stack = X.env :: X.outer ∧ X.env.frame = some X.env.locals
theorem Fn1.mem (F : Fn1 X) {b : Addr} : b ∈ frs X.stack ↔ b = X.env.locals ∨ b ∈ X.fs := by
  rw [F.2.1]
  unfold frs
  rw [List.filterMap_cons, F.2.2]
  exact List.mem_cons
theorem Old.there (I : Inv X pins σ H s) (F : Fn1 X) {b : Addr} (o : Old X pins H b) : ∃ ob, s.heap.get? b = some ob := by
  rcases o with ⟨o, e⟩ | e | ⟨p, hp, rfl⟩ | ⟨x, e⟩
  · exact I.base.there b o e (by rw [F.1]; simp)
  · cases q : H b with
    | none => exact absurd q e
    | some u => exact ObjOk.there (I.hok b u q)
  · exact ⟨_, (I.pin p hp).1⟩
  · obtain ⟨v, ob, ho, _⟩ := I.cell x b e
    exact ⟨ob, ho⟩
theorem Inv.fly (I : Inv X pins σ H s) (F : Fn1 X) (cv : Cv X pins H B s.heap) (st : B.StaysIn h') (up : s.heap.UpToSlots h') : Inv X pins σ H { s with heap := h' } ∧ Cv X pins H B h' := by
  have kp : ∀ b o, s.heap.get? b = some o → Old X pins H b → b ∉ frs X.stack → h'.get? b = some o := fun b o e q n => st b o (cv b o e q n)
  have neL : ∀ b o, X.s₀.heap.get? b = some o → b ≠ X.env.locals := fun b o e => Nat.ne_of_lt (Nat.lt_of_lt_of_le (Heap.lt_size e) I.ok.above)
  have nofr : ∀ b o, X.s₀.heap.get? b = some o → b ∉ X.fs → b ∉ frs X.stack := fun b o e n z => (F.mem.mp z).elim (neL b o e) n
  have nx : ∀ b, b ∉ X.ex := fun b => by rw [F.1]; simp
  have frU : ∀ b, b ∈ frs X.stack → ∀ o, s.heap.get? b = some o → ∃ sl, h'.get? b = some { o with slots := sl } := fun b hb o e => by
    obtain ⟨_, o', e', nf⟩ := I.stack.mem hb
    rw [e] at e'; cases e'
    exact up b o e nf
  have cellK : ∀ x c, X.env.cells.lookup x = some c → ∀ v, s.heap.IsCell c v → h'.IsCell c v := fun x c e v ⟨o, ho, hd⟩ => by
    obtain ⟨sl, q⟩ := up c o ho fun vs z => by rw [hd] at z; cases z
    exact ⟨_, q, hd⟩
  refine ⟨⟨I.ok, I.os, I.bare, ⟨fun b o e n hb hx => ?_, fun b o e n hb hx => ?_, I.base.free, fun b o e hx => ?_, I.base.tups, I.base.frzs, I.base.tbls⟩, ?_, fun x c e => ?_, I.free, I.freeC, fun p hp => ?_, fun a o e => ?_, I.len⟩, fun b o e q n => ?_⟩
  · exact kp b o (I.base.keep b o e n hb hx) (.inl ⟨o, e⟩) (nofr b o e hb)
  · obtain ⟨sl, e1⟩ := I.base.slot b o e n hb hx
    obtain ⟨sl', e2⟩ := frU b (F.mem.mpr (.inr hb)) _ e1
    exact ⟨sl', e2⟩
  · obtain ⟨o', e1⟩ := I.base.there b o e hx
    by_cases hb : b ∈ frs X.stack
    · obtain ⟨sl, e2⟩ := frU b hb _ e1
      exact ⟨_, e2⟩
    · exact ⟨o', kp b o' e1 (.inl ⟨o, e⟩) hb⟩
  · obtain ⟨m, hn, hl⟩ := I.loc
    refine ⟨m, up.ns hn, fun i x v e1 e2 e3 => ?_⟩
    obtain ⟨u, r, l⟩ := hl i x v e1 e2 e3
    refine ⟨u, r, ?_⟩
    rcases l with l | ⟨k, c, e, z⟩
    · exact .inl l
    · exact .inr ⟨k, c, e, cellK x c e _ z⟩
  · obtain ⟨v, z⟩ := I.cell x c e
    exact ⟨v, cellK x c e v z⟩
  · obtain ⟨e, n, ne, nf, d⟩ := I.pin p hp
    exact ⟨kp p.1 p.2 e (.inr (.inr (.inl ⟨p, hp, rfl⟩))) fun z => (F.mem.mp z).elim ne nf, n, ne, nf, d⟩
  · refine (I.hok a o e).stay (fun b u hb q => ?_) (fun _ q => q) fun _ _ q => q
    have hn : H b ≠ none := by
      rcases hb with rfl | hb
      · rw [e]; intro z; cases z
      · rw [hb]; intro z; cases z
    exact kp b u q (.inr (.inl hn)) fun z => hn (I.stkFree b z)
  · obtain ⟨o1, e1⟩ := Old.there I F q
    have e2 := cv b o1 e1 q n
    have e3 := st b o1 e2
    rw [e] at e3; cases e3
    exact e2
/-- what was just made flies off -/
theorem new_cv {c : Value} {e : Addr} {g : Heap} {args : List Value} (I : Inv X pins σ H s) (hm : Heap.MadeExcOf g s.heap e c args) (hf : g.FunFrames X.base X.stack) (hk : ∀ b o, s.heap.get? b = some o → Old X pins H b → g.get? b = some o) :
    (PySem.W.hideAll g (frs X.stack)).StaysIn g ∧ g.FunFrames (PySem.W.hideAll g (frs X.stack)) X.stack ∧ Cv X pins H (PySem.W.hideAll g (frs X.stack)) s.heap :=
  ⟨fun b o q => PySem.W.of_hideAll _ q, PySem.W.funFrames_hide hf fun env he a ha => List.mem_filterMap.mpr ⟨env, he, ha⟩, fun b o e q n => PySem.W.hideAll_get _ (hk b o e q) n⟩

/-- the exception leaves the frame -/
theorem leave_fly {M : Model} {A : Around} {E : Value → Shared → Prop} {c : Value} {e : Addr} {Q : Unit → Shared → Prop} (I : Inv X pins σ H s) (F : Fn1 X) (hA : A.frames = some X.stack) (f : FlyX X pins H c e s.heap)
    (hQ : ∀ h' B a0, Heap.FlyingW B X.outer e c a0 h' → Inv X pins σ H { s with heap := h' } → Cv X pins H B h' → Q () { s with heap := h' }) : wpAny M A (leaving X.env (.ref e)) Q E s := by
  cases f with
  | new g args hm hf hk =>
    obtain ⟨k1, k2, k3⟩ := new_cv I hm hf hk
    rw [F.2.1] at hA
    refine wpAny_leaves_madeW hA F.2.2 k1 (by rw [← F.2.1]; exact k2) hm fun h' t x1 x2 x3 x4 => ?_
    obtain ⟨I1, cv1⟩ := Inv.fly I F k3 x1.1 x4
    exact hQ h' _ _ x1 I1 cv1
  | fly B a0 fl cv =>
    rw [F.2.1] at hA
    refine wpAny_leaves_onW hA F.2.2 (by rw [← F.2.1]; exact fl) fun h' x1 x2 => ?_
    obtain ⟨I1, cv1⟩ := Inv.fly I F cv x1.1 x2
    exact hQ h' _ _ x1 I1 cv1
end
/-- how an exception lies behind a call -/
def CXd (P : Program) (w : World) : CXT := fun outer H s E u s' =>
  ∃ e c H' B a0, u = .ref e ∧ s'.os = s.os ∧ AllBare s'.gens ∧ Un (frs outer) [] H H' s.heap s'.heap ∧ HOk P w H' s'.heap ∧ Heap.FlyingW B outer e c a0 s'.heap ∧
    (∀ b o, s'.heap.get? b = some o → ((∃ o, s.heap.get? b = some o) ∨ H' b ≠ none) → b ∉ frs outer → B.get? b = some o) ∧ E c none H'
section
variable {X : Cx} {pins : List (Addr × Obj)} {σ : L2.St} {H : Hp} {s s' : Shared}
/-- out of a call into this frame -/
theorem fly_in {E : XK} {u : Value} (I : Inv X pins σ H s) (F : Fn1 X) (h : CXd X.prog X.w X.stack H s E u s') : ∃ e c H', u = .ref e ∧ Inv X pins σ H' s' ∧ FlyX X pins H' c e s'.heap ∧ E c none H' := by
  obtain ⟨e, c, H', B, a0, rfl, os, bare, un, hok, fl, cov, q⟩ := h
  have I' : Inv X pins σ H' s' := Inv.call' I os un hok bare (ch := []) fun b z => absurd z (by simp)
  refine ⟨e, c, H', rfl, I', .fly B a0 fl fun b o eb old n => cov b o eb ?_ n, q⟩
  rcases old with ⟨o, z⟩ | z | ⟨p, hp, rfl⟩ | ⟨x, z⟩
  · exact .inl (I.base.there b o z (by rw [F.1]; simp))
  · exact .inr z
  · exact .inl ⟨_, (I.pin p hp).1⟩
  · obtain ⟨v, ob, ho, _⟩ := I.cell x b z
    exact .inl ⟨ob, ho⟩
end
end DL
end

-- Dx2
section
set_option Elab.async false
set_option linter.all false
set_option maxRecDepth 100000
namespace DL
open PySem PySem.Spec PyProof.Rows L2
structure RoomC (cm : Bool) (k : Nat) (A : Around) : Prop where
  hd : cm = true → A.handled = none
  dp : A.depth + 3 * k + 5 < recursionLimit
  un : A.units + 16 * k + 200 < cLine
theorem RoomC.mono {cm : Bool} {j k : Nat} {A : Around} (r : RoomC cm k A) (h : j ≤ k := by decide) : RoomC cm j A := ⟨r.hd, by have := r.dp; omega, by have := r.un; omega⟩
theorem RoomC.deeper {cm : Bool} {k : Nat} {A : Around} (r : RoomC cm (k + 1) A) (env : Env) : RoomC cm k (A.deeper env) :=
  ⟨r.hd, by have := r.dp; show A.depth + 1 + 3 * k + 5 < _; omega, by have := r.un; show A.units + 3 + 16 * k + 200 < _; omega⟩
theorem RoomC.depth {cm : Bool} {k : Nat} {A : Around} (r : RoomC cm k A) : A.depth < recursionLimit := by have := r.dp; omega
theorem RoomC.units {cm : Bool} {k : Nat} {A : Around} (r : RoomC cm k A) : A.units + 64 < cLine := by have := r.un; omega
theorem RoomC.of {k : Nat} {A : Around} (r : Room k A) : RoomC true k A := ⟨fun _ => r.hd, r.dp, r.un⟩
theorem RoomC.room {k : Nat} {A : Around} (r : RoomC true k A) : Room k A := ⟨r.hd rfl, r.dp, r.un⟩
theorem RoomC.any {cm : Bool} {k : Nat} {A : Around} (r : RoomC cm k A) : RoomC false k A := ⟨(fun z => nomatch z), r.dp, r.un⟩
theorem RoomC.mark {cm : Bool} {k : Nat} {A : Around} (r : RoomC cm k A) (h : Option Value) : RoomC false k (A.mark h) := ⟨(fun z => nomatch z), r.dp, r.un⟩
/-- another surrounding of the same frame -/
abbrev Cx.re (X : Cx) (A : Around) (cm : Bool) (E : Value → Shared → Prop) : Cx := { X with A := A, calm := cm, xe := E }
theorem Inv.re {X : Cx} {pins : List (Addr × Obj)} {σ : L2.St} {H : Hp} {s : Shared} (I : Inv X pins σ H s) (A : Around) (cm : Bool) (E : Value → Shared → Prop) (hf : A.frames = some X.stack) (hh : cm = true → A.handled = none) : Inv (Cx.re X A cm E) pins σ H s :=
  ⟨⟨I.ok.mod, I.ok.kind, I.ok.glob, I.ok.blt, I.ok.above, I.ok.inj, I.ok.has, I.ok.cab, hh, hf, I.ok.stk, I.ok.exf, I.ok.bs, I.ok.bsz, I.ok.noex, I.ok.exfs, I.ok.funs, I.ok.frf⟩, I.os, I.bare, I.base, I.loc, I.cell, I.free, I.freeC, I.pin, I.hok, I.len⟩
theorem Inv.unre {X : Cx} {pins : List (Addr × Obj)} {σ : L2.St} {H : Hp} {s : Shared} {A : Around} {cm : Bool} {E : Value → Shared → Prop} (I : Inv (Cx.re X A cm E) pins σ H s) (hf : X.A.frames = some X.stack) (hh : X.calm = true → X.A.handled = none) : Inv X pins σ H s :=
  ⟨⟨I.ok.mod, I.ok.kind, I.ok.glob, I.ok.blt, I.ok.above, I.ok.inj, I.ok.has, I.ok.cab, hh, hf, I.ok.stk, I.ok.exf, I.ok.bs, I.ok.bsz, I.ok.noex, I.ok.exfs, I.ok.funs, I.ok.frf⟩, I.os, I.bare, I.base, I.loc, I.cell, I.free, I.freeC, I.pin, I.hok, I.len⟩

structure FnX (P : Program) (w : World) (K : PySem.W.Frag) (mg : Str → Option Value) (base : Heap) (cm : Bool) (k : Nat) (f : Addr) (fd : FuncData) (ps : List Str) (sp : Sp) : Prop where
  len : ∀ vs H Q E, sp vs H Q E → vs.length = ps.length
  run : ∀ (A : Around) (outer : List Env) (s : Shared) (H : Hp) (args : Args) (us : List Value) (vs : List V) (Q : VK) (E : XK), RoomC cm k A → Env0 P w K mg base A outer s H → BindsTo s fd args (ps.zip us) → Vals vs us → sp vs H Q E →
    codeAny (model P w) A (.call (.ref f) args) (CR (CXd P w) outer P w H s Q E) s
theorem FnX.ok {P : Program} {w : World} {K : PySem.W.Frag} {mg : Str → Option Value} {base : Heap} {k : Nat} {f : Addr} {fd : FuncData} {ps : List Str} {sp : Sp} (F : FnX P w K mg base true k f fd ps sp) : FnOk P w K mg base (CXd P w) k f fd ps sp :=
  ⟨F.len, fun A outer s H args us vs Q E hr => F.run A outer s H args us vs Q E (.of hr)⟩
theorem FnX.any {P : Program} {w : World} {K : PySem.W.Frag} {mg : Str → Option Value} {base : Heap} {cm : Bool} {k : Nat} {f : Addr} {fd : FuncData} {ps : List Str} {sp : Sp} (F : FnX P w K mg base false k f fd ps sp) : FnX P w K mg base cm k f fd ps sp :=
  ⟨F.len, fun A outer s H args us vs Q E hr => F.run A outer s H args us vs Q E hr.any⟩
theorem FnX.imp {P : Program} {w : World} {K : PySem.W.Frag} {mg : Str → Option Value} {base : Heap} {cm : Bool} {k : Nat} {f : Addr} {fd : FuncData} {ps : List Str} {sp sp' : Sp} (F : FnX P w K mg base cm k f fd ps sp)
    (h : ∀ vs H Q E, sp' vs H Q E → sp vs H Q E) : FnX P w K mg base cm k f fd ps sp' :=
  ⟨fun vs H Q E q => F.len vs H Q E (h _ _ _ _ q), fun A outer s H args us vs Q E hr he hb hv hs => F.run A outer s H args us vs Q E hr he hb hv (h _ _ _ _ hs)⟩
/-- the context of a def's body -/
def cxC (cm : Bool) (P : Program) (w : World) (K : PySem.W.Frag) (mg : Str → Option Value) (base : Heap) (N : List Str) (qual : Str) (scope : Scope) (f : Addr) (cd : Value) (A : Around) (outer : List Env) (s : Shared) (H : Hp) (E : XK) : Cx where
  prog := P
  w := w
  K := K
  mg := mg
  base := base
  A := A.deeper (envOfC qual scope s.heap.objs.size f cd)
  N := N
  s₀ := s
  H₀ := H
  env := envOfC qual scope s.heap.objs.size f cd
  outer := outer
  stack := envOfC qual scope s.heap.objs.size f cd :: outer
  ex := []
  calm := cm
  fn := fun _ => true
  pn := []
  xe := fun e s' => wpAny (model P w) (A.deeper (envOfC qual scope s.heap.objs.size f cd)) (leaving (envOfC qual scope s.heap.objs.size f cd) e) (fun _ s'' => CXd P w outer H s E e s'') (fun e' s'' => CXd P w outer H s E e' s'') s'
section
variable {P : Program} {w : World} {K : PySem.W.Frag} {mg : Str → Option Value} {base : Heap} {cm : Bool} {N : List Str} {qual : Str} {scope : Scope} {f : Addr} {cd : Value} {A : Around} {outer : List Env} {s : Shared} {H : Hp} {E : XK}
theorem cxC_pass : PassesOwn (model P w) (A.deeper (envOfC qual scope s.heap.objs.size f cd)) (envOfC qual scope s.heap.objs.size f cd) (cxC cm P w K mg base N qual scope f cd A outer s H E).xe := PassesOwn.leaving (Q₁ := fun e s'' => CXd P w outer H s E e s'')
/-- an exception that flies in the body leaves it -/
theorem cxC_leave {P0 : Hp} {α : List Addr} {c : Value} {x : D} {S : Sto} {u : Value} {s' : Shared} (k : XOk (cxC cm P w K mg base N qual scope f cd A outer s H E) P0 α c x S u s')
    (q : ∀ H' P' α', Rel K H' P' α' S → Same P0 P' → α <+: α' → E c none H') : (cxC cm P w K mg base N qual scope f cd A outer s H E).xe u s' := by
  obtain ⟨e, pins, σ, H1, P1, α1, rfl, I, r, e1, e2, F, fl⟩ := k
  refine leave_fly (X := cxC cm P w K mg base N qual scope f cd A outer s H E) I F I.ok.frames fl fun h' B a0 x1 I1 cv => ?_
  refine ⟨e, c, H1, B, a0, rfl, I1.os, I1.bare, I1.base, I1.hok, x1, fun b o eb hb n => cv b o eb ?_ fun z => ?_, q H1 P1 α1 r e1 e2⟩
  · rcases hb with z | z
    · exact .inl z
    · exact .inr (.inl z)
  · rcases (Fn1.mem F).mp z with z | z
    · subst z
      rcases hb with ⟨o', e'⟩ | z
      · exact absurd (Heap.lt_size e') (Nat.not_lt.mpr I1.ok.above)
      · exact z I1.free
    · exact n z
theorem inv_startC {ps : List Str} {s1 : Shared} {us : List Value} {vs : List V} (S : FnScope N ps scope) (hd : cm = true → A.handled = none) (e0 : Env0 P w K mg base A outer s H) (hl : vs.length = ps.length) (r : Vals vs us)
    (x : InCallC s s.heap.objs.size (bindL (envOfC qual scope s.heap.objs.size f cd).kindOf (ps.zip us) fun _ => none) (cellsFrom (s.heap.objs.size + 1) scope.names []) (bindC (envOfC qual scope s.heap.objs.size f cd).kindOf (ps.zip us) fun _ => none) s1) :
    Inv (cxC cm P w K mg base N qual scope f cd A outer s H E) [] (L2.start N vs) H s1 := by
  have I := inv_start (CX := CXd P w) (E := E) (A := { A with handled := none }) S rfl ⟨e0.frames, e0.mod, e0.bs, e0.bsz, e0.funs, e0.frf, e0.hok, e0.bare⟩ hl r x
  have J := Inv.re I (A.deeper (envOfC qual scope s.heap.objs.size f cd)) cm (cxC cm P w K mg base N qual scope f cd A outer s H E).xe (Around.frames_deeper e0.frames) hd
  exact J
end
/-- THE RULE: a def of the text, by its body -/
theorem fn_ofC {P : Program} {w : World} {K : PySem.W.Frag} {mg : Str → Option Value} {base : Heap} {cm : Bool} {k : Nat} {f : Addr} {x qual : Str} {st : Stmt} {fd : FuncData} {N ps : List Str} {sp : Sp} (F : Fun K x qual st f fd) (S : FnScope N ps (defScope st))
    (len : ∀ vs H Q E, sp vs H Q E → vs.length = ps.length)
    (hbody : ∀ (cdv : Value) (A : Around) (outer : List Env) (s : Shared) (H : Hp) (vs : List V) (Q : VK) (E : XK), RoomC cm k (A.deeper (envOfC qual (defScope st) s.heap.objs.size f cdv)) → sp vs H Q E →
      ∃ t, PSs (cxC cm P w K mg base N qual (defScope st) f cdv A outer s H E) (defBody st) t ∧ t { nx := fun _ H' => Q .non H', rt := Q } (L2.start N vs) H) :
    FnX P w K mg base cm (k + 1) f fd ps sp := by
  obtain ⟨oc, od, kV, doc, pm, an, cdv, ct, osl, rfl, lk, hcd⟩ := F.ex
  refine ⟨len, fun A outer s H args us vs Q E hr e0 hb r hsp => ?_⟩
  have hl := len _ _ _ _ hsp
  have KX : K.In s.heap := e0.mod.kin.keeps fun b o e => (e0.bs b o e).1
  have lim : s.heap.NoLimit := e0.mod.nolimit.keeps fun b o e => (e0.bs b o e).1
  have hkind : ∀ y ∈ ps.zip us, (defScope st).names.lookup y.1 = some .local ∨ ((defScope st).names.lookup y.1 = some .cell ∧ ((cellsFrom (s.heap.objs.size + 1) (defScope st).names []).lookup y.1).isSome = true) := fun ⟨n, v⟩ hy => by
    rcases S.par n (List.of_mem_zip hy).1 with q | q
    · exact .inl q
    · exact .inr ⟨q, PySem.W.cellsFrom_some _ _ _ (.inl q)⟩
  refine codeAny_call_function hr.depth (KX _ _ lk) rfl S.co S.gen rfl (PySem.W.codeRec_of KX hcd) (hb _ _ _ _ ?_)
  refine wpAny_newFunctionEnv_cells S.kind hkind fun env he s1 x => ?_
  subst he
  refine ⟨lim.keeps x.toInCall.keep, codeAny_func ?_⟩
  obtain ⟨t, ht, hq⟩ := hbody cdv A outer s H vs Q E (hr.deeper _) hsp
  have I : Inv (cxC cm P w K mg base N qual (defScope st) f cdv A outer s H E) [] (L2.start N vs) H s1 := inv_startC S hr.hd e0 hl r x
  refine wpAny_mono (ht [] s1 (L2.start N vs) H _ I hq) (fun fl s' hs => ?_) fun e s' hs => hs
  have fin : ∀ {σ' : L2.St} {H' : Hp} {v : V} {u : Value}, Inv (cxC cm P w K mg base N qual (defScope st) f cdv A outer s H E) [] σ' H' s' → RelV v u → Q v H' → CE outer P w H s Q u s' :=
    fun {σ' H' v u} J rv q => ⟨v, H', J.os, J.bare, J.base, J.hok, rv, q⟩
  cases fl with
  | ret u =>
    obtain ⟨v, σ', H', J, rv, q⟩ := hs
    exact fin J rv q
  | next =>
    obtain ⟨σ', H', J, q⟩ := hs
    exact fin (v := V.non) (u := Value.none) J rfl q
  | brk =>
    obtain ⟨_, _, _, q⟩ := hs
    exact False.elim q
  | cont =>
    obtain ⟨_, _, _, q⟩ := hs
    exact False.elim q
def startD (n : Nat) (ds : List D) : DEnv := ds.map some ++ List.replicate (n - ds.length) none
def outR : Out → Res D
  | .rt d S => .ok d S
  | .nx _ S => .ok .non S
  | .ex c x _ S => .ex c x S
  | _ => .bad
/-- a def by its body -/
def runB (n : Nat) (g : DS) : DF := fun ds S => outR (g (startD n ds) S)
/-- a def's promise by data -/
def spD (K : PySem.W.Frag) (n : Nat) (F : DF) : Sp := fun vs H Q E => vs.length = n ∧ ∃ P α ds S, Rel K H P α S ∧ Reps K P α ds vs ∧ match F ds S with
  | .ok d S' => ∀ v H' P' α', Rel K H' P' α' S' → Same P P' → α <+: α' → Rep K P' α' d v → Q v H'
  | .ex c _ S' => ∀ H' P' α', Rel K H' P' α' S' → Same P P' → α <+: α' → E c none H'
  | .bad => False
theorem renv_start {K : PySem.W.Frag} {P : Hp} {α : List Addr} {N : List Str} {ds : List D} {vs : List V} (r : Reps K P α ds vs) : REnv K P α (L2.start N vs) (startD N.length ds) := by
  refine ⟨by simp [startD, L2.start, r.length], fun i d e => ?_⟩
  unfold startD at e
  unfold L2.start
  by_cases hi : i < ds.length
  · rw [List.getElem?_append_left (by simpa using hi), List.getElem?_map] at e
    rw [List.getElem?_append_left (by rw [List.length_map, ← r.length]; exact hi), List.getElem?_map]
    cases q : ds[i]? with
    | none => rw [q] at e; cases e
    | some d' =>
      rw [q] at e; cases e
      obtain ⟨v, h1, h2⟩ := r.get q
      exact ⟨v, by rw [h1]; rfl, h2⟩
  · rw [List.getElem?_append_right (by simpa using hi), List.getElem?_replicate] at e
    split at e <;> cases e
section
variable {P : Program} {w : World} {K : PySem.W.Frag} {mg : Str → Option Value} {base : Heap} {cm : Bool}
theorem fnX {x qual : Str} {st : Stmt} {f : Addr} {fd : FuncData} {N ps : List Str} {k : Nat} {g : DS} (F : Fun K x qual st f fd) (S : FnScope N ps (defScope st))
    (hbody : ∀ (cdv : Value) (A : Around) (outer : List Env) (s : Shared) (H : Hp) (E : XK), RoomC cm k (A.deeper (envOfC qual (defScope st) s.heap.objs.size f cdv)) →
      PSs (cxC cm P w K mg base N qual (defScope st) f cdv A outer s H E) (defBody st) (tDS (cxC cm P w K mg base N qual (defScope st) f cdv A outer s H E) g)) :
    FnX P w K mg base cm (k + 1) f fd ps (spD K ps.length (runB N.length g)) := by
  refine fn_ofC F S (fun vs H Q E h => h.1) fun cdv A outer s H vs Q E hr h => ?_
  obtain ⟨hl, P', α, ds, S', r, rp, af⟩ := h
  refine ⟨_, hbody cdv A outer s H E hr, P', α, startD N.length ds, S', r, renv_start rp, ?_⟩
  unfold runB at af
  cases q : g (startD N.length ds) S' with
  | rt d S1 => rw [q] at af; exact fun v H' P1 α1 r1 e1 e2 p1 => af v H' P1 α1 r1 e1 e2 p1
  | nx env S1 => rw [q] at af; exact fun σ' H' P1 α1 r1 re1 e1 e2 => af .non H' P1 α1 r1 e1 e2 (by simp only [Rep])
  | bk env S1 => rw [q] at af; exact False.elim af
  | ct env S1 => rw [q] at af; exact False.elim af
  | ex c x env S1 => rw [q] at af; exact fun u s' z => cxC_leave z fun H' P1 α1 r1 e1 e2 => af H' P1 α1 r1 e1 e2
  | bad => rw [q] at af; exact False.elim af
/-- a promise by a function that tells the same -/
theorem FnX.eq {k : Nat} {f : Addr} {fd : FuncData} {ps : List Str} {n : Nat} {F G : DF} (h : FnX P w K mg base cm k f fd ps (spD K n F)) (e : ∀ ds S, ds.length = n → G ds S ≠ .bad → F ds S = G ds S) : FnX P w K mg base cm k f fd ps (spD K n G) := by
  refine h.imp fun vs H Q E ⟨hl, P', α, ds, S, r, rp, af⟩ => ⟨hl, P', α, ds, S, r, rp, ?_⟩
  have hd : ds.length = n := by rw [rp.length]; exact hl
  cases q : G ds S with
  | ok d S' => rw [e ds S hd (by rw [q]; intro z; cases z)]; exact af
  | ex c x S' => rw [e ds S hd (by rw [q]; intro z; cases z)]; exact af
  | bad => rw [q] at af; exact False.elim af
end
section
variable {X : Cx} {cm : Bool} {k : Nat} {f : Addr} {fd : FuncData} {ps : List Str} {F : DF} {x : Str} {p pos : Pos} {e : Expr} {es : List Expr} {fa : DA} {n : Nat}
def dCall (n : Nat) (F : DF) (fa : DA) : DE := fun env S => (fa env S).bind fun ds S1 => if ds.length = n then F ds S1 else .bad
/-- the callee runs -/
theorem run_fnX {pins : List (Addr × Obj)} {σ : L2.St} {H : Hp} {s : Shared} {Q : VK} {us : List Value} {vs : List V} {P : Hp} {α : List Addr} {ds : List D} {S : Sto} (G : FnX X.prog X.w X.K X.mg X.base cm k f fd ps (spD X.K n F)) (hr : RoomC cm k X.A) (hb : Binds X.K fd ps []) (hF : Fn1 X)
    (I : Inv X pins σ H s) (r : Rel X.K H P α S) (rv : Vals vs us) (rp : Reps X.K P α ds vs) (hn : ds.length = n) (af : After X P α (F ds S) Q) : wpAny (model X.prog X.w) X.A (call (.ref f) us) (EP X pins σ Q) X.xe s := by
  have hvn : vs.length = n := by rw [← rp.length]; exact hn
  let E : XK := fun c _ H' => match F ds S with
    | .ex c' _ S' => c = c' ∧ ∃ P' α', Rel X.K H' P' α' S' ∧ Same P P' ∧ α <+: α'
    | _ => False
  have hsp : spD X.K n F vs H Q E := by
    refine ⟨hvn, P, α, ds, S, r, rp, ?_⟩
    cases q : F ds S with
    | ok d S' => rw [q] at af; exact af
    | ex c x S' =>
      intro H' P' α' r' e1 e2
      show match F ds S with | .ex c' _ S' => c = c' ∧ ∃ P' α', Rel X.K H' P' α' S' ∧ Same P P' ∧ α <+: α' | _ => False
      rw [q]
      exact ⟨rfl, P', α', r', e1, e2⟩
    | bad => rw [q] at af; exact af
  have hl : us.length = ps.length := by rw [← rv.length]; exact G.len _ _ _ _ hsp
  have hb' := hb s us I.kIn (by rw [List.append_nil]; exact hl)
  rw [List.append_nil] at hb'
  refine wpAny_call (codeAny_mono (G.run X.A X.stack s H ⟨us, []⟩ us vs Q E hr I.env0 hb' rv hsp) fun r s' hq => ?_)
  cases r with
  | error u =>
    obtain ⟨a, c, H', rfl, I', fl, q⟩ := fly_in I hF hq
    cases z : F ds S with
    | ok d S' => simp only [E, z] at q
    | bad => simp only [E, z] at q
    | ex c' x' S' =>
      simp only [E, z] at q
      obtain ⟨rfl, P', α', r', e1, e2⟩ := q
      rw [z] at af
      exact af _ _ ⟨a, pins, σ, H', P', α', rfl, I', r', e1, e2, hF, fl⟩
  | ok fl =>
    cases fl with
    | ret u => exact I.after hq
    | next => exact False.elim hq
    | brk => exact False.elim hq
    | cont => exact False.elim hq
theorem dcall_len {env : DEnv} {S S1 : Sto} {P : Hp} {α : List Addr} {ds : List D} {Ok : D → Sto → Prop} (h : AfterG X P α (if ds.length = n then F ds S1 else .bad) Ok) : ds.length = n ∧ AfterG X P α (F ds S1) Ok := by
  by_cases hn : ds.length = n
  · rw [if_pos hn] at h; exact ⟨hn, h⟩
  · rw [if_neg hn] at h; exact False.elim h
/-- f(e, ..): own def -/
theorem de_call (G : FnX X.prog X.w X.K X.mg X.base cm k f fd ps (spD X.K n F)) (hr : RoomC cm k X.A) (hF : Fn1 X) (hg : Gl X x) (hm : X.mg x = some (.ref f)) (hk : PySem.W.keepIn X.K (.ref f) = true) (hb : Binds X.K fd ps [])
    (ha : PA X (e :: es) (tDA X fa)) (hdb : (x == ("__debug__" : Str)) = false := by decide) (he : starEach (e :: es) X.env = (false, eval e X.env) :: starEach es X.env := by rfl) (hpl : (backTo pos (starEach es X.env)).any (·.1) = false := by rfl) :
    PE X (.Call (.Name x p) (e :: es) [] pos) (tD X (dCall n F fa)) := by
  intro pins s σ H Q I h
  obtain ⟨P, α, env, S, r, re, af⟩ := h
  refine wpAny_Call_Name_kw (ld_glob I hg hm ?_ hdb)
  refine PySem.W.callWith_K (h₀ := X.base) I.ok.mod.kin hk (thn (dThenA ha I r re af pos) fun us s1 ⟨vs, H1, P1, α1, ds, S1, I1, rv, r1, re1, rp, e1, e2, af1⟩ => ⟨I1.kIn, ?_⟩) he hpl
  obtain ⟨hn, af2⟩ := dcall_len (env := env) (S := S) af1
  exact run_fnX G hr hb hF I1 r1 rv rp hn (After.base e1 e2 af2)
end
end DL
end

-- Dx3
section
set_option Elab.async false
set_option linter.all false
set_option maxRecDepth 100000
namespace DL
open PySem PySem.Spec PyProof.Rows L2
/-- ValueError's bases, as the library tells them -/
abbrev bmVE : List Value := [.type "ValueError", .type "Exception", .type "BaseException", .type "object"]
theorem exc_obj {K : PySem.W.Frag} {h : Heap} {C : Addr} {bmB : List Value} {nid : String} (KI : K.In h) (z : PySem.W.excIn K C bmB nid = true) :
    ∃ tl N nm qn bs hdct sn sub ab col dd k0 k1 k2 k3 k5 mN, h.get? C = some (excClassObj nm qn C N bs tl hdct sn sub ab col dd k0 k1 k2 k3 k5 nid) ∧ h.Ns N mN ∧ mN "__init__" = none ∧ OwnTail h bmB tl := by
  unfold PySem.W.excIn at z
  split at z
  case h_2 => cases z
  case h_1 dd cd sl lk =>
    split at z
    case h_2 => cases z
    case h_1 C' tl k0 k1 k2 k3 nn k5 em es =>
      simp only [Bool.and_eq_true, beq_iff_eq, Bool.not_eq_true'] at z
      obtain ⟨⟨⟨⟨⟨z1, z2⟩, z3⟩, z4⟩, z5⟩, z6⟩ := z
      subst z1
      subst z2
      cases cd
      dsimp only at em z3 z5 z6
      subst em
      subst z3
      obtain ⟨l⟩ := sl
      simp only at es
      subst es
      exact ⟨tl, _, _, _, _, _, _, _, _, _, dd, k0, k1, k2, k3, k5, _, KI _ _ lk, .of_isNs (PySem.W.isNs_of_in KI z5), PySem.W.nsMap_none_of_in KI z5 z6, PySem.W.tail_of_in KI z4⟩
section
variable {X : Cx} {pos : Pos} {fa : DA}
def sRaise (c : Value) (fa : DA) : DS := fun env S => (fa env S).toS env fun ds S1 => if ds.length ≤ lim then .ex c .non env S1 else .bad
theorem dThenAS {es : List Expr} {k : List D → Sto → Out} {pins : List (Addr × Obj)} {s : Shared} {σ : L2.St} {H P : Hp} {α : List Addr} {env : DEnv} {S : Sto} {D : Ends} (he : PA X es (tDA X fa)) (I : Inv X pins σ H s) (r : Rel X.K H P α S)
    (re : REnv X.K P α σ env) (af : AfterS X P α ((fa env S).toS env k) D) (pos : Pos) :
    wpAny (model X.prog X.w) X.A (spliced (backTo pos (starEach es X.env))) (fun us s1 => ∃ vs H1 P1 α1 ds S1, Inv X pins σ H1 s1 ∧ Vals vs us ∧ Rel X.K H1 P1 α1 S1 ∧ REnv X.K P1 α1 σ env ∧ Reps X.K P1 α1 ds vs ∧ Same P P1 ∧ α <+: α1 ∧ AfterS X P1 α1 (k ds S1) D) X.xe s := by
  have af1 : AfterG X P α ((fa env S).bind fun d S => .ok d S) fun d S => AfterS X P α (k d S) D := by
    have := toS_after af
    cases q : fa env S <;> rw [q] at this <;> exact this
  exact thn (dThenA he I r re af1 pos) fun u s1 ⟨vs, H1, P1, α1, ds, S1, I1, rv, r1, re1, rp, e1, e2, q⟩ => ⟨vs, H1, P1, α1, ds, S1, I1, rv, r1, re1, rp, e1, e2, AfterS.base e1 e2 q⟩
theorem ds_raise {x : Str} {C : Addr} {e₀ : Expr} {rest : List Expr} {np cpos : Pos} (hc : X.calm = true) (hF : Fn1 X) (hg : Gl X x) (hm : X.mg x = some (.ref C)) (hx : PySem.W.excIn X.K C bmVE "ValueError.__new__" = true) (ha : PA X (e₀ :: rest) (tDA X fa))
    (hdb : (x == ("__debug__" : Str)) = false := by decide) (he : starEach (e₀ :: rest) X.env = (false, eval e₀ X.env) :: starEach rest X.env := by rfl) (hpl : (backTo cpos (starEach rest X.env)).any (·.1) = false := by rfl) :
    PS X (.Raise (some (.Call (.Name x np) (e₀ :: rest) [] cpos)) none pos) (tDS X (sRaise (.ref C) fa)) := by
  intro pins s σ H D I h
  obtain ⟨P, α, env, S, r, re, af⟩ := h
  obtain ⟨tl, N, nm, qn, bs, hdct, sn, sub, ab, col, dd, k0, k1, k2, k3, k5, mN, hC, hN, hni, T⟩ := exc_obj I.mod.kin hx
  refine wpAny_Raise_call_subT (C := C) (nm := nm) (q := qn) (N := N) (bs := bs) (bm := tl) (hdct := hdct) (sn := sn) (sub := sub) (ab := ab) (col := col) (dd := dd) (k0 := k0) (k1 := k1) (k2 := k2) (k3 := k3) (k5 := k5)
    PySem.F.excBase_ValueError (mN := mN) (T.hasType PySem.F.excBase_ValueError.hasBase) (I.ok.hd hc) (by rw [he]; show (false || (backTo cpos (starEach rest X.env)).any (·.1)) = false; rw [hpl]; rfl) hni (ld_glob I hg hm ⟨rfl, ?_⟩ hdb)
  have run := dThenAS ha I r re af cpos
  rw [he] at run ⊢
  refine Calls.evalArgs_plain (thn run fun us s2 ⟨vs, H1, P1, α1, ds, S1, I1, rv, r1, re1, rp, e1, e2, q⟩ => ?_)
  have hl : us.length = ds.length := by rw [rp.length, rv.length]
  by_cases hz : ds.length ≤ lim
  · rw [if_pos hz] at q
    refine ⟨rfl, by rw [hl, ← lim_eq]; exact hz, I1.bk _ _ hC, hN.keeps I1.bk, T.keeps I1.bk, fun h' e hm => q _ _ ⟨e, pins, σ, H1, P1, α1, rfl, I1.kept (t' := s2.toks) hm.keeps, r1, Same.refl _, List.prefix_refl _, hF, .new s2.heap us hm I1.stack fun b o eb old => ?_⟩⟩
    obtain ⟨o1, q1⟩ := Old.there I1 hF old
    have q2 := hm.keeps b o1 q1
    rw [eb] at q2; cases q2
    exact q1
  · rw [if_neg hz] at q; exact False.elim q
end
section
variable {X : Cx} {pins : List (Addr × Obj)} {σ : L2.St} {H : Hp} {s : Shared}
theorem looks_made {M : Model} {A : Around} {E : Value → Shared → Prop} {base h : Heap} {env : Env} {outer : List Env} {L e : Addr} {cls : Value} {args : List Value} {Q : Unit → Shared → Prop}
    (hfr : A.frames = some (env :: outer)) (hf : env.frame = some L) (hkb : base.StaysIn h) (hl : h.FunFrames base (env :: outer)) (hx : Heap.MadeExcOf h s.heap e cls args)
    (hQ : ∀ h' a0, Heap.HeldW base (env :: outer) e cls a0 L h' → s.heap.UpToSlots h' → Q () { s with heap := h' }) : wpAny M A (noteFrame (.ref e) env) Q E s := by
  obtain ⟨t, he, htn, ht⟩ := hx.there
  have fresh : ∀ b, h.get? b = none → base.get? b = none := fun b hb => by
    cases hq : base.get? b with
    | none => rfl
    | some o' => have z := hkb b o' hq; rw [hb] at z; cases z
  unfold noteFrame
  simp only [hf]
  refine wpAny_bind (wpAny_field he rfl (x := .none) rfl ?_)
  rw [if_neg (by decide)]
  refine wpAny_entryW hfr (hl.of_keeps fun b o hb _ => ⟨o, hx.keeps b o hb, rfl⟩) hf he (fun b o hb => hx.keeps b o (hkb b o hb)) (fresh e hx.new) rfl (by simp) (a0 := .ref t) rfl fun h' hN => ?_
  obtain ⟨n1, n2, n3, n4⟩ := hN
  exact hQ h' (.ref t) ⟨n1, fresh e hx.new, n2, n3⟩ n4
theorem look_fly {M : Model} {A : Around} {E : Value → Shared → Prop} {c : Value} {e : Addr} {Q : Unit → Shared → Prop} (I : Inv X pins σ H s) (F : Fn1 X) (hA : A.frames = some X.stack) (f : FlyX X pins H c e s.heap)
    (hQ : ∀ h' B a0, Heap.FlyingW B X.stack e c a0 h' → Inv X pins σ H { s with heap := h' } → Cv X pins H B h' → Q () { s with heap := h' }) :
    wpAny M A (noteFrame (.ref e) X.env) (fun _ s₂ => wpAny M A (setFlight (.ref e) none) Q E s₂) E s := by
  have land : ∀ (B : Heap) (a0 : Value) (h1 : Heap), Cv X pins H B s.heap → Heap.HeldW B X.stack e c a0 X.env.locals h1 → s.heap.UpToSlots h1 → wpAny M A (setFlight (.ref e) none) Q E { s with heap := h1 } := fun B a0 h1 cv hh up => by
    refine wpAny_landsW (s := { s with heap := h1 }) hh fun h2 f2 u2 => ?_
    obtain ⟨I2, cv2⟩ := Inv.fly I F cv f2.1 (up.trans u2)
    exact hQ h2 B a0 f2 I2 cv2
  cases f with
  | new g args hm hf hk =>
    obtain ⟨k1, k2, k3⟩ := new_cv I hm hf hk
    rw [F.2.1] at hA
    exact looks_made hA F.2.2 k1 (by rw [← F.2.1]; exact k2) hm fun h' a0 x1 x2 => land _ a0 h' k3 (F.2.1 ▸ x1) x2
  | fly B a0 fl cv =>
    rw [F.2.1] at hA
    exact wpAny_looks_onW hA F.2.2 (by rw [← F.2.1]; exact fl) fun h' x1 x2 => land B a0 h' cv (by rw [F.2.1]; exact x1) x2
/-- the exception is none of what stood -/
theorem fly_new {B : Heap} {c a0 : Value} {e : Addr} (I : Inv X pins σ H s) (F : Fn1 X) (fl : Heap.FlyingW B X.stack e c a0 s.heap) (cv : Cv X pins H B s.heap) : ¬ Old X pins H e ∧ e ∉ frs X.stack ∧ ∃ ob, s.heap.get? e = some ob ∧ ob.cls = c := by
  obtain ⟨oe, vs, he, hc, hd, _⟩ := fl.first
  have nf : e ∉ frs X.stack := fun z => by
    obtain ⟨_, o, ho, hn⟩ := I.stack.mem z
    rw [he] at ho; cases ho
    exact hn vs hd
  refine ⟨fun z => ?_, nf, oe, he, hc⟩
  have q := cv e oe he z nf
  rw [fl.2.1] at q; cases q
/-- a thing of ours that was not tracked is tracked from now on -/
theorem Inv.track {e : Addr} {c : Value} {ob : Obj} (I : Inv X pins σ H s) (F : Fn1 X) (no : ¬ Old X pins H e) (nf : e ∉ frs X.stack) (he : s.heap.get? e = some ob) (hc : ob.cls = c) : Inv X pins σ (upd H e (exnO e c)) s := by
  have hn : H e = none := by
    cases q : H e with
    | none => rfl
    | some u => exact absurd (.inr (.inl (by rw [q]; intro z; cases z))) no
  have nL : e ≠ X.env.locals := fun z => nf (F.mem.mpr (.inl z))
  have n0 : ∀ b o, X.s₀.heap.get? b = some o → b ≠ e := fun b o q z => no (.inl ⟨o, z ▸ q⟩)
  refine ⟨I.ok, I.os, I.bare, ⟨I.base.keep, I.base.slot, fun b o q n hx => ?_, I.base.there, fun b xs q => ?_, fun b o xs q => ?_, fun b ps q => ?_⟩, I.loc, I.cell, ?_, fun x k q => ?_, fun p hp => ?_, fun b u q => ?_, I.len⟩
  · rw [upd_ne (n0 b o q)]; exact I.base.free b o q n hx
  · have z := I.base.tups b xs q
    rw [upd_ne (ne_of_none z hn)]; exact z
  · have z := I.base.frzs b o xs q
    rw [upd_ne (ne_of_none z hn)]; exact z
  · obtain ⟨m, z⟩ := I.base.tbls b ps q
    exact ⟨m, by rw [upd_ne (ne_of_none z hn)]; exact z⟩
  · rw [upd_ne (Ne.symm nL)]; exact I.free
  · have z : k ≠ e := fun z => no (.inr (.inr (.inr ⟨x, z ▸ q⟩)))
    rw [upd_ne z]; exact I.freeC x k q
  · obtain ⟨a1, a2, a3, a4, a5⟩ := I.pin p hp
    have z : p.1 ≠ e := fun z => no (.inr (.inr (.inl ⟨p, hp, z⟩)))
    exact ⟨a1, by rw [upd_ne z]; exact a2, a3, a4, a5⟩
  · by_cases hb : b = e
    · subst hb
      rw [upd_same] at q; cases q
      refine ⟨⟨ob, he, hc⟩, ⟨ob, he⟩, fun h1 h2 ⟨o, q1, q2⟩ k => ⟨o, k o q1, q2⟩⟩
    · rw [upd_ne hb] at q
      exact (I.hok b u q).stay (fun _ _ _ z => z) (fun k z => by rw [upd_ne (ne_of_none z hn)]; exact z) fun k xs z => by rw [upd_ne (ne_of_none z hn)]; exact z
/-- a name is gone -/
theorem Inv.gone {i t' : Nat} {n : Str} {h' : Heap} (I : Inv X pins σ H s) (hN : X.N.Nodup) (hi : X.N[i]? = some n) {m : Str → Option Value} {v : Option Value} (hl : ∀ (j : Nat) (y : Str) (w : V), X.N[j]? = some y → σ[j]? = some (some w) → Vis X.env.scope y → ∃ u, RelV w u ∧ Look X.env s.heap m y u) (hv : h'.Ns X.env.locals fun y => if y = n then v else m y) (sb : Heap.SameBut X.env.locals s.heap h') :
    Inv X pins (σ.set i none) H { s with heap := h', toks := t' } := by
  have neL : ∀ b o, X.s₀.heap.get? b = some o → b ≠ X.env.locals := fun b o e => Nat.ne_of_lt (Nat.lt_of_lt_of_le (Heap.lt_size e) I.ok.above)
  have kp : ∀ b o, b ≠ X.env.locals → s.heap.get? b = some o → h'.get? b = some o := fun b o n e => (sb.2 b n).trans e
  refine ⟨I.ok, I.os, I.bare, ⟨fun b o e n hb hx => kp b o (neL b o e) (I.base.keep b o e n hb hx), fun b o e n hb hx => ?_, I.base.free, fun b o e hx => ?_, I.base.tups, I.base.frzs, I.base.tbls⟩, ⟨_, hv, fun j y w e1 e2 e3 => ?_⟩, fun x c e => ?_, I.free, I.freeC, fun p hp => ?_, fun b u q => ?_, by simpa using I.len⟩
  · obtain ⟨sl, q⟩ := I.base.slot b o e n hb hx
    exact ⟨sl, kp b _ (neL b o e) q⟩
  · obtain ⟨o', q⟩ := I.base.there b o e hx
    exact ⟨o', kp b o' (neL b o e) q⟩
  · have hj : i ≠ j := fun z => by
      subst z
      by_cases hs : i < σ.length
      · rw [List.getElem?_set_self hs] at e2; cases e2
      · rw [List.getElem?_eq_none (by simp; omega)] at e2; cases e2
    rw [List.getElem?_set_ne hj] at e2
    obtain ⟨u, r, l⟩ := hl j y w e1 e2 e3
    refine ⟨u, r, ?_⟩
    rcases l with ⟨k, z⟩ | ⟨k, c, z, zc⟩
    · refine .inl ⟨k, ?_⟩
      have : y ≠ n := fun z => hj (nodup_ix hN hi (z ▸ e1))
      simp [this, z]
    · exact .inr ⟨k, c, z, zc.sameBut sb (I.cne y c z)⟩
  · obtain ⟨w, z⟩ := I.cell x c e
    exact ⟨w, z.sameBut sb (I.cne x c e)⟩
  · obtain ⟨e, n, ne, nf, d⟩ := I.pin p hp
    exact ⟨kp p.1 p.2 ne e, n, ne, nf, d⟩
  · refine (I.hok b u q).stay (fun c w hc z => kp c w ?_ z) (fun _ z => z) fun _ _ z => z
    rintro rfl
    rcases hc with rfl | hc
    · rw [I.free] at q; cases q
    · rw [I.free] at hc; cases hc
theorem gone_ok {M : Model} {A : Around} {E : Value → Shared → Prop} {i : Nat} {n : Str} {pos : Pos} {Q : Unit → Shared → Prop} (I : Inv X pins σ H s) (hN : X.N.Nodup) (hi : X.N[i]? = some n) (hlo : X.env.scope.names.lookup n = some .local)
    (h : ∀ s', Inv X pins (σ.set i none) H s' → Q () s') : wpAny M A (do bindName X.env n .none; unbindBehindTheSuite X.env n pos) Q E s := by
  obtain ⟨m, hm, hl⟩ := id I.loc
  exact wpAny_nameGoes_keeps hlo hm (by rw [I.ok.kind]; rfl) fun h' v hv sb => h _ (Inv.gone I hN hi hl hv sb)
end
end DL
end

-- Dx4
section
set_option Elab.async false
set_option linter.all false
set_option maxRecDepth 100000
namespace DL
open PySem PySem.Spec PyProof.Rows L2
/-- a try's own block -/
abbrev Cx.tryIn (X : Cx) (E : Value → Shared → Prop) (pn : List (Addr × Obj)) : Cx := { X with xe := E, pn := pn }
/-- the suite behind except -/
abbrev Cx.suite (X : Cx) (e : Addr) : Cx := Cx.re X (X.A.mark (some (.ref e))) false fun _ _ => False
def sTry (N i : Nat) (cs : List Value) (f g : DS) : DS := fun env S => match f env S with
  | .ex c x env1 S1 => if cs.contains c then (match g ((List.replicate N none).set i (some (.exn c))) S1 with
      | .rt d S2 => .rt d S2
      | .nx env2 S2 => .nx (env2.set i none) S2
      | _ => .bad) else .bad
  | o => o
section
variable {X : Cx} {pins : List (Addr × Obj)} {σ : L2.St} {H : Hp} {s : Shared}
theorem Inv.inTry (I : Inv X pins σ H s) (E : Value → Shared → Prop) : Inv (Cx.tryIn X E (X.pn ++ pins)) [] σ H s :=
  ⟨⟨I.ok.mod, I.ok.kind, I.ok.glob, I.ok.blt, I.ok.above, I.ok.inj, I.ok.has, I.ok.cab, I.ok.hd, I.ok.frames, I.ok.stk, I.ok.exf, I.ok.bs, I.ok.bsz, I.ok.noex, I.ok.exfs, I.ok.funs, I.ok.frf⟩, I.os, I.bare, I.base, I.loc, I.cell, I.free, I.freeC, fun p hp => I.pin p (by simpa using hp), I.hok, I.len⟩
theorem Inv.outTry {E : Value → Shared → Prop} {more : List (Addr × Obj)} (I : Inv (Cx.tryIn X E (X.pn ++ pins)) more σ H s) : Inv X pins σ H s :=
  ⟨⟨I.ok.mod, I.ok.kind, I.ok.glob, I.ok.blt, I.ok.above, I.ok.inj, I.ok.has, I.ok.cab, I.ok.hd, I.ok.frames, I.ok.stk, I.ok.exf, I.ok.bs, I.ok.bsz, I.ok.noex, I.ok.exfs, I.ok.funs, I.ok.frf⟩, I.os, I.bare, I.base, I.loc, I.cell, I.free, I.freeC, fun p hp => I.pin p (List.mem_append_left _ hp), I.hok, I.len⟩
theorem SP.outTry {E : Value → Shared → Prop} {D : Ends} {f : Flow} {s' : Shared} (h : SP (Cx.tryIn X E (X.pn ++ pins)) [] D f s') : SP X pins D f s' := by
  cases f with
  | next => obtain ⟨σ', H', I, q⟩ := h; exact ⟨σ', H', Inv.outTry I, q⟩
  | brk => obtain ⟨σ', H', I, q⟩ := h; exact ⟨σ', H', Inv.outTry I, q⟩
  | cont => obtain ⟨σ', H', I, q⟩ := h; exact ⟨σ', H', Inv.outTry I, q⟩
  | ret u => obtain ⟨v, σ', H', I, r, q⟩ := h; exact ⟨v, σ', H', Inv.outTry I, r, q⟩
theorem FlyX.outTry {E : Value → Shared → Prop} {more : List (Addr × Obj)} {c : Value} {e : Addr} {h : Heap} (f : FlyX (Cx.tryIn X E (X.pn ++ pins)) more H c e h) : FlyX X pins H c e h := by
  have old : ∀ b, Old X pins H b → Old (Cx.tryIn X E (X.pn ++ pins)) more H b := fun b o => by
    rcases o with o | o | ⟨p, hp, z⟩ | o
    · exact .inl o
    · exact .inr (.inl o)
    · exact .inr (.inr (.inl ⟨p, List.mem_append_left _ hp, z⟩))
    · exact .inr (.inr (.inr o))
  cases f with
  | new g args hm hf hk => exact .new g args hm hf fun b o e q => hk b o e (old b q)
  | fly B a0 fl cv => exact .fly B a0 fl fun b o e q n => cv b o e (old b q) n
theorem renv_none {K : PySem.W.Frag} {P : Hp} {α : List Addr} {σ : L2.St} {n : Nat} (h : σ.length = n) : REnv K P α σ (List.replicate n none) := by
  refine ⟨by simp [h], fun i d e => ?_⟩
  rw [List.getElem?_replicate] at e
  split at e <;> cases e
theorem REnv.unset {K : PySem.W.Frag} {P : Hp} {α : List Addr} {σ : L2.St} {env : DEnv} (re : REnv K P α σ env) (i : Nat) : REnv K P α (σ.set i none) (env.set i none) := by
  refine ⟨by simp [re.1], fun j d e => ?_⟩
  by_cases hj : i = j
  · subst hj
    by_cases hi : i < env.length
    · rw [List.getElem?_set_self hi] at e; cases e
    · rw [List.getElem?_eq_none (by simp; omega)] at e; cases e
  · rw [List.getElem?_set_ne hj] at e ⊢
    exact re.2 j d e
end
section
variable {X : Cx} {pos : Pos} {f g : DS}
/-- the handler takes what flies -/
theorem handle {pins : List (Addr × Obj)} {D : Ends} {c : Value} {e C0 : Addr} {s' : Shared} {σ : L2.St} {H P : Hp} {α : List Addr} {S1 : Sto} {x n : Str} {i : Nat} {b₀ : Stmt} {suite : List Stmt} {np hpos : Pos} {cs : List Value}
    (F : Fn1 X) (hg : Gl X x) (hm : X.mg x = some (.ref C0)) (hcs : ∀ c ∈ cs, PySem.W.exmOne X.K c (.ref C0) = some true) (hN : X.N.Nodup) (hi : X.N[i]? = some n) (hlo : X.env.scope.names.lookup n = some .local)
    (hs : ∀ e, PSs (Cx.suite X e) (b₀ :: suite) (tDS (Cx.suite X e) g)) (hc : cs.contains c = true) (I : Inv X pins σ H s') (r : Rel X.K H P α S1) (fl : FlyX X pins H c e s'.heap)
    (af : AfterS X P α (match g ((List.replicate X.N.length none).set i (some (.exn c))) S1 with | .rt d S2 => .rt d S2 | .nx env2 S2 => .nx (env2.set i none) S2 | _ => .bad) D) (hdb : (x == ("__debug__" : Str)) = false) :
    wpAny (model X.prog X.w) X.A (noteFrame (.ref e) X.env) (fun _ s₂ => wpAny (model X.prog X.w) X.A (setFlight (.ref e) none) (fun _ s₃ =>
      wpAny (model X.prog X.w) X.A (handleBy (.ref e) X.env [.ExceptHandler (some (.Name x np)) (some n) (b₀ :: suite) hpos]) (SP X pins D) X.xe s₃) X.xe s₂) X.xe s' := by
  have hcs' : PySem.W.exmOne X.K c (.ref C0) = some true := hcs c (by simpa using hc)
  have Z : ∀ {σ : L2.St} {H : Hp} {s : Shared}, Inv X pins σ H s → Inv (Cx.suite X e) pins σ H s := fun I => Inv.re I _ false _ I.ok.frames fun z => nomatch z
  refine look_fly I F I.ok.frames fl fun h5 B a0 f5 I5 cv5 => ?_
  refine wpAny_handleBy_cons (codeAny_handlers_test (A := X.A.mark (some (.ref e))) (ld_glob (X := Cx.suite X e) (Z I5) hg hm ?_ hdb)) (by intro q; cases q)
  obtain ⟨no5, nf5, ob5, he5, hc5⟩ := fly_new I5 F f5 cv5
  refine (PySem.W.exm_one I5.kIn (by subst hc5; exact (PySem.W.Looks.ld he5).andThen .now) hcs').at ?_
  refine codeAny_handlers_suite_as ?_
  refine lands_againW (s := { s' with heap := h5 }) f5 fun h6 f6 u6 => ?_
  obtain ⟨I6, cv6⟩ := Inv.fly I5 F cv5 f6.1 u6
  obtain ⟨no6, nf6, ob6, he6, hc6⟩ := fly_new I6 F f6 cv6
  have J6 : Inv X pins σ (upd H e (exnO e c)) { s' with heap := h6 } := Inv.track I6 F no6 nf6 he6 hc6
  have hn : H e = none := by
    cases q : H e with
    | none => rfl
    | some u => exact absurd (.inr (.inl (by rw [q]; intro z; cases z))) no6
  obtain ⟨r1, sP⟩ := r.pure (o := exnO e c) hn
  refine store_ok (X := Cx.suite X e) (v := .ref e) (Z J6) hN hi (.inl hlo) rfl (fun s7 I7 => ?_) (.inr hlo)
  have re7 : REnv X.K (upd P e (exnO e c)) α (σ.set i (some (.ref e))) ((List.replicate X.N.length none).set i (some (.exn c))) := (renv_none I.len).set i (by simp only [Rep]; exact ⟨e, rfl, upd_same⟩)
  refine wpAny_mono (hs e pins s7 _ _ { nx := fun σ' H' => D.nx (σ'.set i none) H', rt := D.rt } I7 ⟨_, α, _, S1, r1, re7, ?_⟩) (fun fl s8 q => ?_) fun _ _ z => False.elim z
  · cases q : g ((List.replicate X.N.length none).set i (some (.exn c))) S1 with
    | rt d S2 => rw [q] at af; exact fun v H' P' α' r' e1 e2 rp => af v H' P' α' r' (sP.trans e1) e2 rp
    | nx env2 S2 => rw [q] at af; exact fun σ' H' P' α' r' re' e1 e2 => af _ H' P' α' r' (REnv.unset re' i) (sP.trans e1) e2
    | bk env2 S2 => rw [q] at af; exact False.elim af
    | ct env2 S2 => rw [q] at af; exact False.elim af
    | ex c' x' env2 S2 => rw [q] at af; exact False.elim af
    | bad => rw [q] at af; exact False.elim af
  · cases fl with
    | next =>
      obtain ⟨σ', H', I8, q⟩ := q
      exact gone_ok (Inv.unre I8 I.ok.frames I.ok.hd) hN hi hlo fun s9 I9 => ⟨_, H', I9, q⟩
    | brk =>
      obtain ⟨_, _, _, q⟩ := q
      exact False.elim q
    | cont =>
      obtain ⟨_, _, _, q⟩ := q
      exact False.elim q
    | ret u =>
      obtain ⟨v, σ', H', I8, rv, q⟩ := q
      exact gone_ok (Inv.unre I8 I.ok.frames I.ok.hd) hN hi hlo fun s9 I9 => ⟨v, _, H', I9, rv, q⟩
theorem ds_try {x n : Str} {C0 : Addr} {i : Nat} {body : List Stmt} {b₀ : Stmt} {suite : List Stmt} {np hpos : Pos} {cs : List Value} (F : Fn1 X) (hb : ∀ E pn, PassesOwn (model X.prog X.w) X.A X.env E → PSs (Cx.tryIn X E pn) body (tDS (Cx.tryIn X E pn) f))
    (hs : ∀ e, PSs (Cx.suite X e) (b₀ :: suite) (tDS (Cx.suite X e) g)) (hg : Gl X x) (hm : X.mg x = some (.ref C0)) (hcs : ∀ c ∈ cs, PySem.W.exmOne X.K c (.ref C0) = some true) (hN : X.N.Nodup) (hi : X.N[i]? = some n := by rfl) (hlo : X.env.scope.names.lookup n = some .local := by rfl)
    (hdb : (x == ("__debug__" : Str)) = false := by decide) : PS X (.Try body [.ExceptHandler (some (.Name x np)) (some n) (b₀ :: suite) hpos] [] [] pos) (tDS X (sTry X.N.length i cs f g)) := by
  intro pins s σ H D I h
  obtain ⟨P, α, env, S, r, re, af⟩ := h
  refine wpAny_Try_except ?_
  refine wpAny_mono (hb _ (X.pn ++ pins) (PassesOwn.looking (K := fun e s₂ => wpAny (model X.prog X.w) X.A (setFlight e none) (fun _ s₃ => wpAny (model X.prog X.w) X.A (handleBy e X.env [.ExceptHandler (some (.Name x np)) (some n) (b₀ :: suite) hpos]) (SP X pins D) X.xe s₃) X.xe s₂) (E₁ := X.xe))
    [] s σ H D (Inv.inTry I _) ⟨P, α, env, S, r, re, ?_⟩) (fun fl s1 q => ?_) fun _ _ z => z
  · unfold sTry at af
    cases q : f env S with
    | rt d S2 => rw [q] at af; exact af
    | nx env2 S2 => rw [q] at af; exact af
    | bk env2 S2 => rw [q] at af; exact af
    | ct env2 S2 => rw [q] at af; exact af
    | bad => rw [q] at af; exact af
    | ex c x' env2 S2 =>
      rw [q] at af
      dsimp only at af
      intro u s' k
      obtain ⟨e, pins', σ', H', P', α', rfl, I', r', e1, e2, F', fl⟩ := k
      split at af
      · rename_i hc
        exact handle F hg hm hcs hN hi hlo hs hc (Inv.outTry I') r' (FlyX.outTry fl) (AfterS.base e1 e2 af) hdb
      · exact False.elim af
  · have q' := SP.outTry q
    cases fl with
    | next => exact wpAny_execs_nil q'
    | brk => exact q'
    | cont => exact q'
    | ret u => exact q'
end
end DL
end

-- De1
section
set_option Elab.async false
set_option linter.all false
set_option maxRecDepth 100000
namespace DL
open PySem PySem.Spec PyProof.Rows L2 PySem.W
/-- what the classes' table tells of an own exception's class -/
structure ExnK (K : PySem.W.Frag) (C : Addr) : Prop where
  ga : findIn K (.ref C) "__getattribute__" = some (some (.builtin "BaseException.__getattribute__"))
  hk : findIn K (.ref C) "__getattr__" = some none
  cl : findIn K (.ref C) "__class__" = some (some (.builtin "object.__class__"))
  sp : specialIn K (.builtin "object.__class__") "__get__" = some (some (.builtin "getset_descriptor.__get__"))
  tk : takesIn K (.builtin "object.__class__") = some true
  mo : mroIn K C (.type "object") = some true
  mb : mroIn K C (.type "BaseException") = some true
  isC : (clsIn K C).isSome = true
section
variable {prog : Program} {w : World} {A : Around} {E : Value → Shared → Prop} {s : Shared} {K : PySem.W.Frag} {x C : Addr}
abbrev ExnAt (x C : Addr) (h : Heap) : Prop := ∃ ob, h.get? x = some ob ∧ ob.cls = .ref C
theorem ExnAt.type {M : Model} {h : Heap} (I : ExnAt x C h) : Looks M h (typeOf (.ref x)) (.ref C) := by
  obtain ⟨ob, e, c⟩ := I
  rw [← c]
  exact (Looks.ld e).andThen .now
theorem exn_find {M : Model} {h : Heap} (X : K.In h) (Z : ExnK K C) : Looks M h (Builtin.ObjectAttr.find (.ref x) (.ref C) "__class__") (.bind (.builtin "getset_descriptor.__get__") (.builtin "object.__class__")) := by
  have l1 := looks_findIn (M := M) X Z.cl
  have l2 : Looks M h (Builtin.ObjectAttr.getOf (some (.builtin "object.__class__"))) (some (.builtin "getset_descriptor.__get__")) := looks_specialIn X Z.sp
  have l3 := looks_takesIn (M := M) X Z.tk
  have l4 : Looks M h (Builtin.ObjectAttr.dataDescriptor? (some (.builtin "object.__class__")) (some (.builtin "getset_descriptor.__get__"))) (some (.builtin "getset_descriptor.__get__", .builtin "object.__class__")) := l3.andThen .now
  exact l1.andThen (l2.andThen (l4.andThen (Looks.tag .now)))
theorem exn_get {R : Result → Shared → Prop} {tp : Value} (X : K.In s.heap) (Z : ExnK K C) (I : ExnAt x C s.heap) (h : R (.ok (.ret (.ref C))) s) :
    codeAny (model prog w) A (.call (.builtin "getset_descriptor.__get__") ⟨[.builtin "object.__class__", .ref x, tp], []⟩) R s := by
  have LT := ExnAt.type (M := model prog w) I
  have LM := looks_mroIn (M := model prog w) X Z.mo
  cases s
  refine codeAny_call_builtin KF.slot_gs.plain KF.entry_gs (KF.slot_gs.check _ _ _ _ _ _ _ _ KF.type_class (KF.args_gs _ _ _) ?_)
  unfold Builtin.«getset_descriptor.__get__» Builtin.Getset_descriptor.descrGet
  rw [dga_obj]
  refine wpAny_bind (wpAny_pure ?_)
  unfold Builtin.Getset_descriptor.descrGetter Builtin.Getset_descriptor.descrCheckInstance Builtin.Getset_descriptor.descrNameAndClass isInstance
  simp only [KF.owner_class]
  repeat lk
  refine ⟨Code.quiet_builtin _ (by decide +kernel), codeAny_builtin KF.entry_class ?_⟩
  unfold Builtin.«object.__class__» shownTypeOf
  repeat lk
  exact h
theorem exn_ga {tk : Tok} {R : Result → Shared → Prop} (X : K.In s.heap) (Z : ExnK K C) (I : ExnAt x C s.heap) (h : R (.ok (.ret (.ref C))) s) :
    codeAny (model prog w) A (.call (.builtin "BaseException.__getattribute__") ⟨[.ref x, .str "__class__" tk], []⟩) R s := by
  have LT := ExnAt.type (M := model prog w) I
  have LM := looks_mroIn (M := model prog w) X Z.mb
  have LF := exn_find (M := model prog w) (x := x) X Z
  have hk : builtinKind "BaseException.__getattribute__" = some .slot := by decide +kernel
  have hsp : splitId "BaseException.__getattribute__" = some ("BaseException", "__getattribute__") := by decide +kernel
  have chk : ∀ (A : Around) (Q : Unit → Shared → Prop) (E : Value → Shared → Prop), Q () s → wpAny (model prog w) A (checkBuiltinCall "BaseException.__getattribute__" ⟨[.ref x, .str "__class__" tk], []⟩) Q E s := by
    intro A Q E hq
    have ha := PySem.F.args_bexc_ga (.ref x) (.str "__class__" tk)
    simp only [checkBuiltinCall, hk, hsp]
    unfold isInstance
    refine wpAny_bind (wpAny_bind (LT.here (LM.here ?_)))
    repeat (any_goals (first | assumption | wp_step))
  refine codeAny_call_builtin PySem.F.attr_ValueError.ga.plain PySem.F.entry_bexc_ga (chk _ _ _ ?_)
  cases s
  unfold Builtin.«object.__getattribute__»
  refine wpAny_bind (wpAny_of_eq (show slotArgs "__getattribute__" 1 ⟨[.ref x, .str "__class__" tk], []⟩ = pure (.ref x, [.str "__class__" tk]) from by kernel_rfl) ?_)
  refine wpAny_bind (wpAny_pure (wpAny_bind (LT.at (wpAny_bind (LF.at ?_)))))
  show wpAny _ _ (Builtin.ObjectAttr.bindTo _ _ _ _) _ _ _
  unfold Builtin.ObjectAttr.bindTo
  dsimp only
  exact wpAny_bind (wpAny_holding (wpAny_call (exn_get X Z I (wpAny_pure h))))
theorem exn_class {Q : Option Value → Shared → Prop} (X : K.In s.heap) (Z : ExnK K C) (I : ExnAt x C s.heap) (h : Q (some (.ref C)) { s with toks := s.toks + 1 }) : wpAny (model prog w) A (getAttr? (.ref x) "__class__") Q E s := by
  have LT := ExnAt.type (M := model prog w) I
  have L1 := looks_findIn (M := model prog w) X Z.ga
  have L2 := looks_findIn (M := model prog w) X Z.hk
  unfold getAttr? getAttrBy? getAttrBy
  cases s
  refine wpAny_bind (wpAny_mkText (wpAny_bind (wpAny_attempt (wpAny_holding (wpAny_bind (LT.at (wpAny_bind (L1.at ?_))))))))
  dsimp only
  have hx2 : (Value.builtin "BaseException.__getattribute__" == Value.builtin "object.__getattribute__") = false := by decide +kernel
  rw [hx2, Bool.and_false, if_neg Bool.false_ne_true]
  unfold getAttrByItsOwn hookBefore
  rw [if_pos (show onTheHeap (.ref C) = true from rfl)]
  refine wpAny_bind (L2.at (wpAny_bind (wpAny_attempt (wpAny_holding ?_))))
  unfold callGetattribute
  rw [Bool.false_and, if_neg Bool.false_ne_true]
  unfold boundAndCalled
  refine wpAny_bind (wpAny_of_eq (PySem.F.attr_ValueError.ga.bind (.ref x)) ?_)
  refine wpAny_call (exn_ga X Z I ?_)
  show wpAny _ _ (handedOut (.ref C)) _ _ _
  exact wpAny_pure (wpAny_pure h)
theorem kitx_exn (Z : ExnK K C) : KitX K (.ref x) (.ref C) (ExnAt x C) where
  ty := fun _ _ _ I => I.type
  it := fun M h X _ => by
    have z := Z.isC
    unfold clsIn at z
    split at z
    · rename_i ho
      intro A' Q' E' s' k q
      unfold isType loadHead
      exact wpAny_bind (wpAny_loadPart (k _ _ (X _ _ ho)) (wpAny_pure q))
    · cases z
  ne := fun h tp dd its n sl X htp => by
    have z := Z.isC
    unfold clsIn at z
    split at z
    · rename_i ho
      cases hq : (Value.ref C == Value.ref tp) with
      | false => rfl
      | true =>
        obtain rfl : C = tp := Value.ref.inj (beq_iff_eq.mp hq)
        have y := (X _ _ ho).symm.trans htp
        cases y
    · cases z
  ca := fun X I k => exn_class X Z I k
end
end DL
end

-- De2
section
set_option Elab.async false
set_option linter.all false
set_option maxRecDepth 100000
namespace DL
open PySem PySem.Spec PyProof.Rows L2
section
variable {X : Cx}
structure ClsK (K : PySem.W.Frag) (cl : List Addr) : Prop where
  ex : ∀ C ∈ cl, ExnK K C
  one : ∀ C ∈ cl, ∀ B ∈ cl, PySem.W.kitOne K (.ref C) (.ref B) = some (C == B)
  ve : ∀ C ∈ cl, PySem.W.kitOne K (.ref C) (.type "ValueError") = some true
def fIsiE (cl : List Addr) : DF := fun ds S => match ds with
  | [.exn (.ref C), .obj B] => if cl.contains C && cl.contains B then .ok (.bl (C == B)) S else .bad
  | [.exn (.ref C), .ty b] => if cl.contains C && (b == "ValueError") then .ok (.bl true) S else .bad
  | _ => fIsi ds S
theorem exn_at {pins : List (Addr × Obj)} {σ : L2.St} {H P : Hp} {α : List Addr} {S : Sto} {s : Shared} {C : Addr} {v : V} {u : Value} (I : Inv X pins σ H s) (r : Rel X.K H P α S) (p : Rep X.K P α (.exn (.ref C)) v) (q : RelV v u) : ∃ a, u = .ref a ∧ ExnAt a C s.heap := by
  simp only [Rep] at p
  obtain ⟨a, rfl, z⟩ := p
  obtain ⟨y, _⟩ := I.hok a _ (r.sub _ _ z)
  exact ⟨a, q, y⟩
theorem cd_isiE {cl : List Addr} (hK : ClsK X.K cl) : CallD X (.builtin "isinstance") (fIsiE cl) := by
  intro pins σ H s P α S vs us ds Q I r rv rp af
  unfold fIsiE at af
  split at af
  · rename_i C B
    split at af
    · rename_i h
      simp only [Bool.and_eq_true, List.contains_iff_mem] at h
      obtain ⟨v, w, u, x, rfl, rfl, p, p', q, q'⟩ := reps2 rp rv
      simp only [Rep] at p'
      obtain ⟨rfl, _⟩ := p'
      cases (show x = Value.ref B from q')
      obtain ⟨a, rfl, ha⟩ := exn_at I r p q
      exact PySem.W.kia_one (kitx_exn (hK.ex C h.1)) I.kIn ha (hK.one C h.1 B h.2) (fun z => nomatch z) fun tk => ⟨.bl _, H, I.tok tk, rfl, xr af r (by simp only [Rep])⟩
    · exact False.elim af
  · rename_i C b
    split at af
    · rename_i h
      simp only [Bool.and_eq_true, List.contains_iff_mem, beq_iff_eq] at h
      obtain ⟨v, w, u, x, rfl, rfl, p, p', q, q'⟩ := reps2 rp rv
      simp only [Rep] at p'
      subst p'
      obtain ⟨h1, rfl⟩ := h
      cases (show x = Value.type "ValueError" from q')
      obtain ⟨a, rfl, ha⟩ := exn_at I r p q
      exact PySem.W.kia_one (kitx_exn (hK.ex C h1)) I.kIn ha (hK.ve C h1) (fun z => nomatch z) fun tk => ⟨.bl _, H, I.tok tk, rfl, xr af r (by simp only [Rep])⟩
    · exact False.elim af
  · exact cd_isi pins σ H s P α S vs us ds Q I r rv rp af

def MtD (X : Cx) (id : String) (g : D → List D → Sto → Res D) : Prop :=
  ∀ (pins : List (Addr × Obj)) (σ : L2.St) (H : Hp) (s : Shared) (P : Hp) (α : List Addr) (S : Sto) (v : V) (vv : Value) (vs : List V) (us : List Value) (a : D) (ds : List D) (Q : VK), Inv X pins σ H s → Rel X.K H P α S → RelV v vv → Rep X.K P α a v → Vals vs us → Reps X.K P α ds vs → After X P α (g a ds S) Q →
    wpAny (model X.prog X.w) X.A (call (.builtin id) (vv :: us)) (EP X pins σ Q) X.xe s
def dBm (T : String) (g : D → List D → Sto → Res D) (fo : DE) (fa : DA) : DE := fun env S => (fo env S).bind fun a S1 => if (tyD a S1 == some T) = true then (fa env S1).bind fun ds S2 => g a ds S2 else .bad
theorem tyV_of {H P : Hp} {α : List Addr} {S : Sto} {a : D} {v : V} {T : String} (r : Rel X.K H P α S) (p : Rep X.K P α a v) (h : tyD a S = some T) (hT : T = "list" ∨ T = "dict" ∨ T = "int" ∨ T = "str") : tyV X.K T v H := by
  cases a with
  | int i => cases h; simp only [Rep] at p; subst p; rfl
  | str x => cases h; simp only [Rep] at p; subst p; rfl
  | lst xs =>
    cases h
    simp only [Rep] at p
    obtain ⟨b, vs, rfl, q, t⟩ := p
    exact .inl ⟨rfl, vs, (sqX_mono r.sub q).l⟩
  | dct0 =>
    cases h
    simp only [Rep] at p
    obtain ⟨b, rfl, q⟩ := p
    exact .inr (.inr (.inl ⟨rfl, .inl ⟨[], r.sub _ _ q⟩⟩))
  | loc i =>
    simp only [Rep] at p
    obtain ⟨b, rfl, q⟩ := p
    simp only [tyD] at h
    split at h
    · rename_i xs hS
      cases h
      obtain ⟨vs, z, t⟩ := r.at' i b _ q hS
      exact .inl ⟨rfl, vs, SqL.of z⟩
    · rename_i kvs hS
      cases h
      obtain ⟨vs, z, t⟩ := r.at' i b _ q hS
      exact .inr (.inr (.inl ⟨rfl, .inl ⟨vs, z⟩⟩))
    · cases h
  | non => cases h; rcases hT with z | z | z | z <;> exact absurd z (by decide)
  | bl b => cases h; rcases hT with z | z | z | z <;> exact absurd z (by decide)
  | tup xs => cases h; rcases hT with z | z | z | z <;> exact absurd z (by decide)
  | ty n => cases h
  | obj a => cases h
  | exn c => cases h
variable {o e : Expr} {es : List Expr} {fo : DE} {fa : DA} {name : Str} {apos cpos : Pos} {T id : String} {g : D → List D → Sto → Res D}
theorem dbm_ty {P : Hp} {α : List Addr} {a : D} {S : Sto} {β : Type} {k : Res β} {Ok : β → Sto → Prop} (h : AfterG X P α (if (tyD a S == some T) = true then k else .bad) Ok) : tyD a S = some T ∧ AfterG X P α k Ok := by
  by_cases z : (tyD a S == some T) = true
  · rw [if_pos z] at h; exact ⟨beq_iff_eq.mp z, h⟩
  · rw [if_neg z] at h; exact False.elim h
theorem de_bm (pa : PlainAttrs T) (slot : Slot T name id) (hty : typeOf (.builtin id) = pure (.type "method_descriptor")) (hT : T = "list" ∨ T = "dict" ∨ T = "int" ∨ T = "str") (hm : MtD X id g) (ho : PE X o (tD X fo)) (ha : PA X (e :: es) (tDA X fa))
    (hbase : attributeBase o name X.env (eval o X.env) = eval o X.env := by rfl)
    (hfew : ((backTo cpos (starEach (e :: es) X.env)).all (fun x => !x.1) && (backToKw cpos (keywordEach [] X.env)).all (fun x => x.1.isSome)
      && decide ((e :: es).length + ([] : List Keyword).length + (if ([] : List Keyword).isEmpty then 0 else 1) < 30)) = true := by rfl)
    (hline : (apos.endLine == cpos.line) = true := by rfl) (hs : starEach (e :: es) X.env = (false, eval e X.env) :: starEach es X.env := by rfl) (hplain : (backTo cpos (starEach es X.env)).any (·.1) = false := by rfl) :
    PE X (.Call (.Attribute o name apos) (e :: es) [] cpos) (tD X (dBm T g fo fa)) := by
  intro pins s σ H Q I h
  obtain ⟨P, α, env, S, r, re, af⟩ := h
  refine wpAny_Call_method_late hbase hfew hline rfl (thn (dThen ho I r re af) fun vv s1 ⟨v, H1, P1, α1, d, S1, G1, af1⟩ => ?_)
  obtain ⟨ht, af2⟩ := dbm_ty af1
  obtain ⟨h1, h2⟩ := tyV_is G1.inv G1.val (tyV_of G1.rel G1.rep ht hT)
  refine ⟨T, id, pa, slot, hty, h1, h2, ?_⟩
  have hA := dThenA ha G1.inv G1.rel G1.env (P := P1) (α := α1) (Ok := OkV X P1 α1 Q) (After.base G1.same G1.pre (r := (fa env S1).bind fun ds S2 => g d ds S2) af2) cpos
  rw [hs] at hA ⊢
  refine Calls.callWith_builtin (by show (false || (backTo cpos (starEach es X.env)).any (·.1)) = false; rw [hplain] <;> rfl) (Calls.evalArgs_plain ?_)
  exact thn hA fun us s2 ⟨vs, H2, P2, α2, ds, S2, I2, rv, r2, re2, rp2, e1, e2, af3⟩ => hm pins σ H2 s2 P2 α2 S2 v vv vs us d ds Q I2 r2 G1.val (Rep.mono e1 e2 _ _ G1.rep) rv rp2 (After.base e1 e2 af3)
def dBm0 (T : String) (g : D → List D → Sto → Res D) (fo : DE) : DE := fun env S => (fo env S).bind fun a S1 => if (tyD a S1 == some T) = true then g a [] S1 else .bad
theorem de_bm0 (pa : PlainAttrs T) (slot : Slot T name id) (hty : typeOf (.builtin id) = pure (.type "method_descriptor")) (hT : T = "list" ∨ T = "dict" ∨ T = "int" ∨ T = "str") (hm : MtD X id g) (ho : PE X o (tD X fo))
    (hbase : attributeBase o name X.env (eval o X.env) = eval o X.env := by rfl) (hline : (apos.endLine == cpos.line) = true := by rfl) : PE X (.Call (.Attribute o name apos) [] [] cpos) (tD X (dBm0 T g fo)) := by
  intro pins s σ H Q I h
  obtain ⟨P, α, env, S, r, re, af⟩ := h
  refine wpAny_Call_method0_late hbase hline (thn (dThen ho I r re af) fun vv s1 ⟨v, H1, P1, α1, d, S1, G1, af1⟩ => ?_)
  obtain ⟨ht, af2⟩ := dbm_ty af1
  obtain ⟨h1, h2⟩ := tyV_is G1.inv G1.val (tyV_of G1.rel G1.rep ht hT)
  exact ⟨T, id, pa, slot, hty, h1, h2, Calls.callWith_builtin rfl (PySem.evalArgs_none (hm pins σ H1 s1 P1 α1 S1 v vv [] [] d [] Q G1.inv G1.rel G1.val G1.rep .nil .nil (After.base G1.same G1.pre af2)))⟩

def gAppend : D → List D → Sto → Res D := fun a ds S => match a, ds with
  | .loc i, [d] => match S[i]? with
    | some (.lst xs) => if xs.length < lim then .ok .non (S.set i (.lst (xs ++ [d]))) else .bad
    | _ => .bad
  | _, _ => .bad
theorem md_append : MtD X "list.append" gAppend := by
  intro pins σ H s P α S v vv vs us a ds Q I r rv p rvs rps af
  unfold gAppend at af
  split at af
  · rename_i i d
    split at af
    · rename_i xs hS
      split at af
      · rename_i hl
        obtain ⟨w, u, rfl, rfl, p', q'⟩ := reps1 rps rvs
        simp only [Rep] at p
        obtain ⟨b, rfl, q⟩ := p
        obtain ⟨ws, z, t⟩ := r.at' i b _ q hS
        refine mt_append pins s σ H (.ref b) [w] vv [u] Q I rv (.cons q' .nil) ⟨b, ws, w, rfl, rfl, z, by rw [← t.length, ← lim_eq]; exact hl, ?_⟩
        exact xr af (r.put (m' := .lst (xs ++ [d])) q hS (by intro z; cases z) ⟨ws ++ [w], upd_same, t.append (.cons p' .nil)⟩) (by simp only [Rep])
      · exact False.elim af
    · exact False.elim af
  · exact False.elim af

def gBits : D → List D → Sto → Res D := fun a ds S => match a, ds with
  | .int n, [] => .ok (.int (Builtin.Int.intBits n)) S
  | _, _ => .bad
theorem md_bits : MtD X "int.bit_length" gBits := by
  intro pins σ H s P α S v vv vs us a ds Q I r rv p rvs rps af
  unfold gBits at af
  split at af
  · simp only [Rep] at p
    subst p
    obtain ⟨t, rfl⟩ := rv
    cases rps.nil_inv
    cases rvs
    exact call_int_bit_length ⟨.int _, H, I.tok _, ⟨_, rfl⟩, xr af r (by simp only [Rep])⟩
  · exact False.elim af
end
end DL
end

-- De3
section
set_option Elab.async false
set_option linter.all false
set_option maxRecDepth 100000
namespace DL
open PySem PySem.Spec PyProof.Rows L2
def keyD : D → Option Key
  | .int i => some (.inl i)
  | .str x => some (.inr x)
  | _ => none
def valD (kvs : List (Key × D)) (k : Key) : Option D := (kvs.find? fun kv => decide (kv.1 = k)).map (·.2)
def putD (kvs : List (Key × D)) (k : Key) (v : D) : List (Key × D) :=
  if (kvs.any fun kv => decide (kv.1 = k)) = true then kvs.map (fun kv => if kv.1 = k then (kv.1, v) else kv) else kvs ++ [(k, v)]
section
variable {K : PySem.W.Frag} {P : Hp} {α : List Addr}
theorem kvs_len {kvs : List (Key × D)} {vs : List (Key × V)} (r : KVs K P α kvs vs) : kvs.length = vs.length := Paired.length r
theorem kvs_val {k : Key} : ∀ {kvs : List (Key × D)} {vs : List (Key × V)}, KVs K P α kvs vs → (∀ d, valD kvs k = some d → ∃ v, valV vs k = some v ∧ Rep K P α d v) ∧ (valD kvs k = none → valV vs k = none)
  | _, _, .nil => ⟨fun d h => by simp [valD] at h, fun _ => rfl⟩
  | (k1, d1) :: kvs, (k2, v2) :: vs, .cons z t => by
    obtain ⟨e, r⟩ := z
    dsimp only at e r
    subst e
    obtain ⟨h1, h2⟩ := kvs_val (k := k) t
    unfold valD valV at *
    by_cases hk : k1 = k
    · subst hk
      constructor
      · intro d h
        simp at h
        subst h
        exact ⟨v2, by simp, r⟩
      · intro h
        simp at h
    · constructor
      · intro d h
        rw [List.find?_cons_of_neg (by simpa using hk)] at h ⊢
        exact h1 d h
      · intro h
        rw [List.find?_cons_of_neg (by simpa using hk)] at h ⊢
        exact h2 h
theorem kvs_any {k : Key} : ∀ {kvs : List (Key × D)} {vs : List (Key × V)}, KVs K P α kvs vs → (kvs.any fun kv => decide (kv.1 = k)) = (vs.any fun kv => decide (kv.1 = k))
  | _, _, .nil => rfl
  | (k1, d1) :: kvs, (k2, v2) :: vs, .cons z t => by
    obtain ⟨e, r⟩ := z
    dsimp only at e r
    subst e
    rw [List.any_cons, List.any_cons, kvs_any t]
theorem kvs_map {k : Key} {d : D} {v : V} (q : Rep K P α d v) : ∀ {kvs : List (Key × D)} {vs : List (Key × V)}, KVs K P α kvs vs → KVs K P α (kvs.map fun kv => if kv.1 = k then (kv.1, d) else kv) (vs.map fun kv => if kv.1 = k then (kv.1, v) else kv)
  | _, _, .nil => .nil
  | (k1, d1) :: kvs, (k2, v2) :: vs, .cons z t => by
    obtain ⟨e, r⟩ := z
    dsimp only at e r
    subst e
    rw [List.map_cons, List.map_cons]
    refine .cons ?_ (kvs_map q t)
    by_cases hk : k1 = k
    · simp only [if_pos hk]; exact ⟨trivial, q⟩
    · simp only [if_neg hk]; exact ⟨trivial, r⟩
theorem kvs_app {k : Key} {d : D} {v : V} (q : Rep K P α d v) : ∀ {kvs : List (Key × D)} {vs : List (Key × V)}, KVs K P α kvs vs → KVs K P α (kvs ++ [(k, d)]) (vs ++ [(k, v)])
  | _, _, .nil => .cons ⟨rfl, q⟩ .nil
  | _, _, .cons z t => .cons z (kvs_app q t)
theorem kvs_put {k : Key} {d : D} {v : V} (q : Rep K P α d v) {kvs : List (Key × D)} {vs : List (Key × V)} (r : KVs K P α kvs vs) : KVs K P α (putD kvs k d) (putK vs k v) := by
  unfold putD putK
  rw [kvs_any r]
  split
  · exact kvs_map q r
  · exact kvs_app q r
theorem keyD_V {d : D} {k : Key} {v : V} (h : keyD d = some k) (r : Rep K P α d v) : v = kV k := by
  cases d with
  | int i => cases h; simp only [Rep] at r; exact r
  | str x => cases h; simp only [Rep] at r; exact r
  | _ => cases h
end
section
variable {X : Cx} {o i e : Expr} {pos : Pos} {fo fi : DE}
/-- {}: a dict that may be changed -/
def dDct : DE := fun _ S => .ok (.loc S.length) (S ++ [.dct []])
theorem de_dct : PE X (.Dict [] [] pos) (tD X dDct) := by
  refine peW pe_dnewK fun σ H Q ⟨P, α, env, S, r, re, af⟩ p hp => ?_
  have hpre : α <+: α ++ [p] := List.prefix_append _ _
  have r1 := r.new (o := .dK []) (m := .dct []) hp ⟨[], upd_same, .nil⟩
  refine af _ _ _ _ r1 (Same.refl _) hpre ?_
  simp only [Rep]
  exact ⟨p, rfl, by rw [← r.len]; simp⟩
def gSet2 : G3 := fun o i d S => match o with
  | .loc n => match S[n]? with
    | some (.dct kvs) => match keyD i with
      | some k => if kvs.length < lim then .ok () (S.set n (.dct (putD kvs k d))) else .bad
      | none => .bad
    | _ => gSet o i d S
  | _ => gSet o i d S
theorem set2_d (hu : X.A.units + 1 < cLine) : PSet X (tDSet X gSet2) := by
  intro pins s σ H o i v ov iv u Q I ro ri rv h
  obtain ⟨P, α, S, a, b, d, r, pa, pb, pd, af⟩ := h
  have other : AfterG X P α (gSet a b d S) (OkU X P α Q) → wpAny (model X.prog X.w) X.A (setItem ov iv u) (fun _ s' => ∃ H', Inv X pins σ H' s' ∧ Q H') X.xe s := fun af => set_d pins s σ H o i v ov iv u Q I ro ri rv ⟨P, α, S, a, b, d, r, pa, pb, pd, af⟩
  unfold gSet2 at af
  split at af
  · rename_i n
    split at af
    · rename_i kvs hS
      split at af
      · rename_i k hk
        split at af
        · rename_i hl
          simp only [Rep] at pa
          obtain ⟨p, rfl, q⟩ := pa
          obtain ⟨vs, z, t⟩ := r.at' n p _ q hS
          have ei := keyD_V hk pb
          subst ei
          cases (show ov = Value.ref p from ro)
          refine d_setItem hu I (DPut.k (v := v) z (by rw [← kvs_len t, ← lim_eq]; exact hl)) ri rv fun s' I' => ⟨_, I', ?_⟩
          exact af _ P α (r.put (m' := .dct (putD kvs k d)) q hS (by intro z; cases z) ⟨_, upd_same, kvs_put pd t⟩) (Same.refl _) (List.prefix_refl _)
        · exact False.elim af
      · exact False.elim af
    · exact other af
  · exact other af
def gGet : D → List D → Sto → Res D := fun a ds S => match a, ds with
  | .loc n, [i, x] => match S[n]? with
    | some (.dct kvs) => match keyD i with
      | some k => .ok ((valD kvs k).getD x) S
      | none => .bad
    | _ => .bad
  | _, _ => .bad
theorem md_get (hu : X.A.units + 1 < cLine) : MtD X "dict.get" gGet := by
  intro pins σ H s P α S v vv vs us a ds Q I r rv p rvs rps af
  unfold gGet at af
  split at af
  · rename_i n i x
    split at af
    · rename_i kvs hS
      split at af
      · rename_i k hk
        obtain ⟨vi, vx, ui, ux, rfl, rfl, pi, px, qi, qx⟩ := reps2 rps rvs
        simp only [Rep] at p
        obtain ⟨b, rfl, q⟩ := p
        obtain ⟨ws, z, t⟩ := r.at' n b _ q hS
        have ei := keyD_V hk pi
        subst ei
        cases (show vv = Value.ref b from rv)
        refine d_get2 hu I (DGet.k z) qi qx fun w' s' I' rw' => ⟨_, H, I', rw', xr af r ?_⟩
        obtain ⟨h1, h2⟩ := kvs_val (k := k) t
        cases hv : valD kvs k with
        | none => rw [h2 hv]; exact px
        | some d =>
          obtain ⟨w, e1, e2⟩ := h1 d hv
          rw [e1]; exact e2
      · exact False.elim af
    · exact False.elim af
  · exact False.elim af
def gCount : D → List D → Sto → Res D := fun a ds S => match a, ds with
  | .lst xs, [.bl k] => match boolsD xs with
    | some bs => .ok (.int (bs.countP (· == k) : Nat)) S
    | none => .bad
  | _, _ => .bad
def idxB (k : Bool) : List Bool → Option Nat
  | [] => none
  | b :: r => if b = k then some 0 else (idxB k r).map (· + 1)
def gIndex : D → List D → Sto → Res D := fun a ds S => match a, ds with
  | .lst xs, [.bl k] => match (boolsD xs).bind (idxB k) with
    | some j => .ok (.int j) S
    | none => .bad
  | _, _ => .bad
theorem eq_bools (k : Bool) {bs : List Bool} {y : Value} (hy : y ∈ (bs.map Value.bool).toArray) : PySem.MeetsSeq.EqGives y (.bool k) (isBoolOf k y) := by
  have hy' : y ∈ bs.map Value.bool := by rwa [List.mem_toArray] at hy
  obtain ⟨b, _, rfl⟩ := List.mem_map.mp hy'
  exact fun prog w A E s Q h => PySem.SeqAt.EqAt.bool_bool b k prog w E Q h
theorem count_bools (k : Bool) (bs : List Bool) : (bs.map Value.bool).countP (isBoolOf k) = bs.countP (· == k) := by
  rw [List.countP_map]
  rfl
theorem md_count : MtD X "list.count" gCount := by
  intro pins σ H s P α S v vv vs us a ds Q I r rv p rvs rps af
  unfold gCount at af
  split at af
  · rename_i xs k
    split at af
    · rename_i bs hb
      obtain ⟨vx, ux, rfl, rfl, px, qx⟩ := reps1 rps rvs
      simp only [Rep] at px
      subst px
      cases (show ux = Value.bool k from qx)
      obtain ⟨b, ws, its, n, rfl, sq, t, rvi, ht, hl, _⟩ := lst_at I r p
      cases (show vv = Value.ref b from rv)
      have hi := bools_vals hb t rvi
      subst hi
      refine call_meets PySem.F.slot_list_count ⟨_, ht, rfl⟩ PySem.F.entry_list_count (PySem.F.args_list_count_2 _ _) (PySem.SeqAt.list_countAt b (bs.map Value.bool).toArray n none #[] (.bool k) (isBoolOf k)) ⟨ht, fun y hy => (eq_bools k hy).at _ _, ?_⟩
      refine ⟨.int _, H, I.tok _, ⟨_, rfl⟩, ?_⟩
      rw [show (bs.map Value.bool).toArray.toList = bs.map Value.bool from rfl, count_bools]
      exact xr af r (by simp only [Rep])
    · exact False.elim af
  · exact False.elim af
theorem idxB_at {k : Bool} : ∀ {bs : List Bool} {j : Nat}, idxB k bs = some j → ∃ h : j < bs.length, bs[j] = k ∧ ∀ m (hm : m < bs.length), m < j → bs[m] ≠ k
  | [], j, h => by cases h
  | b :: r, j, h => by
    unfold idxB at h
    by_cases hb : b = k
    · rw [if_pos hb] at h
      cases h
      exact ⟨by simp, by simpa using hb, fun m hm z => absurd z (Nat.not_lt_zero _)⟩
    · rw [if_neg hb] at h
      obtain ⟨i, hi, rfl⟩ := Option.map_eq_some_iff.mp h
      obtain ⟨h1, h2, h3⟩ := idxB_at hi
      refine ⟨by simp; omega, by simpa using h2, fun m hm hl => ?_⟩
      cases m with
      | zero => simpa using hb
      | succ m => simpa using h3 m (by simp at hm; omega) (by omega)
theorem md_index : MtD X "list.index" gIndex := by
  intro pins σ H s P α S v vv vs us a ds Q I r rv p rvs rps af
  unfold gIndex at af
  split at af
  · rename_i xs k
    split at af
    · rename_i j hj
      obtain ⟨bs, hb, hi⟩ := Option.bind_eq_some_iff.mp hj
      obtain ⟨vx, ux, rfl, rfl, px, qx⟩ := reps1 rps rvs
      simp only [Rep] at px
      subst px
      cases (show ux = Value.bool k from qx)
      obtain ⟨b, ws, its, n, rfl, sq, t, rvi, ht, hl, hz⟩ := lst_at I r p
      cases (show vv = Value.ref b from rv)
      have hi' := bools_vals hb t rvi
      subst hi'
      obtain ⟨h1, h2, h3⟩ := idxB_at hi
      have hlen : bs.length ≤ sizeLine := by
        have e1 := t.length
        have e2 := rvi.length
        rw [List.length_map] at e2
        rw [lim_eq] at hz
        omega
      refine call_meets PySem.F.slot_list_index ⟨_, ht, rfl⟩ PySem.F.entry_list_index (PySem.F.args_list_index_2 _ _) (PySem.MeetsSeq.list_index b (bs.map Value.bool).toArray n (.bool k) (isBoolOf k) (fun y hy => eq_bools k hy) j (by simpa using h1) ?_ ?_ ?_) ⟨ht, ?_⟩
      · rw [sizeLine_eq] at hlen; omega
      · simp [isBoolOf, h2]
      · intro m hm hl'
        have hm' : m < bs.length := by simpa using hm
        have := h3 m hm' hl'
        simp [isBoolOf, this]
      · exact ⟨.int _, H, I.tok _, ⟨_, rfl⟩, xr af r (by simp only [Rep])⟩
    · exact False.elim af
  · exact False.elim af
end
end DL
end

-- De4
section
set_option Elab.async false
set_option linter.all false
set_option maxRecDepth 100000
namespace DL
open PySem PySem.Spec PyProof.Rows L2
def deads (S : Sto) : Sto := S.map fun _ => .dead
def atomD : D → Bool
  | .non => true
  | .bl _ => true
  | .int _ => true
  | .str _ => true
  | _ => false
def mapO {β γ : Type} (f : β → Option γ) : List β → Option (List γ)
  | [] => some []
  | b :: r => match f b, mapO f r with
    | some c, some cs => some (c :: cs)
    | _, _ => none
/-- a datum with its changeable lists as they stand -/
def resD : Nat → Sto → D → Option D
  | n + 1, S, .tup xs => (mapO (resD n S) xs).map .tup
  | n + 1, S, .lst xs => (mapO (resD n S) xs).map .lst
  | n + 1, S, .loc i => match S[i]? with
    | some (.lst xs) => (mapO (resD n S) xs).map .lst
    | _ => none
  | _, _, .non => some .non
  | _, _, .bl b => some (.bl b)
  | _, _, .int i => some (.int i)
  | _, _, .str x => some (.str x)
  | _, _, .ty n => some (.ty n)
  | _, _, .obj a => some (.obj a)
  | _, _, .dct0 => some .dct0
  | _, _, .exn c => some (.exn c)
  | _, _, _ => none
def frzP (H P : Hp) (α : List Addr) : Hp := fun b => if (P b).isSome then P b else if b ∈ α then H b else none
section
variable {K : PySem.W.Frag} {H P : Hp} {α : List Addr} {S : Sto}
theorem frzP_ext (H P : Hp) (α : List Addr) : Same P (frzP H P α) := fun b o e => by
  unfold frzP
  rw [e]
  rfl
theorem frzP_sub (r : Rel K H P α S) : Same (frzP H P α) H := fun b o e => by
  unfold frzP at e
  split at e
  · exact r.sub b o e
  · split at e
    · exact e
    · cases e
theorem frzP_at {a : Addr} (h : P a = none) (ha : a ∈ α) : frzP H P α a = H a := by
  unfold frzP
  rw [h]
  simp [ha]
theorem Rel.frz (r : Rel K H P α S) : Rel K H (frzP H P α) α (deads S) where
  sub := frzP_sub r
  len := by rw [r.len]; simp [deads]
  nd := r.nd
  sep := fun i a o h1 h2 h3 => by
    unfold deads at h2
    rw [List.getElem?_map] at h2
    cases q : S[i]? with
    | none => rw [q] at h2; cases h2
    | some m => rw [q] at h2; cases h2; exact absurd rfl h3
  at' := fun i a o h1 h2 => by
    unfold deads at h2
    rw [List.getElem?_map] at h2
    cases q : S[i]? with
    | none => rw [q] at h2; cases h2
    | some m => rw [q] at h2; cases h2; trivial
  own := r.own
/-- behind the look -/
theorem Rel.unfrz {H' P1 : Hp} {α1 : List Addr} {S1 : Sto} (r : Rel K H P α S) (r1 : Rel K H' P1 α1 S1) (e : Same (frzP H P α) P1) : Rel K H' P α S := by
  have mem : ∀ i a, α[i]? = some a → a ∈ α := fun i a h => List.mem_of_getElem? h
  have kp : ∀ (i : Nat) (a : Addr) (o : MO) (u : HO), α[i]? = some a → S[i]? = some o → o ≠ MO.dead → H a = some u → H' a = some u := fun i a o u h1 h2 h3 h4 =>
    r1.sub a u (e a u (by rw [frzP_at (r.sep i a o h1 h2 h3) (mem i a h1)]; exact h4))
  refine ⟨(frzP_ext H P α).trans (e.trans r1.sub), r.len, r.nd, r.sep, fun i a o h1 h2 => ?_, fun i a h1 => ?_⟩
  · have m := r.at' i a o h1 h2
    cases o with
    | dead => trivial
    | lst ds => obtain ⟨vs, q, t⟩ := m; exact ⟨vs, kp i a _ _ h1 h2 (by intro z; cases z) q, t⟩
    | dct kvs => obtain ⟨vs, q, t⟩ := m; exact ⟨vs, kp i a _ _ h1 h2 (by intro z; cases z) q, t⟩
    | ins C fs => obtain ⟨dx, vs, q, t⟩ := m; exact ⟨dx, vs, kp i a _ _ h1 h2 (by intro z; cases z) q, t⟩
  · have h := r.own i a h1
    cases q : H a with
    | none => exact absurd q h
    | some u =>
      have z : ∃ u', frzP H P α a = some u' := by
        cases q2 : P a with
        | none => exact ⟨u, by rw [frzP_at q2 (mem i a h1)]; exact q⟩
        | some u' => exact ⟨u', frzP_ext H P α a u' q2⟩
      obtain ⟨u', z⟩ := z
      rw [r1.sub a u' (e a u' z)]
      intro w; cases w
theorem Reps.mapO {f : D → Option D} {P' : Hp} (h : ∀ d t v, f d = some t → Rep K P α d v → Rep K P' α t v) : ∀ {ds ts : List D} {vs : List V}, DL.mapO f ds = some ts → Reps K P α ds vs → Reps K P' α ts vs
  | [], ts, vs, e, r => by cases e; rw [r.nil_inv]; exact .nil
  | d :: ds, ts, vs, e, r => by
    obtain ⟨w, ws, rfl, r1, r2⟩ := r.cons_inv
    unfold DL.mapO at e
    split at e
    · rename_i c cs h1 h2
      cases e
      exact .cons (h d c w h1 r1) (Reps.mapO h h2 r2)
    · cases e
theorem res_rep (r : Rel K H P α S) : ∀ (n : Nat) (d t : D) (v : V), resD n S d = some t → Rep K P α d v → Rep K (frzP H P α) α t v := by
  have mono : ∀ (d : D) (v : V), Rep K P α d v → Rep K (frzP H P α) α d v := fun d v => Rep.mono (frzP_ext H P α) (List.prefix_refl _) d v
  intro n
  induction n with
  | zero =>
    intro d t v h p
    cases d <;> simp only [resD] at h <;> first | (cases h; exact mono _ _ p) | cases h
  | succ n ih =>
    intro d t v h p
    cases d with
    | tup xs =>
      simp only [resD] at h
      obtain ⟨ts, h1, rfl⟩ := Option.map_eq_some_iff.mp h
      simp only [Rep] at p ⊢
      obtain ⟨a, vs, rfl, q, t⟩ := p
      exact ⟨a, vs, rfl, sqT_mono (frzP_ext H P α) q, Reps.mapO (fun d t v => ih d t v) h1 t⟩
    | lst xs =>
      simp only [resD] at h
      obtain ⟨ts, h1, rfl⟩ := Option.map_eq_some_iff.mp h
      simp only [Rep] at p ⊢
      obtain ⟨a, vs, rfl, q, t⟩ := p
      exact ⟨a, vs, rfl, sqX_mono (frzP_ext H P α) q, Reps.mapO (fun d t v => ih d t v) h1 t⟩
    | loc i =>
      simp only [resD] at h
      split at h
      · rename_i xs hS
        obtain ⟨ts, h1, rfl⟩ := Option.map_eq_some_iff.mp h
        simp only [Rep] at p ⊢
        obtain ⟨a, rfl, q⟩ := p
        obtain ⟨vs, z, t⟩ := r.at' i a _ q hS
        refine ⟨a, vs, rfl, .inl (.inl ?_), Reps.mapO (fun d t v => ih d t v) h1 t⟩
        rw [frzP_at (r.sep i a _ q hS (by intro z; cases z)) (List.mem_of_getElem? q)]
        exact z
      · cases h
    | _ => simp only [resD] at h; cases h; exact mono _ _ p
theorem atom_rep {P' : Hp} {α' : List Addr} {d : D} {v : V} (h : atomD d = true) (p : Rep K P α d v) : Rep K P' α' d v := by
  cases d with
  | non => simpa only [Rep] using p
  | bl b => simpa only [Rep] using p
  | int i => simpa only [Rep] using p
  | str x => simpa only [Rep] using p
  | _ => cases h
end
def deep : Nat := 20
/-- an outcome of a look -/
def lookR (r : Res D) (S : Sto) : Res D := match r with
  | .ok d _ => if atomD d then .ok d S else .bad
  | _ => .bad
theorem look_after {X : Cx} {H P : Hp} {α : List Addr} {S : Sto} {r : Res D} {Q : VK} (rl : Rel X.K H P α S) (af : After X P α (lookR r S) Q) : After X (frzP H P α) α r Q := by
  cases r with
  | ok d S' =>
    simp only [lookR] at af
    split at af
    · rename_i ha
      exact fun v H' P' α' r' e1 e2 rp => af v H' P α (rl.unfrz r' e1) (Same.refl _) (List.prefix_refl _) (atom_rep ha rp)
    · exact False.elim af
  | ex c x S' => exact False.elim af
  | bad => exact False.elim af
section
variable {X : Cx}
/-- an operation that only looks -/
def lookG (g : G2) : G2 := fun a b S => match resD deep S a, resD deep S b with
  | some x, some y => lookR (g x y (deads S)) S
  | _, _ => .bad
theorem OpD.look {f : Value → Value → Sem Value} {g : G2} (h : OpD X f g) : OpD X f (lookG g) := by
  intro pins σ H s P α S v u vv uu a b Q I r rv ru pa pb af
  unfold lookG at af
  split at af
  · rename_i x y hx hy
    exact h pins σ H s _ α (deads S) v u vv uu x y Q I r.frz rv ru (res_rep r deep a x v hx pa) (res_rep r deep b y u hy pb) (look_after r af)
  · exact False.elim af
def lookF (F : DF) : DF := fun ds S => match mapO (resD deep S) ds with
  | some ts => lookR (F ts (deads S)) S
  | none => .bad
theorem CallD.look {f : Value} {F : DF} (h : CallD X f F) : CallD X f (lookF F) := by
  intro pins σ H s P α S vs us ds Q I r rv rp af
  unfold lookF at af
  split at af
  · rename_i ts ht
    exact h pins σ H s _ α (deads S) vs us ts Q I r.frz rv (Reps.mapO (fun d t v => res_rep r deep d t v) ht rp) (look_after r af)
  · exact False.elim af
variable {cm : Bool} {k : Nat} {f : Addr} {fd : FuncData} {ps : List Str} {F : DF} {x : Str} {p pos : Pos} {e : Expr} {es : List Expr} {fa : DA} {n : Nat}
/-- f(e, ..): own def that only looks -/
theorem de_callL (G : FnX X.prog X.w X.K X.mg X.base cm k f fd ps (spD X.K n F)) (hr : RoomC cm k X.A) (hF : Fn1 X) (hg : Gl X x) (hm : X.mg x = some (.ref f)) (hk : PySem.W.keepIn X.K (.ref f) = true) (hb : Binds X.K fd ps [])
    (ha : PA X (e :: es) (tDA X fa)) (hdb : (x == ("__debug__" : Str)) = false := by decide) (he : starEach (e :: es) X.env = (false, eval e X.env) :: starEach es X.env := by rfl) (hpl : (backTo pos (starEach es X.env)).any (·.1) = false := by rfl) :
    PE X (.Call (.Name x p) (e :: es) [] pos) (tD X (dCall n (lookF F) fa)) := by
  intro pins s σ H Q I h
  obtain ⟨P, α, env, S, r, re, af⟩ := h
  refine wpAny_Call_Name_kw (ld_glob I hg hm ?_ hdb)
  refine PySem.W.callWith_K (h₀ := X.base) I.ok.mod.kin hk (thn (dThenA ha I r re af pos) fun us s1 ⟨vs, H1, P1, α1, ds, S1, I1, rv, r1, re1, rp, e1, e2, af1⟩ => ⟨I1.kIn, ?_⟩) he hpl
  obtain ⟨hn, af2⟩ := dcall_len (env := env) (S := S) af1
  have af3 := After.base e1 e2 af2
  unfold lookF at af3
  split at af3
  · rename_i ts ht
    have rp' := Reps.mapO (fun d t v => res_rep r1 deep d t v) ht rp
    have hl : ts.length = n := by rw [rp'.length, ← rp.length]; exact hn
    exact run_fnX G hr hb hF I1 r1.frz rv rp' hl (look_after r1 af3)
  · exact False.elim af3
end
def whileD (t : DT) (f : DS) : Nat → DEnv → Sto → Out
  | 0, _, _ => .bad
  | n + 1, env, S => (t env S).toS env fun b S1 => if b then (match f env S1 with
      | .nx env2 S2 => whileD t f n env2 S2
      | .ct env2 S2 => whileD t f n env2 S2
      | .bk env2 S2 => .nx env2 S2
      | o => o) else .nx env S1
/-- turns that no while of ours goes beyond -/
theorem big_ex : ∃ n : Nat, n = 2 ^ 60 := ⟨_, rfl⟩
/-- the most turns, shut: nobody counts them down -/
noncomputable def big : Nat := Classical.choose big_ex
theorem big_eq : big = 2 ^ 60 := Classical.choose_spec big_ex
noncomputable def sWhile (t : DT) (f : DS) : DS := fun env S => whileD t f big env S
section
variable {X : Cx} {pos : Pos}
theorem ds_while {c : Expr} {body : List Stmt} {t : DT} {f : DS} (hp : PassesOwn (model X.prog X.w) X.A X.env X.xe) (hc : PT X c (tDT X t)) (hb : PSs X body (tDS X f)) : PS X (.While c body [] pos) (tDS X (sWhile t f)) :=
  psW (ps_while hp hc hb) fun D σ H ⟨P, α, env, S, r, re, af⟩ => by
    refine ⟨fun m σ H => ∃ P2 α2 env2 S2, Rel X.K H P2 α2 S2 ∧ REnv X.K P2 α2 σ env2 ∧ Same P P2 ∧ α <+: α2 ∧ AfterS X P2 α2 (whileD t f m env2 S2) D, ⟨big, P, α, env, S, r, re, Same.refl _, List.prefix_refl _, af⟩, ?_⟩
    rintro m σ2 H2 ⟨P2, α2, env2, S2, r2, re2, e1, e2, af2⟩
    cases m with
    | zero => exact False.elim af2
    | succ m =>
      have af3 := toS_after af2
      refine ⟨P2, α2, env2, S2, r2, re2, ?_⟩
      cases q : t env2 S2 with
      | bad => rw [q] at af3; exact af3
      | ex c x S' => rw [q] at af3; exact af3
      | ok b S3 =>
        rw [q] at af3
        intro H3 P3 α3 r3 e3 e4
        have af4 : AfterS X P3 α3 (if b then (match f env2 S3 with | .nx env2 S2 => whileD t f m env2 S2 | .ct env2 S2 => whileD t f m env2 S2 | .bk env2 S2 => .nx env2 S2 | o => o) else .nx env2 S3) D := AfterS.base e3 e4 af3
        cases b with
        | false => exact af4 σ2 H3 P3 α3 r3 (re2.mono e3 e4) (Same.refl _) (List.prefix_refl _)
        | true =>
          simp only [if_true] at af4 ⊢
          refine ⟨fun σ' H' => ∃ P2 α2 env2 S2, Rel X.K H' P2 α2 S2 ∧ REnv X.K P2 α2 σ' env2 ∧ Same P P2 ∧ α <+: α2 ∧ AfterS X P2 α2 (whileD t f m env2 S2) D, fun σ' H' w => ⟨m, Nat.lt_succ_self _, w⟩, P3, α3, env2, S3, r3, re2.mono e3 e4, ?_⟩
          cases q2 : f env2 S3 with
          | bad => rw [q2] at af4; exact af4
          | ex c x env4 S4 => rw [q2] at af4; exact af4
          | rt d4 S4 => rw [q2] at af4; exact af4
          | bk env4 S4 => rw [q2] at af4; exact af4
          | nx env4 S4 =>
            rw [q2] at af4
            exact fun σ5 H5 P5 α5 r5 re5 e8 e9 => ⟨P5, α5, env4, S4, r5, re5, (e1.trans e3).trans e8, (e2.trans e4).trans e9, AfterS.base e8 e9 af4⟩
          | ct env4 S4 =>
            rw [q2] at af4
            exact fun σ5 H5 P5 α5 r5 re5 e8 e9 => ⟨P5, α5, env4, S4, r5, re5, (e1.trans e3).trans e8, (e2.trans e4).trans e9, AfterS.base e8 e9 af4⟩
end
end DL
end

-- De5
section
set_option Elab.async false
set_option linter.all false
set_option maxRecDepth 100000
namespace DL
open PySem PySem.Spec PyProof.Rows L2
section
variable {X : Cx} {a b c e : Expr} {pos : Pos} {fa fe : DE}
def tIpD (X : Cx) (g : G2) : TIp := fun x y H Q => ∃ P α S a b, Rel X.K H P α S ∧ Rep X.K P α a x ∧ Rep X.K P α b y ∧ After X P α (g a b S) Q
def IpD (X : Cx) (op : Operator) (g : G2) : Prop := PIp X op (tIpD X g)
def sAug (i : Nat) (g : G2) (fe : DE) : DS := fun env S => match env[i]? with
  | some (some x) => (fe env S).toS env fun y S1 => (g x y S1).toS env fun z S2 => .nx (env.set i (some z)) S2
  | _ => .bad
theorem ds_aug {i : Nat} {x : Str} {op : Operator} {g : G2} {pos' : Pos} (hN : X.N.Nodup) (he : PE X e (tD X fe)) (ho : IpD X op g) (hi : X.N[i]? = some x := by rfl) (hx : Loc X.env.scope x := by first | exact Or.inl rfl | exact Or.inr rfl)
    (hf : X.fn x = true ∨ X.env.scope.names.lookup x = some .local := by first | exact .inl rfl | exact .inr rfl | assumption) : PS X (.AugAssign (.Name x pos') op e pos) (tDS X (sAug i g fe)) :=
  psW (ps_aug hN hi hx he ho hf) fun D σ H ⟨P, α, env, S, r, re, af⟩ => by
    unfold sAug at af
    split at af
    · rename_i d hd
      obtain ⟨v, hv, pv⟩ := re.2 i d hd
      refine ⟨v, hv, P, α, env, S, r, re, ?_⟩
      have af1 := toS_after af
      cases q : fe env S with
      | bad => rw [q] at af1; exact af1
      | ex c x S' => rw [q] at af1; exact af1
      | ok y S1 =>
        rw [q] at af1
        intro u H1 P1 α1 r1 e1 e2 rp
        refine ⟨P1, α1, S1, d, y, r1, Rep.mono e1 e2 _ _ pv, rp, ?_⟩
        have af2 := toS_after (AfterS.base e1 e2 af1)
        cases q2 : g d y S1 with
        | bad => rw [q2] at af2; exact af2
        | ex c x S' => rw [q2] at af2; exact af2
        | ok z S2 =>
          rw [q2] at af2
          exact fun w H2 P2 α2 r2 e3 e4 rp2 => af2 _ H2 P2 α2 r2 (((re.mono e1 e2).mono e3 e4).set i rp2) e3 e4
    · exact False.elim af
def gAddI : G2 := i2 (fun _ _ => true) fun i j => .int (i + j)
theorem ipd_add : IpD X .Add gAddI := by
  intro pins s σ H x y v u Q I rx ry h
  obtain ⟨P, α, S, a, b, r, pa, pb, af⟩ := h
  obtain ⟨i, j, rfl, rfl, _, ok⟩ := i2_ok af
  exact ip_add pins s σ H x y v u Q I rx ry ⟨i, j, rep_int pa, rep_int pb, xr ok r (by simp only [Rep])⟩
theorem ipd_sub : IpD X .Sub gSub := by
  intro pins s σ H x y v u Q I rx ry h
  obtain ⟨P, α, S, a, b, r, pa, pb, af⟩ := h
  obtain ⟨i, j, rfl, rfl, _, ok⟩ := i2_ok af
  exact ip_sub pins s σ H x y v u Q I rx ry ⟨i, j, rep_int pa, rep_int pb, xr ok r (by simp only [Rep])⟩
def gShl : G2 := i2 cPow fun i j => .int (i * 2 ^ j.toNat)
theorem od_shl : OpD X (binaryOp .LShift) gShl := opD_i2 op_shl (fun i j h => (of_decide_eq_true h : 0 ≤ j ∧ j ≤ 1000000 ∧ i.natAbs < 2 ^ 64)) fun P α i j => by simp only [Rep]
def parOut3 (i j k : Nat) (env : DEnv) (S1 : Sto) : List D → Out
  | [x, y, z] => .nx (((env.set i (some x)).set j (some y)).set k (some z)) S1
  | _ => .bad
def sPar3 (i j k : Nat) (f : DA) : DS := fun env S => (f env S).toS env fun ds S1 => parOut3 i j k env S1 ds
theorem ds_par3 {i j k : Nat} {x y z : Str} {f : DA} {px py pz pt : Pos} {kt k2 pt2} (hc : X.calm = true) (hN : X.N.Nodup) (ha : PA X [a, b, c] (tDA X f)) (hi : X.N[i]? = some x := by rfl) (hj : X.N[j]? = some y := by rfl) (hk : X.N[k]? = some z := by rfl) (hij : i ≠ j := by decide) (hik : i ≠ k := by decide) (hjk : j ≠ k := by decide)
    (hx : X.env.scope.names.lookup x = some .local := by rfl) (hy : X.env.scope.names.lookup y = some .local := by rfl) (hz : X.env.scope.names.lookup z = some .local := by rfl)
    (hw : swappedStores [.Tuple [.Name x px, .Name y py, .Name z pz] kt pt] (.Tuple [a, b, c] k2 pt2) X.env = pure (some [x, y, z]) := by rfl)
    (hs : swapsWithSole [.Tuple [.Name x px, .Name y py, .Name z pz] kt pt] (.Tuple [a, b, c] k2 pt2) pos.line X.env = pure false := by rfl) :
    PS X (.Assign [.Tuple [.Name x px, .Name y py, .Name z pz] kt pt] (.Tuple [a, b, c] k2 pt2) pos) (tDS X (sPar3 i j k f)) := by
  intro pins s σ H D I h
  obtain ⟨P, α, env, S, r, re, af⟩ := h
  rw [exec_Assign_arm]
  refine wpAny_bind (wpAny_standAt ?_)
  rw [hs]
  refine wpAny_bind (wpAny_pure ?_)
  rw [if_neg (by decide)]
  refine wpAny_bind (Tuple_ (thn (dThenAS ha I r re af _) fun us s1 ⟨vs, H1, P1, α1, ds, S1, I1, rv, r1, re1, rp, e1, e2, q⟩ => ?_))
  match ds, rp, q with
  | [], _, q => exact False.elim q
  | [_], _, q => exact False.elim q
  | [_, _], _, q => exact False.elim q
  | _ :: _ :: _ :: _ :: _, _, q => exact False.elim q
  | [d1, d2, d3], rp, q =>
    obtain ⟨v1, t1, rfl, p1, rp⟩ := rp.cons_inv
    obtain ⟨v2, t2, rfl, p2, rp⟩ := rp.cons_inv
    obtain ⟨v3, t3, rfl, p3, rp⟩ := rp.cons_inv
    cases rp.nil_inv
    obtain ⟨u1, u2, u3, rfl, q1, q2, q3⟩ : ∃ u1 u2 u3, us = [u1, u2, u3] ∧ RelV v1 u1 ∧ RelV v2 u2 ∧ RelV v3 u3 := by
      cases rv with
      | cons z1 rv => cases rv with
        | cons z2 rv => cases rv with
          | cons z3 rv => cases rv; exact ⟨_, _, _, rfl, z1, z2, z3⟩
    refine wpAny_newObj_type ?_ (by show 3 ≤ sizeLine; decide)
    have I2 : Inv X pins σ H1 { s1 with heap := s1.heap.push { cls := .type "tuple", data := .seq [u1, u2, u3].toArray } } := I1.kept (t' := s1.toks) fun b o e => Heap.get?_push_of_some _ e
    rw [hw]
    refine wpAny_bind (wpAny_pure ?_)
    show wpAny (model X.prog X.w) X.A (do rule "assign.swapped-stores"; let items ← unpackItems (.ref s1.heap.objs.size) 3 none; assignInOrder [fun v => bindName X.env z v, fun v => bindName X.env y v, fun v => bindName X.env x v] items.reverse; pure Flow.next) _ _ _
    refine wpAny_bind (wpAny_rule (wpAny_bind (unpackItems_tuple (items := #[u1, u2, u3]) (I.ok.hd hc) (IsTup.new s1.heap _) fun h' hx' => ?_)))
    have I3 := I2.kept (h' := h') (t' := s1.toks) fun b o e => hx' b o (Nat.ne_of_lt (Heap.lt_size e)) e
    show wpAny _ _ (assignInOrder [fun v => bindName X.env z v, fun v => bindName X.env y v, fun v => bindName X.env x v] [u3, u2, u1] >>= fun _ => pure Flow.next) _ _ _
    refine wpAny_bind (assignInOrder_cons (wpAny_bindName (store_ok I3 hN hk (.inl hz) q3 (fun s2 I4 => ?_) (.inr hz))))
    refine assignInOrder_cons (wpAny_bindName (store_ok I4 hN hj (.inl hy) q2 (fun s3 I5 => ?_) (.inr hy)))
    refine assignInOrder_cons (wpAny_bindName (store_ok I5 hN hi (.inl hx) q1 (fun s4 I6 => assignInOrder_nil (wpAny_pure ?_)) (.inr hx)))
    rw [List.set_comm _ _ (Ne.symm hij), List.set_comm _ _ (Ne.symm hik), List.set_comm _ _ (Ne.symm hjk)] at I6
    exact ⟨_, H1, I6, q _ H1 P1 α1 r1 (((re1.set i p1).set j p2).set k p3) (Same.refl _) (List.prefix_refl _)⟩
def cutD (xs : List D) (lo hi : Option Int) : List D := (xs.drop (HT.sIx xs.length 0 lo)).take (HT.sIx xs.length xs.length hi - HT.sIx xs.length 0 lo)
abbrev DO := DEnv → Sto → Res (Option Int)
def OkO (X : Cx) (P : Hp) (α : List Addr) (Q : Option Int → Hp → Prop) (o : Option Int) (S' : Sto) : Prop := ∀ H' P' α', Rel X.K H' P' α' S' → Same P P' → α <+: α' → Q o H'
def tDO (X : Cx) (f : DO) : TO := fun σ H Q => ∃ P α env S, Rel X.K H P α S ∧ REnv X.K P α σ env ∧ AfterG X P α (f env S) (OkO X P α Q)
def doNone : DO := fun _ S => .ok none S
def doSome (f : DE) : DO := fun env S => (f env S).bind fun d S1 => match d with
  | .int i => .ok (some i) S1
  | _ => .bad
theorem do_some (he : PE X e (tD X fe)) : PO X (some e) (tDO X (doSome fe)) := by
  intro pins s σ H Q I h
  obtain ⟨P, α, env, S, r, re, af⟩ := h
  refine po_some (te := tD X fe) he pins s σ H Q I ⟨P, α, env, S, r, re, ?_⟩
  have af' : AfterG X P α ((fe env S).bind fun d S1 => match d with | .int i => .ok (some i) S1 | _ => .bad) (OkO X P α Q) := af
  cases q : fe env S with
  | bad => rw [q] at af'; exact af'
  | ex c x S' => rw [q] at af'; exact af'
  | ok d S1 =>
    rw [q] at af'
    intro v H1 P1 α1 r1 e1 e2 rp
    cases d with
    | int i => exact ⟨i, rep_int rp, af' H1 P1 α1 r1 e1 e2⟩
    | _ => exact False.elim af'
theorem Reps.cut {K : PySem.W.Frag} {P : Hp} {α : List Addr} {ds : List D} {vs : List V} (r : Reps K P α ds vs) (lo hi : Option Int) : Reps K P α (cutD ds lo hi) (cutV vs lo hi) := by
  unfold cutD cutV
  rw [r.length]
  exact (r.drop _).take _
def gSl (d : D) (lo hi : Option Int) (S : Sto) : Res D := match d with
  | .lst xs => .ok (.lst (cutD xs lo hi)) S
  | .loc i => match S[i]? with
    | some (.lst xs) => .ok (.lst (cutD xs lo hi)) S
    | _ => .bad
  | .tup xs => .ok (.tup (cutD xs lo hi)) S
  | _ => .bad
def dSl (fe : DE) (fl fh : DO) : DE := fun env S => (fe env S).bind fun d S1 => (fl env S1).bind fun lo S2 => (fh env S2).bind fun hi S3 => gSl d lo hi S3
end
end DL
end

-- De6
section
set_option Elab.async false
set_option linter.all false
set_option maxRecDepth 100000
namespace DL
open PySem PySem.Spec PyProof.Rows L2 HT
section
variable {prog : Program} {w : World} {A : Around} {E : Value → Shared → Prop} {s : Shared}
/-- t[lo:hi], the whole: t itself -/
theorem getItem_tuple_whole {t sl : Addr} {items : Array Value} {vl vu : Value} {lo hi : Option Int} {Q : Value → Shared → Prop} (ht : IsTup s.heap t items) (hs : s.heap.IsSliceOf sl vl vu .none) (pl : IsPart vl lo) (pu : IsPart vu hi)
    (hw : sIx items.size 0 lo = 0 ∧ sIx items.size items.size hi = items.size) (h : Q (.ref t) s) : wpAny (model prog w) A (getItem (.ref t) (.ref sl)) Q E s := by
  obtain ⟨ob, hob, hcb, _⟩ := id hs
  have hTs : s.TypeIs (.ref sl) "slice" := ⟨ob, hob, hcb⟩
  unfold getItem
  try with_reducible refine wpAny_holding ?_
  first | refine wpAny_bind (wpAny_pure ?_) | skip
  refine wpAny_bind (wpAny_sequenceKey ht.typeIs (by decide) ?_)
  refine wpAny_bind (wpAny_callSpecial?_slot (name := Str.ofString "__getitem__") ht.typeIs PyProof.Rows.slot_tuple_getitem
    (wpAny_call_entry PyProof.Rows.slot_tuple_getitem ht.typeIs entry_tuple_getitem ?_ (args_tuple_getitem _ _)))
  show wpAny _ _ (Builtin.Tuple.tupleItemsOf (.ref t) >>= _) _ _ s
  refine wpAny_bind (tupleItemsOf_ ht ?_)
  refine wpAny_bind (wpAny_typeOf hTs ?_)
  rw [if_pos (by decide)]
  refine wpAny_bind (sliceApplied_gen hs pl pu ?_)
  show wpAny _ _ (if (((sIx items.size 0 lo : Nat) : Int) == 0 && (1 : Int) == 1 && (sIx items.size items.size hi - sIx items.size 0 lo) == items.size) = true then _ else _) _ _ s
  rw [hw.1, hw.2, if_pos (by simp)]
  unfold Builtin.Tuple.tupleIsExact
  refine wpAny_bind (wpAny_bind (wpAny_typeOf ht.typeIs (wpAny_pure ?_)))
  rw [if_pos (by decide)]
  exact wpAny_bind (wpAny_rule (wpAny_pure ⟨_, rfl, wpAny_pure h⟩))
end
section
variable {X : Cx} {e : Expr} {fe : DE} {pos p2 : Pos}
def rSlD (X : Cx) : V → Option Int → Option Int → Hp → VK → Prop := fun x lo hi H Q => ∃ P α S d, Rel X.K H P α S ∧ Rep X.K P α d x ∧ After X P α (gSl d lo hi S) Q
theorem sl_d : SlR X (rSlD X) := by
  intro pins s σ H x v vl vu lo hi sl Q I rx hs pl pu h
  obtain ⟨P, α, S, d, r, p, af⟩ := h
  cases d with
  | lst xs =>
    simp only [Rep] at p
    obtain ⟨a, vs, rfl, q, t⟩ := p
    exact sl_list pins s σ H _ v vl vu lo hi sl Q I rx hs pl pu ⟨a, vs, rfl, (sqX_mono r.sub q).l, fun b hb => pure_lst r hb (Reps.cut t lo hi) af⟩
  | loc i =>
    simp only [gSl] at af
    split at af
    · rename_i xs hS
      simp only [Rep] at p
      obtain ⟨a, rfl, q⟩ := p
      obtain ⟨vs, z, t⟩ := r.at' i a _ q hS
      exact sl_list pins s σ H _ v vl vu lo hi sl Q I rx hs pl pu ⟨a, vs, rfl, SqL.of z, fun b hb => pure_lst r hb (Reps.cut t lo hi) af⟩
    · exact False.elim af
  | tup xs =>
    have p0 := p
    simp only [Rep] at p
    obtain ⟨a, vs, rfl, q, t⟩ := p
    by_cases hw : sIx vs.length 0 lo = 0 ∧ sIx vs.length vs.length hi = vs.length
    · cases rx
      obtain ⟨its, rv, ht, hz⟩ := I.tuple (sqT_sub r.sub q)
      have hlen : its.toArray.size = vs.length := by rw [List.size_toArray]; exact rv.length.symm
      refine ⟨"tuple", _, PyProof.Rows.slot_tuple_getitem.lookup, ht.typeIs, getItem_tuple_whole ht hs pl pu (by rw [hlen]; exact hw) ⟨.ref a, H, I, rfl, xr af r ?_⟩⟩
      have e : cutD xs lo hi = xs := by
        unfold cutD
        rw [t.length, hw.1, hw.2, ← t.length]
        simp
      rw [e]
      exact p0
    · exact sl_tup pins s σ H _ v vl vu lo hi sl Q I rx hs pl pu ⟨a, vs, rfl, sqT_sub r.sub q, hw, fun b hb => pure_tup r hb (Reps.cut t lo hi) af⟩
  | _ => exact False.elim af
theorem de_slice {lo hi : Option Expr} {fl fh : DO} (he : PE X e (tD X fe)) (hl : PO X lo (tDO X fl)) (hu : PO X hi (tDO X fh)) : PE X (.Subscript e (.Slice lo hi none p2) pos) (tD X (dSl fe fl fh)) :=
  peW (pe_slice sl_d he hl hu) fun σ H Q ⟨P, α, env, S, r, re, af⟩ => by
    refine ⟨P, α, env, S, r, re, ?_⟩
    have af' : AfterG X P α ((fe env S).bind fun d S1 => (fl env S1).bind fun lo S2 => (fh env S2).bind fun hi S3 => gSl d lo hi S3) (OkV X P α Q) := af
    cases q : fe env S with
    | bad => rw [q] at af'; exact af'
    | ex c x S' => rw [q] at af'; exact af'
    | ok d S1 =>
      rw [q] at af'
      intro v H1 P1 α1 r1 e1 e2 rp
      refine ⟨P1, α1, env, S1, r1, re.mono e1 e2, ?_⟩
      have af2 : AfterG X P1 α1 ((fl env S1).bind fun lo S2 => (fh env S2).bind fun hi S3 => gSl d lo hi S3) (OkV X P1 α1 Q) := After.base e1 e2 af'
      cases q2 : fl env S1 with
      | bad => rw [q2] at af2; exact af2
      | ex c x S' => rw [q2] at af2; exact af2
      | ok l S2 =>
        rw [q2] at af2
        intro H2 P2 α2 r2 e3 e4
        refine ⟨P2, α2, env, S2, r2, (re.mono e1 e2).mono e3 e4, ?_⟩
        have af3 : AfterG X P2 α2 ((fh env S2).bind fun hi S3 => gSl d l hi S3) (OkV X P2 α2 Q) := After.base e3 e4 af2
        cases q3 : fh env S2 with
        | bad => rw [q3] at af3; exact af3
        | ex c x S' => rw [q3] at af3; exact af3
        | ok u S3 =>
          rw [q3] at af3
          intro H3 P3 α3 r3 e5 e6
          exact ⟨P3, α3, S3, d, r3, Rep.mono (e3.trans e5) (e4.trans e6) _ _ rp, After.base e5 e6 af3⟩
def gFmt (d : D) (S : Sto) : Res D := match d with
  | .int i => if i.natAbs.log2 < 1920 then .ok (.str (toString i)) S else .bad
  | .str x => if x.length ≤ lim then .ok (.str x) S else .bad
  | _ => .bad
theorem de_fmt (he : PE X e (tD X fe)) : PE X (.FormattedValue e (-1) none pos) (tD X (d1 gFmt fe)) := by
  intro pins s σ H Q I h
  obtain ⟨P, α, env, S, r, re, af⟩ := h
  refine FormattedValue_plain (thn (dThen he I r re af) fun vv s1 ⟨v, H1, P1, α1, d, S1, G1, af1⟩ => ?_)
  have p := G1.rep
  have rv := G1.val
  have af2 := After.base G1.same G1.pre af1
  cases d with
  | int i =>
    simp only [gFmt] at af2
    split at af2
    · rename_i hd
      simp only [Rep] at p; subst p
      obtain ⟨t, rfl⟩ := rv
      exact formatField_int_small hd ⟨.str _, H1, G1.inv.tok _, ⟨_, rfl⟩, xr af2 G1.rel (by simp only [Rep])⟩
    · exact False.elim af2
  | str x =>
    simp only [gFmt] at af2
    split at af2
    · rename_i hd
      simp only [Rep] at p; subst p
      obtain ⟨t, rfl⟩ := rv
      exact formatField_str (fun t' tk => ⟨.str _, H1, G1.inv.tok _, ⟨_, rfl⟩, xr af2 G1.rel (by simp only [Rep])⟩) (by rw [← lim_eq]; exact hd)
    · exact False.elim af2
  | _ => exact False.elim af2
def joinD (out : Str) : List DE → DEnv → Sto → Res D
  | [], _, S => if out.length ≤ lim then .ok (.str out) S else .bad
  | p :: ps, env, S => (p env S).bind fun d S1 => match d with
    | .str y => if (out ++ y).length ≤ lim then joinD (out ++ y) ps env S1 else .bad
    | _ => .bad
def PJ (X : Cx) (es : List Expr) (fs : List DE) : Prop :=
  ∀ (out : Str) (pins : List (Addr × Obj)) (s : Shared) (σ : L2.St) (H P : Hp) (α : List Addr) (env : DEnv) (S : Sto) (Q : VK), Inv X pins σ H s → Rel X.K H P α S → REnv X.K P α σ env → After X P α (joinD out fs env S) Q →
    wpAny (model X.prog X.w) X.A (joinParts out (evalEach es X.env)) (EP X pins σ Q) X.xe s
theorem pj_nil : PJ X [] [] := by
  intro out pins s σ H P α env S Q I r re af
  simp only [joinD] at af
  split at af
  · rename_i hl
    exact joinParts_nil ⟨.str _, H, I.tok _, ⟨_, rfl⟩, xr af r (by simp only [Rep])⟩ (by rw [← lim_eq]; exact hl)
  · exact False.elim af
theorem pj_cons {es : List Expr} {fs : List DE} (he : PE X e (tD X fe)) (hr : PJ X es fs) : PJ X (e :: es) (fe :: fs) := by
  intro out pins s σ H P α env S Q I r re af
  simp only [joinD] at af
  refine joinParts_cons (thn (dThen he I r re af) fun vv s1 ⟨v, H1, P1, α1, d, S1, G1, af1⟩ => ?_)
  cases d with
  | str y =>
    have p := G1.rep
    simp only [Rep] at p; subst p
    obtain ⟨t, rfl⟩ := G1.val
    dsimp only at af1 ⊢
    split at af1
    · rename_i hl
      exact ⟨by rw [← lim_eq]; exact hl, hr (out ++ y) pins s1 σ H1 P1 α1 env S1 Q G1.inv G1.rel G1.env (After.base G1.same G1.pre af1)⟩
    · exact False.elim af1
  | _ => exact False.elim af1
def dJoin (fs : List DE) : DE := fun env S => joinD Str.empty fs env S
theorem de_join {v₁ v₂ : Expr} {rest : List Expr} {fs : List DE} (h : PJ X (v₁ :: v₂ :: rest) fs) : PE X (.JoinedStr (v₁ :: v₂ :: rest) pos) (tD X (dJoin fs)) := by
  intro pins s σ H Q I hq
  obtain ⟨P, α, env, S, r, re, af⟩ := hq
  exact JoinedStr_many (h Str.empty pins s σ H P α env S Q I r re af)
end
end DL
end

-- Dz2
section
set_option Elab.async false
set_option linter.all false
set_option maxRecDepth 100000
namespace DL
open PySem PySem.Spec PyProof.Rows L2
section
variable {prog : Program} {w : World} {A : Around} {E : Value → Shared → Prop} {s : Shared}
/-- one of the two has ended -/
theorem zip_stop {tp tq : Bool} {z I O i j a b : Addr} {k : Nat} {xs ys : Array Value} {p q : Value} {Q : Fin → Shared → Prop} (hh : A.handled = none) (D : ZA z I O i j) (Da : Off z O i j a) (Db : Off z O i j b)
    (hz : IsZip s.heap z I O .none) (hI : IsPair s.heap I (.ref i) (.ref j)) (hO : IsPair s.heap O p q) (h1 : IterAt tp s.heap i a k) (h2 : IterAt tq s.heap j b k) (ha : SeqIs tp s.heap a xs) (hb : SeqIs tq s.heap b ys) (hend : xs[k]? = none ∨ ys[k]? = none)
    (hE : ∀ h' e, Four z O i j s.heap h' → (∃ o, h'.get? e = some o ∧ o.cls = .type "StopIteration") → E (.ref e) { s with heap := h' }) : wpAny (model prog w) A (Builtin.«zip.__next__» ⟨[.ref z], []⟩) Q E s := by
  show wpAny _ _ (field (.ref z) 2 >>= _) _ _ _; refine wpAny_bind (wpAny_field hz rfl (x := .bool false) rfl ?_)
  show wpAny _ _ (field (.ref z) 3 >>= _) _ _ _; refine wpAny_bind (wpAny_field hz rfl (x := .ref I) rfl (wpAny_bind (wpAny_seqItems hI rfl ?_)))
  show wpAny _ _ (Builtin.SmallTypes.ownedTupleIsFree (.ref z) >>= _) _ _ _; refine wpAny_bind ?_
  unfold Builtin.SmallTypes.ownedTupleIsFree; refine wpAny_bind (wpAny_field hz rfl (x := .none) rfl (wpAny_pure ?_))
  simp only [if_true]; refine wpAny_bind (wpAny_rule (wpAny_bind (wpAny_field hz rfl (x := .ref O) rfl (wpAny_bind (wpAny_setField_rec hz (by simp) fun g1 z1 s1 => ?_)))))
  replace z1 : IsZip g1 z I O .ellipsis := z1
  refine wpAny_bind ?_; simp only [List.zipIdx_cons, List.zipIdx_nil, List.forIn_cons, List.forIn_nil]
  refine wpAny_bind (wpAny_bind (wpAny_onRaise ?_)); show wpAny _ _ (Builtin.SmallTypes.nextOf (.ref i) >>= _) _ _ _
  have it1 : IterAt tp g1 i a k := h1.keep fun o e => s1.extBut _ _ D.iz e
  have sq1 : SeqIs tp g1 a xs := ha.keep fun o e => s1.extBut _ _ Da.z e
  cases hx : xs[k]? with
  | none =>
    refine wpAny_bind (next_any_end hh it1 sq1 hx fun g2 e x2 he => ?_)
    obtain ⟨oe, h3, h4⟩ := he
    have z2 : IsZip g2 z I O .ellipsis := x2 _ _ D.iz.symm z1
    have ne : e ≠ z := fun y => by subst y; rw [z2] at h3; cases h3; simp at h4
    exact wpAny_setField_rec z2 (by simp) fun g3 _ s3 => hE g3 e (fun c o c1 _ c3 _ y => s3.extBut _ _ c1 (x2 _ _ c3 (s1.extBut _ _ c1 y))) ⟨oe, s3.extBut _ _ ne h3, h4⟩
  | some x =>
    have hy : ys[k]? = none := by
      rcases hend with y | y
      · rw [hx] at y; cases y
      · exact y
    refine wpAny_bind (next_any it1 sq1 hx fun g2 i2 s2 => wpAny_pure ?_)
    have O2 : IsPair g2 O p q := s2.extBut _ _ D.Oi (s1.extBut _ _ D.Oz hO)
    refine wpAny_bind (wpAny_seqItems O2 rfl (wpAny_bind (wpAny_updateSeq_pair O2 fun g3 O3 s3 => wpAny_bind (wpAny_letGo (wpAny_pure ?_)))))
    refine wpAny_bind (wpAny_bind (wpAny_onRaise ?_)); show wpAny _ _ (Builtin.SmallTypes.nextOf (.ref j) >>= _) _ _ _
    refine wpAny_bind (next_any_end hh (h2.keep fun o e => s3.extBut _ _ D.Oj.symm (s2.extBut _ _ D.ij.symm (s1.extBut _ _ D.jz e))) (hb.keep fun o e => s3.extBut _ _ Db.O (s2.extBut _ _ Db.i (s1.extBut _ _ Db.z e))) hy fun g4 e x4 he => ?_)
    obtain ⟨oe, h3, h4⟩ := he
    have z4 : IsZip g4 z I O .ellipsis := x4 _ _ D.jz.symm (s3.extBut _ _ D.Oz.symm (s2.extBut _ _ D.iz.symm z1))
    have ne : e ≠ z := fun y => by subst y; rw [z4] at h3; cases h3; simp at h4
    exact wpAny_setField_rec z4 (by simp) fun g5 _ s5 => hE g5 e (fun c o c1 c2 c3 c4 y => s5.extBut _ _ c1 (x4 _ _ c4 (s3.extBut _ _ c2 (s2.extBut _ _ c3 (s1.extBut _ _ c1 y))))) ⟨oe, s5.extBut _ _ ne h3, h4⟩
abbrev itObj (tp : Bool) (l : Addr) : Obj := { cls := .type (if tp then "tuple_iterator" else "list_iterator"), data := .fields #[.ref l, .int 0 0] }
abbrev zh1 (tp : Bool) (h : Heap) (a : Addr) : Heap := h.push (itObj tp a)
abbrev zh2 (tp tq : Bool) (h : Heap) (a b : Addr) : Heap := (zh1 tp h a).push (itObj tq b)
abbrev zh3 (tp tq : Bool) (h : Heap) (a b : Addr) : Heap := (zh2 tp tq h a b).push { cls := .type "tuple", data := .seq #[.ref h.objs.size, .ref (zh1 tp h a).objs.size] }
abbrev zh4 (tp tq : Bool) (h : Heap) (a b : Addr) : Heap := (zh3 tp tq h a b).push { cls := .type "tuple", data := .seq #[.none, .none] }
abbrev zh5 (tp tq : Bool) (h : Heap) (a b : Addr) : Heap := (zh4 tp tq h a b).push { cls := .type "zip", data := .fields #[.none, .bool false, .bool false, .ref (zh2 tp tq h a b).objs.size, .ref (zh3 tp tq h a b).objs.size] }
set_option maxHeartbeats 4000000 in
theorem zip_new (tp : Bool) (a b : Addr) (xs ys : Array Value) :
    Meets (Builtin.«zip.__new__» ⟨[.type "zip", .ref a, .ref b], []⟩) (fun _ R s => SeqIs tp s.heap a xs ∧ SeqIs tp s.heap b ys ∧ R (.ok (.ret (.ref (zh4 tp tp s.heap a b).objs.size))) { s with heap := zh5 tp tp s.heap a b }) :=
  .of_wp fun prog w A R s h => by
    obtain ⟨hp, g, d, tk, os⟩ := s
    obtain ⟨q1, q2, h⟩ := h
    have hsub := sub_zip
    have e2 : ∀ ob : Obj, SeqIs tp (hp.push ob) b ys := fun ob => q2.keep fun o e => Heap.get?_push_of_some _ e
    cases tp
    · have l1 : Heap.IsList (Shared.heap ⟨hp, g, d, tk, os⟩) a xs := q1
      have l2 : Heap.IsList (Shared.heap ⟨hp.push { cls := .type "list_iterator", data := .fields #[.ref a, .int 0 0] }, g, d, tk, os⟩) b ys := e2 _
      wp_walk using wpAny_pyIter_list l1, wpAny_pyIter_list l2
      exact ⟨_, rfl, h⟩
    · have l1 : Heap.IsTuple (Shared.heap ⟨hp, g, d, tk, os⟩) a xs := q1
      have l2 : Heap.IsTuple (Shared.heap ⟨hp.push { cls := .type "tuple_iterator", data := .fields #[.ref a, .int 0 0] }, g, d, tk, os⟩) b ys := e2 _
      wp_walk using wpAny_pyIter_tuple l1, wpAny_pyIter_tuple l2
      exact ⟨_, rfl, h⟩
theorem iterAt_new {tp : Bool} {h : Heap} {it l : Addr} (e : h.get? it = some (itObj tp l)) : IterAt tp h it l 0 := by
  cases tp
  · exact ⟨_, e, rfl, rfl⟩
  · exact ⟨_, e, rfl, rfl⟩
theorem call_zip {tp : Bool} {a b : Addr} {xs ys : Array Value} {Q : Value → Shared → Prop} (ha : SeqIs tp s.heap a xs) (hb : SeqIs tp s.heap b ys)
    (h : ∀ h', IsZip h' (s.heap.objs.size + 4) (s.heap.objs.size + 2) (s.heap.objs.size + 3) .none → IsPair h' (s.heap.objs.size + 2) (.ref s.heap.objs.size) (.ref (s.heap.objs.size + 1)) →
      IsPair h' (s.heap.objs.size + 3) .none .none → IterAt tp h' s.heap.objs.size a 0 → IterAt tp h' (s.heap.objs.size + 1) b 0 → h'.objs.size = s.heap.objs.size + 5 → (∀ c o, s.heap.get? c = some o → h'.get? c = some o) → Q (.ref (s.heap.objs.size + 4)) { s with heap := h' }) :
    wpAny (model prog w) A (call (.type "zip") [.ref a, .ref b]) Q E s := by
  refine callType_new F.called_zip (by decide) (F.typeCall_zip_2 _ _) (F.newCall_zip_2 _ _) (fun obj => F.args_object_init_3 obj _ _) F.entry_zip_new (zip_new tp a b xs ys) ⟨ha, hb, ?_⟩
  have y1 : (zh1 tp s.heap a).objs.size = s.heap.objs.size + 1 := Heap.size_push ..
  have y2 : (zh2 tp tp s.heap a b).objs.size = s.heap.objs.size + 2 := by rw [Heap.size_push, y1]
  have y3 : (zh3 tp tp s.heap a b).objs.size = s.heap.objs.size + 3 := by rw [Heap.size_push, y2]
  have y4 : (zh4 tp tp s.heap a b).objs.size = s.heap.objs.size + 4 := by rw [Heap.size_push, y3]
  have y5 : (zh5 tp tp s.heap a b).objs.size = s.heap.objs.size + 5 := by rw [Heap.size_push, y4]
  have g5 : (zh5 tp tp s.heap a b).get? (zh4 tp tp s.heap a b).objs.size = some _ := Heap.get?_push_size _ rfl
  have g4 : (zh5 tp tp s.heap a b).get? (zh3 tp tp s.heap a b).objs.size = some _ := Heap.get?_push_of_some _ (Heap.get?_push_size _ rfl)
  have g3 : (zh5 tp tp s.heap a b).get? (zh2 tp tp s.heap a b).objs.size = some _ := Heap.get?_push_of_some _ (Heap.get?_push_of_some _ (Heap.get?_push_size _ rfl))
  have g2 : (zh5 tp tp s.heap a b).get? (zh1 tp s.heap a).objs.size = some (itObj tp b) := Heap.get?_push_of_some _ (Heap.get?_push_of_some _ (Heap.get?_push_of_some _ (Heap.get?_push_size _ rfl)))
  have g1 : (zh5 tp tp s.heap a b).get? s.heap.objs.size = some (itObj tp a) := Heap.get?_push_of_some _ (Heap.get?_push_of_some _ (Heap.get?_push_of_some _ (Heap.get?_push_of_some _ (Heap.get?_push_size _ rfl))))
  have kp : ∀ c o, s.heap.get? c = some o → (zh5 tp tp s.heap a b).get? c = some o := fun c o e => Heap.get?_push_of_some _ (Heap.get?_push_of_some _ (Heap.get?_push_of_some _ (Heap.get?_push_of_some _ (Heap.get?_push_of_some _ e))))
  show _ ∧ _
  rw [y2, y3, y4] at g5
  rw [y1, y2] at g3
  rw [y3] at g4
  rw [y1] at g2
  rw [y4]
  exact ⟨⟨_, g5, rfl⟩, h _ g5 g3 g4 (iterAt_new g1) (iterAt_new g2) y5 kp⟩
end
end DL
end

-- Dz3
section
set_option Elab.async false
set_option linter.all false
set_option maxRecDepth 100000
namespace DL
open PySem PySem.Spec PyProof.Rows L2
def Sq (tp : Bool) (K : PySem.W.Frag) (H : Hp) (a : Addr) (xs : List V) : Prop := if tp then SqT K H a xs else SqL K H a xs
section
variable {X : Cx} {pins : List (Addr × Obj)} {σ : L2.St} {H : Hp} {s : Shared}
theorem Sq.at {tp : Bool} {a : Addr} {xs : List V} (I : Inv X pins σ H s) (q : Sq tp X.K H a xs) : ∃ its, Vals xs its ∧ SeqIs tp s.heap a its.toArray := by
  cases tp with
  | true =>
    obtain ⟨its, rv, p, _⟩ := I.tuple q
    exact ⟨its, rv, p⟩
  | false =>
    obtain ⟨its, rv, p, _⟩ := I.list q
    exact ⟨its, rv, p.isList⟩
theorem Sq.inj {tp : Bool} {a : Addr} {xs ys : List V} (I : Inv X pins σ H s) (q : Sq tp X.K H a xs) (q' : Sq tp X.K H a ys) : xs = ys := by
  cases tp with
  | true => exact I.tuple_inj q q'
  | false => exact I.list_inj q q'
theorem Sq.off {tp : Bool} {a b : Addr} {xs : List V} (I : Inv X pins σ H s) (q : Sq tp X.K H a xs) (f : FpOk X pins H b) : a ≠ b := by
  have key : H a ≠ none ∨ ∃ o, X.K.lookup a = some o := by
    cases tp with
    | true =>
      rcases q with (q | ⟨o, q⟩) | ⟨o, _, _, q, _⟩
      · exact .inl (by rw [q]; intro z; cases z)
      · exact .inl (by rw [q]; intro z; cases z)
      · exact .inr ⟨_, q⟩
    | false =>
      rcases q with (q | ⟨o, q⟩) | ⟨o, _, _, q, _⟩
      · exact .inl (by rw [q]; intro z; cases z)
      · exact .inl (by rw [q]; intro z; cases z)
      · exact .inr ⟨_, q⟩
  rintro rfl
  rcases key with k | ⟨o, k⟩
  · exact k f.1
  · have e := I.mod.kin a o k
    rcases f.2.2.2.1 with z | z
    · exact I.ok.noex a o e z
    · exact absurd (Heap.lt_size (I.ok.bs a o e).1) (Nat.not_lt.mpr z)
/-- records of ours have turned, and a new tuple has been laid -/
theorem Inv.turnLay {fp : List Addr} {h' : Heap} {T : Addr} {xs : List V} {its : List Value} (I : Inv X pins σ H s) (hf : ∀ b ∈ fp, FpOk X pins H b) (k : ∀ b o, b ∉ fp → s.heap.get? b = some o → h'.get? b = some o) (th : ∀ b ∈ fp, ∃ o, h'.get? b = some o)
    (hT : s.heap.objs.size ≤ T) (rv : Vals xs its) (hx : IsTup h' T its.toArray) (hz : xs.length ≤ sizeLine) : Inv X pins σ (upd H T (.tup xs)) { s with heap := h' } := by
  have hn : H T = none := I.hok.fresh hT
  have ne : ∀ b o, s.heap.get? b = some o → b ≠ T := fun b o e => Nat.ne_of_lt (Nat.lt_of_lt_of_le (Heap.lt_size e) hT)
  refine I.step (g' := s.gens) (d' := s.drawn) (t' := s.toks) (ch := fp) (fun b hb => ⟨(hf b hb).2.2.2.1, (hf b hb).2.1, (hf b hb).2.2.2.2.1, (hf b hb).2.2.2.2.2⟩) (fun b o _ _ hc e _ => k b o hc e) (fun b o _ _ hc e _ => ⟨o.slots, k b o hc e⟩)
    (fun b o _ e n => by rw [upd_ne (ne b o e)]; exact n) (fun b o hc e => ⟨o, k b o hc e⟩) (fun b ys e => by rw [upd_ne (ne_of_none e hn)]; exact e) (fun b o u e => by rw [upd_ne (ne_of_none e hn)]; exact e)
    (fun b ps e => ⟨#[], by rw [upd_ne (ne_of_none e hn), e]; simp⟩) (fun m hm => ?_) (fun b u e => ?_) I.bare
  · obtain ⟨o, es, ep, ho, r⟩ := hm
    exact ⟨o, es, ep, k _ o (fun z => (hf _ z).2.1 rfl) ho, r⟩
  · by_cases hb : b = T
    · subst hb
      rw [upd_same] at e; cases e
      exact ⟨hz, its, rv, hx⟩
    · rw [upd_ne hb] at e
      refine (I.hok b u e).stay (fun c v hc q => k c v (fun z => ?_) q) (fun c q => by rw [upd_ne (ne_of_none q hn)]; exact q) fun c ys q => by rw [upd_ne (ne_of_none q hn)]; exact q
      have hcn := (hf c z).1
      rcases hc with rfl | hc
      · rw [hcn] at e; cases e
      · rw [hcn] at hc; cases hc
theorem Inv.turnL {fp : List Addr} {h' : Heap} (I : Inv X pins σ H s) (hf : ∀ b ∈ fp, FpOk X pins H b) (k : ∀ b o, b ∉ fp → s.heap.get? b = some o → h'.get? b = some o) : Inv X pins σ H { s with heap := h' } := by
  refine I.step (g' := s.gens) (d' := s.drawn) (t' := s.toks) (ch := fp) (fun b hb => ⟨(hf b hb).2.2.2.1, (hf b hb).2.1, (hf b hb).2.2.2.2.1, (hf b hb).2.2.2.2.2⟩) (fun b o _ _ hc e _ => k b o hc e) (fun b o _ _ hc e _ => ⟨o.slots, k b o hc e⟩)
    (fun b o _ e n => n) (fun b o hc e => ⟨o, k b o hc e⟩) (fun b ys e => e) (fun b o u e => e) (fun b ps e => ⟨#[], by rw [e]; simp⟩) (fun m hm => ?_) (fun b u e => ?_) I.bare
  · obtain ⟨o, es, ep, ho, r⟩ := hm
    exact ⟨o, es, ep, k _ o (fun z => (hf _ z).2.1 rfl) ho, r⟩
  · refine (I.hok b u e).stay (fun c v hc q => k c v (fun z => ?_) q) (fun c q => q) fun c ys q => q
    have hcn := (hf c z).1
    rcases hc with rfl | hc
    · rw [hcn] at e; cases e
    · rw [hcn] at hc; cases hc
end
def Itz (tp : Bool) (K : PySem.W.Frag) (a b : Addr) : It :=
  ⟨fun i H => ∃ xs ys x y, Sq tp K H a xs ∧ Sq tp K H b ys ∧ xs[i]? = some x ∧ ys[i]? = some y,
   fun i H v H' => ∃ T x y, v = .ref T ∧ H T = none ∧ H' = upd H T (.tup [x, y]) ∧ (∀ xs, Sq tp K H a xs → xs[i]? = some x) ∧ ∀ ys, Sq tp K H b ys → ys[i]? = some y,
   fun i H => ∃ xs ys, Sq tp K H a xs ∧ Sq tp K H b ys ∧ (xs.length ≤ i ∨ ys.length ≤ i)⟩
def ZipAt (tp : Bool) (z I O i j a b : Addr) (k : Nat) (h : Heap) : Prop := ∃ p q, IsZip h z I O .none ∧ IsPair h I (.ref i) (.ref j) ∧ IsPair h O p q ∧ IterAt tp h i a k ∧ IterAt tp h j b k
theorem turn_zip {P : Program} {w : World} {K : PySem.W.Frag} {elts : List Expr} {x1 : Nat} {tpos : Pos} {tp : Bool} {z I O i j a b : Addr} (D : ZA z I O i j) : Turn P w K (.Tuple elts x1 tpos) (Itz tp K a b) [z, I, O, i, j] z (ZipAt tp z I O i j a b) where
  mem := by simp
  obj := fun k h st c hc => by
    obtain ⟨p, q, s1, s2, s3, s4, s5⟩ := st
    simp only [List.mem_cons, List.not_mem_nil, or_false] at hc
    rcases hc with rfl | rfl | rfl | rfl | rfl
    · exact ⟨_, s1, fun v y => by cases y⟩
    · exact ⟨_, s2, fun v y => by cases y⟩
    · exact ⟨_, s3, fun v y => by cases y⟩
    · exact s4.there
    · exact s5.there
  keep := fun k h h' st kp => by
    obtain ⟨p, q, s1, s2, s3, s4, s5⟩ := st
    exact ⟨p, q, kp z (by simp) _ s1, kp I (by simp) _ s2, kp O (by simp) _ s3, s4.keep fun o e => kp i (by simp) o e, s5.keep fun o e => kp j (by simp) o e⟩
  item := by
    intro X hP hw hK hc k pins s σ H E Iv hf st hg
    subst hP hw hK
    obtain ⟨p, q, s1, s2, s3, s4, s5⟩ := st
    obtain ⟨xs, ys, x, y, qa, qb, hx, hy⟩ := hg
    obtain ⟨ia, ra, ha⟩ := qa.at Iv
    obtain ⟨ib, rb, hb⟩ := qb.at Iv
    obtain ⟨u, hu, ru⟩ := ra.get hx
    obtain ⟨u', hu', ru'⟩ := rb.get hy
    have off : ∀ {c : Addr} {zs : List V}, Sq tp X.K H c zs → Off z O i j c := fun {c zs} qc => ⟨qc.off Iv (hf z (by simp)), qc.off Iv (hf O (by simp)), qc.off Iv (hf i (by simp)), qc.off Iv (hf j (by simp))⟩
    have hT : s.TypeIs (.ref z) "zip" := ⟨_, s1, rfl⟩
    unfold pyNext
    refine wpAny_bind (wpAny_attempt (wpAny_callSpecial?_slot (name := Str.ofString "__next__") hT F.slot_zip_next (wpAny_call_entry F.slot_zip_next hT F.entry_zip_next
      (zip_item D (off qa) (off qb) s1 s2 s3 s4 s5 ha hb (by simpa using hu) (by simpa using hu') fun h' a1 a2 a3 a4 a5 a6 a7 => wpAny_pure ?_) (F.args_zip_next_1 _))))
    refine ⟨_, rfl, wpAny_letOwnedTupleGo_zip (s := { s with heap := h' }) a1 fun h2 b1 b2 => ?_⟩
    have up : ∀ c o, c ≠ z → h'.get? c = some o → h2.get? c = some o := fun c o n e => (b2.2 c n).trans e
    have zl : z < s.heap.objs.size := Heap.lt_size s1
    have T2 : IsPair h2 s.heap.objs.size u u' := up _ _ (Nat.ne_of_gt zl) a5
    have st2 : ZipAt tp z I O i j a b (k + 1) h2 := ⟨u, u', b1, up _ _ D.Iz (a7 I _ D.Iz D.IO D.Ii D.Ij s2), up _ _ D.Oz a2, a3.keep fun o e => up _ o D.iz e, a4.keep fun o e => up _ o D.jz e⟩
    refine ⟨.ref s.heap.objs.size, upd H s.heap.objs.size (.tup [x, y]), ?_, rfl, ⟨_, x, y, rfl, Iv.hok.fresh (Nat.le_refl _), rfl, fun zs qz => by rw [qz.inj Iv qa]; exact hx, fun zs qz => by rw [qz.inj Iv qb]; exact hy⟩, st2, fun c hc => ?_⟩
    · show L2.Inv X pins σ (upd H s.heap.objs.size (.tup [x, y])) { s with heap := h2 }
      refine Inv.turnLay (fp := [z, I, O, i, j]) (its := [u, u']) Iv hf (fun c o hc e => ?_) (fun c hc => ?_) (Nat.le_refl _) (.cons ru (.cons ru' .nil)) ⟨_, T2, rfl, _, rfl⟩ (by show 2 ≤ sizeLine; decide)
      · simp only [List.mem_cons, List.not_mem_nil, or_false, not_or] at hc
        exact up c o hc.1 (a7 c o hc.1 hc.2.2.1 hc.2.2.2.1 hc.2.2.2.2 e)
      · obtain ⟨p', q', t1, t2, t3, t4, t5⟩ := st2
        simp only [List.mem_cons, List.not_mem_nil, or_false] at hc
        rcases hc with rfl | rfl | rfl | rfl | rfl
        · exact ⟨_, t1⟩
        · exact ⟨_, t2⟩
        · exact ⟨_, t3⟩
        · obtain ⟨o, e, _⟩ := t4.there; exact ⟨o, e⟩
        · obtain ⟨o, e, _⟩ := t5.there; exact ⟨o, e⟩
    · have hn := (hf c hc).1
      rw [upd_ne ?_]
      · exact hn
      · rintro rfl
        obtain ⟨o, e, _⟩ : ∃ o, s.heap.get? s.heap.objs.size = some o ∧ True := by
          simp only [List.mem_cons, List.not_mem_nil, or_false] at hc
          rcases hc with e | e | e | e | e
          · exact ⟨_, e ▸ s1, trivial⟩
          · exact ⟨_, e ▸ s2, trivial⟩
          · exact ⟨_, e ▸ s3, trivial⟩
          · obtain ⟨o, e', _⟩ := s4.there; exact ⟨o, e ▸ e', trivial⟩
          · obtain ⟨o, e', _⟩ := s5.there; exact ⟨o, e ▸ e', trivial⟩
        exact absurd (Heap.lt_size e) (Nat.lt_irrefl _)
  done := by
    intro X hP hw hK hc k pins s σ H E Iv hf st hg
    subst hP hw hK
    obtain ⟨p, q, s1, s2, s3, s4, s5⟩ := st
    obtain ⟨xs, ys, qa, qb, hend⟩ := hg
    obtain ⟨ia, ra, ha⟩ := qa.at Iv
    obtain ⟨ib, rb, hb⟩ := qb.at Iv
    have off : ∀ {c : Addr} {zs : List V}, Sq tp X.K H c zs → Off z O i j c := fun {c zs} qc => ⟨qc.off Iv (hf z (by simp)), qc.off Iv (hf O (by simp)), qc.off Iv (hf i (by simp)), qc.off Iv (hf j (by simp))⟩
    have hT : s.TypeIs (.ref z) "zip" := ⟨_, s1, rfl⟩
    have l1 := ra.length
    have l2 := rb.length
    unfold pyNext
    refine wpAny_bind (wpAny_attempt (wpAny_callSpecial?_slot (name := Str.ofString "__next__") hT F.slot_zip_next (wpAny_call_entry F.slot_zip_next hT F.entry_zip_next
      (zip_stop (Iv.ok.hd hc) D (off qa) (off qb) s1 s2 s3 s4 s5 ha hb ?_ fun h' e kp he => ?_) (F.args_zip_next_1 _))))
    · rcases hend with y | y
      · exact .inl (by simp; omega)
      · exact .inr (by simp; omega)
    · obtain ⟨o, ho, hcl⟩ := he
      refine wpAny_bind (wpAny_isInstance (T := "StopIteration") (b := true) ⟨o, ho, hcl⟩ isSubtype_stop (wpAny_pure ⟨rfl, Inv.turnL (fp := [z, I, O, i, j]) Iv hf fun c o hc e => ?_⟩))
      simp only [List.mem_cons, List.not_mem_nil, or_false, not_or] at hc
      exact kp c o hc.1 hc.2.2.1 hc.2.2.2.1 hc.2.2.2.2 e
  self := fun _ _ _ _ _ st h => by
    obtain ⟨p, q, s1, _⟩ := st
    exact wpAny_pyIter_zip s1 h
end DL
end

-- Dz4
section
set_option Elab.async false
set_option linter.all false
set_option maxRecDepth 100000
namespace DL
open PySem PySem.Spec PyProof.Rows L2
def zipD (xs ys : List D) : List D := List.zipWith (fun x y => D.tup [x, y]) xs ys
def zipI (ds : List D) : Option (List D) := match ds with
  | [.tup xs, .tup ys] => some (zipD xs ys)
  | [.lst xs, .lst ys] => some (zipD xs ys)
  | _ => none
def dZip (f : DA) : DI := fun env S => (f env S).bind fun ds S1 => resO (zipI ds) S1
theorem zipD_get {xs ys : List D} {i : Nat} : (zipD xs ys)[i]? = match xs[i]?, ys[i]? with | some x, some y => some (D.tup [x, y]) | _, _ => none := by
  unfold zipD
  rw [List.getElem?_zipWith]
  cases xs[i]? <;> cases ys[i]? <;> rfl
theorem zipD_len (xs ys : List D) : (zipD xs ys).length = min xs.length ys.length := by simp [zipD]
section
variable {K : PySem.W.Frag}
theorem Sq.mono {tp : Bool} {P P' : Hp} (e : Same P P') {a : Addr} {xs : List V} (q : Sq tp K P a xs) : Sq tp K P' a xs := by
  cases tp with
  | true => exact sqT_mono e q
  | false => exact e.seq q
theorem itd_zip {tp : Bool} {P : Hp} {α : List Addr} {a b : Addr} {xs ys : List D} {vs ws : List V} (qa : Sq tp K P a vs) (qb : Sq tp K P b ws) (ta : Reps K P α xs vs) (tb : Reps K P α ys ws) : ItD K (Itz tp K a b) P α (zipD xs ys) where
  go := fun i H P1 α1 S hi r e _ => by
    rw [zipD_len] at hi
    have h1 : i < vs.length := by rw [← ta.length]; omega
    have h2 : i < ws.length := by rw [← tb.length]; omega
    exact ⟨vs, ws, vs[i], ws[i], qa.mono (e.trans r.sub), qb.mono (e.trans r.sub), by simp, by simp⟩
  yld := fun i H x H' P1 α1 S hi r e e2 y => by
    obtain ⟨T, u, w, rfl, hT, rfl, hu, hw⟩ := y
    rw [zipD_len] at hi
    have h1 : i < xs.length := by omega
    have h2 : i < ys.length := by omega
    obtain ⟨v1, z1, p1⟩ := ta.get (List.getElem?_eq_getElem h1)
    obtain ⟨v2, z2, p2⟩ := tb.get (List.getElem?_eq_getElem h2)
    have eu := hu vs (qa.mono (e.trans r.sub))
    have ew := hw ws (qb.mono (e.trans r.sub))
    rw [z1] at eu; cases eu
    rw [z2] at ew; cases ew
    obtain ⟨r1, s1⟩ := r.pure (o := .tup [u, w]) hT
    refine ⟨_, .tup [xs[i], ys[i]], ?_, r1, s1, ?_⟩
    · rw [zipD_get, List.getElem?_eq_getElem h1, List.getElem?_eq_getElem h2]
    · exact rep_tup (.of upd_same) (.cons (Rep.mono (e.trans s1) e2 _ _ p1) (.cons (Rep.mono (e.trans s1) e2 _ _ p2) .nil))
  stop := fun i H P1 α1 S hi r e _ => by
    rw [zipD_len] at hi
    have l1 := ta.length
    have l2 := tb.length
    exact ⟨vs, ws, qa.mono (e.trans r.sub), qb.mono (e.trans r.sub), by omega⟩
end
section
variable {X : Cx} {e1 e2 : Expr} {elts : List Expr} {x1 : Nat} {tpos : Pos} {f : DA} {p pos : Pos}
theorem zip_it {tp : Bool} {pins : List (Addr × Obj)} {σ : L2.St} {H P : Hp} {α : List Addr} {S : Sto} {s : Shared} {a b : Addr} {xs ys : List D} {vs ws : List V} {R : It → Hp → Prop} (I : Inv X pins σ H s) (r : Rel X.K H P α S) (qa : Sq tp X.K P a vs) (qb : Sq tp X.K P b ws) (ta : Reps X.K P α xs vs) (tb : Reps X.K P α ys ws)
    (q : OkI X P α R (zipD xs ys) S) : wpAny (model X.prog X.w) X.A (call (.type "zip") [.ref a, .ref b]) (fun v s1 => wpAny (model X.prog X.w) X.A (pyIter v) (PIE X pins σ (.Tuple elts x1 tpos) R) X.xe s1) X.xe s := by
  obtain ⟨ia, ra, ha⟩ := (qa.mono r.sub).at I
  obtain ⟨ib, rb, hb⟩ := (qb.mono r.sub).at I
  refine call_zip ha hb fun h' z1 z2 z3 z4 z5 z6 z7 => ?_
  refine wpAny_pyIter_zip (s := { s with heap := h' }) z1 ?_
  have D : ZA (s.heap.objs.size + 4) (s.heap.objs.size + 2) (s.heap.objs.size + 3) s.heap.objs.size (s.heap.objs.size + 1) := by constructor <;> (intro z; simp at z)
  refine ⟨_, [s.heap.objs.size + 4, s.heap.objs.size + 2, s.heap.objs.size + 3, s.heap.objs.size, s.heap.objs.size + 1], _, _, H, rfl, I.kept (t' := s.toks) z7, turn_zip (a := a) (b := b) D, ⟨_, _, z1, z2, z3, z4, z5⟩, fun c hc => ?_, q _ _ P α r (Same.refl _) (List.prefix_refl _) (itd_zip qa qb ta tb)⟩
  have hl : s.heap.objs.size ≤ c := by
    simp only [List.mem_cons, List.not_mem_nil, or_false] at hc
    rcases hc with rfl | rfl | rfl | rfl | rfl <;> simp
  exact I.fpOk hl (I.hok.fresh hl)
theorem di_zip (hg : Gl X "zip") (hm : X.mg "zip" = none) (ha : PA X [e1, e2] (tDA X f)) (hs : starEach [e1, e2] X.env = (false, eval e1 X.env) :: starEach [e2] X.env := by rfl) (hpl : (backTo pos (starEach [e2] X.env)).any (·.1) = false := by rfl) :
    PI X (.Tuple elts x1 tpos) (.Call (.Name "zip" p) [e1, e2] [] pos) (tDI X (dZip f)) := by
  intro pins s σ H R I h
  obtain ⟨P, α, env, S, r, re, af⟩ := h
  refine Call_ (ld_blt I hg hm boot_zip (PyProof.Rows.callWith_type1 (thn (dThenA ha I r re af pos) fun us s1 ⟨vs, H1, P1, α1, ds, S1, I1, rv, r1, re1, rp, e1, e2, af1⟩ => ?_) hs hpl))
  obtain ⟨its, hi, q⟩ := resO_ok af1
  unfold zipI at hi
  split at hi
  · rename_i xs ys
    cases hi
    obtain ⟨v, w, u, x, rfl, rfl, p1, p2, q1, q2⟩ := reps2 rp rv
    simp only [Rep] at p1 p2
    obtain ⟨a, va, rfl, qa, ta⟩ := p1
    obtain ⟨b, vb, rfl, qb, tb⟩ := p2
    cases (show u = Value.ref a from q1)
    cases (show x = Value.ref b from q2)
    exact zip_it (tp := true) I1 r1 qa qb ta tb (q.base e1 e2)
  · rename_i xs ys
    cases hi
    obtain ⟨v, w, u, x, rfl, rfl, p1, p2, q1, q2⟩ := reps2 rp rv
    simp only [Rep] at p1 p2
    obtain ⟨a, va, rfl, qa, ta⟩ := p1
    obtain ⟨b, vb, rfl, qb, tb⟩ := p2
    cases (show u = Value.ref a from q1)
    cases (show x = Value.ref b from q2)
    exact zip_it (tp := false) I1 r1 qa.l qb.l ta tb (q.base e1 e2)
  · cases hi
end
end DL
end

-- Dg
section
set_option Elab.async false
set_option linter.all false
set_option maxRecDepth 100000
namespace DL
open PySem PySem.Spec PyProof.Rows L2
/-- a def of the text, as the top has made it -/
def Src (K : PySem.W.Frag) (mg : Str → Option Value) (x : Str) (st : Stmt) (ps : List Str) : Prop := ∃ f fd, mg x = some (.ref f) ∧ Fun K x x st f fd ∧ Binds K fd ps []
/-- which function stands there -/
def Lk (K : PySem.W.Frag) (f : Addr) (fd : FuncData) : Prop := ∃ oc od osl, K.lookup f = some ⟨oc, od, .func fd, osl⟩
theorem lk_of {K : PySem.W.Frag} {x q : Str} {st : Stmt} {f : Addr} {fd : FuncData} (F : Fun K x q st f fd) : Lk K f fd := by
  obtain ⟨oc, od, kV, doc, pm, an, cdv, ct, osl, _, lk, _⟩ := F.ex
  exact ⟨oc, od, osl, lk⟩
theorem Lk.one {K : PySem.W.Frag} {f : Addr} {fd fd' : FuncData} (h : Lk K f fd) (h' : Lk K f fd') : fd = fd' := by
  obtain ⟨oc, od, osl, e⟩ := h
  obtain ⟨oc', od', osl', e'⟩ := h'
  rw [e] at e'
  cases e'
  rfl
/-- what a def does, by data -/
def Def (P : Program) (w : World) (K : PySem.W.Frag) (mg : Str → Option Value) (base : Heap) (cm : Bool) (k : Nat) (x : Str) (n : Nat) (F : DF) : Prop :=
  ∃ f fd ps, ps.length = n ∧ mg x = some (.ref f) ∧ PySem.W.keepIn K (.ref f) = true ∧ Binds K fd ps [] ∧ Lk K f fd ∧ FnX P w K mg base cm k f fd ps (spD K n F)
/-- the same with its parameters' names -/
def DefP (P : Program) (w : World) (K : PySem.W.Frag) (mg : Str → Option Value) (base : Heap) (cm : Bool) (k : Nat) (x : Str) (ps : List Str) (F : DF) : Prop :=
  ∃ f fd, mg x = some (.ref f) ∧ PySem.W.keepIn K (.ref f) = true ∧ Binds K fd ps [] ∧ Lk K f fd ∧ FnX P w K mg base cm k f fd ps (spD K ps.length F)
section
variable {P : Program} {w : World} {K : PySem.W.Frag} {mg : Str → Option Value} {base : Heap} {cm : Bool}
theorem def_of {x : Str} {st : Stmt} {N ps : List Str} {k : Nat} {g : DS} (h : Src K mg x st ps) (S : FnScope N ps (defScope st))
    (hbody : ∀ (f : Addr) (cdv : Value) (A : Around) (outer : List Env) (s : Shared) (H : Hp) (E : XK), RoomC cm k (A.deeper (envOfC x (defScope st) s.heap.objs.size f cdv)) →
      PSs (cxC cm P w K mg base N x (defScope st) f cdv A outer s H E) (defBody st) (tDS (cxC cm P w K mg base N x (defScope st) f cdv A outer s H E) g)) : Def P w K mg base cm (k + 1) x ps.length (runB N.length g) := by
  obtain ⟨f, fd, hm, F, hb⟩ := h
  exact ⟨f, fd, ps, rfl, hm, F.kp, hb, lk_of F, fnX F S fun cdv A outer s H E hr => hbody f cdv A outer s H E hr⟩
theorem def_ofP {x : Str} {st : Stmt} {N ps : List Str} {k : Nat} {g : DS} (h : Src K mg x st ps) (S : FnScope N ps (defScope st))
    (hbody : ∀ (f : Addr) (cdv : Value) (A : Around) (outer : List Env) (s : Shared) (H : Hp) (E : XK), RoomC cm k (A.deeper (envOfC x (defScope st) s.heap.objs.size f cdv)) →
      PSs (cxC cm P w K mg base N x (defScope st) f cdv A outer s H E) (defBody st) (tDS (cxC cm P w K mg base N x (defScope st) f cdv A outer s H E) g)) : DefP P w K mg base cm (k + 1) x ps (runB N.length g) := by
  obtain ⟨f, fd, hm, F, hb⟩ := h
  exact ⟨f, fd, hm, F.kp, hb, lk_of F, fnX F S fun cdv A outer s H E hr => hbody f cdv A outer s H E hr⟩
theorem Def.eq {x : Str} {k n : Nat} {F G : DF} (h : Def P w K mg base cm k x n F) (e : ∀ ds S, ds.length = n → G ds S ≠ .bad → F ds S = G ds S) : Def P w K mg base cm k x n G := by
  obtain ⟨f, fd, ps, hn, hm, hk, hb, hl, X⟩ := h
  exact ⟨f, fd, ps, hn, hm, hk, hb, hl, X.eq e⟩
theorem Def.mono {x : Str} {j k n : Nat} {F : DF} (h : Def P w K mg base cm j x n F) (hk : j ≤ k := by decide) : Def P w K mg base cm k x n F := by
  obtain ⟨f, fd, ps, hn, hm, kp, hb, hl, X⟩ := h
  exact ⟨f, fd, ps, hn, hm, kp, hb, hl, X.len, fun A outer s H args us vs Q E hr => X.run A outer s H args us vs Q E (hr.mono hk)⟩
theorem Def.any {x : Str} {k n : Nat} {F : DF} (h : Def P w K mg base false k x n F) : Def P w K mg base cm k x n F := by
  obtain ⟨f, fd, ps, hn, hm, kp, hb, hl, X⟩ := h
  exact ⟨f, fd, ps, hn, hm, kp, hb, hl, X.any⟩
end
section
variable {X : Cx} {cm : Bool} {k n : Nat} {F : DF} {x : Str} {p pos : Pos} {e : Expr} {es : List Expr} {fa : DA}
theorem dcN (G : Def X.prog X.w X.K X.mg X.base cm k x n F) (hr : RoomC cm k X.A) (hF : Fn1 X) (hg : Gl X x) (ha : PA X (e :: es) (tDA X fa)) (hdb : (x == ("__debug__" : Str)) = false := by decide) (he : starEach (e :: es) X.env = (false, eval e X.env) :: starEach es X.env := by rfl) (hpl : (backTo pos (starEach es X.env)).any (·.1) = false := by rfl) :
    PE X (.Call (.Name x p) (e :: es) [] pos) (tD X (dCall n F fa)) := by
  obtain ⟨f, fd, ps, hn, hm, kp, hb, hl, G⟩ := G
  exact de_call G hr hF hg hm kp hb ha hdb he hpl
theorem dcL (G : Def X.prog X.w X.K X.mg X.base cm k x n F) (hr : RoomC cm k X.A) (hF : Fn1 X) (hg : Gl X x) (ha : PA X (e :: es) (tDA X fa)) (hdb : (x == ("__debug__" : Str)) = false := by decide) (he : starEach (e :: es) X.env = (false, eval e X.env) :: starEach es X.env := by rfl) (hpl : (backTo pos (starEach es X.env)).any (·.1) = false := by rfl) :
    PE X (.Call (.Name x p) (e :: es) [] pos) (tD X (dCall n (lookF F) fa)) := by
  obtain ⟨f, fd, ps, hn, hm, kp, hb, hl, G⟩ := G
  exact de_callL G hr hF hg hm kp hb ha hdb he hpl
/-- a class of the text, by name -/
theorem de_cls {C : Addr} (hg : Gl X x) (hm : X.mg x = some (.ref C)) (hk : PySem.W.keepIn X.K (.ref C) = true) (hd : (x == ("__debug__" : Str)) = false := by decide) : PE X (.Name x pos) (tD X (dC (.obj C))) :=
  de_glob hg hm (v := .ref C) rfl (fun P α => by simp only [Rep]; exact ⟨trivial, hk⟩) hd
end
def fLenB : DF := fun ds S => match ds with
  | [.dct0] => .bad
  | _ => fLen ds S
theorem cd_lenB {X : Cx} : CallD X (.builtin "len") fLenB := cd_len trivial
/-- what no way of ours reaches -/
def dBad : DE := fun _ _ => .bad
theorem de_bad {X : Cx} {e : Expr} : PE X e (tD X dBad) := fun _ _ _ _ _ _ ⟨_, _, _, _, _, _, h⟩ => False.elim h
theorem cS_ex : ∃ C : Int → Int → Bool, C = cMul := ⟨_, rfl⟩
/-- cMul, shut: the kernel must not reckon with 2 ** 64 -/
noncomputable def cMulS : Int → Int → Bool := Classical.choose cS_ex
theorem cMulS_eq : cMulS = cMul := Classical.choose_spec cS_ex
noncomputable def gMulI : G2 := i2 cMulS fun i j => .int (i * j)
theorem od_mulS {X : Cx} : OpD X (binaryOp .Mult) gMulI := by
  unfold gMulI
  rw [cMulS_eq]
  exact od_mulI
theorem hu1 {cm : Bool} {k : Nat} {A : Around} (hr : RoomC cm k A) : A.units + 1 < cLine := by have := hr.units; omega
theorem bt_int : bootBuiltins "int" = some (.type "int") := by decide +kernel
theorem bt_bool : bootBuiltins "bool" = some (.type "bool") := by decide +kernel
theorem bt_tuple : bootBuiltins "tuple" = some (.type "tuple") := by decide +kernel
theorem bt_list : bootBuiltins "list" = some (.type "list") := by decide +kernel
theorem bt_str : bootBuiltins "str" = some (.type "str") := by decide +kernel
theorem bt_ValueError : bootBuiltins "ValueError" = some (.type "ValueError") := by decide +kernel
theorem bt_isinstance : bootBuiltins "isinstance" = some (.builtin "isinstance") := by decide +kernel
theorem bt_len : bootBuiltins "len" = some (.builtin "len") := by decide +kernel
end DL
end

-- De7
section
set_option Elab.async false
set_option linter.all false
set_option maxRecDepth 100000
namespace DL
open PySem PySem.Spec PyProof.Rows L2
section
variable {X : Cx}
end
end DL
end

-- Dq
section
set_option Elab.async false
set_option linter.all false
set_option maxRecDepth 100000
namespace DL
open PySem PySem.Spec PyProof.Rows L2
structure QE (X : Cx) (e : Expr) (f : DE) : Prop where
  get : PE X e (tD X f)
structure QT (X : Cx) (e : Expr) (t : DT) : Prop where
  get : PT X e (tDT X t)
structure QW (X : Cx) (e : Expr) (t : DT) : Prop where
  get : PWD X e t
structure QA (X : Cx) (es : List Expr) (f : DA) : Prop where
  get : PA X es (tDA X f)
structure QO (X : Cx) (e : Option Expr) (f : DO) : Prop where
  get : PO X e (tDO X f)
structure QG (X : Cx) (t : Expr) (g : DG) : Prop where
  get : PG X t (tDG X g)
structure QGs (X : Cx) (ts : List Expr) (g : DGs) : Prop where
  get : PGs X ts (tDGs X g)
structure QI (X : Cx) (tg it : Expr) (f : DI) : Prop where
  get : PI X tg it (tDI X f)
structure QS (X : Cx) (s : Stmt) (f : DS) : Prop where
  get : PS X s (tDS X f)
structure QB (X : Cx) (ss : List Stmt) (f : DS) : Prop where
  get : PSs X ss (tDS X f)
structure QJ (X : Cx) (es : List Expr) (fs : List DE) : Prop where
  get : PJ X es fs
structure ZOp (X : Cx) (f : Value → Value → Sem Value) (g : G2) : Prop where
  get : OpD X f g
structure ZUn (X : Cx) (f : Value → Sem Value) (g : D → Sto → Res D) : Prop where
  get : UnD X f g
structure ZIx (X : Cx) (g : G2) : Prop where
  get : IxD X g
structure ZCall (X : Cx) (f : Value) (F : DF) : Prop where
  get : CallD X f F
structure ZMt (X : Cx) (id : String) (g : D → List D → Sto → Res D) : Prop where
  get : MtD X id g
structure ZIp (X : Cx) (op : Operator) (g : G2) : Prop where
  get : IpD X op g
structure ZSet (X : Cx) (g : G3) : Prop where
  get : PSet X (tDSet X g)
structure ZPass (X : Cx) : Prop where
  get : PassesOwn (model X.prog X.w) X.A X.env X.xe
section
variable {X : Cx} {a b c e e1 e2 o i : Expr} {es rest : List Expr} {fa fb fc fe fo fi : DE} {ta tb : DT} {fA : DA} {f g : DS} {st : Stmt} {sts : List Stmt} {x : Str} {p pos : Pos} {n k : Nat} {cm : Bool} {F : DF} {G2' : G2}
theorem qe_non {j} : QE X (.Constant .none j pos) (dC .non) := ⟨de_non⟩
theorem qe_bl {v j} : QE X (.Constant (.bool v) j pos) (dC (.bl v)) := ⟨de_bl⟩
theorem qe_int {v j} : QE X (.Constant (.int v) j pos) (dC (.int v)) := ⟨de_int⟩
theorem qe_str {v j} : QE X (.Constant (.str v) j pos) (dC (.str v)) := ⟨de_str⟩
theorem qe_var (m : Nat) (hN : X.N[m]? = some x) (hv : Vis X.env.scope x) (hd : (x == ("__debug__" : Str)) = false) (hcd : (x == ("__classdict__" : Str)) = false) : QE X (.Name x pos) (dVar m) := ⟨dv m hN hv hd hcd⟩
theorem qe_bltn {nm : String} (hg : Gl X x) (hm : X.mg x = none) (hv : bootBuiltins x = some (.type nm)) (hn : x ≠ "__name__") (hd : (x == ("__debug__" : Str)) = false) : QE X (.Name x pos) (dC (.ty nm)) := ⟨de_bltn hg hm hv hn hd⟩
theorem qe_cls {C : Addr} (hg : Gl X x) (hm : X.mg x = some (.ref C)) (hk : PySem.W.keepIn X.K (.ref C) = true) (hd : (x == ("__debug__" : Str)) = false) : QE X (.Name x pos) (dC (.obj C)) := ⟨de_cls hg hm hk hd⟩
theorem qe_bad : QE X e dBad := ⟨de_bad⟩
theorem qe_un {op : UnaryOp} {h : D → Sto → Res D} (ho : ZUn X (unaryOp op) h) (ha : QE X a fa) : QE X (.UnaryOp op a pos) (d1 h fa) := ⟨de_un ho.1 ha.1⟩
theorem qe_not (ha : QE X a fa) : QE X (.UnaryOp .Not a pos) (dNot fa) := ⟨de_not ha.1⟩
theorem qe_op {op : Operator} (ho : ZOp X (binaryOp op) G2') (ha : QE X a fa) (hb : QE X b fb) : QE X (.BinOp a op b pos) (d2 G2' fa fb) := ⟨de_op ho.1 ha.1 hb.1⟩
theorem qe_cmp {op : CmpOp} (ho : ZOp X (compareOp op) G2') (ha : QE X a fa) (hb : QE X b fb) (hm : behindInMarks op b = false := by first | exact nomark _ | with_unfolding_all rfl) : QE X (.Compare a [op] [b] pos) (d2 G2' fa fb) := ⟨de_cmp ho.1 ha.1 hb.1 hm⟩
theorem qe_chain {op op' : CmpOp} {g' : G2} (ho : ZOp X (compareOp op) G2') (ho' : ZOp X (compareOp op') g') (ha : QE X a fa) (hb : QE X b fb) (hc : QE X c fc) (hm : lastMarks [op, op'] [b, c] = false := by with_unfolding_all rfl) : QE X (.Compare a [op, op'] [b, c] pos) (dChain G2' g' fa fb fc) := ⟨de_chain ho.1 ho'.1 ha.1 hb.1 hc.1 hm⟩
theorem qe_one {op} (h : QE X a fa) : QE X (.BoolOp op [a] pos) fa := ⟨de_one h.1⟩
theorem qe_and (ha : QE X a fa) (hb : QE X (.BoolOp .And (b :: rest) pos) fb) : QE X (.BoolOp .And (a :: b :: rest) pos) (dAnd fa fb) := ⟨de_and ha.1 hb.1⟩
theorem qe_tup {x1} (h : QA X es fA) : QE X (.Tuple es x1 pos) (dTup fA) := ⟨de_tup h.1⟩
theorem qe_lst (h : QA X es fA) : QE X (.List es pos) (dLst fA) := ⟨de_lst h.1⟩
theorem qe_lstM (h : QA X es fA) : QE X (.List es pos) (dLstM fA) := ⟨de_lstM h.1⟩
theorem qe_dct : QE X (.Dict [] [] pos) dDct := ⟨de_dct⟩
theorem qe_ix (ho : ZIx X G2') (ha : QE X a fa) (hb : QE X b fb) (hs : PlainIx b := by intro _ _; rfl) : QE X (.Subscript a b pos) (d2 G2' fa fb) := ⟨de_ix ho.1 ha.1 hb.1 hs⟩
theorem qe_slice {lo hi : Option Expr} {fl fh : DO} {p2 : Pos} (he : QE X e fe) (hl : QO X lo fl) (hu : QO X hi fh) : QE X (.Subscript e (.Slice lo hi none p2) pos) (dSl fe fl fh) := ⟨de_slice he.1 hl.1 hu.1⟩
theorem qo_some (he : QE X e fe) : QO X (some e) (doSome fe) := ⟨do_some he.1⟩
theorem qe_fmt (he : QE X e fe) : QE X (.FormattedValue e (-1) none pos) (d1 gFmt fe) := ⟨de_fmt he.1⟩
theorem qj_nil : QJ X [] [] := ⟨pj_nil⟩
theorem qj_cons {fs : List DE} (he : QE X e fe) (hr : QJ X es fs) : QJ X (e :: es) (fe :: fs) := ⟨pj_cons he.1 hr.1⟩
theorem qe_join {fs : List DE} (h : QJ X (e1 :: e2 :: rest) fs) : QE X (.JoinedStr (e1 :: e2 :: rest) pos) (dJoin fs) := ⟨de_join h.1⟩
theorem qa_nil : QA X [] daNil := ⟨da_nil⟩
theorem qa_cons (ha : QE X e fa) (hr : QA X es fA) (hs : starEach (e :: es) X.env = (false, eval e X.env) :: starEach es X.env := by rfl) : QA X (e :: es) (daCons fa fA) := ⟨da_cons ha.1 hr.1 hs⟩
theorem qcN (G : Def X.prog X.w X.K X.mg X.base cm k x n F) (hr : RoomC cm k X.A) (hF : Fn1 X) (hg : Gl X x) (ha : QA X (e :: es) fA) (hdb : (x == ("__debug__" : Str)) = false) (he : starEach (e :: es) X.env = (false, eval e X.env) :: starEach es X.env := by rfl) (hpl : (backTo pos (starEach es X.env)).any (·.1) = false := by rfl) : QE X (.Call (.Name x p) (e :: es) [] pos) (dCall n F fA) := ⟨dcN G hr hF hg ha.1 hdb he hpl⟩
theorem qcL (G : Def X.prog X.w X.K X.mg X.base cm k x n F) (hr : RoomC cm k X.A) (hF : Fn1 X) (hg : Gl X x) (ha : QA X (e :: es) fA) (hdb : (x == ("__debug__" : Str)) = false) (he : starEach (e :: es) X.env = (false, eval e X.env) :: starEach es X.env := by rfl) (hpl : (backTo pos (starEach es X.env)).any (·.1) = false := by rfl) : QE X (.Call (.Name x p) (e :: es) [] pos) (dCall n (lookF F) fA) := ⟨dcL G hr hF hg ha.1 hdb he hpl⟩
theorem qe_callB {id : String} (hc : ZCall X (.builtin id) F) (hg : Gl X x) (hm : X.mg x = none) (hv : bootBuiltins x = some (.builtin id)) (ha : QA X (e :: es) fA) (hn : x ≠ "__name__") (hdb : (x == ("__debug__" : Str)) = false) (he : starEach (e :: es) X.env = (false, eval e X.env) :: starEach es X.env := by rfl) (hpl : (backTo pos (starEach es X.env)).any (·.1) = false := by rfl) : QE X (.Call (.Name x p) (e :: es) [] pos) (dCallB F fA) := ⟨de_callB hc.1 hg hm hv ha.1 hn hdb he hpl⟩
theorem qe_callTy {T : String} (hc : ZCall X (.type T) F) (hg : Gl X x) (hm : X.mg x = none) (hv : bootBuiltins x = some (.type T)) (ha : QA X (e :: es) fA) (hn : x ≠ "__name__") (hdb : (x == ("__debug__" : Str)) = false) (he : starEach (e :: es) X.env = (false, eval e X.env) :: starEach es X.env := by rfl) (hpl : (backTo pos (starEach es X.env)).any (·.1) = false := by rfl) : QE X (.Call (.Name x p) (e :: es) [] pos) (dCallB F fA) := ⟨de_callTy hc.1 hg hm hv ha.1 hn hdb he hpl⟩
theorem qe_bm {T id : String} {name : Str} {apos : Pos} {h : D → List D → Sto → Res D} (pa : PlainAttrs T) (slot : Slot T name id) (hty : typeOf (.builtin id) = pure (.type "method_descriptor")) (hT : T = "list" ∨ T = "dict" ∨ T = "int" ∨ T = "str") (hm : ZMt X id h) (ho : QE X o fo) (ha : QA X (e :: es) fA)
    (hbase : attributeBase o name X.env (eval o X.env) = eval o X.env := by rfl)
    (hfew : ((backTo pos (starEach (e :: es) X.env)).all (fun x => !x.1) && (backToKw pos (keywordEach [] X.env)).all (fun x => x.1.isSome) && decide ((e :: es).length + ([] : List Keyword).length + (if ([] : List Keyword).isEmpty then 0 else 1) < 30)) = true := by rfl)
    (hline : (apos.endLine == pos.line) = true := by rfl) (hs : starEach (e :: es) X.env = (false, eval e X.env) :: starEach es X.env := by rfl) (hplain : (backTo pos (starEach es X.env)).any (·.1) = false := by rfl) : QE X (.Call (.Attribute o name apos) (e :: es) [] pos) (dBm T h fo fA) := ⟨de_bm pa slot hty hT hm.1 ho.1 ha.1 hbase hfew hline hs hplain⟩
theorem qe_bm0 {T id : String} {name : Str} {apos : Pos} {h : D → List D → Sto → Res D} (pa : PlainAttrs T) (slot : Slot T name id) (hty : typeOf (.builtin id) = pure (.type "method_descriptor")) (hT : T = "list" ∨ T = "dict" ∨ T = "int" ∨ T = "str") (hm : ZMt X id h) (ho : QE X o fo)
    (hbase : attributeBase o name X.env (eval o X.env) = eval o X.env := by rfl) (hline : (apos.endLine == pos.line) = true := by rfl) : QE X (.Call (.Attribute o name apos) [] [] pos) (dBm0 T h fo) := ⟨de_bm0 pa slot hty hT hm.1 ho.1 hbase hline⟩
theorem qt_of (h : QW X e ta) : QT X e ta := ⟨PWD.pt h.1⟩
theorem qw_or1 (ha : QT X a ta) : QW X (.BoolOp .Or [a] pos) ta := ⟨dw_or1 ha.1⟩
theorem qw_or (ha : QT X a ta) (hb : QW X (.BoolOp .Or (b :: rest) pos) tb) : QW X (.BoolOp .Or (a :: b :: rest) pos) (dOrT ta tb) := ⟨dw_or ha.1 hb.1⟩
theorem qt_not (ha : QT X a ta) : QT X (.UnaryOp .Not a pos) (dNotT ta) := ⟨dt_not ha.1⟩
theorem qt_cmp {op : CmpOp} (ho : ZOp X (compareOp op) G2') (ha : QE X a fa) (hb : QE X b fb) (hm : behindInMarks op b = false := by first | exact nomark _ | with_unfolding_all rfl) : QT X (.Compare a [op] [b] pos) (dTr (d2 G2' fa fb)) := ⟨dt_cmp ho.1 ha.1 hb.1 hm⟩
theorem qt_val (ha : QE X a fa) (he : ∀ whole, isTrue a X.env whole = (do let v ← whole; standAt a.pos; holding [v] (truthy v)) := by intro _; rfl) : QT X a (dTr fa) := ⟨dt_val ha.1 he⟩
theorem qg_name {m : Nat} (hN : X.N.Nodup) (hi : X.N[m]? = some x) (hx : Loc X.env.scope x) (hf : X.fn x = true ∨ X.env.scope.names.lookup x = some .local) : QG X (.Name x pos) (gNm m) := ⟨dg_name hN hi hx hf⟩
theorem qgs_nil : QGs X [] gsNil := ⟨dgs_nil⟩
theorem qgs_cons {h : DG} {gs : DGs} (h1 : QG X e h) (h2 : QGs X es gs) (hs : (assignEach (e :: es) X.env).map (·.2) = assign e X.env :: (assignEach es X.env).map (·.2) := by rfl) : QGs X (e :: es) (gsCons h gs) := ⟨dgs_cons h1.1 h2.1 hs⟩
theorem qg_tup {kk : Nat} {gs : DGs} (hc : X.calm = true) (h : QGs X es gs) (hn : (assignEach es X.env).length = n := by rfl) (hst : (assignEach es X.env).findIdx? (·.1) = none := by rfl) : QG X (.Tuple es kk pos) (gTp n gs) := ⟨dg_tup hc h.1 hn hst⟩
theorem qg_sub {h : G3} (ho : QE X o fo) (hi : QE X i fi) (hs : ZSet X h)
    (ha : ∀ v, assign (.Subscript o i pos) X.env v = (do
      let ov ← holding [v] (eval o X.env)
      let iv ← holding [v, ov] (eval i X.env)
      standAt pos
      holding [v, ov, iv] (setItem ov iv v)
      release [v, ov, iv] []) := by intro _; rfl) : QG X (.Subscript o i pos) (gSb fo fi h) := ⟨dg_sub ho.1 hi.1 hs.1 ha⟩
theorem qi_val {tg : Expr} (ha : QE X e fa) : QI X tg e (dItems fa) := ⟨di_val ha.1⟩
theorem qi_range {tg : Expr} (hg : Gl X "range") (hm : X.mg "range" = none) (ha : QA X (e :: es) fA) (hs : starEach (e :: es) X.env = (false, eval e X.env) :: starEach es X.env := by rfl) (hpl : (backTo pos (starEach es X.env)).any (·.1) = false := by rfl) : QI X tg (.Call (.Name "range" p) (e :: es) [] pos) (dRng fA) := ⟨di_range hg hm ha.1 hs hpl⟩
theorem qi_zip {elts : List Expr} {x1 : Nat} {tpos : Pos} (hg : Gl X "zip") (hm : X.mg "zip" = none) (ha : QA X [e1, e2] fA) (hs : starEach [e1, e2] X.env = (false, eval e1 X.env) :: starEach [e2] X.env := by rfl) (hpl : (backTo pos (starEach [e2] X.env)).any (·.1) = false := by rfl) : QI X (.Tuple elts x1 tpos) (.Call (.Name "zip" p) [e1, e2] [] pos) (dZip fA) := ⟨di_zip hg hm ha.1 hs hpl⟩
theorem qb_nil : QB X [] sNext := ⟨ds_nil⟩
theorem qb_one (h : QS X st f) : QB X [st] f := ⟨ds_one h.1⟩
theorem qb_cons (h1 : QS X st f) (h2 : QB X sts g) : QB X (st :: sts) (sSeq f g) := ⟨ds_cons h1.1 h2.1⟩
theorem qs_expr (he : QE X e fa) (hs : swapsWith e none pos.line X.env = pure false := by rfl) : QS X (.Expr e pos) (sExpr fa) := ⟨ds_expr he.1 hs⟩
theorem qs_ret (he : QE X e fa) : QS X (.Return (some e) pos) (sRet fa) := ⟨ds_ret he.1⟩
theorem qs_if {as bs : List Stmt} (hc : QT X c ta) (ha : QB X as f) (hb : QB X bs g) : QS X (.If c as bs pos) (sIf ta f g) := ⟨ds_if hc.1 ha.1 hb.1⟩
theorem qs_while {body : List Stmt} (hp : ZPass X) (hc : QT X c ta) (hb : QB X body f) : QS X (.While c body [] pos) (sWhile ta f) := ⟨ds_while hp.1 hc.1 hb.1⟩
theorem qs_for {tg iter : Expr} {body : List Stmt} {fI : DI} {h : DG} (hp : ZPass X) (hc : X.calm = true) (hi : QI X tg iter fI) (hg : QG X tg h) (hb : QB X body f) (hs : ∀ x, foldedSetIterable iter X.env x = pure x := by intro _; rfl) : QS X (.For tg iter body [] pos) (sFor fI h f) := ⟨ds_for hp.1 hc hi.1 hg.1 hb.1 hs⟩
theorem qs_set {m : Nat} {pos' : Pos} (hN : X.N.Nodup) (he : QE X e fa) (hi : X.N[m]? = some x) (hx : Loc X.env.scope x) (hs : swapsWith e (some (.Name x pos')) pos.line X.env = pure false) (hf : X.fn x = true ∨ X.env.scope.names.lookup x = some .local) : QS X (.Assign [.Name x pos'] e pos) (sAsg fa (gNm m)) := ⟨ds_set hN he.1 hi hx hs hf⟩
theorem qs_asg {tg : Expr} {h : DG} (he : QE X e fa) (hg : QG X tg h) (hs : swapsWithSole [tg] e pos.line X.env = pure false := by rfl) (hw : swappedStores [tg] e X.env = pure none := by rfl) (h1 : (assignEach [tg] X.env).map (·.2) = [assign tg X.env] := by rfl) : QS X (.Assign [tg] e pos) (sAsg fa h) := ⟨ds_asg he.1 hg.1 hs hw h1⟩
theorem qs_aug {m : Nat} {op : Operator} {pos' : Pos} (hN : X.N.Nodup) (he : QE X e fe) (ho : ZIp X op G2') (hi : X.N[m]? = some x) (hx : Loc X.env.scope x) (hf : X.fn x = true ∨ X.env.scope.names.lookup x = some .local) : QS X (.AugAssign (.Name x pos') op e pos) (sAug m G2' fe) := ⟨ds_aug hN he.1 ho.1 hi hx hf⟩
theorem qs_par {m l : Nat} {y : Str} {px py pt : Pos} {kt k2 pt2} (hc : X.calm = true) (hN : X.N.Nodup) (ha : QA X [a, b] fA) (hi : X.N[m]? = some x) (hj : X.N[l]? = some y) (hij : m ≠ l) (hx : X.env.scope.names.lookup x = some .local) (hy : X.env.scope.names.lookup y = some .local)
    (hw : swappedStores [.Tuple [.Name x px, .Name y py] kt pt] (.Tuple [a, b] k2 pt2) X.env = pure (some [x, y]) := by rfl) (hs : swapsWithSole [.Tuple [.Name x px, .Name y py] kt pt] (.Tuple [a, b] k2 pt2) pos.line X.env = pure false := by rfl) :
    QS X (.Assign [.Tuple [.Name x px, .Name y py] kt pt] (.Tuple [a, b] k2 pt2) pos) (sPar m l fA) := ⟨ds_par hc hN ha.1 hi hj hij hx hy hw hs⟩
theorem qs_par3 {m l q : Nat} {y z : Str} {px py pz pt : Pos} {kt k2 pt2} (hc : X.calm = true) (hN : X.N.Nodup) (ha : QA X [a, b, c] fA) (hi : X.N[m]? = some x) (hj : X.N[l]? = some y) (hk : X.N[q]? = some z) (hij : m ≠ l) (hik : m ≠ q) (hjk : l ≠ q) (hx : X.env.scope.names.lookup x = some .local) (hy : X.env.scope.names.lookup y = some .local) (hz : X.env.scope.names.lookup z = some .local)
    (hw : swappedStores [.Tuple [.Name x px, .Name y py, .Name z pz] kt pt] (.Tuple [a, b, c] k2 pt2) X.env = pure (some [x, y, z]) := by rfl) (hs : swapsWithSole [.Tuple [.Name x px, .Name y py, .Name z pz] kt pt] (.Tuple [a, b, c] k2 pt2) pos.line X.env = pure false := by rfl) :
    QS X (.Assign [.Tuple [.Name x px, .Name y py, .Name z pz] kt pt] (.Tuple [a, b, c] k2 pt2) pos) (sPar3 m l q fA) := ⟨ds_par3 hc hN ha.1 hi hj hk hij hik hjk hx hy hz hw hs⟩
theorem qs_raise {C : Addr} {np cpos : Pos} (hc : X.calm = true) (hF : Fn1 X) (hg : Gl X x) (hm : X.mg x = some (.ref C)) (hx : PySem.W.excIn X.K C bmVE "ValueError.__new__" = true) (ha : QA X (e :: rest) fA) (hdb : (x == ("__debug__" : Str)) = false) (he : starEach (e :: rest) X.env = (false, eval e X.env) :: starEach rest X.env := by rfl) (hpl : (backTo cpos (starEach rest X.env)).any (·.1) = false := by rfl) :
    QS X (.Raise (some (.Call (.Name x np) (e :: rest) [] cpos)) none pos) (sRaise (.ref C) fA) := ⟨ds_raise hc hF hg hm hx ha.1 hdb he hpl⟩
theorem qs_try {nm : Str} {C0 : Addr} {m : Nat} {body : List Stmt} {b₀ : Stmt} {suite : List Stmt} {np hpos : Pos} {cs : List Value} (hF : Fn1 X) (hb : ∀ E pn, ZPass (Cx.tryIn X E pn) → QB (Cx.tryIn X E pn) body f) (hs : ∀ e, QB (Cx.suite X e) (b₀ :: suite) g) (hg : Gl X x) (hm : X.mg x = some (.ref C0)) (hcs : ∀ c ∈ cs, PySem.W.exmOne X.K c (.ref C0) = some true) (hN : X.N.Nodup) (hi : X.N[m]? = some nm) (hlo : X.env.scope.names.lookup nm = some .local) (hdb : (x == ("__debug__" : Str)) = false) (hn : X.N.length = n) :
    QS X (.Try body [.ExceptHandler (some (.Name x np)) (some nm) (b₀ :: suite) hpos] [] [] pos) (sTry n m cs f g) := ⟨hn ▸ ds_try hF (fun E pn hp => (hb E pn ⟨hp⟩).1) (fun e => (hs e).1) hg hm hcs hN hi hlo hdb⟩
theorem z_add : ZOp X (binaryOp .Add) gAdd := ⟨od_add⟩
theorem z_sub : ZOp X (binaryOp .Sub) gSub := ⟨od_sub⟩
theorem z_mul : ZOp X (binaryOp .Mult) gMulI := ⟨od_mulS⟩
theorem z_div : ZOp X (binaryOp .FloorDiv) gDiv := ⟨od_div⟩
theorem z_mod : ZOp X (binaryOp .Mod) gMod := ⟨od_mod⟩
theorem z_pow : ZOp X (binaryOp .Pow) gPow := ⟨od_pow⟩
theorem z_shl : ZOp X (binaryOp .LShift) gShl := ⟨od_shl⟩
theorem z_lt : ZOp X (compareOp .Lt) gLt := ⟨od_lt⟩
theorem z_le : ZOp X (compareOp .LtE) gLe := ⟨od_le⟩
theorem z_gt : ZOp X (compareOp .Gt) gGt := ⟨od_gt⟩
theorem z_ge : ZOp X (compareOp .GtE) gGe := ⟨od_ge⟩
theorem z_is : ZOp X (compareOp .Is) gIs := ⟨od_is⟩
theorem z_eq (hr : RoomC cm k X.A) : ZOp X (compareOp .Eq) gEq := ⟨od_eq hr.units⟩
theorem z_ne (hr : RoomC cm k X.A) : ZOp X (compareOp .NotEq) gNe := ⟨od_ne hr.units⟩
theorem z_neL (hr : RoomC cm k X.A) : ZOp X (compareOp .NotEq) (lookG gNe) := ⟨OpD.look (od_ne hr.units)⟩
theorem z_neg : ZUn X (unaryOp .USub) gNeg := ⟨ud_neg⟩
theorem z_ix : ZIx X gIx := ⟨ix_d⟩
theorem z_isi : ZCall X (.builtin "isinstance") fIsi := ⟨cd_isi⟩
theorem z_isiE {cl : List Addr} (h : ClsK X.K cl) : ZCall X (.builtin "isinstance") (fIsiE cl) := ⟨cd_isiE h⟩
theorem z_len : ZCall X (.builtin "len") fLenB := ⟨cd_lenB⟩
theorem z_int : ZCall X (.type "int") fInt := ⟨cd_int⟩
theorem z_tuple : ZCall X (.type "tuple") fTuple := ⟨cd_tuple⟩
theorem z_list : ZCall X (.type "list") fList := ⟨cd_list⟩
theorem z_append : ZMt X "list.append" gAppend := ⟨md_append⟩
theorem z_bits : ZMt X "int.bit_length" gBits := ⟨md_bits⟩
theorem z_get (hr : RoomC cm k X.A) : ZMt X "dict.get" gGet := ⟨md_get (hu1 hr)⟩
theorem z_count : ZMt X "list.count" gCount := ⟨md_count⟩
theorem z_index : ZMt X "list.index" gIndex := ⟨md_index⟩
theorem z_iadd : ZIp X .Add gAddI := ⟨ipd_add⟩
theorem z_isub : ZIp X .Sub gSub := ⟨ipd_sub⟩
theorem z_set (hr : RoomC cm k X.A) : ZSet X gSet2 := ⟨set2_d (hu1 hr)⟩
end
section
variable {P : Program} {w : World} {K : PySem.W.Frag} {mg : Str → Option Value} {base : Heap} {cm : Bool}
theorem zp_body {N : List Str} {qual : Str} {scope : Scope} {f : Addr} {cd : Value} {A : Around} {outer : List Env} {s : Shared} {H : Hp} {E : XK} : ZPass (cxC cm P w K mg base N qual scope f cd A outer s H E) := ⟨cxC_pass⟩
theorem defQ {x : Str} {st : Stmt} {N ps : List Str} {k : Nat} {g : DS} {body : List Stmt} (h : Src K mg x st ps) (S : FnScope N ps (defScope st)) (hbd : defBody st = body)
    (hbody : ∀ (f : Addr) (cdv : Value) (A : Around) (outer : List Env) (s : Shared) (H : Hp) (E : XK), RoomC cm k (A.deeper (envOfC x (defScope st) s.heap.objs.size f cdv)) →
      QB (cxC cm P w K mg base N x (defScope st) f cdv A outer s H E) body g) : Def P w K mg base cm (k + 1) x ps.length (runB N.length g) :=
  def_of h S fun f cdv A outer s H E hr => hbd ▸ (hbody f cdv A outer s H E hr).1
theorem defQP {x : Str} {st : Stmt} {N ps : List Str} {k : Nat} {g : DS} {body : List Stmt} (h : Src K mg x st ps) (S : FnScope N ps (defScope st)) (hbd : defBody st = body)
    (hbody : ∀ (f : Addr) (cdv : Value) (A : Around) (outer : List Env) (s : Shared) (H : Hp) (E : XK), RoomC cm k (A.deeper (envOfC x (defScope st) s.heap.objs.size f cdv)) →
      QB (cxC cm P w K mg base N x (defScope st) f cdv A outer s H E) body g) : DefP P w K mg base cm (k + 1) x ps (runB N.length g) :=
  def_ofP h S fun f cdv A outer s H E hr => hbd ▸ (hbody f cdv A outer s H E hr).1
/-- a def before its first turn -/
theorem def_bad {x : Str} {st : Stmt} {ps : List Str} (h : Src K mg x st ps) : Def P w K mg base cm 0 x ps.length fun _ _ => .bad := by
  obtain ⟨f, fd, hm, F, hb⟩ := h
  exact ⟨f, fd, ps, rfl, hm, F.kp, hb, lk_of F, ⟨fun vs H Q E z => z.1, fun A outer s H args us vs Q E _ _ _ _ z => by obtain ⟨_, _, _, _, _, _, _, z⟩ := z; exact False.elim z⟩⟩
end
end DL
end

-- Dh
section
set_option Elab.async false
set_option linter.all false
set_option maxRecDepth 100000
namespace DL
open PySem PySem.Spec PyProof.Rows L2
theorem src_mk {K : PySem.W.Frag} {h : Heap} {mg : Str → Option Value} (X : K.In h) (G : h.Ns mainGlobals mg) {x : Str} {st : Stmt} {ps : List Str} {f : Addr} {oc : Value} {od an : Option Addr} {osl : Array (Option Value)} {kV doc pm cdv ct : Value}
    (a : PySem.W.nsIn K mainGlobals x = some (some (.ref f)))
    (l : K.lookup f = some ⟨oc, od, .func (PySem.W.fnOf x x (defArgs st) (defBody st) (defScope st) .none kV doc pm an cdv ct), osl⟩) (c : PySem.W.codeIn K cdv x = true) (k : PySem.W.keepIn K (.ref f) = true)
    (hb : ∀ (kV doc pm : Value) (an : Option Addr) (cdv ct : Value) (us : List Value), us.length = ps.length → bindArgs (PySem.W.fnOf x x (defArgs st) (defBody st) (defScope st) .none kV doc pm an cdv ct) ⟨us, []⟩ = pure (ps.zip us)) : Src K mg x st ps :=
  have F := fun_mk (st := st) l c k
  ⟨f, _, PySem.W.mg_of X G a, F, F.binds hb⟩

/-- all that the classes' table has to tell, in one look -/
def chkE (K : PySem.W.Frag) (C : Addr) : Bool :=
  decide (PySem.W.findIn K (.ref C) "__getattribute__" = some (some (.builtin "BaseException.__getattribute__"))) && decide (PySem.W.findIn K (.ref C) "__getattr__" = some none)
  && decide (PySem.W.findIn K (.ref C) "__class__" = some (some (.builtin "object.__class__"))) && decide (PySem.W.mroIn K C (.type "object") = some true) && decide (PySem.W.mroIn K C (.type "BaseException") = some true)
  && (PySem.W.clsIn K C).isSome && decide (PySem.W.kitOne K (.ref C) (.type "ValueError") = some true)
def chkG (K : PySem.W.Frag) : Bool :=
  decide (PySem.W.specialIn K (.builtin "object.__class__") "__get__" = some (some (.builtin "getset_descriptor.__get__"))) && decide (PySem.W.takesIn K (.builtin "object.__class__") = some true)
def chkO (K : PySem.W.Frag) (cl : List Addr) : Bool := cl.all fun C => cl.all fun B => decide (PySem.W.kitOne K (.ref C) (.ref B) = some (C == B))
theorem cls_mk {K : PySem.W.Frag} {cl : List Addr} (h1 : cl.all (chkE K) = true) (h2 : chkG K = true) (h3 : chkO K cl = true) : ClsK K cl := by
  have g := h2
  unfold chkG at g
  simp only [Bool.and_eq_true, decide_eq_true_eq] at g
  have k1 : ∀ C ∈ cl, chkE K C = true := List.all_eq_true.mp h1
  refine ⟨fun C hC => ?_, fun C hC B hB => ?_, fun C hC => ?_⟩
  · have e := k1 C hC
    unfold chkE at e
    simp only [Bool.and_eq_true, decide_eq_true_eq] at e
    obtain ⟨⟨⟨⟨⟨⟨e1, e2⟩, e3⟩, e4⟩, e5⟩, e6⟩, e7⟩ := e
    exact ⟨e1, e2, e3, g.1, g.2, e4, e5, e6⟩
  · have e := List.all_eq_true.mp (List.all_eq_true.mp h3 C hC) B hB
    exact of_decide_eq_true e
  · have e := k1 C hC
    unfold chkE at e
    simp only [Bool.and_eq_true, decide_eq_true_eq] at e
    exact e.2
def isStr : Value → Bool
  | .str _ _ => true
  | _ => false
/-- a class's names, each a text, no __init__ among them -/
def plainNs (K : PySem.W.Frag) (N : Addr) : Bool := (match List.lookup N K with
  | some o => match o.data with
    | .dict es _ => es.toList.all fun e => isStr e.key
    | _ => false
  | none => false) && decide (PySem.W.nsIn K N "__init__" = some none)
theorem plainNs_of {K : PySem.W.Frag} {N : Addr} (h : plainNs K N = true) : PySem.W.nsOkIn K N = true ∧ PySem.W.nsIn K N "__init__" = some none := by
  unfold plainNs at h
  rw [Bool.and_eq_true, decide_eq_true_eq] at h
  refine ⟨?_, h.2⟩
  have h1 := h.1
  unfold PySem.W.nsOkIn
  cases e : List.lookup N K with
  | none => rw [e] at h1; cases h1
  | some o =>
    rw [e] at h1
    obtain ⟨oc, od, dt, sl⟩ := o
    cases dt with
    | dict es ep =>
      simp only at h1 ⊢
      rw [Array.all_toList] at h1
      refine Eq.trans (congrArg (fun f => Array.all es f) (funext fun e => ?_)) h1
      cases e.key <;> rfl
    | _ => cases h1
def chk1 (K : PySem.W.Frag) (C A : Addr) : Bool := match List.lookup C K, List.lookup A K with
  | some o, some q => match o.data, q.data with
    | .cls cd, .cls ca => decide (o.cls = .type "type") && decide (cd.mro = .ref C :: .ref A :: bmVE) && !cd.hasDel && plainNs K cd.ns && plainNs K ca.ns && decide (o.slots.toList.length = 6) && decide (o.slots.toList[4]? = some (some (.builtin "ValueError.__new__")))
    | _, _ => false
  | _, _ => false
theorem chk1_of {K : PySem.W.Frag} {C A : Addr} (h : chk1 K C A = true) : PySem.W.excIn K C bmVE "ValueError.__new__" = true := by
  unfold chk1 at h
  cases e : List.lookup C K with
  | none => rw [e] at h; cases h
  | some o =>
    cases e2 : List.lookup A K with
    | none => rw [e, e2] at h; cases h
    | some q =>
      rw [e, e2] at h
      obtain ⟨oc, od, dt, sl⟩ := o
      obtain ⟨qc, qd, qt, ql⟩ := q
      cases dt with
      | cls cd =>
        cases qt with
        | cls ca =>
          simp only [Bool.and_eq_true, decide_eq_true_eq, Bool.not_eq_true'] at h
          obtain ⟨⟨⟨⟨⟨⟨h1, h2⟩, h3⟩, h4⟩, h5⟩, h6⟩, h7⟩ := h
          subst h1
          obtain ⟨n1, i1⟩ := plainNs_of h4
          obtain ⟨n2, i2⟩ := plainNs_of h5
          have ht : PySem.W.tailIn K bmVE (.ref A :: bmVE) = true := by
            unfold PySem.W.tailIn
            simp only [e2, n2, i2]
            have hb : PySem.W.tailIn K bmVE bmVE = true := by
              unfold PySem.W.tailIn
              simp
            simp [hb]
          unfold PySem.W.excIn
          rw [e]
          simp only [h2]
          match hs : sl.toList, h6, h7 with
          | [a, b, c, d, x, f], _, h7 =>
            have hx : x = some (.builtin "ValueError.__new__") := by simpa using h7
            subst hx
            simp [h3, ht, n1, i1]
        | _ => cases h
      | _ => cases h
def chkX (K : PySem.W.Frag) (cs : List Value) (A : Addr) : Bool := cs.all fun v => decide (PySem.W.exmOne K v (.ref A) = some true)
def chkK (K : PySem.W.Frag) (cs : List Addr) (A : Addr) : Bool := cs.all fun C => chk1 K C A
def chkP (K : PySem.W.Frag) (cs : List Addr) : Bool := cs.all fun C => PySem.W.keepIn K (.ref C)
def spLaw (K : PySem.W.Frag) : Sp := fun vs H Q E => ∃ a ns, vs = [.ref a] ∧ SqX K H a (List.map V.int ns) ∧ ns.length ≤ 63 ∧ ∀ H', Q (.bl true) H'
theorem reps_int {K : PySem.W.Frag} {P : Hp} {α : List Addr} : ∀ ns : List Int, Reps K P α (ns.map D.int) (ns.map V.int)
  | [] => .nil
  | n :: ns => .cons (by simp only [Rep]) (reps_int ns)
theorem law_fnD {P : Program} {w : World} {K : PySem.W.Frag} {mg : Str → Option Value} {fa : Addr} {st : Stmt} {k : Nat} {x : Str} (hs : Src K mg "law" st [x]) (hfa : mg "law" = some (.ref fa))
    (hbd : ∀ (kV doc pm : Value) (an : Option Addr) (cdv ct : Value) (s : Shared) (v : Value), BindsTo s (PySem.W.fnOf "law" "law" (defArgs st) (defBody st) (defScope st) .none kV doc pm an cdv ct) ⟨[v], []⟩ [(x, v)])
    (hall : ∀ base : Heap, ∃ F, DefP P w K mg base true k "law" [x] F ∧ ∀ ns : List Int, ns.length ≤ 63 → ∃ S, F [.lst (ns.map D.int)] [] = .ok (.bl true) S) :
    ∃ fd : FuncData, (∀ (s : Shared) (v : Value), BindsTo s fd ⟨[v], []⟩ [(x, v)]) ∧ ∀ base : Heap, K.In base → base.Ns mainGlobals mg → FnOk P w K mg base (CXd P w) k fa fd [x] (spLaw K) := by
  obtain ⟨f, fd, hm, F, hb⟩ := hs
  cases hfa.symm.trans hm
  refine ⟨fd, ?_, fun base _ _ => ?_⟩
  · obtain ⟨oc, od, kV, doc, pm, an, cdv, ct, osl, rfl, _, _⟩ := F.ex
    exact hbd kV doc pm an cdv ct
  · obtain ⟨G, ⟨f', fd', hm', _, hb', hl, X⟩, hG⟩ := hall base
    cases hm.symm.trans hm'
    cases hl.one (lk_of F)
    refine (X.imp fun vs H Q E h => ?_).ok
    obtain ⟨a, ns, rfl, hS, hl, k⟩ := h
    obtain ⟨S, e⟩ := hG ns hl
    refine ⟨rfl, H, [], [.lst (ns.map D.int)], [], ⟨Same.refl _, rfl, .nil, by simp, by simp, by simp⟩, .cons (rep_lst hS (reps_int ns)) .nil, ?_⟩
    rw [e]
    intro v H' P' α' _ _ _ rv
    simp only [Rep] at rv
    subst rv
    exact k H'
theorem walkD {l : PySem.W.OpenLaw} {q : Program} {loose : List Str} {XP : (Str → Option Value) → Heap → Prop} {YP : World → Heap → Prop} {d : DefRec} {K : Params → PySem.W.Frag} {k : Nat} {x : Str} (hn : l.most = some 63) (hdf : d.params.defaults = []) (hr : Room k callerA)
    (hY : ∀ (w : World) (h : Heap), YP w h → (K w.params).In h)
    (F : ∀ (w : World) (mg : Str → Option Value) (fa : Addr) (h : Heap), (K w.params).In h → h.Ns mainGlobals mg → mg d.name = some (.ref fa) →
      ∃ fd : FuncData, (∀ (s : Shared) (u : Value), BindsTo s fd ⟨[u], []⟩ [(x, u)]) ∧ ∀ base : Heap, (K w.params).In base → base.Ns mainGlobals mg → FnOk l.prog w (K w.params) mg base (CXd l.prog w) k fa fd [x] (spLaw (K w.params))) :
    PySem.W.WalkO q loose XP YP l.row.toRowW d [] (fun f vs => PySem.call f vs) :=
  L2.walk_of (n := 63) (k := k) (x := x) (CX := fun w => CXd l.prog w) (sp := fun w => spLaw (K w.params)) hn (by decide) hdf hr hY F (fun _ _ a ns hl _ hS => ⟨a, ns, rfl, hS, hl, fun _ => rfl⟩) fun w H s e s' h => by
    obtain ⟨_, _, _, _, _, _, _, _, _, _, _, _, z⟩ := h
    exact z
end DL
end

-- K40a
section
set_option Elab.async false
set_option linter.all false
set_option maxRecDepth 100000
set_option maxHeartbeats 4000000
namespace K40
open PySem PySem.Spec PyProof.Rows L2 DL
def top (i : Nat) : Stmt := PySem.Challenge.pw_fewdistances_k40_sums_of_two_squares.main.body.getD i (.Pass ⟨0, 0, 0, 0⟩)
structure Cl where
  (FarError NoPoint NoLot NoNumber NoCircle NoMarks NoFars NoText NoLine NoDeed Alike TooMany : Addr)
def clsL (c : Cl) : List Addr := [c.NoPoint, c.NoLot, c.NoNumber, c.NoCircle, c.NoMarks, c.NoFars, c.NoText, c.NoLine, c.NoDeed, c.Alike, c.TooMany]
/-- the classes that are raised and caught -/
def caught (c : Cl) : List Value := [.ref c.NoPoint, .ref c.NoLot, .ref c.NoNumber, .ref c.NoCircle, .ref c.NoMarks, .ref c.NoFars, .ref c.NoText, .ref c.NoLine, .ref c.NoDeed]
structure Txt (K : PySem.W.Frag) (mg : Str → Option Value) (c : Cl) : Prop where
  s_is_whole : Src K mg "is_whole" (top 14) ["thing"]
  s_is_within : Src K mg "is_within" (top 15) ["thing", "least", "most"]
  s_need_within : Src K mg "need_within" (top 16) ["thing", "least", "most"]
  s_above_root : Src K mg "above_root" (top 18) ["number"]
  s_sum_ways : Src K mg "sum_ways" (top 19) ["number"]
  s__law_cell : Src K mg "_law_cell" (top 21) ["_law_script", "_law_k"]
  s__law_pen : Src K mg "_law_pen" (top 22) ["_law_cell_here"]
  s__law_draw : Src K mg "_law_draw" (top 23) ["_law_pen_here", "_law_many"]
  s__law_same : Src K mg "_law_same" (top 24) ["_law_found", "_law_due"]
  s__law_kind_of : Src K mg "_law_kind_of" (top 25) ["_law_e"]
  s__law_no_number : Src K mg "_law_no_number" (top 26) ["_law_pen_here", "_law_low", "_law_high"]
  s__law_squares : Src K mg "_law_squares" (top 27) ["_law_number"]
  s__law_is_prime : Src K mg "_law_is_prime" (top 28) ["_law_number"]
  s__law_product : Src K mg "_law_product" (top 29) ["_law_pen_here", "_law_most"]
  s__law_came : Src K mg "_law_came" (top 30) ["_law_number"]
  s_law : Src K mg "law" (top 31) ["_law_script"]
  n_ValueError : mg "ValueError" = none
  n_bool : mg "bool" = none
  n_int : mg "int" = none
  n_isinstance : mg "isinstance" = none
  n_len : mg "len" = none
  n_list : mg "list" = none
  n_range : mg "range" = none
  n_str : mg "str" = none
  n_tuple : mg "tuple" = none
  n_zip : mg "zip" = none
  c_FarError : mg "FarError" = some (.ref c.FarError)
  k_FarError : PySem.W.keepIn K (.ref c.FarError) = true
  c_NoPoint : mg "NoPoint" = some (.ref c.NoPoint)
  k_NoPoint : PySem.W.keepIn K (.ref c.NoPoint) = true
  c_NoLot : mg "NoLot" = some (.ref c.NoLot)
  k_NoLot : PySem.W.keepIn K (.ref c.NoLot) = true
  c_NoNumber : mg "NoNumber" = some (.ref c.NoNumber)
  k_NoNumber : PySem.W.keepIn K (.ref c.NoNumber) = true
  c_NoCircle : mg "NoCircle" = some (.ref c.NoCircle)
  k_NoCircle : PySem.W.keepIn K (.ref c.NoCircle) = true
  c_NoMarks : mg "NoMarks" = some (.ref c.NoMarks)
  k_NoMarks : PySem.W.keepIn K (.ref c.NoMarks) = true
  c_NoFars : mg "NoFars" = some (.ref c.NoFars)
  k_NoFars : PySem.W.keepIn K (.ref c.NoFars) = true
  c_NoText : mg "NoText" = some (.ref c.NoText)
  k_NoText : PySem.W.keepIn K (.ref c.NoText) = true
  c_NoLine : mg "NoLine" = some (.ref c.NoLine)
  k_NoLine : PySem.W.keepIn K (.ref c.NoLine) = true
  c_NoDeed : mg "NoDeed" = some (.ref c.NoDeed)
  k_NoDeed : PySem.W.keepIn K (.ref c.NoDeed) = true
  c_Alike : mg "Alike" = some (.ref c.Alike)
  k_Alike : PySem.W.keepIn K (.ref c.Alike) = true
  c_TooMany : mg "TooMany" = some (.ref c.TooMany)
  k_TooMany : PySem.W.keepIn K (.ref c.TooMany) = true
  x_NoPoint : PySem.W.excIn K c.NoPoint bmVE "ValueError.__new__" = true
  x_NoLot : PySem.W.excIn K c.NoLot bmVE "ValueError.__new__" = true
  x_NoNumber : PySem.W.excIn K c.NoNumber bmVE "ValueError.__new__" = true
  x_NoCircle : PySem.W.excIn K c.NoCircle bmVE "ValueError.__new__" = true
  x_NoMarks : PySem.W.excIn K c.NoMarks bmVE "ValueError.__new__" = true
  x_NoFars : PySem.W.excIn K c.NoFars bmVE "ValueError.__new__" = true
  x_NoText : PySem.W.excIn K c.NoText bmVE "ValueError.__new__" = true
  x_NoLine : PySem.W.excIn K c.NoLine bmVE "ValueError.__new__" = true
  x_NoDeed : PySem.W.excIn K c.NoDeed bmVE "ValueError.__new__" = true
  cls : ClsK K (clsL c)
  caught : ∀ v ∈ caught c, PySem.W.exmOne K v (.ref c.FarError) = some true
  nd : (clsL c).Nodup
theorem nn_int : ("int" : Str) ≠ "__name__" := by decide +kernel
theorem db_int : (("int" : Str) == ("__debug__" : Str)) = false := by decide +kernel
theorem db_thing : (("thing" : Str) == ("__debug__" : Str)) = false := by decide +kernel
theorem cd_thing : (("thing" : Str) == ("__classdict__" : Str)) = false := by decide +kernel
theorem nn_isinstance : ("isinstance" : Str) ≠ "__name__" := by decide +kernel
theorem db_isinstance : (("isinstance" : Str) == ("__debug__" : Str)) = false := by decide +kernel
theorem nn_bool : ("bool" : Str) ≠ "__name__" := by decide +kernel
theorem db_bool : (("bool" : Str) == ("__debug__" : Str)) = false := by decide +kernel
theorem sc_is_whole : FnScope ["thing"] ["thing"] (defScope (top 14)) := ⟨rfl, rfl, rfl, by decide +kernel, rfl, by decide +kernel, by decide +kernel⟩
theorem lk_is_whole_0 : (defScope (top 14)).names.lookup ("thing" : Str) = some NameKind.local := by decide +kernel
theorem vi_is_whole_0 : Vis (defScope (top 14)) "thing" := Or.inl lk_is_whole_0
theorem gk_is_whole_int : (defScope (top 14)).names.lookup ("int" : Str) = some NameKind.globalImplicit := by decide +kernel
theorem gl_is_whole_int {l f : Addr} {cd : Value} : (envOfC "is_whole" (defScope (top 14)) l f cd).kindOf "int" = some NameKind.globalImplicit := gk_is_whole_int
theorem gk_is_whole_isinstance : (defScope (top 14)).names.lookup ("isinstance" : Str) = some NameKind.globalImplicit := by decide +kernel
theorem gl_is_whole_isinstance {l f : Addr} {cd : Value} : (envOfC "is_whole" (defScope (top 14)) l f cd).kindOf "isinstance" = some NameKind.globalImplicit := gk_is_whole_isinstance
theorem gk_is_whole_bool : (defScope (top 14)).names.lookup ("bool" : Str) = some NameKind.globalImplicit := by decide +kernel
theorem gl_is_whole_bool {l f : Addr} {cd : Value} : (envOfC "is_whole" (defScope (top 14)) l f cd).kindOf "bool" = some NameKind.globalImplicit := gk_is_whole_bool
theorem db_is_whole : (("is_whole" : Str) == ("__debug__" : Str)) = false := by decide +kernel
theorem db_least : (("least" : Str) == ("__debug__" : Str)) = false := by decide +kernel
theorem cd_least : (("least" : Str) == ("__classdict__" : Str)) = false := by decide +kernel
theorem db_most : (("most" : Str) == ("__debug__" : Str)) = false := by decide +kernel
theorem cd_most : (("most" : Str) == ("__classdict__" : Str)) = false := by decide +kernel
theorem sc_is_within : FnScope ["thing", "least", "most"] ["thing", "least", "most"] (defScope (top 15)) := ⟨rfl, rfl, rfl, by decide +kernel, rfl, by decide +kernel, by decide +kernel⟩
theorem lk_is_within_0 : (defScope (top 15)).names.lookup ("thing" : Str) = some NameKind.local := by decide +kernel
theorem vi_is_within_0 : Vis (defScope (top 15)) "thing" := Or.inl lk_is_within_0
theorem lk_is_within_1 : (defScope (top 15)).names.lookup ("least" : Str) = some NameKind.local := by decide +kernel
theorem vi_is_within_1 : Vis (defScope (top 15)) "least" := Or.inl lk_is_within_1
theorem lk_is_within_2 : (defScope (top 15)).names.lookup ("most" : Str) = some NameKind.local := by decide +kernel
theorem vi_is_within_2 : Vis (defScope (top 15)) "most" := Or.inl lk_is_within_2
theorem gk_is_within_is_whole : (defScope (top 15)).names.lookup ("is_whole" : Str) = some NameKind.globalImplicit := by decide +kernel
theorem gl_is_within_is_whole {l f : Addr} {cd : Value} : (envOfC "is_within" (defScope (top 15)) l f cd).kindOf "is_whole" = some NameKind.globalImplicit := gk_is_within_is_whole
theorem db_is_within : (("is_within" : Str) == ("__debug__" : Str)) = false := by decide +kernel
theorem db_NoNumber : (("NoNumber" : Str) == ("__debug__" : Str)) = false := by decide +kernel
theorem sc_need_within : FnScope ["thing", "least", "most"] ["thing", "least", "most"] (defScope (top 16)) := ⟨rfl, rfl, rfl, by decide +kernel, rfl, by decide +kernel, by decide +kernel⟩
theorem lk_need_within_0 : (defScope (top 16)).names.lookup ("thing" : Str) = some NameKind.local := by decide +kernel
theorem vi_need_within_0 : Vis (defScope (top 16)) "thing" := Or.inl lk_need_within_0
theorem lk_need_within_1 : (defScope (top 16)).names.lookup ("least" : Str) = some NameKind.local := by decide +kernel
theorem vi_need_within_1 : Vis (defScope (top 16)) "least" := Or.inl lk_need_within_1
theorem lk_need_within_2 : (defScope (top 16)).names.lookup ("most" : Str) = some NameKind.local := by decide +kernel
theorem vi_need_within_2 : Vis (defScope (top 16)) "most" := Or.inl lk_need_within_2
theorem gk_need_within_is_within : (defScope (top 16)).names.lookup ("is_within" : Str) = some NameKind.globalImplicit := by decide +kernel
theorem gl_need_within_is_within {l f : Addr} {cd : Value} : (envOfC "need_within" (defScope (top 16)) l f cd).kindOf "is_within" = some NameKind.globalImplicit := gk_need_within_is_within
theorem gk_need_within_NoNumber : (defScope (top 16)).names.lookup ("NoNumber" : Str) = some NameKind.globalImplicit := by decide +kernel
theorem gl_need_within_NoNumber {l f : Addr} {cd : Value} : (envOfC "need_within" (defScope (top 16)) l f cd).kindOf "NoNumber" = some NameKind.globalImplicit := gk_need_within_NoNumber
theorem db_number : (("number" : Str) == ("__debug__" : Str)) = false := by decide +kernel
theorem cd_number : (("number" : Str) == ("__classdict__" : Str)) = false := by decide +kernel
theorem sc_above_root : FnScope ["number"] ["number"] (defScope (top 18)) := ⟨rfl, rfl, rfl, by decide +kernel, rfl, by decide +kernel, by decide +kernel⟩
theorem lk_above_root_0 : (defScope (top 18)).names.lookup ("number" : Str) = some NameKind.local := by decide +kernel
theorem vi_above_root_0 : Vis (defScope (top 18)) "number" := Or.inl lk_above_root_0
theorem db_ways : (("ways" : Str) == ("__debug__" : Str)) = false := by decide +kernel
theorem cd_ways : (("ways" : Str) == ("__classdict__" : Str)) = false := by decide +kernel
theorem db_low : (("low" : Str) == ("__debug__" : Str)) = false := by decide +kernel
theorem cd_low : (("low" : Str) == ("__classdict__" : Str)) = false := by decide +kernel
theorem db_high : (("high" : Str) == ("__debug__" : Str)) = false := by decide +kernel
theorem cd_high : (("high" : Str) == ("__classdict__" : Str)) = false := by decide +kernel
theorem db_total : (("total" : Str) == ("__debug__" : Str)) = false := by decide +kernel
theorem cd_total : (("total" : Str) == ("__classdict__" : Str)) = false := by decide +kernel
theorem db_above_root : (("above_root" : Str) == ("__debug__" : Str)) = false := by decide +kernel
theorem db_need_within : (("need_within" : Str) == ("__debug__" : Str)) = false := by decide +kernel
theorem sc_sum_ways : FnScope ["number", "ways", "low", "high", "total"] ["number"] (defScope (top 19)) := ⟨rfl, rfl, rfl, by decide +kernel, rfl, by decide +kernel, by decide +kernel⟩
theorem lk_sum_ways_0 : (defScope (top 19)).names.lookup ("number" : Str) = some NameKind.local := by decide +kernel
theorem vi_sum_ways_0 : Vis (defScope (top 19)) "number" := Or.inl lk_sum_ways_0
theorem lk_sum_ways_1 : (defScope (top 19)).names.lookup ("ways" : Str) = some NameKind.local := by decide +kernel
theorem lo_sum_ways_1 : Loc (defScope (top 19)) "ways" := Or.inl lk_sum_ways_1
theorem vi_sum_ways_1 : Vis (defScope (top 19)) "ways" := Or.inl lk_sum_ways_1
theorem lk_sum_ways_2 : (defScope (top 19)).names.lookup ("low" : Str) = some NameKind.local := by decide +kernel
theorem lo_sum_ways_2 : Loc (defScope (top 19)) "low" := Or.inl lk_sum_ways_2
theorem vi_sum_ways_2 : Vis (defScope (top 19)) "low" := Or.inl lk_sum_ways_2
theorem lk_sum_ways_3 : (defScope (top 19)).names.lookup ("high" : Str) = some NameKind.local := by decide +kernel
theorem lo_sum_ways_3 : Loc (defScope (top 19)) "high" := Or.inl lk_sum_ways_3
theorem vi_sum_ways_3 : Vis (defScope (top 19)) "high" := Or.inl lk_sum_ways_3
theorem lk_sum_ways_4 : (defScope (top 19)).names.lookup ("total" : Str) = some NameKind.local := by decide +kernel
theorem lo_sum_ways_4 : Loc (defScope (top 19)) "total" := Or.inl lk_sum_ways_4
theorem vi_sum_ways_4 : Vis (defScope (top 19)) "total" := Or.inl lk_sum_ways_4
theorem gk_sum_ways_above_root : (defScope (top 19)).names.lookup ("above_root" : Str) = some NameKind.globalImplicit := by decide +kernel
theorem gl_sum_ways_above_root {l f : Addr} {cd : Value} : (envOfC "sum_ways" (defScope (top 19)) l f cd).kindOf "above_root" = some NameKind.globalImplicit := gk_sum_ways_above_root
theorem gk_sum_ways_need_within : (defScope (top 19)).names.lookup ("need_within" : Str) = some NameKind.globalImplicit := by decide +kernel
theorem gl_sum_ways_need_within {l f : Addr} {cd : Value} : (envOfC "sum_ways" (defScope (top 19)) l f cd).kindOf "need_within" = some NameKind.globalImplicit := gk_sum_ways_need_within
theorem db__law_k : (("_law_k" : Str) == ("__debug__" : Str)) = false := by decide +kernel
theorem cd__law_k : (("_law_k" : Str) == ("__classdict__" : Str)) = false := by decide +kernel
theorem db__law_script : (("_law_script" : Str) == ("__debug__" : Str)) = false := by decide +kernel
theorem cd__law_script : (("_law_script" : Str) == ("__classdict__" : Str)) = false := by decide +kernel
theorem nn_len : ("len" : Str) ≠ "__name__" := by decide +kernel
theorem db_len : (("len" : Str) == ("__debug__" : Str)) = false := by decide +kernel
theorem sc__law_cell : FnScope ["_law_script", "_law_k"] ["_law_script", "_law_k"] (defScope (top 21)) := ⟨rfl, rfl, rfl, by decide +kernel, rfl, by decide +kernel, by decide +kernel⟩
theorem lk__law_cell_0 : (defScope (top 21)).names.lookup ("_law_script" : Str) = some NameKind.local := by decide +kernel
theorem vi__law_cell_0 : Vis (defScope (top 21)) "_law_script" := Or.inl lk__law_cell_0
theorem lk__law_cell_1 : (defScope (top 21)).names.lookup ("_law_k" : Str) = some NameKind.local := by decide +kernel
theorem vi__law_cell_1 : Vis (defScope (top 21)) "_law_k" := Or.inl lk__law_cell_1
theorem gk__law_cell_len : (defScope (top 21)).names.lookup ("len" : Str) = some NameKind.globalImplicit := by decide +kernel
theorem gl__law_cell_len {l f : Addr} {cd : Value} : (envOfC "_law_cell" (defScope (top 21)) l f cd).kindOf "len" = some NameKind.globalImplicit := gk__law_cell_len
theorem db__law_cell_here : (("_law_cell_here" : Str) == ("__debug__" : Str)) = false := by decide +kernel
theorem cd__law_cell_here : (("_law_cell_here" : Str) == ("__classdict__" : Str)) = false := by decide +kernel
theorem sc__law_pen : FnScope ["_law_cell_here"] ["_law_cell_here"] (defScope (top 22)) := ⟨rfl, rfl, rfl, by decide +kernel, rfl, by decide +kernel, by decide +kernel⟩
theorem lk__law_pen_0 : (defScope (top 22)).names.lookup ("_law_cell_here" : Str) = some NameKind.local := by decide +kernel
theorem vi__law_pen_0 : Vis (defScope (top 22)) "_law_cell_here" := Or.inl lk__law_pen_0
theorem gk__law_pen_int : (defScope (top 22)).names.lookup ("int" : Str) = some NameKind.globalImplicit := by decide +kernel
theorem gl__law_pen_int {l f : Addr} {cd : Value} : (envOfC "_law_pen" (defScope (top 22)) l f cd).kindOf "int" = some NameKind.globalImplicit := gk__law_pen_int
theorem db__law_pen_here : (("_law_pen_here" : Str) == ("__debug__" : Str)) = false := by decide +kernel
theorem cd__law_pen_here : (("_law_pen_here" : Str) == ("__classdict__" : Str)) = false := by decide +kernel
theorem db__law_many : (("_law_many" : Str) == ("__debug__" : Str)) = false := by decide +kernel
theorem cd__law_many : (("_law_many" : Str) == ("__classdict__" : Str)) = false := by decide +kernel
theorem db__law_found : (("_law_found" : Str) == ("__debug__" : Str)) = false := by decide +kernel
theorem cd__law_found : (("_law_found" : Str) == ("__classdict__" : Str)) = false := by decide +kernel
theorem sc__law_draw : FnScope ["_law_pen_here", "_law_many", "_law_found"] ["_law_pen_here", "_law_many"] (defScope (top 23)) := ⟨rfl, rfl, rfl, by decide +kernel, rfl, by decide +kernel, by decide +kernel⟩
theorem lk__law_draw_0 : (defScope (top 23)).names.lookup ("_law_pen_here" : Str) = some NameKind.local := by decide +kernel
theorem vi__law_draw_0 : Vis (defScope (top 23)) "_law_pen_here" := Or.inl lk__law_draw_0
theorem lk__law_draw_1 : (defScope (top 23)).names.lookup ("_law_many" : Str) = some NameKind.local := by decide +kernel
theorem vi__law_draw_1 : Vis (defScope (top 23)) "_law_many" := Or.inl lk__law_draw_1
theorem lk__law_draw_2 : (defScope (top 23)).names.lookup ("_law_found" : Str) = some NameKind.local := by decide +kernel
theorem lo__law_draw_2 : Loc (defScope (top 23)) "_law_found" := Or.inl lk__law_draw_2
theorem vi__law_draw_2 : Vis (defScope (top 23)) "_law_found" := Or.inl lk__law_draw_2
theorem db__law_due : (("_law_due" : Str) == ("__debug__" : Str)) = false := by decide +kernel
theorem cd__law_due : (("_law_due" : Str) == ("__classdict__" : Str)) = false := by decide +kernel
theorem nn_str : ("str" : Str) ≠ "__name__" := by decide +kernel
theorem db_str : (("str" : Str) == ("__debug__" : Str)) = false := by decide +kernel
theorem nn_tuple : ("tuple" : Str) ≠ "__name__" := by decide +kernel
theorem db_tuple : (("tuple" : Str) == ("__debug__" : Str)) = false := by decide +kernel
theorem nn_list : ("list" : Str) ≠ "__name__" := by decide +kernel
theorem db_list : (("list" : Str) == ("__debug__" : Str)) = false := by decide +kernel
theorem db__law_other : (("_law_other" : Str) == ("__debug__" : Str)) = false := by decide +kernel
theorem cd__law_other : (("_law_other" : Str) == ("__classdict__" : Str)) = false := by decide +kernel
theorem db__law_one : (("_law_one" : Str) == ("__debug__" : Str)) = false := by decide +kernel
theorem cd__law_one : (("_law_one" : Str) == ("__classdict__" : Str)) = false := by decide +kernel
theorem db__law_same : (("_law_same" : Str) == ("__debug__" : Str)) = false := by decide +kernel
theorem sc__law_same : FnScope ["_law_found", "_law_due", "_law_one", "_law_other"] ["_law_found", "_law_due"] (defScope (top 24)) := ⟨rfl, rfl, rfl, by decide +kernel, rfl, by decide +kernel, by decide +kernel⟩
theorem lk__law_same_0 : (defScope (top 24)).names.lookup ("_law_found" : Str) = some NameKind.local := by decide +kernel
theorem vi__law_same_0 : Vis (defScope (top 24)) "_law_found" := Or.inl lk__law_same_0
theorem lk__law_same_1 : (defScope (top 24)).names.lookup ("_law_due" : Str) = some NameKind.local := by decide +kernel
theorem vi__law_same_1 : Vis (defScope (top 24)) "_law_due" := Or.inl lk__law_same_1
theorem lk__law_same_2 : (defScope (top 24)).names.lookup ("_law_one" : Str) = some NameKind.local := by decide +kernel
theorem lo__law_same_2 : Loc (defScope (top 24)) "_law_one" := Or.inl lk__law_same_2
theorem vi__law_same_2 : Vis (defScope (top 24)) "_law_one" := Or.inl lk__law_same_2
theorem lk__law_same_3 : (defScope (top 24)).names.lookup ("_law_other" : Str) = some NameKind.local := by decide +kernel
theorem lo__law_same_3 : Loc (defScope (top 24)) "_law_other" := Or.inl lk__law_same_3
theorem vi__law_same_3 : Vis (defScope (top 24)) "_law_other" := Or.inl lk__law_same_3
theorem gk__law_same_bool : (defScope (top 24)).names.lookup ("bool" : Str) = some NameKind.globalImplicit := by decide +kernel
theorem gl__law_same_bool {l f : Addr} {cd : Value} : (envOfC "_law_same" (defScope (top 24)) l f cd).kindOf "bool" = some NameKind.globalImplicit := gk__law_same_bool
theorem gk__law_same_isinstance : (defScope (top 24)).names.lookup ("isinstance" : Str) = some NameKind.globalImplicit := by decide +kernel
theorem gl__law_same_isinstance {l f : Addr} {cd : Value} : (envOfC "_law_same" (defScope (top 24)) l f cd).kindOf "isinstance" = some NameKind.globalImplicit := gk__law_same_isinstance
theorem gk__law_same_int : (defScope (top 24)).names.lookup ("int" : Str) = some NameKind.globalImplicit := by decide +kernel
theorem gl__law_same_int {l f : Addr} {cd : Value} : (envOfC "_law_same" (defScope (top 24)) l f cd).kindOf "int" = some NameKind.globalImplicit := gk__law_same_int
theorem gk__law_same_str : (defScope (top 24)).names.lookup ("str" : Str) = some NameKind.globalImplicit := by decide +kernel
theorem gl__law_same_str {l f : Addr} {cd : Value} : (envOfC "_law_same" (defScope (top 24)) l f cd).kindOf "str" = some NameKind.globalImplicit := gk__law_same_str
theorem gk__law_same_tuple : (defScope (top 24)).names.lookup ("tuple" : Str) = some NameKind.globalImplicit := by decide +kernel
theorem gl__law_same_tuple {l f : Addr} {cd : Value} : (envOfC "_law_same" (defScope (top 24)) l f cd).kindOf "tuple" = some NameKind.globalImplicit := gk__law_same_tuple
theorem gk__law_same_list : (defScope (top 24)).names.lookup ("list" : Str) = some NameKind.globalImplicit := by decide +kernel
theorem gl__law_same_list {l f : Addr} {cd : Value} : (envOfC "_law_same" (defScope (top 24)) l f cd).kindOf "list" = some NameKind.globalImplicit := gk__law_same_list
theorem gk__law_same_zip : (defScope (top 24)).names.lookup ("zip" : Str) = some NameKind.globalImplicit := by decide +kernel
theorem gl__law_same_zip {l f : Addr} {cd : Value} : (envOfC "_law_same" (defScope (top 24)) l f cd).kindOf "zip" = some NameKind.globalImplicit := gk__law_same_zip
theorem gk__law_same__law_same : (defScope (top 24)).names.lookup ("_law_same" : Str) = some NameKind.globalImplicit := by decide +kernel
theorem gl__law_same__law_same {l f : Addr} {cd : Value} : (envOfC "_law_same" (defScope (top 24)) l f cd).kindOf "_law_same" = some NameKind.globalImplicit := gk__law_same__law_same
theorem gk__law_same_len : (defScope (top 24)).names.lookup ("len" : Str) = some NameKind.globalImplicit := by decide +kernel
theorem gl__law_same_len {l f : Addr} {cd : Value} : (envOfC "_law_same" (defScope (top 24)) l f cd).kindOf "len" = some NameKind.globalImplicit := gk__law_same_len
theorem db__law_words : (("_law_words" : Str) == ("__debug__" : Str)) = false := by decide +kernel
theorem cd__law_words : (("_law_words" : Str) == ("__classdict__" : Str)) = false := by decide +kernel
theorem db__law_marks : (("_law_marks" : Str) == ("__debug__" : Str)) = false := by decide +kernel
theorem cd__law_marks : (("_law_marks" : Str) == ("__classdict__" : Str)) = false := by decide +kernel
theorem db_TooMany : (("TooMany" : Str) == ("__debug__" : Str)) = false := by decide +kernel
theorem db__law_e : (("_law_e" : Str) == ("__debug__" : Str)) = false := by decide +kernel
theorem cd__law_e : (("_law_e" : Str) == ("__classdict__" : Str)) = false := by decide +kernel
theorem db_Alike : (("Alike" : Str) == ("__debug__" : Str)) = false := by decide +kernel
theorem nn_ValueError : ("ValueError" : Str) ≠ "__name__" := by decide +kernel
theorem db_ValueError : (("ValueError" : Str) == ("__debug__" : Str)) = false := by decide +kernel
theorem db_NoDeed : (("NoDeed" : Str) == ("__debug__" : Str)) = false := by decide +kernel
theorem db_NoLine : (("NoLine" : Str) == ("__debug__" : Str)) = false := by decide +kernel
theorem db_NoText : (("NoText" : Str) == ("__debug__" : Str)) = false := by decide +kernel
theorem db_NoFars : (("NoFars" : Str) == ("__debug__" : Str)) = false := by decide +kernel
theorem db_NoMarks : (("NoMarks" : Str) == ("__debug__" : Str)) = false := by decide +kernel
theorem db_NoCircle : (("NoCircle" : Str) == ("__debug__" : Str)) = false := by decide +kernel
theorem db_NoLot : (("NoLot" : Str) == ("__debug__" : Str)) = false := by decide +kernel
theorem db_NoPoint : (("NoPoint" : Str) == ("__debug__" : Str)) = false := by decide +kernel
theorem sc__law_kind_of : FnScope ["_law_e", "_law_marks", "_law_words"] ["_law_e"] (defScope (top 25)) := ⟨rfl, rfl, rfl, by decide +kernel, rfl, by decide +kernel, by decide +kernel⟩
theorem lk__law_kind_of_0 : (defScope (top 25)).names.lookup ("_law_e" : Str) = some NameKind.local := by decide +kernel
theorem vi__law_kind_of_0 : Vis (defScope (top 25)) "_law_e" := Or.inl lk__law_kind_of_0
theorem lk__law_kind_of_1 : (defScope (top 25)).names.lookup ("_law_marks" : Str) = some NameKind.local := by decide +kernel
theorem lo__law_kind_of_1 : Loc (defScope (top 25)) "_law_marks" := Or.inl lk__law_kind_of_1
theorem vi__law_kind_of_1 : Vis (defScope (top 25)) "_law_marks" := Or.inl lk__law_kind_of_1
theorem lk__law_kind_of_2 : (defScope (top 25)).names.lookup ("_law_words" : Str) = some NameKind.local := by decide +kernel
theorem lo__law_kind_of_2 : Loc (defScope (top 25)) "_law_words" := Or.inl lk__law_kind_of_2
theorem vi__law_kind_of_2 : Vis (defScope (top 25)) "_law_words" := Or.inl lk__law_kind_of_2
theorem gk__law_kind_of_TooMany : (defScope (top 25)).names.lookup ("TooMany" : Str) = some NameKind.globalImplicit := by decide +kernel
theorem gl__law_kind_of_TooMany {l f : Addr} {cd : Value} : (envOfC "_law_kind_of" (defScope (top 25)) l f cd).kindOf "TooMany" = some NameKind.globalImplicit := gk__law_kind_of_TooMany
theorem gk__law_kind_of_isinstance : (defScope (top 25)).names.lookup ("isinstance" : Str) = some NameKind.globalImplicit := by decide +kernel
theorem gl__law_kind_of_isinstance {l f : Addr} {cd : Value} : (envOfC "_law_kind_of" (defScope (top 25)) l f cd).kindOf "isinstance" = some NameKind.globalImplicit := gk__law_kind_of_isinstance
theorem gk__law_kind_of_Alike : (defScope (top 25)).names.lookup ("Alike" : Str) = some NameKind.globalImplicit := by decide +kernel
theorem gl__law_kind_of_Alike {l f : Addr} {cd : Value} : (envOfC "_law_kind_of" (defScope (top 25)) l f cd).kindOf "Alike" = some NameKind.globalImplicit := gk__law_kind_of_Alike
theorem gk__law_kind_of_ValueError : (defScope (top 25)).names.lookup ("ValueError" : Str) = some NameKind.globalImplicit := by decide +kernel
theorem gl__law_kind_of_ValueError {l f : Addr} {cd : Value} : (envOfC "_law_kind_of" (defScope (top 25)) l f cd).kindOf "ValueError" = some NameKind.globalImplicit := gk__law_kind_of_ValueError
theorem gk__law_kind_of_NoDeed : (defScope (top 25)).names.lookup ("NoDeed" : Str) = some NameKind.globalImplicit := by decide +kernel
theorem gl__law_kind_of_NoDeed {l f : Addr} {cd : Value} : (envOfC "_law_kind_of" (defScope (top 25)) l f cd).kindOf "NoDeed" = some NameKind.globalImplicit := gk__law_kind_of_NoDeed
theorem gk__law_kind_of_NoLine : (defScope (top 25)).names.lookup ("NoLine" : Str) = some NameKind.globalImplicit := by decide +kernel
theorem gl__law_kind_of_NoLine {l f : Addr} {cd : Value} : (envOfC "_law_kind_of" (defScope (top 25)) l f cd).kindOf "NoLine" = some NameKind.globalImplicit := gk__law_kind_of_NoLine
theorem gk__law_kind_of_NoText : (defScope (top 25)).names.lookup ("NoText" : Str) = some NameKind.globalImplicit := by decide +kernel
theorem gl__law_kind_of_NoText {l f : Addr} {cd : Value} : (envOfC "_law_kind_of" (defScope (top 25)) l f cd).kindOf "NoText" = some NameKind.globalImplicit := gk__law_kind_of_NoText
theorem gk__law_kind_of_NoFars : (defScope (top 25)).names.lookup ("NoFars" : Str) = some NameKind.globalImplicit := by decide +kernel
theorem gl__law_kind_of_NoFars {l f : Addr} {cd : Value} : (envOfC "_law_kind_of" (defScope (top 25)) l f cd).kindOf "NoFars" = some NameKind.globalImplicit := gk__law_kind_of_NoFars
theorem gk__law_kind_of_NoMarks : (defScope (top 25)).names.lookup ("NoMarks" : Str) = some NameKind.globalImplicit := by decide +kernel
theorem gl__law_kind_of_NoMarks {l f : Addr} {cd : Value} : (envOfC "_law_kind_of" (defScope (top 25)) l f cd).kindOf "NoMarks" = some NameKind.globalImplicit := gk__law_kind_of_NoMarks
theorem gk__law_kind_of_NoCircle : (defScope (top 25)).names.lookup ("NoCircle" : Str) = some NameKind.globalImplicit := by decide +kernel
theorem gl__law_kind_of_NoCircle {l f : Addr} {cd : Value} : (envOfC "_law_kind_of" (defScope (top 25)) l f cd).kindOf "NoCircle" = some NameKind.globalImplicit := gk__law_kind_of_NoCircle
theorem gk__law_kind_of_NoNumber : (defScope (top 25)).names.lookup ("NoNumber" : Str) = some NameKind.globalImplicit := by decide +kernel
theorem gl__law_kind_of_NoNumber {l f : Addr} {cd : Value} : (envOfC "_law_kind_of" (defScope (top 25)) l f cd).kindOf "NoNumber" = some NameKind.globalImplicit := gk__law_kind_of_NoNumber
theorem gk__law_kind_of_NoLot : (defScope (top 25)).names.lookup ("NoLot" : Str) = some NameKind.globalImplicit := by decide +kernel
theorem gl__law_kind_of_NoLot {l f : Addr} {cd : Value} : (envOfC "_law_kind_of" (defScope (top 25)) l f cd).kindOf "NoLot" = some NameKind.globalImplicit := gk__law_kind_of_NoLot
theorem gk__law_kind_of_NoPoint : (defScope (top 25)).names.lookup ("NoPoint" : Str) = some NameKind.globalImplicit := by decide +kernel
theorem gl__law_kind_of_NoPoint {l f : Addr} {cd : Value} : (envOfC "_law_kind_of" (defScope (top 25)) l f cd).kindOf "NoPoint" = some NameKind.globalImplicit := gk__law_kind_of_NoPoint
theorem db__law_some : (("_law_some" : Str) == ("__debug__" : Str)) = false := by decide +kernel
theorem cd__law_some : (("_law_some" : Str) == ("__classdict__" : Str)) = false := by decide +kernel
theorem db__law_draw : (("_law_draw" : Str) == ("__debug__" : Str)) = false := by decide +kernel
theorem db__law_high : (("_law_high" : Str) == ("__debug__" : Str)) = false := by decide +kernel
theorem cd__law_high : (("_law_high" : Str) == ("__classdict__" : Str)) = false := by decide +kernel
theorem db__law_low : (("_law_low" : Str) == ("__debug__" : Str)) = false := by decide +kernel
theorem cd__law_low : (("_law_low" : Str) == ("__classdict__" : Str)) = false := by decide +kernel
theorem sc__law_no_number : FnScope ["_law_pen_here", "_law_low", "_law_high", "_law_some"] ["_law_pen_here", "_law_low", "_law_high"] (defScope (top 26)) := ⟨rfl, rfl, rfl, by decide +kernel, rfl, by decide +kernel, by decide +kernel⟩
theorem lk__law_no_number_0 : (defScope (top 26)).names.lookup ("_law_pen_here" : Str) = some NameKind.local := by decide +kernel
theorem vi__law_no_number_0 : Vis (defScope (top 26)) "_law_pen_here" := Or.inl lk__law_no_number_0
theorem lk__law_no_number_1 : (defScope (top 26)).names.lookup ("_law_low" : Str) = some NameKind.local := by decide +kernel
theorem vi__law_no_number_1 : Vis (defScope (top 26)) "_law_low" := Or.inl lk__law_no_number_1
theorem lk__law_no_number_2 : (defScope (top 26)).names.lookup ("_law_high" : Str) = some NameKind.local := by decide +kernel
theorem vi__law_no_number_2 : Vis (defScope (top 26)) "_law_high" := Or.inl lk__law_no_number_2
theorem lk__law_no_number_3 : (defScope (top 26)).names.lookup ("_law_some" : Str) = some NameKind.local := by decide +kernel
theorem lo__law_no_number_3 : Loc (defScope (top 26)) "_law_some" := Or.inl lk__law_no_number_3
theorem vi__law_no_number_3 : Vis (defScope (top 26)) "_law_some" := Or.inl lk__law_no_number_3
theorem gk__law_no_number__law_draw : (defScope (top 26)).names.lookup ("_law_draw" : Str) = some NameKind.globalImplicit := by decide +kernel
theorem gl__law_no_number__law_draw {l f : Addr} {cd : Value} : (envOfC "_law_no_number" (defScope (top 26)) l f cd).kindOf "_law_draw" = some NameKind.globalImplicit := gk__law_no_number__law_draw
theorem db__law_here : (("_law_here" : Str) == ("__debug__" : Str)) = false := by decide +kernel
theorem cd__law_here : (("_law_here" : Str) == ("__classdict__" : Str)) = false := by decide +kernel
theorem db__law_number : (("_law_number" : Str) == ("__debug__" : Str)) = false := by decide +kernel
theorem cd__law_number : (("_law_number" : Str) == ("__classdict__" : Str)) = false := by decide +kernel
theorem sc__law_squares : FnScope ["_law_number", "_law_found", "_law_low", "_law_high", "_law_here"] ["_law_number"] (defScope (top 27)) := ⟨rfl, rfl, rfl, by decide +kernel, rfl, by decide +kernel, by decide +kernel⟩
theorem lk__law_squares_0 : (defScope (top 27)).names.lookup ("_law_number" : Str) = some NameKind.local := by decide +kernel
theorem vi__law_squares_0 : Vis (defScope (top 27)) "_law_number" := Or.inl lk__law_squares_0
theorem lk__law_squares_1 : (defScope (top 27)).names.lookup ("_law_found" : Str) = some NameKind.local := by decide +kernel
theorem vi__law_squares_1 : Vis (defScope (top 27)) "_law_found" := Or.inl lk__law_squares_1
theorem lk__law_squares_2 : (defScope (top 27)).names.lookup ("_law_low" : Str) = some NameKind.local := by decide +kernel
theorem lo__law_squares_2 : Loc (defScope (top 27)) "_law_low" := Or.inl lk__law_squares_2
theorem vi__law_squares_2 : Vis (defScope (top 27)) "_law_low" := Or.inl lk__law_squares_2
theorem lk__law_squares_3 : (defScope (top 27)).names.lookup ("_law_high" : Str) = some NameKind.local := by decide +kernel
theorem lo__law_squares_3 : Loc (defScope (top 27)) "_law_high" := Or.inl lk__law_squares_3
theorem vi__law_squares_3 : Vis (defScope (top 27)) "_law_high" := Or.inl lk__law_squares_3
theorem lk__law_squares_4 : (defScope (top 27)).names.lookup ("_law_here" : Str) = some NameKind.local := by decide +kernel
theorem lo__law_squares_4 : Loc (defScope (top 27)) "_law_here" := Or.inl lk__law_squares_4
theorem vi__law_squares_4 : Vis (defScope (top 27)) "_law_here" := Or.inl lk__law_squares_4
theorem db__law_part : (("_law_part" : Str) == ("__debug__" : Str)) = false := by decide +kernel
theorem cd__law_part : (("_law_part" : Str) == ("__classdict__" : Str)) = false := by decide +kernel
theorem sc__law_is_prime : FnScope ["_law_number", "_law_part"] ["_law_number"] (defScope (top 28)) := ⟨rfl, rfl, rfl, by decide +kernel, rfl, by decide +kernel, by decide +kernel⟩
theorem lk__law_is_prime_0 : (defScope (top 28)).names.lookup ("_law_number" : Str) = some NameKind.local := by decide +kernel
theorem vi__law_is_prime_0 : Vis (defScope (top 28)) "_law_number" := Or.inl lk__law_is_prime_0
theorem lk__law_is_prime_1 : (defScope (top 28)).names.lookup ("_law_part" : Str) = some NameKind.local := by decide +kernel
theorem lo__law_is_prime_1 : Loc (defScope (top 28)) "_law_part" := Or.inl lk__law_is_prime_1
theorem vi__law_is_prime_1 : Vis (defScope (top 28)) "_law_part" := Or.inl lk__law_is_prime_1
theorem db__law_primes : (("_law_primes" : Str) == ("__debug__" : Str)) = false := by decide +kernel
theorem cd__law_primes : (("_law_primes" : Str) == ("__classdict__" : Str)) = false := by decide +kernel
theorem db__law_prime : (("_law_prime" : Str) == ("__debug__" : Str)) = false := by decide +kernel
theorem cd__law_prime : (("_law_prime" : Str) == ("__classdict__" : Str)) = false := by decide +kernel
theorem db__law_most : (("_law_most" : Str) == ("__debug__" : Str)) = false := by decide +kernel
theorem cd__law_most : (("_law_most" : Str) == ("__classdict__" : Str)) = false := by decide +kernel
theorem db__law_is_prime : (("_law_is_prime" : Str) == ("__debug__" : Str)) = false := by decide +kernel
theorem sc__law_product : FnScope ["_law_pen_here", "_law_most", "_law_found", "_law_primes", "_law_turn", "_law_prime"] ["_law_pen_here", "_law_most"] (defScope (top 29)) := ⟨rfl, rfl, rfl, by decide +kernel, rfl, by decide +kernel, by decide +kernel⟩
theorem lk__law_product_0 : (defScope (top 29)).names.lookup ("_law_pen_here" : Str) = some NameKind.local := by decide +kernel
theorem vi__law_product_0 : Vis (defScope (top 29)) "_law_pen_here" := Or.inl lk__law_product_0
theorem lk__law_product_1 : (defScope (top 29)).names.lookup ("_law_most" : Str) = some NameKind.local := by decide +kernel
theorem vi__law_product_1 : Vis (defScope (top 29)) "_law_most" := Or.inl lk__law_product_1
theorem lk__law_product_2 : (defScope (top 29)).names.lookup ("_law_found" : Str) = some NameKind.local := by decide +kernel
theorem lo__law_product_2 : Loc (defScope (top 29)) "_law_found" := Or.inl lk__law_product_2
theorem vi__law_product_2 : Vis (defScope (top 29)) "_law_found" := Or.inl lk__law_product_2
theorem lk__law_product_3 : (defScope (top 29)).names.lookup ("_law_primes" : Str) = some NameKind.local := by decide +kernel
theorem vi__law_product_3 : Vis (defScope (top 29)) "_law_primes" := Or.inl lk__law_product_3
theorem lk__law_product_4 : (defScope (top 29)).names.lookup ("_law_turn" : Str) = some NameKind.local := by decide +kernel
theorem lo__law_product_4 : Loc (defScope (top 29)) "_law_turn" := Or.inl lk__law_product_4
theorem lk__law_product_5 : (defScope (top 29)).names.lookup ("_law_prime" : Str) = some NameKind.local := by decide +kernel
theorem lo__law_product_5 : Loc (defScope (top 29)) "_law_prime" := Or.inl lk__law_product_5
theorem vi__law_product_5 : Vis (defScope (top 29)) "_law_prime" := Or.inl lk__law_product_5
theorem gk__law_product__law_draw : (defScope (top 29)).names.lookup ("_law_draw" : Str) = some NameKind.globalImplicit := by decide +kernel
theorem gl__law_product__law_draw {l f : Addr} {cd : Value} : (envOfC "_law_product" (defScope (top 29)) l f cd).kindOf "_law_draw" = some NameKind.globalImplicit := gk__law_product__law_draw
theorem gk__law_product_range : (defScope (top 29)).names.lookup ("range" : Str) = some NameKind.globalImplicit := by decide +kernel
theorem gl__law_product_range {l f : Addr} {cd : Value} : (envOfC "_law_product" (defScope (top 29)) l f cd).kindOf "range" = some NameKind.globalImplicit := gk__law_product_range
theorem gk__law_product__law_is_prime : (defScope (top 29)).names.lookup ("_law_is_prime" : Str) = some NameKind.globalImplicit := by decide +kernel
theorem gl__law_product__law_is_prime {l f : Addr} {cd : Value} : (envOfC "_law_product" (defScope (top 29)) l f cd).kindOf "_law_is_prime" = some NameKind.globalImplicit := gk__law_product__law_is_prime
theorem db_sum_ways : (("sum_ways" : Str) == ("__debug__" : Str)) = false := by decide +kernel
theorem db__law_kind_of : (("_law_kind_of" : Str) == ("__debug__" : Str)) = false := by decide +kernel
theorem db_FarError : (("FarError" : Str) == ("__debug__" : Str)) = false := by decide +kernel
theorem sc__law_came : FnScope ["_law_number", "_law_e"] ["_law_number"] (defScope (top 30)) := ⟨rfl, rfl, rfl, by decide +kernel, rfl, by decide +kernel, by decide +kernel⟩
theorem lk__law_came_0 : (defScope (top 30)).names.lookup ("_law_number" : Str) = some NameKind.local := by decide +kernel
theorem vi__law_came_0 : Vis (defScope (top 30)) "_law_number" := Or.inl lk__law_came_0
theorem lk__law_came_1 : (defScope (top 30)).names.lookup ("_law_e" : Str) = some NameKind.local := by decide +kernel
theorem vi__law_came_1 : Vis (defScope (top 30)) "_law_e" := Or.inl lk__law_came_1
theorem gk__law_came_sum_ways : (defScope (top 30)).names.lookup ("sum_ways" : Str) = some NameKind.globalImplicit := by decide +kernel
theorem gl__law_came_sum_ways {l f : Addr} {cd : Value} : (envOfC "_law_came" (defScope (top 30)) l f cd).kindOf "sum_ways" = some NameKind.globalImplicit := gk__law_came_sum_ways
theorem gk__law_came__law_kind_of : (defScope (top 30)).names.lookup ("_law_kind_of" : Str) = some NameKind.globalImplicit := by decide +kernel
theorem gl__law_came__law_kind_of {l f : Addr} {cd : Value} : (envOfC "_law_came" (defScope (top 30)) l f cd).kindOf "_law_kind_of" = some NameKind.globalImplicit := gk__law_came__law_kind_of
theorem gk__law_came_FarError : (defScope (top 30)).names.lookup ("FarError" : Str) = some NameKind.globalImplicit := by decide +kernel
theorem gl__law_came_FarError {l f : Addr} {cd : Value} : (envOfC "_law_came" (defScope (top 30)) l f cd).kindOf "FarError" = some NameKind.globalImplicit := gk__law_came_FarError
theorem db__law_cell : (("_law_cell" : Str) == ("__debug__" : Str)) = false := by decide +kernel
theorem db__law_no_number : (("_law_no_number" : Str) == ("__debug__" : Str)) = false := by decide +kernel
theorem db__law_odd : (("_law_odd" : Str) == ("__debug__" : Str)) = false := by decide +kernel
theorem cd__law_odd : (("_law_odd" : Str) == ("__classdict__" : Str)) = false := by decide +kernel
theorem db__law_came : (("_law_came" : Str) == ("__debug__" : Str)) = false := by decide +kernel
theorem db__law_numbers : (("_law_numbers" : Str) == ("__debug__" : Str)) = false := by decide +kernel
theorem cd__law_numbers : (("_law_numbers" : Str) == ("__classdict__" : Str)) = false := by decide +kernel
theorem db__law_held : (("_law_held" : Str) == ("__debug__" : Str)) = false := by decide +kernel
theorem cd__law_held : (("_law_held" : Str) == ("__classdict__" : Str)) = false := by decide +kernel
theorem db__law_squares : (("_law_squares" : Str) == ("__debug__" : Str)) = false := by decide +kernel
theorem db__law_a : (("_law_a" : Str) == ("__debug__" : Str)) = false := by decide +kernel
theorem cd__law_a : (("_law_a" : Str) == ("__classdict__" : Str)) = false := by decide +kernel
theorem db__law_b : (("_law_b" : Str) == ("__debug__" : Str)) = false := by decide +kernel
theorem cd__law_b : (("_law_b" : Str) == ("__classdict__" : Str)) = false := by decide +kernel
theorem db__law_product : (("_law_product" : Str) == ("__debug__" : Str)) = false := by decide +kernel
theorem db__law_wide : (("_law_wide" : Str) == ("__debug__" : Str)) = false := by decide +kernel
theorem cd__law_wide : (("_law_wide" : Str) == ("__classdict__" : Str)) = false := by decide +kernel
theorem db__law_pen : (("_law_pen" : Str) == ("__debug__" : Str)) = false := by decide +kernel
theorem sc_law : FnScope ["_law_script", "_law_number", "_law_cell_here", "_law_pen_here", "_law_wide", "_law_a", "_law_b", "_law_numbers", "_law_due", "_law_turn", "_law_found", "_law_held", "_law_other", "_law_odd"] ["_law_script"] (defScope (top 31)) := ⟨rfl, rfl, rfl, by decide +kernel, rfl, by decide +kernel, by decide +kernel⟩
theorem lk_law_0 : (defScope (top 31)).names.lookup ("_law_script" : Str) = some NameKind.local := by decide +kernel
theorem vi_law_0 : Vis (defScope (top 31)) "_law_script" := Or.inl lk_law_0
theorem lk_law_1 : (defScope (top 31)).names.lookup ("_law_number" : Str) = some NameKind.local := by decide +kernel
theorem lo_law_1 : Loc (defScope (top 31)) "_law_number" := Or.inl lk_law_1
theorem vi_law_1 : Vis (defScope (top 31)) "_law_number" := Or.inl lk_law_1
theorem lk_law_2 : (defScope (top 31)).names.lookup ("_law_cell_here" : Str) = some NameKind.local := by decide +kernel
theorem lo_law_2 : Loc (defScope (top 31)) "_law_cell_here" := Or.inl lk_law_2
theorem vi_law_2 : Vis (defScope (top 31)) "_law_cell_here" := Or.inl lk_law_2
theorem lk_law_3 : (defScope (top 31)).names.lookup ("_law_pen_here" : Str) = some NameKind.local := by decide +kernel
theorem lo_law_3 : Loc (defScope (top 31)) "_law_pen_here" := Or.inl lk_law_3
theorem vi_law_3 : Vis (defScope (top 31)) "_law_pen_here" := Or.inl lk_law_3
theorem lk_law_4 : (defScope (top 31)).names.lookup ("_law_wide" : Str) = some NameKind.local := by decide +kernel
theorem lo_law_4 : Loc (defScope (top 31)) "_law_wide" := Or.inl lk_law_4
theorem vi_law_4 : Vis (defScope (top 31)) "_law_wide" := Or.inl lk_law_4
theorem lk_law_5 : (defScope (top 31)).names.lookup ("_law_a" : Str) = some NameKind.local := by decide +kernel
theorem vi_law_5 : Vis (defScope (top 31)) "_law_a" := Or.inl lk_law_5
theorem lk_law_6 : (defScope (top 31)).names.lookup ("_law_b" : Str) = some NameKind.local := by decide +kernel
theorem vi_law_6 : Vis (defScope (top 31)) "_law_b" := Or.inl lk_law_6
theorem lk_law_7 : (defScope (top 31)).names.lookup ("_law_numbers" : Str) = some NameKind.local := by decide +kernel
theorem lo_law_7 : Loc (defScope (top 31)) "_law_numbers" := Or.inl lk_law_7
theorem vi_law_7 : Vis (defScope (top 31)) "_law_numbers" := Or.inl lk_law_7
theorem lk_law_8 : (defScope (top 31)).names.lookup ("_law_due" : Str) = some NameKind.local := by decide +kernel
theorem lo_law_8 : Loc (defScope (top 31)) "_law_due" := Or.inl lk_law_8
theorem vi_law_8 : Vis (defScope (top 31)) "_law_due" := Or.inl lk_law_8
theorem lk_law_9 : (defScope (top 31)).names.lookup ("_law_turn" : Str) = some NameKind.local := by decide +kernel
theorem lo_law_9 : Loc (defScope (top 31)) "_law_turn" := Or.inl lk_law_9
theorem lk_law_10 : (defScope (top 31)).names.lookup ("_law_found" : Str) = some NameKind.local := by decide +kernel
theorem lo_law_10 : Loc (defScope (top 31)) "_law_found" := Or.inl lk_law_10
theorem vi_law_10 : Vis (defScope (top 31)) "_law_found" := Or.inl lk_law_10
theorem lk_law_11 : (defScope (top 31)).names.lookup ("_law_held" : Str) = some NameKind.local := by decide +kernel
theorem vi_law_11 : Vis (defScope (top 31)) "_law_held" := Or.inl lk_law_11
theorem lk_law_12 : (defScope (top 31)).names.lookup ("_law_other" : Str) = some NameKind.local := by decide +kernel
theorem vi_law_12 : Vis (defScope (top 31)) "_law_other" := Or.inl lk_law_12
theorem lk_law_13 : (defScope (top 31)).names.lookup ("_law_odd" : Str) = some NameKind.local := by decide +kernel
theorem lo_law_13 : Loc (defScope (top 31)) "_law_odd" := Or.inl lk_law_13
theorem vi_law_13 : Vis (defScope (top 31)) "_law_odd" := Or.inl lk_law_13
theorem gk_law__law_cell : (defScope (top 31)).names.lookup ("_law_cell" : Str) = some NameKind.globalImplicit := by decide +kernel
theorem gl_law__law_cell {l f : Addr} {cd : Value} : (envOfC "law" (defScope (top 31)) l f cd).kindOf "_law_cell" = some NameKind.globalImplicit := gk_law__law_cell
theorem gk_law__law_no_number : (defScope (top 31)).names.lookup ("_law_no_number" : Str) = some NameKind.globalImplicit := by decide +kernel
theorem gl_law__law_no_number {l f : Addr} {cd : Value} : (envOfC "law" (defScope (top 31)) l f cd).kindOf "_law_no_number" = some NameKind.globalImplicit := gk_law__law_no_number
theorem gk_law__law_came : (defScope (top 31)).names.lookup ("_law_came" : Str) = some NameKind.globalImplicit := by decide +kernel
theorem gl_law__law_came {l f : Addr} {cd : Value} : (envOfC "law" (defScope (top 31)) l f cd).kindOf "_law_came" = some NameKind.globalImplicit := gk_law__law_came
theorem gk_law__law_same : (defScope (top 31)).names.lookup ("_law_same" : Str) = some NameKind.globalImplicit := by decide +kernel
theorem gl_law__law_same {l f : Addr} {cd : Value} : (envOfC "law" (defScope (top 31)) l f cd).kindOf "_law_same" = some NameKind.globalImplicit := gk_law__law_same
theorem gk_law_range : (defScope (top 31)).names.lookup ("range" : Str) = some NameKind.globalImplicit := by decide +kernel
theorem gl_law_range {l f : Addr} {cd : Value} : (envOfC "law" (defScope (top 31)) l f cd).kindOf "range" = some NameKind.globalImplicit := gk_law_range
theorem gk_law__law_squares : (defScope (top 31)).names.lookup ("_law_squares" : Str) = some NameKind.globalImplicit := by decide +kernel
theorem gl_law__law_squares {l f : Addr} {cd : Value} : (envOfC "law" (defScope (top 31)) l f cd).kindOf "_law_squares" = some NameKind.globalImplicit := gk_law__law_squares
theorem gk_law__law_product : (defScope (top 31)).names.lookup ("_law_product" : Str) = some NameKind.globalImplicit := by decide +kernel
theorem gl_law__law_product {l f : Addr} {cd : Value} : (envOfC "law" (defScope (top 31)) l f cd).kindOf "_law_product" = some NameKind.globalImplicit := gk_law__law_product
theorem gk_law__law_draw : (defScope (top 31)).names.lookup ("_law_draw" : Str) = some NameKind.globalImplicit := by decide +kernel
theorem gl_law__law_draw {l f : Addr} {cd : Value} : (envOfC "law" (defScope (top 31)) l f cd).kindOf "_law_draw" = some NameKind.globalImplicit := gk_law__law_draw
theorem gk_law__law_pen : (defScope (top 31)).names.lookup ("_law_pen" : Str) = some NameKind.globalImplicit := by decide +kernel
theorem gl_law__law_pen {l f : Addr} {cd : Value} : (envOfC "law" (defScope (top 31)) l f cd).kindOf "_law_pen" = some NameKind.globalImplicit := gk_law__law_pen
noncomputable def b_is_whole : DS := sRet (dAnd (dCallB fIsi (daCons (dVar 0) (daCons (dC (.ty "int")) (daNil)))) (dNot (dCallB fIsi (daCons (dVar 0) (daCons (dC (.ty "bool")) (daNil))))))
noncomputable def S_is_whole : DF := runB 1 b_is_whole
noncomputable def b_is_within : DS := sRet (dAnd (dCall 1 S_is_whole (daCons (dVar 0) (daNil))) (dChain gLe gLe (dVar 1) (dVar 0) (dVar 2)))
noncomputable def S_is_within : DF := runB 3 b_is_within
section
variable {P : Program} {w : World} {K : PySem.W.Frag} {mg : Str → Option Value} {base : Heap} {c : Cl}
theorem ok_is_whole (T : Txt K mg c) : Def P w K mg base true 1 "is_whole" 1 (runB 1 b_is_whole) :=
  defQ (k := 0) T.s_is_whole sc_is_whole rfl fun f cdv A outer s H E hr =>
    qb_one (qs_ret (qe_and (qe_callB z_isi gl_is_whole_isinstance T.n_isinstance bt_isinstance (qa_cons (qe_var 0 rfl vi_is_whole_0 db_thing cd_thing) (qa_cons (qe_bltn gl_is_whole_int T.n_int bt_int nn_int db_int) (qa_nil))) nn_isinstance db_isinstance rfl rfl) (qe_one (qe_not (qe_callB z_isi gl_is_whole_isinstance T.n_isinstance bt_isinstance (qa_cons (qe_var 0 rfl vi_is_whole_0 db_thing cd_thing) (qa_cons (qe_bltn gl_is_whole_bool T.n_bool bt_bool nn_bool db_bool) (qa_nil))) nn_isinstance db_isinstance rfl rfl)))))
theorem ok_is_within (T : Txt K mg c) (d_is_whole : Def P w K mg base true 1 "is_whole" 1 S_is_whole) : Def P w K mg base true 2 "is_within" 3 (runB 3 b_is_within) :=
  defQ (k := 1) T.s_is_within sc_is_within rfl fun f cdv A outer s H E hr =>
    qb_one (qs_ret (qe_and (qcN d_is_whole (hr).mono ⟨rfl, rfl, rfl⟩ gl_is_within_is_whole (qa_cons (qe_var 0 rfl vi_is_within_0 db_thing cd_thing) (qa_nil)) db_is_whole rfl rfl) (qe_one (qe_chain z_le z_le (qe_var 1 rfl vi_is_within_1 db_least cd_least) (qe_var 0 rfl vi_is_within_0 db_thing cd_thing) (qe_var 2 rfl vi_is_within_2 db_most cd_most)))))
end
end K40
end

-- K40b
section
set_option Elab.async false
set_option linter.all false
set_option maxRecDepth 100000
set_option maxHeartbeats 4000000
namespace K40
open PySem PySem.Spec PyProof.Rows L2 DL
noncomputable def b_need_within (c : Cl) : DS := sIf (dNotT (dTr (dCall 3 S_is_within (daCons (dVar 0) (daCons (dVar 1) (daCons (dVar 2) (daNil))))))) (sRaise (.ref c.NoNumber) (daCons (dJoin [dC (.str "a whole number from "), d1 gFmt (dVar 1), dC (.str " to "), d1 gFmt (dVar 2), dC (.str " is needed")]) (daNil))) (sNext)
noncomputable def b__law_cell : DS := sSeq (sIf (dTr (d2 gLt (dVar 1) (dCallB fLenB (daCons (dVar 0) (daNil))))) (sRet (d2 gIx (dVar 0) (dVar 1))) (sNext)) (sRet (dC (.int 0)))
noncomputable def b__law_pen : DS := sRet (dLstM (daCons (dVar 0) (daCons (dCallB fInt (daCons (d2 gGe (dVar 0) (d2 gPow (dC (.int 10)) (dC (.int 18)))) (daNil))) (daNil))))
noncomputable def b__law_draw : DS := sSeq (sIf (dTr (d2 gEq (d2 gIx (dVar 0) (dC (.int 1))) (dC (.int 1)))) (sSeq (sAsg (d2 gMod (d2 gIx (dVar 0) (dC (.int 0))) (dVar 1)) (gNm 2)) (sSeq (sAsg (d2 gDiv (d2 gIx (dVar 0) (dC (.int 0))) (dVar 1)) (gSb (dVar 0) (dC (.int 0)) gSet2)) (sRet (dVar 2)))) (sNext)) (sSeq (sAsg (d2 gMod (d2 gAdd (d2 gMulI (d2 gMod (d2 gIx (dVar 0) (dC (.int 0))) (dC (.int 2147483629))) (dC (.int 48271))) (dC (.int 11))) (dC (.int 2147483629))) (gSb (dVar 0) (dC (.int 0)) gSet2)) (sRet (d2 gMod (d2 gDiv (d2 gMod (d2 gAdd (d2 gMulI (d2 gIx (dVar 0) (dC (.int 0))) (d2 gIx (dVar 0) (dC (.int 0)))) (d2 gMulI (dC (.int 40692)) (d2 gIx (dVar 0) (dC (.int 0))))) (dC (.int 2147483647))) (dC (.int 8))) (dVar 1))))
noncomputable def b__law_same (S__law_same : DF) : DS := sSeq (sIf (dTr (d2 gIs (dVar 1) (dC .non))) (sRet (d2 gIs (dVar 0) (dC .non))) (sNext)) (sSeq (sIf (dOrT (dTr (dCallB fIsi (daCons (dVar 1) (daCons (dC (.ty "tuple")) (daNil))))) (dTr (dCallB fIsi (daCons (dVar 1) (daCons (dC (.ty "list")) (daNil)))))) (sSeq (sIf (dOrT (dTr (d2 gNe (dCallB fIsi (daCons (dVar 0) (daCons (dC (.ty "tuple")) (daNil)))) (dCallB fIsi (daCons (dVar 1) (daCons (dC (.ty "tuple")) (daNil)))))) (dTr (d2 gNe (dCallB fIsi (daCons (dVar 0) (daCons (dC (.ty "list")) (daNil)))) (dCallB fIsi (daCons (dVar 1) (daCons (dC (.ty "list")) (daNil))))))) (sRet (dC (.bl false))) (sNext)) (sSeq (sIf (dTr (d2 gNe (dCallB fLenB (daCons (dVar 0) (daNil))) (dCallB fLenB (daCons (dVar 1) (daNil))))) (sRet (dC (.bl false))) (sNext)) (sSeq (sFor (dZip (daCons (dVar 0) (daCons (dVar 1) (daNil)))) (gTp 2 (gsCons (gNm 2) (gsCons (gNm 3) (gsNil)))) (sIf (dNotT (dTr (dCall 2 S__law_same (daCons (dVar 2) (daCons (dVar 3) (daNil)))))) (sRet (dC (.bl false))) (sNext))) (sRet (dC (.bl true)))))) (sNext)) (sSeq (sIf (dTr (dCallB fIsi (daCons (dVar 1) (daCons (dC (.ty "str")) (daNil))))) (sRet (dAnd (dCallB fIsi (daCons (dVar 0) (daCons (dC (.ty "str")) (daNil)))) (d2 gEq (dVar 0) (dVar 1)))) (sNext)) (sRet (dAnd (d2 gEq (dCallB fIsi (daCons (dVar 0) (daCons (dC (.ty "bool")) (daNil)))) (dCallB fIsi (daCons (dVar 1) (daCons (dC (.ty "bool")) (daNil))))) (dAnd (dCallB fIsi (daCons (dVar 0) (daCons (dC (.ty "int")) (daNil)))) (d2 gEq (dVar 0) (dVar 1)))))))
noncomputable def b__law_kind_of (c : Cl) : DS := sSeq (sAsg (dLst (daCons (dCallB (fIsiE (clsL c)) (daCons (dVar 0) (daCons (dC (.obj c.NoPoint)) (daNil)))) (daCons (dCallB (fIsiE (clsL c)) (daCons (dVar 0) (daCons (dC (.obj c.NoLot)) (daNil)))) (daCons (dCallB (fIsiE (clsL c)) (daCons (dVar 0) (daCons (dC (.obj c.NoNumber)) (daNil)))) (daCons (dCallB (fIsiE (clsL c)) (daCons (dVar 0) (daCons (dC (.obj c.NoCircle)) (daNil)))) (daNil)))))) (gNm 1)) (sSeq (sAsg (d2 gAdd (dVar 1) (dLst (daCons (dCallB (fIsiE (clsL c)) (daCons (dVar 0) (daCons (dC (.obj c.NoMarks)) (daNil)))) (daCons (dCallB (fIsiE (clsL c)) (daCons (dVar 0) (daCons (dC (.obj c.NoFars)) (daNil)))) (daCons (dCallB (fIsiE (clsL c)) (daCons (dVar 0) (daCons (dC (.obj c.NoText)) (daNil)))) (daCons (dCallB (fIsiE (clsL c)) (daCons (dVar 0) (daCons (dC (.obj c.NoLine)) (daNil)))) (daNil))))))) (gNm 1)) (sSeq (sAsg (d2 gAdd (dVar 1) (dLst (daCons (dCallB (fIsiE (clsL c)) (daCons (dVar 0) (daCons (dC (.obj c.NoDeed)) (daNil)))) (daCons (dCallB (fIsiE (clsL c)) (daCons (dVar 0) (daCons (dC (.obj c.Alike)) (daNil)))) (daCons (dCallB (fIsiE (clsL c)) (daCons (dVar 0) (daCons (dC (.obj c.TooMany)) (daNil)))) (daNil)))))) (gNm 1)) (sSeq (sIf (dOrT (dNotT (dTr (dCallB (fIsiE (clsL c)) (daCons (dVar 0) (daCons (dC (.ty "ValueError")) (daNil)))))) (dTr (d2 gNe (dBm "list" gCount (dVar 1) (daCons (dC (.bl true)) (daNil))) (dC (.int 1))))) (sRet (dC (.str "other"))) (sNext)) (sSeq (sIf (dTr (dCallB (fIsiE (clsL c)) (daCons (dVar 0) (daCons (dC (.obj c.Alike)) (daNil))))) (sRet (dLst (daCons (dC (.str "alike")) (daCons (dBad) (daCons (dBad) (daCons (dBad) (daCons (dBad) (daNil)))))))) (sNext)) (sSeq (sIf (dTr (dCallB (fIsiE (clsL c)) (daCons (dVar 0) (daCons (dC (.obj c.TooMany)) (daNil))))) (sRet (dLst (daCons (dC (.str "many")) (daCons (dBad) (daCons (dBad) (daNil)))))) (sNext)) (sSeq (sAsg (dLst (daCons (dC (.str "point")) (daCons (dC (.str "lot")) (daCons (dC (.str "number")) (daCons (dC (.str "circle")) (daCons (dC (.str "marks")) (daCons (dC (.str "fars")) (daCons (dC (.str "text")) (daCons (dC (.str "line")) (daCons (dC (.str "deed")) (daNil))))))))))) (gNm 2)) (sRet (d2 gIx (dVar 2) (dBm "list" gIndex (dVar 1) (daCons (dC (.bl true)) (daNil)))))))))))
noncomputable def b__law_squares : DS := sSeq (sPar3 1 2 3 (daCons (dLstM (daNil)) (daCons (dC (.int 0)) (daCons (dC (.int 0)) (daNil))))) (sSeq (sWhile (dTr (d2 gLe (d2 gMulI (dVar 3) (dVar 3)) (dVar 0))) (sAsg (d2 gAdd (dVar 3) (dC (.int 1))) (gNm 3))) (sSeq (sAsg (d2 gSub (dVar 3) (dC (.int 1))) (gNm 3)) (sSeq (sWhile (dTr (d2 gLe (dVar 2) (dVar 3))) (sSeq (sAsg (d2 gAdd (d2 gMulI (dVar 2) (dVar 2)) (d2 gMulI (dVar 3) (dVar 3))) (gNm 4)) (sSeq (sIf (dTr (d2 gEq (dVar 4) (dVar 0))) (sExpr (dBm "list" gAppend (dVar 1) (daCons (dTup (daCons (dVar 2) (daCons (dVar 3) (daNil)))) (daNil)))) (sNext)) (sIf (dTr (d2 gLe (dVar 4) (dVar 0))) (sAsg (d2 gAdd (dVar 2) (dC (.int 1))) (gNm 2)) (sAsg (d2 gSub (dVar 3) (dC (.int 1))) (gNm 3)))))) (sRet (dVar 1)))))
noncomputable def b__law_is_prime : DS := sSeq (sAsg (dC (.int 2)) (gNm 1)) (sSeq (sWhile (dTr (d2 gLe (d2 gMulI (dVar 1) (dVar 1)) (dVar 0))) (sSeq (sIf (dTr (d2 gEq (d2 gMod (dVar 0) (dVar 1)) (dC (.int 0)))) (sRet (dC (.bl false))) (sNext)) (sAsg (d2 gAdd (dVar 1) (dC (.int 1))) (gNm 1)))) (sRet (d2 gGt (dVar 0) (dC (.int 1)))))
noncomputable def S_need_within (c : Cl) : DF := runB 3 (b_need_within c)
noncomputable def b_above_root : DS := sRet (d2 gShl (dC (.int 1)) (d2 gDiv (d2 gAdd (dBm0 "int" gBits (dVar 0)) (dC (.int 1))) (dC (.int 2))))
noncomputable def S_above_root : DF := runB 1 b_above_root
noncomputable def b_sum_ways (c : Cl) : DS := sSeq (sExpr (dCall 3 (S_need_within c) (daCons (dVar 0) (daCons (dC (.int 0)) (daCons (d2 gPow (dC (.int 10)) (dC (.int 9))) (daNil)))))) (sSeq (sAsg (dLstM (daNil)) (gNm 1)) (sSeq (sAsg (dC (.int 0)) (gNm 2)) (sSeq (sAsg (dCall 1 S_above_root (daCons (dVar 0) (daNil))) (gNm 3)) (sSeq (sWhile (dTr (d2 gLe (dVar 2) (dVar 3))) (sSeq (sAsg (d2 gAdd (d2 gMulI (dVar 2) (dVar 2)) (d2 gMulI (dVar 3) (dVar 3))) (gNm 4)) (sSeq (sIf (dTr (d2 gEq (dVar 4) (dVar 0))) (sExpr (dBm "list" gAppend (dVar 1) (daCons (dTup (daCons (dVar 2) (daCons (dVar 3) (daNil)))) (daNil)))) (sNext)) (sIf (dTr (d2 gGt (dVar 4) (dVar 0))) (sAug 3 gSub (dC (.int 1))) (sAug 2 gAddI (dC (.int 1))))))) (sRet (dVar 1))))))
noncomputable def S_sum_ways (c : Cl) : DF := runB 5 (b_sum_ways c)
noncomputable def S__law_cell : DF := runB 2 b__law_cell
noncomputable def S__law_pen : DF := runB 1 b__law_pen
noncomputable def S__law_draw : DF := runB 3 b__law_draw
noncomputable def sameN : Nat → DF
  | 0 => fun _ _ => .bad
  | n + 1 => runB 4 (b__law_same (sameN n))
noncomputable def S__law_same : DF := sameN 4
noncomputable def S__law_kind_of (c : Cl) : DF := runB 3 (b__law_kind_of c)
noncomputable def S__law_squares : DF := runB 5 b__law_squares
noncomputable def S__law_is_prime : DF := runB 2 b__law_is_prime
noncomputable def b__law_no_number : DS := sSeq (sAsg (dLst (daCons (d2 gSub (dVar 1) (dC (.int 1))) (daCons (d2 gAdd (dVar 2) (dC (.int 1))) (daCons (dC .non) (daCons (dC (.bl true)) (daCons (dC (.str "0")) (daCons (dTup (daCons (dVar 1) (daNil))) (daCons (dLst (daCons (dVar 1) (daNil))) (daCons (d2 gPow (dC (.int 10)) (dC (.int 29))) (daCons (d2 gSub (dC (.int 0)) (d2 gPow (dC (.int 10)) (dC (.int 29)))) (daCons (dC (.bl false)) (daCons (d2 gAdd (dVar 2) (dC (.int 2))) (daNil))))))))))))) (gNm 3)) (sRet (d2 gIx (dVar 3) (dCall 2 S__law_draw (daCons (dVar 0) (daCons (dC (.int 11)) (daNil))))))
noncomputable def S__law_no_number : DF := runB 4 b__law_no_number
noncomputable def b__law_product : DS := sSeq (sPar 2 3 (daCons (dC (.int 1)) (daCons (dDct) (daNil)))) (sSeq (sFor (dRng (daCons (d2 gAdd (dC (.int 1)) (dCall 2 S__law_draw (daCons (dVar 0) (daCons (dC (.int 8)) (daNil))))) (daNil))) (gNm 4) (sSeq (sAsg (d2 gIx (dLst (daCons (dC (.int 2)) (daCons (dC (.int 3)) (daCons (dC (.int 5)) (daCons (dC (.int 5)) (daCons (dC (.int 7)) (daCons (dC (.int 13)) (daCons (dC (.int 17)) (daCons (dC (.int 29)) (daCons (dC (.int 101)) (daCons (dC (.int 9973)) (daNil)))))))))))) (dCall 2 S__law_draw (daCons (dVar 0) (daCons (dC (.int 10)) (daNil))))) (gNm 5)) (sSeq (sIf (dTr (d2 gEq (dCall 2 S__law_draw (daCons (dVar 0) (daCons (dC (.int 12)) (daNil)))) (dC (.int 0)))) (sSeq (sAsg (d2 gAdd (dC (.int 2)) (dCall 2 S__law_draw (daCons (dVar 0) (daCons (dC (.int 20000)) (daNil))))) (gNm 5)) (sWhile (dNotT (dTr (dCall 1 S__law_is_prime (daCons (dVar 5) (daNil))))) (sAsg (d2 gAdd (dVar 5) (dC (.int 1))) (gNm 5)))) (sNext)) (sIf (dTr (d2 gLe (d2 gMulI (dVar 2) (dVar 5)) (dVar 1))) (sSeq (sAsg (d2 gMulI (dVar 2) (dVar 5)) (gNm 2)) (sAsg (d2 gAdd (dBm "dict" gGet (dVar 3) (daCons (dVar 5) (daCons (dC (.int 0)) (daNil)))) (dC (.int 1))) (gSb (dVar 3) (dVar 5) gSet2))) (sNext))))) (sRet (dTup (daCons (dVar 2) (daCons (dVar 3) (daNil))))))
noncomputable def S__law_product : DF := runB 6 b__law_product
noncomputable def b__law_came (c : Cl) : DS := sTry 2 1 (caught c) (sRet (dCall 1 (S_sum_ways c) (daCons (dVar 0) (daNil)))) (sRet (dCall 1 (S__law_kind_of c) (daCons (dVar 1) (daNil))))
noncomputable def S__law_came (c : Cl) : DF := runB 2 (b__law_came c)
noncomputable def b_law (c : Cl) : DS := sSeq (sFor (dItems (dLst (daCons (dC (.int 0)) (daCons (dC (.int 1)) (daCons (dC (.int 2)) (daCons (dC (.int 3)) (daCons (dC (.int 25)) (daCons (dC (.int 50)) (daCons (dC (.int 325)) (daCons (dC (.int 5525)) (daCons (d2 gPow (dC (.int 10)) (dC (.int 6))) (daCons (d2 gPow (dC (.int 10)) (dC (.int 9))) (daNil))))))))))))) (gNm 1) (sIf (dNotT (dTr (dCall 2 (lookF S__law_same) (daCons (dCall 1 (S__law_came c) (daCons (dVar 1) (daNil))) (daCons (dCall 1 S__law_squares (daCons (dVar 1) (daNil))) (daNil)))))) (sRet (dC (.bl false))) (sNext))) (sSeq (sFor (dItems (d2 gAdd (dLst (daCons (dCall 2 S__law_cell (daCons (dVar 0) (daCons (dC (.int 0)) (daNil)))) (daNil))) (dSl (dVar 0) (doSome (dC (.int 1))) (doSome (dC (.int 2)))))) (gNm 2) (sSeq (sAsg (dCall 1 S__law_pen (daCons (dVar 2) (daNil))) (gNm 3)) (sSeq (sAsg (d2 gIx (dLst (daCons (dC (.int 300)) (daCons (dC (.int 4000)) (daCons (dC (.int 22000)) (daNil))))) (dCall 2 S__law_draw (daCons (dVar 3) (daCons (dC (.int 3)) (daNil))))) (gNm 4)) (sSeq (sPar 5 6 (daCons (dCall 2 S__law_draw (daCons (dVar 3) (daCons (dVar 4) (daNil)))) (daCons (dCall 2 S__law_draw (daCons (dVar 3) (daCons (dVar 4) (daNil)))) (daNil)))) (sSeq (sAsg (dLst (daCons (dCall 2 S__law_draw (daCons (dVar 3) (daCons (dC (.int 10000)) (daNil)))) (daCons (d2 gIx (dCall 2 S__law_product (daCons (dVar 3) (daCons (d2 gPow (dC (.int 10)) (dC (.int 6))) (daNil)))) (dC (.int 0))) (daCons (d2 gAdd (d2 gMulI (dVar 5) (dVar 5)) (d2 gMulI (dVar 6) (dVar 6))) (daCons (d2 gMulI (dVar 5) (dVar 5)) (daCons (d2 gMulI (d2 gMulI (dC (.int 2)) (dVar 5)) (dVar 5)) (daNil))))))) (gNm 7)) (sSeq (sFor (dItems (dVar 7)) (gNm 1) (sSeq (sAsg (dCall 1 S__law_squares (daCons (dVar 1) (daNil))) (gNm 8)) (sSeq (sFor (dRng (daCons (dC (.int 2)) (daNil))) (gNm 9) (sSeq (sAsg (dCall 1 (S__law_came c) (daCons (dVar 1) (daNil))) (gNm 10)) (sSeq (sIf (dNotT (dTr (dCall 2 (lookF S__law_same) (daCons (dVar 10) (daCons (dVar 8) (daNil)))))) (sRet (dC (.bl false))) (sNext)) (sExpr (dBm "list" gAppend (dVar 10) (daCons (dTup (daNil)) (daNil))))))) (sSeq (sPar 11 12 (daCons (dCall 1 (S__law_came c) (daCons (dVar 1) (daNil))) (daCons (dCall 1 (S__law_came c) (daCons (dC (.int 1)) (daNil))) (daNil)))) (sIf (dOrT (dTr (d2 (lookG gNe) (dVar 12) (dLst (daCons (dTup (daCons (dC (.int 0)) (daCons (dC (.int 1)) (daNil)))) (daNil))))) (dNotT (dTr (dCall 2 (lookF S__law_same) (daCons (dVar 11) (daCons (dVar 8) (daNil))))))) (sRet (dC (.bl false))) (sNext)))))) (sFor (dItems (dLst (daCons (dCall 3 S__law_no_number (daCons (dVar 3) (daCons (dC (.int 0)) (daCons (d2 gPow (dC (.int 10)) (dC (.int 9))) (daNil))))) (daCons (d1 gNeg (dC (.int 1))) (daCons (d2 gAdd (d2 gPow (dC (.int 10)) (dC (.int 9))) (dC (.int 1))) (daNil)))))) (gNm 13) (sIf (dTr (d2 gNe (dCall 1 (S__law_came c) (daCons (dVar 13) (daNil))) (dC (.str "number")))) (sRet (dC (.bl false))) (sNext))))))))) (sRet (dC (.bl true))))
end K40
end

-- K40o_need_within
section
set_option Elab.async false
set_option linter.all false
set_option maxRecDepth 100000
set_option maxHeartbeats 4000000
namespace K40
open PySem PySem.Spec PyProof.Rows L2 DL
variable {P : Program} {w : World} {K : PySem.W.Frag} {mg : Str → Option Value} {base : Heap} {c : Cl}
theorem ok_need_within (T : Txt K mg c) (d_is_within : Def P w K mg base true 2 "is_within" 3 S_is_within) : Def P w K mg base true 3 "need_within" 3 (runB 3 (b_need_within c)) :=
  defQ (k := 2) T.s_need_within sc_need_within rfl fun f cdv A outer s H E hr =>
    qb_one (qs_if (qt_not (qt_val (qcN d_is_within (hr).mono ⟨rfl, rfl, rfl⟩ gl_need_within_is_within (qa_cons (qe_var 0 rfl vi_need_within_0 db_thing cd_thing) (qa_cons (qe_var 1 rfl vi_need_within_1 db_least cd_least) (qa_cons (qe_var 2 rfl vi_need_within_2 db_most cd_most) (qa_nil)))) db_is_within rfl rfl))) (qb_one (qs_raise rfl ⟨rfl, rfl, rfl⟩ gl_need_within_NoNumber T.c_NoNumber T.x_NoNumber (qa_cons (qe_join (qj_cons (qe_str) (qj_cons (qe_fmt (qe_var 1 rfl vi_need_within_1 db_least cd_least)) (qj_cons (qe_str) (qj_cons (qe_fmt (qe_var 2 rfl vi_need_within_2 db_most cd_most)) (qj_cons (qe_str) (qj_nil))))))) (qa_nil)) db_NoNumber rfl rfl)) (qb_nil))
end K40
end

-- K40o_above_root
section
set_option Elab.async false
set_option linter.all false
set_option maxRecDepth 100000
set_option maxHeartbeats 4000000
namespace K40
open PySem PySem.Spec PyProof.Rows L2 DL
variable {P : Program} {w : World} {K : PySem.W.Frag} {mg : Str → Option Value} {base : Heap} {c : Cl}
theorem ok_above_root (T : Txt K mg c) : Def P w K mg base true 1 "above_root" 1 (runB 1 b_above_root) :=
  defQ (k := 0) T.s_above_root sc_above_root rfl fun f cdv A outer s H E hr =>
    qb_one (qs_ret (qe_op z_shl (qe_int) (qe_op z_div (qe_op z_add (qe_bm0 PySem.F.plainAttrs_int PySem.F.slot_int_bit_length PySem.F.type_int_bit_length (.inr (.inr (.inl rfl))) z_bits (qe_var 0 rfl vi_above_root_0 db_number cd_number)) (qe_int)) (qe_int))))
end K40
end

-- K40o_sum_ways
section
set_option Elab.async false
set_option linter.all false
set_option maxRecDepth 100000
set_option maxHeartbeats 4000000
namespace K40
open PySem PySem.Spec PyProof.Rows L2 DL
variable {P : Program} {w : World} {K : PySem.W.Frag} {mg : Str → Option Value} {base : Heap} {c : Cl}
theorem ok_sum_ways (T : Txt K mg c) (d_above_root : Def P w K mg base true 1 "above_root" 1 S_above_root) (d_need_within : Def P w K mg base true 3 "need_within" 3 (S_need_within c)) : Def P w K mg base true 4 "sum_ways" 1 (runB 5 (b_sum_ways c)) :=
  defQ (k := 3) T.s_sum_ways sc_sum_ways rfl fun f cdv A outer s H E hr =>
    qb_cons (qs_expr (qcN d_need_within (hr).mono ⟨rfl, rfl, rfl⟩ gl_sum_ways_need_within (qa_cons (qe_var 0 rfl vi_sum_ways_0 db_number cd_number) (qa_cons (qe_int) (qa_cons (qe_op z_pow (qe_int) (qe_int)) (qa_nil)))) db_need_within rfl rfl)) (qb_cons (qs_set (m := 1) sc_sum_ways.nd (qe_lstM (qa_nil)) rfl lo_sum_ways_1 rfl (.inl rfl)) (qb_cons (qs_set (m := 2) sc_sum_ways.nd (qe_int) rfl lo_sum_ways_2 rfl (.inl rfl)) (qb_cons (qs_set (m := 3) sc_sum_ways.nd (qcN d_above_root (hr).mono ⟨rfl, rfl, rfl⟩ gl_sum_ways_above_root (qa_cons (qe_var 0 rfl vi_sum_ways_0 db_number cd_number) (qa_nil)) db_above_root rfl rfl) rfl lo_sum_ways_3 rfl (.inl rfl)) (qb_cons (qs_while zp_body (qt_cmp z_le (qe_var 2 rfl vi_sum_ways_2 db_low cd_low) (qe_var 3 rfl vi_sum_ways_3 db_high cd_high)) (qb_cons (qs_set (m := 4) sc_sum_ways.nd (qe_op z_add (qe_op z_mul (qe_var 2 rfl vi_sum_ways_2 db_low cd_low) (qe_var 2 rfl vi_sum_ways_2 db_low cd_low)) (qe_op z_mul (qe_var 3 rfl vi_sum_ways_3 db_high cd_high) (qe_var 3 rfl vi_sum_ways_3 db_high cd_high))) rfl lo_sum_ways_4 rfl (.inl rfl)) (qb_cons (qs_if (qt_cmp (z_eq (hr)) (qe_var 4 rfl vi_sum_ways_4 db_total cd_total) (qe_var 0 rfl vi_sum_ways_0 db_number cd_number)) (qb_one (qs_expr (qe_bm PySem.F.plainAttrs_list PySem.F.slot_list_append PySem.F.type_list_append (.inl rfl) z_append (qe_var 1 rfl vi_sum_ways_1 db_ways cd_ways) (qa_cons (qe_tup (qa_cons (qe_var 2 rfl vi_sum_ways_2 db_low cd_low) (qa_cons (qe_var 3 rfl vi_sum_ways_3 db_high cd_high) (qa_nil)))) (qa_nil))))) (qb_nil)) (qb_one (qs_if (qt_cmp z_gt (qe_var 4 rfl vi_sum_ways_4 db_total cd_total) (qe_var 0 rfl vi_sum_ways_0 db_number cd_number)) (qb_one (qs_aug (m := 3) sc_sum_ways.nd (qe_int) z_isub rfl lo_sum_ways_3 (.inl rfl))) (qb_one (qs_aug (m := 2) sc_sum_ways.nd (qe_int) z_iadd rfl lo_sum_ways_2 (.inl rfl)))))))) (qb_one (qs_ret (qe_var 1 rfl vi_sum_ways_1 db_ways cd_ways)))))))
end K40
end

-- K40o__law_cell
section
set_option Elab.async false
set_option linter.all false
set_option maxRecDepth 100000
set_option maxHeartbeats 4000000
namespace K40
open PySem PySem.Spec PyProof.Rows L2 DL
variable {P : Program} {w : World} {K : PySem.W.Frag} {mg : Str → Option Value} {base : Heap} {c : Cl}
theorem ok__law_cell (T : Txt K mg c) : Def P w K mg base true 1 "_law_cell" 2 (runB 2 b__law_cell) :=
  defQ (k := 0) T.s__law_cell sc__law_cell rfl fun f cdv A outer s H E hr =>
    qb_cons (qs_if (qt_cmp z_lt (qe_var 1 rfl vi__law_cell_1 db__law_k cd__law_k) (qe_callB z_len gl__law_cell_len T.n_len bt_len (qa_cons (qe_var 0 rfl vi__law_cell_0 db__law_script cd__law_script) (qa_nil)) nn_len db_len rfl rfl)) (qb_one (qs_ret (qe_ix z_ix (qe_var 0 rfl vi__law_cell_0 db__law_script cd__law_script) (qe_var 1 rfl vi__law_cell_1 db__law_k cd__law_k)))) (qb_nil)) (qb_one (qs_ret (qe_int)))
end K40
end

-- K40o__law_pen
section
set_option Elab.async false
set_option linter.all false
set_option maxRecDepth 100000
set_option maxHeartbeats 4000000
namespace K40
open PySem PySem.Spec PyProof.Rows L2 DL
variable {P : Program} {w : World} {K : PySem.W.Frag} {mg : Str → Option Value} {base : Heap} {c : Cl}
theorem ok__law_pen (T : Txt K mg c) : Def P w K mg base true 1 "_law_pen" 1 (runB 1 b__law_pen) :=
  defQ (k := 0) T.s__law_pen sc__law_pen rfl fun f cdv A outer s H E hr =>
    qb_one (qs_ret (qe_lstM (qa_cons (qe_var 0 rfl vi__law_pen_0 db__law_cell_here cd__law_cell_here) (qa_cons (qe_callTy z_int gl__law_pen_int T.n_int bt_int (qa_cons (qe_cmp z_ge (qe_var 0 rfl vi__law_pen_0 db__law_cell_here cd__law_cell_here) (qe_op z_pow (qe_int) (qe_int))) (qa_nil)) nn_int db_int rfl rfl) (qa_nil)))))
end K40
end

-- K40o__law_draw
section
set_option Elab.async false
set_option linter.all false
set_option maxRecDepth 100000
set_option maxHeartbeats 4000000
namespace K40
open PySem PySem.Spec PyProof.Rows L2 DL
variable {P : Program} {w : World} {K : PySem.W.Frag} {mg : Str → Option Value} {base : Heap} {c : Cl}
theorem ok__law_draw (T : Txt K mg c) : Def P w K mg base true 1 "_law_draw" 2 (runB 3 b__law_draw) :=
  defQ (k := 0) T.s__law_draw sc__law_draw rfl fun f cdv A outer s H E hr =>
    qb_cons (qs_if (qt_cmp (z_eq (hr)) (qe_ix z_ix (qe_var 0 rfl vi__law_draw_0 db__law_pen_here cd__law_pen_here) (qe_int)) (qe_int)) (qb_cons (qs_set (m := 2) sc__law_draw.nd (qe_op z_mod (qe_ix z_ix (qe_var 0 rfl vi__law_draw_0 db__law_pen_here cd__law_pen_here) (qe_int)) (qe_var 1 rfl vi__law_draw_1 db__law_many cd__law_many)) rfl lo__law_draw_2 rfl (.inl rfl)) (qb_cons (qs_asg (qe_op z_div (qe_ix z_ix (qe_var 0 rfl vi__law_draw_0 db__law_pen_here cd__law_pen_here) (qe_int)) (qe_var 1 rfl vi__law_draw_1 db__law_many cd__law_many)) (qg_sub (qe_var 0 rfl vi__law_draw_0 db__law_pen_here cd__law_pen_here) (qe_int) (z_set (hr)))) (qb_one (qs_ret (qe_var 2 rfl vi__law_draw_2 db__law_found cd__law_found))))) (qb_nil)) (qb_cons (qs_asg (qe_op z_mod (qe_op z_add (qe_op z_mul (qe_op z_mod (qe_ix z_ix (qe_var 0 rfl vi__law_draw_0 db__law_pen_here cd__law_pen_here) (qe_int)) (qe_int)) (qe_int)) (qe_int)) (qe_int)) (qg_sub (qe_var 0 rfl vi__law_draw_0 db__law_pen_here cd__law_pen_here) (qe_int) (z_set (hr)))) (qb_one (qs_ret (qe_op z_mod (qe_op z_div (qe_op z_mod (qe_op z_add (qe_op z_mul (qe_ix z_ix (qe_var 0 rfl vi__law_draw_0 db__law_pen_here cd__law_pen_here) (qe_int)) (qe_ix z_ix (qe_var 0 rfl vi__law_draw_0 db__law_pen_here cd__law_pen_here) (qe_int))) (qe_op z_mul (qe_int) (qe_ix z_ix (qe_var 0 rfl vi__law_draw_0 db__law_pen_here cd__law_pen_here) (qe_int)))) (qe_int)) (qe_int)) (qe_var 1 rfl vi__law_draw_1 db__law_many cd__law_many)))))
end K40
end

-- K40o__law_same
section
set_option Elab.async false
set_option linter.all false
set_option maxRecDepth 100000
set_option maxHeartbeats 4000000
namespace K40
open PySem PySem.Spec PyProof.Rows L2 DL
variable {P : Program} {w : World} {K : PySem.W.Frag} {mg : Str → Option Value} {base : Heap} {c : Cl}
theorem ok__law_same (T : Txt K mg c) {k : Nat} {S__law_same : DF} (d__law_same : Def P w K mg base true k "_law_same" 2 S__law_same) : Def P w K mg base true (k + 1) "_law_same" 2 (runB 4 (b__law_same S__law_same)) :=
  defQ (k := k) T.s__law_same sc__law_same rfl fun f cdv A outer s H E hr =>
    qb_cons (qs_if (qt_cmp z_is (qe_var 1 rfl vi__law_same_1 db__law_due cd__law_due) (qe_non)) (qb_one (qs_ret (qe_cmp z_is (qe_var 0 rfl vi__law_same_0 db__law_found cd__law_found) (qe_non)))) (qb_nil)) (qb_cons (qs_if (qt_of (qw_or (qt_val (qe_callB z_isi gl__law_same_isinstance T.n_isinstance bt_isinstance (qa_cons (qe_var 1 rfl vi__law_same_1 db__law_due cd__law_due) (qa_cons (qe_bltn gl__law_same_tuple T.n_tuple bt_tuple nn_tuple db_tuple) (qa_nil))) nn_isinstance db_isinstance rfl rfl)) (qw_or1 (qt_val (qe_callB z_isi gl__law_same_isinstance T.n_isinstance bt_isinstance (qa_cons (qe_var 1 rfl vi__law_same_1 db__law_due cd__law_due) (qa_cons (qe_bltn gl__law_same_list T.n_list bt_list nn_list db_list) (qa_nil))) nn_isinstance db_isinstance rfl rfl))))) (qb_cons (qs_if (qt_of (qw_or (qt_cmp (z_ne (hr)) (qe_callB z_isi gl__law_same_isinstance T.n_isinstance bt_isinstance (qa_cons (qe_var 0 rfl vi__law_same_0 db__law_found cd__law_found) (qa_cons (qe_bltn gl__law_same_tuple T.n_tuple bt_tuple nn_tuple db_tuple) (qa_nil))) nn_isinstance db_isinstance rfl rfl) (qe_callB z_isi gl__law_same_isinstance T.n_isinstance bt_isinstance (qa_cons (qe_var 1 rfl vi__law_same_1 db__law_due cd__law_due) (qa_cons (qe_bltn gl__law_same_tuple T.n_tuple bt_tuple nn_tuple db_tuple) (qa_nil))) nn_isinstance db_isinstance rfl rfl)) (qw_or1 (qt_cmp (z_ne (hr)) (qe_callB z_isi gl__law_same_isinstance T.n_isinstance bt_isinstance (qa_cons (qe_var 0 rfl vi__law_same_0 db__law_found cd__law_found) (qa_cons (qe_bltn gl__law_same_list T.n_list bt_list nn_list db_list) (qa_nil))) nn_isinstance db_isinstance rfl rfl) (qe_callB z_isi gl__law_same_isinstance T.n_isinstance bt_isinstance (qa_cons (qe_var 1 rfl vi__law_same_1 db__law_due cd__law_due) (qa_cons (qe_bltn gl__law_same_list T.n_list bt_list nn_list db_list) (qa_nil))) nn_isinstance db_isinstance rfl rfl))))) (qb_one (qs_ret (qe_bl))) (qb_nil)) (qb_cons (qs_if (qt_cmp (z_ne (hr)) (qe_callB z_len gl__law_same_len T.n_len bt_len (qa_cons (qe_var 0 rfl vi__law_same_0 db__law_found cd__law_found) (qa_nil)) nn_len db_len rfl rfl) (qe_callB z_len gl__law_same_len T.n_len bt_len (qa_cons (qe_var 1 rfl vi__law_same_1 db__law_due cd__law_due) (qa_nil)) nn_len db_len rfl rfl)) (qb_one (qs_ret (qe_bl))) (qb_nil)) (qb_cons (qs_for zp_body rfl (qi_zip gl__law_same_zip T.n_zip (qa_cons (qe_var 0 rfl vi__law_same_0 db__law_found cd__law_found) (qa_cons (qe_var 1 rfl vi__law_same_1 db__law_due cd__law_due) (qa_nil))) rfl rfl) (qg_tup rfl (qgs_cons (qg_name (m := 2) sc__law_same.nd rfl lo__law_same_2 (.inl rfl)) (qgs_cons (qg_name (m := 3) sc__law_same.nd rfl lo__law_same_3 (.inl rfl)) (qgs_nil)))) (qb_one (qs_if (qt_not (qt_val (qcN d__law_same hr ⟨rfl, rfl, rfl⟩ gl__law_same__law_same (qa_cons (qe_var 2 rfl vi__law_same_2 db__law_one cd__law_one) (qa_cons (qe_var 3 rfl vi__law_same_3 db__law_other cd__law_other) (qa_nil))) db__law_same rfl rfl))) (qb_one (qs_ret (qe_bl))) (qb_nil)))) (qb_one (qs_ret (qe_bl)))))) (qb_nil)) (qb_cons (qs_if (qt_val (qe_callB z_isi gl__law_same_isinstance T.n_isinstance bt_isinstance (qa_cons (qe_var 1 rfl vi__law_same_1 db__law_due cd__law_due) (qa_cons (qe_bltn gl__law_same_str T.n_str bt_str nn_str db_str) (qa_nil))) nn_isinstance db_isinstance rfl rfl)) (qb_one (qs_ret (qe_and (qe_callB z_isi gl__law_same_isinstance T.n_isinstance bt_isinstance (qa_cons (qe_var 0 rfl vi__law_same_0 db__law_found cd__law_found) (qa_cons (qe_bltn gl__law_same_str T.n_str bt_str nn_str db_str) (qa_nil))) nn_isinstance db_isinstance rfl rfl) (qe_one (qe_cmp (z_eq (hr)) (qe_var 0 rfl vi__law_same_0 db__law_found cd__law_found) (qe_var 1 rfl vi__law_same_1 db__law_due cd__law_due)))))) (qb_nil)) (qb_one (qs_ret (qe_and (qe_cmp (z_eq (hr)) (qe_callB z_isi gl__law_same_isinstance T.n_isinstance bt_isinstance (qa_cons (qe_var 0 rfl vi__law_same_0 db__law_found cd__law_found) (qa_cons (qe_bltn gl__law_same_bool T.n_bool bt_bool nn_bool db_bool) (qa_nil))) nn_isinstance db_isinstance rfl rfl) (qe_callB z_isi gl__law_same_isinstance T.n_isinstance bt_isinstance (qa_cons (qe_var 1 rfl vi__law_same_1 db__law_due cd__law_due) (qa_cons (qe_bltn gl__law_same_bool T.n_bool bt_bool nn_bool db_bool) (qa_nil))) nn_isinstance db_isinstance rfl rfl)) (qe_and (qe_callB z_isi gl__law_same_isinstance T.n_isinstance bt_isinstance (qa_cons (qe_var 0 rfl vi__law_same_0 db__law_found cd__law_found) (qa_cons (qe_bltn gl__law_same_int T.n_int bt_int nn_int db_int) (qa_nil))) nn_isinstance db_isinstance rfl rfl) (qe_one (qe_cmp (z_eq (hr)) (qe_var 0 rfl vi__law_same_0 db__law_found cd__law_found) (qe_var 1 rfl vi__law_same_1 db__law_due cd__law_due)))))))))
end K40
end

-- K40o__law_kind_of
section
set_option Elab.async false
set_option linter.all false
set_option maxRecDepth 100000
set_option maxHeartbeats 4000000
namespace K40
open PySem PySem.Spec PyProof.Rows L2 DL
variable {P : Program} {w : World} {K : PySem.W.Frag} {mg : Str → Option Value} {base : Heap} {c : Cl}
theorem ok__law_kind_of (T : Txt K mg c) : Def P w K mg base false 1 "_law_kind_of" 1 (runB 3 (b__law_kind_of c)) :=
  defQ (k := 0) T.s__law_kind_of sc__law_kind_of rfl fun f cdv A outer s H E hr =>
    qb_cons (qs_set (m := 1) sc__law_kind_of.nd (qe_lst (qa_cons (qe_callB (z_isiE T.cls) gl__law_kind_of_isinstance T.n_isinstance bt_isinstance (qa_cons (qe_var 0 rfl vi__law_kind_of_0 db__law_e cd__law_e) (qa_cons (qe_cls gl__law_kind_of_NoPoint T.c_NoPoint T.k_NoPoint db_NoPoint) (qa_nil))) nn_isinstance db_isinstance rfl rfl) (qa_cons (qe_callB (z_isiE T.cls) gl__law_kind_of_isinstance T.n_isinstance bt_isinstance (qa_cons (qe_var 0 rfl vi__law_kind_of_0 db__law_e cd__law_e) (qa_cons (qe_cls gl__law_kind_of_NoLot T.c_NoLot T.k_NoLot db_NoLot) (qa_nil))) nn_isinstance db_isinstance rfl rfl) (qa_cons (qe_callB (z_isiE T.cls) gl__law_kind_of_isinstance T.n_isinstance bt_isinstance (qa_cons (qe_var 0 rfl vi__law_kind_of_0 db__law_e cd__law_e) (qa_cons (qe_cls gl__law_kind_of_NoNumber T.c_NoNumber T.k_NoNumber db_NoNumber) (qa_nil))) nn_isinstance db_isinstance rfl rfl) (qa_cons (qe_callB (z_isiE T.cls) gl__law_kind_of_isinstance T.n_isinstance bt_isinstance (qa_cons (qe_var 0 rfl vi__law_kind_of_0 db__law_e cd__law_e) (qa_cons (qe_cls gl__law_kind_of_NoCircle T.c_NoCircle T.k_NoCircle db_NoCircle) (qa_nil))) nn_isinstance db_isinstance rfl rfl) (qa_nil)))))) rfl lo__law_kind_of_1 rfl (.inl rfl)) (qb_cons (qs_set (m := 1) sc__law_kind_of.nd (qe_op z_add (qe_var 1 rfl vi__law_kind_of_1 db__law_marks cd__law_marks) (qe_lst (qa_cons (qe_callB (z_isiE T.cls) gl__law_kind_of_isinstance T.n_isinstance bt_isinstance (qa_cons (qe_var 0 rfl vi__law_kind_of_0 db__law_e cd__law_e) (qa_cons (qe_cls gl__law_kind_of_NoMarks T.c_NoMarks T.k_NoMarks db_NoMarks) (qa_nil))) nn_isinstance db_isinstance rfl rfl) (qa_cons (qe_callB (z_isiE T.cls) gl__law_kind_of_isinstance T.n_isinstance bt_isinstance (qa_cons (qe_var 0 rfl vi__law_kind_of_0 db__law_e cd__law_e) (qa_cons (qe_cls gl__law_kind_of_NoFars T.c_NoFars T.k_NoFars db_NoFars) (qa_nil))) nn_isinstance db_isinstance rfl rfl) (qa_cons (qe_callB (z_isiE T.cls) gl__law_kind_of_isinstance T.n_isinstance bt_isinstance (qa_cons (qe_var 0 rfl vi__law_kind_of_0 db__law_e cd__law_e) (qa_cons (qe_cls gl__law_kind_of_NoText T.c_NoText T.k_NoText db_NoText) (qa_nil))) nn_isinstance db_isinstance rfl rfl) (qa_cons (qe_callB (z_isiE T.cls) gl__law_kind_of_isinstance T.n_isinstance bt_isinstance (qa_cons (qe_var 0 rfl vi__law_kind_of_0 db__law_e cd__law_e) (qa_cons (qe_cls gl__law_kind_of_NoLine T.c_NoLine T.k_NoLine db_NoLine) (qa_nil))) nn_isinstance db_isinstance rfl rfl) (qa_nil))))))) rfl lo__law_kind_of_1 rfl (.inl rfl)) (qb_cons (qs_set (m := 1) sc__law_kind_of.nd (qe_op z_add (qe_var 1 rfl vi__law_kind_of_1 db__law_marks cd__law_marks) (qe_lst (qa_cons (qe_callB (z_isiE T.cls) gl__law_kind_of_isinstance T.n_isinstance bt_isinstance (qa_cons (qe_var 0 rfl vi__law_kind_of_0 db__law_e cd__law_e) (qa_cons (qe_cls gl__law_kind_of_NoDeed T.c_NoDeed T.k_NoDeed db_NoDeed) (qa_nil))) nn_isinstance db_isinstance rfl rfl) (qa_cons (qe_callB (z_isiE T.cls) gl__law_kind_of_isinstance T.n_isinstance bt_isinstance (qa_cons (qe_var 0 rfl vi__law_kind_of_0 db__law_e cd__law_e) (qa_cons (qe_cls gl__law_kind_of_Alike T.c_Alike T.k_Alike db_Alike) (qa_nil))) nn_isinstance db_isinstance rfl rfl) (qa_cons (qe_callB (z_isiE T.cls) gl__law_kind_of_isinstance T.n_isinstance bt_isinstance (qa_cons (qe_var 0 rfl vi__law_kind_of_0 db__law_e cd__law_e) (qa_cons (qe_cls gl__law_kind_of_TooMany T.c_TooMany T.k_TooMany db_TooMany) (qa_nil))) nn_isinstance db_isinstance rfl rfl) (qa_nil)))))) rfl lo__law_kind_of_1 rfl (.inl rfl)) (qb_cons (qs_if (qt_of (qw_or (qt_not (qt_val (qe_callB (z_isiE T.cls) gl__law_kind_of_isinstance T.n_isinstance bt_isinstance (qa_cons (qe_var 0 rfl vi__law_kind_of_0 db__law_e cd__law_e) (qa_cons (qe_bltn gl__law_kind_of_ValueError T.n_ValueError bt_ValueError nn_ValueError db_ValueError) (qa_nil))) nn_isinstance db_isinstance rfl rfl))) (qw_or1 (qt_cmp (z_ne (hr)) (qe_bm PySem.F.plainAttrs_list PySem.F.slot_list_count PySem.F.type_list_count (.inl rfl) z_count (qe_var 1 rfl vi__law_kind_of_1 db__law_marks cd__law_marks) (qa_cons (qe_bl) (qa_nil))) (qe_int))))) (qb_one (qs_ret (qe_str))) (qb_nil)) (qb_cons (qs_if (qt_val (qe_callB (z_isiE T.cls) gl__law_kind_of_isinstance T.n_isinstance bt_isinstance (qa_cons (qe_var 0 rfl vi__law_kind_of_0 db__law_e cd__law_e) (qa_cons (qe_cls gl__law_kind_of_Alike T.c_Alike T.k_Alike db_Alike) (qa_nil))) nn_isinstance db_isinstance rfl rfl)) (qb_one (qs_ret (qe_lst (qa_cons (qe_str) (qa_cons (qe_bad) (qa_cons (qe_bad) (qa_cons (qe_bad) (qa_cons (qe_bad) (qa_nil))))))))) (qb_nil)) (qb_cons (qs_if (qt_val (qe_callB (z_isiE T.cls) gl__law_kind_of_isinstance T.n_isinstance bt_isinstance (qa_cons (qe_var 0 rfl vi__law_kind_of_0 db__law_e cd__law_e) (qa_cons (qe_cls gl__law_kind_of_TooMany T.c_TooMany T.k_TooMany db_TooMany) (qa_nil))) nn_isinstance db_isinstance rfl rfl)) (qb_one (qs_ret (qe_lst (qa_cons (qe_str) (qa_cons (qe_bad) (qa_cons (qe_bad) (qa_nil))))))) (qb_nil)) (qb_cons (qs_set (m := 2) sc__law_kind_of.nd (qe_lst (qa_cons (qe_str) (qa_cons (qe_str) (qa_cons (qe_str) (qa_cons (qe_str) (qa_cons (qe_str) (qa_cons (qe_str) (qa_cons (qe_str) (qa_cons (qe_str) (qa_cons (qe_str) (qa_nil))))))))))) rfl lo__law_kind_of_2 rfl (.inl rfl)) (qb_one (qs_ret (qe_ix z_ix (qe_var 2 rfl vi__law_kind_of_2 db__law_words cd__law_words) (qe_bm PySem.F.plainAttrs_list PySem.F.slot_list_index PySem.F.type_list_index (.inl rfl) z_index (qe_var 1 rfl vi__law_kind_of_1 db__law_marks cd__law_marks) (qa_cons (qe_bl) (qa_nil))))))))))))
end K40
end

-- K40o__law_no_number
section
set_option Elab.async false
set_option linter.all false
set_option maxRecDepth 100000
set_option maxHeartbeats 4000000
namespace K40
open PySem PySem.Spec PyProof.Rows L2 DL
variable {P : Program} {w : World} {K : PySem.W.Frag} {mg : Str → Option Value} {base : Heap} {c : Cl}
theorem ok__law_no_number (T : Txt K mg c) (d__law_draw : Def P w K mg base true 1 "_law_draw" 2 S__law_draw) : Def P w K mg base true 2 "_law_no_number" 3 (runB 4 b__law_no_number) :=
  defQ (k := 1) T.s__law_no_number sc__law_no_number rfl fun f cdv A outer s H E hr =>
    qb_cons (qs_set (m := 3) sc__law_no_number.nd (qe_lst (qa_cons (qe_op z_sub (qe_var 1 rfl vi__law_no_number_1 db__law_low cd__law_low) (qe_int)) (qa_cons (qe_op z_add (qe_var 2 rfl vi__law_no_number_2 db__law_high cd__law_high) (qe_int)) (qa_cons (qe_non) (qa_cons (qe_bl) (qa_cons (qe_str) (qa_cons (qe_tup (qa_cons (qe_var 1 rfl vi__law_no_number_1 db__law_low cd__law_low) (qa_nil))) (qa_cons (qe_lst (qa_cons (qe_var 1 rfl vi__law_no_number_1 db__law_low cd__law_low) (qa_nil))) (qa_cons (qe_op z_pow (qe_int) (qe_int)) (qa_cons (qe_op z_sub (qe_int) (qe_op z_pow (qe_int) (qe_int))) (qa_cons (qe_bl) (qa_cons (qe_op z_add (qe_var 2 rfl vi__law_no_number_2 db__law_high cd__law_high) (qe_int)) (qa_nil))))))))))))) rfl lo__law_no_number_3 rfl (.inl rfl)) (qb_one (qs_ret (qe_ix z_ix (qe_var 3 rfl vi__law_no_number_3 db__law_some cd__law_some) (qcN d__law_draw (hr).mono ⟨rfl, rfl, rfl⟩ gl__law_no_number__law_draw (qa_cons (qe_var 0 rfl vi__law_no_number_0 db__law_pen_here cd__law_pen_here) (qa_cons (qe_int) (qa_nil))) db__law_draw rfl rfl))))
end K40
end

-- K40o__law_squares
section
set_option Elab.async false
set_option linter.all false
set_option maxRecDepth 100000
set_option maxHeartbeats 4000000
namespace K40
open PySem PySem.Spec PyProof.Rows L2 DL
variable {P : Program} {w : World} {K : PySem.W.Frag} {mg : Str → Option Value} {base : Heap} {c : Cl}
theorem ok__law_squares (T : Txt K mg c) : Def P w K mg base true 1 "_law_squares" 1 (runB 5 b__law_squares) :=
  defQ (k := 0) T.s__law_squares sc__law_squares rfl fun f cdv A outer s H E hr =>
    qb_cons (qs_par3 (m := 1) (l := 2) (q := 3) rfl sc__law_squares.nd (qa_cons (qe_lstM (qa_nil)) (qa_cons (qe_int) (qa_cons (qe_int) (qa_nil)))) rfl rfl rfl (by decide) (by decide) (by decide) lk__law_squares_1 lk__law_squares_2 lk__law_squares_3 rfl rfl) (qb_cons (qs_while zp_body (qt_cmp z_le (qe_op z_mul (qe_var 3 rfl vi__law_squares_3 db__law_high cd__law_high) (qe_var 3 rfl vi__law_squares_3 db__law_high cd__law_high)) (qe_var 0 rfl vi__law_squares_0 db__law_number cd__law_number)) (qb_one (qs_set (m := 3) sc__law_squares.nd (qe_op z_add (qe_var 3 rfl vi__law_squares_3 db__law_high cd__law_high) (qe_int)) rfl lo__law_squares_3 rfl (.inl rfl)))) (qb_cons (qs_set (m := 3) sc__law_squares.nd (qe_op z_sub (qe_var 3 rfl vi__law_squares_3 db__law_high cd__law_high) (qe_int)) rfl lo__law_squares_3 rfl (.inl rfl)) (qb_cons (qs_while zp_body (qt_cmp z_le (qe_var 2 rfl vi__law_squares_2 db__law_low cd__law_low) (qe_var 3 rfl vi__law_squares_3 db__law_high cd__law_high)) (qb_cons (qs_set (m := 4) sc__law_squares.nd (qe_op z_add (qe_op z_mul (qe_var 2 rfl vi__law_squares_2 db__law_low cd__law_low) (qe_var 2 rfl vi__law_squares_2 db__law_low cd__law_low)) (qe_op z_mul (qe_var 3 rfl vi__law_squares_3 db__law_high cd__law_high) (qe_var 3 rfl vi__law_squares_3 db__law_high cd__law_high))) rfl lo__law_squares_4 rfl (.inl rfl)) (qb_cons (qs_if (qt_cmp (z_eq (hr)) (qe_var 4 rfl vi__law_squares_4 db__law_here cd__law_here) (qe_var 0 rfl vi__law_squares_0 db__law_number cd__law_number)) (qb_one (qs_expr (qe_bm PySem.F.plainAttrs_list PySem.F.slot_list_append PySem.F.type_list_append (.inl rfl) z_append (qe_var 1 rfl vi__law_squares_1 db__law_found cd__law_found) (qa_cons (qe_tup (qa_cons (qe_var 2 rfl vi__law_squares_2 db__law_low cd__law_low) (qa_cons (qe_var 3 rfl vi__law_squares_3 db__law_high cd__law_high) (qa_nil)))) (qa_nil))))) (qb_nil)) (qb_one (qs_if (qt_cmp z_le (qe_var 4 rfl vi__law_squares_4 db__law_here cd__law_here) (qe_var 0 rfl vi__law_squares_0 db__law_number cd__law_number)) (qb_one (qs_set (m := 2) sc__law_squares.nd (qe_op z_add (qe_var 2 rfl vi__law_squares_2 db__law_low cd__law_low) (qe_int)) rfl lo__law_squares_2 rfl (.inl rfl))) (qb_one (qs_set (m := 3) sc__law_squares.nd (qe_op z_sub (qe_var 3 rfl vi__law_squares_3 db__law_high cd__law_high) (qe_int)) rfl lo__law_squares_3 rfl (.inl rfl)))))))) (qb_one (qs_ret (qe_var 1 rfl vi__law_squares_1 db__law_found cd__law_found))))))
end K40
end

-- K40o__law_is_prime
section
set_option Elab.async false
set_option linter.all false
set_option maxRecDepth 100000
set_option maxHeartbeats 4000000
namespace K40
open PySem PySem.Spec PyProof.Rows L2 DL
variable {P : Program} {w : World} {K : PySem.W.Frag} {mg : Str → Option Value} {base : Heap} {c : Cl}
theorem ok__law_is_prime (T : Txt K mg c) : Def P w K mg base true 1 "_law_is_prime" 1 (runB 2 b__law_is_prime) :=
  defQ (k := 0) T.s__law_is_prime sc__law_is_prime rfl fun f cdv A outer s H E hr =>
    qb_cons (qs_set (m := 1) sc__law_is_prime.nd (qe_int) rfl lo__law_is_prime_1 rfl (.inl rfl)) (qb_cons (qs_while zp_body (qt_cmp z_le (qe_op z_mul (qe_var 1 rfl vi__law_is_prime_1 db__law_part cd__law_part) (qe_var 1 rfl vi__law_is_prime_1 db__law_part cd__law_part)) (qe_var 0 rfl vi__law_is_prime_0 db__law_number cd__law_number)) (qb_cons (qs_if (qt_cmp (z_eq (hr)) (qe_op z_mod (qe_var 0 rfl vi__law_is_prime_0 db__law_number cd__law_number) (qe_var 1 rfl vi__law_is_prime_1 db__law_part cd__law_part)) (qe_int)) (qb_one (qs_ret (qe_bl))) (qb_nil)) (qb_one (qs_set (m := 1) sc__law_is_prime.nd (qe_op z_add (qe_var 1 rfl vi__law_is_prime_1 db__law_part cd__law_part) (qe_int)) rfl lo__law_is_prime_1 rfl (.inl rfl))))) (qb_one (qs_ret (qe_cmp z_gt (qe_var 0 rfl vi__law_is_prime_0 db__law_number cd__law_number) (qe_int)))))
end K40
end

-- K40o__law_product
section
set_option Elab.async false
set_option linter.all false
set_option maxRecDepth 100000
set_option maxHeartbeats 4000000
namespace K40
open PySem PySem.Spec PyProof.Rows L2 DL
variable {P : Program} {w : World} {K : PySem.W.Frag} {mg : Str → Option Value} {base : Heap} {c : Cl}
theorem ok__law_product (T : Txt K mg c) (d__law_draw : Def P w K mg base true 1 "_law_draw" 2 S__law_draw) (d__law_is_prime : Def P w K mg base true 1 "_law_is_prime" 1 S__law_is_prime) : Def P w K mg base true 2 "_law_product" 2 (runB 6 b__law_product) :=
  defQ (k := 1) T.s__law_product sc__law_product rfl fun f cdv A outer s H E hr =>
    qb_cons (qs_par (m := 2) (l := 3) rfl sc__law_product.nd (qa_cons (qe_int) (qa_cons (qe_dct) (qa_nil))) rfl rfl (by decide) lk__law_product_2 lk__law_product_3 rfl rfl) (qb_cons (qs_for zp_body rfl (qi_range gl__law_product_range T.n_range (qa_cons (qe_op z_add (qe_int) (qcN d__law_draw (hr).mono ⟨rfl, rfl, rfl⟩ gl__law_product__law_draw (qa_cons (qe_var 0 rfl vi__law_product_0 db__law_pen_here cd__law_pen_here) (qa_cons (qe_int) (qa_nil))) db__law_draw rfl rfl)) (qa_nil)) rfl rfl) (qg_name (m := 4) sc__law_product.nd rfl lo__law_product_4 (.inl rfl)) (qb_cons (qs_set (m := 5) sc__law_product.nd (qe_ix z_ix (qe_lst (qa_cons (qe_int) (qa_cons (qe_int) (qa_cons (qe_int) (qa_cons (qe_int) (qa_cons (qe_int) (qa_cons (qe_int) (qa_cons (qe_int) (qa_cons (qe_int) (qa_cons (qe_int) (qa_cons (qe_int) (qa_nil)))))))))))) (qcN d__law_draw (hr).mono ⟨rfl, rfl, rfl⟩ gl__law_product__law_draw (qa_cons (qe_var 0 rfl vi__law_product_0 db__law_pen_here cd__law_pen_here) (qa_cons (qe_int) (qa_nil))) db__law_draw rfl rfl)) rfl lo__law_product_5 rfl (.inl rfl)) (qb_cons (qs_if (qt_cmp (z_eq (hr)) (qcN d__law_draw (hr).mono ⟨rfl, rfl, rfl⟩ gl__law_product__law_draw (qa_cons (qe_var 0 rfl vi__law_product_0 db__law_pen_here cd__law_pen_here) (qa_cons (qe_int) (qa_nil))) db__law_draw rfl rfl) (qe_int)) (qb_cons (qs_set (m := 5) sc__law_product.nd (qe_op z_add (qe_int) (qcN d__law_draw (hr).mono ⟨rfl, rfl, rfl⟩ gl__law_product__law_draw (qa_cons (qe_var 0 rfl vi__law_product_0 db__law_pen_here cd__law_pen_here) (qa_cons (qe_int) (qa_nil))) db__law_draw rfl rfl)) rfl lo__law_product_5 rfl (.inl rfl)) (qb_one (qs_while zp_body (qt_not (qt_val (qcN d__law_is_prime (hr).mono ⟨rfl, rfl, rfl⟩ gl__law_product__law_is_prime (qa_cons (qe_var 5 rfl vi__law_product_5 db__law_prime cd__law_prime) (qa_nil)) db__law_is_prime rfl rfl))) (qb_one (qs_set (m := 5) sc__law_product.nd (qe_op z_add (qe_var 5 rfl vi__law_product_5 db__law_prime cd__law_prime) (qe_int)) rfl lo__law_product_5 rfl (.inl rfl)))))) (qb_nil)) (qb_one (qs_if (qt_cmp z_le (qe_op z_mul (qe_var 2 rfl vi__law_product_2 db__law_found cd__law_found) (qe_var 5 rfl vi__law_product_5 db__law_prime cd__law_prime)) (qe_var 1 rfl vi__law_product_1 db__law_most cd__law_most)) (qb_cons (qs_set (m := 2) sc__law_product.nd (qe_op z_mul (qe_var 2 rfl vi__law_product_2 db__law_found cd__law_found) (qe_var 5 rfl vi__law_product_5 db__law_prime cd__law_prime)) rfl lo__law_product_2 rfl (.inl rfl)) (qb_one (qs_asg (qe_op z_add (qe_bm PySem.F.plainAttrs_dict PySem.F.slot_dict_get PySem.F.type_dict_get (.inr (.inl rfl)) (z_get (hr)) (qe_var 3 rfl vi__law_product_3 db__law_primes cd__law_primes) (qa_cons (qe_var 5 rfl vi__law_product_5 db__law_prime cd__law_prime) (qa_cons (qe_int) (qa_nil)))) (qe_int)) (qg_sub (qe_var 3 rfl vi__law_product_3 db__law_primes cd__law_primes) (qe_var 5 rfl vi__law_product_5 db__law_prime cd__law_prime) (z_set (hr)))))) (qb_nil)))))) (qb_one (qs_ret (qe_tup (qa_cons (qe_var 2 rfl vi__law_product_2 db__law_found cd__law_found) (qa_cons (qe_var 3 rfl vi__law_product_3 db__law_primes cd__law_primes) (qa_nil)))))))
end K40
end

-- K40o__law_came
section
set_option Elab.async false
set_option linter.all false
set_option maxRecDepth 100000
set_option maxHeartbeats 4000000
namespace K40
open PySem PySem.Spec PyProof.Rows L2 DL
variable {P : Program} {w : World} {K : PySem.W.Frag} {mg : Str → Option Value} {base : Heap} {c : Cl}
theorem ok__law_came (T : Txt K mg c) (d_sum_ways : Def P w K mg base true 4 "sum_ways" 1 (S_sum_ways c)) (d__law_kind_of : Def P w K mg base false 1 "_law_kind_of" 1 (S__law_kind_of c)) : Def P w K mg base true 5 "_law_came" 1 (runB 2 (b__law_came c)) :=
  defQ (k := 4) T.s__law_came sc__law_came rfl fun f cdv A outer s H E hr =>
    qb_one (qs_try (m := 1) ⟨rfl, rfl, rfl⟩ (fun E pn hp => qb_one (qs_ret (qcN d_sum_ways (hr).mono ⟨rfl, rfl, rfl⟩ gl__law_came_sum_ways (qa_cons (qe_var 0 rfl vi__law_came_0 db__law_number cd__law_number) (qa_nil)) db_sum_ways rfl rfl))) (fun e => qb_one (qs_ret (qcN d__law_kind_of (RoomC.mark (hr) _).mono ⟨rfl, rfl, rfl⟩ gl__law_came__law_kind_of (qa_cons (qe_var 1 rfl vi__law_came_1 db__law_e cd__law_e) (qa_nil)) db__law_kind_of rfl rfl))) gl__law_came_FarError T.c_FarError T.caught sc__law_came.nd rfl lk__law_came_1 db_FarError rfl)
end K40
end

-- K40o_law
section
set_option Elab.async false
set_option linter.all false
set_option maxRecDepth 100000
set_option maxHeartbeats 4000000
namespace K40
open PySem PySem.Spec PyProof.Rows L2 DL
variable {P : Program} {w : World} {K : PySem.W.Frag} {mg : Str → Option Value} {base : Heap} {c : Cl}
theorem ok_law (T : Txt K mg c) (d__law_cell : Def P w K mg base true 1 "_law_cell" 2 S__law_cell) (d__law_no_number : Def P w K mg base true 2 "_law_no_number" 3 S__law_no_number) (d__law_came : Def P w K mg base true 5 "_law_came" 1 (S__law_came c)) (d__law_same : Def P w K mg base true 4 "_law_same" 2 S__law_same) (d__law_squares : Def P w K mg base true 1 "_law_squares" 1 S__law_squares) (d__law_product : Def P w K mg base true 2 "_law_product" 2 S__law_product) (d__law_draw : Def P w K mg base true 1 "_law_draw" 2 S__law_draw) (d__law_pen : Def P w K mg base true 1 "_law_pen" 1 S__law_pen) : DefP P w K mg base true 6 "law" ["_law_script"] (runB 14 (b_law c)) :=
  defQP (k := 5) T.s_law sc_law rfl fun f cdv A outer s H E hr =>
    qb_cons (qs_for zp_body rfl (qi_val (qe_lst (qa_cons (qe_int) (qa_cons (qe_int) (qa_cons (qe_int) (qa_cons (qe_int) (qa_cons (qe_int) (qa_cons (qe_int) (qa_cons (qe_int) (qa_cons (qe_int) (qa_cons (qe_op z_pow (qe_int) (qe_int)) (qa_cons (qe_op z_pow (qe_int) (qe_int)) (qa_nil))))))))))))) (qg_name (m := 1) sc_law.nd rfl lo_law_1 (.inl rfl)) (qb_one (qs_if (qt_not (qt_val (qcL d__law_same (hr).mono ⟨rfl, rfl, rfl⟩ gl_law__law_same (qa_cons (qcN d__law_came (hr).mono ⟨rfl, rfl, rfl⟩ gl_law__law_came (qa_cons (qe_var 1 rfl vi_law_1 db__law_number cd__law_number) (qa_nil)) db__law_came rfl rfl) (qa_cons (qcN d__law_squares (hr).mono ⟨rfl, rfl, rfl⟩ gl_law__law_squares (qa_cons (qe_var 1 rfl vi_law_1 db__law_number cd__law_number) (qa_nil)) db__law_squares rfl rfl) (qa_nil))) db__law_same rfl rfl))) (qb_one (qs_ret (qe_bl))) (qb_nil)))) (qb_cons (qs_for zp_body rfl (qi_val (qe_op z_add (qe_lst (qa_cons (qcN d__law_cell (hr).mono ⟨rfl, rfl, rfl⟩ gl_law__law_cell (qa_cons (qe_var 0 rfl vi_law_0 db__law_script cd__law_script) (qa_cons (qe_int) (qa_nil))) db__law_cell rfl rfl) (qa_nil))) (qe_slice (qe_var 0 rfl vi_law_0 db__law_script cd__law_script) (qo_some (qe_int)) (qo_some (qe_int))))) (qg_name (m := 2) sc_law.nd rfl lo_law_2 (.inl rfl)) (qb_cons (qs_set (m := 3) sc_law.nd (qcN d__law_pen (hr).mono ⟨rfl, rfl, rfl⟩ gl_law__law_pen (qa_cons (qe_var 2 rfl vi_law_2 db__law_cell_here cd__law_cell_here) (qa_nil)) db__law_pen rfl rfl) rfl lo_law_3 rfl (.inl rfl)) (qb_cons (qs_set (m := 4) sc_law.nd (qe_ix z_ix (qe_lst (qa_cons (qe_int) (qa_cons (qe_int) (qa_cons (qe_int) (qa_nil))))) (qcN d__law_draw (hr).mono ⟨rfl, rfl, rfl⟩ gl_law__law_draw (qa_cons (qe_var 3 rfl vi_law_3 db__law_pen_here cd__law_pen_here) (qa_cons (qe_int) (qa_nil))) db__law_draw rfl rfl)) rfl lo_law_4 rfl (.inl rfl)) (qb_cons (qs_par (m := 5) (l := 6) rfl sc_law.nd (qa_cons (qcN d__law_draw (hr).mono ⟨rfl, rfl, rfl⟩ gl_law__law_draw (qa_cons (qe_var 3 rfl vi_law_3 db__law_pen_here cd__law_pen_here) (qa_cons (qe_var 4 rfl vi_law_4 db__law_wide cd__law_wide) (qa_nil))) db__law_draw rfl rfl) (qa_cons (qcN d__law_draw (hr).mono ⟨rfl, rfl, rfl⟩ gl_law__law_draw (qa_cons (qe_var 3 rfl vi_law_3 db__law_pen_here cd__law_pen_here) (qa_cons (qe_var 4 rfl vi_law_4 db__law_wide cd__law_wide) (qa_nil))) db__law_draw rfl rfl) (qa_nil))) rfl rfl (by decide) lk_law_5 lk_law_6 rfl rfl) (qb_cons (qs_set (m := 7) sc_law.nd (qe_lst (qa_cons (qcN d__law_draw (hr).mono ⟨rfl, rfl, rfl⟩ gl_law__law_draw (qa_cons (qe_var 3 rfl vi_law_3 db__law_pen_here cd__law_pen_here) (qa_cons (qe_int) (qa_nil))) db__law_draw rfl rfl) (qa_cons (qe_ix z_ix (qcN d__law_product (hr).mono ⟨rfl, rfl, rfl⟩ gl_law__law_product (qa_cons (qe_var 3 rfl vi_law_3 db__law_pen_here cd__law_pen_here) (qa_cons (qe_op z_pow (qe_int) (qe_int)) (qa_nil))) db__law_product rfl rfl) (qe_int)) (qa_cons (qe_op z_add (qe_op z_mul (qe_var 5 rfl vi_law_5 db__law_a cd__law_a) (qe_var 5 rfl vi_law_5 db__law_a cd__law_a)) (qe_op z_mul (qe_var 6 rfl vi_law_6 db__law_b cd__law_b) (qe_var 6 rfl vi_law_6 db__law_b cd__law_b))) (qa_cons (qe_op z_mul (qe_var 5 rfl vi_law_5 db__law_a cd__law_a) (qe_var 5 rfl vi_law_5 db__law_a cd__law_a)) (qa_cons (qe_op z_mul (qe_op z_mul (qe_int) (qe_var 5 rfl vi_law_5 db__law_a cd__law_a)) (qe_var 5 rfl vi_law_5 db__law_a cd__law_a)) (qa_nil))))))) rfl lo_law_7 rfl (.inl rfl)) (qb_cons (qs_for zp_body rfl (qi_val (qe_var 7 rfl vi_law_7 db__law_numbers cd__law_numbers)) (qg_name (m := 1) sc_law.nd rfl lo_law_1 (.inl rfl)) (qb_cons (qs_set (m := 8) sc_law.nd (qcN d__law_squares (hr).mono ⟨rfl, rfl, rfl⟩ gl_law__law_squares (qa_cons (qe_var 1 rfl vi_law_1 db__law_number cd__law_number) (qa_nil)) db__law_squares rfl rfl) rfl lo_law_8 rfl (.inl rfl)) (qb_cons (qs_for zp_body rfl (qi_range gl_law_range T.n_range (qa_cons (qe_int) (qa_nil)) rfl rfl) (qg_name (m := 9) sc_law.nd rfl lo_law_9 (.inl rfl)) (qb_cons (qs_set (m := 10) sc_law.nd (qcN d__law_came (hr).mono ⟨rfl, rfl, rfl⟩ gl_law__law_came (qa_cons (qe_var 1 rfl vi_law_1 db__law_number cd__law_number) (qa_nil)) db__law_came rfl rfl) rfl lo_law_10 rfl (.inl rfl)) (qb_cons (qs_if (qt_not (qt_val (qcL d__law_same (hr).mono ⟨rfl, rfl, rfl⟩ gl_law__law_same (qa_cons (qe_var 10 rfl vi_law_10 db__law_found cd__law_found) (qa_cons (qe_var 8 rfl vi_law_8 db__law_due cd__law_due) (qa_nil))) db__law_same rfl rfl))) (qb_one (qs_ret (qe_bl))) (qb_nil)) (qb_one (qs_expr (qe_bm PySem.F.plainAttrs_list PySem.F.slot_list_append PySem.F.type_list_append (.inl rfl) z_append (qe_var 10 rfl vi_law_10 db__law_found cd__law_found) (qa_cons (qe_tup (qa_nil)) (qa_nil)))))))) (qb_cons (qs_par (m := 11) (l := 12) rfl sc_law.nd (qa_cons (qcN d__law_came (hr).mono ⟨rfl, rfl, rfl⟩ gl_law__law_came (qa_cons (qe_var 1 rfl vi_law_1 db__law_number cd__law_number) (qa_nil)) db__law_came rfl rfl) (qa_cons (qcN d__law_came (hr).mono ⟨rfl, rfl, rfl⟩ gl_law__law_came (qa_cons (qe_int) (qa_nil)) db__law_came rfl rfl) (qa_nil))) rfl rfl (by decide) lk_law_11 lk_law_12 rfl rfl) (qb_one (qs_if (qt_of (qw_or (qt_cmp (z_neL (hr)) (qe_var 12 rfl vi_law_12 db__law_other cd__law_other) (qe_lst (qa_cons (qe_tup (qa_cons (qe_int) (qa_cons (qe_int) (qa_nil)))) (qa_nil)))) (qw_or1 (qt_not (qt_val (qcL d__law_same (hr).mono ⟨rfl, rfl, rfl⟩ gl_law__law_same (qa_cons (qe_var 11 rfl vi_law_11 db__law_held cd__law_held) (qa_cons (qe_var 8 rfl vi_law_8 db__law_due cd__law_due) (qa_nil))) db__law_same rfl rfl)))))) (qb_one (qs_ret (qe_bl))) (qb_nil))))))) (qb_one (qs_for zp_body rfl (qi_val (qe_lst (qa_cons (qcN d__law_no_number (hr).mono ⟨rfl, rfl, rfl⟩ gl_law__law_no_number (qa_cons (qe_var 3 rfl vi_law_3 db__law_pen_here cd__law_pen_here) (qa_cons (qe_int) (qa_cons (qe_op z_pow (qe_int) (qe_int)) (qa_nil)))) db__law_no_number rfl rfl) (qa_cons (qe_un z_neg (qe_int)) (qa_cons (qe_op z_add (qe_op z_pow (qe_int) (qe_int)) (qe_int)) (qa_nil)))))) (qg_name (m := 13) sc_law.nd rfl lo_law_13 (.inl rfl)) (qb_one (qs_if (qt_cmp (z_ne (hr)) (qcN d__law_came (hr).mono ⟨rfl, rfl, rfl⟩ gl_law__law_came (qa_cons (qe_var 13 rfl vi_law_13 db__law_odd cd__law_odd) (qa_nil)) db__law_came rfl rfl) (qe_str)) (qb_one (qs_ret (qe_bl))) (qb_nil))))))))))) (qb_one (qs_ret (qe_bl))))
end K40
end

-- K40s
section
set_option Elab.async false
set_option linter.all false
set_option maxRecDepth 100000
set_option maxHeartbeats 4000000
namespace K40
open PySem DL
theorem tru_bl (b : Bool) (S : Sto) : truD (.bl b) S = some b := rfl
theorem tru_int (i : Int) (S : Sto) : truD (.int i) S = some (i != 0) := rfl
theorem ty_int (i : Int) (S : Sto) : tyD (.int i) S = some "int" := rfl
theorem ty_bl (b : Bool) (S : Sto) : tyD (.bl b) S = some "bool" := rfl
theorem ty_non (S : Sto) : tyD .non S = some "NoneType" := rfl
theorem ty_str (x : Str) (S : Sto) : tyD (.str x) S = some "str" := rfl
theorem ty_tup (x : List D) (S : Sto) : tyD (.tup x) S = some "tuple" := rfl
theorem ty_lst (x : List D) (S : Sto) : tyD (.lst x) S = some "list" := rfl
theorem its_tup (x : List D) : itemsD (.tup x) = some x := rfl
theorem its_lst (x : List D) : itemsD (.lst x) = some x := rfl
theorem r_is_whole_int (i : Int) (S : Sto) : S_is_whole [.int i] S = .ok (.bl true) S := by
  unfold S_is_whole b_is_whole
  simp [runB, startD, outR, sSeq, sIf, sRet, sRetN, sNext, sExpr, sAsg, gNm, gSb, sPar, parOut, sPar3, parOut3, sAug, dC, dVar, d1, d2, daCons, daNil, dCallB, dCall, dTr, dNotT, dOrT, dAndT, dAnd, dOr, dNot, dIf, dChain, dTup, dLst, dLstM, dBm, dBm0, dSl, doSome, doNone, dItems, dRng, Res.bind, Res.toS, DL.resB, DL.resO, tru_bl, tru_int, ty_int, ty_bl, ty_non, ty_str, ty_tup, ty_lst, its_tup, its_lst, i2, gLt, gLe, gGt, gGe, DL.gSub, gAddI, fIsi, okTy, isSub]
theorem r_is_whole_no (d : D) (S : Sto) (h : tyD d S = some "NoneType" ∨ tyD d S = some "bool" ∨ tyD d S = some "str" ∨ tyD d S = some "tuple" ∨ tyD d S = some "list") : S_is_whole [d] S = .ok (.bl false) S := by
  unfold S_is_whole b_is_whole
  rcases h with h | h | h | h | h <;> simp [runB, startD, outR, sSeq, sIf, sRet, sRetN, sNext, sExpr, sAsg, gNm, gSb, sPar, parOut, sPar3, parOut3, sAug, dC, dVar, d1, d2, daCons, daNil, dCallB, dCall, dTr, dNotT, dOrT, dAndT, dAnd, dOr, dNot, dIf, dChain, dTup, dLst, dLstM, dBm, dBm0, dSl, doSome, doNone, dItems, dRng, Res.bind, Res.toS, DL.resB, DL.resO, tru_bl, tru_int, ty_int, ty_bl, ty_non, ty_str, ty_tup, ty_lst, its_tup, its_lst, i2, gLt, gLe, gGt, gGe, DL.gSub, gAddI, fIsi, okTy, isSub, h]
theorem r_within (i a b : Int) (S : Sto) : S_is_within [.int i, .int a, .int b] S = .ok (.bl (decide (a ≤ i ∧ i ≤ b))) S := by
  unfold S_is_within b_is_within
  simp [runB, startD, outR, sSeq, sIf, sRet, sRetN, sNext, sExpr, sAsg, gNm, gSb, sPar, parOut, sPar3, parOut3, sAug, dC, dVar, d1, d2, daCons, daNil, dCallB, dCall, dTr, dNotT, dOrT, dAndT, dAnd, dOr, dNot, dIf, dChain, dTup, dLst, dLstM, dBm, dBm0, dSl, doSome, doNone, dItems, dRng, Res.bind, Res.toS, DL.resB, DL.resO, tru_bl, tru_int, ty_int, ty_bl, ty_non, ty_str, ty_tup, ty_lst, its_tup, its_lst, i2, gLt, gLe, gGt, gGe, DL.gSub, gAddI, r_is_whole_int]
  by_cases h : a ≤ i <;> simp [h]
theorem r_within_no (d : D) (a b : Int) (S : Sto) (h : tyD d S = some "NoneType" ∨ tyD d S = some "bool" ∨ tyD d S = some "str" ∨ tyD d S = some "tuple" ∨ tyD d S = some "list") : S_is_within [d, .int a, .int b] S = .ok (.bl false) S := by
  unfold S_is_within b_is_within
  simp [runB, startD, outR, sSeq, sIf, sRet, sRetN, sNext, sExpr, sAsg, gNm, gSb, sPar, parOut, sPar3, parOut3, sAug, dC, dVar, d1, d2, daCons, daNil, dCallB, dCall, dTr, dNotT, dOrT, dAndT, dAnd, dOr, dNot, dIf, dChain, dTup, dLst, dLstM, dBm, dBm0, dSl, doSome, doNone, dItems, dRng, Res.bind, Res.toS, DL.resB, DL.resO, tru_bl, tru_int, ty_int, ty_bl, ty_non, ty_str, ty_tup, ty_lst, its_tup, its_lst, i2, gLt, gLe, gGt, gGe, DL.gSub, gAddI, r_is_whole_no d S h]

theorem set_same {S : Sto} {L : Nat} {m : MO} (h : S[L]? = some m) : S.set L m = S := by
  apply List.ext_getElem?
  intro i
  rw [List.getElem?_set]
  split
  · rename_i e
    subst e
    obtain ⟨hl, e⟩ := List.getElem?_eq_some_iff.mp h
    simp [hl, e]
  · rfl
/-- all two from both ends: k numbers from a on are left -/
def tp (n : Int) : Nat → Int → List D
  | 0, _ => []
  | k + 1, a => (if a * a + (a + k) * (a + k) = n then [.tup [.int a, .int (a + k)]] else []) ++ (if n < a * a + (a + k) * (a + k) then tp n k a else tp n k (a + 1))
theorem tp_len (n : Int) : ∀ k a, (tp n k a).length ≤ k
  | 0, a => by simp [tp]
  | k + 1, a => by
    have h1 := tp_len n k a
    have h2 := tp_len n k (a + 1)
    simp only [tp]
    split <;> split <;> simp <;> omega
noncomputable def t_ways : DT := dTr (d2 gLe (dVar 2) (dVar 3))
noncomputable def f_ways : DS := sSeq (sAsg (d2 gAdd (d2 gMulI (dVar 2) (dVar 2)) (d2 gMulI (dVar 3) (dVar 3))) (gNm 4)) (sSeq (sIf (dTr (d2 gEq (dVar 4) (dVar 0))) (sExpr (dBm "list" gAppend (dVar 1) (daCons (dTup (daCons (dVar 2) (daCons (dVar 3) (daNil)))) (daNil)))) (sNext)) (sIf (dTr (d2 gGt (dVar 4) (dVar 0))) (sAug 3 DL.gSub (dC (.int 1))) (sAug 2 gAddI (dC (.int 1)))))
theorem gEq_int (i j : Int) (S : Sto) : gEq (.int i) (.int j) S = .ok (.bl (decide (i = j))) S := by
  unfold gEq
  by_cases h : i = j <;> simp [pl, eqD, h]
theorem gMul_ok (i j : Int) (S : Sto) (h : -(2 ^ 64) < i ∧ i < 2 ^ 64) : gMulI (.int i) (.int j) S = .ok (.int (i * j)) S := by
  unfold gMulI i2
  rw [cMulS_eq]
  unfold cMul
  simp only [h, and_self, decide_true, Bool.true_or, if_true]
theorem gAdd_int (i j : Int) (S : Sto) : gAdd (.int i) (.int j) S = .ok (.int (i + j)) S := rfl
theorem step_ways (n a b : Int) (L : Nat) (acc : List D) (S : Sto) (x : Option D) (hS : S[L]? = some (.lst acc)) (hl : acc.length < lim) (ha : 0 ≤ a) (hab : a ≤ b) (hb : b < 2 ^ 64) :
    f_ways [some (.int n), some (.loc L), some (.int a), some (.int b), x] S = .nx (if n < a * a + b * b then [some (.int n), some (.loc L), some (.int a), some (.int (b - 1)), some (.int (a * a + b * b))] else [some (.int n), some (.loc L), some (.int (a + 1)), some (.int b), some (.int (a * a + b * b))])
      (S.set L (.lst (acc ++ if a * a + b * b = n then [.tup [.int a, .int b]] else []))) := by
  unfold f_ways
  have h1 := gMul_ok a a S ⟨by omega, by omega⟩
  have h2 := gMul_ok b b S ⟨by omega, by omega⟩
  have hty : tyD (.loc L) S = some "list" := by simp [tyD, hS]
  have hlim : 2 ≤ lim := by decide
  by_cases e : a * a + b * b = n
  · subst e
    simp [runB, startD, outR, sSeq, sIf, sRet, sRetN, sNext, sExpr, sAsg, gNm, gSb, sPar, parOut, sPar3, parOut3, sAug, dC, dVar, d1, d2, daCons, daNil, dCallB, dCall, dTr, dNotT, dOrT, dAndT, dAnd, dOr, dNot, dIf, dChain, dTup, dLst, dLstM, dBm, dBm0, dSl, doSome, doNone, dItems, dRng, Res.bind, Res.toS, DL.resB, DL.resO, tru_bl, tru_int, ty_int, ty_bl, ty_non, ty_str, ty_tup, ty_lst, its_tup, its_lst, i2, gLt, gLe, gGt, gGe, DL.gSub, gAddI, h1, h2, gAdd_int, gEq_int, hty, gAppend, hS, hl, hlim]
  · by_cases g : n < a * a + b * b
    · simp [runB, startD, outR, sSeq, sIf, sRet, sRetN, sNext, sExpr, sAsg, gNm, gSb, sPar, parOut, sPar3, parOut3, sAug, dC, dVar, d1, d2, daCons, daNil, dCallB, dCall, dTr, dNotT, dOrT, dAndT, dAnd, dOr, dNot, dIf, dChain, dTup, dLst, dLstM, dBm, dBm0, dSl, doSome, doNone, dItems, dRng, Res.bind, Res.toS, DL.resB, DL.resO, tru_bl, tru_int, ty_int, ty_bl, ty_non, ty_str, ty_tup, ty_lst, its_tup, its_lst, i2, gLt, gLe, gGt, gGe, DL.gSub, gAddI, h1, h2, gAdd_int, gEq_int, e, g, set_same hS]
    · simp [runB, startD, outR, sSeq, sIf, sRet, sRetN, sNext, sExpr, sAsg, gNm, gSb, sPar, parOut, sPar3, parOut3, sAug, dC, dVar, d1, d2, daCons, daNil, dCallB, dCall, dTr, dNotT, dOrT, dAndT, dAnd, dOr, dNot, dIf, dChain, dTup, dLst, dLstM, dBm, dBm0, dSl, doSome, doNone, dItems, dRng, Res.bind, Res.toS, DL.resB, DL.resO, tru_bl, tru_int, ty_int, ty_bl, ty_non, ty_str, ty_tup, ty_lst, its_tup, its_lst, i2, gLt, gLe, gGt, gGe, DL.gSub, gAddI, h1, h2, gAdd_int, gEq_int, e, g, set_same hS]

def StepOk (f : DS) (n : Int) (L : Nat) : Prop := ∀ (a b : Int) (acc : List D) (S : Sto) (x : Option D), S[L]? = some (.lst acc) → acc.length < lim → 0 ≤ a → a ≤ b → b < 2 ^ 64 →
    f [some (.int n), some (.loc L), some (.int a), some (.int b), x] S = .nx (if n < a * a + b * b then [some (.int n), some (.loc L), some (.int a), some (.int (b - 1)), some (.int (a * a + b * b))] else [some (.int n), some (.loc L), some (.int (a + 1)), some (.int b), some (.int (a * a + b * b))])
      (S.set L (.lst (acc ++ if a * a + b * b = n then [.tup [.int a, .int b]] else [])))
theorem loop_ways (f : DS) (n : Int) (L : Nat) (step : StepOk f n L) : ∀ (k N : Nat) (a : Int) (acc : List D) (S : Sto) (x : Option D), k < N → S[L]? = some (.lst acc) → acc.length + k ≤ lim → 0 ≤ a → a + k < 2 ^ 32 →
    ∃ p q r, whileD t_ways f N [some (.int n), some (.loc L), some (.int a), some (.int (a + k - 1)), x] S = .nx [some (.int n), some (.loc L), p, q, r] (S.set L (.lst (acc ++ tp n k a)))
  | 0, N + 1, a, acc, S, x, _, hS, _, _, _ => by
    refine ⟨some (.int a), some (.int (a - 1)), x, ?_⟩
    unfold whileD t_ways
    have : ¬ a ≤ a - 1 := by omega
    simp [runB, startD, outR, sSeq, sIf, sRet, sRetN, sNext, sExpr, sAsg, gNm, gSb, sPar, parOut, sPar3, parOut3, sAug, dC, dVar, d1, d2, daCons, daNil, dCallB, dCall, dTr, dNotT, dOrT, dAndT, dAnd, dOr, dNot, dIf, dChain, dTup, dLst, dLstM, dBm, dBm0, dSl, doSome, doNone, dItems, dRng, Res.bind, Res.toS, DL.resB, DL.resO, tru_bl, tru_int, ty_int, ty_bl, ty_non, ty_str, ty_tup, ty_lst, its_tup, its_lst, i2, gLt, gLe, gGt, gGe, DL.gSub, gAddI, this, tp, set_same hS]
  | k + 1, N + 1, a, acc, S, x, hN, hS, hl, ha, hb => by
    unfold whileD
    have hc : t_ways [some (.int n), some (.loc L), some (.int a), some (.int (a + (k + 1 : Nat) - 1)), x] S = .ok true S := by
      unfold t_ways
      have : a ≤ a + (k + 1 : Nat) - 1 := by omega
      simp only [dTr, d2, dVar, gLe, i2, Res.bind, List.getElem?_cons_succ, List.getElem?_cons_zero, if_true, this, decide_true, tru_bl, DL.resB]
    have eb : a + ((k + 1 : Nat) : Int) - 1 = a + k := by omega
    rw [hc]
    rw [eb]
    have hs := step a (a + k) acc S x hS (by omega) ha (by omega) (by omega)
    have hS' : ∀ ws, (S.set L (MO.lst ws))[L]? = some (.lst ws) := fun ws => by
      obtain ⟨hl, _⟩ := List.getElem?_eq_some_iff.mp hS
      simp [hl]
    simp only [Res.toS, if_true, hs]
    have hl' : (acc ++ if a * a + (a + k) * (a + k) = n then [D.tup [.int a, .int (a + k)]] else []).length + k ≤ lim := by
      split <;> simp <;> omega
    by_cases g : n < a * a + (a + k) * (a + k)
    · simp only [g, if_true]
      obtain ⟨p, q, r, e⟩ := loop_ways f n L step k N a _ _ (some (.int (a * a + (a + k) * (a + k)))) (by omega) (hS' _) hl' ha (by omega)
      refine ⟨p, q, r, ?_⟩
      rw [e, List.set_set]
      simp only [tp, g, if_true, List.append_assoc]
    · simp only [g, if_false]
      have e2 : a + (k : Int) = (a + 1) + k - 1 := by omega
      obtain ⟨p, q, r, e⟩ := loop_ways f n L step k N (a + 1) _ _ (some (.int (a * a + (a + k) * (a + k)))) (by omega) (hS' _) hl' (by omega) (by omega)
      refine ⟨p, q, r, ?_⟩
      rw [← e2] at e
      rw [e, List.set_set]
      simp only [tp, g, if_false, List.append_assoc]
theorem tp_ext (n : Int) (r : Nat) (h : n < ((r : Int) + 1) * (r + 1)) : ∀ j : Nat, tp n (r + 1 + j) 0 = tp n (r + 1) 0
  | 0 => rfl
  | j + 1 => by
    have ih := tp_ext n r h j
    have e : r + 1 + (j + 1) = (r + 1 + j) + 1 := by omega
    rw [e]
    have hb : n < (0 : Int) * 0 + (0 + ((r + 1 + j : Nat) : Int)) * (0 + ((r + 1 + j : Nat) : Int)) := by
      have e1 : (0 + ((r + 1 + j : Nat) : Int)) = (r : Int) + 1 + j := by omega
      rw [e1]
      have : ((r : Int) + 1) * (r + 1) ≤ ((r : Int) + 1 + j) * ((r : Int) + 1 + j) := Int.mul_le_mul (by omega) (by omega) (by omega) (by omega)
      omega
    simp only [tp, hb, if_true, ih]
    have : ¬ ((0 : Int) * 0 + (0 + ((r + 1 + j : Nat) : Int)) * (0 + ((r + 1 + j : Nat) : Int)) = n) := by omega
    simp only [this, if_false, List.nil_append]
/-- n's ways -/
theorem ways_ex : ∃ W : Int → List D, ∀ n, W n = tp n 65536 0 := ⟨_, fun _ => rfl⟩
noncomputable def ways : Int → List D := Classical.choose ways_ex
theorem ways_eq (n : Int) : ways n = tp n 65536 0 := Classical.choose_spec ways_ex n
theorem ways_of {n : Int} {r : Nat} (h : n < ((r : Int) + 1) * (r + 1)) (hr : r < 65536) : tp n (r + 1) 0 = ways n := by
  have := tp_ext n r h (65535 - r)
  rw [← this, ways_eq]
  congr 1
  omega
theorem r_need (i a b : Int) (S : Sto) (c : Cl) (h : a ≤ i ∧ i ≤ b) : S_need_within c [.int i, .int a, .int b] S = .ok .non S := by
  unfold S_need_within b_need_within
  simp [runB, startD, outR, sSeq, sIf, sRet, sRetN, sNext, sExpr, sAsg, gNm, gSb, sPar, parOut, sPar3, parOut3, sAug, dC, dVar, d1, d2, daCons, daNil, dCallB, dCall, dTr, dNotT, dOrT, dAndT, dAnd, dOr, dNot, dIf, dChain, dTup, dLst, dLstM, dBm, dBm0, dSl, doSome, doNone, dItems, dRng, Res.bind, Res.toS, DL.resB, DL.resO, tru_bl, tru_int, ty_int, ty_bl, ty_non, ty_str, ty_tup, ty_lst, its_tup, its_lst, i2, gLt, gLe, gGt, gGe, DL.gSub, gAddI, r_within, h]
theorem fmt_0 (S : Sto) : gFmt (.int 0) S = .ok (.str (toString (0 : Int))) S := rfl
theorem fmt_9 (S : Sto) : gFmt (.int 1000000000) S = .ok (.str (toString (1000000000 : Int))) S := by
  unfold gFmt
  have : (Int.natAbs 1000000000).log2 < 1920 := by decide +kernel
  simp only [this, if_true]
theorem r_need_no (d : D) (S : Sto) (c : Cl) (h : S_is_within [d, .int 0, .int 1000000000] S = .ok (.bl false) S) : S_need_within c [d, .int 0, .int 1000000000] S = .ex (.ref c.NoNumber) .non S := by
  unfold S_need_within b_need_within
  have j1 : (Str.empty ++ ("a whole number from " : Str)).length ≤ lim := by decide +kernel
  have j2 : (Str.empty ++ ("a whole number from " : Str) ++ ((toString (0 : Int) : String) : Str)).length ≤ lim := by decide +kernel
  have j3 : (Str.empty ++ ("a whole number from " : Str) ++ ((toString (0 : Int) : String) : Str) ++ (" to " : Str)).length ≤ lim := by decide +kernel
  have j4 : (Str.empty ++ ("a whole number from " : Str) ++ ((toString (0 : Int) : String) : Str) ++ (" to " : Str) ++ ((toString (1000000000 : Int) : String) : Str)).length ≤ lim := by decide +kernel
  have j5 : (Str.empty ++ ("a whole number from " : Str) ++ ((toString (0 : Int) : String) : Str) ++ (" to " : Str) ++ ((toString (1000000000 : Int) : String) : Str) ++ (" is needed" : Str)).length ≤ lim := by decide +kernel
  have hj : dJoin [dC (.str "a whole number from "), d1 gFmt (dVar 1), dC (.str " to "), d1 gFmt (dVar 2), dC (.str " is needed")] [some d, some (.int 0), some (.int 1000000000)] S = .ok (.str (Str.empty ++ ("a whole number from " : Str) ++ ((toString (0 : Int) : String) : Str) ++ (" to " : Str) ++ ((toString (1000000000 : Int) : String) : Str) ++ (" is needed" : Str))) S := by
    simp only [dJoin, joinD, dC, d1, dVar, Res.bind, List.getElem?_cons_succ, List.getElem?_cons_zero, j1, if_true]
    rw [fmt_0]
    simp only [j2, if_true, j3]
    rw [fmt_9]
    simp only [j4, if_true, j5]
  have l1 : ∀ x : D, [x].length ≤ lim := fun x => by show 1 ≤ lim; decide
  simp [runB, startD, outR, sSeq, sIf, sRet, sRetN, sNext, sExpr, sAsg, gNm, gSb, sPar, parOut, sPar3, parOut3, sAug, dC, dVar, d1, d2, daCons, daNil, dCallB, dCall, dTr, dNotT, dOrT, dAndT, dAnd, dOr, dNot, dIf, dChain, dTup, dLst, dLstM, dBm, dBm0, dSl, doSome, doNone, dItems, dRng, Res.bind, Res.toS, DL.resB, DL.resO, tru_bl, tru_int, ty_int, ty_bl, ty_non, ty_str, ty_tup, ty_lst, its_tup, its_lst, i2, gLt, gLe, gGt, gGe, DL.gSub, gAddI, h, sRaise]
  simp only [hj, l1, if_true]
theorem pow_9 (S : Sto) : gPow (.int 10) (.int 9) S = .ok (.int 1000000000) S := rfl
theorem div_2 (i : Int) (S : Sto) : gDiv (.int i) (.int 2) S = .ok (.int (i / 2)) S := rfl
theorem shl_1 (i : Int) (S : Sto) (h : 0 ≤ i ∧ i ≤ 1000000) : gShl (.int 1) (.int i) S = .ok (.int (2 ^ i.toNat)) S := by
  unfold gShl i2 cPow
  have : (Int.natAbs 1) < 2 ^ 64 := by decide
  simp [h, this]
theorem b_ways (c : Cl) : b_sum_ways c = sSeq (sExpr (dCall 3 (S_need_within c) (daCons (dVar 0) (daCons (dC (.int 0)) (daCons (d2 gPow (dC (.int 10)) (dC (.int 9))) (daNil)))))) (sSeq (sAsg (dLstM (daNil)) (gNm 1)) (sSeq (sAsg (dC (.int 0)) (gNm 2)) (sSeq (sAsg (dCall 1 S_above_root (daCons (dVar 0) (daNil))) (gNm 3)) (sSeq (sWhile t_ways f_ways) (sRet (dVar 1)))))) := rfl
theorem bits_ok (n : Int) (h : 0 ≤ n ∧ n ≤ 1000000000) : Builtin.Int.intBits n ≤ 30 ∧ n < 2 ^ (Builtin.Int.intBits n) := by
  unfold Builtin.Int.intBits
  by_cases z : n = 0
  · subst z; simp
  · have hz : (n == 0) = false := by simp [z]
    rw [hz]
    obtain ⟨m, rfl⟩ : ∃ m : Nat, n = m := ⟨n.toNat, by omega⟩
    have hm : m ≠ 0 := by omega
    simp only [Bool.false_eq_true, if_false, Int.natAbs_natCast]
    refine ⟨?_, ?_⟩
    · have : m.log2 < 30 := (Nat.log2_lt hm).mpr (by omega)
      omega
    · have := @Nat.lt_log2_self m
      exact_mod_cast this
theorem while_ways (f : DS) (n : Int) (S : Sto) (step : StepOk f n S.length) (T : Nat) (hT : T ≤ 32768) (hn : n < ((T : Int) + 1) * (T + 1)) : ∃ p qq r, sWhile t_ways f [some (.int n), some (.loc S.length), some (.int 0), some (.int T), none] (S ++ [MO.lst []]) = .nx [some (.int n), some (.loc S.length), p, qq, r] (S ++ [.lst (ways n)]) := by
  have hS1 : (S ++ [MO.lst []])[S.length]? = some (.lst []) := by simp
  have hlm : ([] : List D).length + (T + 1) ≤ lim := by show 0 + (T + 1) ≤ lim; unfold lim; omega
  have hbg : T + 1 < big := by rw [big_eq]; omega
  obtain ⟨p, qq, r, e⟩ := loop_ways f n S.length step (T + 1) big 0 [] (S ++ [MO.lst []]) none hbg hS1 hlm (by omega) (by omega)
  refine ⟨p, qq, r, ?_⟩
  have e0 : (0 : Int) + ((T + 1 : Nat) : Int) - 1 = T := by omega
  rw [e0] at e
  unfold sWhile
  rw [e]
  have e1 : tp n (T + 1) 0 = ways n := ways_of hn (by omega)
  rw [e1]
  simp
theorem half_ok (B : Nat) (n : Int) (hB : B ≤ 30 ∧ n < 2 ^ B) : ∃ q T : Nat, ((B : Int) + 1) / 2 = q ∧ q ≤ 15 ∧ (2 : Int) ^ q = T ∧ T ≤ 32768 ∧ n < (T : Int) * T := by
  refine ⟨(B + 1) / 2, 2 ^ ((B + 1) / 2), by omega, by omega, by push_cast; rfl, ?_, ?_⟩
  · have : (2 : Nat) ^ ((B + 1) / 2) ≤ 2 ^ 15 := Nat.pow_le_pow_right (by decide) (by omega)
    exact this
  · have : (2 : Nat) ^ B ≤ 2 ^ ((B + 1) / 2) * 2 ^ ((B + 1) / 2) := by rw [← Nat.pow_add]; exact Nat.pow_le_pow_right (by decide) (by omega)
    have h2 : (2 : Int) ^ B ≤ ((2 ^ ((B + 1) / 2) : Nat) : Int) * ((2 ^ ((B + 1) / 2) : Nat) : Int) := by exact_mod_cast this
    omega
theorem bits_at (n : Int) (S : Sto) : gBits (.int n) [] S = .ok (.int (Builtin.Int.intBits n)) S := rfl
theorem r_ways (n : Int) (S : Sto) (c : Cl) (h : 0 ≤ n ∧ n ≤ 1000000000) : S_sum_ways c [.int n] S = .ok (.loc S.length) (S ++ [.lst (ways n)]) := by
  unfold S_sum_ways
  rw [b_ways]
  obtain ⟨q, T, h1, h2, h3, h4, h5⟩ := half_ok _ n (bits_ok n h)
  have h5' : n < ((T : Int) + 1) * (T + 1) := by
    have : (T : Int) * T ≤ (T + 1) * (T + 1) := Int.mul_le_mul (by omega) (by omega) (by omega) (by omega)
    omega
  obtain ⟨p, qq, r, hw⟩ := while_ways f_ways n S (fun a b acc S x => step_ways n a b _ acc S x) T h4 h5'
  have hsh : gShl (.int 1) (.int (q : Int)) (S ++ [MO.lst []]) = .ok (.int T) (S ++ [MO.lst []]) := by
    rw [shl_1 (q : Int) _ ⟨by omega, by omega⟩, Int.toNat_natCast, h3]
  have hro : S_above_root [.int n] (S ++ [MO.lst []]) = .ok (.int T) (S ++ [MO.lst []]) := by
    unfold S_above_root b_above_root
    simp [runB, startD, outR, sSeq, sIf, sRet, sRetN, sNext, sExpr, sAsg, gNm, gSb, sPar, parOut, sPar3, parOut3, sAug, dC, dVar, d1, d2, daCons, daNil, dCallB, dCall, dTr, dNotT, dOrT, dAndT, dAnd, dOr, dNot, dIf, dChain, dTup, dLst, dLstM, dBm, dBm0, dSl, doSome, doNone, dItems, dRng, Res.bind, Res.toS, DL.resB, DL.resO, tru_bl, tru_int, ty_int, ty_bl, ty_non, ty_str, ty_tup, ty_lst, its_tup, its_lst, i2, gLt, gLe, gGt, gGe, DL.gSub, gAddI, bits_at, gAdd_int, div_2, h1, hsh]
  simp [runB, startD, outR, sSeq, sIf, sRet, sRetN, sNext, sExpr, sAsg, gNm, gSb, sPar, parOut, sPar3, parOut3, sAug, dC, dVar, d1, d2, daCons, daNil, dCallB, dCall, dTr, dNotT, dOrT, dAndT, dAnd, dOr, dNot, dIf, dChain, dTup, dLst, dLstM, dBm, dBm0, dSl, doSome, doNone, dItems, dRng, Res.bind, Res.toS, DL.resB, DL.resO, tru_bl, tru_int, ty_int, ty_bl, ty_non, ty_str, ty_tup, ty_lst, its_tup, its_lst, i2, gLt, gLe, gGt, gGe, DL.gSub, gAddI, r_need n 0 1000000000 S c h, pow_9, hro, hw]

theorem r_ways_no (d : D) (S : Sto) (c : Cl) (h : S_is_within [d, .int 0, .int 1000000000] S = .ok (.bl false) S) : S_sum_ways c [d] S = .ex (.ref c.NoNumber) .non S := by
  unfold S_sum_ways
  rw [b_ways]
  simp [runB, startD, outR, sSeq, sIf, sRet, sRetN, sNext, sExpr, sAsg, gNm, gSb, sPar, parOut, sPar3, parOut3, sAug, dC, dVar, d1, d2, daCons, daNil, dCallB, dCall, dTr, dNotT, dOrT, dAndT, dAnd, dOr, dNot, dIf, dChain, dTup, dLst, dLstM, dBm, dBm0, dSl, doSome, doNone, dItems, dRng, Res.bind, Res.toS, DL.resB, DL.resO, tru_bl, tru_int, ty_int, ty_bl, ty_non, ty_str, ty_tup, ty_lst, its_tup, its_lst, i2, gLt, gLe, gGt, gGe, DL.gSub, gAddI, r_need_no d S c h, pow_9]
theorem gNe_int (i j : Int) (S : Sto) : gNe (.int i) (.int j) S = .ok (.bl (decide (i ≠ j))) S := by
  unfold gNe
  by_cases h : i = j <;> simp [pl, eqD, h]
theorem isiE_obj {cl : List Addr} {C B : Addr} (hC : C ∈ cl) (hB : B ∈ cl) (S : Sto) : fIsiE cl [.exn (.ref C), .obj B] S = .ok (.bl (C == B)) S := by
  simp [fIsiE, hC, hB]
theorem isiE_ve {cl : List Addr} {C : Addr} (hC : C ∈ cl) (S : Sto) : fIsiE cl [.exn (.ref C), .ty "ValueError"] S = .ok (.bl true) S := by
  simp [fIsiE, hC]
theorem r_kind (c : Cl) (nd : (clsL c).Nodup) (S : Sto) : S__law_kind_of c [.exn (.ref c.NoNumber)] S = .ok (.str "number") S := by
  have m : ∀ x ∈ clsL c, x ∈ clsL c := fun _ h => h
  have mN : c.NoNumber ∈ clsL c := by simp [clsL]
  have k : ∀ B ∈ clsL c, ∀ S, fIsiE (clsL c) [.exn (.ref c.NoNumber), .obj B] S = .ok (.bl (c.NoNumber == B)) S := fun B hB S => isiE_obj mN hB S
  have nd' := nd
  simp only [clsL, List.nodup_cons, List.mem_cons, not_or, List.not_mem_nil, not_false_eq_true, List.nodup_nil, and_true] at nd'
  obtain ⟨n1, n2, n3, n4, n5, n6, n7, n8, n9, n10⟩ := nd'
  have e1 : (c.NoNumber == c.NoPoint) = false := by simpa using fun h => n1.2.1 h.symm
  have e2 : (c.NoNumber == c.NoLot) = false := by simpa using fun h => n2.1 h.symm
  have e4 : (c.NoNumber == c.NoCircle) = false := by simpa using n3.1
  have e5 : (c.NoNumber == c.NoMarks) = false := by simpa using n3.2.1
  have e6 : (c.NoNumber == c.NoFars) = false := by simpa using n3.2.2.1
  have e7 : (c.NoNumber == c.NoText) = false := by simpa using n3.2.2.2.1
  have e8 : (c.NoNumber == c.NoLine) = false := by simpa using n3.2.2.2.2.1
  have e9 : (c.NoNumber == c.NoDeed) = false := by simpa using n3.2.2.2.2.2.1
  have e10 : (c.NoNumber == c.Alike) = false := by simpa using n3.2.2.2.2.2.2.1
  have e11 : (c.NoNumber == c.TooMany) = false := by simpa using n3.2.2.2.2.2.2.2
  have l4 : 4 ≤ lim := by decide
  have l8 : 8 ≤ lim := by decide
  have l11 : 11 ≤ lim := by decide
  have l3 : 3 ≤ lim := by decide
  have l9 : 9 ≤ lim := by decide
  unfold S__law_kind_of b__law_kind_of
  simp [runB, startD, outR, sSeq, sIf, sRet, sRetN, sNext, sExpr, sAsg, gNm, gSb, sPar, parOut, sPar3, parOut3, sAug, dC, dVar, d1, d2, daCons, daNil, dCallB, dCall, dTr, dNotT, dOrT, dAndT, dAnd, dOr, dNot, dIf, dChain, dTup, dLst, dLstM, dBm, dBm0, dSl, doSome, doNone, dItems, dRng, Res.bind, Res.toS, DL.resB, DL.resO, tru_bl, tru_int, ty_int, ty_bl, ty_non, ty_str, ty_tup, ty_lst, its_tup, its_lst, i2, gLt, gLe, gGt, gGe, DL.gSub, gAddI, k c.NoPoint (by simp [clsL]), k c.NoLot (by simp [clsL]), k c.NoNumber mN, k c.NoCircle (by simp [clsL]), k c.NoMarks (by simp [clsL]), k c.NoFars (by simp [clsL]), k c.NoText (by simp [clsL]), k c.NoLine (by simp [clsL]), k c.NoDeed (by simp [clsL]), k c.Alike (by simp [clsL]), k c.TooMany (by simp [clsL]),
    e1, e2, e4, e5, e6, e7, e8, e9, e10, e11, l3, l4, l8, l9, l11, gAdd, gCount, boolsD, isiE_ve mN, gNe_int, gIndex, idxB, gIx, L2.atI, L2.ixN]
theorem r_came (n : Int) (S : Sto) (c : Cl) (h : 0 ≤ n ∧ n ≤ 1000000000) : S__law_came c [.int n] S = .ok (.loc S.length) (S ++ [.lst (ways n)]) := by
  unfold S__law_came b__law_came
  simp [runB, startD, outR, sSeq, sIf, sRet, sRetN, sNext, sExpr, sAsg, gNm, gSb, sPar, parOut, sPar3, parOut3, sAug, dC, dVar, d1, d2, daCons, daNil, dCallB, dCall, dTr, dNotT, dOrT, dAndT, dAnd, dOr, dNot, dIf, dChain, dTup, dLst, dLstM, dBm, dBm0, dSl, doSome, doNone, dItems, dRng, Res.bind, Res.toS, DL.resB, DL.resO, tru_bl, tru_int, ty_int, ty_bl, ty_non, ty_str, ty_tup, ty_lst, its_tup, its_lst, i2, gLt, gLe, gGt, gGe, DL.gSub, gAddI, sTry, r_ways n S c h]
theorem r_came_no (d : D) (S : Sto) (c : Cl) (nd : (clsL c).Nodup) (h : S_is_within [d, .int 0, .int 1000000000] S = .ok (.bl false) S) : S__law_came c [d] S = .ok (.str "number") S := by
  unfold S__law_came b__law_came
  have hc : Value.ref c.NoNumber ∈ caught c := by simp [caught]
  simp [runB, startD, outR, sSeq, sIf, sRet, sRetN, sNext, sExpr, sAsg, gNm, gSb, sPar, parOut, sPar3, parOut3, sAug, dC, dVar, d1, d2, daCons, daNil, dCallB, dCall, dTr, dNotT, dOrT, dAndT, dAnd, dOr, dNot, dIf, dChain, dTup, dLst, dLstM, dBm, dBm0, dSl, doSome, doNone, dItems, dRng, Res.bind, Res.toS, DL.resB, DL.resO, tru_bl, tru_int, ty_int, ty_bl, ty_non, ty_str, ty_tup, ty_lst, its_tup, its_lst, i2, gLt, gLe, gGt, gGe, DL.gSub, gAddI, sTry, r_ways_no d S c h, hc, r_kind c nd]

end K40
end

-- K40s2
section
set_option Elab.async false
set_option linter.all false
set_option maxRecDepth 100000
set_option maxHeartbeats 4000000
namespace K40
open PySem DL
theorem root_ex : ∀ m : Nat, ∃ r : Nat, r * r ≤ m ∧ m < (r + 1) * (r + 1)
  | 0 => ⟨0, by omega, by omega⟩
  | m + 1 => by
    obtain ⟨r, h1, h2⟩ := root_ex m
    by_cases h : m + 1 < (r + 1) * (r + 1)
    · exact ⟨r, by omega, h⟩
    · refine ⟨r + 1, by omega, ?_⟩
      have : (r + 1 + 1) * (r + 1 + 1) = (r + 1) * (r + 1) + (2 * r + 3) := by
        simp only [Nat.mul_add, Nat.add_mul]
        omega
      omega
noncomputable def t_rt : DT := dTr (d2 gLe (d2 gMulI (dVar 3) (dVar 3)) (dVar 0))
noncomputable def f_rt : DS := sAsg (d2 gAdd (dVar 3) (dC (.int 1))) (gNm 3)
noncomputable def f_sq : DS := sSeq (sAsg (d2 gAdd (d2 gMulI (dVar 2) (dVar 2)) (d2 gMulI (dVar 3) (dVar 3))) (gNm 4)) (sSeq (sIf (dTr (d2 gEq (dVar 4) (dVar 0))) (sExpr (dBm "list" gAppend (dVar 1) (daCons (dTup (daCons (dVar 2) (daCons (dVar 3) (daNil)))) (daNil)))) (sNext)) (sIf (dTr (d2 gLe (dVar 4) (dVar 0))) (sAsg (d2 gAdd (dVar 2) (dC (.int 1))) (gNm 2)) (sAsg (d2 DL.gSub (dVar 3) (dC (.int 1))) (gNm 3))))
theorem b_squares : b__law_squares = sSeq (sPar3 1 2 3 (daCons (dLstM (daNil)) (daCons (dC (.int 0)) (daCons (dC (.int 0)) (daNil))))) (sSeq (sWhile t_rt f_rt) (sSeq (sAsg (d2 DL.gSub (dVar 3) (dC (.int 1))) (gNm 3)) (sSeq (sWhile t_ways f_sq) (sRet (dVar 1))))) := rfl
theorem step_sq (n : Int) (L : Nat) : StepOk f_sq n L := by
  intro a b acc S x hS hl ha hab hb
  unfold f_sq
  have h1 := gMul_ok a a S ⟨by omega, by omega⟩
  have h2 := gMul_ok b b S ⟨by omega, by omega⟩
  have hty : tyD (.loc L) S = some "list" := by simp [tyD, hS]
  have hlim : 2 ≤ lim := by decide
  by_cases e : a * a + b * b = n
  · subst e
    simp [runB, startD, outR, sSeq, sIf, sRet, sRetN, sNext, sExpr, sAsg, gNm, gSb, sPar, parOut, sPar3, parOut3, sAug, dC, dVar, d1, d2, daCons, daNil, dCallB, dCall, dTr, dNotT, dOrT, dAndT, dAnd, dOr, dNot, dIf, dChain, dTup, dLst, dLstM, dBm, dBm0, dSl, doSome, doNone, dItems, dRng, Res.bind, Res.toS, DL.resB, DL.resO, tru_bl, tru_int, ty_int, ty_bl, ty_non, ty_str, ty_tup, ty_lst, its_tup, its_lst, i2, gLt, gLe, gGt, gGe, DL.gSub, gAddI, h1, h2, gAdd_int, gEq_int, hty, gAppend, hS, hl, hlim]
  · by_cases g : n < a * a + b * b
    · have g' : ¬ a * a + b * b ≤ n := by omega
      simp [runB, startD, outR, sSeq, sIf, sRet, sRetN, sNext, sExpr, sAsg, gNm, gSb, sPar, parOut, sPar3, parOut3, sAug, dC, dVar, d1, d2, daCons, daNil, dCallB, dCall, dTr, dNotT, dOrT, dAndT, dAnd, dOr, dNot, dIf, dChain, dTup, dLst, dLstM, dBm, dBm0, dSl, doSome, doNone, dItems, dRng, Res.bind, Res.toS, DL.resB, DL.resO, tru_bl, tru_int, ty_int, ty_bl, ty_non, ty_str, ty_tup, ty_lst, its_tup, its_lst, i2, gLt, gLe, gGt, gGe, DL.gSub, gAddI, h1, h2, gAdd_int, gEq_int, e, g, g', set_same hS]
    · have g' : a * a + b * b ≤ n := by omega
      simp [runB, startD, outR, sSeq, sIf, sRet, sRetN, sNext, sExpr, sAsg, gNm, gSb, sPar, parOut, sPar3, parOut3, sAug, dC, dVar, d1, d2, daCons, daNil, dCallB, dCall, dTr, dNotT, dOrT, dAndT, dAnd, dOr, dNot, dIf, dChain, dTup, dLst, dLstM, dBm, dBm0, dSl, doSome, doNone, dItems, dRng, Res.bind, Res.toS, DL.resB, DL.resO, tru_bl, tru_int, ty_int, ty_bl, ty_non, ty_str, ty_tup, ty_lst, its_tup, its_lst, i2, gLt, gLe, gGt, gGe, DL.gSub, gAddI, h1, h2, gAdd_int, gEq_int, e, g, g', set_same hS]
theorem rt_end (n : Int) (r : Nat) (h2 : n < ((r : Int) + 1) * (r + 1)) (hr : r < 65536) (x y z : Option D) (S : Sto) : t_rt [some (.int n), x, y, some (.int ((r : Int) + 1)), z] S = .ok false S := by
  have hm := gMul_ok ((r : Int) + 1) ((r : Int) + 1) S ⟨by omega, by omega⟩
  have : ¬ ((r : Int) + 1) * (r + 1) ≤ n := by omega
  unfold t_rt
  simp only [dTr, d2, dVar, gLe, i2, Res.bind, List.getElem?_cons_succ, List.getElem?_cons_zero, if_true, hm, this, decide_false, tru_bl, DL.resB]
theorem rt_on (n : Int) (r a : Nat) (h1 : (r : Int) * r ≤ n) (hr : r < 65536) (ha : a ≤ r) (x y z : Option D) (S : Sto) : t_rt [some (.int n), x, y, some (.int a), z] S = .ok true S := by
  have hm := gMul_ok (a : Int) a S ⟨by omega, by omega⟩
  have : (a : Int) * a ≤ n := by
    have : (a : Int) * a ≤ r * r := Int.mul_le_mul (by omega) (by omega) (by omega) (by omega)
    omega
  unfold t_rt
  simp only [dTr, d2, dVar, gLe, i2, Res.bind, List.getElem?_cons_succ, List.getElem?_cons_zero, if_true, hm, this, decide_true, tru_bl, DL.resB]
theorem rt_f (n : Int) (a : Nat) (x y z : Option D) (S : Sto) : f_rt [some (.int n), x, y, some (.int a), z] S = .nx [some (.int n), x, y, some (.int ((a + 1 : Nat) : Int)), z] S := by
  unfold f_rt
  simp [runB, startD, outR, sSeq, sIf, sRet, sRetN, sNext, sExpr, sAsg, gNm, gSb, sPar, parOut, sPar3, parOut3, sAug, dC, dVar, d1, d2, daCons, daNil, dCallB, dCall, dTr, dNotT, dOrT, dAndT, dAnd, dOr, dNot, dIf, dChain, dTup, dLst, dLstM, dBm, dBm0, dSl, doSome, doNone, dItems, dRng, Res.bind, Res.toS, DL.resB, DL.resO, tru_bl, tru_int, ty_int, ty_bl, ty_non, ty_str, ty_tup, ty_lst, its_tup, its_lst, i2, gLt, gLe, gGt, gGe, DL.gSub, gAddI, gAdd_int]
theorem loop_rt (n : Int) (r : Nat) (h1 : (r : Int) * r ≤ n) (h2 : n < ((r : Int) + 1) * (r + 1)) (hr : r < 65536) (x y z : Option D) (S : Sto) : ∀ (k N a : Nat), a + k = r + 1 → k < N →
    whileD t_rt f_rt N [some (.int n), x, y, some (.int a), z] S = .nx [some (.int n), x, y, some (.int (r + 1)), z] S := by
  intro k
  induction k with
  | zero =>
    intro N a e hN
    obtain ⟨M, rfl⟩ : ∃ M, N = M + 1 := ⟨N - 1, by omega⟩
    have e' : (a : Int) = r + 1 := by omega
    rw [e']
    unfold whileD
    rw [rt_end n r h2 hr]
    rfl
  | succ k ih =>
    intro N a e hN
    obtain ⟨M, rfl⟩ : ∃ M, N = M + 1 := ⟨N - 1, by omega⟩
    have := ih M (a + 1) (by omega) (by omega)
    unfold whileD
    rw [rt_on n r a h1 hr (by omega)]
    simp only [Res.toS, if_true, rt_f]
    exact this
theorem r_squares (n : Int) (S : Sto) (h : 0 ≤ n ∧ n ≤ 1000000000) : S__law_squares [.int n] S = .ok (.loc S.length) (S ++ [.lst (ways n)]) := by
  obtain ⟨m, rfl⟩ : ∃ m : Nat, n = m := ⟨n.toNat, by omega⟩
  obtain ⟨r, h1, h2⟩ := root_ex m
  have hr : r < 32768 := by
    rcases Nat.lt_or_ge r 32768 with g | g
    · exact g
    · have : 32768 * 32768 ≤ r * r := Nat.mul_le_mul g g
      omega
  have h1' : (r : Int) * r ≤ m := by exact_mod_cast h1
  have h2' : (m : Int) < ((r : Int) + 1) * (r + 1) := by exact_mod_cast h2
  unfold S__law_squares
  rw [b_squares]
  have hbg : r + 1 < big := by rw [big_eq]; omega
  have w1 : sWhile t_rt f_rt [some (.int m), some (.loc S.length), some (.int 0), some (.int 0), none] (S ++ [MO.lst []]) = .nx [some (.int m), some (.loc S.length), some (.int 0), some (.int (r + 1)), none] (S ++ [MO.lst []]) := by
    unfold sWhile
    exact loop_rt m r h1' h2' (by omega) _ _ _ _ (r + 1) big 0 (by omega) hbg
  obtain ⟨p, q, x, w2⟩ := while_ways f_sq m S (step_sq m S.length) r (by omega) h2'
  have e : (r : Int) + 1 - 1 = r := by omega
  simp [runB, startD, outR, sSeq, sIf, sRet, sRetN, sNext, sExpr, sAsg, gNm, gSb, sPar, parOut, sPar3, parOut3, sAug, dC, dVar, d1, d2, daCons, daNil, dCallB, dCall, dTr, dNotT, dOrT, dAndT, dAnd, dOr, dNot, dIf, dChain, dTup, dLst, dLstM, dBm, dBm0, dSl, doSome, doNone, dItems, dRng, Res.bind, Res.toS, DL.resB, DL.resO, tru_bl, tru_int, ty_int, ty_bl, ty_non, ty_str, ty_tup, ty_lst, its_tup, its_lst, i2, gLt, gLe, gGt, gGe, DL.gSub, gAddI, w1, e, w2]
end K40
end

-- K40s3
section
set_option Elab.async false
set_option linter.all false
set_option maxRecDepth 100000
set_option maxHeartbeats 4000000
namespace K40
open PySem DL
def g_same : DG := gTp 2 (gsCons (gNm 2) (gsCons (gNm 3) (gsNil)))
noncomputable def f_same (S : DF) : DS := sIf (dNotT (dTr (dCall 2 S (daCons (dVar 2) (daCons (dVar 3) (daNil)))))) (sRet (dC (.bl false))) (sNext)
theorem b_same (S : DF) : b__law_same S = sSeq (sIf (dTr (d2 gIs (dVar 1) (dC .non))) (sRet (d2 gIs (dVar 0) (dC .non))) (sNext)) (sSeq (sIf (dOrT (dTr (dCallB fIsi (daCons (dVar 1) (daCons (dC (.ty "tuple")) (daNil))))) (dTr (dCallB fIsi (daCons (dVar 1) (daCons (dC (.ty "list")) (daNil)))))) (sSeq (sIf (dOrT (dTr (d2 gNe (dCallB fIsi (daCons (dVar 0) (daCons (dC (.ty "tuple")) (daNil)))) (dCallB fIsi (daCons (dVar 1) (daCons (dC (.ty "tuple")) (daNil)))))) (dTr (d2 gNe (dCallB fIsi (daCons (dVar 0) (daCons (dC (.ty "list")) (daNil)))) (dCallB fIsi (daCons (dVar 1) (daCons (dC (.ty "list")) (daNil))))))) (sRet (dC (.bl false))) (sNext)) (sSeq (sIf (dTr (d2 gNe (dCallB fLenB (daCons (dVar 0) (daNil))) (dCallB fLenB (daCons (dVar 1) (daNil))))) (sRet (dC (.bl false))) (sNext)) (sSeq (sFor (dZip (daCons (dVar 0) (daCons (dVar 1) (daNil)))) g_same (f_same S)) (sRet (dC (.bl true)))))) (sNext)) (sSeq (sIf (dTr (dCallB fIsi (daCons (dVar 1) (daCons (dC (.ty "str")) (daNil))))) (sRet (dAnd (dCallB fIsi (daCons (dVar 0) (daCons (dC (.ty "str")) (daNil)))) (d2 gEq (dVar 0) (dVar 1)))) (sNext)) (sRet (dAnd (d2 gEq (dCallB fIsi (daCons (dVar 0) (daCons (dC (.ty "bool")) (daNil)))) (dCallB fIsi (daCons (dVar 1) (daCons (dC (.ty "bool")) (daNil))))) (dAnd (dCallB fIsi (daCons (dVar 0) (daCons (dC (.ty "int")) (daNil)))) (d2 gEq (dVar 0) (dVar 1))))))) := rfl
theorem gNe_bl (a b : Bool) (S : Sto) : gNe (.bl a) (.bl b) S = .ok (.bl (a != b)) S := by
  cases a <;> cases b <;> rfl
theorem gEq_bl (a b : Bool) (S : Sto) : gEq (.bl a) (.bl b) S = .ok (.bl (a == b)) S := by
  cases a <;> cases b <;> rfl
theorem isi_at (d : D) (b a : String) (S : Sto) (ho : okTy b = true) (h : tyD d S = some a) : fIsi [d, .ty b] S = .ok (.bl (isSub a b)) S := by
  unfold fIsi
  simp [ho, h]
theorem lenB_lst (xs : List D) (S : Sto) : fLenB [.lst xs] S = .ok (.int xs.length) S := rfl
theorem lenB_tup (xs : List D) (S : Sto) : fLenB [.tup xs] S = .ok (.int xs.length) S := rfl
theorem is_int (i : Int) (S : Sto) : gIs (.int i) .non S = .ok (.bl false) S := rfl
theorem is_tup (i : List D) (S : Sto) : gIs (.tup i) .non S = .ok (.bl false) S := rfl
theorem is_lst (i : List D) (S : Sto) : gIs (.lst i) .non S = .ok (.bl false) S := rfl
theorem ok_ints : okTy "int" = true ∧ okTy "bool" = true ∧ okTy "tuple" = true ∧ okTy "list" = true ∧ okTy "str" = true := by decide +kernel
theorem sub_all : isSub "int" "tuple" = false ∧ isSub "int" "list" = false ∧ isSub "int" "str" = false ∧ isSub "int" "bool" = false ∧ isSub "int" "int" = true ∧ isSub "tuple" "tuple" = true ∧ isSub "tuple" "list" = false ∧ isSub "list" "tuple" = false ∧ isSub "list" "list" = true := by decide +kernel
theorem same_int (k : Nat) (i : Int) (S : Sto) : sameN (k + 1) [.int i, .int i] S = .ok (.bl true) S := by
  unfold sameN
  rw [b_same]
  obtain ⟨o1, o2, o3, o4, o5⟩ := ok_ints
  obtain ⟨u1, u2, u3, u4, u5, u6, u7, u8, u9⟩ := sub_all
  simp [runB, startD, outR, sSeq, sIf, sRet, sRetN, sNext, sExpr, sAsg, gNm, gSb, sPar, parOut, sPar3, parOut3, sAug, dC, dVar, d1, d2, daCons, daNil, dCallB, dCall, dTr, dNotT, dOrT, dAndT, dAnd, dOr, dNot, dIf, dChain, dTup, dLst, dLstM, dBm, dBm0, dSl, doSome, doNone, dItems, dRng, Res.bind, Res.toS, DL.resB, DL.resO, tru_bl, tru_int, ty_int, ty_bl, ty_non, ty_str, ty_tup, ty_lst, its_tup, its_lst, i2, gLt, gLe, gGt, gGe, DL.gSub, gAddI, is_int, isi_at _ _ _ _ o1 (ty_int i S), isi_at _ _ _ _ o2 (ty_int i S), isi_at _ _ _ _ o3 (ty_int i S), isi_at _ _ _ _ o4 (ty_int i S), isi_at _ _ _ _ o5 (ty_int i S), u1, u2, u3, u4, u5, gEq_bl, gEq_int]
theorem loop_same (F : DF) (x y : Option D) (S : Sto) : ∀ (ws : List D), (∀ d ∈ ws, F [d, d] S = .ok (.bl true) S) → ∀ u v, ∃ u' v', loopD g_same (f_same F) (zipD ws ws) [x, y, u, v] S = .nx [x, y, u', v'] S := by
  intro ws
  induction ws with
  | nil => exact fun _ u v => ⟨u, v, rfl⟩
  | cons w ws ih =>
    intro h u v
    obtain ⟨u', v', e⟩ := ih (fun d hd => h d (List.mem_cons_of_mem _ hd)) (some w) (some w)
    refine ⟨u', v', ?_⟩
    have hw := h w (List.mem_cons_self ..)
    have hg : g_same (.tup [w, w]) [x, y, u, v] S = .ok [x, y, some w, some w] S := rfl
    have hf : f_same F [x, y, some w, some w] S = .nx [x, y, some w, some w] S := by
      unfold f_same
      simp [runB, startD, outR, sSeq, sIf, sRet, sRetN, sNext, sExpr, sAsg, gNm, gSb, sPar, parOut, sPar3, parOut3, sAug, dC, dVar, d1, d2, daCons, daNil, dCallB, dCall, dTr, dNotT, dOrT, dAndT, dAnd, dOr, dNot, dIf, dChain, dTup, dLst, dLstM, dBm, dBm0, dSl, doSome, doNone, dItems, dRng, Res.bind, Res.toS, DL.resB, DL.resO, tru_bl, tru_int, ty_int, ty_bl, ty_non, ty_str, ty_tup, ty_lst, its_tup, its_lst, i2, gLt, gLe, gGt, gGe, DL.gSub, gAddI, hw]
    have hz : zipD (w :: ws) (w :: ws) = D.tup [w, w] :: zipD ws ws := rfl
    rw [hz]
    unfold loopD
    simp only [hg, Res.toS, hf]
    exact e
theorem same_pt (k : Nat) (a b : Int) (S : Sto) : sameN (k + 2) [.tup [.int a, .int b], .tup [.int a, .int b]] S = .ok (.bl true) S := by
  show runB 4 (b__law_same (sameN (k + 1))) _ S = _
  rw [b_same]
  obtain ⟨o1, o2, o3, o4, o5⟩ := ok_ints
  obtain ⟨u1, u2, u3, u4, u5, u6, u7, u8, u9⟩ := sub_all
  obtain ⟨u', v', e⟩ := loop_same (sameN (k + 1)) (some (.tup [.int a, .int b])) (some (.tup [.int a, .int b])) S [.int a, .int b] (by simp [same_int]) none none
  simp [runB, startD, outR, sSeq, sIf, sRet, sRetN, sNext, sExpr, sAsg, gNm, gSb, sPar, parOut, sPar3, parOut3, sAug, dC, dVar, d1, d2, daCons, daNil, dCallB, dCall, dTr, dNotT, dOrT, dAndT, dAnd, dOr, dNot, dIf, dChain, dTup, dLst, dLstM, dBm, dBm0, dSl, doSome, doNone, dItems, dRng, Res.bind, Res.toS, DL.resB, DL.resO, tru_bl, tru_int, ty_int, ty_bl, ty_non, ty_str, ty_tup, ty_lst, its_tup, its_lst, i2, gLt, gLe, gGt, gGe, DL.gSub, gAddI, is_tup, isi_at _ _ _ _ o3 (ty_tup [.int a, .int b] S), isi_at _ _ _ _ o4 (ty_tup [.int a, .int b] S), u6, u7, gNe_bl, gNe_int, lenB_tup, sFor, dZip, zipI, e]
theorem same_lst (k : Nat) (ws : List D) (S : Sto) (h : ∀ d ∈ ws, ∃ a b : Int, d = .tup [.int a, .int b]) : sameN (k + 3) [.lst ws, .lst ws] S = .ok (.bl true) S := by
  show runB 4 (b__law_same (sameN (k + 2))) _ S = _
  rw [b_same]
  obtain ⟨o1, o2, o3, o4, o5⟩ := ok_ints
  obtain ⟨u1, u2, u3, u4, u5, u6, u7, u8, u9⟩ := sub_all
  obtain ⟨u', v', e⟩ := loop_same (sameN (k + 2)) (some (.lst ws)) (some (.lst ws)) S ws (fun d hd => by
    obtain ⟨a, b, rfl⟩ := h d hd
    exact same_pt k a b S) none none
  simp [runB, startD, outR, sSeq, sIf, sRet, sRetN, sNext, sExpr, sAsg, gNm, gSb, sPar, parOut, sPar3, parOut3, sAug, dC, dVar, d1, d2, daCons, daNil, dCallB, dCall, dTr, dNotT, dOrT, dAndT, dAnd, dOr, dNot, dIf, dChain, dTup, dLst, dLstM, dBm, dBm0, dSl, doSome, doNone, dItems, dRng, Res.bind, Res.toS, DL.resB, DL.resO, tru_bl, tru_int, ty_int, ty_bl, ty_non, ty_str, ty_tup, ty_lst, its_tup, its_lst, i2, gLt, gLe, gGt, gGe, DL.gSub, gAddI, is_lst, isi_at _ _ _ _ o3 (ty_lst ws S), isi_at _ _ _ _ o4 (ty_lst ws S), u8, u9, gNe_bl, gNe_int, lenB_lst, sFor, dZip, zipI, e]
theorem tp_pt (n : Int) : ∀ k a, ∀ d ∈ tp n k a, ∃ a b : Int, d = .tup [.int a, .int b]
  | 0, a, d, h => by simp [tp] at h
  | k + 1, a, d, h => by
    simp only [tp, List.mem_append] at h
    rcases h with h | h
    · split at h
      · simp at h; exact ⟨_, _, h⟩
      · cases h
    · split at h
      · exact tp_pt n k a d h
      · exact tp_pt n k (a + 1) d h
theorem ways_pt (n : Int) : ∀ d ∈ ways n, ∃ a b : Int, d = .tup [.int a, .int b] := by rw [ways_eq]; exact tp_pt n _ 0
theorem mapO_pt (m : Nat) (S : Sto) : ∀ ws : List D, (∀ d ∈ ws, ∃ a b : Int, d = .tup [.int a, .int b]) → mapO (resD (m + 2) S) ws = some ws := by
  intro ws
  induction ws with
  | nil => exact fun _ => rfl
  | cons w ws ih =>
    intro h
    obtain ⟨a, b, rfl⟩ := h w (List.mem_cons_self ..)
    have := ih fun d hd => h d (List.mem_cons_of_mem _ hd)
    simp [mapO, resD, this]
/-- two lists that hold the same ways -/
theorem look_same (n : Int) (i j : Nat) (S : Sto) (hi : S[i]? = some (.lst (ways n))) (hj : S[j]? = some (.lst (ways n))) : lookF S__law_same [.loc i, .loc j] S = .ok (.bl true) S := by
  have m := mapO_pt 17 S (ways n) (ways_pt n)
  have ri : resD deep S (.loc i) = some (.lst (ways n)) := by
    show resD (19 + 1) S (.loc i) = _
    simp [resD, hi, m]
  have rj : resD deep S (.loc j) = some (.lst (ways n)) := by
    show resD (19 + 1) S (.loc j) = _
    simp [resD, hj, m]
  have hs := same_lst 1 (ways n) (deads S) (ways_pt n)
  unfold lookF S__law_same
  simp [mapO, ri, rj, hs, lookR, atomD]
end K40
end

-- K40s4
section
set_option Elab.async false
set_option linter.all false
set_option maxRecDepth 100000
set_option maxHeartbeats 4000000
namespace K40
open PySem DL
def PenAt (S : Sto) (p : Nat) : Prop := ∃ v f : Int, S[p]? = some (.lst [.int v, .int f])
theorem gMod_ok (i j : Int) (S : Sto) (h : 0 < j) : gMod (.int i) (.int j) S = .ok (.int (i % j)) S := by
  unfold gMod i2
  simp [h]
theorem gDiv_ok (i j : Int) (S : Sto) (h : 0 < j ∧ j < 1073741824) : gDiv (.int i) (.int j) S = .ok (.int (i / j)) S := by
  unfold gDiv i2 cDiv
  simp [h]
theorem ix_loc (p : Nat) (k : Int) (xs : List D) (d : D) (S : Sto) (h : S[p]? = some (.lst xs)) (hk : L2.atI xs k = some d) : gIx (.loc p) (.int k) S = .ok d S := by
  simp [gIx, h, hk, DL.resO]
theorem pen_0 (v f : Int) : L2.atI [D.int v, D.int f] 0 = some (.int v) := rfl
theorem pen_1 (v f : Int) : L2.atI [D.int v, D.int f] 1 = some (.int f) := rfl
theorem pen_set (p : Nat) (v f w : Int) (S : Sto) (h : S[p]? = some (.lst [.int v, .int f])) : gSet2 (.loc p) (.int 0) (.int w) S = .ok () (S.set p (.lst [.int w, .int f])) := by
  simp [gSet2, gSet, h, L2.ixN]
theorem r_draw (S : Sto) (p : Nat) (m : Int) (h : PenAt S p) (hm : 0 < m ∧ m < 1073741824) : ∃ r v f : Int, S__law_draw [.loc p, .int m] S = .ok (.int r) (S.set p (.lst [.int v, .int f])) ∧ 0 ≤ r ∧ r < m := by
  obtain ⟨v, f, hp⟩ := h
  have hpl := (List.getElem?_eq_some_iff.mp hp).1
  have g0 := ix_loc p 0 _ _ S hp (pen_0 v f)
  have g1 := ix_loc p 1 _ _ S hp (pen_1 v f)
  unfold S__law_draw b__law_draw
  by_cases hf : f = 1
  · refine ⟨v % m, v / m, f, ?_, Int.emod_nonneg _ (by omega), Int.emod_lt_of_pos _ hm.1⟩
    subst hf
    simp [runB, startD, outR, sSeq, sIf, sRet, sRetN, sNext, sExpr, sAsg, gNm, gSb, sPar, parOut, sPar3, parOut3, sAug, dC, dVar, d1, d2, daCons, daNil, dCallB, dCall, dTr, dNotT, dOrT, dAndT, dAnd, dOr, dNot, dIf, dChain, dTup, dLst, dLstM, dBm, dBm0, dSl, doSome, doNone, dItems, dRng, Res.bind, Res.toS, DL.resB, DL.resO, tru_bl, tru_int, ty_int, ty_bl, ty_non, ty_str, ty_tup, ty_lst, its_tup, its_lst, i2, gLt, gLe, gGt, gGe, DL.gSub, gAddI, g0, g1, gEq_int, gMod_ok v m S hm.1, gDiv_ok v m S hm, pen_set p v 1 (v / m) S hp]
  · obtain ⟨w, hw⟩ : ∃ w : Int, w = (v % 2147483629 * 48271 + 11) % 2147483629 := ⟨_, rfl⟩
    have hw1 : 0 ≤ w ∧ w < 2147483629 := by rw [hw]; exact ⟨Int.emod_nonneg _ (by omega), Int.emod_lt_of_pos _ (by omega)⟩
    have hv1 : 0 ≤ v % 2147483629 ∧ v % 2147483629 < 2147483629 := ⟨Int.emod_nonneg _ (by omega), Int.emod_lt_of_pos _ (by omega)⟩
    have hp' : (S.set p (MO.lst [.int w, .int f]))[p]? = some (.lst [.int w, .int f]) := by simp [hpl]
    have k0 := ix_loc p 0 _ _ (S.set p (MO.lst [.int w, .int f])) hp' (pen_0 w f)
    have m1 := gMul_ok (v % 2147483629) 48271 S ⟨by omega, by omega⟩
    have m2 := gMul_ok w w (S.set p (MO.lst [.int w, .int f])) ⟨by omega, by omega⟩
    have m3 := gMul_ok 40692 w (S.set p (MO.lst [.int w, .int f])) ⟨by omega, by omega⟩
    have d1 := gMod_ok v 2147483629 S (by omega)
    have d2' := gMod_ok (v % 2147483629 * 48271 + 11) 2147483629 S (by omega)
    rw [← hw] at d2'
    have d3 := gMod_ok (w * w + 40692 * w) 2147483647 (S.set p (MO.lst [.int w, .int f])) (by omega)
    have d4 := gDiv_ok ((w * w + 40692 * w) % 2147483647) 8 (S.set p (MO.lst [.int w, .int f])) (by omega)
    have d5 := gMod_ok ((w * w + 40692 * w) % 2147483647 / 8) m (S.set p (MO.lst [.int w, .int f])) hm.1
    refine ⟨(w * w + 40692 * w) % 2147483647 / 8 % m, w, f, ?_, Int.emod_nonneg _ (by omega), Int.emod_lt_of_pos _ hm.1⟩
    simp [runB, startD, outR, sSeq, sIf, sRet, sRetN, sNext, sExpr, sAsg, gNm, gSb, sPar, parOut, sPar3, parOut3, sAug, dC, dVar, d1, d2, daCons, daNil, dCallB, dCall, dTr, dNotT, dOrT, dAndT, dAnd, dOr, dNot, dIf, dChain, dTup, dLst, dLstM, dBm, dBm0, dSl, doSome, doNone, dItems, dRng, Res.bind, Res.toS, DL.resB, DL.resO, tru_bl, tru_int, ty_int, ty_bl, ty_non, ty_str, ty_tup, ty_lst, its_tup, its_lst, i2, gLt, gLe, gGt, gGe, DL.gSub, gAddI, g0, g1, gEq_int, hf, d1, m1, gAdd_int, d2', pen_set p v f w S hp, k0, m2, m3, d3, d4, d5]
theorem pen_kept {S : Sto} {p : Nat} (h : PenAt S p) (v f : Int) : PenAt (S.set p (.lst [.int v, .int f])) p := by
  obtain ⟨v0, f0, hp⟩ := h
  have hpl := (List.getElem?_eq_some_iff.mp hp).1
  exact ⟨v, f, by simp [hpl]⟩
theorem pow_18 (S : Sto) : gPow (.int 10) (.int 18) S = .ok (.int 1000000000000000000) S := rfl
theorem pow_29 (S : Sto) : gPow (.int 10) (.int 29) S = .ok (.int 100000000000000000000000000000) S := rfl
theorem pow_6 (S : Sto) : gPow (.int 10) (.int 6) S = .ok (.int 1000000) S := rfl
theorem r_pen (x : Int) (S : Sto) : ∃ f : Int, S__law_pen [.int x] S = .ok (.loc S.length) (S ++ [.lst [.int x, .int f]]) := by
  refine ⟨b01 (decide (1000000000000000000 ≤ x)), ?_⟩
  have l2 : 2 ≤ lim := by decide
  unfold S__law_pen b__law_pen
  simp [runB, startD, outR, sSeq, sIf, sRet, sRetN, sNext, sExpr, sAsg, gNm, gSb, sPar, parOut, sPar3, parOut3, sAug, dC, dVar, d1, d2, daCons, daNil, dCallB, dCall, dTr, dNotT, dOrT, dAndT, dAnd, dOr, dNot, dIf, dChain, dTup, dLst, dLstM, dBm, dBm0, dSl, doSome, doNone, dItems, dRng, Res.bind, Res.toS, DL.resB, DL.resO, tru_bl, tru_int, ty_int, ty_bl, ty_non, ty_str, ty_tup, ty_lst, its_tup, its_lst, i2, gLt, gLe, gGt, gGe, DL.gSub, gAddI, pow_18, fInt, l2]
theorem r_cell (ns : List Int) (S : Sto) : ∃ x : Int, S__law_cell [.lst (ns.map D.int), .int 0] S = .ok (.int x) S := by
  unfold S__law_cell b__law_cell
  cases ns with
  | nil => exact ⟨0, by simp [runB, startD, outR, sSeq, sIf, sRet, sRetN, sNext, sExpr, sAsg, gNm, gSb, sPar, parOut, sPar3, parOut3, sAug, dC, dVar, d1, d2, daCons, daNil, dCallB, dCall, dTr, dNotT, dOrT, dAndT, dAnd, dOr, dNot, dIf, dChain, dTup, dLst, dLstM, dBm, dBm0, dSl, doSome, doNone, dItems, dRng, Res.bind, Res.toS, DL.resB, DL.resO, tru_bl, tru_int, ty_int, ty_bl, ty_non, ty_str, ty_tup, ty_lst, its_tup, its_lst, i2, gLt, gLe, gGt, gGe, DL.gSub, gAddI, lenB_lst]⟩
  | cons n ns =>
    refine ⟨n, ?_⟩
    have h : (0 : Int) < (ns.length : Int) + 1 := by omega
    simp [runB, startD, outR, sSeq, sIf, sRet, sRetN, sNext, sExpr, sAsg, gNm, gSb, sPar, parOut, sPar3, parOut3, sAug, dC, dVar, d1, d2, daCons, daNil, dCallB, dCall, dTr, dNotT, dOrT, dAndT, dAnd, dOr, dNot, dIf, dChain, dTup, dLst, dLstM, dBm, dBm0, dSl, doSome, doNone, dItems, dRng, Res.bind, Res.toS, DL.resB, DL.resO, tru_bl, tru_int, ty_int, ty_bl, ty_non, ty_str, ty_tup, ty_lst, its_tup, its_lst, i2, gLt, gLe, gGt, gGe, DL.gSub, gAddI, lenB_lst, gIx, L2.atI, L2.ixN, h]
def NoNum (d : D) : Prop := ∀ S : Sto, S_is_within [d, .int 0, .int 1000000000] S = .ok (.bl false) S
theorem nu_int {i : Int} (h : i < 0 ∨ 1000000000 < i) : NoNum (.int i) := fun S => by
  rw [r_within]
  have : ¬ (0 ≤ i ∧ i ≤ 1000000000) := by omega
  simp [this]
theorem nu_non : NoNum .non := fun S => r_within_no _ _ _ S (.inl rfl)
theorem nu_bl (b : Bool) : NoNum (.bl b) := fun S => r_within_no _ _ _ S (.inr (.inl rfl))
theorem nu_str (x : Str) : NoNum (.str x) := fun S => r_within_no _ _ _ S (.inr (.inr (.inl rfl)))
theorem nu_tup (x : List D) : NoNum (.tup x) := fun S => r_within_no _ _ _ S (.inr (.inr (.inr (.inl rfl))))
theorem nu_lst (x : List D) : NoNum (.lst x) := fun S => r_within_no _ _ _ S (.inr (.inr (.inr (.inr rfl))))
def badL : List D := [.int (-1), .int 1000000001, .non, .bl true, .str "0", .tup [.int 0], .lst [.int 0], .int 100000000000000000000000000000, .int (-100000000000000000000000000000), .bl false, .int 1000000002]
theorem bad_all : ∀ d ∈ badL, NoNum d := by
  intro d hd
  simp only [badL, List.mem_cons, List.not_mem_nil, or_false] at hd
  rcases hd with rfl | rfl | rfl | rfl | rfl | rfl | rfl | rfl | rfl | rfl | rfl
  · exact nu_int (by omega)
  · exact nu_int (by omega)
  · exact nu_non
  · exact nu_bl _
  · exact nu_str _
  · exact nu_tup _
  · exact nu_lst _
  · exact nu_int (by omega)
  · exact nu_int (by omega)
  · exact nu_bl _
  · exact nu_int (by omega)
theorem at_mem (xs : List D) (r : Int) (h : 0 ≤ r ∧ r < xs.length) : ∃ d, L2.atI xs r = some d ∧ d ∈ xs := by
  have e : L2.ixN xs.length r = some r.toNat := by simp [L2.ixN, h]
  have hl : r.toNat < xs.length := by omega
  exact ⟨xs[r.toNat], by simp [L2.atI, e, hl], List.getElem_mem hl⟩
theorem r_no_number (S : Sto) (p : Nat) (h : PenAt S p) : ∃ (d : D) (v f : Int), S__law_no_number [.loc p, .int 0, .int 1000000000] S = .ok d (S.set p (.lst [.int v, .int f])) ∧ NoNum d := by
  obtain ⟨r, v, f, e, h0, h1⟩ := r_draw S p 11 h (by omega)
  obtain ⟨d, hd, hm⟩ := at_mem badL r ⟨h0, h1⟩
  refine ⟨d, v, f, ?_, bad_all d hm⟩
  unfold badL at hd
  have l1 : 1 ≤ lim := by decide
  have l11 : 11 ≤ lim := by decide
  unfold S__law_no_number b__law_no_number
  simp [runB, startD, outR, sSeq, sIf, sRet, sRetN, sNext, sExpr, sAsg, gNm, gSb, sPar, parOut, sPar3, parOut3, sAug, dC, dVar, d1, d2, daCons, daNil, dCallB, dCall, dTr, dNotT, dOrT, dAndT, dAnd, dOr, dNot, dIf, dChain, dTup, dLst, dLstM, dBm, dBm0, dSl, doSome, doNone, dItems, dRng, Res.bind, Res.toS, DL.resB, DL.resO, tru_bl, tru_int, ty_int, ty_bl, ty_non, ty_str, ty_tup, ty_lst, its_tup, its_lst, i2, gLt, gLe, gGt, gGe, DL.gSub, gAddI, pow_29, gAdd_int, l1, l11, e, gIx]
  rw [hd]
noncomputable def t_pr : DT := dTr (d2 gLe (d2 gMulI (dVar 1) (dVar 1)) (dVar 0))
noncomputable def f_pr : DS := sSeq (sIf (dTr (d2 gEq (d2 gMod (dVar 0) (dVar 1)) (dC (.int 0)))) (sRet (dC (.bl false))) (sNext)) (sAsg (d2 gAdd (dVar 1) (dC (.int 1))) (gNm 1))
theorem b_prime : b__law_is_prime = sSeq (sAsg (dC (.int 2)) (gNm 1)) (sSeq (sWhile t_pr f_pr) (sRet (d2 gGt (dVar 0) (dC (.int 1))))) := rfl
theorem pr_t (n d : Int) (hd : 2 ≤ d ∧ d ≤ 200) (S : Sto) : t_pr [some (.int n), some (.int d)] S = .ok (decide (d * d ≤ n)) S := by
  have hm := gMul_ok d d S ⟨by omega, by omega⟩
  unfold t_pr
  simp [runB, startD, outR, sSeq, sIf, sRet, sRetN, sNext, sExpr, sAsg, gNm, gSb, sPar, parOut, sPar3, parOut3, sAug, dC, dVar, d1, d2, daCons, daNil, dCallB, dCall, dTr, dNotT, dOrT, dAndT, dAnd, dOr, dNot, dIf, dChain, dTup, dLst, dLstM, dBm, dBm0, dSl, doSome, doNone, dItems, dRng, Res.bind, Res.toS, DL.resB, DL.resO, tru_bl, tru_int, ty_int, ty_bl, ty_non, ty_str, ty_tup, ty_lst, its_tup, its_lst, i2, gLt, gLe, gGt, gGe, DL.gSub, gAddI, hm]
theorem pr_f (n d : Int) (hd : 2 ≤ d) (S : Sto) : f_pr [some (.int n), some (.int d)] S = if n % d = 0 then .rt (.bl false) S else .nx [some (.int n), some (.int (d + 1))] S := by
  have hm := gMod_ok n d S (by omega)
  unfold f_pr
  by_cases h : n % d = 0 <;> simp [runB, startD, outR, sSeq, sIf, sRet, sRetN, sNext, sExpr, sAsg, gNm, gSb, sPar, parOut, sPar3, parOut3, sAug, dC, dVar, d1, d2, daCons, daNil, dCallB, dCall, dTr, dNotT, dOrT, dAndT, dAnd, dOr, dNot, dIf, dChain, dTup, dLst, dLstM, dBm, dBm0, dSl, doSome, doNone, dItems, dRng, Res.bind, Res.toS, DL.resB, DL.resO, tru_bl, tru_int, ty_int, ty_bl, ty_non, ty_str, ty_tup, ty_lst, its_tup, its_lst, i2, gLt, gLe, gGt, gGe, DL.gSub, gAddI, hm, gEq_int, h, gAdd_int]
theorem loop_pr (n : Int) (hn : n ≤ 30000) (S : Sto) : ∀ (k N : Nat) (d : Int), 2 ≤ d → d + k = 200 → k < N →
    (∃ d', whileD t_pr f_pr N [some (.int n), some (.int d)] S = .nx [some (.int n), d'] S) ∨ (whileD t_pr f_pr N [some (.int n), some (.int d)] S = .rt (.bl false) S ∧ ∃ e : Int, 2 ≤ e ∧ e * e ≤ n ∧ n % e = 0) := by
  intro k
  induction k with
  | zero =>
    intro N d h2 e hN
    obtain ⟨M, rfl⟩ : ∃ M, N = M + 1 := ⟨N - 1, by omega⟩
    have : d = 200 := by omega
    subst this
    left
    refine ⟨some (.int 200), ?_⟩
    have hf : ¬ (200 : Int) * 200 ≤ n := by omega
    unfold whileD
    rw [pr_t n 200 (by omega)]
    simp only [Res.toS, hf, decide_false, Bool.false_eq_true, if_false]
  | succ k ih =>
    intro N d h2 e hN
    obtain ⟨M, rfl⟩ : ∃ M, N = M + 1 := ⟨N - 1, by omega⟩
    have ht := pr_t n d ⟨h2, by omega⟩ S
    by_cases hc : d * d ≤ n
    · by_cases hm : n % d = 0
      · right
        refine ⟨?_, d, h2, hc, hm⟩
        unfold whileD
        rw [ht]
        simp [Res.toS, hc, pr_f n d h2, hm]
      · have := ih M (d + 1) (by omega) (by omega) (by omega)
        have hw : whileD t_pr f_pr (M + 1) [some (.int n), some (.int d)] S = whileD t_pr f_pr M [some (.int n), some (.int (d + 1))] S := by
          conv => lhs; unfold whileD
          rw [ht]
          simp [Res.toS, hc, pr_f n d h2, hm]
        rw [hw]
        exact this
    · left
      refine ⟨some (.int d), ?_⟩
      unfold whileD
      rw [ht]
      simp [Res.toS, hc]
theorem p20011 (e : Int) (h1 : 2 ≤ e) (h2 : e * e ≤ 20011) : 20011 % e ≠ 0 := by
  have hb : e ≤ 141 := by
    rcases Int.lt_or_le 141 e with g | g
    · have : 142 * 142 ≤ e * e := Int.mul_le_mul (by omega) (by omega) (by omega) (by omega)
      omega
    · exact g
  obtain ⟨m, rfl⟩ : ∃ m : Nat, e = m := ⟨e.toNat, by omega⟩
  have key : ∀ m : Fin 142, 2 ≤ m.val → 20011 % m.val ≠ 0 := by decide +kernel
  have := key ⟨m, by omega⟩ (by show 2 ≤ m; omega)
  intro z
  apply this
  show 20011 % m = 0
  exact_mod_cast z
theorem r_prime (n : Int) (hn : 2 ≤ n ∧ n ≤ 30000) (S : Sto) : ∃ b, S__law_is_prime [.int n] S = .ok (.bl b) S ∧ (n = 20011 → b = true) := by
  unfold S__law_is_prime
  rw [b_prime]
  have hbg : 198 < big := by rw [big_eq]; omega
  have h1 : (1 : Int) < n := by omega
  rcases loop_pr n hn.2 S 198 big 2 (by omega) (by omega) hbg with ⟨d', e⟩ | ⟨e, q, q1, q2, q3⟩
  · refine ⟨true, ?_, fun _ => rfl⟩
    have e' : sWhile t_pr f_pr [some (.int n), some (.int 2)] S = _ := e
    simp [runB, startD, outR, sSeq, sIf, sRet, sRetN, sNext, sExpr, sAsg, gNm, gSb, sPar, parOut, sPar3, parOut3, sAug, dC, dVar, d1, d2, daCons, daNil, dCallB, dCall, dTr, dNotT, dOrT, dAndT, dAnd, dOr, dNot, dIf, dChain, dTup, dLst, dLstM, dBm, dBm0, dSl, doSome, doNone, dItems, dRng, Res.bind, Res.toS, DL.resB, DL.resO, tru_bl, tru_int, ty_int, ty_bl, ty_non, ty_str, ty_tup, ty_lst, its_tup, its_lst, i2, gLt, gLe, gGt, gGe, DL.gSub, gAddI, e', h1]
  · refine ⟨false, ?_, fun z => ?_⟩
    · have e' : sWhile t_pr f_pr [some (.int n), some (.int 2)] S = _ := e
      simp [runB, startD, outR, sSeq, sIf, sRet, sRetN, sNext, sExpr, sAsg, gNm, gSb, sPar, parOut, sPar3, parOut3, sAug, dC, dVar, d1, d2, daCons, daNil, dCallB, dCall, dTr, dNotT, dOrT, dAndT, dAnd, dOr, dNot, dIf, dChain, dTup, dLst, dLstM, dBm, dBm0, dSl, doSome, doNone, dItems, dRng, Res.bind, Res.toS, DL.resB, DL.resO, tru_bl, tru_int, ty_int, ty_bl, ty_non, ty_str, ty_tup, ty_lst, its_tup, its_lst, i2, gLt, gLe, gGt, gGe, DL.gSub, gAddI, e']
    · subst z
      exact absurd q3 (p20011 q q1 q2)
end K40
end

-- K40s5
section
set_option Elab.async false
set_option linter.all false
set_option maxRecDepth 100000
set_option maxHeartbeats 4000000
namespace K40
open PySem DL
noncomputable def t_np : DT := (dNotT (dTr (dCall 1 S__law_is_prime (daCons (dVar 5) (daNil)))))
noncomputable def f_np : DS := (sAsg (d2 gAdd (dVar 5) (dC (.int 1))) (gNm 5))
noncomputable def pB1 : DS := (sAsg (d2 gIx (dLst (daCons (dC (.int 2)) (daCons (dC (.int 3)) (daCons (dC (.int 5)) (daCons (dC (.int 5)) (daCons (dC (.int 7)) (daCons (dC (.int 13)) (daCons (dC (.int 17)) (daCons (dC (.int 29)) (daCons (dC (.int 101)) (daCons (dC (.int 9973)) (daNil)))))))))))) (dCall 2 S__law_draw (daCons (dVar 0) (daCons (dC (.int 10)) (daNil))))) (gNm 5))
noncomputable def pB2 : DS := (sIf (dTr (d2 gEq (dCall 2 S__law_draw (daCons (dVar 0) (daCons (dC (.int 12)) (daNil)))) (dC (.int 0)))) (sSeq (sAsg (d2 gAdd (dC (.int 2)) (dCall 2 S__law_draw (daCons (dVar 0) (daCons (dC (.int 20000)) (daNil))))) (gNm 5)) (sWhile t_np f_np)) (sNext))
noncomputable def pB3 : DS := (sIf (dTr (d2 gLe (d2 gMulI (dVar 2) (dVar 5)) (dVar 1))) (sSeq (sAsg (d2 gMulI (dVar 2) (dVar 5)) (gNm 2)) (sAsg (d2 gAdd (dBm "dict" gGet (dVar 3) (daCons (dVar 5) (daCons (dC (.int 0)) (daNil)))) (dC (.int 1))) (gSb (dVar 3) (dVar 5) gSet2))) (sNext))
noncomputable def pBody : DS := sSeq pB1 (sSeq pB2 pB3)
def pG : DG := gNm 4
theorem b_product : b__law_product = sSeq (sPar 2 3 (daCons (dC (.int 1)) (daCons (dDct) (daNil)))) (sSeq (sFor (dRng (daCons (d2 gAdd (dC (.int 1)) (dCall 2 S__law_draw (daCons (dVar 0) (daCons (dC (.int 8)) (daNil))))) (daNil))) pG pBody) (sRet (dTup (daCons (dVar 2) (daCons (dVar 3) (daNil)))))) := rfl
theorem loop_inv {g : DG} {f : DS} {I : Nat → DEnv → Sto → Prop} : ∀ (ds : List D), (∀ d ∈ ds, ∀ k env S, I (k + 1) env S → ∃ env1 S1, g d env S = .ok env1 S1 ∧ ∃ env2 S2, f env1 S1 = .nx env2 S2 ∧ I k env2 S2) → ∀ env S, I ds.length env S → ∃ env' S', loopD g f ds env S = .nx env' S' ∧ I 0 env' S' := by
  intro ds
  induction ds with
  | nil => exact fun _ env S h => ⟨env, S, rfl, h⟩
  | cons d ds ih =>
    intro hs env S h
    obtain ⟨env1, S1, e1, env2, S2, e2, h2⟩ := hs d (List.mem_cons_self ..) ds.length env S h
    obtain ⟨env', S', e, h'⟩ := ih (fun d' hd => hs d' (List.mem_cons_of_mem _ hd)) env2 S2 h2
    refine ⟨env', S', ?_, h'⟩
    unfold loopD
    simp only [e1, Res.toS, e2]
    exact e
theorem np_t (e0 e1 e2 e3 e4 : Option D) (v : Int) (S : Sto) (b : Bool) (h : S__law_is_prime [.int v] S = .ok (.bl b) S) : t_np [e0, e1, e2, e3, e4, some (.int v)] S = .ok (!b) S := by
  unfold t_np
  simp [runB, startD, outR, sSeq, sIf, sRet, sRetN, sNext, sExpr, sAsg, gNm, gSb, sPar, parOut, sPar3, parOut3, sAug, dC, dVar, d1, d2, daCons, daNil, dCallB, dCall, dTr, dNotT, dOrT, dAndT, dAnd, dOr, dNot, dIf, dChain, dTup, dLst, dLstM, dBm, dBm0, dSl, doSome, doNone, dItems, dRng, Res.bind, Res.toS, DL.resB, DL.resO, tru_bl, tru_int, ty_int, ty_bl, ty_non, ty_str, ty_tup, ty_lst, its_tup, its_lst, i2, gLt, gLe, gGt, gGe, DL.gSub, gAddI, h]
theorem np_f (e0 e1 e2 e3 e4 : Option D) (v : Int) (S : Sto) : f_np [e0, e1, e2, e3, e4, some (.int v)] S = .nx [e0, e1, e2, e3, e4, some (.int (v + 1))] S := by
  unfold f_np
  simp [runB, startD, outR, sSeq, sIf, sRet, sRetN, sNext, sExpr, sAsg, gNm, gSb, sPar, parOut, sPar3, parOut3, sAug, dC, dVar, d1, d2, daCons, daNil, dCallB, dCall, dTr, dNotT, dOrT, dAndT, dAnd, dOr, dNot, dIf, dChain, dTup, dLst, dLstM, dBm, dBm0, dSl, doSome, doNone, dItems, dRng, Res.bind, Res.toS, DL.resB, DL.resO, tru_bl, tru_int, ty_int, ty_bl, ty_non, ty_str, ty_tup, ty_lst, its_tup, its_lst, i2, gLt, gLe, gGt, gGe, DL.gSub, gAddI, gAdd_int]
theorem loop_np (e0 e1 e2 e3 e4 : Option D) (S : Sto) : ∀ (k N : Nat) (v : Int), v + k = 20011 → 2 ≤ v → k < N → ∃ v' : Int, whileD t_np f_np N [e0, e1, e2, e3, e4, some (.int v)] S = .nx [e0, e1, e2, e3, e4, some (.int v')] S ∧ 2 ≤ v' ∧ v' ≤ 20011 := by
  intro k
  induction k with
  | zero =>
    intro N v e h2 hN
    obtain ⟨M, rfl⟩ : ∃ M, N = M + 1 := ⟨N - 1, by omega⟩
    obtain ⟨b, hb, hp⟩ := r_prime v ⟨h2, by omega⟩ S
    have := hp (by omega)
    subst this
    refine ⟨v, ?_, h2, by omega⟩
    unfold whileD
    rw [np_t e0 e1 e2 e3 e4 v S true hb]
    rfl
  | succ k ih =>
    intro N v e h2 hN
    obtain ⟨M, rfl⟩ : ∃ M, N = M + 1 := ⟨N - 1, by omega⟩
    obtain ⟨b, hb, hp⟩ := r_prime v ⟨h2, by omega⟩ S
    cases b with
    | true =>
      refine ⟨v, ?_, h2, by omega⟩
      unfold whileD
      rw [np_t e0 e1 e2 e3 e4 v S true hb]
      rfl
    | false =>
      obtain ⟨v', e', h⟩ := ih M (v + 1) (by omega) (by omega) (by omega)
      refine ⟨v', ?_, h⟩
      unfold whileD
      rw [np_t e0 e1 e2 e3 e4 v S false hb]
      simp only [Res.toS, Bool.not_false, if_true, np_f]
      exact e'
theorem at_pB1 (p : Nat) (e1 e2 e3 e4 e5 : Option D) (S : Sto) (h : PenAt S p) : ∃ v w f : Int, pB1 [some (.loc p), e1, e2, e3, e4, e5] S = .nx [some (.loc p), e1, e2, e3, e4, some (.int v)] (S.set p (.lst [.int w, .int f])) ∧ 2 ≤ v ∧ v ≤ 20011 := by
  obtain ⟨r, w, f, e, h0, h1⟩ := r_draw S p 10 h (by omega)
  obtain ⟨d, hd, hm⟩ := at_mem [.int 2, .int 3, .int 5, .int 5, .int 7, .int 13, .int 17, .int 29, .int 101, .int 9973] r ⟨h0, h1⟩
  have hv : ∃ v : Int, d = .int v ∧ 2 ≤ v ∧ v ≤ 20011 := by
    simp only [List.mem_cons, List.not_mem_nil, or_false] at hm
    rcases hm with rfl | rfl | rfl | rfl | rfl | rfl | rfl | rfl | rfl | rfl <;> exact ⟨_, rfl, by omega, by omega⟩
  obtain ⟨v, rfl, h2, h3⟩ := hv
  refine ⟨v, w, f, ?_, h2, h3⟩
  have l10 : 10 ≤ lim := by decide
  unfold pB1
  simp [runB, startD, outR, sSeq, sIf, sRet, sRetN, sNext, sExpr, sAsg, gNm, gSb, sPar, parOut, sPar3, parOut3, sAug, dC, dVar, d1, d2, daCons, daNil, dCallB, dCall, dTr, dNotT, dOrT, dAndT, dAnd, dOr, dNot, dIf, dChain, dTup, dLst, dLstM, dBm, dBm0, dSl, doSome, doNone, dItems, dRng, Res.bind, Res.toS, DL.resB, DL.resO, tru_bl, tru_int, ty_int, ty_bl, ty_non, ty_str, ty_tup, ty_lst, its_tup, its_lst, i2, gLt, gLe, gGt, gGe, DL.gSub, gAddI, l10, e, gIx, hd]
theorem at_pB2 (p : Nat) (e1 e2 e3 e4 : Option D) (v : Int) (S : Sto) (h : PenAt S p) (hv : 2 ≤ v ∧ v ≤ 20011) : ∃ v' w f : Int, pB2 [some (.loc p), e1, e2, e3, e4, some (.int v)] S = .nx [some (.loc p), e1, e2, e3, e4, some (.int v')] (S.set p (.lst [.int w, .int f])) ∧ 2 ≤ v' ∧ v' ≤ 20011 := by
  obtain ⟨r, w, f, e, h0, h1⟩ := r_draw S p 12 h (by omega)
  by_cases hr : r = 0
  · obtain ⟨r2, w2, f2, e2', h02, h12⟩ := r_draw (S.set p (.lst [.int w, .int f])) p 20000 (pen_kept h w f) (by omega)
    rw [List.set_set] at e2'
    have hbg : 20011 < big := by rw [big_eq]; omega
    obtain ⟨v', hw, h3⟩ := loop_np (some (.loc p)) e1 e2 e3 e4 (S.set p (.lst [.int w2, .int f2])) (20011 - (2 + r2).toNat) big (2 + r2) (by omega) (by omega) (by omega)
    have hw' : sWhile t_np f_np [some (.loc p), e1, e2, e3, e4, some (.int (2 + r2))] (S.set p (.lst [.int w2, .int f2])) = _ := hw
    refine ⟨v', w2, f2, ?_, h3⟩
    subst hr
    unfold pB2
    simp [runB, startD, outR, sSeq, sIf, sRet, sRetN, sNext, sExpr, sAsg, gNm, gSb, sPar, parOut, sPar3, parOut3, sAug, dC, dVar, d1, d2, daCons, daNil, dCallB, dCall, dTr, dNotT, dOrT, dAndT, dAnd, dOr, dNot, dIf, dChain, dTup, dLst, dLstM, dBm, dBm0, dSl, doSome, doNone, dItems, dRng, Res.bind, Res.toS, DL.resB, DL.resO, tru_bl, tru_int, ty_int, ty_bl, ty_non, ty_str, ty_tup, ty_lst, its_tup, its_lst, i2, gLt, gLe, gGt, gGe, DL.gSub, gAddI, e, gEq_int, e2', gAdd_int, hw']
  · refine ⟨v, w, f, ?_, hv⟩
    unfold pB2
    simp [runB, startD, outR, sSeq, sIf, sRet, sRetN, sNext, sExpr, sAsg, gNm, gSb, sPar, parOut, sPar3, parOut3, sAug, dC, dVar, d1, d2, daCons, daNil, dCallB, dCall, dTr, dNotT, dOrT, dAndT, dAnd, dOr, dNot, dIf, dChain, dTup, dLst, dLstM, dBm, dBm0, dSl, doSome, doNone, dItems, dRng, Res.bind, Res.toS, DL.resB, DL.resO, tru_bl, tru_int, ty_int, ty_bl, ty_non, ty_str, ty_tup, ty_lst, its_tup, its_lst, i2, gLt, gLe, gGt, gGe, DL.gSub, gAddI, e, gEq_int, hr]
theorem put_len (kvs : List (L2.Key × D)) (k : L2.Key) (v : D) : (putD kvs k v).length ≤ kvs.length + 1 := by
  unfold putD
  split <;> simp
theorem put_int (kvs : List (L2.Key × D)) (k : L2.Key) (i : Int) (h : ∀ kv ∈ kvs, ∃ j : Int, kv.2 = .int j) : ∀ kv ∈ putD kvs k (.int i), ∃ j : Int, kv.2 = .int j := by
  intro kv hk
  unfold putD at hk
  split at hk
  · obtain ⟨x, hx, rfl⟩ := List.mem_map.mp hk
    split
    · exact ⟨i, rfl⟩
    · exact h x hx
  · rcases List.mem_append.mp hk with hk | hk
    · exact h kv hk
    · simp at hk
      subst hk
      exact ⟨i, rfl⟩
theorem val_int (kvs : List (L2.Key × D)) (k : L2.Key) (h : ∀ kv ∈ kvs, ∃ j : Int, kv.2 = .int j) : ∃ j : Int, (valD kvs k).getD (.int 0) = .int j := by
  unfold valD
  cases e : kvs.find? fun kv => decide (kv.1 = k) with
  | none => exact ⟨0, rfl⟩
  | some kv =>
    obtain ⟨j, hj⟩ := h kv (List.mem_of_find?_eq_some e)
    exact ⟨j, hj⟩
theorem at_pB3 (p q : Nat) (x v : Int) (e4 : Option D) (S : Sto) (kvs : List (L2.Key × D)) (hx : 1 ≤ x ∧ x ≤ 1000000) (hv : 2 ≤ v ∧ v ≤ 20011) (hq : S[q]? = some (.dct kvs)) (hl : kvs.length < lim) (hi : ∀ kv ∈ kvs, ∃ j : Int, kv.2 = .int j) :
    ∃ (x' : Int) (kvs' : List (L2.Key × D)), pB3 [some (.loc p), some (.int 1000000), some (.int x), some (.loc q), e4, some (.int v)] S = .nx [some (.loc p), some (.int 1000000), some (.int x'), some (.loc q), e4, some (.int v)] (S.set q (.dct kvs')) ∧ 1 ≤ x' ∧ x' ≤ 1000000 ∧ kvs'.length ≤ kvs.length + 1 ∧ ∀ kv ∈ kvs', ∃ j : Int, kv.2 = .int j := by
  have m := gMul_ok x v S ⟨by omega, by omega⟩
  by_cases hc : x * v ≤ 1000000
  · obtain ⟨j, hj⟩ := val_int kvs (.inl v) hi
    have hp : 1 ≤ x * v := by
      have := Int.mul_pos (show 0 < x by omega) (show 0 < v by omega)
      omega
    refine ⟨x * v, putD kvs (.inl v) (.int (j + 1)), ?_, hp, hc, put_len _ _ _, put_int _ _ _ hi⟩
    have hty : tyD (.loc q) S = some "dict" := by simp [tyD, hq]
    have hg : gGet (.loc q) [.int v, .int 0] S = .ok (.int j) S := by simp [gGet, hq, keyD, hj]
    have hs : gSet2 (.loc q) (.int v) (.int (j + 1)) S = .ok () (S.set q (.dct (putD kvs (.inl v) (.int (j + 1))))) := by simp [gSet2, hq, keyD, hl]
    unfold pB3
    simp [runB, startD, outR, sSeq, sIf, sRet, sRetN, sNext, sExpr, sAsg, gNm, gSb, sPar, parOut, sPar3, parOut3, sAug, dC, dVar, d1, d2, daCons, daNil, dCallB, dCall, dTr, dNotT, dOrT, dAndT, dAnd, dOr, dNot, dIf, dChain, dTup, dLst, dLstM, dBm, dBm0, dSl, doSome, doNone, dItems, dRng, Res.bind, Res.toS, DL.resB, DL.resO, tru_bl, tru_int, ty_int, ty_bl, ty_non, ty_str, ty_tup, ty_lst, its_tup, its_lst, i2, gLt, gLe, gGt, gGe, DL.gSub, gAddI, m, hc, hty, hg, gAdd_int, hs]
  · refine ⟨x, kvs, ?_, hx.1, hx.2, by omega, hi⟩
    unfold pB3
    simp [runB, startD, outR, sSeq, sIf, sRet, sRetN, sNext, sExpr, sAsg, gNm, gSb, sPar, parOut, sPar3, parOut3, sAug, dC, dVar, d1, d2, daCons, daNil, dCallB, dCall, dTr, dNotT, dOrT, dAndT, dAnd, dOr, dNot, dIf, dChain, dTup, dLst, dLstM, dBm, dBm0, dSl, doSome, doNone, dItems, dRng, Res.bind, Res.toS, DL.resB, DL.resO, tru_bl, tru_int, ty_int, ty_bl, ty_non, ty_str, ty_tup, ty_lst, its_tup, its_lst, i2, gLt, gLe, gGt, gGe, DL.gSub, gAddI, m, hc, set_same hq]
def ProdI (p q : Nat) (k : Nat) (env : DEnv) (S : Sto) : Prop := ∃ (x : Int) (e4 e5 : Option D) (kvs : List (L2.Key × D)), env = [some (.loc p), some (.int 1000000), some (.int x), some (.loc q), e4, e5] ∧ 1 ≤ x ∧ x ≤ 1000000 ∧ PenAt S p ∧ p ≠ q ∧ S[q]? = some (.dct kvs) ∧ kvs.length + k ≤ 8 ∧ ∀ kv ∈ kvs, ∃ j : Int, kv.2 = .int j
theorem prod_turn (p q k : Nat) (d : D) (env : DEnv) (S : Sto) (h : ProdI p q (k + 1) env S) : ∃ env1 S1, pG d env S = .ok env1 S1 ∧ ∃ env2 S2, pBody env1 S1 = .nx env2 S2 ∧ ProdI p q k env2 S2 := by
  obtain ⟨x, e4, e5, kvs, rfl, hx1, hx2, hpen, hne, hq, hl, hi⟩ := h
  refine ⟨[some (.loc p), some (.int 1000000), some (.int x), some (.loc q), some d, e5], S, rfl, ?_⟩
  obtain ⟨v, w, f, b1, hv⟩ := at_pB1 p (some (.int 1000000)) (some (.int x)) (some (.loc q)) (some d) e5 S hpen
  have pen1 := pen_kept hpen w f
  obtain ⟨v2, w2, f2, b2, hv2⟩ := at_pB2 p (some (.int 1000000)) (some (.int x)) (some (.loc q)) (some d) v (S.set p (.lst [.int w, .int f])) pen1 hv
  have pen2 := pen_kept hpen w2 f2
  rw [List.set_set] at b2
  have hq2 : (S.set p (MO.lst [.int w2, .int f2]))[q]? = some (.dct kvs) := by rw [List.getElem?_set_ne hne]; exact hq
  have hlim : kvs.length < lim := by unfold lim; omega
  obtain ⟨x', kvs', b3, hx1', hx2', hl', hi'⟩ := at_pB3 p q x v2 (some d) _ kvs ⟨hx1, hx2⟩ hv2 hq2 hlim hi
  refine ⟨_, (S.set p (MO.lst [.int w2, .int f2])).set q (.dct kvs'), ?_, x', some d, some (.int v2), kvs', rfl, hx1', hx2', ?_, hne, ?_, by omega, hi'⟩
  · unfold pBody sSeq
    rw [b1]
    simp only [b2]
    exact b3
  · obtain ⟨v9, f9, h9⟩ := pen2
    exact ⟨v9, f9, by rw [List.getElem?_set_ne hne.symm]; exact h9⟩
  · have := (List.getElem?_eq_some_iff.mp hq2).1
    simp [List.getElem?_set, this]
    simpa using this
theorem r_product (S : Sto) (p : Nat) (h : PenAt S p) : ∃ (x : Int) (q : Nat) (S' : Sto), S__law_product [.loc p, .int 1000000] S = .ok (.tup [.int x, .loc q]) S' ∧ PenAt S' p ∧ 1 ≤ x ∧ x ≤ 1000000 := by
  obtain ⟨v0, f0, hp⟩ := id h
  have hpl := (List.getElem?_eq_some_iff.mp hp).1
  have h1 : PenAt (S ++ [.dct []]) p := ⟨v0, f0, by rw [List.getElem?_append_left hpl]; exact hp⟩
  obtain ⟨r, w, f, e, h0, hr⟩ := r_draw (S ++ [.dct []]) p 8 h1 (by omega)
  have hne : p ≠ S.length := by omega
  have hI : ProdI p S.length (rangeD 0 (1 + r).toNat).length [some (.loc p), some (.int 1000000), some (.int 1), some (.loc S.length), none, none] ((S ++ [MO.dct []]).set p (.lst [.int w, .int f])) := by
    refine ⟨1, none, none, [], rfl, by omega, by omega, pen_kept h1 w f, hne, ?_, ?_, by simp⟩
    · rw [List.getElem?_set_ne hne]
      simp
    · simp [rangeD]
      omega
  obtain ⟨env', S', el, x, e4, e5, kvs, rfl, hx1, hx2, hpen, _⟩ := loop_inv (g := pG) (f := pBody) (rangeD 0 (1 + r).toNat) (fun d _ k env S hIk => prod_turn p _ k d env S hIk) _ _ hI
  refine ⟨x, S.length, S', ?_, hpen, hx1, hx2⟩
  have l2 : 2 ≤ lim := by decide
  have hrg : rngI [.int (1 + r)] = some (rangeD 0 (1 + r).toNat) := by
    unfold rngI
    have : -(2 ^ 62) ≤ 1 + r ∧ 1 + r < 2 ^ 62 := ⟨by omega, by omega⟩
    exact if_pos this
  unfold S__law_product
  rw [b_product]
  simp [runB, startD, outR, sSeq, sIf, sRet, sRetN, sNext, sExpr, sAsg, gNm, gSb, sPar, parOut, sPar3, parOut3, sAug, dC, dVar, d1, d2, daCons, daNil, dCallB, dCall, dTr, dNotT, dOrT, dAndT, dAnd, dOr, dNot, dIf, dChain, dTup, dLst, dLstM, dBm, dBm0, dSl, doSome, doNone, dItems, dRng, Res.bind, Res.toS, DL.resB, DL.resO, tru_bl, tru_int, ty_int, ty_bl, ty_non, ty_str, ty_tup, ty_lst, its_tup, its_lst, i2, gLt, gLe, gGt, gGe, DL.gSub, gAddI, dDct, sFor, e, gAdd_int, hrg, el, l2]
end K40
end

-- K40s6
section
set_option Elab.async false
set_option linter.all false
set_option maxRecDepth 100000
set_option maxHeartbeats 4000000
namespace K40
open PySem DL
noncomputable def lB1 (c : Cl) : DS := (sIf (dNotT (dTr (dCall 2 (lookF S__law_same) (daCons (dCall 1 (S__law_came c) (daCons (dVar 1) (daNil))) (daCons (dCall 1 S__law_squares (daCons (dVar 1) (daNil))) (daNil)))))) (sRet (dC (.bl false))) (sNext))
noncomputable def lA3 : DS := (sAsg (dCall 1 S__law_pen (daCons (dVar 2) (daNil))) (gNm 3))
noncomputable def lA4 : DS := (sAsg (d2 gIx (dLst (daCons (dC (.int 300)) (daCons (dC (.int 4000)) (daCons (dC (.int 22000)) (daNil))))) (dCall 2 S__law_draw (daCons (dVar 3) (daCons (dC (.int 3)) (daNil))))) (gNm 4))
noncomputable def lA56 : DS := (sPar 5 6 (daCons (dCall 2 S__law_draw (daCons (dVar 3) (daCons (dVar 4) (daNil)))) (daCons (dCall 2 S__law_draw (daCons (dVar 3) (daCons (dVar 4) (daNil)))) (daNil))))
noncomputable def lA7 : DS := (sAsg (dLst (daCons (dCall 2 S__law_draw (daCons (dVar 3) (daCons (dC (.int 10000)) (daNil)))) (daCons (d2 gIx (dCall 2 S__law_product (daCons (dVar 3) (daCons (d2 gPow (dC (.int 10)) (dC (.int 6))) (daNil)))) (dC (.int 0))) (daCons (d2 gAdd (d2 gMulI (dVar 5) (dVar 5)) (d2 gMulI (dVar 6) (dVar 6))) (daCons (d2 gMulI (dVar 5) (dVar 5)) (daCons (d2 gMulI (d2 gMulI (dC (.int 2)) (dVar 5)) (dVar 5)) (daNil))))))) (gNm 7))
noncomputable def lBB (c : Cl) : DS := (sIf (dTr (d2 gNe (dCall 1 (S__law_came c) (daCons (dVar 13) (daNil))) (dC (.str "number")))) (sRet (dC (.bl false))) (sNext))
noncomputable def lN1 : DS := (sAsg (dCall 1 S__law_squares (daCons (dVar 1) (daNil))) (gNm 8))
noncomputable def lN3 (c : Cl) : DS := (sPar 11 12 (daCons (dCall 1 (S__law_came c) (daCons (dVar 1) (daNil))) (daCons (dCall 1 (S__law_came c) (daCons (dC (.int 1)) (daNil))) (daNil))))
noncomputable def lN4 : DS := (sIf (dOrT (dTr (d2 (lookG gNe) (dVar 12) (dLst (daCons (dTup (daCons (dC (.int 0)) (daCons (dC (.int 1)) (daNil)))) (daNil))))) (dNotT (dTr (dCall 2 (lookF S__law_same) (daCons (dVar 11) (daCons (dVar 8) (daNil))))))) (sRet (dC (.bl false))) (sNext))
noncomputable def lR1 (c : Cl) : DS := (sAsg (dCall 1 (S__law_came c) (daCons (dVar 1) (daNil))) (gNm 10))
noncomputable def lR2 : DS := (sIf (dNotT (dTr (dCall 2 (lookF S__law_same) (daCons (dVar 10) (daCons (dVar 8) (daNil)))))) (sRet (dC (.bl false))) (sNext))
noncomputable def lR3 : DS := (sExpr (dBm "list" gAppend (dVar 10) (daCons (dTup (daNil)) (daNil))))
noncomputable def lIR : DI := (dRng (daCons (dC (.int 2)) (daNil)))
noncomputable def lI1 : DI := (dItems (dLst (daCons (dC (.int 0)) (daCons (dC (.int 1)) (daCons (dC (.int 2)) (daCons (dC (.int 3)) (daCons (dC (.int 25)) (daCons (dC (.int 50)) (daCons (dC (.int 325)) (daCons (dC (.int 5525)) (daCons (d2 gPow (dC (.int 10)) (dC (.int 6))) (daCons (d2 gPow (dC (.int 10)) (dC (.int 9))) (daNil)))))))))))))
noncomputable def lI2 : DI := (dItems (d2 gAdd (dLst (daCons (dCall 2 S__law_cell (daCons (dVar 0) (daCons (dC (.int 0)) (daNil)))) (daNil))) (dSl (dVar 0) (doSome (dC (.int 1))) (doSome (dC (.int 2))))))
noncomputable def lIN : DI := (dItems (dVar 7))
noncomputable def lIB : DI := (dItems (dLst (daCons (dCall 3 S__law_no_number (daCons (dVar 3) (daCons (dC (.int 0)) (daCons (d2 gPow (dC (.int 10)) (dC (.int 9))) (daNil))))) (daCons (d1 gNeg (dC (.int 1))) (daCons (d2 gAdd (d2 gPow (dC (.int 10)) (dC (.int 9))) (dC (.int 1))) (daNil))))))
noncomputable def lG1  : DG := (gNm 1)
noncomputable def lG2 : DG := (gNm 2)
noncomputable def lGB : DG := (gNm 13)
noncomputable def lGR : DG := (gNm 9)
noncomputable def lBR (c : Cl) : DS := sSeq (lR1 c) (sSeq lR2 lR3)
noncomputable def lBN (c : Cl) : DS := sSeq lN1 (sSeq (sFor lIR lGR (lBR c)) (sSeq (lN3 c) lN4))
noncomputable def lB2 (c : Cl) : DS := sSeq lA3 (sSeq lA4 (sSeq lA56 (sSeq lA7 (sSeq (sFor lIN lG1 (lBN c)) (sFor lIB lGB (lBB c))))))
theorem b_law_eq (c : Cl) : b_law c = sSeq (sFor lI1 lG1 (lB1 c)) (sSeq (sFor lI2 lG2 (lB2 c)) (sRet (dC (.bl true)))) := rfl
def NumOk (d : D) : Prop := ∃ n : Int, d = .int n ∧ 0 ≤ n ∧ n ≤ 1000000000
theorem loop_ev {g : DG} {f : DS} {I : DEnv → Sto → Prop} (ds : List D) (h : ∀ d ∈ ds, ∀ env S, I env S → ∃ env1 S1, g d env S = .ok env1 S1 ∧ ∃ env2 S2, f env1 S1 = .nx env2 S2 ∧ I env2 S2) (env : DEnv) (S : Sto) (h0 : I env S) : ∃ env' S', loopD g f ds env S = .nx env' S' ∧ I env' S' :=
  loop_inv (I := fun _ => I) ds (fun d hd _ env S hI => h d hd env S hI) env S h0
section
variable (L : D) (c : Cl)
def Ext (S S' : Sto) : Prop := ∀ (i : Nat) (m : MO), S[i]? = some m → S'[i]? = some m
theorem Ext.pen {S S' : Sto} {p : Nat} (h : Ext S S') (k : PenAt S p) : PenAt S' p := let ⟨v, f, e⟩ := k; ⟨v, f, h _ _ e⟩
theorem ext_app (S : Sto) (m : MO) : Ext S (S ++ [m]) := fun i x e => by
  rw [List.getElem?_append_left (List.getElem?_eq_some_iff.mp e).1]
  exact e
theorem came_ex (n : Int) (hn : 0 ≤ n ∧ n ≤ 1000000000) (S : Sto) : ∃ S1, S__law_came c [.int n] S = .ok (.loc S.length) S1 ∧ S1[S.length]? = some (.lst (ways n)) ∧ Ext S S1 :=
  ⟨_, r_came n S c hn, by simp, ext_app S _⟩
theorem sq_ex (n : Int) (hn : 0 ≤ n ∧ n ≤ 1000000000) (S : Sto) : ∃ S1, S__law_squares [.int n] S = .ok (.loc S.length) S1 ∧ S1[S.length]? = some (.lst (ways n)) ∧ Ext S S1 :=
  ⟨_, r_squares n S hn, by simp, ext_app S _⟩
theorem at_lB1 (n : Int) (hn : 0 ≤ n ∧ n ≤ 1000000000) (e0 e2 e3 e4 e5 e6 e7 e8 e9 e10 e11 e12 e13 : Option D) (S : Sto) : ∃ S', lB1 c [e0, some (.int n), e2, e3, e4, e5, e6, e7, e8, e9, e10, e11, e12, e13] S = .nx [e0, some (.int n), e2, e3, e4, e5, e6, e7, e8, e9, e10, e11, e12, e13] S' := by
  obtain ⟨S1, h1, a1, x1⟩ := came_ex c n hn S
  obtain ⟨S2, h2, a2, x2⟩ := sq_ex n hn S1
  have h3 := look_same n S.length S1.length S2 (x2 _ _ a1) a2
  refine ⟨S2, ?_⟩
  unfold lB1
  simp [runB, startD, outR, sSeq, sIf, sRet, sRetN, sNext, sExpr, sAsg, gNm, gSb, sPar, parOut, sPar3, parOut3, sAug, dC, dVar, d1, d2, daCons, daNil, dCallB, dCall, dTr, dNotT, dOrT, dAndT, dAnd, dOr, dNot, dIf, dChain, dTup, dLst, dLstM, dBm, dBm0, dSl, doSome, doNone, dItems, dRng, Res.bind, Res.toS, DL.resB, DL.resO, tru_bl, tru_int, ty_int, ty_bl, ty_non, ty_str, ty_tup, ty_lst, its_tup, its_lst, i2, gLt, gLe, gGt, gGe, DL.gSub, gAddI, h1, h2, h3]
theorem at_lA3 (y : Int) (e0 e1 e3 e4 e5 e6 e7 e8 e9 e10 e11 e12 e13 : Option D) (S : Sto) : ∃ f : Int, lA3 [e0, e1, some (.int y), e3, e4, e5, e6, e7, e8, e9, e10, e11, e12, e13] S = .nx [e0, e1, some (.int y), some (.loc S.length), e4, e5, e6, e7, e8, e9, e10, e11, e12, e13] (S ++ [.lst [.int y, .int f]]) := by
  obtain ⟨f, e⟩ := r_pen y S
  refine ⟨f, ?_⟩
  unfold lA3
  simp [runB, startD, outR, sSeq, sIf, sRet, sRetN, sNext, sExpr, sAsg, gNm, gSb, sPar, parOut, sPar3, parOut3, sAug, dC, dVar, d1, d2, daCons, daNil, dCallB, dCall, dTr, dNotT, dOrT, dAndT, dAnd, dOr, dNot, dIf, dChain, dTup, dLst, dLstM, dBm, dBm0, dSl, doSome, doNone, dItems, dRng, Res.bind, Res.toS, DL.resB, DL.resO, tru_bl, tru_int, ty_int, ty_bl, ty_non, ty_str, ty_tup, ty_lst, its_tup, its_lst, i2, gLt, gLe, gGt, gGe, DL.gSub, gAddI, e]
theorem at_lA4 (p : Nat) (e0 e1 e2 e4 e5 e6 e7 e8 e9 e10 e11 e12 e13 : Option D) (S : Sto) (h : PenAt S p) : ∃ (m : Int) (S' : Sto), lA4 [e0, e1, e2, some (.loc p), e4, e5, e6, e7, e8, e9, e10, e11, e12, e13] S = .nx [e0, e1, e2, some (.loc p), some (.int m), e5, e6, e7, e8, e9, e10, e11, e12, e13] S' ∧ PenAt S' p ∧ 0 < m ∧ m ≤ 22000 := by
  obtain ⟨r, w, f, e, h0, h1⟩ := r_draw S p 3 h (by omega)
  obtain ⟨d, hd, hm⟩ := at_mem [.int 300, .int 4000, .int 22000] r ⟨h0, h1⟩
  have hv : ∃ v : Int, d = .int v ∧ 0 < v ∧ v ≤ 22000 := by
    simp only [List.mem_cons, List.not_mem_nil, or_false] at hm
    rcases hm with rfl | rfl | rfl <;> exact ⟨_, rfl, by omega, by omega⟩
  obtain ⟨v, rfl, h2, h3⟩ := hv
  refine ⟨v, _, ?_, pen_kept h w f, h2, h3⟩
  have l3 : 3 ≤ lim := by decide
  unfold lA4
  simp [runB, startD, outR, sSeq, sIf, sRet, sRetN, sNext, sExpr, sAsg, gNm, gSb, sPar, parOut, sPar3, parOut3, sAug, dC, dVar, d1, d2, daCons, daNil, dCallB, dCall, dTr, dNotT, dOrT, dAndT, dAnd, dOr, dNot, dIf, dChain, dTup, dLst, dLstM, dBm, dBm0, dSl, doSome, doNone, dItems, dRng, Res.bind, Res.toS, DL.resB, DL.resO, tru_bl, tru_int, ty_int, ty_bl, ty_non, ty_str, ty_tup, ty_lst, its_tup, its_lst, i2, gLt, gLe, gGt, gGe, DL.gSub, gAddI, l3, e, gIx, hd]
theorem at_lA56 (p : Nat) (m : Int) (e0 e1 e2 e5 e6 e7 e8 e9 e10 e11 e12 e13 : Option D) (S : Sto) (h : PenAt S p) (hm : 0 < m ∧ m ≤ 22000) : ∃ (a b : Int) (S' : Sto), lA56 [e0, e1, e2, some (.loc p), some (.int m), e5, e6, e7, e8, e9, e10, e11, e12, e13] S = .nx [e0, e1, e2, some (.loc p), some (.int m), some (.int a), some (.int b), e7, e8, e9, e10, e11, e12, e13] S' ∧ PenAt S' p ∧ (0 ≤ a ∧ a < 22000) ∧ (0 ≤ b ∧ b < 22000) := by
  obtain ⟨a, w, f, e, h0, h1⟩ := r_draw S p m h (by omega)
  have k := pen_kept h w f
  obtain ⟨b, w2, f2, e', h02, h12⟩ := r_draw _ p m k (by omega)
  refine ⟨a, b, _, ?_, pen_kept k w2 f2, ⟨h0, by omega⟩, ⟨h02, by omega⟩⟩
  unfold lA56
  simp [runB, startD, outR, sSeq, sIf, sRet, sRetN, sNext, sExpr, sAsg, gNm, gSb, sPar, parOut, sPar3, parOut3, sAug, dC, dVar, d1, d2, daCons, daNil, dCallB, dCall, dTr, dNotT, dOrT, dAndT, dAnd, dOr, dNot, dIf, dChain, dTup, dLst, dLstM, dBm, dBm0, dSl, doSome, doNone, dItems, dRng, Res.bind, Res.toS, DL.resB, DL.resO, tru_bl, tru_int, ty_int, ty_bl, ty_non, ty_str, ty_tup, ty_lst, its_tup, its_lst, i2, gLt, gLe, gGt, gGe, DL.gSub, gAddI, e, e']
theorem sq_le {a : Int} (h : 0 ≤ a ∧ a < 22000) : 0 ≤ a * a ∧ a * a ≤ 484000000 := by
  refine ⟨Int.mul_nonneg h.1 h.1, ?_⟩
  have : a * a ≤ 22000 * 22000 := Int.mul_le_mul (by omega) (by omega) (by omega) (by omega)
  omega
theorem at_lA7 (p : Nat) (a b : Int) (e0 e1 e2 e4 e7 e8 e9 e10 e11 e12 e13 : Option D) (S : Sto) (h : PenAt S p) (ha : 0 ≤ a ∧ a < 22000) (hb : 0 ≤ b ∧ b < 22000) :
    ∃ (ds : List D) (S' : Sto), lA7 [e0, e1, e2, some (.loc p), e4, some (.int a), some (.int b), e7, e8, e9, e10, e11, e12, e13] S = .nx [e0, e1, e2, some (.loc p), e4, some (.int a), some (.int b), some (.lst ds), e8, e9, e10, e11, e12, e13] S' ∧ PenAt S' p ∧ ∀ d ∈ ds, NumOk d := by
  obtain ⟨r, w, f, e, h0, h1⟩ := r_draw S p 10000 h (by omega)
  have k := pen_kept h w f
  obtain ⟨x, q, S', e', k', hx1, hx2⟩ := r_product _ p k
  have qa := sq_le ha
  have qb := sq_le hb
  have m1 := gMul_ok a a S' ⟨by omega, by omega⟩
  have m2 := gMul_ok b b S' ⟨by omega, by omega⟩
  have m3 := gMul_ok 2 a S' ⟨by omega, by omega⟩
  have m4 := gMul_ok (2 * a) a S' ⟨by omega, by omega⟩
  have e4' : 2 * a * a = 2 * (a * a) := Int.mul_assoc 2 a a
  refine ⟨[.int r, .int x, .int (a * a + b * b), .int (a * a), .int (2 * a * a)], S', ?_, k', ?_⟩
  · have l5 : 5 ≤ lim := by decide
    have hx : gIx (.tup [.int x, .loc q]) (.int 0) S' = .ok (.int x) S' := rfl
    unfold lA7
    simp [runB, startD, outR, sSeq, sIf, sRet, sRetN, sNext, sExpr, sAsg, gNm, gSb, sPar, parOut, sPar3, parOut3, sAug, dC, dVar, d1, d2, daCons, daNil, dCallB, dCall, dTr, dNotT, dOrT, dAndT, dAnd, dOr, dNot, dIf, dChain, dTup, dLst, dLstM, dBm, dBm0, dSl, doSome, doNone, dItems, dRng, Res.bind, Res.toS, DL.resB, DL.resO, tru_bl, tru_int, ty_int, ty_bl, ty_non, ty_str, ty_tup, ty_lst, its_tup, its_lst, i2, gLt, gLe, gGt, gGe, DL.gSub, gAddI, e, pow_6, e', hx, m1, m2, m3, m4, gAdd_int, l5]
  · intro d hd
    simp only [List.mem_cons, List.not_mem_nil, or_false] at hd
    rcases hd with rfl | rfl | rfl | rfl | rfl
    · exact ⟨_, rfl, by omega, by omega⟩
    · exact ⟨_, rfl, by omega, by omega⟩
    · exact ⟨_, rfl, by omega, by omega⟩
    · exact ⟨_, rfl, by omega, by omega⟩
    · exact ⟨_, rfl, by omega, by omega⟩
theorem ways_1 : ways 1 = [.tup [.int 0, .int 1]] := by
  rw [← ways_of (n := 1) (r := 1) (by omega) (by omega)]
  simp [tp]
theorem at_lN1 (n : Int) (hn : 0 ≤ n ∧ n ≤ 1000000000) (e0 e2 e3 e4 e5 e6 e7 e8 e9 e10 e11 e12 e13 : Option D) (S : Sto) : ∃ S1, lN1 [e0, some (.int n), e2, e3, e4, e5, e6, e7, e8, e9, e10, e11, e12, e13] S = .nx [e0, some (.int n), e2, e3, e4, e5, e6, e7, some (.loc S.length), e9, e10, e11, e12, e13] S1 ∧ S1[S.length]? = some (.lst (ways n)) ∧ Ext S S1 := by
  obtain ⟨S1, h1, a1, x1⟩ := sq_ex n hn S
  refine ⟨S1, ?_, a1, x1⟩
  unfold lN1
  simp [runB, startD, outR, sSeq, sIf, sRet, sRetN, sNext, sExpr, sAsg, gNm, gSb, sPar, parOut, sPar3, parOut3, sAug, dC, dVar, d1, d2, daCons, daNil, dCallB, dCall, dTr, dNotT, dOrT, dAndT, dAnd, dOr, dNot, dIf, dChain, dTup, dLst, dLstM, dBm, dBm0, dSl, doSome, doNone, dItems, dRng, Res.bind, Res.toS, DL.resB, DL.resO, tru_bl, tru_int, ty_int, ty_bl, ty_non, ty_str, ty_tup, ty_lst, its_tup, its_lst, i2, gLt, gLe, gGt, gGe, DL.gSub, gAddI, h1]
theorem at_lBR (n : Int) (hn : 0 ≤ n ∧ n ≤ 1000000000) (l : Nat) (e0 e2 e3 e4 e5 e6 e7 e9 e10 e11 e12 e13 : Option D) (S : Sto) (hl : S[l]? = some (.lst (ways n))) : ∃ S', lBR c [e0, some (.int n), e2, e3, e4, e5, e6, e7, some (.loc l), e9, e10, e11, e12, e13] S = .nx [e0, some (.int n), e2, e3, e4, e5, e6, e7, some (.loc l), e9, some (.loc S.length), e11, e12, e13] S' ∧ Ext S S' := by
  obtain ⟨S1, h1, a1, x1⟩ := came_ex c n hn S
  have h3 := look_same n S.length l S1 a1 (x1 _ _ hl)
  have hlen : (ways n).length < lim := by
    rw [ways_eq]
    have := tp_len n 65536 0
    unfold lim
    omega
  refine ⟨S1.set S.length (.lst (ways n ++ [.tup []])), ?_, ?_⟩
  · have r1 : lR1 c [e0, some (.int n), e2, e3, e4, e5, e6, e7, some (.loc l), e9, e10, e11, e12, e13] S = .nx [e0, some (.int n), e2, e3, e4, e5, e6, e7, some (.loc l), e9, some (.loc S.length), e11, e12, e13] S1 := by
      unfold lR1
      simp [runB, startD, outR, sSeq, sIf, sRet, sRetN, sNext, sExpr, sAsg, gNm, gSb, sPar, parOut, sPar3, parOut3, sAug, dC, dVar, d1, d2, daCons, daNil, dCallB, dCall, dTr, dNotT, dOrT, dAndT, dAnd, dOr, dNot, dIf, dChain, dTup, dLst, dLstM, dBm, dBm0, dSl, doSome, doNone, dItems, dRng, Res.bind, Res.toS, DL.resB, DL.resO, tru_bl, tru_int, ty_int, ty_bl, ty_non, ty_str, ty_tup, ty_lst, its_tup, its_lst, i2, gLt, gLe, gGt, gGe, DL.gSub, gAddI, h1]
    have r2 : lR2 [e0, some (.int n), e2, e3, e4, e5, e6, e7, some (.loc l), e9, some (.loc S.length), e11, e12, e13] S1 = .nx [e0, some (.int n), e2, e3, e4, e5, e6, e7, some (.loc l), e9, some (.loc S.length), e11, e12, e13] S1 := by
      unfold lR2
      simp [runB, startD, outR, sSeq, sIf, sRet, sRetN, sNext, sExpr, sAsg, gNm, gSb, sPar, parOut, sPar3, parOut3, sAug, dC, dVar, d1, d2, daCons, daNil, dCallB, dCall, dTr, dNotT, dOrT, dAndT, dAnd, dOr, dNot, dIf, dChain, dTup, dLst, dLstM, dBm, dBm0, dSl, doSome, doNone, dItems, dRng, Res.bind, Res.toS, DL.resB, DL.resO, tru_bl, tru_int, ty_int, ty_bl, ty_non, ty_str, ty_tup, ty_lst, its_tup, its_lst, i2, gLt, gLe, gGt, gGe, DL.gSub, gAddI, h3]
    have r3 : lR3 [e0, some (.int n), e2, e3, e4, e5, e6, e7, some (.loc l), e9, some (.loc S.length), e11, e12, e13] S1 = .nx [e0, some (.int n), e2, e3, e4, e5, e6, e7, some (.loc l), e9, some (.loc S.length), e11, e12, e13] (S1.set S.length (.lst (ways n ++ [.tup []]))) := by
      have hty : tyD (.loc S.length) S1 = some "list" := by simp [tyD, a1]
      have ha : gAppend (.loc S.length) [.tup []] S1 = .ok .non (S1.set S.length (.lst (ways n ++ [.tup []]))) := by simp [gAppend, a1, hlen]
      unfold lR3
      simp [runB, startD, outR, sSeq, sIf, sRet, sRetN, sNext, sExpr, sAsg, gNm, gSb, sPar, parOut, sPar3, parOut3, sAug, dC, dVar, d1, d2, daCons, daNil, dCallB, dCall, dTr, dNotT, dOrT, dAndT, dAnd, dOr, dNot, dIf, dChain, dTup, dLst, dLstM, dBm, dBm0, dSl, doSome, doNone, dItems, dRng, Res.bind, Res.toS, DL.resB, DL.resO, tru_bl, tru_int, ty_int, ty_bl, ty_non, ty_str, ty_tup, ty_lst, its_tup, its_lst, i2, gLt, gLe, gGt, gGe, DL.gSub, gAddI, hty, ha]
    unfold lBR sSeq
    simp only [r1, r2, r3]
  · intro i m e
    have hi := (List.getElem?_eq_some_iff.mp e).1
    rw [List.getElem?_set_ne (by omega)]
    exact x1 _ _ e
theorem at_lN3 (n : Int) (hn : 0 ≤ n ∧ n ≤ 1000000000) (e0 e2 e3 e4 e5 e6 e7 e8 e9 e10 e11 e12 e13 : Option D) (S : Sto) : ∃ (i j : Nat) (S' : Sto), lN3 c [e0, some (.int n), e2, e3, e4, e5, e6, e7, e8, e9, e10, e11, e12, e13] S = .nx [e0, some (.int n), e2, e3, e4, e5, e6, e7, e8, e9, e10, some (.loc i), some (.loc j), e13] S' ∧ Ext S S' ∧ S'[i]? = some (.lst (ways n)) ∧ S'[j]? = some (.lst (ways 1)) := by
  obtain ⟨S1, h1, a1, x1⟩ := came_ex c n hn S
  obtain ⟨S2, h2, a2, x2⟩ := came_ex c 1 (by omega) S1
  refine ⟨S.length, S1.length, S2, ?_, fun i m e => x2 _ _ (x1 _ _ e), x2 _ _ a1, a2⟩
  unfold lN3
  simp [runB, startD, outR, sSeq, sIf, sRet, sRetN, sNext, sExpr, sAsg, gNm, gSb, sPar, parOut, sPar3, parOut3, sAug, dC, dVar, d1, d2, daCons, daNil, dCallB, dCall, dTr, dNotT, dOrT, dAndT, dAnd, dOr, dNot, dIf, dChain, dTup, dLst, dLstM, dBm, dBm0, dSl, doSome, doNone, dItems, dRng, Res.bind, Res.toS, DL.resB, DL.resO, tru_bl, tru_int, ty_int, ty_bl, ty_non, ty_str, ty_tup, ty_lst, its_tup, its_lst, i2, gLt, gLe, gGt, gGe, DL.gSub, gAddI, h1, h2]
theorem look_ne (j : Nat) (S : Sto) (hj : S[j]? = some (.lst (ways 1))) : lookG gNe (.loc j) (.lst [.tup [.int 0, .int 1]]) S = .ok (.bl false) S := by
  rw [ways_1] at hj
  have r1 : resD deep S (.loc j) = some (.lst [.tup [.int 0, .int 1]]) := by
    show resD (19 + 1) S (.loc j) = _
    simp [resD, hj, mapO]
  have r2 : resD deep S (.lst [.tup [.int 0, .int 1]]) = some (.lst [.tup [.int 0, .int 1]]) := rfl
  have r3 : gNe (.lst [.tup [.int 0, .int 1]]) (.lst [.tup [.int 0, .int 1]]) (deads S) = .ok (.bl false) (deads S) := rfl
  unfold lookG
  simp only [r1, r2, r3, lookR, atomD, if_true]
theorem at_lN4 (n : Int) (l i j : Nat) (e0 e1 e2 e3 e4 e5 e6 e7 e9 e10 e13 : Option D) (S : Sto) (hl : S[l]? = some (.lst (ways n))) (hi : S[i]? = some (.lst (ways n))) (hj : S[j]? = some (.lst (ways 1))) : lN4 [e0, e1, e2, e3, e4, e5, e6, e7, some (.loc l), e9, e10, some (.loc i), some (.loc j), e13] S = .nx [e0, e1, e2, e3, e4, e5, e6, e7, some (.loc l), e9, e10, some (.loc i), some (.loc j), e13] S := by
  have h1 := look_ne j S hj
  have h2 := look_same n i l S hi hl
  have l1 : 1 ≤ lim := by decide
  have l2 : 2 ≤ lim := by decide
  unfold lN4
  simp [runB, startD, outR, sSeq, sIf, sRet, sRetN, sNext, sExpr, sAsg, gNm, gSb, sPar, parOut, sPar3, parOut3, sAug, dC, dVar, d1, d2, daCons, daNil, dCallB, dCall, dTr, dNotT, dOrT, dAndT, dAnd, dOr, dNot, dIf, dChain, dTup, dLst, dLstM, dBm, dBm0, dSl, doSome, doNone, dItems, dRng, Res.bind, Res.toS, DL.resB, DL.resO, tru_bl, tru_int, ty_int, ty_bl, ty_non, ty_str, ty_tup, ty_lst, its_tup, its_lst, i2, gLt, gLe, gGt, gGe, DL.gSub, gAddI, h1, h2, l1, l2]
theorem at_lBB (nd : (clsL c).Nodup) (d : D) (hd : NoNum d) (e0 e1 e2 e3 e4 e5 e6 e7 e8 e9 e10 e11 e12 : Option D) (S : Sto) : lBB c [e0, e1, e2, e3, e4, e5, e6, e7, e8, e9, e10, e11, e12, some d] S = .nx [e0, e1, e2, e3, e4, e5, e6, e7, e8, e9, e10, e11, e12, some d] S := by
  have h1 := r_came_no d S c nd (hd S)
  have h2 : gNe (.str "number") (.str "number") S = .ok (.bl false) S := by
    unfold gNe
    simp [pl, eqD]
  unfold lBB
  simp [runB, startD, outR, sSeq, sIf, sRet, sRetN, sNext, sExpr, sAsg, gNm, gSb, sPar, parOut, sPar3, parOut3, sAug, dC, dVar, d1, d2, daCons, daNil, dCallB, dCall, dTr, dNotT, dOrT, dAndT, dAnd, dOr, dNot, dIf, dChain, dTup, dLst, dLstM, dBm, dBm0, dSl, doSome, doNone, dItems, dRng, Res.bind, Res.toS, DL.resB, DL.resO, tru_bl, tru_int, ty_int, ty_bl, ty_non, ty_str, ty_tup, ty_lst, its_tup, its_lst, i2, gLt, gLe, gGt, gGe, DL.gSub, gAddI, h1, h2]
end
end K40
end

-- K40s7
section
set_option Elab.async false
set_option linter.all false
set_option maxRecDepth 100000
set_option maxHeartbeats 4000000
namespace K40
open PySem DL
section
variable (L : D) (c : Cl)
theorem sFor_at {fi : DI} {g : DG} {f : DS} {env env' : DEnv} {S S1 S' : Sto} {ds : List D} (h : fi env S = .ok ds S1) (e : loopD g f ds env S1 = .nx env' S') : sFor fi g f env S = .nx env' S' := by
  unfold sFor
  rw [h]
  exact e
def EnvP (p : Nat) (env : DEnv) (S : Sto) : Prop := ∃ e1 e2 e4 e5 e6 e7 e8 e9 e10 e11 e12 e13 : Option D, env = [some L, e1, e2, some (.loc p), e4, e5, e6, e7, e8, e9, e10, e11, e12, e13] ∧ PenAt S p
theorem at_IR (env : DEnv) (S : Sto) : lIR env S = .ok [.int 0, .int 1] S := by
  have h : rngI [.int 2] = some [.int 0, .int 1] := rfl
  unfold lIR
  simp [runB, startD, outR, sSeq, sIf, sRet, sRetN, sNext, sExpr, sAsg, gNm, gSb, sPar, parOut, sPar3, parOut3, sAug, dC, dVar, d1, d2, daCons, daNil, dCallB, dCall, dTr, dNotT, dOrT, dAndT, dAnd, dOr, dNot, dIf, dChain, dTup, dLst, dLstM, dBm, dBm0, dSl, doSome, doNone, dItems, dRng, Res.bind, Res.toS, DL.resB, DL.resO, tru_bl, tru_int, ty_int, ty_bl, ty_non, ty_str, ty_tup, ty_lst, its_tup, its_lst, i2, gLt, gLe, gGt, gGe, DL.gSub, gAddI, h]
theorem turn_N (p : Nat) (d : D) (hd : NumOk d) (env : DEnv) (S : Sto) (h : EnvP L p env S) : ∃ env1 S1, lG1 d env S = .ok env1 S1 ∧ ∃ env2 S2, lBN c env1 S1 = .nx env2 S2 ∧ EnvP L p env2 S2 := by
  obtain ⟨e1, e2, e4, e5, e6, e7, e8, e9, e10, e11, e12, e13, rfl, hp⟩ := h
  obtain ⟨n, rfl, hn⟩ := hd
  refine ⟨[some L, some (.int n), e2, some (.loc p), e4, e5, e6, e7, e8, e9, e10, e11, e12, e13], S, rfl, ?_⟩
  obtain ⟨S1, h1, a1, x1⟩ := at_lN1 n hn (some L) e2 (some (.loc p)) e4 e5 e6 e7 e8 e9 e10 e11 e12 e13 S
  obtain ⟨env2, S2, el, f9, f10, rfl, hp2, a2⟩ := loop_ev (g := lGR) (f := lBR c) (I := fun env S' => ∃ f9 f10 : Option D, env = [some L, some (.int n), e2, some (.loc p), e4, e5, e6, e7, some (.loc S.length), f9, f10, e11, e12, e13] ∧ PenAt S' p ∧ S'[S.length]? = some (.lst (ways n))) [.int 0, .int 1] (fun d _ env S' hI => by
    obtain ⟨f9, f10, rfl, k1, k2⟩ := hI
    refine ⟨[some L, some (.int n), e2, some (.loc p), e4, e5, e6, e7, some (.loc S.length), some d, f10, e11, e12, e13], S', rfl, ?_⟩
    obtain ⟨S'', r, x⟩ := at_lBR c n hn S.length (some L) e2 (some (.loc p)) e4 e5 e6 e7 (some d) f10 e11 e12 e13 S' k2
    exact ⟨_, S'', r, some d, _, rfl, x.pen k1, x _ _ k2⟩) [some L, some (.int n), e2, some (.loc p), e4, e5, e6, e7, some (.loc S.length), e9, e10, e11, e12, e13] S1 ⟨e9, e10, rfl, x1.pen hp, a1⟩
  have h2 := sFor_at (at_IR _ _) el
  obtain ⟨i, j, S3, h3, x3, b1, b2⟩ := at_lN3 c n hn (some L) e2 (some (.loc p)) e4 e5 e6 e7 (some (.loc S.length)) f9 f10 e11 e12 e13 S2
  have h4 := at_lN4 n S.length i j (some L) (some (.int n)) e2 (some (.loc p)) e4 e5 e6 e7 f9 f10 e13 S3 (x3 _ _ a2) b1 b2
  refine ⟨[some L, some (.int n), e2, some (.loc p), e4, e5, e6, e7, some (.loc S.length), f9, f10, some (.loc i), some (.loc j), e13], S3, ?_, _, _, _, _, _, _, _, _, _, _, _, _, rfl, x3.pen hp2⟩
  unfold lBN sSeq
  simp only [h1, h2, h3]
  exact h4
theorem at_IB (p : Nat) (e0 e1 e2 e4 e5 e6 e7 e8 e9 e10 e11 e12 e13 : Option D) (S : Sto) (h : PenAt S p) : ∃ (ds : List D) (S' : Sto), lIB [e0, e1, e2, some (.loc p), e4, e5, e6, e7, e8, e9, e10, e11, e12, e13] S = .ok ds S' ∧ ∀ d ∈ ds, NoNum d := by
  obtain ⟨d, v, f, e, hd⟩ := r_no_number S p h
  refine ⟨[d, .int (-1), .int 1000000001], S.set p (.lst [.int v, .int f]), ?_, ?_⟩
  · have l3 : 3 ≤ lim := by decide
    unfold lIB
    simp [runB, startD, outR, sSeq, sIf, sRet, sRetN, sNext, sExpr, sAsg, gNm, gSb, sPar, parOut, sPar3, parOut3, sAug, dC, dVar, d1, d2, daCons, daNil, dCallB, dCall, dTr, dNotT, dOrT, dAndT, dAnd, dOr, dNot, dIf, dChain, dTup, dLst, dLstM, dBm, dBm0, dSl, doSome, doNone, dItems, dRng, Res.bind, Res.toS, DL.resB, DL.resO, tru_bl, tru_int, ty_int, ty_bl, ty_non, ty_str, ty_tup, ty_lst, its_tup, its_lst, i2, gLt, gLe, gGt, gGe, DL.gSub, gAddI, pow_9, e, gNeg, gAdd_int, l3]
  · intro x hx
    simp only [List.mem_cons, List.not_mem_nil, or_false] at hx
    rcases hx with rfl | rfl | rfl
    · exact hd
    · exact nu_int (by omega)
    · exact nu_int (by omega)
def Env14 (env : DEnv) : Prop := ∃ e1 e2 e3 e4 e5 e6 e7 e8 e9 e10 e11 e12 e13 : Option D, env = [some L, e1, e2, e3, e4, e5, e6, e7, e8, e9, e10, e11, e12, e13]
theorem turn_2 (nd : (clsL c).Nodup) (d : D) (hd : ∃ y : Int, d = .int y) (env : DEnv) (S : Sto) (h : Env14 L env) : ∃ env1 S1, lG2 d env S = .ok env1 S1 ∧ ∃ env2 S2, lB2 c env1 S1 = .nx env2 S2 ∧ Env14 L env2 := by
  obtain ⟨e1, e2, e3, e4, e5, e6, e7, e8, e9, e10, e11, e12, e13, rfl⟩ := h
  obtain ⟨y, rfl⟩ := hd
  refine ⟨[some L, e1, some (.int y), e3, e4, e5, e6, e7, e8, e9, e10, e11, e12, e13], S, rfl, ?_⟩
  obtain ⟨f, h3⟩ := at_lA3 y (some L) e1 e3 e4 e5 e6 e7 e8 e9 e10 e11 e12 e13 S
  have p3 : PenAt (S ++ [.lst [.int y, .int f]]) S.length := ⟨y, f, by simp⟩
  obtain ⟨m, S4, h4, p4, m1, m2⟩ := at_lA4 S.length (some L) e1 (some (.int y)) e4 e5 e6 e7 e8 e9 e10 e11 e12 e13 _ p3
  obtain ⟨a, b, S5, h5, p5, ha, hb⟩ := at_lA56 S.length m (some L) e1 (some (.int y)) e5 e6 e7 e8 e9 e10 e11 e12 e13 _ p4 ⟨m1, m2⟩
  obtain ⟨ds, S7, h7, p7, hds⟩ := at_lA7 S.length a b (some L) e1 (some (.int y)) (some (.int m)) e7 e8 e9 e10 e11 e12 e13 _ p5 ha hb
  obtain ⟨env8, S8, el, f1, f2, f4, f5, f6, f7, f8, f9, f10, f11, f12, f13, rfl, p8⟩ := loop_ev (g := lG1) (f := lBN c) (I := EnvP L S.length) ds (fun d hd env S' hI => turn_N L c S.length d (hds d hd) env S' hI) [some L, e1, some (.int y), some (.loc S.length), some (.int m), some (.int a), some (.int b), some (.lst ds), e8, e9, e10, e11, e12, e13] S7 ⟨_, _, _, _, _, _, _, _, _, _, _, _, rfl, p7⟩
  have hIN : lIN [some L, e1, some (.int y), some (.loc S.length), some (.int m), some (.int a), some (.int b), some (.lst ds), e8, e9, e10, e11, e12, e13] S7 = .ok ds S7 := by
    unfold lIN
    simp [runB, startD, outR, sSeq, sIf, sRet, sRetN, sNext, sExpr, sAsg, gNm, gSb, sPar, parOut, sPar3, parOut3, sAug, dC, dVar, d1, d2, daCons, daNil, dCallB, dCall, dTr, dNotT, dOrT, dAndT, dAnd, dOr, dNot, dIf, dChain, dTup, dLst, dLstM, dBm, dBm0, dSl, doSome, doNone, dItems, dRng, Res.bind, Res.toS, DL.resB, DL.resO, tru_bl, tru_int, ty_int, ty_bl, ty_non, ty_str, ty_tup, ty_lst, its_tup, its_lst, i2, gLt, gLe, gGt, gGe, DL.gSub, gAddI, its_lst]
  have h8 := sFor_at hIN el
  obtain ⟨bs, S9, hIB, hbs⟩ := at_IB S.length (some L) f1 f2 f4 f5 f6 f7 f8 f9 f10 f11 f12 f13 S8 p8
  obtain ⟨env10, S10, el2, g1, g2, g3, g4, g5, g6, g7, g8, g9, g10, g11, g12, g13, rfl⟩ := loop_ev (g := lGB) (f := lBB c) (I := fun env _ => Env14 L env) bs (fun d hd env S' hI => by
    obtain ⟨g1, g2, g3, g4, g5, g6, g7, g8, g9, g10, g11, g12, g13, rfl⟩ := hI
    exact ⟨[some L, g1, g2, g3, g4, g5, g6, g7, g8, g9, g10, g11, g12, some d], S', rfl, _, S', at_lBB c nd d (hbs d hd) _ _ _ _ _ _ _ _ _ _ _ _ _ S', _, _, _, _, _, _, _, _, _, _, _, _, _, rfl⟩) [some L, f1, f2, some (.loc S.length), f4, f5, f6, f7, f8, f9, f10, f11, f12, f13] S9 ⟨_, _, _, _, _, _, _, _, _, _, _, _, _, rfl⟩
  have h9 := sFor_at hIB el2
  refine ⟨_, S10, ?_, g1, g2, g3, g4, g5, g6, g7, g8, g9, g10, g11, g12, g13, rfl⟩
  unfold lB2 sSeq
  simp only [h3, h4, h5, h7, h8]
  exact h9
theorem turn_1 (d : D) (hd : NumOk d) (env : DEnv) (S : Sto) (h : Env14 L env) : ∃ env1 S1, lG1 d env S = .ok env1 S1 ∧ ∃ env2 S2, lB1 c env1 S1 = .nx env2 S2 ∧ Env14 L env2 := by
  obtain ⟨e1, e2, e3, e4, e5, e6, e7, e8, e9, e10, e11, e12, e13, rfl⟩ := h
  obtain ⟨n, rfl, hn⟩ := hd
  obtain ⟨S', e⟩ := at_lB1 c n hn (some L) e2 e3 e4 e5 e6 e7 e8 e9 e10 e11 e12 e13 S
  exact ⟨_, S, rfl, _, S', e, _, _, _, _, _, _, _, _, _, _, _, _, _, rfl⟩
theorem at_I1 (env : DEnv) (S : Sto) : ∃ ds, lI1 env S = .ok ds S ∧ ∀ d ∈ ds, NumOk d := by
  refine ⟨[.int 0, .int 1, .int 2, .int 3, .int 25, .int 50, .int 325, .int 5525, .int 1000000, .int 1000000000], ?_, ?_⟩
  · have l10 : 10 ≤ lim := by decide
    unfold lI1
    simp [runB, startD, outR, sSeq, sIf, sRet, sRetN, sNext, sExpr, sAsg, gNm, gSb, sPar, parOut, sPar3, parOut3, sAug, dC, dVar, d1, d2, daCons, daNil, dCallB, dCall, dTr, dNotT, dOrT, dAndT, dAnd, dOr, dNot, dIf, dChain, dTup, dLst, dLstM, dBm, dBm0, dSl, doSome, doNone, dItems, dRng, Res.bind, Res.toS, DL.resB, DL.resO, tru_bl, tru_int, ty_int, ty_bl, ty_non, ty_str, ty_tup, ty_lst, its_tup, its_lst, i2, gLt, gLe, gGt, gGe, DL.gSub, gAddI, pow_6, pow_9, l10]
  · intro d hd
    simp only [List.mem_cons, List.not_mem_nil, or_false] at hd
    rcases hd with rfl | rfl | rfl | rfl | rfl | rfl | rfl | rfl | rfl | rfl <;> exact ⟨_, rfl, by omega, by omega⟩
theorem cut_int (ns : List Int) (lo hi : Option Int) : ∃ ms : List Int, cutD (ns.map D.int) lo hi = ms.map D.int ∧ ms.length ≤ ns.length := by
  unfold cutD
  rw [← List.map_drop, ← List.map_take]
  exact ⟨_, rfl, by simp; omega⟩
theorem at_I2 (ns : List Int) (hl : ns.length ≤ 63) (e1 e2 e3 e4 e5 e6 e7 e8 e9 e10 e11 e12 e13 : Option D) (S : Sto) : ∃ ds, lI2 [some (.lst (ns.map D.int)), e1, e2, e3, e4, e5, e6, e7, e8, e9, e10, e11, e12, e13] S = .ok ds S ∧ ∀ d ∈ ds, ∃ y : Int, d = .int y := by
  obtain ⟨x, hx⟩ := r_cell ns S
  obtain ⟨ms, hm, hml⟩ := cut_int ns (some 1) (some 2)
  refine ⟨.int x :: ms.map D.int, ?_, ?_⟩
  · have l1 : 1 ≤ lim := by decide
    have hs : gSl (.lst (ns.map D.int)) (some 1) (some 2) S = .ok (.lst (ms.map D.int)) S := by rw [← hm]; rfl
    have ha : gAdd (.lst [.int x]) (.lst (ms.map D.int)) S = .ok (.lst (.int x :: ms.map D.int)) S := by
      have : [D.int x].length + (ms.map D.int).length ≤ lim := by
        rw [List.length_map]
        show 1 + ms.length ≤ lim
        unfold lim
        omega
      simp only [gAdd, this, if_true]
      rfl
    unfold lI2
    simp [runB, startD, outR, sSeq, sIf, sRet, sRetN, sNext, sExpr, sAsg, gNm, gSb, sPar, parOut, sPar3, parOut3, sAug, dC, dVar, d1, d2, daCons, daNil, dCallB, dCall, dTr, dNotT, dOrT, dAndT, dAnd, dOr, dNot, dIf, dChain, dTup, dLst, dLstM, dBm, dBm0, dSl, doSome, doNone, dItems, dRng, Res.bind, Res.toS, DL.resB, DL.resO, tru_bl, tru_int, ty_int, ty_bl, ty_non, ty_str, ty_tup, ty_lst, its_tup, its_lst, i2, gLt, gLe, gGt, gGe, DL.gSub, gAddI, hx, l1, hs, ha]
  · intro d hd
    simp only [List.mem_cons, List.mem_map] at hd
    rcases hd with rfl | ⟨y, _, rfl⟩
    · exact ⟨x, rfl⟩
    · exact ⟨y, rfl⟩
end
theorem law_true (c : Cl) (nd : (clsL c).Nodup) (ns : List Int) (hl : ns.length ≤ 63) : ∃ S, runB 14 (b_law c) [.lst (ns.map D.int)] [] = .ok (.bl true) S := by
  obtain ⟨ds, h1, hd⟩ := at_I1 [some (.lst (ns.map D.int)), none, none, none, none, none, none, none, none, none, none, none, none, none] []
  obtain ⟨env1, S1, el, e1, e2, e3, e4, e5, e6, e7, e8, e9, e10, e11, e12, e13, rfl⟩ := loop_ev (g := lG1) (f := lB1 c) (I := fun env _ => Env14 (.lst (ns.map D.int)) env) ds (fun d hm env S hI => turn_1 _ c d (hd d hm) env S hI) [some (.lst (ns.map D.int)), none, none, none, none, none, none, none, none, none, none, none, none, none] [] ⟨_, _, _, _, _, _, _, _, _, _, _, _, _, rfl⟩
  have f1 := sFor_at h1 el
  obtain ⟨ds2, h2, hd2⟩ := at_I2 ns hl e1 e2 e3 e4 e5 e6 e7 e8 e9 e10 e11 e12 e13 S1
  obtain ⟨env2, S2, el2, _⟩ := loop_ev (g := lG2) (f := lB2 c) (I := fun env _ => Env14 (.lst (ns.map D.int)) env) ds2 (fun d hm env S hI => turn_2 _ c nd d (hd2 d hm) env S hI) [some (.lst (ns.map D.int)), e1, e2, e3, e4, e5, e6, e7, e8, e9, e10, e11, e12, e13] S1 ⟨_, _, _, _, _, _, _, _, _, _, _, _, _, rfl⟩
  have f2 := sFor_at h2 el2
  refine ⟨S2, ?_⟩
  have hs : startD 14 [.lst (ns.map D.int)] = [some (.lst (ns.map D.int)), none, none, none, none, none, none, none, none, none, none, none, none, none] := rfl
  unfold runB
  rw [hs, b_law_eq]
  unfold sSeq
  simp only [f1, f2]
  rfl
end K40
end

-- K40h
section
set_option Elab.async false
set_option linter.all false
set_option maxRecDepth 100000
set_option maxHeartbeats 0
namespace K40
open PySem PySem.Spec PyProof.Rows L2 DL
theorem bd_is_whole (kV doc pm : Value) (an : Option Addr) (cdv ct : Value) : ∀ (us : List Value), us.length = ["thing"].length → bindArgs (PySem.W.fnOf "is_whole" "is_whole" (defArgs (top 14)) (defBody (top 14)) (defScope (top 14)) .none kV doc pm an cdv ct) ⟨us, []⟩ = pure (List.zip (["thing"] : List Str) us)
  | [_], _ => rfl
theorem bd_is_within (kV doc pm : Value) (an : Option Addr) (cdv ct : Value) : ∀ (us : List Value), us.length = ["thing", "least", "most"].length → bindArgs (PySem.W.fnOf "is_within" "is_within" (defArgs (top 15)) (defBody (top 15)) (defScope (top 15)) .none kV doc pm an cdv ct) ⟨us, []⟩ = pure (List.zip (["thing", "least", "most"] : List Str) us)
  | [_, _, _], _ => rfl
theorem bd_need_within (kV doc pm : Value) (an : Option Addr) (cdv ct : Value) : ∀ (us : List Value), us.length = ["thing", "least", "most"].length → bindArgs (PySem.W.fnOf "need_within" "need_within" (defArgs (top 16)) (defBody (top 16)) (defScope (top 16)) .none kV doc pm an cdv ct) ⟨us, []⟩ = pure (List.zip (["thing", "least", "most"] : List Str) us)
  | [_, _, _], _ => rfl
theorem bd_above_root (kV doc pm : Value) (an : Option Addr) (cdv ct : Value) : ∀ (us : List Value), us.length = ["number"].length → bindArgs (PySem.W.fnOf "above_root" "above_root" (defArgs (top 18)) (defBody (top 18)) (defScope (top 18)) .none kV doc pm an cdv ct) ⟨us, []⟩ = pure (List.zip (["number"] : List Str) us)
  | [_], _ => rfl
theorem bd_sum_ways (kV doc pm : Value) (an : Option Addr) (cdv ct : Value) : ∀ (us : List Value), us.length = ["number"].length → bindArgs (PySem.W.fnOf "sum_ways" "sum_ways" (defArgs (top 19)) (defBody (top 19)) (defScope (top 19)) .none kV doc pm an cdv ct) ⟨us, []⟩ = pure (List.zip (["number"] : List Str) us)
  | [_], _ => rfl
theorem bd__law_cell (kV doc pm : Value) (an : Option Addr) (cdv ct : Value) : ∀ (us : List Value), us.length = ["_law_script", "_law_k"].length → bindArgs (PySem.W.fnOf "_law_cell" "_law_cell" (defArgs (top 21)) (defBody (top 21)) (defScope (top 21)) .none kV doc pm an cdv ct) ⟨us, []⟩ = pure (List.zip (["_law_script", "_law_k"] : List Str) us)
  | [_, _], _ => rfl
theorem bd__law_pen (kV doc pm : Value) (an : Option Addr) (cdv ct : Value) : ∀ (us : List Value), us.length = ["_law_cell_here"].length → bindArgs (PySem.W.fnOf "_law_pen" "_law_pen" (defArgs (top 22)) (defBody (top 22)) (defScope (top 22)) .none kV doc pm an cdv ct) ⟨us, []⟩ = pure (List.zip (["_law_cell_here"] : List Str) us)
  | [_], _ => rfl
theorem bd__law_draw (kV doc pm : Value) (an : Option Addr) (cdv ct : Value) : ∀ (us : List Value), us.length = ["_law_pen_here", "_law_many"].length → bindArgs (PySem.W.fnOf "_law_draw" "_law_draw" (defArgs (top 23)) (defBody (top 23)) (defScope (top 23)) .none kV doc pm an cdv ct) ⟨us, []⟩ = pure (List.zip (["_law_pen_here", "_law_many"] : List Str) us)
  | [_, _], _ => rfl
theorem bd__law_same (kV doc pm : Value) (an : Option Addr) (cdv ct : Value) : ∀ (us : List Value), us.length = ["_law_found", "_law_due"].length → bindArgs (PySem.W.fnOf "_law_same" "_law_same" (defArgs (top 24)) (defBody (top 24)) (defScope (top 24)) .none kV doc pm an cdv ct) ⟨us, []⟩ = pure (List.zip (["_law_found", "_law_due"] : List Str) us)
  | [_, _], _ => rfl
theorem bd__law_kind_of (kV doc pm : Value) (an : Option Addr) (cdv ct : Value) : ∀ (us : List Value), us.length = ["_law_e"].length → bindArgs (PySem.W.fnOf "_law_kind_of" "_law_kind_of" (defArgs (top 25)) (defBody (top 25)) (defScope (top 25)) .none kV doc pm an cdv ct) ⟨us, []⟩ = pure (List.zip (["_law_e"] : List Str) us)
  | [_], _ => rfl
theorem bd__law_no_number (kV doc pm : Value) (an : Option Addr) (cdv ct : Value) : ∀ (us : List Value), us.length = ["_law_pen_here", "_law_low", "_law_high"].length → bindArgs (PySem.W.fnOf "_law_no_number" "_law_no_number" (defArgs (top 26)) (defBody (top 26)) (defScope (top 26)) .none kV doc pm an cdv ct) ⟨us, []⟩ = pure (List.zip (["_law_pen_here", "_law_low", "_law_high"] : List Str) us)
  | [_, _, _], _ => rfl
theorem bd__law_squares (kV doc pm : Value) (an : Option Addr) (cdv ct : Value) : ∀ (us : List Value), us.length = ["_law_number"].length → bindArgs (PySem.W.fnOf "_law_squares" "_law_squares" (defArgs (top 27)) (defBody (top 27)) (defScope (top 27)) .none kV doc pm an cdv ct) ⟨us, []⟩ = pure (List.zip (["_law_number"] : List Str) us)
  | [_], _ => rfl
theorem bd__law_is_prime (kV doc pm : Value) (an : Option Addr) (cdv ct : Value) : ∀ (us : List Value), us.length = ["_law_number"].length → bindArgs (PySem.W.fnOf "_law_is_prime" "_law_is_prime" (defArgs (top 28)) (defBody (top 28)) (defScope (top 28)) .none kV doc pm an cdv ct) ⟨us, []⟩ = pure (List.zip (["_law_number"] : List Str) us)
  | [_], _ => rfl
theorem bd__law_product (kV doc pm : Value) (an : Option Addr) (cdv ct : Value) : ∀ (us : List Value), us.length = ["_law_pen_here", "_law_most"].length → bindArgs (PySem.W.fnOf "_law_product" "_law_product" (defArgs (top 29)) (defBody (top 29)) (defScope (top 29)) .none kV doc pm an cdv ct) ⟨us, []⟩ = pure (List.zip (["_law_pen_here", "_law_most"] : List Str) us)
  | [_, _], _ => rfl
theorem bd__law_came (kV doc pm : Value) (an : Option Addr) (cdv ct : Value) : ∀ (us : List Value), us.length = ["_law_number"].length → bindArgs (PySem.W.fnOf "_law_came" "_law_came" (defArgs (top 30)) (defBody (top 30)) (defScope (top 30)) .none kV doc pm an cdv ct) ⟨us, []⟩ = pure (List.zip (["_law_number"] : List Str) us)
  | [_], _ => rfl
theorem bd_law (kV doc pm : Value) (an : Option Addr) (cdv ct : Value) : ∀ (us : List Value), us.length = ["_law_script"].length → bindArgs (PySem.W.fnOf "law" "law" (defArgs (top 31)) (defBody (top 31)) (defScope (top 31)) .none kV doc pm an cdv ct) ⟨us, []⟩ = pure (List.zip (["_law_script"] : List Str) us)
  | [_], _ => rfl
theorem txt_mk {K : PySem.W.Frag} {h : Heap} {mg : Str → Option Value} (X : K.In h) (G : h.Ns mainGlobals mg) {f_is_whole f_is_within f_need_within f_above_root f_sum_ways f__law_cell f__law_pen f__law_draw f__law_same f__law_kind_of f__law_no_number f__law_squares f__law_is_prime f__law_product f__law_came f_law C_FarError C_NoPoint C_NoLot C_NoNumber C_NoCircle C_NoMarks C_NoFars C_NoText C_NoLine C_NoDeed C_Alike C_TooMany : Addr}
    {oc_is_whole kV_is_whole doc_is_whole pm_is_whole cd_is_whole ct_is_whole : Value} {od_is_whole an_is_whole : Option Addr} {sl_is_whole : Array (Option Value)} (a_is_whole : PySem.W.nsIn K mainGlobals "is_whole" = some (some (.ref f_is_whole)))
    (l_is_whole : K.lookup f_is_whole = some ⟨oc_is_whole, od_is_whole, .func (PySem.W.fnOf "is_whole" "is_whole" (defArgs (top 14)) (defBody (top 14)) (defScope (top 14)) .none kV_is_whole doc_is_whole pm_is_whole an_is_whole cd_is_whole ct_is_whole), sl_is_whole⟩) (c_is_whole : PySem.W.codeIn K cd_is_whole "is_whole" = true) (k_is_whole : PySem.W.keepIn K (.ref f_is_whole) = true)
    {oc_is_within kV_is_within doc_is_within pm_is_within cd_is_within ct_is_within : Value} {od_is_within an_is_within : Option Addr} {sl_is_within : Array (Option Value)} (a_is_within : PySem.W.nsIn K mainGlobals "is_within" = some (some (.ref f_is_within)))
    (l_is_within : K.lookup f_is_within = some ⟨oc_is_within, od_is_within, .func (PySem.W.fnOf "is_within" "is_within" (defArgs (top 15)) (defBody (top 15)) (defScope (top 15)) .none kV_is_within doc_is_within pm_is_within an_is_within cd_is_within ct_is_within), sl_is_within⟩) (c_is_within : PySem.W.codeIn K cd_is_within "is_within" = true) (k_is_within : PySem.W.keepIn K (.ref f_is_within) = true)
    {oc_need_within kV_need_within doc_need_within pm_need_within cd_need_within ct_need_within : Value} {od_need_within an_need_within : Option Addr} {sl_need_within : Array (Option Value)} (a_need_within : PySem.W.nsIn K mainGlobals "need_within" = some (some (.ref f_need_within)))
    (l_need_within : K.lookup f_need_within = some ⟨oc_need_within, od_need_within, .func (PySem.W.fnOf "need_within" "need_within" (defArgs (top 16)) (defBody (top 16)) (defScope (top 16)) .none kV_need_within doc_need_within pm_need_within an_need_within cd_need_within ct_need_within), sl_need_within⟩) (c_need_within : PySem.W.codeIn K cd_need_within "need_within" = true) (k_need_within : PySem.W.keepIn K (.ref f_need_within) = true)
    {oc_above_root kV_above_root doc_above_root pm_above_root cd_above_root ct_above_root : Value} {od_above_root an_above_root : Option Addr} {sl_above_root : Array (Option Value)} (a_above_root : PySem.W.nsIn K mainGlobals "above_root" = some (some (.ref f_above_root)))
    (l_above_root : K.lookup f_above_root = some ⟨oc_above_root, od_above_root, .func (PySem.W.fnOf "above_root" "above_root" (defArgs (top 18)) (defBody (top 18)) (defScope (top 18)) .none kV_above_root doc_above_root pm_above_root an_above_root cd_above_root ct_above_root), sl_above_root⟩) (c_above_root : PySem.W.codeIn K cd_above_root "above_root" = true) (k_above_root : PySem.W.keepIn K (.ref f_above_root) = true)
    {oc_sum_ways kV_sum_ways doc_sum_ways pm_sum_ways cd_sum_ways ct_sum_ways : Value} {od_sum_ways an_sum_ways : Option Addr} {sl_sum_ways : Array (Option Value)} (a_sum_ways : PySem.W.nsIn K mainGlobals "sum_ways" = some (some (.ref f_sum_ways)))
    (l_sum_ways : K.lookup f_sum_ways = some ⟨oc_sum_ways, od_sum_ways, .func (PySem.W.fnOf "sum_ways" "sum_ways" (defArgs (top 19)) (defBody (top 19)) (defScope (top 19)) .none kV_sum_ways doc_sum_ways pm_sum_ways an_sum_ways cd_sum_ways ct_sum_ways), sl_sum_ways⟩) (c_sum_ways : PySem.W.codeIn K cd_sum_ways "sum_ways" = true) (k_sum_ways : PySem.W.keepIn K (.ref f_sum_ways) = true)
    {oc__law_cell kV__law_cell doc__law_cell pm__law_cell cd__law_cell ct__law_cell : Value} {od__law_cell an__law_cell : Option Addr} {sl__law_cell : Array (Option Value)} (a__law_cell : PySem.W.nsIn K mainGlobals "_law_cell" = some (some (.ref f__law_cell)))
    (l__law_cell : K.lookup f__law_cell = some ⟨oc__law_cell, od__law_cell, .func (PySem.W.fnOf "_law_cell" "_law_cell" (defArgs (top 21)) (defBody (top 21)) (defScope (top 21)) .none kV__law_cell doc__law_cell pm__law_cell an__law_cell cd__law_cell ct__law_cell), sl__law_cell⟩) (c__law_cell : PySem.W.codeIn K cd__law_cell "_law_cell" = true) (k__law_cell : PySem.W.keepIn K (.ref f__law_cell) = true)
    {oc__law_pen kV__law_pen doc__law_pen pm__law_pen cd__law_pen ct__law_pen : Value} {od__law_pen an__law_pen : Option Addr} {sl__law_pen : Array (Option Value)} (a__law_pen : PySem.W.nsIn K mainGlobals "_law_pen" = some (some (.ref f__law_pen)))
    (l__law_pen : K.lookup f__law_pen = some ⟨oc__law_pen, od__law_pen, .func (PySem.W.fnOf "_law_pen" "_law_pen" (defArgs (top 22)) (defBody (top 22)) (defScope (top 22)) .none kV__law_pen doc__law_pen pm__law_pen an__law_pen cd__law_pen ct__law_pen), sl__law_pen⟩) (c__law_pen : PySem.W.codeIn K cd__law_pen "_law_pen" = true) (k__law_pen : PySem.W.keepIn K (.ref f__law_pen) = true)
    {oc__law_draw kV__law_draw doc__law_draw pm__law_draw cd__law_draw ct__law_draw : Value} {od__law_draw an__law_draw : Option Addr} {sl__law_draw : Array (Option Value)} (a__law_draw : PySem.W.nsIn K mainGlobals "_law_draw" = some (some (.ref f__law_draw)))
    (l__law_draw : K.lookup f__law_draw = some ⟨oc__law_draw, od__law_draw, .func (PySem.W.fnOf "_law_draw" "_law_draw" (defArgs (top 23)) (defBody (top 23)) (defScope (top 23)) .none kV__law_draw doc__law_draw pm__law_draw an__law_draw cd__law_draw ct__law_draw), sl__law_draw⟩) (c__law_draw : PySem.W.codeIn K cd__law_draw "_law_draw" = true) (k__law_draw : PySem.W.keepIn K (.ref f__law_draw) = true)
    {oc__law_same kV__law_same doc__law_same pm__law_same cd__law_same ct__law_same : Value} {od__law_same an__law_same : Option Addr} {sl__law_same : Array (Option Value)} (a__law_same : PySem.W.nsIn K mainGlobals "_law_same" = some (some (.ref f__law_same)))
    (l__law_same : K.lookup f__law_same = some ⟨oc__law_same, od__law_same, .func (PySem.W.fnOf "_law_same" "_law_same" (defArgs (top 24)) (defBody (top 24)) (defScope (top 24)) .none kV__law_same doc__law_same pm__law_same an__law_same cd__law_same ct__law_same), sl__law_same⟩) (c__law_same : PySem.W.codeIn K cd__law_same "_law_same" = true) (k__law_same : PySem.W.keepIn K (.ref f__law_same) = true)
    {oc__law_kind_of kV__law_kind_of doc__law_kind_of pm__law_kind_of cd__law_kind_of ct__law_kind_of : Value} {od__law_kind_of an__law_kind_of : Option Addr} {sl__law_kind_of : Array (Option Value)} (a__law_kind_of : PySem.W.nsIn K mainGlobals "_law_kind_of" = some (some (.ref f__law_kind_of)))
    (l__law_kind_of : K.lookup f__law_kind_of = some ⟨oc__law_kind_of, od__law_kind_of, .func (PySem.W.fnOf "_law_kind_of" "_law_kind_of" (defArgs (top 25)) (defBody (top 25)) (defScope (top 25)) .none kV__law_kind_of doc__law_kind_of pm__law_kind_of an__law_kind_of cd__law_kind_of ct__law_kind_of), sl__law_kind_of⟩) (c__law_kind_of : PySem.W.codeIn K cd__law_kind_of "_law_kind_of" = true) (k__law_kind_of : PySem.W.keepIn K (.ref f__law_kind_of) = true)
    {oc__law_no_number kV__law_no_number doc__law_no_number pm__law_no_number cd__law_no_number ct__law_no_number : Value} {od__law_no_number an__law_no_number : Option Addr} {sl__law_no_number : Array (Option Value)} (a__law_no_number : PySem.W.nsIn K mainGlobals "_law_no_number" = some (some (.ref f__law_no_number)))
    (l__law_no_number : K.lookup f__law_no_number = some ⟨oc__law_no_number, od__law_no_number, .func (PySem.W.fnOf "_law_no_number" "_law_no_number" (defArgs (top 26)) (defBody (top 26)) (defScope (top 26)) .none kV__law_no_number doc__law_no_number pm__law_no_number an__law_no_number cd__law_no_number ct__law_no_number), sl__law_no_number⟩) (c__law_no_number : PySem.W.codeIn K cd__law_no_number "_law_no_number" = true) (k__law_no_number : PySem.W.keepIn K (.ref f__law_no_number) = true)
    {oc__law_squares kV__law_squares doc__law_squares pm__law_squares cd__law_squares ct__law_squares : Value} {od__law_squares an__law_squares : Option Addr} {sl__law_squares : Array (Option Value)} (a__law_squares : PySem.W.nsIn K mainGlobals "_law_squares" = some (some (.ref f__law_squares)))
    (l__law_squares : K.lookup f__law_squares = some ⟨oc__law_squares, od__law_squares, .func (PySem.W.fnOf "_law_squares" "_law_squares" (defArgs (top 27)) (defBody (top 27)) (defScope (top 27)) .none kV__law_squares doc__law_squares pm__law_squares an__law_squares cd__law_squares ct__law_squares), sl__law_squares⟩) (c__law_squares : PySem.W.codeIn K cd__law_squares "_law_squares" = true) (k__law_squares : PySem.W.keepIn K (.ref f__law_squares) = true)
    {oc__law_is_prime kV__law_is_prime doc__law_is_prime pm__law_is_prime cd__law_is_prime ct__law_is_prime : Value} {od__law_is_prime an__law_is_prime : Option Addr} {sl__law_is_prime : Array (Option Value)} (a__law_is_prime : PySem.W.nsIn K mainGlobals "_law_is_prime" = some (some (.ref f__law_is_prime)))
    (l__law_is_prime : K.lookup f__law_is_prime = some ⟨oc__law_is_prime, od__law_is_prime, .func (PySem.W.fnOf "_law_is_prime" "_law_is_prime" (defArgs (top 28)) (defBody (top 28)) (defScope (top 28)) .none kV__law_is_prime doc__law_is_prime pm__law_is_prime an__law_is_prime cd__law_is_prime ct__law_is_prime), sl__law_is_prime⟩) (c__law_is_prime : PySem.W.codeIn K cd__law_is_prime "_law_is_prime" = true) (k__law_is_prime : PySem.W.keepIn K (.ref f__law_is_prime) = true)
    {oc__law_product kV__law_product doc__law_product pm__law_product cd__law_product ct__law_product : Value} {od__law_product an__law_product : Option Addr} {sl__law_product : Array (Option Value)} (a__law_product : PySem.W.nsIn K mainGlobals "_law_product" = some (some (.ref f__law_product)))
    (l__law_product : K.lookup f__law_product = some ⟨oc__law_product, od__law_product, .func (PySem.W.fnOf "_law_product" "_law_product" (defArgs (top 29)) (defBody (top 29)) (defScope (top 29)) .none kV__law_product doc__law_product pm__law_product an__law_product cd__law_product ct__law_product), sl__law_product⟩) (c__law_product : PySem.W.codeIn K cd__law_product "_law_product" = true) (k__law_product : PySem.W.keepIn K (.ref f__law_product) = true)
    {oc__law_came kV__law_came doc__law_came pm__law_came cd__law_came ct__law_came : Value} {od__law_came an__law_came : Option Addr} {sl__law_came : Array (Option Value)} (a__law_came : PySem.W.nsIn K mainGlobals "_law_came" = some (some (.ref f__law_came)))
    (l__law_came : K.lookup f__law_came = some ⟨oc__law_came, od__law_came, .func (PySem.W.fnOf "_law_came" "_law_came" (defArgs (top 30)) (defBody (top 30)) (defScope (top 30)) .none kV__law_came doc__law_came pm__law_came an__law_came cd__law_came ct__law_came), sl__law_came⟩) (c__law_came : PySem.W.codeIn K cd__law_came "_law_came" = true) (k__law_came : PySem.W.keepIn K (.ref f__law_came) = true)
    {oc_law kV_law doc_law pm_law cd_law ct_law : Value} {od_law an_law : Option Addr} {sl_law : Array (Option Value)} (a_law : PySem.W.nsIn K mainGlobals "law" = some (some (.ref f_law)))
    (l_law : K.lookup f_law = some ⟨oc_law, od_law, .func (PySem.W.fnOf "law" "law" (defArgs (top 31)) (defBody (top 31)) (defScope (top 31)) .none kV_law doc_law pm_law an_law cd_law ct_law), sl_law⟩) (c_law : PySem.W.codeIn K cd_law "law" = true) (k_law : PySem.W.keepIn K (.ref f_law) = true)
    (z_ValueError : PySem.W.nsIn K mainGlobals "ValueError" = some none)
    (z_bool : PySem.W.nsIn K mainGlobals "bool" = some none)
    (z_int : PySem.W.nsIn K mainGlobals "int" = some none)
    (z_isinstance : PySem.W.nsIn K mainGlobals "isinstance" = some none)
    (z_len : PySem.W.nsIn K mainGlobals "len" = some none)
    (z_list : PySem.W.nsIn K mainGlobals "list" = some none)
    (z_range : PySem.W.nsIn K mainGlobals "range" = some none)
    (z_str : PySem.W.nsIn K mainGlobals "str" = some none)
    (z_tuple : PySem.W.nsIn K mainGlobals "tuple" = some none)
    (z_zip : PySem.W.nsIn K mainGlobals "zip" = some none)
    (q_FarError : PySem.W.nsIn K mainGlobals "FarError" = some (some (.ref C_FarError)))
    (q_NoPoint : PySem.W.nsIn K mainGlobals "NoPoint" = some (some (.ref C_NoPoint)))
    (q_NoLot : PySem.W.nsIn K mainGlobals "NoLot" = some (some (.ref C_NoLot)))
    (q_NoNumber : PySem.W.nsIn K mainGlobals "NoNumber" = some (some (.ref C_NoNumber)))
    (q_NoCircle : PySem.W.nsIn K mainGlobals "NoCircle" = some (some (.ref C_NoCircle)))
    (q_NoMarks : PySem.W.nsIn K mainGlobals "NoMarks" = some (some (.ref C_NoMarks)))
    (q_NoFars : PySem.W.nsIn K mainGlobals "NoFars" = some (some (.ref C_NoFars)))
    (q_NoText : PySem.W.nsIn K mainGlobals "NoText" = some (some (.ref C_NoText)))
    (q_NoLine : PySem.W.nsIn K mainGlobals "NoLine" = some (some (.ref C_NoLine)))
    (q_NoDeed : PySem.W.nsIn K mainGlobals "NoDeed" = some (some (.ref C_NoDeed)))
    (q_Alike : PySem.W.nsIn K mainGlobals "Alike" = some (some (.ref C_Alike)))
    (q_TooMany : PySem.W.nsIn K mainGlobals "TooMany" = some (some (.ref C_TooMany)))
    (e1 : (clsL ⟨C_FarError, C_NoPoint, C_NoLot, C_NoNumber, C_NoCircle, C_NoMarks, C_NoFars, C_NoText, C_NoLine, C_NoDeed, C_Alike, C_TooMany⟩).all (chkE K) = true) (e2 : chkG K = true) (e3 : chkO K (clsL ⟨C_FarError, C_NoPoint, C_NoLot, C_NoNumber, C_NoCircle, C_NoMarks, C_NoFars, C_NoText, C_NoLine, C_NoDeed, C_Alike, C_TooMany⟩) = true) (e4 : chkX K (caught ⟨C_FarError, C_NoPoint, C_NoLot, C_NoNumber, C_NoCircle, C_NoMarks, C_NoFars, C_NoText, C_NoLine, C_NoDeed, C_Alike, C_TooMany⟩) C_FarError = true) (e5 : chkK K [C_NoPoint, C_NoLot, C_NoNumber, C_NoCircle, C_NoMarks, C_NoFars, C_NoText, C_NoLine, C_NoDeed] C_FarError = true) (e6 : chkP K (C_FarError :: clsL ⟨C_FarError, C_NoPoint, C_NoLot, C_NoNumber, C_NoCircle, C_NoMarks, C_NoFars, C_NoText, C_NoLine, C_NoDeed, C_Alike, C_TooMany⟩) = true) (e7 : (clsL ⟨C_FarError, C_NoPoint, C_NoLot, C_NoNumber, C_NoCircle, C_NoMarks, C_NoFars, C_NoText, C_NoLine, C_NoDeed, C_Alike, C_TooMany⟩).Nodup) : Txt K mg ⟨C_FarError, C_NoPoint, C_NoLot, C_NoNumber, C_NoCircle, C_NoMarks, C_NoFars, C_NoText, C_NoLine, C_NoDeed, C_Alike, C_TooMany⟩ := by
  have k6 := List.all_eq_true.mp e6
  have k5 := List.all_eq_true.mp e5
  exact {
    s_is_whole := src_mk X G a_is_whole l_is_whole c_is_whole k_is_whole bd_is_whole
    s_is_within := src_mk X G a_is_within l_is_within c_is_within k_is_within bd_is_within
    s_need_within := src_mk X G a_need_within l_need_within c_need_within k_need_within bd_need_within
    s_above_root := src_mk X G a_above_root l_above_root c_above_root k_above_root bd_above_root
    s_sum_ways := src_mk X G a_sum_ways l_sum_ways c_sum_ways k_sum_ways bd_sum_ways
    s__law_cell := src_mk X G a__law_cell l__law_cell c__law_cell k__law_cell bd__law_cell
    s__law_pen := src_mk X G a__law_pen l__law_pen c__law_pen k__law_pen bd__law_pen
    s__law_draw := src_mk X G a__law_draw l__law_draw c__law_draw k__law_draw bd__law_draw
    s__law_same := src_mk X G a__law_same l__law_same c__law_same k__law_same bd__law_same
    s__law_kind_of := src_mk X G a__law_kind_of l__law_kind_of c__law_kind_of k__law_kind_of bd__law_kind_of
    s__law_no_number := src_mk X G a__law_no_number l__law_no_number c__law_no_number k__law_no_number bd__law_no_number
    s__law_squares := src_mk X G a__law_squares l__law_squares c__law_squares k__law_squares bd__law_squares
    s__law_is_prime := src_mk X G a__law_is_prime l__law_is_prime c__law_is_prime k__law_is_prime bd__law_is_prime
    s__law_product := src_mk X G a__law_product l__law_product c__law_product k__law_product bd__law_product
    s__law_came := src_mk X G a__law_came l__law_came c__law_came k__law_came bd__law_came
    s_law := src_mk X G a_law l_law c_law k_law bd_law
    n_ValueError := PySem.W.mg_none_of X G z_ValueError
    n_bool := PySem.W.mg_none_of X G z_bool
    n_int := PySem.W.mg_none_of X G z_int
    n_isinstance := PySem.W.mg_none_of X G z_isinstance
    n_len := PySem.W.mg_none_of X G z_len
    n_list := PySem.W.mg_none_of X G z_list
    n_range := PySem.W.mg_none_of X G z_range
    n_str := PySem.W.mg_none_of X G z_str
    n_tuple := PySem.W.mg_none_of X G z_tuple
    n_zip := PySem.W.mg_none_of X G z_zip
    c_FarError := PySem.W.mg_of X G q_FarError
    k_FarError := k6 _ (by simp [clsL])
    c_NoPoint := PySem.W.mg_of X G q_NoPoint
    k_NoPoint := k6 _ (by simp [clsL])
    c_NoLot := PySem.W.mg_of X G q_NoLot
    k_NoLot := k6 _ (by simp [clsL])
    c_NoNumber := PySem.W.mg_of X G q_NoNumber
    k_NoNumber := k6 _ (by simp [clsL])
    c_NoCircle := PySem.W.mg_of X G q_NoCircle
    k_NoCircle := k6 _ (by simp [clsL])
    c_NoMarks := PySem.W.mg_of X G q_NoMarks
    k_NoMarks := k6 _ (by simp [clsL])
    c_NoFars := PySem.W.mg_of X G q_NoFars
    k_NoFars := k6 _ (by simp [clsL])
    c_NoText := PySem.W.mg_of X G q_NoText
    k_NoText := k6 _ (by simp [clsL])
    c_NoLine := PySem.W.mg_of X G q_NoLine
    k_NoLine := k6 _ (by simp [clsL])
    c_NoDeed := PySem.W.mg_of X G q_NoDeed
    k_NoDeed := k6 _ (by simp [clsL])
    c_Alike := PySem.W.mg_of X G q_Alike
    k_Alike := k6 _ (by simp [clsL])
    c_TooMany := PySem.W.mg_of X G q_TooMany
    k_TooMany := k6 _ (by simp [clsL])
    x_NoPoint := chk1_of (k5 C_NoPoint (by simp))
    x_NoLot := chk1_of (k5 C_NoLot (by simp))
    x_NoNumber := chk1_of (k5 C_NoNumber (by simp))
    x_NoCircle := chk1_of (k5 C_NoCircle (by simp))
    x_NoMarks := chk1_of (k5 C_NoMarks (by simp))
    x_NoFars := chk1_of (k5 C_NoFars (by simp))
    x_NoText := chk1_of (k5 C_NoText (by simp))
    x_NoLine := chk1_of (k5 C_NoLine (by simp))
    x_NoDeed := chk1_of (k5 C_NoDeed (by simp))
    cls := cls_mk e1 e2 e3
    caught := fun v hv => of_decide_eq_true (List.all_eq_true.mp e4 v hv)
    nd := e7 }
end K40
end

set_option Elab.async false
set_option linter.all false
set_option maxRecDepth 100000
set_option maxHeartbeats 0
namespace K40
open PySem PySem.Spec PyProof.Rows L2 DL
theorem law_all {P : Program} {w : World} {K : PySem.W.Frag} {mg : Str → Option Value} {base : Heap} {c : Cl} (T : Txt K mg c) : ∃ F, DefP P w K mg base true 6 "law" ["_law_script"] F ∧ ∀ ns : List Int, ns.length ≤ 63 → ∃ S, F [.lst (ns.map D.int)] [] = .ok (.bl true) S := by
  have d1 : Def P w K mg base true 1 "is_whole" 1 S_is_whole := ok_is_whole T
  have d2 : Def P w K mg base true 2 "is_within" 3 S_is_within := ok_is_within T d1
  have d3 : Def P w K mg base true 3 "need_within" 3 (S_need_within c) := ok_need_within T d2
  have d3b : Def P w K mg base true 1 "above_root" 1 S_above_root := ok_above_root T
  have d4 : Def P w K mg base true 4 "sum_ways" 1 (S_sum_ways c) := ok_sum_ways T d3b d3
  have d5 : Def P w K mg base true 1 "_law_cell" 2 S__law_cell := ok__law_cell T
  have d6 : Def P w K mg base true 1 "_law_pen" 1 S__law_pen := ok__law_pen T
  have d7 : Def P w K mg base true 1 "_law_draw" 2 S__law_draw := ok__law_draw T
  have s0 : Def P w K mg base true 0 "_law_same" 2 (sameN 0) := def_bad T.s__law_same
  have s1 : Def P w K mg base true 1 "_law_same" 2 (sameN 1) := ok__law_same T s0
  have s2 : Def P w K mg base true 2 "_law_same" 2 (sameN 2) := ok__law_same T s1
  have s3 : Def P w K mg base true 3 "_law_same" 2 (sameN 3) := ok__law_same T s2
  have s4 : Def P w K mg base true 4 "_law_same" 2 S__law_same := ok__law_same T s3
  have d8 : Def P w K mg base false 1 "_law_kind_of" 1 (S__law_kind_of c) := ok__law_kind_of T
  have d9 : Def P w K mg base true 2 "_law_no_number" 3 S__law_no_number := ok__law_no_number T d7
  have d10 : Def P w K mg base true 1 "_law_squares" 1 S__law_squares := ok__law_squares T
  have d11 : Def P w K mg base true 1 "_law_is_prime" 1 S__law_is_prime := ok__law_is_prime T
  have d12 : Def P w K mg base true 2 "_law_product" 2 S__law_product := ok__law_product T d7 d11
  have d13 : Def P w K mg base true 5 "_law_came" 1 (S__law_came c) := ok__law_came T d4 d8
  exact ⟨_, ok_law T d5 d9 d13 s4 d10 d12 d7 d6, law_true c T.nd⟩
theorem law_of {P : Program} {w : World} {K : PySem.W.Frag} {mg : Str → Option Value} {c : Cl} {fa : Addr} (T : Txt K mg c) (hfa : mg "law" = some (.ref fa)) :
    ∃ fd : FuncData, (∀ (s : Shared) (v : Value), BindsTo s fd ⟨[v], []⟩ [("_law_script", v)]) ∧ ∀ base : Heap, K.In base → base.Ns mainGlobals mg → FnOk P w K mg base (CXd P w) 6 fa fd ["_law_script"] (spLaw K) :=
  law_fnD T.s_law hfa (fun kV doc pm an cdv ct s v => .of_eq rfl) fun base => law_all T
end K40
open PySem PySem.W PyProof.Rows
set_option maxRecDepth 100000 in
set_option maxHeartbeats 0 in
theorem PySem.Challenge.cw_fewdistances_k40_sums_of_two_squares_holds : PySem.Challenge.rw_fewdistances_k40_sums_of_two_squares.Holds := by
  w_on; o_law; k_head; (case hw => w_witness2)
  k_fill
  refine DL.walkD (l := PySem.Challenge.rw_fewdistances_k40_sums_of_two_squares) (k := 6) (x := "_law_script") rfl rfl ⟨rfl, by decide, by decide⟩ (fun w h Y => PySem.W.kIn_of Y) ?F
  case F =>
    intro w mg fa h KX G hmg
    refine' K40.law_of (K40.txt_mk KX G ?a_is_whole ?l_is_whole ?c_is_whole ?k_is_whole ?a_is_within ?l_is_within ?c_is_within ?k_is_within ?a_need_within ?l_need_within ?c_need_within ?k_need_within ?a_above_root ?l_above_root ?c_above_root ?k_above_root ?a_sum_ways ?l_sum_ways ?c_sum_ways ?k_sum_ways ?a__law_cell ?l__law_cell ?c__law_cell ?k__law_cell ?a__law_pen ?l__law_pen ?c__law_pen ?k__law_pen ?a__law_draw ?l__law_draw ?c__law_draw ?k__law_draw ?a__law_same ?l__law_same ?c__law_same ?k__law_same ?a__law_kind_of ?l__law_kind_of ?c__law_kind_of ?k__law_kind_of ?a__law_no_number ?l__law_no_number ?c__law_no_number ?k__law_no_number ?a__law_squares ?l__law_squares ?c__law_squares ?k__law_squares ?a__law_is_prime ?l__law_is_prime ?c__law_is_prime ?k__law_is_prime ?a__law_product ?l__law_product ?c__law_product ?k__law_product ?a__law_came ?l__law_came ?c__law_came ?k__law_came ?a_law ?l_law ?c_law ?k_law ?z_ValueError ?z_bool ?z_int ?z_isinstance ?z_len ?z_list ?z_range ?z_str ?z_tuple ?z_zip ?q_FarError ?q_NoPoint ?q_NoLot ?q_NoNumber ?q_NoCircle ?q_NoMarks ?q_NoFars ?q_NoText ?q_NoLine ?q_NoDeed ?q_Alike ?q_TooMany ?e1 ?e2 ?e3 ?e4 ?e5 ?e6 ?e7) hmg
    (case a_is_whole => k_is)
    (case l_is_whole => k_is)
    (case c_is_whole => k_is)
    (case k_is_whole => k_is)
    (case a_is_within => k_is)
    (case l_is_within => k_is)
    (case c_is_within => k_is)
    (case k_is_within => k_is)
    (case a_need_within => k_is)
    (case l_need_within => k_is)
    (case c_need_within => k_is)
    (case k_need_within => k_is)
    (case a_above_root => k_is)
    (case l_above_root => k_is)
    (case c_above_root => k_is)
    (case k_above_root => k_is)
    (case a_sum_ways => k_is)
    (case l_sum_ways => k_is)
    (case c_sum_ways => k_is)
    (case k_sum_ways => k_is)
    (case a__law_cell => k_is)
    (case l__law_cell => k_is)
    (case c__law_cell => k_is)
    (case k__law_cell => k_is)
    (case a__law_pen => k_is)
    (case l__law_pen => k_is)
    (case c__law_pen => k_is)
    (case k__law_pen => k_is)
    (case a__law_draw => k_is)
    (case l__law_draw => k_is)
    (case c__law_draw => k_is)
    (case k__law_draw => k_is)
    (case a__law_same => k_is)
    (case l__law_same => k_is)
    (case c__law_same => k_is)
    (case k__law_same => k_is)
    (case a__law_kind_of => k_is)
    (case l__law_kind_of => k_is)
    (case c__law_kind_of => k_is)
    (case k__law_kind_of => k_is)
    (case a__law_no_number => k_is)
    (case l__law_no_number => k_is)
    (case c__law_no_number => k_is)
    (case k__law_no_number => k_is)
    (case a__law_squares => k_is)
    (case l__law_squares => k_is)
    (case c__law_squares => k_is)
    (case k__law_squares => k_is)
    (case a__law_is_prime => k_is)
    (case l__law_is_prime => k_is)
    (case c__law_is_prime => k_is)
    (case k__law_is_prime => k_is)
    (case a__law_product => k_is)
    (case l__law_product => k_is)
    (case c__law_product => k_is)
    (case k__law_product => k_is)
    (case a__law_came => k_is)
    (case l__law_came => k_is)
    (case c__law_came => k_is)
    (case k__law_came => k_is)
    (case a_law => k_is)
    (case l_law => k_is)
    (case c_law => k_is)
    (case k_law => k_is)
    (case z_ValueError => k_is)
    (case z_bool => k_is)
    (case z_int => k_is)
    (case z_isinstance => k_is)
    (case z_len => k_is)
    (case z_list => k_is)
    (case z_range => k_is)
    (case z_str => k_is)
    (case z_tuple => k_is)
    (case z_zip => k_is)
    (case q_FarError => k_is)
    (case q_NoPoint => k_is)
    (case q_NoLot => k_is)
    (case q_NoNumber => k_is)
    (case q_NoCircle => k_is)
    (case q_NoMarks => k_is)
    (case q_NoFars => k_is)
    (case q_NoText => k_is)
    (case q_NoLine => k_is)
    (case q_NoDeed => k_is)
    (case q_Alike => k_is)
    (case q_TooMany => k_is)
    (case e1 => rfl)
    (case e2 => rfl)
    (case e3 => rfl)
    (case e4 => rfl)
    (case e5 => rfl)
    (case e6 => rfl)
    (case e7 => decide)
