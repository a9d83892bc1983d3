import PyProof.Rows.All
import Wide.All
import OpenK.AllK
import Wide.FinOn
import Lean
import PyProof.EqAt
import PyProof.EqKinds
import PyProof.TupleCall
import PyProof.SetKind
import PyProof.TupleKey
import PyProof.Rows.SetFrom
import KE.KSortTup
import PyProof.TupleOfSeq
import PyProof.NeKinds
import PyProof.ZipIter
import KE.KTryMore
import KE.KIsAll
import PyProof.Rows.CountFlat
import PyProof.Rows.FStr
import PyProof.EnumMake
import PyProof.EnumStmt
import KE.KDictLaws
import PyProof.DictWalks
import KE.KItemsList
import PyProof.SumWalkG
import PyProof.Rows.SumGenD
import PyProof.SeqI2
import PyProof.ReprRoads
import PyProof.ReprBulk
import PyProof.WalkInts
import PyProof.SeqI3
import PySem.Challenge.RW_fewdistances_k12_lots_moved_and_turned
set_option Elab.async false
set_option linter.all false
set_option maxRecDepth 100000
set_option maxHeartbeats 0
set_option tactic.hygienic false
set_option bootstrap.genMatcherCode false
set_option genSizeOf false
set_option compiler.extract_closed false
theorem kd {p:Prop}[Decidable p](h:p:=by decide +kernel):p:=h
section
namespace _L
open PySem PySem.Spec PyProof.Rows
abbrev Key:=Sum Int Str
def pV:Key→Value→Bool
 |.inl k,v=>Value.isInt k v
 |.inr x,v=>Value.isStrOf x v
def D7 (w:World):Key→Int
 |.inl k=>hashInt k
 |.inr x=>hashStr w x
theorem xK:∀ {k:Key} {v:Value},pV k v=true→(∃ i t,k=Sum.inl i∧v=Value.int i t)∨(∃ x t,k=Sum.inr x∧v=Value.str x t)
 |.inl i,v,h=>by
  obtain⟨t,e⟩:=Value.isInt_shape (k:=i) (v:=v) h
  exact .inl ⟨i,t,rfl,e⟩
 |.inr x,v,h=>by
  obtain⟨t,e⟩:=Value.isStrOf_shape (x:=x) (v:=v) h
  exact .inr ⟨x,t,rfl,e⟩
theorem Q1 (i:Int)(t:Tok):pV (.inl i) (.int i t)=true:=by simp[pV,Value.isInt]
theorem Q2 (x:Str)(t:Tok):pV (.inr x) (.str x t)=true:=by simp[pV,Value.isStrOf]
theorem BV (a b:Int):decide ((Sum.inl a:Key)=Sum.inl b)=(a == b):=by
 by_cases e:a=b
 ·subst e;simp
 ·have h:¬ (Sum.inl a:Key)=Sum.inl b:=fun q=>e (Sum.inl.inj q)
  rw[decide_eq_false h]
  exact(beq_eq_false_iff_ne.mpr e).symm
theorem BY (a b:Str):decide ((Sum.inr a:Key)=Sum.inr b)=decide (a=b):=by
 by_cases e:a=b
 ·subst e;simp
 ·have h:¬ (Sum.inr a:Key)=Sum.inr b:=fun q=>e (Sum.inr.inj q)
  rw[decide_eq_false h,decide_eq_false e]
theorem BW (a:Int)(b:Str):decide ((Sum.inl a:Key)=Sum.inr b)=false:=decide_eq_false (fun q=>nomatch q)
theorem BX (a:Str)(b:Int):decide ((Sum.inr a:Key)=Sum.inl b)=false:=decide_eq_false (fun q=>nomatch q)
def xQ (prog:Program)(w:World):PySem.KeyKind prog w Key where
 is:=pV
 hash:=D7 w
 inj:=fun v a b ha hb=>by
  rcases xK ha with⟨i,t,rfl,rfl⟩|⟨x,t,rfl,rfl⟩
  ·rcases xK hb with⟨j,u,rfl,e⟩|⟨y,u,rfl,e⟩
   ·injection e with e1 _;rw[e1]
   ·exact nomatch e
  ·rcases xK hb with⟨j,u,rfl,e⟩|⟨y,u,rfl,e⟩
   ·exact nomatch e
   ·injection e with e1 _;rw[e1]
 byValue:=fun k v h=>by
  rcases xK h with⟨i,t,rfl,rfl⟩|⟨x,t,rfl,rfl⟩ <;> rfl
 pyHash:=fun hv h=>by
  rcases xK hv with⟨i,t,rfl,rfl⟩|⟨x,t,rfl,rfl⟩
  ·exact wpAny_pyHash_int h
  ·exact wpAny_pyHash_str h
 eqBool:=fun hu hv h=>by
  rcases xK hu with⟨i,t,rfl,rfl⟩|⟨x,t,rfl,rfl⟩
  ·rcases xK hv with⟨j,u,rfl,rfl⟩|⟨y,u,rfl,rfl⟩
   ·rw[BV] at h;exact wpAny_eqBool_int h
   ·rw[BW] at h;exact SeqAt.EqAt.int_str i t y u _ _ _ _ h
  ·rcases xK hv with⟨j,u,rfl,rfl⟩|⟨y,u,rfl,rfl⟩
   ·rw[BX] at h;exact SeqAt.EqAt.str_int x t j u _ _ _ _ h
   ·rw[BY] at h;exact wpAny_eqBool_str h
 «strs»:=fun k x t v h=>by
  rcases xK h with⟨i,u,rfl,e⟩|⟨y,u,rfl,e⟩
  ·exact nomatch e
  ·injection e with e1 _
   subst e1
   cases v <;> rfl
theorem rQ (prog:Program)(w:World)(i:Int)(t:Tok):(xQ prog w).is (.inl i) (.int i t)=true:=Q1 i t
theorem rR (prog:Program)(w:World)(x:Str)(t:Tok):(xQ prog w).is (.inr x) (.str x t)=true:=Q2 x t
end _L
namespace _L
open PySem PySem.Spec PyProof.Rows
inductive V where
 |non|bl (b:Bool)|int (i:Int)|str (x:Str)|byt (b:Array UInt8)|flt (b:UInt64)|ref (a:Addr)|ty (n:String)
 deriving DecidableEq
def qK:V→Value→Prop
 |.non,u=>u=Value.none
 |.bl b,u=>u=Value.bool b
 |.int i,u=>∃ t,u=Value.int i t
 |.str x,u=>∃ t,u=Value.str x t
 |.byt b,u=>∃ t,u=Value.bytes b t
 |.flt b,u=>∃ t,u=Value.float b t
 |.ref a,u=>u=Value.ref a
 |.ty n,u=>u=Value.type n
abbrev qL:List V→List Value→Prop:=Paired qK
theorem qL.length {xs:List V}{us:List Value}(r:qL xs us):xs.length=us.length:=Paired.length r
theorem qL.get:∀ {xs:List V} {us:List Value} {i:Nat} {x:V},qL xs us→xs[i]? = some x→∃ u,us[i]? = some u∧qK x u
 |_,_,_,_,.nil,e=>by simp at e
 |_,_,0,_,.cons r _,e=>by simp at e;subst e;exact⟨_,rfl,r⟩
 |_,_,i+1,x,.cons _ t,e=>by
  obtain⟨u,h1,h2⟩:=qL.get (i:=i) (x:=x) t (by simpa using e)
  exact⟨u,by simpa using h1,h2⟩
theorem qL.set {x:V}{u:Value}(r:qK x u):∀ {xs:List V} {us:List Value} (i:Nat),qL xs us→qL (xs.set i x) (us.set i u)
 |_,_,_,.nil=>.nil
 |_,_,0,.cons _ t=>.cons r t
 |_,_,i+1,.cons q t=>.cons q (qL.set r i t)
theorem qL.append {xs ys:List V}{us ws:List Value}(h:qL xs us)(s:qL ys ws):qL (xs++ys) (us++ws):=by
 induction h with
 |nil=>exact s
 |cons r t ih=>exact .cons r ih
theorem qL.take:∀ {xs:List V} {us:List Value} (n:Nat),qL xs us→qL (xs.take n) (us.take n)
 |_,_,0,_=>.nil
 |_,_,_+1,.nil=>.nil
 |_,_,n+1,.cons r t=>.cons r (qL.take n t)
theorem qL.drop:∀ {xs:List V} {us:List Value} (n:Nat),qL xs us→qL (xs.drop n) (us.drop n)
 |_,_,0,r=>r
 |_,_,_+1,.nil=>.nil
 |_,_,n+1,.cons _ t=>qL.drop n t
def gQ:Option V→Option Value→Prop
 |some v,some u=>qK v u
 |none,none=>True
 |_,_=>False
def KV {κ : Type}:List (κ × V)→List (κ × Value)→Prop:=Paired fun (p:κ × V) (q:κ × Value)=>p.1=q.1∧qK p.2 q.2
def kV:Key→V
 |.inl i=>.int i
 |.inr x=>.str x
inductive HO where
  |lst (xs:List V)
  |tup (xs:List V)
  |dK (kvs:List (Key × V))|dT (kvs:List (List Key × V))
  |set (S:Int→Bool) (n:Nat)
  |ins (C dx:Addr) (fs:List (Str × V))
  |own (x:Addr)
  |xd (fs:List (Str × V))
  |met (f x:Addr)
  |rng (lo hi:Int)
  |frz (o:Obj) (u:HO)
  |tbl (ps:Array Value)
  |ext (φ : Heap→Prop)
abbrev Hp:=Addr→Option HO
def upd (H:Hp)(a:Addr)(o:HO):Hp:=fun b=>if b=a then some o else H b
theorem zN {H:Hp}{a:Addr}{o:HO}:upd H a o a=some o:=by unfold upd;rw[if_pos rfl]
theorem qP {H:Hp}{a b:Addr}{o:HO}(h:b≠a):upd H a o b=H b:=by unfold upd;rw[if_neg h]
theorem NE {H:Hp}{a b:Addr}{o u:HO}(h:H a=some o)(h':H b=some u)(d:o≠u):a≠b:=by
 intro e;subst e;rw[h] at h';exact d (Option.some.inj h')
theorem zF {H:Hp}{a b:Addr}{o:HO}(h:H a=some o)(h':H b=none):a≠b:=by
 intro e;subst e;rw[h] at h';cases h'
section
variable (P:Program)(w:World)
def zO (H:Hp)(h:Heap)(a:Addr):HO→Prop
 |.lst xs=>xs.length≤sizeLine∧∃ (its:List Value) (n:Nat),qL xs its∧h.get? a=some { cls:=.type "list",data:=.seq its.toArray n }
 |.tup xs=>xs.length≤sizeLine∧∃ its:List Value,qL xs its∧IsTup h a its.toArray
 |.dK kvs=>kvs.length≤sizeLine∧(a == sysModules)=false∧∃ vs,KV kvs vs∧h.DictOf (xQ P w) a vs
 |.dT kvs=>kvs.length≤sizeLine∧(a == sysModules)=false∧∃ xs:List (List Key × Addr × Value),
   Paired (fun (p:List Key × V) (q:List Key × Addr × Value)=>p.1=q.1∧H q.2.1=some (.tup (p.1.map kV))∧qK p.2 q.2.2) kvs xs ∧
   ∃ o es ep,h.get? a=some o∧o.ExactDict∧o.data=.dict es ep∧es.toList=xs.map (entryOfKey (tupleKind (xQ P w)))∧(xs.map (·.1)).Nodup
 |.set S n=>h.SetOf (intKind P w) a S n
 |.ins C dx fs=>H dx=some (.own a)∧fs.length≤1000∧dx≠a∧h.get? a=some (PySem.W.instObj C dx) ∧
   ∃ mA,h.Ns1 dx mA∧(∀ f,gQ (fs.lookup f) (mA f))∧PySem.Within mA (fs.map (·.1))
 |.own _=>∃ o,h.get? a=some o
 |.xd fs=>∃ mA,h.Ns1 a mA∧∀ f,gQ (fs.lookup f) (mA f)
 |.rng lo hi=>∃ t u v,h.get? a=some { cls:=.type "range",data:=.fields #[.int lo t,.int hi u,.int 1 v] }
 |.frz o u=>h.get? a=some o∧zO H h a u
 |.tbl ps=>h.get? a=some { cls:=.none,data:=.fields ps }
 |.met f x=>h.get? a=some (PySem.W.methodObj (.ref f) (.ref x))
 |.ext φ => φ h∧(∃ o,h.get? a=some o)∧∀ h1 h2:Heap,φ h1→(∀ o,h1.get? a=some o→h2.get? a=some o)→φ h2
def HOk (H:Hp)(h:Heap):Prop:=∀ a o,H a=some o→zO P w H h a o
end
section
variable {P:Program}{w:World}{H H':Hp}{h h':Heap}{a:Addr}{o:HO}
theorem zO.lt (x:zO P w H h a o):a<h.objs.size:=by
 cases o with
 |lst xs=>obtain⟨_,_,_,_,e⟩:=x;exact Heap.lt_size e
 |tup xs=>obtain⟨_,_,_,p⟩:=x;exact p.lt
 |dK kvs=>obtain⟨_,_,_,_,o,_,_,e,_⟩:=x;exact Heap.lt_size e
 |dT kvs=>obtain⟨_,_,_,_,o,_,_,e,_⟩:=x;exact Heap.lt_size e
 |set S n=>obtain⟨o,_,_,_,e,_⟩:=x;exact Heap.lt_size e
 |ins C dx fs=>obtain⟨_,_,_,e,_⟩:=x;exact Heap.lt_size e
 |own y=>obtain⟨_,e⟩:=x;exact Heap.lt_size e
 |xd fs=>obtain⟨_,⟨_,_,_,e,_⟩,_⟩:=x;exact Heap.lt_size e
 |rng lo hi=>obtain⟨_,_,_,e⟩:=x;exact Heap.lt_size e
 |frz ob u=>obtain⟨e,_⟩:=x;exact Heap.lt_size e
 |tbl ps=>exact Heap.lt_size (show h.get? a=some _ from x)
 |met f y=>exact Heap.lt_size (show h.get? a=some _ from x)
 |ext φ => obtain⟨_,⟨_,e⟩,_⟩:=x;exact Heap.lt_size e
theorem Paired.mapP {α β:Type}{F G:α→β→Prop}{l₁:List α}{l₂:List β}(h:Paired F l₁ l₂)(f:∀ a b,F a b→G a b):Paired G l₁ l₂:=by
 induction h with
 |nil=>exact .nil
 |cons r t ih=>exact .cons (f _ _ r) ih
theorem zO.stay (x:zO P w H h a o)(k:∀ b u,(b=a∨H b=some (.own a))→h.get? b=some u→h'.get? b=some u)
  (ho:∀ b,H b=some (.own a)→H' b=some (.own a)) (ht:∀ b xs,H b=some (.tup xs)→H' b=some (.tup xs)):zO P w H' h' a o:=by
 induction o with
 |lst xs=>obtain⟨z,its,n,r,e⟩:=x;exact⟨z,its,n,r,k _ _ (.inl rfl) e⟩
 |tup xs=>obtain⟨z,its,r,ob,e,c⟩:=x;exact⟨z,its,r,ob,k _ _ (.inl rfl) e,c⟩
 |dK kvs=>obtain⟨z,y,vs,r,ob,es,ep,e,c⟩:=x;exact⟨z,y,vs,r,ob,es,ep,k _ _ (.inl rfl) e,c⟩
 |dT kvs =>
  obtain⟨z,y,xs,r,ob,es,ep,e,c⟩:=x
  exact⟨z,y,xs,Paired.mapP r fun p q z=>⟨z.1,ht _ _ z.2.1,z.2.2⟩,ob,es,ep,k _ _ (.inl rfl) e,c⟩
 |set S n=>obtain⟨ob,es,ep,t,e,c⟩:=x;exact⟨ob,es,ep,t,k _ _ (.inl rfl) e,c⟩
 |ins C dx fs =>
  obtain⟨d,z,ne,e,mA,⟨od,es,ep,e2,c⟩,r⟩:=x
  exact⟨ho _ d,z,ne,k _ _ (.inl rfl) e,mA,⟨od,es,ep,k _ _ (.inr d) e2,c⟩,r⟩
 |own y=>obtain⟨ob,e⟩:=x;exact⟨ob,k _ _ (.inl rfl) e⟩
 |xd fs=>obtain⟨mA,⟨od,es,ep,e,c⟩,r⟩:=x;exact⟨mA,⟨od,es,ep,k _ _ (.inl rfl) e,c⟩,r⟩
 |rng lo hi=>obtain⟨t,u,v,e⟩:=x;exact⟨t,u,v,k _ _ (.inl rfl) e⟩
 |frz ob u ih=>obtain⟨e,q⟩:=x;exact⟨k _ _ (.inl rfl) e,ih q⟩
 |tbl ps =>
  have e:h.get? a=some { cls:=.none,data:=.fields ps }:=x
  show h'.get? a=some { cls:=.none,data:=.fields ps }
  exact k a _ (.inl rfl) e
 |met f y =>
  have e:h.get? a=some (PySem.W.methodObj (.ref f) (.ref y)):=x
  show h'.get? a=some (PySem.W.methodObj (.ref f) (.ref y))
  exact k a _ (.inl rfl) e
 |ext φ => obtain⟨p,⟨o,e⟩,st⟩:=x;exact⟨st _ _ p fun o q=>k _ _ (.inl rfl) q,⟨o,k _ _ (.inl rfl) e⟩,st⟩
theorem HOk.lt (x:HOk P w H h)(e:H a=some o):a<h.objs.size:=(x a o e).lt
theorem HOk.fresh (x:HOk P w H h)(e:h.objs.size≤a):H a=none:=by
 cases q:H a with
 |none=>rfl
 |some u=>exact absurd (Nat.lt_of_lt_of_le (x.lt q) e) (Nat.lt_irrefl _)
theorem HOk.kept (x:HOk P w H h)(k:∀ b u,h.get? b=some u→h'.get? b=some u):HOk P w H h':=fun a o e =>
 (x a o e).stay (fun b u _ q=>k b u q) (fun _ q=>q) fun _ _ q=>q
theorem HOk.laid (x:HOk P w H h)(k:∀ b u,h.get? b=some u→h'.get? b=some u)(hp:h.objs.size≤a)(new:zO P w (upd H a o) h' a o):HOk P w (upd H a o) h':=fun b u e=>by
 have hn:=x.fresh hp
 by_cases hb:b=a
 ·subst hb;rw[zN] at e;cases e;exact new
 ·rw[qP hb] at e
  exact(x b u e).stay (fun c v _ q=>k c v q) (fun c q=>by rw[qP (zF q hn)];exact q) fun c xs q=>by rw[qP (zF q hn)];exact q
end
def Rd (H:Hp)(a:Addr)(u:HO):Prop:=H a=some u∨∃ o,H a=some (.frz o u)
theorem Rd.of {H:Hp}{a:Addr}{u:HO}(h:H a=some u):Rd H a u:=.inl h
theorem Rd.ok {P:Program}{w:World}{H:Hp}{h:Heap}{a:Addr}{u:HO}(r:Rd H a u)(x:HOk P w H h):zO P w H h a u:=by
 rcases r with r|⟨o,r⟩
 ·exact x a u r
 ·obtain⟨_,q⟩:=x a _ r
  exact q
def Mut:Option HO→Prop
 |some (.lst _)=>True
 |some (.dK _)=>True
 |some (.dT _)=>True
 |some (.set _ _)=>True
 |some (.ins _ _ _)=>True
 |some (.ext _)=>True
 |_=>False
section
variable {P:Program}{w:World}{H:Hp}{h h':Heap}{x e:Addr}{o':HO}
theorem HOk.write (ok:HOk P w H h)(mu:Mut (H x))(he:e=x∨H e=some (.own x))(k:∀ b u,b≠e→h.get? b=some u→h'.get? b=some u)(heo:∃ u,h'.get? e=some u)
  (new:zO P w (upd H x o') h' x o'):HOk P w (upd H x o') h':=fun b u q=>by
 have nown:∀ c y,H c=some (.own y)→c≠x:=fun c y r z=>by subst z;rw[r] at mu;exact mu
 have ntup:∀ c xs,H c=some (.tup xs)→c≠x:=fun c xs r z=>by subst z;rw[r] at mu;exact mu
 by_cases hb:b=x
 ·subst hb;rw[zN] at q;cases q;exact new
 ·rw[qP hb] at q
  by_cases hbe:b=e
  ·have q':H b=some (.own x):=by
    rcases he with z|z
    ·exact absurd (hbe.trans z) hb
    ·rw[hbe];exact z
   rw[q] at q';cases q'
   obtain⟨v,hv⟩:=heo
   exact⟨v,by rw[hbe];exact hv⟩
  ·refine(ok b u q).stay (fun c v hc r=>k c v ?_ r) (fun c r=>by rw[qP (nown c b r)];exact r) fun c xs r=>by rw[qP (ntup c xs r)];exact r
   rcases hc with rfl|hc
   ·exact hbe
   ·rintro rfl
    rcases he with z|z
    ·exact nown c b hc z
    ·rw[hc] at z;cases z;exact hb rfl
end
structure Un (fs ex:List Addr)(H H':Hp)(h h':Heap):Prop where
 keep:∀ b o,h.get? b=some o→H b=none→b ∉ fs→b ∉ ex→h'.get? b=some o
 slot:∀ b o,h.get? b=some o→H b=none→b∈fs→b ∉ ex→∃ sl,h'.get? b=some { o with slots:=sl }
 free:∀ b o,h.get? b=some o→H b=none→b ∉ ex→H' b=none
 there:∀ b o,h.get? b=some o→b ∉ ex→∃ o',h'.get? b=some o'
 tups:∀ b xs,H b=some (.tup xs)→H' b=some (.tup xs)
 frzs:∀ b o u,H b=some (.frz o u)→H' b=some (.frz o u)
 tbls:∀ b ps,H b=some (.tbl ps)→∃ more,H' b=some (.tbl (ps++more))
section
variable {fs fs' ex ex':List Addr}{H H1 H2:Hp}{h h1 h2 h':Heap}{a x e:Addr}{o:HO}
theorem Un.any (u:Un fs ex H H1 h h1){b:Addr}{ob:Obj}(q:h.get? b=some ob)(n:H b=none)(hx:b ∉ ex):∃ sl,h1.get? b=some { ob with slots:=sl }:=by
 by_cases hb:b∈fs
 ·exact u.slot b ob q n hb hx
 ·exact⟨ob.slots,u.keep b ob q n hb hx⟩
theorem Un.kept (k:∀ b u,h.get? b=some u→h'.get? b=some u):Un fs ex H H h h':=
 ⟨fun b ob q _ _ _=>k b ob q,fun b ob q _ _ _=>⟨ob.slots,k b ob q⟩,fun _ _ _ n _=>n,fun b ob q _=>⟨ob,k b ob q⟩,fun _ _ q=>q,fun _ _ _ q=>q,fun _ ps q=>⟨#[],by rw[q];simp⟩⟩
theorem Un.refl:Un fs ex H H h h:=Un.kept fun _ _ q=>q
theorem Un.laid (k:∀ b u,h.get? b=some u→h'.get? b=some u)(hp:h.objs.size≤a)(hn:H a=none):Un fs ex H (upd H a o) h h' where
 keep:=fun b u q _ _ _=>k b u q
 slot:=fun b u q _ _ _=>⟨u.slots,k b u q⟩
 free:=fun b u q n _=>by rw[qP (Nat.ne_of_lt (Nat.lt_of_lt_of_le (Heap.lt_size q) hp))];exact n
 there:=fun b u q _=>⟨u,k b u q⟩
 tups:=fun b xs q=>by rw[qP (zF q hn)];exact q
 frzs:=fun b u xs q=>by rw[qP (zF q hn)];exact q
 tbls:=fun b ps q=>⟨#[],by rw[qP (zF q hn),q];simp⟩
theorem Un.write (mu:Mut (H x))(he:e=x∨H e=some (.own x))(k:∀ b u,b≠e→h.get? b=some u→h'.get? b=some u)(heo:∃ u,h'.get? e=some u):Un fs ex H (upd H x o) h h':=by
 have hx:∀ b,H b=none→b≠x:=fun b n z=>by subst z;rw[n] at mu;exact mu
 have hb:∀ b,H b=none→b≠e:=fun b n z=>by
  subst z
  rcases he with r|r
  ·exact hx b n r
  ·rw[n] at r;cases r
 have hm:∀ b u,H b=some u→¬ Mut (some u)→b≠x:=fun b u q nm z=>by subst z;rw[q] at mu;exact nm mu
 refine⟨fun b u q n _ _=>k b u (hb b n) q,fun b u q n _ _=>⟨u.slots,k b u (hb b n) q⟩,fun b u q n _=>by rw[qP (hx b n)];exact n,fun b u q _=>?_,
  fun b xs q=>by rw[qP (hm b _ q fun z=>z)];exact q,fun b u xs q=>by rw[qP (hm b _ q fun z=>z)];exact q,fun b ps q=>⟨#[],by rw[qP (hm b _ q fun z=>z),q];simp⟩⟩
 by_cases hbe:b=e
 ·subst hbe;exact heo
 ·exact⟨u,k b u hbe q⟩
end
def trk (h:Heap)(H:Hp):List Addr:=(List.range h.objs.size).filter fun a=>(H a).isSome
def kY (h:Heap)(H:Hp):Heap:=PySem.W.hideAll h (trk h H)
theorem oU (h:Heap)(H:Hp):(kY h H).objs.size=h.objs.size:=PySem.W.hideAll_size _ _
theorem WO {h:Heap}{H:Hp}{b:Addr}{o:Obj}(e:h.get? b=some o)(n:H b=none):(kY h H).get? b=some o:=
 PySem.W.hideAll_get _ e fun hm=>by
  have q:(H b).isSome=true:=(List.mem_filter.mp hm).2
  rw[n] at q;simp at q
theorem KH {h:Heap}{H:Hp}{b:Addr}{o:Obj}(e:(kY h H).get? b=some o):h.get? b=some o∧H b=none:=by
 have e':h.get? b=some o:=PySem.W.of_hideAll (trk h H) e
 refine⟨e',?_⟩
 cases q:H b with
 |none=>rfl
 |some x =>
  have hm:b∈trk h H:=List.mem_filter.mpr ⟨List.mem_range.mpr (Heap.lt_size e'),by simp[q]⟩
  have z:(kY h H).get? b=none:=PySem.W.hideAll_none (trk h H) hm
  rw[z] at e;cases e
end _L
namespace _L
open PySem PySem.Spec PyProof.Rows
structure Mod (K:PySem.W.Frag)(mg:Str→Option Value)(base:Heap):Prop where
 kin:K.In base
 glob:base.Ns mainGlobals mg
 blt:∃ mb,base.Ns builtinsNs mb∧∀ x:Str,x ≠ "__name__" → mb x=bootBuiltins x
 nolimit:base.NoLimit
structure Cx where
 prog:Program
 w:World
 K:PySem.W.Frag
 mg:Str→Option Value
 base:Heap
 A:Around
 N:List Str
 s₀:Shared
 H₀:Hp
 env:Env
 outer:List Env
 stack:List Env
 ex:List Addr
 fn:Str→Bool
 calm:Bool
 pn:List (Addr × Obj)
 xe:Value→Shared→Prop
def frs (l:List Env):List Addr:=l.filterMap (·.frame)
abbrev Cx.fs (X:Cx):List Addr:=frs X.outer
def Vis (sc:Scope)(x:Str):Prop:=sc.names.lookup x=some .local ∨ sc.names.lookup x=some .cell∨sc.names.lookup x=some .free
def Loc (sc:Scope)(x:Str):Prop:=sc.names.lookup x=some .local ∨ sc.names.lookup x=some .cell
def GU (env:Env)(h:Heap)(m:Str→Option Value)(x:Str)(u:Value):Prop:=
 (env.kindOf x=some .local ∧ m x=some u)∨((env.kindOf x=some .cell∨env.kindOf x=some .free)∧∃ c,env.cells.lookup x=some c∧h.IsCell c (some u))
structure Cx.Ok (X:Cx):Prop where
 mod:Mod X.K X.mg X.base
 kind:X.env.scope.kind=.function
 glob:X.env.globals=mainGlobals
 blt:X.env.builtins=builtinsNs
 above:X.s₀.heap.objs.size≤X.env.locals
 inj:∀ x y c,X.env.cells.lookup x=some c→X.env.cells.lookup y=some c→x=y
 has:∀ x,(X.env.kindOf x=some .cell∨X.env.kindOf x=some .free)→∃ c,X.env.cells.lookup x=some c
 cab:∀ x c,X.fn x=true→X.env.cells.lookup x=some c→X.s₀.heap.objs.size≤c
 hd:X.calm=true→X.A.handled=none
 frames:X.A.frames=some X.stack
 stk:X.stack=X.outer∨(X.stack=X.env::X.outer∧X.env.frame=some X.env.locals)
 exf:∀ b∈X.ex,b≠X.env.locals∧∀ x c,X.env.cells.lookup x=some c→c≠b
 bs:∀ b o,X.base.get? b=some o→X.s₀.heap.get? b=some o∧X.H₀ b=none
 bsz:X.base.objs.size≤X.s₀.heap.objs.size
 noex:∀ b o,X.base.get? b=some o→b ∉ X.ex
 exfs:∀ b∈X.ex,b ∉ X.fs
 funs:X.s₀.heap.FunFrames X.base X.outer
 frf:∀ b∈X.fs,X.H₀ b=none
structure Inv (X:Cx)(pins:List (Addr × Obj))(σ : List (Option V))(H:Hp)(s:Shared):Prop where
 ok:X.Ok
 os:s.os=X.s₀.os
 bare:AllBare s.gens
 base:Un X.fs X.ex X.H₀ H X.s₀.heap s.heap
 loc:∃ m,s.heap.Ns X.env.locals m∧∀ (i:Nat) (x:Str) (v:V),X.N[i]? = some x→σ[i]? = some (some v)→Vis X.env.scope x→∃ u,qK v u∧GU X.env s.heap m x u
 cell:∀ x c,X.env.cells.lookup x=some c→∃ v,s.heap.IsCell c v
 free:H X.env.locals=none
 freeC:∀ x c,X.env.cells.lookup x=some c→H c=none
 pin:∀ p∈X.pn++pins,s.heap.get? p.1=some p.2∧H p.1=none∧p.1≠X.env.locals∧p.1 ∉ X.fs∧∀ v,p.2.data≠.cell v
 hok:HOk X.prog X.w H s.heap
 len:σ.length=X.N.length
section
variable {X:Cx}{pins:List (Addr × Obj)}{σ : List (Option V)}{H H':Hp}{s:Shared}{h':Heap}
theorem Cx.Ok.nofr (ok:X.Ok){b:Addr}{o:Obj}(e:X.base.get? b=some o):b ∉ X.fs:=fun hb=>by
 have:=(ok.funs.mem hb).1
 rw[e] at this;cases this
theorem Inv.bs (I:Inv X pins σ H s):∀ b o,X.base.get? b=some o→s.heap.get? b=some o∧H b=none:=fun b o e =>
 ⟨I.base.keep b o (I.ok.bs b o e).1 (I.ok.bs b o e).2 (I.ok.nofr e) (I.ok.noex b o e),I.base.free b o (I.ok.bs b o e).1 (I.ok.bs b o e).2 (I.ok.noex b o e)⟩
theorem Inv.bk (I:Inv X pins σ H s):∀ b o,X.base.get? b=some o→s.heap.get? b=some o:=fun b o e=>(I.bs b o e).1
theorem Inv.mod (I:Inv X pins σ H s):Mod X.K X.mg X.base:=I.ok.mod
theorem Inv.kIn (I:Inv X pins σ H s):X.K.In s.heap:=I.ok.mod.kin.keeps I.bk
theorem Inv.nolimit (I:Inv X pins σ H s):s.heap.NoLimit:=I.ok.mod.nolimit.keeps I.bk
theorem Inv.lt (I:Inv X pins σ H s):X.env.locals<s.heap.objs.size:=let ⟨_,hn,_⟩:=I.loc;hn.lt
theorem Inv.sz (I:Inv X pins σ H s):X.s₀.heap.objs.size≤s.heap.objs.size:=Nat.le_trans I.ok.above (Nat.le_of_lt I.lt)
theorem Inv.nofs (I:Inv X pins σ H s){a:Addr}(h:s.heap.objs.size≤a):a ∉ X.fs:=fun hb=>by
 obtain⟨_,o,ho,_⟩:=I.ok.funs.mem hb
 exact absurd (Nat.lt_of_lt_of_le (Heap.lt_size ho) (Nat.le_trans I.sz h)) (Nat.lt_irrefl _)
theorem Inv.cne (I:Inv X pins σ H s):∀ x c,X.env.cells.lookup x=some c→c≠X.env.locals:=fun x c e z=>by
 obtain⟨v,o,ho,hd⟩:=I.cell x c e
 obtain⟨m,⟨o',es,ep,ho',hd',_⟩,_⟩:=I.loc
 rw[z,ho'] at ho;cases ho;rw[hd'] at hd;cases hd
theorem Inv.funs (I:Inv X pins σ H s):s.heap.FunFrames X.base X.outer:=by
 have all:∀ (l:List Env),(∀ b∈frs l,b∈X.fs)→X.s₀.heap.FunFrames X.base l→s.heap.FunFrames X.base l:=by
  intro l
  induction l with
  |nil=>intro _ _;trivial
  |cons env r ih =>
   intro hs hl
   obtain⟨hk,⟨L,o,hf,hn,ho,hd⟩,hr⟩:=hl
   have hL:L∈X.fs:=hs L (by unfold frs;rw[List.filterMap_cons,hf];exact List.mem_cons_self)
   obtain⟨sl,e⟩:=I.base.slot L o ho (I.ok.frf L hL) hL fun z=>I.ok.exfs L z hL
   exact⟨hk,⟨L,_,hf,hn,e,hd⟩,ih (fun b hb=>hs b (by unfold frs;rw[List.filterMap_cons,hf];exact List.mem_cons_of_mem _ hb)) hr⟩
 exact all X.outer (fun _ hb=>hb) I.ok.funs
theorem Inv.stack (I:Inv X pins σ H s):s.heap.FunFrames X.base X.stack:=by
 rcases I.ok.stk with e|⟨e,hf⟩
 ·rw[e];exact I.funs
 ·rw[e]
  obtain⟨m,hn,_⟩:=I.loc
  refine .cons (by rw[I.ok.kind];decide) hf hn ?_ I.funs
  exact Heap.get?_none_of_le (Nat.le_trans I.ok.bsz I.ok.above)
theorem Inv.stkSub (I:Inv X pins σ H s):∀ b∈frs X.stack,b∈X.env.locals::X.fs:=fun b hb=>by
 rcases I.ok.stk with e|⟨e,hf⟩
 ·rw[e] at hb;exact List.mem_cons_of_mem _ hb
 ·rw[e] at hb
  unfold frs at hb
  rw[List.filterMap_cons,hf] at hb
  exact hb
theorem Inv.stkFree (I:Inv X pins σ H s):∀ b∈frs X.stack,H b=none:=fun b hb=>by
 rcases List.mem_cons.mp (I.stkSub b hb) with e|hb
 ·rw[e];exact I.free
 ·obtain⟨_,o,ho,_⟩:=I.ok.funs.mem hb
  exact I.base.free b o ho (I.ok.frf b hb) fun z=>I.ok.exfs b z hb
theorem Inv.step {g':Array GenState}{t':Nat}{d':Drawn}{ch:List Addr}(I:Inv X pins σ H s)
  (hch:∀ b∈ch,(b∈X.ex∨X.s₀.heap.objs.size≤b)∧b≠X.env.locals∧(∀ x c,X.env.cells.lookup x=some c→c≠b)∧∀ p∈X.pn++pins,p.1≠b)
  (keep:∀ b o,b≠X.env.locals→b ∉ X.fs→b ∉ ch→s.heap.get? b=some o→H b=none→h'.get? b=some o)
  (slot:∀ b o,b≠X.env.locals→b∈X.fs→b ∉ ch→s.heap.get? b=some o→H b=none→∃ sl,h'.get? b=some { o with slots:=sl }) (free:∀ b o,b ∉ ch→s.heap.get? b=some o→H b=none→H' b=none)
  (there:∀ b o,b ∉ ch→s.heap.get? b=some o→∃ o',h'.get? b=some o')
  (tups:∀ b xs,H b=some (.tup xs)→H' b=some (.tup xs)) (frzs:∀ b o u,H b=some (.frz o u)→H' b=some (.frz o u)) (tbls:∀ b ps,H b=some (.tbl ps)→∃ more,H' b=some (.tbl (ps++more)))
  (ns:∀ m,s.heap.Ns X.env.locals m→h'.Ns X.env.locals m) (hok:HOk X.prog X.w H' h') (hg:AllBare g') :
  Inv X pins σ H' { s with heap:=h',gens:=g',drawn:=d',toks:=t' }:=by
 have neL:∀ b o,X.s₀.heap.get? b=some o→b≠X.env.locals:=fun b o e=>Nat.ne_of_lt (Nat.lt_of_lt_of_le (Heap.lt_size e) I.ok.above)
 have neC:∀ b o,X.s₀.heap.get? b=some o→b ∉ X.ex→b ∉ ch:=fun b o e hx hb=>by
  rcases (hch b hb).1 with z|z
  ·exact hx z
  ·exact absurd (Nat.lt_of_lt_of_le (Heap.lt_size e) z) (Nat.lt_irrefl _)
 have cellK:∀ x c,X.env.cells.lookup x=some c→∀ v,s.heap.IsCell c v→h'.IsCell c v:=fun x c e v ⟨o,ho,hd⟩=>by
  have nch:c ∉ ch:=fun z=>(hch c z).2.2.1 x c e rfl
  by_cases hc:c∈X.fs
  ·obtain⟨sl,q⟩:=slot c o (I.cne x c e) hc nch ho (I.freeC x c e)
   exact⟨_,q,hd⟩
  ·exact⟨o,keep c o (I.cne x c e) hc nch ho (I.freeC x c e),hd⟩
 refine⟨I.ok,I.os,hg,⟨fun b o e n hb hx=>?_,fun b o e n hb hx=>?_,fun b o e n hx=>?_,fun b o e hx=>?_,fun b xs e=>tups b xs (I.base.tups b xs e),fun b o xs e=>frzs b o xs (I.base.frzs b o xs e),fun b ps e=>?_⟩,?_,fun x c e=>?_,?_,fun x c e=>?_,fun p hp=>?_,hok,I.len⟩
 ·exact keep b o (neL b o e) hb (neC b o e hx) (I.base.keep b o e n hb hx) (I.base.free b o e n hx)
 ·obtain⟨sl,e1⟩:=I.base.slot b o e n hb hx
  obtain⟨sl',e2⟩:=slot b _ (neL b o e) hb (neC b o e hx) e1 (I.base.free b o e n hx)
  exact⟨sl',e2⟩
 ·obtain⟨o',e1⟩:=I.base.there b o e hx
  exact free b o' (neC b o e hx) e1 (I.base.free b o e n hx)
 ·obtain⟨o',e1⟩:=I.base.there b o e hx
  exact there b o' (neC b o e hx) e1
 ·obtain⟨m1,e1⟩:=I.base.tbls b ps e
  obtain⟨m2,e2⟩:=tbls b _ e1
  exact⟨m1++m2,by rw[e2,Array.append_assoc]⟩
 ·obtain⟨m,hn,hl⟩:=I.loc
  refine⟨m,ns m hn,fun i x v e1 e2 e3=>?_⟩
  obtain⟨u,r,l⟩:=hl i x v e1 e2 e3
  refine⟨u,r,?_⟩
  rcases l with l|⟨k,c,e,z⟩
  ·exact .inl l
  ·exact .inr ⟨k,c,e,cellK x c e _ z⟩
 ·obtain⟨v,z⟩:=I.cell x c e
  exact⟨v,cellK x c e v z⟩
 ·obtain⟨m,⟨o,_,_,ho,_⟩,_⟩:=I.loc
  exact free _ o (fun z=>(hch _ z).2.1 rfl) ho I.free
 ·obtain⟨v,o,ho,hd⟩:=I.cell x c e
  exact free c o (fun z=>(hch c z).2.2.1 x c e rfl) ho (I.freeC x c e)
 ·obtain⟨e,n,ne,nf,d⟩:=I.pin p hp
  have nch:p.1 ∉ ch:=fun z=>(hch p.1 z).2.2.2 p hp rfl
  exact⟨keep p.1 p.2 ne nf nch e n,free p.1 p.2 nch e n,ne,nf,d⟩
theorem Inv.un {t':Nat}(I:Inv X pins σ H s)(u:Un X.fs [] H H' s.heap h')(hok:HOk X.prog X.w H' h'):Inv X pins σ H' { s with heap:=h',toks:=t' }:=by
 obtain⟨m,⟨o,es,ep,ho,r⟩,_⟩:=id I.loc
 obtain⟨sl,hL⟩:=u.any ho I.free (by simp)
 exact I.step (g':=s.gens) (d':=s.drawn) (ch:=[]) (fun _ z=>nomatch z) (fun b o _ hb _ e n=>u.keep b o e n hb (by simp)) (fun b o _ hb _ e n=>u.slot b o e n hb (by simp)) (fun b o _ e n=>u.free b o e n (by simp)) (fun b o _ e=>u.there b o e (by simp)) u.tups u.frzs u.tbls (fun m' hm=>by
  obtain⟨o',es',ep',ho',r'⟩:=hm
  rw[ho] at ho';cases ho'
  exact⟨_,es',ep',hL,r'⟩) hok I.bare
theorem Inv.call {g':Array GenState}{t':Nat}{d':Drawn}{ch:List Addr}(I:Inv X pins σ H s)(u:Un (frs X.stack) ch H H' s.heap h')(hok:HOk X.prog X.w H' h')(hg:AllBare g')
  (hch:∀ b∈ch,(b∈X.ex∨X.s₀.heap.objs.size≤b)∧b≠X.env.locals∧(∀ x c,X.env.cells.lookup x=some c→c≠b)∧∀ p∈X.pn++pins,p.1≠b) :
  Inv X pins σ H' { s with heap:=h',gens:=g',drawn:=d',toks:=t' }:=by
 obtain⟨m,⟨o,es,ep,ho,r⟩,_⟩:=id I.loc
 obtain⟨sl,hL⟩:=u.any ho I.free fun z=>(hch _ z).2.1 rfl
 exact I.step (ch:=ch) hch (fun b o hL hb hc e n=>u.keep b o e n (fun z=>(List.mem_cons.mp (I.stkSub b z)).elim hL hb) hc) (fun b o _ _ hc e n=>u.any e n hc) (fun b o hc e n=>u.free b o e n hc) (fun b o hc e=>u.there b o e hc) u.tups u.frzs u.tbls (fun m' hm=>by
  obtain⟨o',es',ep',ho',r'⟩:=hm
  rw[ho] at ho';cases ho'
  exact⟨_,es',ep',hL,r'⟩) hok hg
theorem Inv.turned {t':Nat}{it:Addr}(I:Inv X pins σ H s)(k:∀ b o,b≠it→s.heap.get? b=some o→h'.get? b=some o)(hn:H it=none)(hL:it≠X.env.locals)
  (h1:it∈X.ex∨X.s₀.heap.objs.size≤it) (h2:∀ x c,X.env.cells.lookup x=some c→c≠it) (h3:∀ p∈X.pn++pins,p.1≠it):Inv X pins σ H { s with heap:=h',toks:=t' }:=by
 have nit:∀ b u,H b=some u→b≠it:=fun b u e z=>by rw[z,hn] at e;cases e
 refine I.step (g':=s.gens) (d':=s.drawn) (ch:=[it]) (fun b hb=>?_) (fun b o _ _ hc e _=>k b o (fun z=>hc (by simp[z])) e) (fun b o _ _ hc e _=>⟨o.slots,k b o (fun z=>hc (by simp[z])) e⟩) (fun _ _ _ _ n=>n)
  (fun b o hc e=>⟨o,k b o (fun z=>hc (by simp[z])) e⟩) (fun _ _ e=>e) (fun _ _ _ e=>e) (fun b ps e=>⟨#[],by rw[e];simp⟩) (fun m hm=>?_) (fun b u e=>?_) I.bare
 ·have e:b=it:=by simpa using hb
  subst e
  exact⟨h1,hL,h2,h3⟩
 ·obtain⟨o,es,ep,ho,r⟩:=hm
  exact⟨o,es,ep,k _ o (Ne.symm hL) ho,r⟩
 ·refine(I.hok b u e).stay (fun c v hc q=>k c v ?_ q) (fun _ q=>q) fun _ _ q=>q
  rcases hc with z|z
  ·rw[z];exact nit b u e
  ·exact nit c _ z
theorem Inv.tok (I:Inv X pins σ H s)(t:Nat):Inv X pins σ H { s with toks:=t }:=I.un (h':=s.heap) (t':=t) Un.refl I.hok
theorem Inv.kept {t':Nat}(I:Inv X pins σ H s)(k:∀ b u,s.heap.get? b=some u→h'.get? b=some u):Inv X pins σ H { s with heap:=h',toks:=t' }:=I.un (Un.kept k) (I.hok.kept k)
theorem Inv.laid {a:Addr}{o:HO}{t':Nat}(I:Inv X pins σ H s)(k:∀ b u,s.heap.get? b=some u→h'.get? b=some u)(hp:s.heap.objs.size≤a)(new:zO X.prog X.w (upd H a o) h' a o) :
  Inv X pins σ (upd H a o) { s with heap:=h',toks:=t' }:=I.un (Un.laid k hp (I.hok.fresh hp)) (I.hok.laid k hp new)
theorem Inv.write {x e:Addr}{o:HO}{t':Nat}(I:Inv X pins σ H s)(mu:Mut (H x))(he:e=x∨H e=some (.own x))(k:∀ b u,b≠e→s.heap.get? b=some u→h'.get? b=some u)(heo:∃ u,h'.get? e=some u)
  (new:zO X.prog X.w (upd H x o) h' x o):Inv X pins σ (upd H x o) { s with heap:=h',toks:=t' }:=I.un (Un.write mu he k heo) (I.hok.write mu he k heo new)
theorem Inv.pins_of {pins':List (Addr × Obj)}(I:Inv X pins σ H s)(h:∀ p∈pins',s.heap.get? p.1=some p.2∧H p.1=none∧p.1≠X.env.locals∧p.1 ∉ X.fs∧∀ v,p.2.data≠.cell v):Inv X pins' σ H s:=
 ⟨I.ok,I.os,I.bare,I.base,I.loc,I.cell,I.free,I.freeC,fun p hp=>(List.mem_append.mp hp).elim (fun z=>I.pin p (List.mem_append_left _ z)) (h p),I.hok,I.len⟩
theorem bU {N:List Str}(hN:N.Nodup){i j:Nat}{x:Str}(a:N[i]? = some x)(b:N[j]? = some x):i=j:=by
 obtain⟨h1,e1⟩:=List.getElem?_eq_some_iff.mp a
 obtain⟨h2,e2⟩:=List.getElem?_eq_some_iff.mp b
 exact(List.getElem_inj hN).mp (e1.trans e2.symm)
theorem lB {M:Model}{A:Around}{E:Value→Shared→Prop}{i:Nat}{x:Str}{v:V}{u:Value}{Q:Unit→Shared→Prop}(I:Inv X pins σ H s)(hN:X.N.Nodup)(hi:X.N[i]? = some x)(hx:Loc X.env.scope x)(r:qK v u)
  (h:∀ s',Inv X pins (σ.set i (some v)) H s'→(∃ a,Heap.SameBut a s.heap s'.heap∧(a=X.env.locals∨X.env.cells.lookup x=some a))→Q () s') (hf:X.fn x=true∨X.env.scope.names.lookup x=some .local:=by first|exact .inl rfl|exact .inr rfl|assumption):wpAny M A (storeName X.env x u) Q E s:=by
 obtain⟨m,hn,hl⟩:=id I.loc
 have hcls:(X.env.scope.kind == .class||(X.env.scope.kind == .module&&X.env.locals != X.env.globals))=false:=by rw[I.ok.kind];rfl
 have hiσ:i<σ.length:=by rw[I.len];exact(List.getElem?_eq_some_iff.mp hi).1
 have cne:=I.cne
 have tracked:∀ {a:Addr} {h':Heap},(∃ o,s.heap.get? a=some o∧H a=none)→Heap.SameBut a s.heap h'→HOk X.prog X.w H h':=fun {a h'} ha hs b ob e=>by
  obtain⟨_,_,hfree⟩:=ha
  refine(I.hok b ob e).stay (fun c w' hc q=>(hs.2 c ?_).trans q) (fun _ q=>q) fun _ _ q=>q
  rintro rfl
  rcases hc with rfl|hc
  ·rw[hfree] at e;cases e
  ·rw[hfree] at hc;cases hc
 rcases hx with hk|hk
 ·refine wpAny_storeName_local hk hn (fun h' hn' hs=>?_) hcls
  obtain⟨oL,_,_,hoL,_⟩:=id hn
  refine h _ ⟨I.ok,I.os,I.bare,⟨fun b o e n hb hx=>?_,fun b o e n hb hx=>?_,I.base.free,fun b o e hx=>?_,I.base.tups,I.base.frzs,I.base.tbls⟩,⟨_,hn',fun j y v' e1 e2 e3=>?_⟩,fun y c e=>?_,I.free,I.freeC,fun p hp=>?_,tracked ⟨oL,hoL,I.free⟩ hs,by simpa using I.len⟩ ⟨_,hs,.inl rfl⟩
  ·exact(hs.2 b (Nat.ne_of_lt (Nat.lt_of_lt_of_le (Heap.lt_size e) I.ok.above))).trans (I.base.keep b o e n hb hx)
  ·obtain⟨sl,e1⟩:=I.base.slot b o e n hb hx
   exact⟨sl,(hs.2 b (Nat.ne_of_lt (Nat.lt_of_lt_of_le (Heap.lt_size e) I.ok.above))).trans e1⟩
  ·obtain⟨o',e1⟩:=I.base.there b o e hx
   exact⟨o',(hs.2 b (Nat.ne_of_lt (Nat.lt_of_lt_of_le (Heap.lt_size e) I.ok.above))).trans e1⟩
  ·by_cases hj:j=i
   ·subst hj
    rw[hi] at e1;cases e1
    rw[List.getElem?_set_self hiσ] at e2
    cases e2
    exact⟨u,r,.inl ⟨hk,by simp⟩⟩
   ·rw[List.getElem?_set_ne (Ne.symm hj)] at e2
    obtain⟨u',r',q⟩:=hl j y v' e1 e2 e3
    refine⟨u',r',?_⟩
    rcases q with⟨k,e⟩|⟨k,c,e,z⟩
    ·refine .inl ⟨k,?_⟩
     have:y≠x:=fun e=>hj (bU hN e1 (e▸hi))
     simp[this,e]
    ·exact .inr ⟨k,c,e,z.sameBut hs (cne y c e)⟩
  ·obtain⟨w',z⟩:=I.cell y c e
   exact⟨w',z.sameBut hs (cne y c e)⟩
  ·obtain⟨e,n,ne,nf,d⟩:=I.pin p hp
   exact⟨(hs.2 p.1 ne).trans e,n,ne,nf,d⟩
 ·have hfn:X.fn x=true:=by
   rcases hf with z|z
   ·exact z
   ·rw[z] at hk;cases hk
  obtain⟨c,hc⟩:=I.ok.has x (.inl hk)
  obtain⟨w',z⟩:=I.cell x c hc
  refine wpAny_storeName_cell I.ok.kind hk hc z (fun h' hc' hs=>?_)
  obtain⟨oc,hoc,hocd⟩:=id z
  refine h { s with heap:=h' } ⟨I.ok,I.os,I.bare,⟨fun b o e n hb hx=>?_,fun b o e n hb hx=>?_,I.base.free,fun b o e hx=>?_,I.base.tups,I.base.frzs,I.base.tbls⟩,⟨m,hn.sameBut hs (Ne.symm (cne x c hc)),fun j y v' e1 e2 e3=>?_⟩,fun y c' e=>?_,I.free,I.freeC,fun p hp=>?_,tracked ⟨oc,hoc,I.freeC x c hc⟩ hs,by simpa using I.len⟩ ⟨c,hs,.inr hc⟩
  ·exact(hs.2 b (Nat.ne_of_lt (Nat.lt_of_lt_of_le (Heap.lt_size e) (I.ok.cab x c hfn hc)))).trans (I.base.keep b o e n hb hx)
  ·obtain⟨sl,e1⟩:=I.base.slot b o e n hb hx
   exact⟨sl,(hs.2 b (Nat.ne_of_lt (Nat.lt_of_lt_of_le (Heap.lt_size e) (I.ok.cab x c hfn hc)))).trans e1⟩
  ·obtain⟨o',e1⟩:=I.base.there b o e hx
   exact⟨o',(hs.2 b (Nat.ne_of_lt (Nat.lt_of_lt_of_le (Heap.lt_size e) (I.ok.cab x c hfn hc)))).trans e1⟩
  ·by_cases hj:j=i
   ·subst hj
    rw[hi] at e1;cases e1
    rw[List.getElem?_set_self hiσ] at e2
    cases e2
    exact⟨u,r,.inr ⟨.inl hk,c,hc,hc'⟩⟩
   ·rw[List.getElem?_set_ne (Ne.symm hj)] at e2
    obtain⟨u',r',q⟩:=hl j y v' e1 e2 e3
    refine⟨u',r',?_⟩
    rcases q with q|⟨k,c',e,z'⟩
    ·exact .inl q
    ·refine .inr ⟨k,c',e,z'.sameBut hs ?_⟩
     rintro rfl
     exact hj (bU hN e1 (I.ok.inj _ _ _ e hc▸hi))
  ·by_cases hcc:c'=c
   ·subst hcc;exact⟨_,hc'⟩
   ·obtain⟨w2,z2⟩:=I.cell y c' e
    exact⟨w2,z2.sameBut hs hcc⟩
  ·obtain⟨e,n,ne,nf,d⟩:=I.pin p hp
   refine⟨(hs.2 p.1 ?_).trans e,n,ne,nf,d⟩
   intro q
   rw[q,hoc] at e
   have q':oc=p.2:=Option.some.inj e
   exact d w' (by rw[← q'];exact hocd)
theorem yE {M:Model}{A:Around}{E:Value→Shared→Prop}{i:Nat}{x:Str}{v:V}{u:Value}{Q:Unit→Shared→Prop}(I:Inv X pins σ H s)(hN:X.N.Nodup)(hi:X.N[i]? = some x)(hx:Loc X.env.scope x)(r:qK v u)
  (h:∀ s',Inv X pins (σ.set i (some v)) H s'→Q () s') (hf:X.fn x=true∨X.env.scope.names.lookup x=some .local:=by first|exact .inl rfl|exact .inr rfl|assumption):wpAny M A (storeName X.env x u) Q E s:=
 lB I hN hi hx r (fun s' I' _=>h s' I') hf
theorem Inv.call' {s':Shared}{ch:List Addr}(I:Inv X pins σ H s)(ho:s'.os=s.os)(u:Un (frs X.stack) ch H H' s.heap s'.heap)(hok:HOk X.prog X.w H' s'.heap)(hg:AllBare s'.gens)
  (hch:∀ b∈ch,(b∈X.ex∨X.s₀.heap.objs.size≤b)∧b≠X.env.locals∧(∀ x c,X.env.cells.lookup x=some c→c≠b)∧∀ p∈X.pn++pins,p.1≠b):Inv X pins σ H' s':=by
 obtain⟨h',g',d',t',o'⟩:=s'
 have e:o'=s.os:=ho
 subst e
 exact I.call (g':=g') (t':=t') (d':=d') u hok hg hch
end
abbrev XK:=Value→Option Addr→Hp→Prop
abbrev St:=List (Option V)
abbrev VK:=V→Hp→Prop
abbrev TE:=St→Hp→VK→Prop
abbrev TT:=St→Hp→(Bool→Hp→Prop)→Prop
abbrev TA:=St→Hp→(List V→Hp→Prop)→Prop
structure Ends where
 nx:St→Hp→Prop
 rt:VK
 bk:St→Hp→Prop:=fun _ _=>False
 ct:St→Hp→Prop:=fun _ _=>False
abbrev TS:=Ends→St→Hp→Prop
inductive EP (X:Cx)(pins:List (Addr × Obj))(σ : St)(Q:VK)(u:Value)(s':Shared):Prop
 |mk (v:V) (H':Hp) (I:Inv X pins σ H' s') (r:qK v u) (q:Q v H'):EP X pins σ Q u s'
inductive TP (X:Cx)(pins:List (Addr × Obj))(σ : St)(Q:Bool→Hp→Prop)(b:Bool)(s':Shared):Prop
 |mk (H':Hp) (I:Inv X pins σ H' s') (q:Q b H'):TP X pins σ Q b s'
inductive AP (X:Cx)(pins:List (Addr × Obj))(σ : St)(Q:List V→Hp→Prop)(us:List Value)(s':Shared):Prop
 |mk (vs:List V) (H':Hp) (I:Inv X pins σ H' s') (r:qL vs us) (q:Q vs H'):AP X pins σ Q us s'
def SP (X:Cx)(pins:List (Addr × Obj))(D:Ends)(f:Flow)(s':Shared):Prop:=
 match f with
 |.next=>∃ σ' H',Inv X pins σ' H' s'∧D.nx σ' H'
 |.brk=>∃ σ' H',Inv X pins σ' H' s'∧D.bk σ' H'
 |.cont=>∃ σ' H',Inv X pins σ' H' s'∧D.ct σ' H'
 |.ret u=>∃ v σ' H',Inv X pins σ' H' s'∧qK v u∧D.rt v H'
def PE (X:Cx)(e:Expr)(t:TE):Prop:=
 ∀ (pins:List (Addr × Obj)) (s:Shared) (σ : St) (H:Hp) (Q:VK),Inv X pins σ H s→t σ H Q→wpAny (model X.prog X.w) X.A (eval e X.env) (EP X pins σ Q) X.xe s
def PT (X:Cx)(e:Expr)(t:TT):Prop:=
 ∀ (pins:List (Addr × Obj)) (s:Shared) (σ : St) (H:Hp) (Q:Bool→Hp→Prop),Inv X pins σ H s→t σ H Q→wpAny (model X.prog X.w) X.A (isTrue e X.env (eval e X.env)) (TP X pins σ Q) X.xe s
def PW (X:Cx)(e:Expr)(t:TT):Prop:=
 ∀ (whole:Sem Value) (pins:List (Addr × Obj)) (s:Shared) (σ : St) (H:Hp) (Q:Bool→Hp→Prop),Inv X pins σ H s→t σ H Q→wpAny (model X.prog X.w) X.A (isTrue e X.env whole) (TP X pins σ Q) X.xe s
def PA (X:Cx)(es:List Expr)(t:TA):Prop:=
 ∀ (pos:Pos) (pins:List (Addr × Obj)) (s:Shared) (σ : St) (H:Hp) (Q:List V→Hp→Prop),Inv X pins σ H s→t σ H Q→wpAny (model X.prog X.w) X.A (spliced (backTo pos (starEach es X.env))) (AP X pins σ Q) X.xe s
def PS (X:Cx)(st:Stmt)(t:TS):Prop:=
 ∀ (pins:List (Addr × Obj)) (s:Shared) (σ : St) (H:Hp) (D:Ends),Inv X pins σ H s→t D σ H→wpAny (model X.prog X.w) X.A (exec st X.env) (SP X pins D) X.xe s
def PSs (X:Cx)(st:List Stmt)(t:TS):Prop:=
 ∀ (pins:List (Addr × Obj)) (s:Shared) (σ : St) (H:Hp) (D:Ends),Inv X pins σ H s→t D σ H→wpAny (model X.prog X.w) X.A (execs st X.env) (SP X pins D) X.xe s
theorem thn {α : Type}{t:Sem α}{Q Q':α→Shared→Prop}{M:Model}{A:Around}{E:Value→Shared→Prop}{s:Shared}(h:wpAny M A t Q E s)(hQ:∀ a s,Q a s→Q' a s):wpAny M A t Q' E s:=wpAny_mono h hQ fun _ _ x=>x
end _L
namespace _L
open PySem PySem.Spec PyProof.Rows
section
variable {X:Cx}
theorem bin {a b:Expr}{ta tb:TE}(ha:PE X a ta)(hb:PE X b tb){pins:List (Addr × Obj)}{s:Shared}{σ : St}{H:Hp}{R:V→V→Hp→Prop}(I:Inv X pins σ H s)(h:ta σ H fun x H1=>tb σ H1 fun y H2=>R x y H2)
  {α:Type} {Q:α→Shared→Prop} {f:Value→Value→Sem α}
  (hf:∀ v u s2 x y H2,Inv X pins σ H2 s2→qK x v→qK y u→R x y H2→wpAny (model X.prog X.w) X.A (f v u) Q X.xe s2) :
  wpAny (model X.prog X.w) X.A (eval a X.env) (fun v s₁=>wpAny (model X.prog X.w) X.A (eval b X.env) (fun u s₂=>wpAny (model X.prog X.w) X.A (f v u) Q X.xe s₂) X.xe s₁) X.xe s:=by
 refine thn (ha pins s σ H _ I h) fun v s1 ⟨x,H1,I1,r1,q1⟩=>?_
 refine thn (hb pins s1 σ H1 _ I1 q1) fun u s2 ⟨y,H2,I2,r2,q2⟩=>?_
 exact hf v u s2 x y H2 I2 r1 r2 q2
def MN (i:Nat):TE:=fun σ H Q=>∃ v,σ[i]? = some (some v)∧Q v H
def tC (v:V):TE:=fun _ H Q=>Q v H
theorem FY {i:Nat}{x:Str}{pos:Pos}(hN:X.N[i]? = some x)(hv:Vis X.env.scope x)(hd:(x == ("__debug__" : Str))=false:=by decide)(hcd:(x == ("__classdict__" : Str))=false:=by decide):PE X (.Name x pos) (MN i):=by
 intro pins s σ H Q I h
 obtain⟨v,e,h⟩:=h
 obtain⟨m,hn,hl⟩:=I.loc
 obtain⟨u,r,l⟩:=hl i x v hN e hv
 have fin:EP X pins σ Q u s:=⟨v,H,I,r,h⟩
 rcases l with⟨hk,hm⟩|⟨hk,c,hc,hcell⟩
 ·exact wpAny_Name (wpAny_loadName_local I.ok.kind hk hn hm fin) hd
 ·rcases hk with hk|hk
  ·exact wpAny_Name (wpAny_loadName_cell I.ok.kind hk hc hcell fin) hd
  ·exact wpAny_Name (wpAny_loadName_free I.ok.kind hk hc hcell fin hcd) hd
theorem FT {i j pos}:PE X (.Constant (.int i) j pos) (tC (.int i)):=fun _ _ _ H _ I h=>wpAny_Constant_int ⟨.int i,H,I.tok _,⟨_,rfl⟩,h⟩
theorem NN {b j pos}:PE X (.Constant (.bool b) j pos) (tC (.bl b)):=fun _ _ _ H _ I h=>Constant_bool ⟨.bl b,H,I,rfl,h⟩
theorem FU {j pos}:PE X (.Constant .none j pos) (tC .non):=fun _ _ _ H _ I h=>Constant_none ⟨.non,H,I,rfl,h⟩
theorem FW {x j pos}:PE X (.Constant (.str x) j pos) (tC (.str x)):=fun _ _ _ H _ I h=>Calls.Constant_str ⟨.str x,H,I.tok _,⟨_,rfl⟩,h⟩
def Gl (X:Cx)(x:Str):Prop:=X.env.kindOf x=some .globalImplicit
theorem kF {E:Value→Shared→Prop}{pins:List (Addr × Obj)}{s:Shared}{σ : St}{H:Hp}{x:Str}{u:Value}{pos:Pos}{Q:Value→Shared→Prop}(I:Inv X pins σ H s)(hg:Gl X x)(hm:X.mg x=some u)(h:Q u s)
  (hd:(x == ("__debug__" : Str))=false:=by decide):wpAny (model X.prog X.w) X.A (eval (.Name x pos) X.env) Q E s:=
 Calls.Name_function_global I.ok.kind hg (Calls.loadGlobal_global (by rw[I.ok.glob];exact I.mod.glob.keeps I.bk) hm h) hd
theorem j9 {E:Value→Shared→Prop}{pins:List (Addr × Obj)}{s:Shared}{σ : St}{H:Hp}{x:Str}{u:Value}{pos:Pos}{Q:Value→Shared→Prop}(I:Inv X pins σ H s)(hg:Gl X x)(hm:X.mg x=none)(hv:bootBuiltins x=some u)(h:Q u s)
  (hn:x ≠ "__name__":=by decide) (hd:(x == ("__debug__" : Str))=false:=by decide):wpAny (model X.prog X.w) X.A (eval (.Name x pos) X.env) Q E s:=by
 obtain⟨mb,h1,h2⟩:=I.mod.blt
 exact Calls.Name_function_global I.ok.kind hg (Calls.loadGlobal_builtin (by rw[I.ok.glob];exact I.mod.glob.keeps I.bk) hm (by rw[I.ok.blt];exact h1.keeps I.bk) ((h2 x hn).trans hv) h) hd
theorem KO {x:Str}{v:V}{u:Value}{pos:Pos}(hg:Gl X x)(hm:X.mg x=some u)(r:qK v u)(hd:(x == ("__debug__" : Str))=false:=by decide):PE X (.Name x pos) (tC v):=
 fun _ _ _ H _ I h=>kF I hg hm ⟨v,H,I,r,h⟩ hd
theorem KN {x:Str}{v:V}{u:Value}{pos:Pos}(hg:Gl X x)(hm:X.mg x=none)(hv:bootBuiltins x=some u)(r:qK v u)(hn:x ≠ "__name__":=by decide)(hd:(x == ("__debug__" : Str))=false:=by decide):PE X (.Name x pos) (tC v):=
 fun _ _ _ H _ I h=>j9 I hg hm hv ⟨v,H,I,r,h⟩ hn hd
variable {a b:Expr}{ta tb:TE}{pos:Pos}
variable {tA tB':TT}{rest:List Expr}
theorem M7 (ha:PT X a tA):PW X (.BoolOp .Or [a] pos) tA:=by
 intro wh pins s σ H Q I h
 refine isTrue_or (thn (ha pins s σ H Q I h) fun c s1 e=>?_)
 cases c with
 |false=>exact isTrue_or_nil e
 |true=>exact e
theorem FV {op}{t:TE}(h:PE X a t):PE X (.BoolOp op [a] pos) t:=fun pins s σ H Q I hw=>BoolOp_one (h pins s σ H Q I hw)
end
end _L
namespace _L
open PySem PySem.Spec PyProof.Rows
def SqL (K:PySem.W.Frag)(H:Hp)(a:Addr)(xs:List V):Prop:=
 Rd H a (.lst xs) ∨
  ∃ (o:Obj) (its:Array Value) (n:Nat),K.lookup a=some o∧o.cls=.type "list" ∧ o.dict=none∧o.data=.seq its n∧its.size≤sizeLine∧qL xs its.toList
def SqT (K:PySem.W.Frag)(H:Hp)(a:Addr)(xs:List V):Prop:=
 Rd H a (.tup xs) ∨
  ∃ (o:Obj) (its:Array Value) (n:Nat),K.lookup a=some o∧o.cls=.type "tuple" ∧ o.data=.seq its n∧its.size≤sizeLine∧qL xs its.toList
def LK:Value→Option V
 |.none=>some .non
 |.bool b=>some (.bl b)
 |.int i _=>some (.int i)
 |.str x _=>some (.str x)
 |.bytes b _=>some (.byt b)
 |.float b _=>some (.flt b)
 |.ref a=>some (.ref a)
 |.type n=>some (.ty n)
 |_=>none
theorem qK.abs {x:V}{u:Value}(r:qK x u):LK u=some x:=by
 cases x with
 |non=>cases r;rfl
 |bl _=>cases r;rfl
 |int _=>obtain⟨t,rfl⟩:=r;rfl
 |str _=>obtain⟨t,rfl⟩:=r;rfl
 |byt _=>obtain⟨t,rfl⟩:=r;rfl
 |flt _=>obtain⟨t,rfl⟩:=r;rfl
 |ref _=>cases r;rfl
 |ty _=>cases r;rfl
theorem qK.inj {x y:V}{u:Value}(r:qK x u)(q:qK y u):x=y:=Option.some.inj (r.abs.symm.trans q.abs)
theorem qL.inj {xs ys:List V}{us:List Value}(h:qL xs us)(k:qL ys us):xs=ys:=by
 induction h generalizing ys with
 |nil=>cases k;rfl
 |cons r t ih =>
  cases k with
  |cons r' t'=>rw[r.inj r',ih t']
section
variable {X:Cx}{pins:List (Addr × Obj)}{σ : St}{H:Hp}{s:Shared}{a:Addr}{xs ys:List V}
theorem SqL.of {K:PySem.W.Frag}(h:H a=some (.lst xs)):SqL K H a xs:=.inl (.inl h)
theorem SqT.of {K:PySem.W.Frag}(h:H a=some (.tup xs)):SqT K H a xs:=.inl (.inl h)
theorem Inv.list (I:Inv X pins σ H s)(h:SqL X.K H a xs):∃ its:List Value,qL xs its∧PlainL s.heap a its.toArray∧xs.length≤sizeLine:=by
 rcases h with h|⟨o,its,n,hk,hc,hd,hs,hz,r⟩
 ·obtain⟨z,its,n,r,e⟩:=h.ok I.hok
  exact⟨its,r,⟨_,n,e,rfl,rfl,rfl⟩,z⟩
 ·refine⟨its.toList,r,⟨o,n,I.kIn a o hk,hc,hd,by simpa using hs⟩,?_⟩
  have e:=r.length
  simp only[Array.length_toList] at e
  omega
theorem Inv.tuple (I:Inv X pins σ H s)(h:SqT X.K H a xs):∃ its:List Value,qL xs its∧IsTup s.heap a its.toArray∧xs.length≤sizeLine:=by
 rcases h with h|⟨o,its,n,hk,hc,hs,hz,r⟩
 ·obtain⟨z,its,r,p⟩:=h.ok I.hok
  exact⟨its,r,p,z⟩
 ·refine⟨its.toList,r,⟨o,I.kIn a o hk,hc,n,by simpa using hs⟩,?_⟩
  have e:=r.length
  simp only[Array.length_toList] at e
  omega
theorem Inv.list_inj (I:Inv X pins σ H s)(h:SqL X.K H a xs)(h':SqL X.K H a ys):xs=ys:=by
 obtain⟨its,r,⟨o,n,e,_,_,d⟩,_⟩:=I.list h
 obtain⟨its',r',⟨o',n',e',_,_,d'⟩,_⟩:=I.list h'
 rw[e] at e';cases e'
 rw[d] at d'
 injection d' with d1 _
 have:its=its':=by simpa using congrArg Array.toList d1
 subst this
 exact r.inj r'
theorem Inv.tuple_inj (I:Inv X pins σ H s)(h:SqT X.K H a xs)(h':SqT X.K H a ys):xs=ys:=by
 obtain⟨its,r,⟨o,e,_,n,d⟩,_⟩:=I.tuple h
 obtain⟨its',r',⟨o',e',_,n',d'⟩,_⟩:=I.tuple h'
 rw[e] at e';cases e'
 rw[d] at d'
 injection d' with d1 _
 have:its=its':=by simpa using congrArg Array.toList d1
 subst this
 exact r.inj r'
end
abbrev Cx.wish (X:Cx)(E:Value→Shared→Prop):Cx:={ X with xe:=E }
abbrev Cx.nox (X:Cx):Cx:=X.wish fun _ _=>False
theorem Cx.Ok.wish {X:Cx}(ok:X.Ok)(E:Value→Shared→Prop):(X.wish E).Ok:=
 ⟨ok.mod,ok.kind,ok.glob,ok.blt,ok.above,ok.inj,ok.has,ok.cab,ok.hd,ok.frames,ok.stk,ok.exf,ok.bs,ok.bsz,ok.noex,ok.exfs,ok.funs,ok.frf⟩
theorem Cx.Ok.unwish {X:Cx}{E:Value→Shared→Prop}(ok:(X.wish E).Ok):X.Ok:=
 ⟨ok.mod,ok.kind,ok.glob,ok.blt,ok.above,ok.inj,ok.has,ok.cab,ok.hd,ok.frames,ok.stk,ok.exf,ok.bs,ok.bsz,ok.noex,ok.exfs,ok.funs,ok.frf⟩
section
variable {X:Cx}{pins:List (Addr × Obj)}{σ : St}{H:Hp}{s:Shared}{E:Value→Shared→Prop}
theorem Inv.wish (I:Inv X pins σ H s)(E:Value→Shared→Prop):Inv (X.wish E) pins σ H s:=⟨I.ok.wish E,I.os,I.bare,I.base,I.loc,I.cell,I.free,I.freeC,I.pin,I.hok,I.len⟩
theorem Inv.unwish (I:Inv (X.wish E) pins σ H s):Inv X pins σ H s:=⟨I.ok.unwish,I.os,I.bare,I.base,I.loc,I.cell,I.free,I.freeC,I.pin,I.hok,I.len⟩
theorem SP.unwish {D:Ends}{f:Flow}{s':Shared}(h:SP (X.wish E) pins D f s'):SP X pins D f s':=by
 cases f with
 |next=>obtain⟨σ',H',I,q⟩:=h;exact⟨σ',H',I.unwish,q⟩
 |brk=>obtain⟨σ',H',I,q⟩:=h;exact⟨σ',H',I.unwish,q⟩
 |cont=>obtain⟨σ',H',I,q⟩:=h;exact⟨σ',H',I.unwish,q⟩
 |ret u=>obtain⟨v,σ',H',I,r,q⟩:=h;exact⟨v,σ',H',I.unwish,r,q⟩
theorem PE.nox {e:Expr}{t:TE}(h:PE X.nox e t):PE X e t:=fun pins s σ H Q I hw =>
 wpAny_mono (h pins s σ H Q (I.wish _) hw) (fun _ _ ⟨v,H',I',r,q⟩=>⟨v,H',I'.unwish,r,q⟩) fun _ _ z=>False.elim z
theorem PT.nox {e:Expr}{t:TT}(h:PT X.nox e t):PT X e t:=fun pins s σ H Q I hw =>
 wpAny_mono (h pins s σ H Q (I.wish _) hw) (fun _ _ ⟨H',I',q⟩=>⟨H',I'.unwish,q⟩) fun _ _ z=>False.elim z
theorem PSs.nox {st:List Stmt}{t:TS}(h:PSs X.nox st t):PSs X st t:=fun pins s σ H D I hw =>
 wpAny_mono (h pins s σ H D (I.wish _) hw) (fun _ _ q=>q.unwish) fun _ _ z=>False.elim z
end
section
variable {X:Cx}{st:Stmt}{rest:List Stmt}{t u:TS}{e:Expr}{te:TE}{pos:Pos}
def L8:TS:=fun D σ H=>D.nx σ H
def DY (t u:TS):TS:=fun D σ H=>t { D with nx:=u D } σ H
theorem KY:PSs X [] L8:=fun _ _ σ H _ I h=>wpAny_execs_nil ⟨σ,H,I,h⟩
theorem Y8 (h1:PS X st t)(h2:PSs X rest u):PSs X (st::rest) (DY t u):=by
 intro pins s σ H D I h
 refine wpAny_execs_cons (thn (h1 pins s σ H { D with nx:=u D } I h) fun f s1 q=>?_)
 cases f with
 |next =>
  obtain⟨σ',H',I',q⟩:=q
  exact h2 pins s1 σ' H' D I' q
 |ret v=>exact q
 |brk=>exact q
 |cont=>exact q
theorem KZ (h1:PS X st t):PSs X [st] t:=by
 intro pins s σ H D I h
 refine wpAny_execs_cons (thn (h1 pins s σ H D I h) fun f s1 q=>?_)
 cases f with
 |next=>exact wpAny_execs_nil q
 |ret v=>exact q
 |brk=>exact q
 |cont=>exact q
theorem Inv.quiet {pins:List (Addr × Obj)}{σ : St}{H:Hp}{s:Shared}(I:Inv X pins σ H s):interactive X.env=false:=by simp[interactive,I.ok.kind]
end
abbrev TG:=V→St→Hp→(St→Hp→Prop)→Prop
abbrev TGs:=List V→St→Hp→(St→Hp→Prop)→Prop
def PG (X:Cx)(target:Expr)(t:TG):Prop:=
 ∀ (pins:List (Addr × Obj)) (s:Shared) (σ : St) (H:Hp) (v:V) (u:Value) (Q:St→Hp→Prop),Inv X pins σ H s→qK v u→t v σ H Q →
  wpAny (model X.prog X.w) X.A (assign target X.env u) (fun _ s'=>∃ σ' H',Inv X pins σ' H' s'∧Q σ' H') X.xe s
def PGs (X:Cx)(ts:List Expr)(t:TGs):Prop:=
 ∀ (pins:List (Addr × Obj)) (s:Shared) (σ : St) (H:Hp) (vs:List V) (us:List Value) (Q:St→Hp→Prop),Inv X pins σ H s→qL vs us→t vs σ H Q →
  wpAny (model X.prog X.w) X.A (assignInOrder ((assignEach ts X.env).map (·.2)) us) (fun _ s'=>∃ σ' H',Inv X pins σ' H' s'∧Q σ' H') X.xe s
abbrev XR:=V→V→V→Hp→(Hp→Prop)→Prop
def lU (X:Cx)(t:XR):Prop:=
 ∀ (pins:List (Addr × Obj)) (s:Shared) (σ : St) (H:Hp) (o i v:V) (ov iv u:Value) (Q:Hp→Prop),Inv X pins σ H s→qK o ov→qK i iv→qK v u→t o i v H Q →
  wpAny (model X.prog X.w) X.A (setItem ov iv u) (fun _ s'=>∃ H',Inv X pins σ H' s'∧Q H') X.xe s
section
variable {X:Cx}{pos:Pos}
def N7 (i:Nat):TG:=fun v σ H Q=>Q (σ.set i (some v)) H
theorem KP {i:Nat}{x:Str}(hN:X.N.Nodup)(hi:X.N[i]? = some x)(hx:Loc X.env.scope x)(hf:X.fn x=true∨X.env.scope.names.lookup x=some .local:=by first|exact .inl rfl|exact .inr rfl|assumption):PG X (.Name x pos) (N7 i):=by
 intro pins s σ H v u Q I r h
 exact wpAny_assign_Name (yE I hN hi hx r (fun s' I'=>⟨_,H,I',h⟩) hf)
def D0:TGs:=fun vs σ H Q=>vs=[]∧Q σ H
def N6 (t:TG)(u:TGs):TGs:=fun vs σ H Q=>∃ v r,vs=v::r∧t v σ H fun σ' H'=>u r σ' H' Q
theorem KQ:PGs X [] D0:=by
 intro pins s σ H vs us Q I r h
 obtain⟨e,h⟩:=h
 subst e
 cases r
 exact assignInOrder_nil ⟨σ,H,I,h⟩
theorem Y6 {e:Expr}{es:List Expr}{t:TG}{u:TGs}(h1:PG X e t)(h2:PGs X es u)
  (hs:(assignEach (e::es) X.env).map (·.2)=assign e X.env::(assignEach es X.env).map (·.2):=by rfl):PGs X (e::es) (N6 t u):=by
 intro pins s σ H vs us Q I r h
 obtain⟨v,vr,e1,h⟩:=h
 subst e1
 cases r with
 |cons r rr =>
  rw[hs]
  refine assignInOrder_cons (thn (h1 pins s σ H _ _ _ I r h) fun _ s1 ⟨σ1,H1,I1,q1⟩=>?_)
  exact h2 pins s1 σ1 H1 _ _ Q I1 rr q1
def D1 (K:PySem.W.Frag)(n:Nat)(t:TGs):TG:=fun v σ H Q=>∃ a xs,v=.ref a∧SqT K H a xs∧xs.length=n∧t xs σ H Q
theorem FZ {es:List Expr}{k:Nat}{t:TGs}{n:Nat}(hc:X.calm=true)(h:PGs X es t)
  (hn:(assignEach es X.env).length=n:=by rfl) (hst:(assignEach es X.env).findIdx? (·.1)=none:=by rfl):PG X (.Tuple es k pos) (D1 X.K n t):=by
 intro pins s σ H v u Q I r hw
 obtain⟨a,xs,e1,hq,hl,hw⟩:=hw
 subst e1
 cases r
 obtain⟨its,rv,ht,hz⟩:=I.tuple hq
 refine assign_Tuple_tuple (I.ok.hd hc) ht (by simp[hn,← hl,rv.length]) hst fun h' hx=>?_
 have I1:Inv X pins σ H { s with heap:=h' }:=I.kept (t':=s.toks) fun b o e=>hx b o (Nat.ne_of_lt (Heap.lt_size e)) e
 exact h pins _ σ H xs _ Q I1 (by simpa using rv) hw
def x9 (to ti:TE)(t:XR):TG:=fun v σ H Q=>to σ H fun o H1=>ti σ H1 fun i H2=>t o i v H2 fun H3=>Q σ H3
def DX (i j:Nat)(ta:TA):TS:=fun D σ H=>ta σ H fun vs H1=>∃ v w,vs=[v,w]∧D.nx ((σ.set i (some v)).set j (some w)) H1
theorem M4 {i j:Nat}{x y:Str}{a b:Expr}{ta:TA}{px py pt:Pos} {kt k2 pt2} (hc:X.calm=true) (hN:X.N.Nodup) (hi:X.N[i]? = some x) (hj:X.N[j]? = some y) (hij:i≠j)
  (hx:X.env.scope.names.lookup x=some .local) (hy:X.env.scope.names.lookup y=some .local) (ha:PA X [a,b] ta)
  (hw:swappedStores [.Tuple [.Name x px,.Name y py] kt pt] (.Tuple [a,b] k2 pt2) X.env=pure (some [x,y]))
  (hs:swapsWithSole [.Tuple [.Name x px,.Name y py] kt pt] (.Tuple [a,b] k2 pt2) pos.line X.env=pure false:=by rfl) :
  PS X (.Assign [.Tuple [.Name x px,.Name y py] kt pt] (.Tuple [a,b] k2 pt2) pos) (DX i j ta):=by
 intro pins s σ H D I h
 rw[exec_Assign_arm]
 refine wpAny_bind (wpAny_standAt ?_)
 rw[hs]
 refine wpAny_bind (wpAny_pure ?_)
 rw[if_neg (by decide)]
 refine wpAny_bind (Tuple_ (thn (ha _ pins s σ H _ I h) fun us s1 ⟨vs,H1,I1,r1,q1⟩=>?_))
 obtain⟨v,w,e1,q1⟩:=q1
 subst e1
 obtain⟨u1,u2,rfl,rv,rw'⟩:∃ u1 u2,us=[u1,u2]∧qK v u1∧qK w u2:=by
  cases r1 with
  |cons p q =>
   cases q with
   |cons p' q' =>
    cases q'
    exact⟨_,_,rfl,p,p'⟩
 refine wpAny_newObj_type ?_ (by show 2≤sizeLine;decide)
 have I2:Inv X pins σ H1 { s1 with heap:=s1.heap.push { cls:=.type "tuple",data:=.seq [u1,u2].toArray } }:=I1.kept (t':=s1.toks) fun b o e=>Heap.get?_push_of_some _ e
 rw[hw]
 refine wpAny_bind (wpAny_pure ?_)
 show wpAny (model X.prog X.w) X.A (do rule "assign.swapped-stores";let items ← unpackItems (.ref s1.heap.objs.size) 2 none;assignInOrder [fun v=>bindName X.env y v,fun v=>bindName X.env x v] items.reverse;pure Flow.next) _ _ _
 refine wpAny_bind (wpAny_rule (wpAny_bind (unpackItems_tuple (items:=#[u1,u2]) (I.ok.hd hc) (IsTup.new s1.heap _) fun h' hx'=>?_)))
 have I3:=I2.kept (h':=h') (t':=s1.toks) fun b o e=>hx' b o (Nat.ne_of_lt (Heap.lt_size e)) e
 show wpAny _ _ (assignInOrder [fun v=>bindName X.env y v,fun v=>bindName X.env x v] [u2,u1] >>= fun _=>pure Flow.next) _ _ _
 refine wpAny_bind (assignInOrder_cons (wpAny_bindName (yE I3 hN hj (.inl hy) rw' (fun s2 I4=>?_) (.inr hy))))
 refine assignInOrder_cons (wpAny_bindName (yE I4 hN hi (.inl hx) rv (fun s3 I5=>assignInOrder_nil (wpAny_pure ?_)) (.inr hx)))
 rw[List.set_comm _ _ (Ne.symm hij)] at I5
 exact⟨_,H1,I5,q1⟩
end
structure It where
 go:Nat→Hp→Prop
 yld:Nat→Hp→V→Hp→Prop
 stop:Nat→Hp→Prop
def xV (X:Cx)(pins:List (Addr × Obj))(H:Hp)(b:Addr):Prop:=
 H b=none∧b≠X.env.locals∧b ∉ X.fs∧(b∈X.ex∨X.s₀.heap.objs.size≤b)∧(∀ x c,X.env.cells.lookup x=some c→c≠b)∧∀ p∈X.pn++pins,p.1≠b
theorem Inv.fpOk {X:Cx}{pins:List (Addr × Obj)}{σ : St}{H H':Hp}{s:Shared}{b:Addr}(I:Inv X pins σ H s)(hb:s.heap.objs.size≤b)(hn:H' b=none):xV X pins H' b:=by
 refine⟨hn,Nat.ne_of_gt (Nat.lt_of_lt_of_le I.lt hb),I.nofs hb,.inr (Nat.le_trans I.sz hb),fun x c e z=>?_,fun p hp z=>?_⟩
 ·obtain⟨v,q⟩:=I.cell x c e
  exact absurd (Nat.lt_of_lt_of_le q.lt (by rw[z];exact hb)) (Nat.lt_irrefl _)
 ·exact absurd (Nat.lt_of_lt_of_le (Heap.lt_size (I.pin p hp).1) (by rw[z];exact hb)) (Nat.lt_irrefl _)
structure Turn (P:Program)(w:World)(K:PySem.W.Frag)(tg:Expr)(J:It)(fp:List Addr)(it:Addr)(tn:Nat→Heap→Prop):Prop where
 mem:it∈fp
 obj:∀ i h,tn i h→∀ b∈fp,∃ o,h.get? b=some o∧∀ v,o.data≠.cell v
 keep:∀ i h h',tn i h→(∀ b∈fp,∀ o,h.get? b=some o→h'.get? b=some o)→tn i h'
 item:∀ (X:Cx),X.prog=P→X.w=w→X.K=K→X.calm=true→∀ (i:Nat) (pins:List (Addr × Obj)) (s:Shared) (σ : St) (H:Hp) (E:Value→Shared→Prop),Inv X pins σ H s→(∀ b∈fp,xV X pins H b)→tn i s.heap→J.go i H →
  wpAny (model P w) X.A (pyNext (.ref it)) (fun r s1=>∃ u,r=some u ∧
   wpAny (model P w) X.A (letOwnedTupleGo tg (.ref it) u) (fun _ s2=>∃ x H',Inv X pins σ H' s2∧qK x u∧J.yld i H x H'∧tn (i+1) s2.heap∧∀ b∈fp,H' b=none) E s1) E s
 done:∀ (X:Cx),X.prog=P→X.w=w→X.K=K→X.calm=true→∀ (i:Nat) (pins:List (Addr × Obj)) (s:Shared) (σ : St) (H:Hp) (E:Value→Shared→Prop),Inv X pins σ H s→(∀ b∈fp,xV X pins H b)→tn i s.heap→J.stop i H →
  wpAny (model P w) X.A (pyNext (.ref it)) (fun r s1=>r=none∧Inv X pins σ H s1) E s
 self:∀ (A:Around) (i:Nat) (s:Shared) (Q:Value→Shared→Prop) (E:Value→Shared→Prop),tn i s.heap→Q (.ref it) s→wpAny (model P w) A (pyIter (.ref it)) Q E s
abbrev TI:=St→Hp→(It→Hp→Prop)→Prop
inductive PIE (X:Cx)(pins:List (Addr × Obj))(σ : St)(tg:Expr)(R:It→Hp→Prop)(itv:Value)(s2:Shared):Prop
 |mk (it:Addr) (fp:List Addr) (tn:Nat→Heap→Prop) (J:It) (H':Hp) (e:itv=.ref it) (I:Inv X pins σ H' s2) (t:Turn X.prog X.w X.K tg J fp it tn) (z:tn 0 s2.heap) (f:∀ b∈fp,xV X pins H' b) (q:R J H'):PIE X pins σ tg R itv s2
def PI (X:Cx)(tg iter:Expr)(wi:TI):Prop:=
 ∀ (pins:List (Addr × Obj)) (s:Shared) (σ : St) (H:Hp) (R:It→Hp→Prop),Inv X pins σ H s→wi σ H R →
  wpAny (model X.prog X.w) X.A (eval iter X.env) (fun v s1=>wpAny (model X.prog X.w) X.A (pyIter v) (PIE X pins σ tg R) X.xe s1) X.xe s
theorem aQ {M:Model}{A:Around}{E:Value→Shared→Prop}{s:Shared}{tg:Expr}{it:Addr}{u:Value}{o:Obj}{n:String}{vs:Array Value}{Q:Unit→Shared→Prop}(ho:s.heap.get? it=some o)(hc:o.cls=.type n)(hd:o.data=.fields vs)
    (hn:["enumerate","zip","dict_itemiterator","dict_reverseitemiterator","odict_iterator","itertools.zip_longest","itertools.pairwise"].contains n=false) (hQ:Q () s):wpAny M A (letOwnedTupleGo tg (.ref it) u) Q E s:=by
  unfold letOwnedTupleGo
  cases tg <;> first
    |exact wpAny_pure hQ
    |(cases u <;> first
        |exact wpAny_pure hQ
        | (refine wpAny_bind (wpAny_load ho ?_)
           rw[hc,hd]
           show wpAny M A (if (["enumerate","zip","dict_itemiterator","dict_reverseitemiterator","odict_iterator","itertools.zip_longest","itertools.pairwise"].contains n&&vs[0]? == some (rawInt _))=true then _ else _) Q E s
           rw[if_neg (by intro h;rw[hn,Bool.false_and] at h;cases h)]
           exact wpAny_pure hQ))
def Itl (K:PySem.W.Frag)(a:Addr):It:=
 ⟨fun i H=>∃ xs x,SqL K H a xs∧xs[i]? = some x,fun i H x H'=>H'=H∧∀ xs,SqL K H a xs→xs[i]? = some x,fun i H=>∃ xs,SqL K H a xs∧xs.length≤i⟩
def Itt (K:PySem.W.Frag)(a:Addr):It:=
 ⟨fun i H=>∃ xs x,SqT K H a xs∧xs[i]? = some x,fun i H x H'=>H'=H∧∀ xs,SqT K H a xs→xs[i]? = some x,fun i H=>∃ xs,SqT K H a xs∧xs.length≤i⟩
def Itr (lo:Int)(n:Nat):It:=⟨fun i _=>i<n,fun i H x H'=>H'=H∧x=.int (lo+i),fun i _=>n≤i⟩
theorem lE {P:Program}{w:World}{K:PySem.W.Frag}{tg:Expr}(a it:Addr):Turn P w K tg (Itl K a) [it] it (fun i h=>h.IsListIter it a i) where
 mem:=by simp
 obj:=fun i h st b hb=>by
  have e:b=it:=by simpa using hb
  subst e
  obtain⟨o,e,c,d⟩:=st
  exact⟨o,e,fun v z=>by rw[d] at z;cases z⟩
 keep:=fun i h h' st k=>st.at fun o e=>k it (by simp) o e
 item:=by
  intro X hP hw hK hc i pins s σ H E I hf st hg
  subst hP hw hK
  obtain⟨xs,x,hq,hx⟩:=hg
  obtain⟨its,rv,p,hz⟩:=I.list hq
  obtain⟨u,hu,ru⟩:=rv.get hx
  obtain⟨f0,f1,f2,f3,f4,f5⟩:=hf it (by simp)
  refine wpAny_pyNext_list_item st p.isList (x:=u) (by simpa using hu) fun h' st' sb=>?_
  have I1:Inv X pins σ H { s with heap:=h' }:=I.turned (t':=s.toks) (fun b o hb e=>(sb.2 b hb).trans e) f0 f1 f3 f4 f5
  obtain⟨o,e,c,d⟩:=id st'
  exact⟨u,rfl,aQ (s:={ s with heap:=h' }) e c d (by decide) ⟨x,H,I1,ru,⟨rfl,fun ys hy=>by rw[I.list_inj hy hq];exact hx⟩,st',fun b hb=>(hf b hb).1⟩⟩
 done:=by
  intro X hP hw hK hc i pins s σ H E I hf st hg
  subst hP hw hK
  obtain⟨xs,hq,hx⟩:=hg
  obtain⟨its,rv,p,hz⟩:=I.list hq
  obtain⟨f0,f1,f2,f3,f4,f5⟩:=hf it (by simp)
  have hl:=rv.length
  exact wpAny_pyNext_list_end (I.ok.hd hc) st p.isList (by simp;omega) fun h' eb=>⟨rfl,I.turned (t':=s.toks) (fun b o hb e=>eb b o hb e) f0 f1 f3 f4 f5⟩
 self:=fun _ _ _ _ _ st h=>wpAny_pyIter_listiter st h
theorem iT {P:Program}{w:World}{K:PySem.W.Frag}{tg:Expr}(a it:Addr):Turn P w K tg (Itt K a) [it] it (fun i h=>h.IsTupleIter it a i) where
 mem:=by simp
 obj:=fun i h st b hb=>by
  have e:b=it:=by simpa using hb
  subst e
  obtain⟨o,e,c,d⟩:=st
  exact⟨o,e,fun v z=>by rw[d] at z;cases z⟩
 keep:=fun i h h' st k=>st.at fun o e=>k it (by simp) o e
 item:=by
  intro X hP hw hK hc i pins s σ H E I hf st hg
  subst hP hw hK
  obtain⟨xs,x,hq,hx⟩:=hg
  obtain⟨its,rv,p,hz⟩:=I.tuple hq
  obtain⟨u,hu,ru⟩:=rv.get hx
  obtain⟨f0,f1,f2,f3,f4,f5⟩:=hf it (by simp)
  refine wpAny_pyNext_tuple_item st (show s.heap.IsTuple a its.toArray from p) (x:=u) (by simpa using hu) fun h' st' sb=>?_
  have I1:Inv X pins σ H { s with heap:=h' }:=I.turned (t':=s.toks) (fun b o hb e=>(sb.2 b hb).trans e) f0 f1 f3 f4 f5
  obtain⟨o,e,c,d⟩:=id st'
  exact⟨u,rfl,aQ (s:={ s with heap:=h' }) e c d (by decide) ⟨x,H,I1,ru,⟨rfl,fun ys hy=>by rw[I.tuple_inj hy hq];exact hx⟩,st',fun b hb=>(hf b hb).1⟩⟩
 done:=by
  intro X hP hw hK hc i pins s σ H E I hf st hg
  subst hP hw hK
  obtain⟨xs,hq,hx⟩:=hg
  obtain⟨its,rv,p,hz⟩:=I.tuple hq
  obtain⟨f0,f1,f2,f3,f4,f5⟩:=hf it (by simp)
  have hl:=rv.length
  exact wpAny_pyNext_tuple_end (I.ok.hd hc) st (show s.heap.IsTuple a its.toArray from p) (by simp;omega) fun h' eb=>⟨rfl,I.turned (t':=s.toks) (fun b o hb e=>eb b o hb e) f0 f1 f3 f4 f5⟩
 self:=fun _ _ _ _ _ st h=>wpAny_pyIter_tupleiter st h
theorem iS {P:Program}{w:World}{K:PySem.W.Frag}{tg:Expr}(it:Addr)(lo:Int)(n:Nat):Turn P w K tg (Itr lo n) [it] it (fun i h=>IsRangeIter h it (lo+(i:Nat)*1) ((n:Int)-(i:Nat)) 1) where
 mem:=by simp
 obj:=fun i h st b hb=>by
  have e:b=it:=by simpa using hb
  subst e
  exact⟨_,st,fun v z=>by
   have z':Data.fields _=Data.cell v:=z
   cases z'⟩
 keep:=fun i h h' st k=>k it (by simp) _ st
 item:=by
  intro X hP hw hK hc i pins s σ H E I hf st hg
  subst hP hw hK
  obtain⟨f0,f1,f2,f3,f4,f5⟩:=hf it (by simp)
  have W:=Walks.range (prog:=X.prog) (w:=X.w) (I.ok.hd hc) it lo 1 n
  refine W.item i s _ _ hg st fun v h' tk hv st' kk=>?_
  obtain⟨t,rfl⟩:=hv
  have I1:Inv X pins σ H { s with heap:=h',toks:=tk }:=I.turned (fun b o hb e=>kk b o (by simpa using hb) e) f0 f1 f3 f4 f5
  refine⟨_,rfl,aQ (s:={ s with heap:=h',toks:=tk }) (n:="range_iterator") st' rfl rfl (by decide) ⟨.int (lo+i),H,I1,⟨t,?_⟩,⟨rfl,rfl⟩,st',fun b hb=>(hf b hb).1⟩⟩
  rw[Int.mul_one]
 done:=by
  intro X hP hw hK hc i pins s σ H E I hf st hg
  subst hP hw hK
  obtain⟨f0,f1,f2,f3,f4,f5⟩:=hf it (by simp)
  exact wpAny_pyNext_range_end (I.ok.hd hc) st (by have:n≤i:=hg;omega) fun h' eb=>⟨rfl,I.turned (t':=s.toks) (fun b o hb e=>eb b o hb e) f0 f1 f3 f4 f5⟩
 self:=fun _ _ _ _ _ st h=>wpAny_pyIter_rangeiter st h
end _L
namespace _L
open PySem PySem.Spec PyProof.Rows
section
variable {X:Cx}{tg:Expr}
theorem sX {pins:List (Addr × Obj)}{σ : St}{H:Hp}{s:Shared}{R:It→Hp→Prop}{E:Value→Shared→Prop}{lo hi:Int}{t u v:Tok}{tk:Nat}(I:Inv X pins σ H s)(h1 : -(2 ^ 62)≤lo)(h2:lo<2 ^ 62)(h3 : -(2 ^ 62)≤hi)(h4:hi<2 ^ 62)
  (q:R (Itr lo (hi-lo).toNat) H):wpAny (model X.prog X.w) X.A (pyIter (.ref s.heap.objs.size)) (PIE X pins σ tg R) E { s with heap:=s.heap.push { cls:=.type "range",data:=.fields #[.int lo t,.int hi u,.int 1 v] },toks:=tk }:=by
 refine wpAny_pyIter_range (IsRange.new ..) (small_one h1 h2 h3 h4) ?_
 have I1:Inv X pins σ H { s with heap:=s.heap.push { cls:=.type "range",data:=.fields #[.int lo t,.int hi u,.int 1 v] },toks:=tk }:=I.kept fun b o e=>Heap.get?_push_of_some _ e
 refine⟨(s.heap.push { cls:=.type "range",data:=.fields #[.int lo t,.int hi u,.int 1 v] }).objs.size,[(s.heap.push { cls:=.type "range",data:=.fields #[.int lo t,.int hi u,.int 1 v] }).objs.size],_,_,H,rfl,
  I1.kept (t':=tk) fun b o e=>Heap.get?_push_of_some _ e,iS _ lo (hi-lo).toNat,?_,fun b hb=>?_,q⟩
 ·have e1:lo+((0:Nat):Int)*1=lo:=by simp
  have e2:(((hi-lo).toNat:Nat):Int)-((0:Nat):Int)=Builtin.Range.rangeSize lo hi 1:=by rw[rangeSize_one];split <;> omega
  show IsRangeIter _ _ (lo+((0:Nat):Int)*1) ((((hi-lo).toNat:Nat):Int)-((0:Nat):Int)) 1
  rw[e1,e2]
  exact Heap.get?_push_size _ rfl
 ·have e:b=(s.heap.push { cls:=.type "range",data:=.fields #[.int lo t,.int hi u,.int 1 v] }).objs.size:=by simpa using hb
  subst e
  exact I1.fpOk (Nat.le_refl _) (I1.hok.fresh (Nat.le_refl _))
def DU (wi:TI)(g:TG)(tb:TS):TS:=fun D σ H=>wi σ H fun J H1=>∃ W:Nat→Nat→St→Hp→Prop,(∃ m,W 0 m σ H1)∧∀ i m σ H,W i m σ H →
 (J.stop i H∧D.nx σ H)∨(J.go i H∧∃ N:St→Hp→Prop,(∀ σ' H',N σ' H'→∃ m',m'<m∧W (i+1) m' σ' H')∧∀ x H',J.yld i H x H'→g x σ H' fun σ2 H2=>tb { D with nx:=N,ct:=N,bk:=D.nx } σ2 H2)
def vR (fp:List Addr)(h:Heap):List (Addr × Obj):=fp.filterMap fun b=>(h.get? b).map fun o=>(b,o)
theorem uV {fp:List Addr}{h:Heap}{b:Addr}{o:Obj}(hb:b∈fp)(e:h.get? b=some o):(b,o)∈vR fp h:=List.mem_filterMap.mpr ⟨b,hb,by rw[e];rfl⟩
theorem nQ {fp:List Addr}{h:Heap}{p:Addr × Obj}(hp:p∈vR fp h):p.1∈fp∧h.get? p.1=some p.2:=by
 obtain⟨b,hb,e⟩:=List.mem_filterMap.mp hp
 cases q:h.get? b with
 |none=>rw[q] at e;cases e
 |some o =>
  rw[q] at e
  have e':(b,o)=p:=Option.some.inj e
  subst e'
  exact⟨hb,q⟩
theorem Inv.pinned {pins:List (Addr × Obj)}{σ : St}{H:Hp}{s:Shared}{fp:List Addr}(I:Inv X pins σ H s)(hf:∀ b∈fp,xV X pins H b)(ho:∀ b∈fp,∃ o,s.heap.get? b=some o∧∀ v,o.data≠.cell v):Inv X (pins++vR fp s.heap) σ H s:=
 I.pins_of fun p hp=>(List.mem_append.mp hp).elim (fun z=>I.pin p (List.mem_append_right _ z)) fun z=>by
  obtain⟨hb,e⟩:=nQ z
  obtain⟨f0,f1,f2,_⟩:=hf p.1 hb
  obtain⟨o,e',d⟩:=ho p.1 hb
  rw[e] at e';cases e'
  exact⟨e,f0,f1,f2,d⟩
theorem Inv.unpinned {pins pl:List (Addr × Obj)}{σ : St}{H:Hp}{s:Shared}(I:Inv X (pins++pl) σ H s):Inv X pins σ H s:=I.pins_of fun p hp=>I.pin p (List.mem_append_right _ (List.mem_append_left _ hp))
inductive ForI (X:Cx)(pins:List (Addr × Obj))(fp:List Addr)(tn:Nat→Heap→Prop)(W:Nat→Nat→St→Hp→Prop)(n:Nat)(s':Shared):Prop
 |mk (i:Nat) (σ' : St) (H':Hp) (I:Inv X pins σ' H' s') (t:tn i s'.heap) (f:∀ b∈fp,H' b=none) (w:W i n σ' H'):ForI X pins fp tn W n s'
theorem M3 {iter:Expr}{body:List Stmt}{wi:TI}{g:TG}{tb:TS}{pos:Pos}(hp:PassesOwn (model X.prog X.w) X.A X.env X.xe)(hc:X.calm=true)(hi:PI X tg iter wi)(hg:PG X tg g)(hb:PSs X body tb)
  (hs:∀ x,foldedSetIterable iter X.env x=pure x:=by intro _;rfl):PS X (.For tg iter body [] pos) (DU wi g tb):=by
 intro pins s σ H D I h
 refine wpAny_For (thn (hi pins s σ H _ I h) fun v s1 h1=>thn h1 fun itv s2 h2=>?_) hs
 obtain⟨it,fp,tn,J,H2,e,I2,T,st2,f2,W,⟨m0,w0⟩,turn⟩:=h2
 subst e
 have stat:∀ {H':Hp},(∀ b∈fp,H' b=none)→∀ b∈fp,xV X pins H' b:=fun hn b hb=>⟨hn b hb,(f2 b hb).2⟩
 refine codeAny_forLoop_any (ForI X pins fp tn W) ?_ m0 ⟨0,σ,H2,I2,st2,fun b hb=>(f2 b hb).1,w0⟩
 rintro n s3 ⟨i,σ3,H3,I3,st3,fr3,w3⟩
 rcases turn i n σ3 H3 w3 with⟨stop,qn⟩|⟨go,N,hN,step⟩
 ·refine wpAny_passesOwn hp (thn (T.done X rfl rfl rfl hc i pins s3 σ3 H3 X.xe I3 (stat fr3) st3 stop) fun r s4 ⟨hr,I4⟩=>?_)
  subst hr
  exact wpAny_execs_nil ⟨σ3,H3,I4,qn⟩
 ·refine wpAny_passesOwn hp (thn (T.item X rfl rfl rfl hc i pins s3 σ3 H3 X.xe I3 (stat fr3) st3 go) fun r s4 ⟨u,hr,h4⟩=>?_)
  subst hr
  refine wpAny_passesOwn hp (thn h4 fun _ s5 ⟨x,H5,I5,r5,y5,st5,fr5⟩=>?_)
  have I5':=I5.pinned (stat fr5) (T.obj _ _ st5)
  refine wpAny_passesOwn hp (thn (hg _ s5 σ3 H5 x u _ I5' r5 (step x H5 y5)) fun _ s6 ⟨σ6,H6,I6,q6⟩=>?_)
  refine wpAny_passesOwn hp (thn (hb _ s6 σ6 H6 _ I6 q6) fun f s7 q7=>?_)
  have again:∀ {σ7:St} {H7:Hp},Inv X (pins++vR fp s5.heap) σ7 H7 s7→N σ7 H7→∃ m,m<n∧ForI X pins fp tn W m s7:=fun {σ7 H7} I7 n7=>by
   obtain⟨m',hm,w7⟩:=hN σ7 H7 n7
   refine⟨m',hm,i+1,σ7,H7,I7.unpinned,T.keep _ _ _ st5 fun b hb o e=>(I7.pin (b,o) (List.mem_append_right _ (List.mem_append_right _ (uV hb e)))).1,fun b hb=>?_,w7⟩
   obtain⟨o,e,d⟩:=T.obj _ _ st5 b hb
   exact(I7.pin (b,o) (List.mem_append_right _ (List.mem_append_right _ (uV hb e)))).2.1
  cases f with
  |next=>obtain⟨σ7,H7,I7,n7⟩:=q7;exact again I7 n7
  |cont=>obtain⟨σ7,H7,I7,n7⟩:=q7;exact again I7 n7
  |brk=>obtain⟨σ7,H7,I7,q7⟩:=q7;exact⟨σ7,H7,I7.unpinned,q7⟩
  |ret v=>obtain⟨x7,σ7,H7,I7,r7,q7⟩:=q7;exact⟨x7,σ7,H7,I7.unpinned,r7,q7⟩
end
end _L
namespace _L
open PySem PySem.Spec PyProof.Rows
abbrev R2:=V→V→Hp→VK→Prop
def OpR (X:Cx)(f:Value→Value→Sem Value)(r:R2):Prop:=
 ∀ (pins:List (Addr × Obj)) (s:Shared) (σ : St) (H:Hp) (x y:V) (v u:Value) (Q:VK),Inv X pins σ H s→qK x v→qK y u→r x y H Q →
  wpAny (model X.prog X.w) X.A (f v u) (EP X pins σ Q) X.xe s
def UnR (X:Cx)(f:Value→Sem Value)(r:V→Hp→VK→Prop):Prop:=
 ∀ (pins:List (Addr × Obj)) (s:Shared) (σ : St) (H:Hp) (x:V) (v:Value) (Q:VK),Inv X pins σ H s→qK x v→r x H Q →
  wpAny (model X.prog X.w) X.A (f v) (EP X pins σ Q) X.xe s
def jI (X:Cx)(f:Value)(r:List V→Hp→VK→Prop):Prop:=
 ∀ (pins:List (Addr × Obj)) (s:Shared) (σ : St) (H:Hp) (xs:List V) (us:List Value) (Q:VK),Inv X pins σ H s→qL xs us→r xs H Q →
  wpAny (model X.prog X.w) X.A (call f us) (EP X pins σ Q) X.xe s
def LJ (X:Cx)(r:V→Hp→(Bool→Hp→Prop)→Prop):Prop:=
 ∀ (pins:List (Addr × Obj)) (s:Shared) (σ : St) (H:Hp) (x:V) (v:Value) (Q:Bool→Hp→Prop),Inv X pins σ H s→qK x v→r x H Q →
  wpAny (model X.prog X.w) X.A (truthy v) (TP X pins σ Q) X.xe s
def tOp (r:R2)(ta tb:TE):TE:=fun σ H Q=>ta σ H fun x H1=>tb σ H1 fun y H2=>r x y H2 Q
def rI (C:Int→Int→Prop)(g:Int→Int→V):R2:=fun x y H Q=>∃ i j,x=.int i∧y=.int j∧C i j∧Q (g i j) H
def rI0 (g:Int→Int→V):R2:=fun x y H Q=>∃ i j,x=.int i∧y=.int j∧Q (g i j) H
def rU (g:Int→V):V→Hp→VK→Prop:=fun x H Q=>∃ i,x=.int i∧Q (g i) H
section
variable {X:Cx}{a b c:Expr}{ta tb tc:TE}{pos:Pos}
theorem LP (ha:PE X a ta)(hb:PE X b tb){pins:List (Addr × Obj)}{s:Shared}{σ : St}{H:Hp}{R:V→V→Hp→Prop}(I:Inv X pins σ H s)
  (h:ta σ H fun x H1=>tb σ H1 fun y H2=>R x y H2) {Q:Value→Shared→Prop} {f:Value→Value→Sem Value}
  (hf:∀ v u s2 x y H2,Inv X pins σ H2 s2→qK x v→qK y u→R x y H2→wpAny (model X.prog X.w) X.A (f v u) Q X.xe s2) :
  wpAny (model X.prog X.w) X.A (eval a X.env) (fun v s₁=>wpAny (model X.prog X.w) X.A (eval b X.env) (fun u s₂=>wpAny (model X.prog X.w) X.A (f v u) Q X.xe s₂) X.xe s₁) X.xe s:=by
 refine thn (ha pins s σ H _ I h) fun v s1 ⟨x,H1,I1,r1,q1⟩=>?_
 refine thn (hb pins s1 σ H1 _ I1 q1) fun u s2 ⟨y,H2,I2,r2,q2⟩=>?_
 exact hf v u s2 x y H2 I2 r1 r2 q2
theorem opI {f:Value→Value→Sem Value}{C:Int→Int→Prop}{g:Int→Int→Int}
  (rule:∀ (i j:Int) (t u:Tok) (s:Shared) (Q:Value→Shared→Prop) (E:Value→Shared→Prop),C i j→Q (.int (g i j) s.toks) { s with toks:=s.toks+1 } → wpAny (model X.prog X.w) X.A (f (.int i t) (.int j u)) Q E s) :
  OpR X f (rI C fun i j=>.int (g i j)):=by
 intro pins s σ H x y v u Q I rx ry h
 obtain⟨i,j,rfl,rfl,hc,q⟩:=h
 obtain⟨t,rfl⟩:=rx
 obtain⟨t',rfl⟩:=ry
 exact rule i j t t' s _ _ hc ⟨.int (g i j),H,I.tok _,⟨_,rfl⟩,q⟩
theorem FL {f:Value→Value→Sem Value}{g:Int→Int→Int}
  (rule:∀ (i j:Int) (t u:Tok) (s:Shared) (Q:Value→Shared→Prop) (E:Value→Shared→Prop),Q (.int (g i j) s.toks) { s with toks:=s.toks+1 } → wpAny (model X.prog X.w) X.A (f (.int i t) (.int j u)) Q E s) :
  OpR X f (rI0 fun i j=>.int (g i j)):=by
 intro pins s σ H x y v u Q I rx ry h
 obtain⟨i,j,rfl,rfl,q⟩:=h
 obtain⟨t,rfl⟩:=rx
 obtain⟨t',rfl⟩:=ry
 exact rule i j t t' s _ _ ⟨.int (g i j),H,I.tok _,⟨_,rfl⟩,q⟩
theorem Y1 {f:Value→Value→Sem Value}{g:Int→Int→Bool}
  (rule:∀ (i j:Int) (t u:Tok) (s:Shared) (Q:Value→Shared→Prop) (E:Value→Shared→Prop),Q (.bool (g i j)) s→wpAny (model X.prog X.w) X.A (f (.int i t) (.int j u)) Q E s) :
  OpR X f (rI0 fun i j=>.bl (g i j)):=by
 intro pins s σ H x y v u Q I rx ry h
 obtain⟨i,j,rfl,rfl,q⟩:=h
 obtain⟨t,rfl⟩:=rx
 obtain⟨t',rfl⟩:=ry
 exact rule i j t t' s _ _ ⟨.bl (g i j),H,I,rfl,q⟩
def LH (i j:Int):Prop:=0<j∧j<1073741824
def LI (i j:Int):Prop:=0≤j∧j≤1000000∧i.natAbs<2 ^ 64
def XN (i j:Int):Prop:=(-(2 ^ 64)<i∧i<2 ^ 64)∨(-(2 ^ 64)<j∧j<2 ^ 64)
theorem XN.ok {i j:Int}(h:XN i j):IntMulOk i j:=by
 rcases h with⟨h1,h2⟩|⟨h1,h2⟩
 ·exact .of_left (intBits_le_64 h1 h2)
 ·exact .of_right (intBits_le_64 h1 h2)
theorem FM:OpR X (binaryOp .Add) (rI0 fun i j=>.int (i+j)):=FL fun _ _ _ _ _ _ _ q=>add_int q
theorem FR:OpR X (binaryOp .Sub) (rI0 fun i j=>.int (i-j)):=FL fun _ _ _ _ _ _ _ q=>sub_int q
theorem FP:OpR X (binaryOp .Mult) (rI XN fun i j=>.int (i*j)):=opI fun _ _ _ _ _ _ _ hc q=>mul_int q hc.ok
theorem KJ:OpR X (binaryOp .FloorDiv) (rI LH fun i j=>.int (i/j)):=opI fun i j _ _ _ _ _ hc q=>by
 have h1:(0:Int)<j:=hc.1
 have h2:j<1073741824:=hc.2
 exact floordiv_int (by omega) (by rw[Int.fdiv_eq_ediv_of_nonneg i (by omega)];exact q) (.inl (PyProof.noPylong_small (by omega)))
theorem FO:OpR X (binaryOp .Mod) (rI (fun _ j=>0<j) fun i j=>.int (i % j)):=opI fun i j _ _ _ _ _ hc q=>by
 have h1:(0:Int)<j:=hc
 exact mod_int' (by omega) (by rw[Int.fmod_eq_emod_of_nonneg i (by omega)];exact q)
theorem FQ:OpR X (binaryOp .Pow) (rI LI fun i j=>.int (i ^ j.toNat)):=opI fun _ _ _ _ _ _ _ hc q=>pow_int_small hc.1 hc.2.1 hc.2.2 q
theorem unI {f:Value→Sem Value}{g:Int→Int}
  (rule:∀ (i:Int) (t:Tok) (s:Shared) (Q:Value→Shared→Prop) (E:Value→Shared→Prop),Q (.int (g i) s.toks) { s with toks:=s.toks+1 } → wpAny (model X.prog X.w) X.A (f (.int i t)) Q E s) :
  UnR X f (rU fun i=>.int (g i)):=by
 intro pins s σ H x v Q I rx h
 obtain⟨i,rfl,q⟩:=h
 obtain⟨t,rfl⟩:=rx
 exact rule i t s _ _ ⟨.int (g i),H,I.tok _,⟨_,rfl⟩,q⟩
theorem MZ:UnR X (unaryOp .USub) (rU fun i=>.int (-i)):=unI fun _ _ _ _ _ q=>neg_int q
end
section
variable {X:Cx}{a b c:Expr}{ta tb tc:TE}{pos:Pos}
theorem BK {pins:List (Addr × Obj)}{σ : St}{H:Hp}{s:Shared}{Q:VK}{k k':Bool}(I:Inv X pins σ H s)(q:Q (.bl k) H)(e:k=k'):EP X pins σ Q (.bool k') s:=by
 subst e
 exact⟨.bl k,H,I,rfl,q⟩
theorem NM:OpR X (compareOp .Lt) (rI0 fun i j=>.bl (decide (i<j))):=Y1 fun _ _ _ _ _ _ _ q=>lt_int q
theorem NL:OpR X (compareOp .LtE) (rI0 fun i j=>.bl (decide (i≤j))):=Y1 fun _ _ _ _ _ _ _ q=>le_int q
theorem NK:OpR X (compareOp .GtE) (rI0 fun i j=>.bl (decide (j≤i))):=Y1 fun _ _ _ _ _ _ _ q=>ge_int q
theorem FN:OpR X (compareOp .Is) (fun x y H Q=>y=.non∧Q (.bl (decide (x=.non))) H):=by
 intro pins s σ H x y v u Q I rx ry h
 obtain⟨rfl,q⟩:=h
 cases ry
 refine is_none_gen (BK I q ?_)
 cases x <;> first
  |(cases rx;rfl)
  |(obtain⟨t,rfl⟩:=rx;rfl)
theorem OpR.or {f:Value→Value→Sem Value}{r r':R2}(h:OpR X f r)(h':OpR X f r'):OpR X f (fun x y H Q=>r x y H Q∨r' x y H Q):=by
 intro pins s σ H x y v u Q I rx ry q
 rcases q with q|q
 ·exact h pins s σ H x y v u Q I rx ry q
 ·exact h' pins s σ H x y v u Q I rx ry q
theorem kH (b:Expr){op:CmpOp}(h:op≠.In:=by decide)(h2:op≠.NotIn:=by decide):behindInMarks op b=false:=by
 have e1:(op == CmpOp.In)=false:=by cases op <;> first|rfl|exact absurd rfl h
 have e2:(op == CmpOp.NotIn)=false:=by cases op <;> first|rfl|exact absurd rfl h2
 cases b <;> simp[behindInMarks,e1,e2]
def cZ (K:PySem.W.Frag)(x:V)(H:Hp)(k:Bool):Prop:=
 match x with
 |.non=>k=false
 |.bl b=>k=b
 |.int i=>k=(i != 0)
 |.str y=>y.length≤sizeLine∧k=((y.length:Int) != 0)
 |.byt y=>y.size≤sizeLine∧k=((y.size:Int) != 0)
 |.ref p=>(∃ xs,SqL K H p xs∧k=!xs.isEmpty)∨(∃ xs,SqT K H p xs∧k=!xs.isEmpty)∨∃ kvs,H p=some (.dK kvs)∧k=!kvs.isEmpty
 |_=>False
theorem aS {κ : Type}{kvs:List (κ × V)}{vs:List (κ × Value)}(r:KV kvs vs):(!vs.isEmpty)=!kvs.isEmpty:=by
 cases r <;> rfl
theorem fP {xs:List V}{its:List Value}(r:qL xs its):(!its.toArray.isEmpty)=!xs.isEmpty:=by
 cases r <;> simp
theorem pA:(sizeLine:Nat)<2 ^ 63:=by rw[sizeLine_eq];decide
theorem pJ:LJ X (fun x H Q=>∃ k,cZ X.K x H k∧Q k H):=by
 intro pins s σ H x v Q I rx h
 obtain⟨k,e,q⟩:=h
 have hl:=pA
 have hs:sizeLine=16777216:=sizeLine_eq
 cases x with
 |non =>
  cases rx
  have e':k=false:=e
  subst e'
  exact truthy_none ⟨H,I,q⟩
 |bl b =>
  cases rx
  have e':k=b:=e
  subst e'
  exact wpAny_truthy_bool ⟨H,I,q⟩
 |int i =>
  obtain⟨t,rfl⟩:=rx
  have e':k=(i != 0):=e
  subst e'
  exact PySem.P.truthy_int ⟨H,I,q⟩
 |str y =>
  obtain⟨t,rfl⟩:=rx
  obtain⟨hy,e'⟩:y.length≤sizeLine∧k=((y.length:Int) != 0):=e
  subst e'
  exact PySem.P.truthy_str (by omega) ⟨H,I.tok _,q⟩
 |byt y =>
  obtain⟨t,rfl⟩:=rx
  obtain⟨hy,e'⟩:y.size≤sizeLine∧k=((y.size:Int) != 0):=e
  subst e'
  exact PySem.W.truthy_bytes (by omega) ⟨H,I.tok _,q⟩
 |ref p =>
  cases rx
  have e':(∃ xs,SqL X.K H p xs∧k=!xs.isEmpty)∨(∃ xs,SqT X.K H p xs∧k=!xs.isEmpty)∨∃ kvs,H p=some (.dK kvs)∧k=!kvs.isEmpty:=e
  rcases e' with⟨xs,hx,e'⟩|⟨xs,hx,e'⟩|⟨kvs,hx,e'⟩
  ·subst e'
   obtain⟨its,r,pl,hz⟩:=I.list hx
   have hlen:=r.length
   exact wpAny_truthy_list pl.isList (by simp only[List.size_toArray];omega) ⟨H,I.tok _,by rw[fP r];exact q⟩
  ·subst e'
   obtain⟨its,r,pl,hz⟩:=I.tuple hx
   have hlen:=r.length
   exact truthy_tuple pl (by simp only[List.size_toArray];omega) ⟨H,I.tok _,by rw[fP r];exact q⟩
  ·subst e'
   obtain⟨hz,hS,vs,r,m⟩:kvs.length≤sizeLine∧(p == sysModules)=false∧∃ vs,KV kvs vs∧s.heap.DictOf (xQ X.prog X.w) p vs:=I.hok p _ hx
   have hlen:kvs.length=vs.length:=Paired.length r
   exact wpAny_truthy_dict hS m (by omega) ⟨H,I.tok _,by rw[aS r];exact q⟩
 |_=>exact(show False from e).elim
theorem i9:OpR X (binaryOp .Add) (fun x y H Q=>∃ i j,x=.str i∧y=.str j∧i.length+j.length≤sizeLine∧Q (.str (i++j)) H):=by
 intro pins s σ H x y v u Q I rx ry h
 obtain⟨i,j,rfl,rfl,hz,q⟩:=h
 obtain⟨t,rfl⟩:=rx
 obtain⟨t',rfl⟩:=ry
 exact add_str (fun t' tk=>⟨.str (i++j),H,I.tok _,⟨_,rfl⟩,q⟩) hz
theorem jV {x:V}{us:List Value}(r:qL [x] us):∃ u,us=[u]∧qK x u:=by
 cases r with
 |cons r1 r2=>cases r2;exact⟨_,rfl,r1⟩
theorem iU {x y:V}{us:List Value}(r:qL [x,y] us):∃ u w',us=[u,w']∧qK x u∧qK y w':=by
 cases r with
 |cons r1 r2 =>
  cases r2 with
  |cons r3 r4=>cases r4;exact⟨_,_,rfl,r1,r3⟩
theorem n6:jI X (.type "int") (fun xs H Q=>(∃ i,xs=[.int i]∧Q (.int i) H)∨∃ k,xs=[.bl k]∧Q (.int (if k then 1 else 0)) H):=by
 intro pins s σ H xs us Q I r h
 rcases h with⟨i,rfl,q⟩|⟨k,rfl,q⟩
 ·obtain⟨u,rfl,t,rfl⟩:=jV r
  exact call_int_int ⟨.int i,H,I,⟨_,rfl⟩,q⟩
 ·obtain⟨u,rfl,r1⟩:=jV r
  cases r1
  exact call_int_bool ⟨.int (if k then 1 else 0),H,I.tok _,⟨_,rfl⟩,q⟩
def GT (K:PySem.W.Frag)(x:V)(H:Hp)(n:Nat):Prop:=
 match x with
 |.str y=>y.length≤sizeLine∧n=y.length
 |.byt y=>y.size≤sizeLine∧n=y.size
 |.ref p=>(∃ xs,SqL K H p xs∧n=xs.length)∨∃ xs,SqT K H p xs∧n=xs.length
 |_=>False
theorem XV:jI X (.builtin "len") (fun xs H Q=>∃ x n,xs=[x]∧GT X.K x H n∧Q (.int n) H):=by
 intro pins s σ H xs us Q I r h
 obtain⟨x,n,rfl,e,q⟩:=h
 obtain⟨u,rfl,rx⟩:=jV r
 have hl:=pA
 have hs:sizeLine=16777216:=sizeLine_eq
 cases x with
 |str y =>
  obtain⟨t,rfl⟩:=rx
  obtain⟨hy,e'⟩:y.length≤sizeLine∧n=y.length:=e
  subst e'
  exact len_str (by omega) ⟨.int _,H,I.tok _,⟨_,rfl⟩,q⟩
 |byt y =>
  obtain⟨t,rfl⟩:=rx
  obtain⟨hy,e'⟩:y.size≤sizeLine∧n=y.size:=e
  subst e'
  exact PySem.W.len_bytes (by omega) ⟨.int _,H,I.tok _,⟨_,rfl⟩,q⟩
 |ref p =>
  cases rx
  have e':(∃ xs,SqL X.K H p xs∧n=xs.length)∨∃ xs,SqT X.K H p xs∧n=xs.length:=e
  rcases e' with⟨xs,hx,e'⟩|⟨xs,hx,e'⟩
  ·subst e'
   obtain⟨its,r',pl,hz⟩:=I.list hx
   have hlen:=r'.length
   exact Calls.call_len_list pl.isList (by simp only[List.size_toArray];omega) ⟨.int xs.length,H,I.tok _,⟨_,by simp only[List.size_toArray];rw[hlen]⟩,q⟩
  ·subst e'
   obtain⟨its,r',pl,hz⟩:=I.tuple hx
   have hlen:=r'.length
   exact len_tuple pl (by simp only[List.size_toArray];omega) ⟨.int xs.length,H,I.tok _,⟨_,by simp only[List.size_toArray];rw[hlen]⟩,q⟩
 |_=>exact(show False from e).elim
end
end _L
namespace _L
open PySem PySem.Spec PyProof.Rows
structure ObjM (h:Heap)(x dx C:Addr)(mA:Str→Option Value):Prop where
 obj:h.get? x=some (PySem.W.instObj C dx)
 ns:h.Ns1 dx mA
 ne:dx≠x
set_option tactic.hygienic true in
theorem Q7 {h:Heap}{dx:Addr}{mA:Str→Option Value}(n:h.Ns1 dx mA):∃ od,h.get? dx=some od∧∀ name,PySem.W.lookIn name od=some (mA name):=by
 obtain⟨o,es,ep,ho,hd,hk,_,hm⟩:=n
 refine⟨o,ho,fun name=>?_⟩
 have e:=hm name
 unfold nsFind findBy at e
 rw[← Array.find?_toList] at e
 unfold PySem.W.lookIn
 rw[hd]
 dsimp only
 split
 ·rename_i y q
  rw[q] at e
  exact congrArg some e
 ·rename_i q
  rw[q] at e
  have a:es.toList.any (·.refKey)=false:=by
   rw[List.any_eq_false]
   intro y hy
   obtain⟨z,t,hkey⟩:=hk y (Array.mem_toList_iff.mp hy)
   simp[DictEntry.refKey,hkey]
  have a':¬ es.toList.any (·.refKey)=true:=by rw[a];exact Bool.false_ne_true
  rw[if_neg a']
  exact congrArg some e
theorem ObjM.look {h:Heap}{x dx C:Addr}{mA:Str→Option Value}(I:ObjM h x dx C mA):∃ od,PySem.W.InstAt h x (PySem.W.instObj C dx) C (some od)∧∀ name,PySem.W.lookIn name od=some (mA name):=
 let ⟨od,ho,hl⟩:=Q7 I.ns
 ⟨od,⟨I.obj,rfl,rfl,ho⟩,hl⟩
section
variable {P:Program}{w:World}{H H':Hp}{h h':Heap}{a C dx:Addr}{fs fs':List (Str × V)}
theorem JO (hok:HOk P w H h)(e:H a=some (.ins C dx fs)):∃ mA,ObjM h a dx C mA∧(∀ f,gQ (fs.lookup f) (mA f))∧PySem.Within mA (fs.map (·.1))∧fs.length≤1000∧H dx=some (.own a):=by
 obtain⟨d,z,ne,ob,mA,n,r,q⟩:=(show zO P w H h a (.ins C dx fs) from hok a _ e)
 exact⟨mA,⟨ob,n,ne⟩,r,q,z,d⟩
end
structure Cls (K:PySem.W.Frag)(C:Addr):Prop where
 pg:PySem.W.plainGet K C Str.empty=true
 hd:PySem.W.hasDictIn K C=true
 po:PySem.W.plainOver K C=true
 sa:PySem.W.findIn K (.ref C) "__setattr__" = some (some (.builtin "object.__setattr__"))
theorem Cls.get {K:PySem.W.Frag}{C:Addr}(c:Cls K C)(f:Str):PySem.W.plainGet K C f=true:=c.pg
section
variable {X:Cx}{pins:List (Addr × Obj)}{σ : St}{H:Hp}{s:Shared}{A:Around}{E:Value→Shared→Prop}{Q:Value→Shared→Prop}{c:Value}{b:Bool}
inductive TyOf (K:PySem.W.Frag)(H:Hp):V→Value→Prop where
 |non:TyOf K H .non (.type "NoneType")
 |bl (x:Bool):TyOf K H (.bl x) (.type "bool")
 |int (i:Int):TyOf K H (.int i) (.type "int")
 |str (x:Str):TyOf K H (.str x) (.type "str")
 |flt (x:UInt64):TyOf K H (.flt x) (.type "float")
 |lst {a:Addr} {xs:List V} (e:H a=some (.lst xs)):TyOf K H (.ref a) (.type "list")
 |frz {a:Addr} {o:Obj} {xs:List V} (e:H a=some (.frz o (.lst xs))):TyOf K H (.ref a) (.type "list")
 |tup {a:Addr} {xs:List V} (e:H a=some (.tup xs)):TyOf K H (.ref a) (.type "tuple")
 |dK {a:Addr} {kvs:List (Key × V)} (e:H a=some (.dK kvs)):TyOf K H (.ref a) (.type "dict")
 |dT {a:Addr} {kvs:List (List Key × V)} (e:H a=some (.dT kvs)):TyOf K H (.ref a) (.type "dict")
 |ins {a C dx:Addr} {fs:List (Str × V)} (e:H a=some (.ins C dx fs)) (cl:Cls K C) (ha:PySem.W.findIn K (.ref C) "__class__" = some (some (.builtin "object.__class__")))
   (hn:PySem.W.specialIn K (.builtin "object.__class__") "__get__" = some (some (.builtin "getset_descriptor.__get__"))) (htk:PySem.W.takesIn K (.builtin "object.__class__")=some true)
   (hm:PySem.W.mroIn K C (.type "object")=some true):TyOf K H (.ref a) (.ref C)
theorem oZ {x:V}{u t:Value}(I:Inv X pins σ H s)(rx:qK x u)(ty:TyOf X.K H x t)(e:PySem.W.kitOne X.K t c=some b)(h:∀ tk,Q (.bool b) { s with toks:=tk }) :
  wpAny (model X.prog X.w) A (call (.builtin "isinstance") [u,c]) Q E s:=by
 cases ty with
 |non=>cases (show u=Value.none from rx);exact PySem.W.kia_one PySem.W.kitx_none I.kIn True.intro e (fun z=>nomatch z) h
 |bl y=>cases (show u=Value.bool y from rx);exact PySem.W.kia_one PySem.W.kitx_bool I.kIn True.intro e (fun z=>nomatch z) h
 |int i=>obtain⟨t,q⟩:=(show ∃ t,u=Value.int i t from rx);cases q;exact PySem.W.kia_one PySem.W.kitx_int I.kIn True.intro e (fun z=>nomatch z) h
 |str y=>obtain⟨t,q⟩:=(show ∃ t,u=Value.str y t from rx);cases q;exact PySem.W.kia_one PySem.W.kitx_str I.kIn True.intro e (fun z=>nomatch z) h
 |flt y=>obtain⟨t,q⟩:=(show ∃ t,u=Value.float y t from rx);cases q;exact PySem.W.kia_one PySem.W.kitx_float I.kIn True.intro e (fun z=>nomatch z) h
 |@lst a xs ea =>
  cases (show u=Value.ref a from rx)
  obtain⟨_,_,n,_,h1⟩:=(show zO X.prog X.w H s.heap a (.lst xs) from I.hok a _ ea)
  exact PySem.W.kia_one PySem.W.kitx_list I.kIn ⟨_,h1,rfl⟩ e (fun z=>nomatch z) h
 |@frz a ob xs ea =>
  cases (show u=Value.ref a from rx)
  obtain⟨_,_,_,n,_,h1⟩:=(show zO X.prog X.w H s.heap a (.frz ob (.lst xs)) from I.hok a _ ea)
  exact PySem.W.kia_one PySem.W.kitx_list I.kIn ⟨_,h1,rfl⟩ e (fun z=>nomatch z) h
 |@tup a xs ea =>
  cases (show u=Value.ref a from rx)
  obtain⟨_,_,_,p⟩:=(show zO X.prog X.w H s.heap a (.tup xs) from I.hok a _ ea)
  obtain⟨o,h1,h2,_⟩:=p
  exact PySem.W.kia_one PySem.W.kitx_tuple I.kIn ⟨o,h1,h2⟩ e (fun z=>nomatch z) h
 |@dK a kvs ea =>
  cases (show u=Value.ref a from rx)
  obtain⟨_,_,vs,_,p⟩:=(show zO X.prog X.w H s.heap a (.dK kvs) from I.hok a _ ea)
  obtain⟨o,es,ep,h1,h2,_⟩:=p
  exact PySem.W.kia_one PySem.W.kitx_dict I.kIn ⟨o,h1,h2.1⟩ e (fun z=>nomatch z) h
 |@dT a kvs ea =>
  cases (show u=Value.ref a from rx)
  obtain⟨_,_,xs,_,o,es,ep,h1,h2,_⟩:=(show zO X.prog X.w H s.heap a (.dT kvs) from I.hok a _ ea)
  exact PySem.W.kia_one PySem.W.kitx_dict I.kIn ⟨o,h1,h2.1⟩ e (fun z=>nomatch z) h
 |@ins a C dx fs ea cl ha hn htk hm =>
  cases (show u=Value.ref a from rx)
  obtain⟨mA,O,_⟩:=JO I.hok ea
  obtain⟨od,J,_⟩:=O.look
  exact PySem.W.kia_one (PySem.W.kitx_own (cl.get _) cl.hd ha hn htk hm) I.kIn J e (fun z=>nomatch z) h
end
end _L
namespace _L
open PySem PySem.Spec PyProof.Rows
structure Room (k:Nat)(A:Around):Prop where
 hd:A.handled=none
 dp:A.depth+3*k+5<recursionLimit
 un:A.units+16*k+200<cLine
 gd:A.guards=some []
theorem Room.deeper {k:Nat}{A:Around}(r:Room (k+1) A)(env:Env):Room k (A.deeper env):=
 ⟨r.hd,by have:=r.dp;show A.depth+1+3*k+5<_;omega,by have:=r.un;show A.units+3+16*k+200<_;omega,r.gd⟩
theorem Room.depth {k:Nat}{A:Around}(r:Room k A):A.depth<recursionLimit:=by have:=r.dp;omega
theorem Room.units {k:Nat}{A:Around}(r:Room k A):A.units+64<cLine:=by have:=r.un;omega
def DW:TA:=fun _ H Q=>Q [] H
section
variable {X:Cx}{e:Expr}{es:List Expr}{te:TE}{t:TA}{pos:Pos}
theorem FS:PA X [] DW:=fun _ _ _ _ H Q I h=>Calls.spliced_nil ⟨[],H,I,.nil,h⟩
def DZ (t:TA):TE:=fun σ H Q=>t σ H fun xs H1=>xs.length≤sizeLine∧∀ p,H1 p=none→Q (.ref p) (upd H1 p (.tup xs))
def DV (t:TA):TE:=fun σ H Q=>t σ H fun xs H1=>xs.length≤sizeLine∧∀ p,H1 p=none→Q (.ref p) (upd H1 p (.lst xs))
theorem FX {x1} (h:PA X es t):PE X (.Tuple es x1 pos) (DZ t):=by
 intro pins s σ H Q I hq
 refine wpAny_Tuple_spliced (thn (h pos pins s σ H _ I hq) fun us s1 ⟨xs,H1,I1,r,z,q⟩=>⟨by rw[← r.length];exact z,?_⟩)
 have hf:H1 s1.heap.objs.size=none:=I1.hok.fresh (Nat.le_refl _)
 refine⟨.ref s1.heap.objs.size,upd H1 s1.heap.objs.size (.tup xs),I1.laid (t':=s1.toks) (fun b u e=>Heap.get?_push_of_some _ e) (Nat.le_refl _) ?_,rfl,q _ hf⟩
 exact⟨z,us,r,⟨_,Heap.get?_push_size _ rfl,rfl,_,rfl⟩⟩
theorem QY (h:PA X es t):PE X (.List es pos) (DV t):=by
 intro pins s σ H Q I hq
 refine wpAny_List_spliced (thn (h pos pins s σ H _ I hq) fun us s1 ⟨xs,H1,I1,r,z,q⟩=>⟨by rw[← r.length];exact z,?_⟩)
 have hf:H1 s1.heap.objs.size=none:=I1.hok.fresh (Nat.le_refl _)
 refine⟨.ref s1.heap.objs.size,upd H1 s1.heap.objs.size (.lst xs),I1.laid (t':=s1.toks) (fun b u e=>Heap.get?_push_of_some _ e) (Nat.le_refl _) ?_,rfl,q _ hf⟩
 exact⟨z,us,0,r,Heap.get?_push_size _ rfl⟩
end
abbrev Sp:=List V→Hp→VK→XK→Prop
abbrev CXT:=List Env→Hp→Shared→XK→Value→Shared→Prop
structure Env0 (P:Program)(w:World)(K:PySem.W.Frag)(mg:Str→Option Value)(base:Heap)(A:Around)(outer:List Env)(s:Shared)(H:Hp):Prop where
 frames:A.frames=some outer
 mod:Mod K mg base
 bs:∀ b o,base.get? b=some o→s.heap.get? b=some o∧H b=none
 bsz:base.objs.size≤s.heap.objs.size
 funs:s.heap.FunFrames base outer
 frf:∀ b∈frs outer,H b=none
 hok:HOk P w H s.heap
 bare:AllBare s.gens
def CE (outer:List Env)(P:Program)(w:World)(H:Hp)(s:Shared)(Q:VK)(u:Value)(s':Shared):Prop:=
 ∃ v H',s'.os=s.os∧AllBare s'.gens∧Un (frs outer) [] H H' s.heap s'.heap∧HOk P w H' s'.heap∧qK v u∧Q v H'
def CR (CX:CXT)(outer:List Env)(P:Program)(w:World)(H:Hp)(s:Shared)(Q:VK)(E:XK)(r:Result)(s':Shared):Prop:=
 match r with
 |.ok (.ret u)=>CE outer P w H s Q u s'
 |.ok _=>False
 |.error e=>CX outer H s E e s'
structure FnOk (P:Program)(w:World)(K:PySem.W.Frag)(mg:Str→Option Value)(base:Heap)(CX:CXT)(k:Nat)(f:Addr)(fd:FuncData)(ps:List Str)(sp:Sp):Prop where
 len:∀ vs H Q E,sp vs H Q E→vs.length=ps.length
 run:∀ (A:Around) (outer:List Env) (s:Shared) (H:Hp) (args:Args) (us:List Value) (vs:List V) (Q:VK) (E:XK),Room k A→Env0 P w K mg base A outer s H→BindsTo s fd args (ps.zip us)→qL vs us→sp vs H Q E →
  codeAny (model P w) A (.call (.ref f) args) (CR CX outer P w H s Q E) s
section
variable {X:Cx}{pins:List (Addr × Obj)}{σ : St}{H:Hp}{s s':Shared}
theorem Inv.env0 (I:Inv X pins σ H s):Env0 X.prog X.w X.K X.mg X.base X.A X.stack s H:=
 ⟨I.ok.frames,I.ok.mod,I.bs,Nat.le_trans I.ok.bsz I.sz,I.stack,I.stkFree,I.hok,I.bare⟩
theorem Inv.after {Q:VK}{u:Value}(I:Inv X pins σ H s)(h:CE X.stack X.prog X.w H s Q u s'):EP X pins σ Q u s':=by
 obtain⟨v,H',os,bare,un,hok,r,q⟩:=h
 obtain⟨hh,g,d,t,os'⟩:=s'
 obtain rfl:os'=s.os:=os
 exact⟨v,H',I.call (h':=hh) (g':=g) (d':=d) (t':=t) (ch:=[]) un hok bare (fun b z=>absurd z (by simp)),r,q⟩
end
def uH (K:PySem.W.Frag)(fd:FuncData)(ps:List Str)(ds:List Value):Prop:=
 ∀ (s:Shared) (us:List Value),K.In s.heap→(us++ds).length=ps.length→BindsTo s fd ⟨us,[]⟩ (ps.zip (us++ds))
theorem uH.all {K:PySem.W.Frag}{fd:FuncData}{ps:List Str}(h:∀ us:List Value,us.length=ps.length→bindArgs fd ⟨us,[]⟩=pure (ps.zip us)):uH K fd ps []:=fun s us _ hl=>by
 rw[List.append_nil] at hl ⊢
 exact .of_eq (h us hl)
structure FnScope (N P:List Str)(sc:Scope):Prop where
 kind:sc.kind=.function
 co:sc.isCoroutine=false
 gen:sc.isGenerator=false
 nd:N.Nodup
 pre:N.take P.length=P
 par:∀ x∈P,sc.names.lookup x=some .local ∨ sc.names.lookup x=some .cell
 nofree:∀ y∈sc.names,y.2≠.free
theorem tY {kindOf:Str→Option NameKind}{x:Str}:∀ {binds:List (Str × Value)} {m:Str→Option Value},(∀ v,(x,v) ∉ binds)→bindL kindOf binds m x=m x
 |[],_,_=>rfl
 |(n,v)::r,m,h=>by
  unfold bindL
  rw[tY fun w hw=>h w (List.mem_cons_of_mem _ hw)]
  split
  ·have:x≠n:=by rintro rfl;exact h v List.mem_cons_self
   simp[this]
  ·rfl
theorem tW {kindOf:Str→Option NameKind}{x:Str}:∀ {binds:List (Str × Value)} {m:Str→Option Value},(∀ v,(x,v) ∉ binds)→bindC kindOf binds m x=m x
 |[],_,_=>rfl
 |(n,v)::r,m,h=>by
  unfold bindC
  rw[tW fun w hw=>h w (List.mem_cons_of_mem _ hw)]
  split
  ·rfl
  ·have:x≠n:=by rintro rfl;exact h v List.mem_cons_self
   simp[this]
theorem tX {kindOf:Str→Option NameKind}{x:Str}{v:Value}:∀ {P:List Str} {vs:List Value} {i:Nat} {m:Str→Option Value},P.Nodup→P[i]? = some x→vs[i]? = some v→kindOf x=some .local →
  bindL kindOf (P.zip vs) m x=some v
 |[],_,_,_,_,h,_,_=>by simp at h
 |_::_,[],_,_,_,_,h,_=>by simp at h
 |p::P,w::vs,0,m,nd,h1,h2,hk=>by
  simp at h1 h2;subst h1;subst h2
  show bindL kindOf ((p,w)::P.zip vs) m p=_
  unfold bindL
  rw[tY fun v hv=>(List.nodup_cons.mp nd).1 (List.of_mem_zip hv).1,if_pos hk]
  simp
 |p::P,w::vs,i+1,m,nd,h1,h2,hk=>by
  show bindL kindOf ((p,w)::P.zip vs) m x=_
  unfold bindL
  exact tX (i:=i) (List.nodup_cons.mp nd).2 (by simpa using h1) (by simpa using h2) hk
theorem tV {kindOf:Str→Option NameKind}{x:Str}{v:Value}:∀ {P:List Str} {vs:List Value} {i:Nat} {m:Str→Option Value},P.Nodup→P[i]? = some x→vs[i]? = some v→kindOf x≠some .local →
  bindC kindOf (P.zip vs) m x=some v
 |[],_,_,_,_,h,_,_=>by simp at h
 |_::_,[],_,_,_,_,h,_=>by simp at h
 |p::P,w::vs,0,m,nd,h1,h2,hk=>by
  simp at h1 h2;subst h1;subst h2
  show bindC kindOf ((p,w)::P.zip vs) m p=_
  unfold bindC
  rw[tW fun v hv=>(List.nodup_cons.mp nd).1 (List.of_mem_zip hv).1,if_neg hk]
  simp
 |p::P,w::vs,i+1,m,nd,h1,h2,hk=>by
  show bindC kindOf ((p,w)::P.zip vs) m x=_
  unfold bindC
  exact tV (i:=i) (List.nodup_cons.mp nd).2 (by simpa using h1) (by simpa using h2) hk
def wU (N:List Str)(vs:List V):St:=vs.map some++List.replicate (N.length-vs.length) none
def mQ (CX:CXT)(P:Program)(w:World)(K:PySem.W.Frag)(mg:Str→Option Value)(base:Heap)(N:List Str)(qual:Str)(scope:Scope)(f:Addr)(cd:Value)(A:Around)(outer:List Env)(s:Shared)(H:Hp)(E:XK):Cx where
 prog:=P
 w:=w
 K:=K
 mg:=mg
 base:=base
 A:=A.deeper (envOfC qual scope s.heap.objs.size f cd)
 N:=N
 s₀:=s
 H₀:=H
 env:=envOfC qual scope s.heap.objs.size f cd
 outer:=outer
 stack:=envOfC qual scope s.heap.objs.size f cd::outer
 ex:=[]
 calm:=true
 fn:=fun _=>true
 pn:=[]
 xe:=fun e s'=>wpAny (model P w) (A.deeper (envOfC qual scope s.heap.objs.size f cd)) (leaving (envOfC qual scope s.heap.objs.size f cd) e) (fun _ s''=>CX outer H s E e s'') (fun e' s''=>CX outer H s E e' s'') s'
theorem d7 {sc:Scope}{n:Nat}{x:Str}(h:sc.names.lookup x=some .cell):∃ c,(cellsFrom n sc.names []).lookup x=some c:=by
 have q:=PySem.W.cellsFrom_some sc.names n [] (.inl h)
 exact Option.isSome_iff_exists.mp q
theorem nH {CX:CXT}{P:Program}{w:World}{K:PySem.W.Frag}{mg:Str→Option Value}{base:Heap}{N ps:List Str}{qual:Str}{scope:Scope}{f:Addr}{cd:Value}{A:Around}{outer:List Env}{s s1:Shared}{H:Hp}{E:XK}{us:List Value}{vs:List V}
  (S:FnScope N ps scope) (hd:A.handled=none) (e0:Env0 P w K mg base A outer s H) (hl:vs.length=ps.length) (r:qL vs us)
  (x:InCallC s s.heap.objs.size (bindL (envOfC qual scope s.heap.objs.size f cd).kindOf (ps.zip us) fun _=>none) (cellsFrom (s.heap.objs.size+1) scope.names []) (bindC (envOfC qual scope s.heap.objs.size f cd).kindOf (ps.zip us) fun _=>none) s1) :
  Inv (mQ CX P w K mg base N qual scope f cd A outer s H E) [] (wU N vs) H s1:=by
 have hpl:ps.length≤N.length:=by have:=congrArg List.length S.pre;rw[List.length_take] at this;omega
 obtain⟨h1,tk,rfl,hk⟩:=x.done
 have noA:∀ b:Addr,b ∉ (mQ CX P w K mg base N qual scope f cd A outer s H E).ex:=fun b z=>absurd (show b∈([]:List Addr) from z) (by simp)
 refine⟨⟨e0.mod,S.kind,rfl,rfl,Nat.le_refl _,fun y z c h1 h2=>?_,fun y hy=>?_,fun y c _ h=>?_,fun _=>hd,Around.frames_deeper e0.frames,.inr ⟨rfl,rfl⟩,fun b z=>absurd z (noA b),e0.bs,e0.bsz,fun b _ _=>noA b,fun b z=>absurd z (noA b),e0.funs,e0.frf⟩,
  rfl,e0.bare,Un.kept hk,⟨_,x.toInCall.ns,fun i y v h1 h2 h3=>?_⟩,fun y c h=>⟨_,x.cell y c h⟩,e0.hok.fresh (Nat.le_refl _),fun y c h=>?_,fun p hp=>absurd (show p∈([]:List (Addr × Obj)) from hp) (by simp),e0.hok.kept hk,?_⟩
 ·exact name_of_addr x.apart (PySem.mem_of_lookup h1) (PySem.mem_of_lookup h2)
 ·have hy:scope.names.lookup y=some .cell∨scope.names.lookup y=some .free:=hy
  rcases hy with hy|hy
  ·exact d7 hy
  ·exact absurd rfl (S.nofree _ (PySem.mem_of_lookup hy))
 ·exact Nat.le_of_lt (x.above y c (PySem.mem_of_lookup h))
 ·have hi:i<vs.length:=by
   unfold wU at h2
   by_cases hi:i<vs.length
   ·exact hi
   ·rw[List.getElem?_append_right (by simpa using hi)] at h2
    rw[List.getElem?_replicate] at h2
    split at h2 <;> cases h2
  have ha:vs[i]? = some v:=by
   unfold wU at h2
   rw[List.getElem?_append_left (by simpa using hi),List.getElem?_map] at h2
   cases e:vs[i]? with
   |none=>rw[e] at h2;cases h2
   |some a=>rw[e] at h2;cases h2;rfl
  obtain⟨u,hu,rv⟩:=r.get ha
  have hp:ps[i]? = some y:=by
   rw[← S.pre,List.getElem?_take_of_lt (by omega)];exact h1
  have ndP:ps.Nodup:=by rw[← S.pre];exact S.nd.sublist (List.take_sublist _ _)
  refine⟨u,rv,?_⟩
  rcases S.par y (List.mem_of_getElem? hp) with k|k
  ·exact .inl ⟨k,tX ndP hp hu k⟩
  ·obtain⟨c,e⟩:=d7 (n:=s.heap.objs.size+1) k
   refine .inr ⟨.inl k,c,e,?_⟩
   have q:=x.cell y c e
   rw[tV ndP hp hu (by show scope.names.lookup y≠_;rw[k];decide)] at q
   exact q
 ·exact e0.hok.fresh (Nat.le_of_lt (x.above y c (PySem.mem_of_lookup h)))
 ·unfold wU
  show _=N.length
  rw[List.length_append,List.length_map,List.length_replicate]
  omega
theorem N5 {CX:CXT}{P:Program}{w:World}{K:PySem.W.Frag}{mg:Str→Option Value}{base:Heap}{k:Nat}{f:Addr}{name qual:Str}{params:Arguments}{body:List Stmt}{scope:Scope}{dV kV doc pm cdv ct oc:Value}{an od:Option Addr}
  {osl:Array (Option Value)} {N ps:List Str} {sp:Sp} (lk:K.lookup f=some ⟨oc,od,.func (PySem.W.fnOf name qual params body scope dV kV doc pm an cdv ct),osl⟩) (hcd:PySem.W.codeIn K cdv qual=true) (S:FnScope N ps scope)
  (len:∀ vs H Q E,sp vs H Q E→vs.length=ps.length)
  (hbody:∀ (A:Around) (outer:List Env) (s:Shared) (H:Hp) (vs:List V) (Q:VK) (E:XK),Room k (A.deeper (envOfC qual scope s.heap.objs.size f cdv))→sp vs H Q E →
   ∃ t,PSs (mQ CX P w K mg base N qual scope f cdv A outer s H E) body t∧t { nx:=fun _ H'=>Q .non H',rt:=Q } (wU N vs) H) :
  FnOk P w K mg base CX (k+1) f (PySem.W.fnOf name qual params body scope dV kV doc pm an cdv ct) ps sp:=by
 refine⟨len,fun A outer s H args us vs Q E hr e0 hb r hsp=>?_⟩
 have hl:=len _ _ _ _ hsp
 have KX:K.In s.heap:=e0.mod.kin.keeps fun b o e=>(e0.bs b o e).1
 have lim:s.heap.NoLimit:=e0.mod.nolimit.keeps fun b o e=>(e0.bs b o e).1
 have hkind:∀ y∈ps.zip us,scope.names.lookup y.1=some .local ∨ (scope.names.lookup y.1=some .cell∧((cellsFrom (s.heap.objs.size+1) scope.names []).lookup y.1).isSome=true):=fun ⟨n,v⟩ hy=>by
  rcases S.par n (List.of_mem_zip hy).1 with q|q
  ·exact .inl q
  ·exact .inr ⟨q,PySem.W.cellsFrom_some _ _ _ (.inl q)⟩
 refine codeAny_call_function hr.depth (KX _ _ lk) rfl S.co S.gen rfl (PySem.W.codeRec_of KX hcd) (hb _ _ _ _ ?_)
 refine wpAny_newFunctionEnv_cells S.kind hkind fun env he s1 x=>?_
 subst he
 refine⟨lim.keeps x.toInCall.keep,codeAny_func ?_⟩
 obtain⟨t,ht,hq⟩:=hbody A outer s H vs Q E (hr.deeper _) hsp
 have I:Inv (mQ CX P w K mg base N qual scope f cdv A outer s H E) [] (wU N vs) H s1:=nH S hr.hd e0 hl r x
 refine wpAny_mono (ht [] s1 (wU N vs) H _ I hq) (fun fl s' hs=>?_) fun e s' hs=>hs
 have fin:∀ {σ' : St} {H':Hp} {v:V} {u:Value},Inv (mQ CX P w K mg base N qual scope f cdv A outer s H E) [] σ' H' s'→qK v u→Q v H'→CE outer P w H s Q u s':=
  fun {σ' H' v u} J rv q=>⟨v,H',J.os,J.bare,J.base,J.hok,rv,q⟩
 cases fl with
 |ret u =>
  obtain⟨v,σ',H',J,rv,q⟩:=hs
  exact fin J rv q
 |next =>
  obtain⟨σ',H',J,q⟩:=hs
  exact fin (v:=V.non) (u:=Value.none) J rfl q
 |brk =>
  obtain⟨_,_,_,q⟩:=hs
  exact False.elim q
 |cont =>
  obtain⟨_,_,_,q⟩:=hs
  exact False.elim q
end _L
namespace _H
open PySem PyProof.Rows
def lexLt:List Int→List Int→Bool
 |[],[]=>false
 |[],_::_=>true
 |_::_,[]=>false
 |x::xs,y::ys=>if x=y then lexLt xs ys else decide (x<y)
theorem lexLt_cons (x y:Int)(xs ys:List Int):lexLt (x::xs) (y::ys)=if x=y then lexLt xs ys else decide (x<y):=rfl
theorem lexLt_nil_nil:lexLt [] []=false:=rfl
theorem tE (y:Int)(ys:List Int):lexLt [] (y::ys)=true:=rfl
theorem tB (x:Int)(xs:List Int):lexLt (x::xs) [] = false:=rfl
theorem WJ (A:Around)(s:Shared)(a:Int)(t:Tok)(c:Int)(u:Tok):∃ e,SeqAt.EqAt A s (.int a t) (.int c u) e∧(e=true↔a=c):=
 ⟨(a == c),SeqAt.EqAt.int_int a t c u,by simp⟩
theorem YL (A:Around)(s:Shared)(a:Int)(t:Tok)(c:Int)(u:Tok)(prog:Program)(w:World)(E:Value→Shared→Prop)(Q:Value→Shared→Prop)(h:Q (.bool (decide (a<c))) s) :
  wpAny (model prog w) A (richCompare .Lt (.int a t) (.int c u)) Q E s:=
 (PyProof.Rows.lt_int h:wpAny (model prog w) A (compareOp .Lt (.int a t) (.int c u)) Q E s)
section
open PySem.SeqAt
open PySem.AutoSeq1 (wpAny_loadPart')
open PySem.MeetsSeq PySem.MeetsSeq2 PySem.MeetsSeq3
theorem lI (l b:Addr)(items items2:Array Value)(n n2:Nat)(dd dd2:Option Addr)(sl sl2:Array (Option Value))(ns ms:List Int)(hi:IntsAre items.toList ns)(hj:IntsAre items2.toList ms) :
  Meets (Builtin.«tuple.__lt__» ⟨[.ref l,.ref b],[]⟩)
   (fun _ R s=>s.heap.get? l=some { cls:=.type "tuple",dict:=dd,data:=.seq items n,slots:=sl } ∧ s.heap.get? b=some { cls:=.type "tuple",dict:=dd2,data:=.seq items2 n2,slots:=sl2 } ∧
    R (.ok (.ret (.bool (lexLt ns ms)))) s):=
 .of_wp fun prog w A R s h=>by
  obtain⟨hp,g,d,tk,os⟩:=s;obtain⟨hl,hb,h⟩:=h
  have f2:=AutoSeq1.sub_tuple_tuple
  have z1:items.size=ns.length:=by rw[← hi.length];simp
  have z2:items2.size=ms.length:=by rw[← hj.length];simp
  wp_walk using wpAny_loadPart' hl,wpAny_loadPart' hb,wpAny_forIn_list _ (fun rest b s'=>b.1=none∧s'=⟨hp,g,d,tk,os⟩∧∃ (vs ws:List Value) (ns' ms':List Int),rest=vs.zip ws ∧
   IntsAre vs ns'∧IntsAre ws ms'∧ns'.length+items2.size=ms'.length+items.size∧R (.ok (.ret (.bool (lexLt ns' ms')))) ⟨hp,g,d,tk,os⟩) _
  case turn =>
   rintro⟨y,x⟩ rest b s' ⟨hb',rfl,vs,ws,ns',ms',hz,hvi,hwi,hlen,hR⟩
   cases hvi with
   |nil=>rw[List.zip_nil_left] at hz;cases hz
   |cons a t hvi' =>
    cases hwi with
    |nil=>rw[List.zip_nil_right] at hz;cases hz
    |cons c u hwi' =>
     rw[List.zip_cons_cons] at hz
     injection hz with hyx hrest
     injection hyx with hy hx
     subst hy hx
     rw[lexLt_cons] at hR
     simp only[List.length_cons] at hlen
     obtain⟨e,he,hiff⟩:=WJ A.in1 ⟨hp,g,d,tk,os⟩ a t c u
     refine wpAny_bind (he prog w _ _ ?_)
     cases e with
     |true =>
      rw[if_pos (hiff.mp rfl)] at hR
      wp_walk
      exact⟨rfl,rfl,_,_,_,_,hrest,hvi',hwi',by omega,hR⟩
     |false =>
      rw[if_neg (fun q=>absurd (hiff.mpr q) Bool.false_ne_true)] at hR
      have hri:=YL A.in1 ⟨hp,g,d,tk,os⟩ a t c u prog w
      wp_walk using hri
      exact⟨_,rfl,by simpa using hR⟩
  case fin =>
   rintro⟨b1,b2⟩ s' ⟨hb',rfl,vs,ws,ns',ms',hz,hvi,hwi,hlen,hR⟩
   simp only at hb'
   subst hb'
   have hv:lexLt ns' ms'=decide (items.size<items2.size):=by
    cases hvi with
    |nil =>
     cases hwi with
     |nil =>
      simp only[List.length_nil] at hlen
      rw[lexLt_nil_nil]
      exact(decide_eq_false (by omega)).symm
     |cons c u hw =>
      simp only[List.length_nil,List.length_cons] at hlen
      rw[tE]
      exact(decide_eq_true (by omega)).symm
    |cons a t hv =>
     cases hwi with
     |nil =>
      simp only[List.length_nil,List.length_cons] at hlen
      rw[tB]
      exact(decide_eq_false (by omega)).symm
     |cons c u hw =>
      rw[List.zip_cons_cons] at hz
      cases hz
   rw[hv] at hR
   wp_walk
   exact⟨_,rfl,by simpa [Builtin.Tuple.tupleCompareSizes] using hR⟩
  case h =>
   exact⟨rfl,rfl,items.toList,items2.toList,ns,ms,rfl,hi,hj,by omega,h⟩
end
section
variable {prog:Program}{w:World}{A:Around}{E:Value→Shared→Prop}{s:Shared}
theorem lt_tupInts {l b:Addr}{items items2:Array Value}{ns ms:List Int}{Q:Value→Shared→Prop}(hl:IsTup s.heap l items)(hb:IsTup s.heap b items2)(hi:IntsAre items.toList ns)(hj:IntsAre items2.toList ms)
  (hu:A.units<cLine) (h:Q (.bool (lexLt ns ms)) s):wpAny (model prog w) A (compareOp .Lt (.ref l) (.ref b)) Q E s:=by
 obtain⟨⟨cls,dd,data,sl⟩,ho,hc,n,hd⟩:=id hl
 obtain⟨⟨cls2,dd2,data2,sl2⟩,ho2,hc2,n2,hd2⟩:=id hb
 simp only at hc hd hc2 hd2
 subst hc hd hc2 hd2
 exact richCompare_meets_room (op:=.Lt) ⟨_,ho,rfl⟩ ⟨_,ho2,rfl⟩ PySem.F.slot_tuple_lt PySem.F.entry_tuple_lt (PySem.F.args_tuple_lt_2 _ _) (lI l b items items2 n n2 dd dd2 sl sl2 ns ms hi hj)
  ⟨ho,ho2,show Value.bool (lexLt ns ms)≠Value.notImplemented∧Q (.bool (lexLt ns ms)) s from⟨(fun x=>nomatch x),h⟩⟩ hu
theorem cat_tup {t b:Addr}{vs ws:List Value}{Q:Value→Shared→Prop}(ht:IsTup s.heap t vs.toArray)(hb:IsTup s.heap b ws.toArray)(hv:vs≠[])
  (h1:ws=[]→Q (.ref t) s) (h2:ws≠[]→Q (.ref s.heap.objs.size) { s with heap:=s.heap.push { cls:=.type "tuple",data:=.seq (vs++ws).toArray } })
  (hsz:vs.length+ws.length≤sizeLine):wpAny (model prog w) A (binaryOp .Add (.ref t) (.ref b)) Q E s:=by
 obtain⟨⟨cls,dd,data,sl⟩,ho,hc,n,hd⟩:=id ht
 obtain⟨⟨cls2,dd2,data2,sl2⟩,ho2,hc2,n2,hd2⟩:=id hb
 simp only at hc hd hc2 hd2
 subst hc hd hc2 hd2
 have e:vs.toArray++ws.toArray=(vs++ws).toArray:=by simp
 by_cases hw:ws=[]
 ·exact concat_meets ⟨_,ho,rfl⟩ ⟨_,ho2,rfl⟩ noFill_tuple_add seq_tuple_add PySem.F.slot_tuple_add PySem.F.entry_tuple_add (PySem.F.args_tuple_add_2 _ _)
   (tuple_addW1 t b vs.toArray ws.toArray n n2 dd dd2 sl sl2 (by simpa using hv) (by simp[hw])) ⟨ho,ho2,h1 hw⟩
 ·refine concat_meets ⟨_,ho,rfl⟩ ⟨_,ho2,rfl⟩ noFill_tuple_add seq_tuple_add PySem.F.slot_tuple_add PySem.F.entry_tuple_add (PySem.F.args_tuple_add_2 _ _)
   (tuple_addW2 t b vs.toArray ws.toArray n n2 dd dd2 sl sl2 (by simpa using hv) (by simpa using hw) (by rw[List.size_toArray,List.size_toArray];exact hsz)) ⟨ho,ho2,?_⟩
  rw[e]
  exact h2 hw
def sIx (n d:Nat):Option Int→Nat
 |none=>d
 |some v=>if v<0 then (v+(n:Int)).toNat else min v.toNat n
theorem MI (n d:Nat)(hd:d≤n)(o:Option Int):sIx n d o≤n:=by
 cases o with
 |none=>exact hd
 |some v =>
  show (if v<0 then (v+(n:Int)).toNat else min v.toNat n)≤n
  by_cases hv:v<0
  ·rw[if_pos hv];omega
  ·rw[if_neg hv];exact Nat.min_le_right _ _
theorem eA (v:Int)(n d:Nat):(if v<0 then max (v+(n:Int)) 0 else min v (n:Int))=((sIx n d (some v):Nat):Int):=by
 show (if v<0 then max (v+(n:Int)) 0 else min v (n:Int))=(((if v<0 then (v+(n:Int)).toNat else min v.toNat n):Nat):Int)
 by_cases hv:v<0
 ·simp only[if_pos hv];omega
 ·simp only[if_neg hv];omega
theorem a9 (lo hi:Option Int)(n:Nat):Builtin.Slice.sliceAdjust lo hi 1 (n:Int)=(((sIx n 0 lo:Nat):Int),((sIx n n hi:Nat):Int)):=by
 have h1:¬ ((1:Int)<0):=by omega
 unfold Builtin.Slice.sliceAdjust
 simp only[h1,if_false]
 refine Prod.ext ?_ ?_
 ·cases lo with
  |none=>rfl
  |some v=>exact eA v n 0
 ·cases hi with
  |none=>rfl
  |some v=>exact eA v n n
theorem iC (i j:Nat):Builtin.Slice.slicePlaces (i:Int) (j:Int) 1=j-i:=by
 unfold Builtin.Slice.slicePlaces
 have h1:(1:Int)>0:=by omega
 simp only[h1,if_true,Int.ediv_one]
 split <;> omega
theorem mI {v:Value}{o:Option Int}{Q:Option Int→Shared→Prop}(p:IsPart v o)(h:Q o s):wpAny (model prog w) A (Builtin.Slice.slicePartIndex v) Q E s:=by
 cases p with
 |none=>exact slicePart_none h
 |int i t=>exact slicePart_int h
theorem jG {sl:Addr}{vl vu:Value}{lo hi:Option Int}{n:Nat}{Q:Int × Int × Nat→Shared→Prop}(hs:s.heap.IsSliceOf sl vl vu .none)(pl:IsPart vl lo)(pu:IsPart vu hi)
  (h:Q (((sIx n 0 lo:Nat):Int),1,sIx n n hi-sIx n 0 lo) s):wpAny (model prog w) A (Builtin.Slice.sliceApplied (.ref sl) (pure (n:Int))) Q E s:=by
 obtain⟨os,hos,hcs,hds⟩:=id hs
 unfold Builtin.Slice.sliceApplied Builtin.Slice.sliceFields
 refine wpAny_bind (wpAny_bind (wpAny_field hos hds (x:=vl) rfl (wpAny_bind (wpAny_field hos hds (x:=vu) rfl (wpAny_bind (wpAny_field hos hds (x:=.none) rfl (wpAny_pure ?_)))))))
 refine wpAny_bind (slicePart_none ?_)
 show wpAny _ _ (if ((1:Int) == 0)=true then _ else _) _ _ s
 rw[if_neg (by decide)]
 refine wpAny_bind (mI pl (wpAny_bind (mI pu (wpAny_bind (wpAny_pure ?_)))))
 show wpAny _ _ (match Builtin.Slice.sliceAdjust lo hi 1 (n:Int) with|(lo,hi)=>pure (lo,(1:Int),Builtin.Slice.slicePlaces lo hi 1)) _ _ s
 rw[a9 lo hi n]
 show wpAny _ _ (pure (((sIx n 0 lo:Nat):Int),(1:Int),Builtin.Slice.slicePlaces ((sIx n 0 lo:Nat):Int) ((sIx n n hi:Nat):Int) 1)) _ _ s
 rw[iC]
 exact wpAny_pure h
theorem Y7 (xs:Array Value)(i k:Nat):((List.range k).filterMap fun (m:Nat)=>xs[((i:Int)+(m:Int)*1).toNat]?).toArray=((xs.toList.drop i).take k).toArray:=by
 have e:(fun (m:Nat)=>xs[((i:Int)+(m:Int)*1).toNat]?)=fun m=>xs[i+m]?:=by
  funext m
  have:((i:Int)+(m:Int)*1).toNat=i+m:=by omega
  rw[this]
 rw[e]
 have:=pick_run xs i k
 rw[List.filterMap_map] at this
 have e2:((fun x=>xs[x]?)∘fun x=>i+x)=fun m=>xs[i+m]?:=rfl
 rw[e2] at this
 rw[this]
theorem getItem_tuple_cut {t sl:Addr}{items:Array Value}{vl vu:Value}{lo hi:Option Int}{Q:Value→Shared→Prop}(ht:IsTup s.heap t items)(hs:s.heap.IsSliceOf sl vl vu .none)(pl:IsPart vl lo)(pu:IsPart vu hi)
  (hw:¬ (sIx items.size 0 lo=0∧sIx items.size items.size hi=items.size))
  (h:Q (.ref s.heap.objs.size) { s with heap:=s.heap.push { cls:=.type "tuple",data:=.seq ((items.toList.drop (sIx items.size 0 lo)).take (sIx items.size items.size hi-sIx items.size 0 lo)).toArray } })
  (hsz:items.size≤sizeLine):wpAny (model prog w) A (getItem (.ref t) (.ref sl)) Q E s:=by
 have htake:sizeOk (.seq ((items.toList.drop (sIx items.size 0 lo)).take (sIx items.size items.size hi-sIx items.size 0 lo)).toArray):=by
  show ((items.toList.drop (sIx items.size 0 lo)).take (sIx items.size items.size hi-sIx items.size 0 lo)).toArray.size≤sizeLine
  rw[List.size_toArray,List.length_take,List.length_drop,Array.length_toList]
  omega
 have hj:sIx items.size items.size hi≤items.size:=MI _ _ (Nat.le_refl _) hi
 obtain⟨os,hos,hcs,hds⟩:=id hs
 have hTs:s.TypeIs (.ref sl) "slice":=⟨os,hos,hcs⟩
 unfold getItem
 try with_reducible refine wpAny_holding ?_
 first|refine wpAny_bind (wpAny_pure ?_)|skip
 refine wpAny_bind (wpAny_sequenceKey ht.typeIs (by decide) ?_)
 refine wpAny_bind (wpAny_callSpecial?_slot (name:=Str.ofString "__getitem__") ht.typeIs PyProof.Rows.slot_tuple_getitem
  (wpAny_call_entry PyProof.Rows.slot_tuple_getitem ht.typeIs entry_tuple_getitem ?_ (args_tuple_getitem _ _)))
 show wpAny _ _ (Builtin.Tuple.tupleItemsOf (.ref t) >>= _) _ _ s
 refine wpAny_bind (tupleItemsOf_ ht ?_)
 refine wpAny_bind (wpAny_typeOf hTs ?_)
 rw[if_pos (by decide)]
 refine wpAny_bind (jG hs pl pu ?_)
 have hno:¬ ((((sIx items.size 0 lo:Nat):Int) == 0&&(1:Int) == 1&&(sIx items.size items.size hi-sIx items.size 0 lo) == items.size)=true):=by
  intro q
  rw[Bool.and_eq_true,Bool.and_eq_true] at q
  have q1:((sIx items.size 0 lo:Nat):Int)=0:=eq_of_beq q.1.1
  have q2:sIx items.size items.size hi-sIx items.size 0 lo=items.size:=eq_of_beq q.2
  exact hw ⟨by omega,by omega⟩
 show wpAny _ _ (if (((sIx items.size 0 lo:Nat):Int) == 0&&(1:Int) == 1&&(sIx items.size items.size hi-sIx items.size 0 lo) == items.size)=true then _ else _) _ _ s
 rw[if_neg hno,Y7]
 first
  |exact wpAny_bind (m:=Builtin.Tuple.tupleExact _) (wpAny_newObj_type (wpAny_pure ⟨_,rfl,wpAny_pure h⟩) htake)
  |exact wpAny_bind (m:=Builtin.Tuple.tupleExact _) (wpAny_newObj_type (wpAny_bind (wpAny_pure (wpAny_pure ⟨_,rfl,wpAny_pure h⟩))) htake)
  |exact wpAny_bind (wpAny_bind (m:=Builtin.Tuple.tupleExact _) (wpAny_newObj_type (wpAny_pure (wpAny_pure ⟨_,rfl,wpAny_pure h⟩)) htake))
  |exact wpAny_bind (wpAny_bind (m:=Builtin.Tuple.tupleExact _) (wpAny_newObj_type (wpAny_pure ⟨_,rfl,wpAny_pure h⟩) htake))
end
end _H
namespace _L
open PySem PySem.Spec PyProof.Rows
abbrev TO:=St→Hp→(Option Int→Hp→Prop)→Prop
def PO (X:Cx)(e:Option Expr)(t:TO):Prop:=
 ∀ (pins:List (Addr × Obj)) (s:Shared) (σ : St) (H:Hp) (Q:Option Int→Hp→Prop),Inv X pins σ H s→t σ H Q →
  wpAny (model X.prog X.w) X.A (evalPart e X.env) (fun u s'=>∃ o H',Inv X pins σ H' s'∧IsPart u o∧Q o H') X.xe s
def GH:TO:=fun _ H Q=>Q none H
def L9 (t:TE):TO:=fun σ H Q=>t σ H fun x H1=>∃ i,x=.int i∧Q (some i) H1
theorem vL {ns:List Int}:∀ {us:List Value},qL (ns.map V.int) us→IntsAre us ns:=by
 induction ns with
 |nil=>intro us r;rw[List.map_nil] at r;cases r;exact .nil
 |cons n ns ih =>
  intro us r
  rw[List.map_cons] at r
  cases r with
  |cons r1 r2 =>
   obtain⟨t,e⟩:=r1
   subst e
   exact .cons n t (ih r2)
section
variable {X:Cx}{e:Expr}{te:TE}{lo hi:Option Expr}{tl th:TO}{pos p2:Pos}
theorem KU:PO X none GH:=by
 intro pins s σ H Q I h
 rw[evalPart_none]
 exact wpAny_pure ⟨none,H,I,.none,h⟩
theorem KW (h:PE X e te):PO X (some e) (L9 te):=by
 intro pins s σ H Q I hw
 rw[evalPart_some]
 refine thn (h pins s σ H _ I hw) fun u s1 ⟨x,H1,I1,r1,q1⟩=>?_
 obtain⟨i,rfl,q⟩:=q1
 obtain⟨t,rfl⟩:=r1
 exact⟨some i,H1,I1,.int i t,q⟩
def SlR (X:Cx)(r:V→Option Int→Option Int→Hp→VK→Prop):Prop:=
 ∀ (pins:List (Addr × Obj)) (s:Shared) (σ : St) (H:Hp) (x:V) (v vl vu:Value) (lo hi:Option Int) (sl:Addr) (Q:VK),Inv X pins σ H s→qK x v→s.heap.IsSliceOf sl vl vu .none→IsPart vl lo→IsPart vu hi→r x lo hi H Q →
  ∃ T id,typeLookup (.type T) "__getitem__" = pure (some (.builtin id))∧s.TypeIs v T∧wpAny (model X.prog X.w) X.A (getItem v (.ref sl)) (EP X pins σ Q) X.xe s
theorem SlR.or {r r':V→Option Int→Option Int→Hp→VK→Prop}(h:SlR X r)(h':SlR X r'):SlR X (fun x lo hi H Q=>r x lo hi H Q∨r' x lo hi H Q):=by
 intro pins s σ H x v vl vu lo hi sl Q I rx hs pl pu q
 rcases q with q|q
 ·exact h pins s σ H x v vl vu lo hi sl Q I rx hs pl pu q
 ·exact h' pins s σ H x v vl vu lo hi sl Q I rx hs pl pu q
def tSl (r:V→Option Int→Option Int→Hp→VK→Prop)(te:TE)(tl th:TO):TE:=fun σ H Q=>te σ H fun x H1=>tl σ H1 fun l H2=>th σ H2 fun u H3=>r x l u H3 Q
theorem Y4 {r:V→Option Int→Option Int→Hp→VK→Prop}(hr:SlR X r)(he:PE X e te)(hl:PO X lo tl)(hu:PO X hi th):PE X (.Subscript e (.Slice lo hi none p2) pos) (tSl r te tl th):=by
 intro pins s σ H Q I h
 refine Subscript_ (thn (he pins s σ H _ I h) fun v s1 ⟨x,H1,I1,r1,q1⟩=>?_)
 refine wpAny_Slice (thn (hl pins s1 σ H1 _ I1 q1) fun vl s2 ⟨l,H2,I2,pl,q2⟩=>thn (hu pins s2 σ H2 _ I2 q2) fun vu s3 ⟨u,H3,I3,pu,q3⟩=>?_)
 rw[evalPart_none]
 refine wpAny_pure ?_
 have I4:Inv X pins σ H3 { s3 with heap:=s3.heap.push { cls:=.type "slice",data:=.fields #[vl,vu,.none] } }:=I3.kept (t':=s3.toks) fun b ob q=>Heap.get?_push_of_some _ q
 obtain⟨T,id,hT,ht,hg⟩:=hr pins { s3 with heap:=s3.heap.push { cls:=.type "slice",data:=.fields #[vl,vu,.none] } } σ H3 x v vl vu l u s3.heap.objs.size Q I4 r1 (Heap.IsSliceOf.new ..) pl pu q3
 show wpAny (model X.prog X.w) X.A (subscriptTail e (.Slice lo hi none p2) v (.ref s3.heap.objs.size)) (EP X pins σ Q) X.xe { s3 with heap:=s3.heap.push { cls:=.type "slice",data:=.fields #[vl,vu,.none] } }
 exact tail_any (ops:=[.ref s3.heap.objs.size,v]) ht hT hg (by with_unfolding_all rfl)
def gT (xs:List V)(lo hi:Option Int):List V:=(xs.drop (_H.sIx xs.length 0 lo)).take (_H.sIx xs.length xs.length hi-_H.sIx xs.length 0 lo)
theorem bC (xs:List V)(lo hi:Option Int):(gT xs lo hi).length≤xs.length:=by
 unfold gT
 rw[List.length_take,List.length_drop]
 omega
def DP (K:PySem.W.Frag):V→Option Int→Option Int→Hp→VK→Prop:=fun x lo hi H Q=>∃ a xs,x=.ref a∧SqT K H a xs ∧
 ¬ (_H.sIx xs.length 0 lo=0∧_H.sIx xs.length xs.length hi=xs.length)∧∀ p,H p=none→Q (.ref p) (upd H p (.tup (gT xs lo hi)))
theorem MK:SlR X (DP X.K):=by
 intro pins s σ H x v vl vu lo hi sl Q I rx hs pl pu h
 obtain⟨a,xs,rfl,hx,hw,q⟩:=h
 cases rx
 obtain⟨its,r,ht,hz⟩:=I.tuple hx
 have hlen:its.toArray.size=xs.length:=by rw[List.size_toArray];exact r.length.symm
 refine⟨"tuple",_,PyProof.Rows.slot_tuple_getitem.lookup,ht.typeIs,?_⟩
 refine _H.getItem_tuple_cut ht hs pl pu (by rw[hlen];exact hw) ?_ (by rw[hlen];exact hz)
 rw[hlen]
 refine⟨.ref s.heap.objs.size,_,I.laid (t':=s.toks) (o:=.tup (gT xs lo hi)) (fun b ob q=>Heap.get?_push_of_some _ q) (Nat.le_refl _) ?_,rfl,q _ (I.hok.fresh (Nat.le_refl _))⟩
 exact⟨Nat.le_trans (bC xs lo hi) hz,_,(r.drop (_H.sIx xs.length 0 lo)).take (_H.sIx xs.length xs.length hi-_H.sIx xs.length 0 lo),IsTup.new _ _⟩
end
end _L
namespace _L
open PySem PySem.Spec PyProof.Rows
def ixN (n:Nat)(i:Int):Option Nat:=if 0≤i then (if i<n then some i.toNat else none) else if -(n:Int)≤i then some (i+n).toNat else none
def atI {α : Type}(xs:List α)(i:Int):Option α:=(ixN xs.length i).bind fun j=>xs[j]?
theorem eU {n:Nat}{i:Int}{j:Nat}(h:ixN n i=some j):seqIndex? i n=some j∧j<n ∧ -(n:Int)≤i∧i<n:=by
 unfold ixN at h
 by_cases h0:0≤i
 ·rw[if_pos h0] at h
  by_cases h1:i<n
  ·rw[if_pos h1] at h
   have e:i.toNat=j:=Option.some.inj h
   exact⟨by rw[seqIndex_of h0 h1,e],by omega,by omega,h1⟩
  ·rw[if_neg h1] at h;cases h
 ·rw[if_neg h0] at h
  by_cases h1 : -(n:Int)≤i
  ·rw[if_pos h1] at h
   have e:(i+n).toNat=j:=Option.some.inj h
   exact⟨by rw[seqIndex_neg (by omega) h1,e],by omega,h1,by omega⟩
  ·rw[if_neg h1] at h;cases h
theorem rY {α : Type}{xs:List α}{i:Int}{v:α}(h:atI xs i=some v):∃ j,seqIndex? i xs.length=some j∧xs[j]? = some v∧j<xs.length ∧ -(xs.length:Int)≤i∧i<xs.length:=by
 unfold atI at h
 cases e:ixN xs.length i with
 |none=>rw[e] at h;cases h
 |some j =>
  rw[e] at h
  obtain⟨h1,h2,h3,h4⟩:=eU e
  exact⟨j,h1,h,h2,h3,h4⟩
def uY (b:Expr):Prop:=∀ o i,subscripted b false o i=operate [o,i] (getItem o i)
def IxR (X:Cx)(r:R2):Prop:=
 ∀ (value slice:Expr) (pins:List (Addr × Obj)) (s:Shared) (σ : St) (H:Hp) (x y:V) (v u:Value) (Q:VK),Inv X pins σ H s→qK x v→qK y u→r x y H Q →
  subscripted slice false v u=operate [v,u] (getItem v u)→wpAny (model X.prog X.w) X.A (subscriptTail value slice v u) (EP X pins σ Q) X.xe s
def MtR (X:Cx)(id:String)(r:V→List V→Hp→VK→Prop):Prop:=
 ∀ (pins:List (Addr × Obj)) (s:Shared) (σ : St) (H:Hp) (x:V) (xs:List V) (v:Value) (us:List Value) (Q:VK),Inv X pins σ H s→qK x v→qL xs us→r x xs H Q →
  wpAny (model X.prog X.w) X.A (call (.builtin id) (v::us)) (EP X pins σ Q) X.xe s
section
variable {X:Cx}{a b:Expr}{ta tb:TE}{pos:Pos}
theorem IxR.or {r r':R2}(h:IxR X r)(h':IxR X r'):IxR X (fun x y H Q=>r x y H Q∨r' x y H Q):=by
 intro value slice pins s σ H x y v u Q I rx ry q hs
 rcases q with q|q
 ·exact h value slice pins s σ H x y v u Q I rx ry q hs
 ·exact h' value slice pins s σ H x y v u Q I rx ry q hs
theorem MtR.or {id:String}{r r':V→List V→Hp→VK→Prop}(h:MtR X id r)(h':MtR X id r'):MtR X id (fun x xs H Q=>r x xs H Q∨r' x xs H Q):=by
 intro pins s σ H x xs v us Q I rx rs q
 rcases q with q|q
 ·exact h pins s σ H x xs v us Q I rx rs q
 ·exact h' pins s σ H x xs v us Q I rx rs q
theorem NO {r:R2}(hr:IxR X r)(ha:PE X a ta)(hb:PE X b tb)(hs:uY b):PE X (.Subscript a b pos) (tOp r ta tb):=by
 intro pins s σ H Q I h
 exact Subscript_ (LP ha hb I h fun v u s2 x y H2 I2 rx ry q=>hr a b pins s2 σ H2 x y v u Q I2 rx ry q (hs _ _))
def DH (K:PySem.W.Frag):R2:=fun x y H Q=>∃ p xs i v,x=.ref p∧y=.int i∧SqL K H p xs∧atI xs i=some v∧Q v H
def DJ (K:PySem.W.Frag):R2:=fun x y H Q=>∃ p xs i v,x=.ref p∧y=.int i∧SqT K H p xs∧atI xs i=some v∧Q v H
theorem eV:IxR X (DH X.K):=by
 intro value slice pins s σ H x y v u Q I rx ry h hs
 obtain⟨p,xs,i,z,rfl,rfl,hq,he,q⟩:=h
 cases rx
 obtain⟨t,rfl⟩:=ry
 obtain⟨its,r,pl,hz⟩:=I.list hq
 obtain⟨j,h1,h2,h3,h4,h5⟩:=rY he
 obtain⟨w,ew,rw'⟩:=r.get h2
 have hl:=r.length
 have hn:=pA
 have fin:EP X pins σ Q w s:=⟨z,H,I,rw',q⟩
 by_cases h0:0≤i
 ·have hj:i.toNat=j:=by
   rw[seqIndex_of h0 h5] at h1
   exact Option.some.inj h1
  exact item_listR pl.isList h0 (by omega) (by rw[hj];simpa using ew) fin hs
 ·have hj:(i+(its.toArray.size:Int)).toNat=j:=by
   rw[seqIndex_neg (by omega) h4] at h1
   rw[List.size_toArray,← hl]
   exact Option.some.inj h1
  exact subscriptTail_builtinR (x:=w) pl.isList.typeIs slot_list_getitem.lookup
   (wpAny_getItem_list_neg (Q:=fun r s'=>r=w∧EP X pins σ Q r s') pl.isList (by omega) (by rw[List.size_toArray] <;> omega) (by omega) (by rw[hj];simpa using ew) ⟨rfl,fin⟩) hs
theorem fV:IxR X (DJ X.K):=by
 intro value slice pins s σ H x y v u Q I rx ry h hs
 obtain⟨p,xs,i,z,rfl,rfl,hq,he,q⟩:=h
 cases rx
 obtain⟨t,rfl⟩:=ry
 obtain⟨its,r,pl,hz⟩:=I.tuple hq
 obtain⟨j,h1,h2,h3,h4,h5⟩:=rY he
 obtain⟨w,ew,rw'⟩:=r.get h2
 have hl:=r.length
 have hn:=pA
 have fin:EP X pins σ Q w s:=⟨z,H,I,rw',q⟩
 exact subscriptTail_builtinR (x:=w) pl.typeIs slot_tuple_getitem.lookup
  (getItem_tuple (j:=j) (Q:=fun r s'=>r=w∧EP X pins σ Q r s') pl (by omega) (by omega) (by rw[List.size_toArray,← hl];exact h1) (by simpa using ew) ⟨rfl,fin⟩) hs
theorem aZ (its:List Value)(n j:Nat)(u:Value):Obj.mapSeq (·.setIfInBounds j u) { cls:=.type "list",data:=.seq its.toArray n } = { cls:=.type "list",data:=.seq (its.set j u).toArray n }:=by
 simp[Obj.mapSeq]
theorem Inv.lst {pins:List (Addr × Obj)}{σ : St}{H:Hp}{s:Shared}{p:Addr}{xs:List V}(I:Inv X pins σ H s)(h:H p=some (.lst xs)) :
  ∃ (its:List Value) (n:Nat),qL xs its∧s.heap.get? p=some { cls:=.type "list",data:=.seq its.toArray n } ∧ xs.length≤sizeLine:=by
 obtain⟨z,its,n,r,e⟩:=I.hok p _ h
 exact⟨its,n,r,e,z⟩
theorem Inv.lstUpd {pins:List (Addr × Obj)}{σ : St}{H:Hp}{s:Shared}{p:Addr}{xs ys:List V}{its its':List Value}{n n':Nat}{f:Obj→Obj}(I:Inv X pins σ H s)(h:H p=some (.lst xs))
  (ho:s.heap.get? p=some { cls:=.type "list",data:=.seq its.toArray n }) (hf:f { cls:=.type "list",data:=.seq its.toArray n } = { cls:=.type "list",data:=.seq its'.toArray n' }) (r:qL ys its') (hz:ys.length≤sizeLine) (t:Nat) :
  Inv X pins σ (upd H p (.lst ys)) { s with heap:=s.heap.update p f,toks:=t }:=by
 have e:(s.heap.update p f).get? p=some { cls:=.type "list",data:=.seq its'.toArray n' }:=by
  rw[Heap.get?_update_self f ho (by rw[hf] <;> rfl),hf]
 refine I.write (x:=p) (e:=p) (by rw[h];trivial) (.inl rfl) (fun b u hb q=>(Heap.get?_update_other _ _ (Ne.symm hb)).trans q) ⟨_,e⟩ ?_
 exact⟨hz,its',n',r,e⟩
def NT:V→V→V→Hp→(Hp→Prop)→Prop:=fun o i v H Q=>∃ p xs k j,o=.ref p∧i=.int k∧H p=some (.lst xs)∧ixN xs.length k=some j∧Q (upd H p (.lst (xs.set j v)))
theorem YN:lU X NT:=by
 intro pins s σ H o i v ov iv u Q I ro ri rv h
 obtain⟨p,xs,k,j,rfl,rfl,hp,hj,q⟩:=h
 cases ro
 obtain⟨t,rfl⟩:=ri
 obtain⟨its,n,r,ho,hz⟩:=I.lst hp
 obtain⟨h1,h2,h3,h4⟩:=eU hj
 have hl:=r.length
 have hn:=pA
 have I':Inv X pins σ (upd H p (.lst (xs.set j v))) { s with heap:=s.heap.update p (Obj.mapSeq (·.setIfInBounds j u)) }:=
  I.lstUpd hp ho (aZ its n j u) (r.set rv j) (by rw[List.length_set];exact hz) s.toks
 by_cases h0:0≤k
 ·have hk:k.toNat=j:=by
   rw[seqIndex_of h0 h4] at h1
   exact Option.some.inj h1
  exact PySem.W.ki_setAt ho h0 (by omega) (by rw[List.size_toArray,← hl];exact h4) (by rw[hk];exact⟨_,I',q⟩)
 ·have hk:(k+(its.toArray.size:Int)).toNat=j:=by
   rw[seqIndex_neg (by omega) h3] at h1
   rw[List.size_toArray,← hl]
   exact Option.some.inj h1
  exact PySem.W.ki_setBack ho (by omega) (by rw[List.size_toArray,← hl];exact h3) (by omega) (by rw[hk];exact⟨_,I',q⟩)
theorem rB (lo hi:Option Int)(n:Nat):(sliceBounds lo hi none n).1=((_H.sIx n 0 lo:Nat):Int)∧(sliceBounds lo hi none n).2.1=((_H.sIx n n hi:Nat):Int)∧(sliceBounds lo hi none n).2.2=1:=by
 refine⟨?_,?_,rfl⟩
 ·cases lo with
  |none=>simp[sliceBounds,_H.sIx]
  |some i =>
   simp only[sliceBounds,_H.sIx,Option.getD_none,show (1:Int)>0 by decide,if_true]
   by_cases h:i<0
   ·simp only[h,if_true] <;> omega
   ·simp only[h,if_false] <;> omega
 ·cases hi with
  |none=>simp[sliceBounds,_H.sIx]
  |some i =>
   simp only[sliceBounds,_H.sIx,Option.getD_none,show (1:Int)>0 by decide,if_true]
   by_cases h:i<0
   ·simp only[h,if_true] <;> omega
   ·simp only[h,if_false] <;> omega
theorem lH (its:List Value)(lo hi:Option Int):slicePick its.toArray lo hi none=((its.drop (_H.sIx its.length 0 lo)).take (_H.sIx its.length its.length hi-_H.sIx its.length 0 lo)).toArray:=by
 obtain⟨h1,h2,h3⟩:=rB lo hi its.toArray.size
 unfold slicePick
 rw[h1,h2,h3]
 simp only[sliceRange_one,pick_run,List.size_toArray] <;> rfl
def DN (K:PySem.W.Frag):V→Option Int→Option Int→Hp→VK→Prop:=fun x lo hi H Q=>∃ a xs,x=.ref a∧SqL K H a xs∧∀ p,H p=none→Q (.ref p) (upd H p (.lst (gT xs lo hi)))
theorem cM:SlR X (DN X.K):=by
 intro pins s σ H x v vl vu lo hi sl Q I rx hs pl pu h
 obtain⟨a,xs,rfl,hx,q⟩:=h
 cases rx
 obtain⟨its,r,ht,hz⟩:=I.list hx
 have hlen:=r.length
 refine⟨"list",_,slot_list_getitem.lookup,ht.isList.typeIs,?_⟩
 refine wpAny_getItem_list_slice ht.isList hs pl pu .none (by simp) ?_ (by rw[List.size_toArray] <;> omega)
 rw[lH,← hlen]
 refine⟨.ref s.heap.objs.size,_,I.laid (t':=s.toks) (o:=.lst (gT xs lo hi)) (fun b ob q=>Heap.get?_push_of_some _ q) (Nat.le_refl _) ?_,rfl,q _ (I.hok.fresh (Nat.le_refl _))⟩
 exact⟨Nat.le_trans (bC xs lo hi) hz,_,0,(r.drop (_H.sIx xs.length 0 lo)).take (_H.sIx xs.length xs.length hi-_H.sIx xs.length 0 lo),Heap.get?_push_size _ rfl⟩
theorem jI.or {f:Value}{r r':List V→Hp→VK→Prop}(h:jI X f r)(h':jI X f r'):jI X f (fun xs H Q=>r xs H Q∨r' xs H Q):=by
 intro pins s σ H xs us Q I rs q
 rcases q with q|q
 ·exact h pins s σ H xs us Q I rs q
 ·exact h' pins s σ H xs us Q I rs q
theorem gR:jI X (.type "list") (fun xs H Q=>∃ p ys,xs=[.ref p]∧(SqL X.K H p ys∨SqT X.K H p ys)∧∀ l,H l=none→Q (.ref l) (upd H l (.lst ys))):=by
 intro pins s σ H xs us Q I r h
 obtain⟨p,ys,rfl,hq,q⟩:=h
 obtain⟨u,rfl,rx⟩:=jV r
 cases rx
 have fin:∀ (its:List Value),qL ys its→ys.length≤sizeLine→∀ (h':Heap) (c':Nat),(∀ b o',s.heap.get? b=some o'→h'.get? b=some o') →
   h'.get? s.heap.objs.size=some { cls:=.type "list",dict:=none,data:=.seq its.toArray c',slots:=#[] } → EP X pins σ Q (.ref s.heap.objs.size) { s with heap:=h' }:=fun its r' hz h' c' kp e =>
  ⟨.ref s.heap.objs.size,_,I.laid (t':=s.toks) kp (Nat.le_refl _) (show zO X.prog X.w _ h' _ (.lst ys) from⟨hz,its,c',r',e⟩),rfl,q _ (I.hok.fresh (Nat.le_refl _))⟩
 rcases hq with hq|hq
 ·obtain⟨its,r',pl,hz⟩:=I.list hq
  have hlen:=r'.length
  obtain⟨o,ho,hc,n,hd⟩:=pl.isList
  exact call_list_seq p (.inl rfl) ho hc hd (fun h' c' kp e=>fin its r' hz h' c' kp e) (by simp only[List.size_toArray] <;> omega)
 ·obtain⟨its,r',pl,hz⟩:=I.tuple hq
  have hlen:=r'.length
  obtain⟨o,ho,hc,n,hd⟩:=pl
  exact call_list_seq p (.inr rfl) ho hc hd (fun h' c' kp e=>fin its r' hz h' c' kp e) (by simp only[List.size_toArray] <;> omega)
theorem gL:jI X (.type "tuple") (fun xs H Q=>∃ p ys,xs=[.ref p]∧((SqL X.K H p ys∧∀ l,H l=none→Q (.ref l) (upd H l (.tup ys)))∨(SqT X.K H p ys∧Q (.ref p) H))):=by
 intro pins s σ H xs us Q I r h
 obtain⟨p,ys,rfl,h⟩:=h
 obtain⟨u,rfl,rx⟩:=jV r
 cases rx
 rcases h with⟨hq,q⟩|⟨hq,q⟩
 ·obtain⟨its,r',pl,hz⟩:=I.list hq
  have hlen:=r'.length
  refine call_tuple_list pl.isList (fun h' kp=>?_) (by simp only[List.size_toArray] <;> omega)
  have I1:Inv X pins σ H { s with heap:=h' }:=I.kept (t':=s.toks) kp
  have I2:Inv X pins σ (upd H h'.objs.size (.tup ys)) { s with heap:=h'.push { cls:=.type "tuple",data:=.seq its.toArray } }:=
   I1.laid (t':=s.toks) (fun b o e=>Heap.get?_push_of_some _ e) (Nat.le_refl _) (show zO X.prog X.w _ _ _ (.tup ys) from⟨hz,its,r',IsTup.new _ _⟩)
  exact⟨.ref h'.objs.size,_,I2,rfl,q _ (I1.hok.fresh (Nat.le_refl _))⟩
 ·obtain⟨its,r',pl,hz⟩:=I.tuple hq
  exact call_tuple_same pl ⟨.ref p,H,I,rfl,q⟩
def tyV (K:PySem.W.Frag)(T:String)(x:V)(H:Hp):Prop:=match x with
 |.str _=>T = "str"
 |.int _=>T = "int"
 |.ref p=>(T = "list" ∧ ∃ xs,SqL K H p xs)∨(T = "tuple" ∧ ∃ o,K.lookup p=some o∧o.cls=.type "tuple" ∧ o.dict=none) ∨
   (T = "dict" ∧ ((∃ kvs,H p=some (.dK kvs))∨∃ kvs,H p=some (.dT kvs)))∨(T = "set" ∧ ∃ S n,H p=some (.set S n))
 |_=>False
theorem MU {pins:List (Addr × Obj)}{σ : St}{H:Hp}{s:Shared}{T:String}{x:V}{v:Value}(I:Inv X pins σ H s)(r:qK x v)(ty:tyV X.K T x H) :
  s.TypeIs v T∧∀ a,v=.ref a→∃ ob,s.heap.get? a=some ob∧ob.dict=none:=by
 cases x with
 |str z =>
  obtain⟨t,rfl⟩:=r
  cases (show T = "str" from ty)
  exact⟨typeIs_str s z t,fun _ e=>nomatch e⟩
 |int i =>
  obtain⟨t,rfl⟩:=r
  cases (show T = "int" from ty)
  exact⟨typeIs_int s i t,fun _ e=>nomatch e⟩
 |ref p =>
  cases r
  rcases ty with⟨rfl,xs,hq⟩|⟨rfl,o,hk,hc,hd⟩|⟨rfl,hk⟩|⟨rfl,S,n,hk⟩
  ·obtain⟨its,_,pl,_⟩:=I.list hq
   refine⟨pl.isList.typeIs,fun a e=>?_⟩
   cases e
   obtain⟨o,n,e,c,hd,_⟩:=pl
   exact⟨o,e,hd⟩
  ·refine⟨⟨o,I.kIn p o hk,hc⟩,fun a e=>?_⟩
   cases e
   exact⟨o,I.kIn _ o hk,hd⟩
  ·have z:∃ o,s.heap.get? p=some o∧o.ExactDict:=by
    rcases hk with⟨kvs,hk⟩|⟨kvs,hk⟩
    ·obtain⟨_,_,_,_,o,_,_,e,ex,_⟩:=I.hok p _ hk
     exact⟨o,e,ex⟩
    ·obtain⟨_,_,_,_,o,_,_,e,ex,_⟩:=I.hok p _ hk
     exact⟨o,e,ex⟩
   obtain⟨o,e,ex⟩:=z
   refine⟨⟨o,e,ex.1⟩,fun a e2=>?_⟩
   cases e2
   exact⟨o,e,ex.2.1⟩
  ·obtain⟨o,_,_,_,e,ex,_⟩:=I.hok p _ hk
   refine⟨⟨o,e,ex.1⟩,fun a e2=>?_⟩
   cases e2
   exact⟨o,e,ex.2.1⟩
 |_=>exact False.elim ty
variable {o e:Expr}{es:List Expr}{to:TE}{t:TA}{name:Str}{apos cpos:Pos}{T id:String}{r:V→List V→Hp→VK→Prop}
/- xs.append(e),list.index on a module's tuple .. are MtR facts of 06m -/
end
end _L
namespace _L
open PySem PySem.Spec PyProof.Rows
theorem qL.one {x:V}{us:List Value}(h:qL [x] us):∃ u,us=[u]∧qK x u:=jV h
theorem qL.two {x y:V}{us:List Value}(h:qL [x,y] us):∃ u v,us=[u,v]∧qK x u∧qK y v:=iU h
theorem qL.rep {xs:List V}{us:List Value}(h:qL xs us):∀ k:Nat,qL (List.replicate k xs).flatten (List.replicate k us).flatten
 |0=>.nil
 |k+1=>by
  rw[List.replicate_succ,List.replicate_succ,List.flatten_cons,List.flatten_cons]
  exact qL.append h (qL.rep h k)
theorem nE (its:List Value):∀ (k:Nat) (acc:List Value),
  List.foldl (fun x1 x2=>x1++x2) acc.toArray (List.replicate k its.toArray)=(acc++(List.replicate k its).flatten).toArray
 |0,acc=>by simp
 |k+1,acc=>by
  have e:acc.toArray++its.toArray=(acc++its).toArray:=by simp
  have e2:(acc++its)++(List.replicate k its).flatten=acc++(List.replicate (k+1) its).flatten:=by
   rw[List.replicate_succ,List.flatten_cons,List.append_assoc]
  rw[← e2,← nE its k (acc++its),← e,List.replicate_succ,List.foldl_cons]
section
variable {X:Cx}{pins:List (Addr × Obj)}{σ : St}{H:Hp}{s:Shared}{l b:Addr}{xs ys zs:List V}
theorem Y0 {n:Nat}(h:n≤sizeLine):Builtin.List.listTooLong n=false:=by
 unfold Builtin.List.listTooLong
 exact decide_eq_false (by omega)
end
section
variable {X:Cx}
theorem K6 {α : Type}(xs:List α)(k:Nat):(List.replicate k xs).flatten.length=k*xs.length:=by
 induction k with
 |zero=>simp
 |succ k ih=>rw[List.replicate_succ,List.flatten_cons,List.length_append,ih,Nat.succ_mul,Nat.add_comm]
end
end _L
namespace _L
open PySem PySem.Spec PyProof.Rows
section
variable {κ : Type}[DecidableEq κ]
def jH (kvs:List (κ × V))(k:κ):Option V:=(kvs.find? fun kv=>decide (kv.1=k)).map (·.2)
def vS (kvs:List (κ × V))(k:κ)(v:V):List (κ × V):=
 if (kvs.any fun kv=>decide (kv.1=k))=true then kvs.map (fun kv=>if kv.1=k then (kv.1,v) else kv) else kvs++[(k,v)]
theorem rK {p:κ × V}{r:List (κ × V)}{k:κ}(e:p.1=k):jH (p::r) k=some p.2:=by simp[jH,List.find?_cons,e]
theorem rJ {p:κ × V}{r:List (κ × V)}{k:κ}(e:¬ p.1=k):jH (p::r) k=jH r k:=by simp[jH,List.find?_cons,e]
theorem rH (k:κ):∀ kvs:List (κ × V),(kvs.any fun kv=>decide (kv.1=k))=(jH kvs k).isSome
 |[]=>rfl
 |p::r=>by
  rw[List.any_cons]
  by_cases e:p.1=k
  ·simp only[rK e,decide_eq_true e,Bool.true_or,Option.isSome_some]
  ·rw[rJ e,decide_eq_false e,Bool.false_or];exact rH k r
theorem bD (kvs:List (κ × V))(k:κ)(v:V):(vS kvs k v).length≤kvs.length+1:=by
 unfold vS
 split
 ·rw[List.length_map];omega
 ·rw[List.length_append,List.length_cons,List.length_nil];omega
theorem gQ.isSome_eq {o:Option V}{u:Option Value}(r:gQ o u):o.isSome=u.isSome:=by
 cases o with
 |none=>cases u with
  |none=>rfl
  |some _=>exact(show False from r).elim
 |some _=>cases u with
  |none=>exact(show False from r).elim
  |some _=>rfl
theorem gQ.getD {o:Option V}{u:Option Value}{d:V}{d':Value}(r:gQ o u)(rd:qK d d'):qK (o.getD d) (u.getD d'):=by
 cases o with
 |none=>cases u with
  |none=>exact rd
  |some _=>exact(show False from r).elim
 |some _=>cases u with
  |none=>exact(show False from r).elim
  |some _=>exact r
theorem KV.any {kvs:List (κ × V)}{vs:List (κ × Value)}(r:KV kvs vs)(k:κ):(kvs.any fun kv=>decide (kv.1=k))=vs.any fun kv=>decide (kv.1=k):=by
 unfold KV at r
 induction r with
 |nil=>rfl
 |cons h t ih=>rw[List.any_cons,List.any_cons,ih,h.1]
theorem KV.repl {kvs:List (κ × V)}{vs:List (κ × Value)}(r:KV kvs vs)(k:κ){y:V}{u:Value}(ry:qK y u) :
  KV (kvs.map fun kv=>if kv.1=k then (kv.1,y) else kv) (vs.map fun kv=>if kv.1=k then (kv.1,u) else kv):=by
 unfold KV at r ⊢
 induction r with
 |nil=>exact .nil
 |@cons p q ps qs h t ih =>
  rw[List.map_cons,List.map_cons]
  refine .cons ?_ ih
  obtain⟨h1,h2⟩:=h
  by_cases e:p.1=k
  ·rw[if_pos e,if_pos (h1.symm.trans e)];exact⟨h1,ry⟩
  ·rw[if_neg e,if_neg (fun z=>e (h1.trans z))];exact⟨h1,h2⟩
theorem KV.put {kvs:List (κ × V)}{vs:List (κ × Value)}(r:KV kvs vs)(k:κ){y:V}{u:Value}(ry:qK y u):KV (vS kvs k y) (stored vs k u):=by
 unfold vS stored
 rw[r.any k]
 by_cases e:(vs.any fun kv=>decide (kv.1=k))=true
 ·rw[if_pos e,if_pos e];exact r.repl k ry
 ·rw[if_neg e,if_neg e];exact Paired.snoc r ⟨rfl,ry⟩
theorem KV.length {kvs:List (κ × V)}{vs:List (κ × Value)}(r:KV kvs vs):kvs.length=vs.length:=Paired.length r
end
theorem VA {P:Program}{w:World}{k:Key}{u:Value}(r:qK (kV k) u):(xQ P w).is k u=true:=by
 cases k with
 |inl i=>obtain⟨t,e⟩:=(show ∃ t,u=Value.int i t from r);subst e;exact rQ P w i t
 |inr x=>obtain⟨t,e⟩:=(show ∃ t,u=Value.str x t from r);subst e;exact rR P w x t
theorem nK {P:Program}{w:World}:∀ {ks:List Key} {us:List Value},qL (ks.map kV) us→ItemsAre (xQ P w) ks us
 |[],_,r=>by rw[List.map_nil] at r;cases r;exact .nil
 |k::ks,_,r=>by
  rw[List.map_cons] at r
  cases r with
  |cons h t=>exact .cons (VA h) (nK t)
abbrev KT (H:Hp):List (List Key × V)→List (List Key × Addr × Value)→Prop:=Paired fun p q=>p.1=q.1∧H q.2.1=some (.tup (p.1.map kV))∧qK p.2 q.2.2
theorem KT.val {H:Hp}{kvs:List (List Key × V)}{xs:List (List Key × Addr × Value)}(r:KT H kvs xs)(k:List Key):gQ (jH kvs k) ((atKey xs k).map (·.2)):=by
 induction r with
 |nil=>exact True.intro
 |@cons p q ps qs h t ih =>
  obtain⟨h1,_,h2⟩:=h
  by_cases e:p.1=k
  ·have e':q.1=k:=h1.symm.trans e
   have b:atKey (q::qs) k=some q.2:=by simp[atKey,List.find?_cons,e']
   rw[rK e,b];exact h2
  ·have e':¬ q.1=k:=fun z=>e (h1.trans z)
   have b:atKey (q::qs) k=atKey qs k:=by simp[atKey,List.find?_cons,e']
   rw[rJ e,b];exact ih
theorem KT.repl {H:Hp}{kvs:List (List Key × V)}{xs:List (List Key × Addr × Value)}(r:KT H kvs xs)(k:List Key){y:V}{u:Value}(ry:qK y u) :
  KT H (kvs.map fun kv=>if kv.1=k then (kv.1,y) else kv) (xs.map (putAt k u)):=by
 induction r with
 |nil=>exact .nil
 |@cons p q ps qs h t ih =>
  rw[List.map_cons,List.map_cons]
  refine .cons ?_ ih
  obtain⟨h1,h2,h3⟩:=h
  unfold putAt
  by_cases e:p.1=k
  ·rw[if_pos e,if_pos (h1.symm.trans e)];exact⟨h1,h2,ry⟩
  ·rw[if_neg e,if_neg (fun z=>e (h1.trans z))];exact⟨h1,h2,h3⟩
theorem KT.put {H:Hp}{kvs:List (List Key × V)}{xs:List (List Key × Addr × Value)}(r:KT H kvs xs)(k:List Key){b:Addr}{y:V}{u:Value}(hb:H b=some (.tup (k.map kV)))(ry:qK y u) :
  KT H (vS kvs k y) (storedH xs k b u):=by
 have e:(kvs.any fun kv=>decide (kv.1=k))=(atKey xs k).isSome:=by
  rw[rH,(r.val k).isSome_eq,Option.isSome_map]
 unfold vS storedH
 rw[e]
 by_cases q:(atKey xs k).isSome=true
 ·rw[if_pos q,if_pos q];exact r.repl k ry
 ·rw[if_neg q,if_neg q];exact Paired.snoc r ⟨rfl,hb,ry⟩
theorem KT.keeps {H H':Hp}{kvs:List (List Key × V)}{xs:List (List Key × Addr × Value)}(r:KT H kvs xs)(ht:∀ b ys,H b=some (.tup ys)→H' b=some (.tup ys)):KT H' kvs xs:=
 Paired.mapP r fun _ _ z=>⟨z.1,ht _ _ z.2.1,z.2.2⟩
section
variable {P:Program}{w:World}{H:Hp}{h:Heap}{a:Addr}
theorem VV {u:HO}(ok:HOk P w H h)(e:Rd H a u):zO P w H h a u:=e.ok ok
theorem TY {kvs:List (Key × V)}(ok:HOk P w H h)(e:Rd H a (.dK kvs)):kvs.length≤sizeLine∧(a == sysModules)=false∧∃ vs,KV kvs vs∧h.DictOf (xQ P w) a vs:=
 show zO P w H h a (.dK kvs) from VV ok e
theorem TX {kvs:List (Key × V)}(ok:HOk P w H h)(e:H a=some (.dK kvs)):kvs.length≤sizeLine∧(a == sysModules)=false∧∃ vs,KV kvs vs∧h.DictOf (xQ P w) a vs:=TY ok (.inl e)
theorem Q3 {ks:List Key}(ok:HOk P w H h)(e:H a=some (.tup (ks.map kV))):(tupleKind (xQ P w)).is h ks a:=by
 obtain⟨_,its,r,o,h1,h2,n,h3⟩:=(show zO P w H h a (.tup (ks.map kV)) from ok a _ e)
 exact⟨o,its.toArray,n,h1,h2,h3,by simpa using nK r⟩
theorem N1 {kvs:List (List Key × V)}(ok:HOk P w H h)(e:Rd H a (.dT kvs)):kvs.length≤sizeLine∧(a == sysModules)=false ∧
  ∃ xs,KT H kvs xs∧h.DictOfH (tupleKind (xQ P w)) a xs:=by
 obtain⟨z,y,xs,r,o,es,ep,h1,h2,h3,h4,h5⟩:=(show zO P w H h a (.dT kvs) from VV ok e)
 refine⟨z,y,xs,r,o,es,ep,h1,h2,h3,h4,fun x hx=>?_,h5⟩
 have all:∀ {l:List (List Key × V)} {m:List (List Key × Addr × Value)},KT H l m→∀ x∈m,(tupleKind (xQ P w)).is h x.1 x.2.1:=by
  intro l m q
  induction q with
  |nil=>intro x hx;exact nomatch hx
  |@cons p q ps qs hq t ih =>
   intro x hx
   rcases List.mem_cons.mp hx with e|hx
   ·subst e
    exact Q3 ok (by rw[← hq.1];exact hq.2.1)
   ·exact ih x hx
 exact all r x hx
theorem N0 {kvs:List (List Key × V)}(ok:HOk P w H h)(e:H a=some (.dT kvs)):kvs.length≤sizeLine∧(a == sysModules)=false ∧
  ∃ xs,KT H kvs xs∧h.DictOfH (tupleKind (xQ P w)) a xs:=N1 ok (.inl e)
end
def cW (H:Hp)(a:Addr)(y:V)(r:Option V):Prop:=
 (∃ kvs k,Rd H a (.dK kvs)∧y=kV k∧r=jH kvs k)∨∃ kvs k b,Rd H a (.dT kvs)∧y=.ref b∧H b=some (.tup (k.map kV))∧r=jH kvs k
def mM (H:Hp)(a:Addr)(y v:V)(H':Hp):Prop:=
 (∃ kvs k,H a=some (.dK kvs)∧y=kV k∧kvs.length<sizeLine∧H'=upd H a (.dK (vS kvs k v))) ∨
 ∃ kvs k b,H a=some (.dT kvs)∧y=.ref b∧H b=some (.tup (k.map kV))∧kvs.length<sizeLine∧H'=upd H a (.dT (vS kvs k v))
theorem cW.k {H:Hp}{a:Addr}{kvs:List (Key × V)}{k:Key}(e:H a=some (.dK kvs)):cW H a (kV k) (jH kvs k):=.inl ⟨kvs,k,.inl e,rfl,rfl⟩
theorem cW.t {H:Hp}{a b:Addr}{kvs:List (List Key × V)}{k:List Key}(e:H a=some (.dT kvs))(eb:H b=some (.tup (k.map kV))):cW H a (.ref b) (jH kvs k):=.inr ⟨kvs,k,b,.inl e,rfl,eb,rfl⟩
theorem mM.k {H:Hp}{a:Addr}{kvs:List (Key × V)}{k:Key}{v:V}(e:H a=some (.dK kvs))(hl:kvs.length<sizeLine):mM H a (kV k) v (upd H a (.dK (vS kvs k v))):=.inl ⟨kvs,k,e,rfl,hl,rfl⟩
theorem mM.t {H:Hp}{a b:Addr}{kvs:List (List Key × V)}{k:List Key}{v:V}(e:H a=some (.dT kvs))(eb:H b=some (.tup (k.map kV)))(hl:kvs.length<sizeLine) :
  mM H a (.ref b) v (upd H a (.dT (vS kvs k v))):=.inr ⟨kvs,k,b,e,rfl,eb,hl,rfl⟩
section
variable {X:Cx}{pins:List (Addr × Obj)}{σ : St}{H:Hp}{s:Shared}{a:Addr}{y v:V}{u r:Value}{o:Option V}{A:Around}{E:Value→Shared→Prop}
theorem Inv.big (I:Inv X pins σ H s):sysModules<s.heap.objs.size:=by
 have h:mainGlobals<s.heap.objs.size:=(I.mod.glob.keeps I.bk).lt
 exact Nat.lt_trans (by decide) h
theorem eE {h':Heap}{t':Nat}{ob:HO}(I:Inv X pins σ H s)(mu:Mut (H a))(hs:Heap.SameBut a s.heap h')(he:∃ q,h'.get? a=some q)(new:zO X.prog X.w (upd H a ob) h' a ob) :
  Inv X pins σ (upd H a ob) { s with heap:=h',toks:=t' }:=
 I.write (x:=a) (e:=a) mu (.inl rfl) (fun b q hb z=>(hs.2 b hb).trans z) he new
theorem B6 {P:Program}{w:World}{H':Hp}{h':Heap}{kvs:List (Key × V)}{vs:List (Key × Value)}(z:kvs.length≤sizeLine)(hd:(a == sysModules)=false)(rel:KV kvs vs)(dd:h'.DictOf (xQ P w) a vs) :
  zO P w H' h' a (.dK kvs):=⟨z,hd,vs,rel,dd⟩
theorem oF {H':Hp}{Q:Unit→Shared→Prop}(hu:A.units+1<cLine)(I:Inv X pins σ H s)(g:mM H a y v H')(ry:qK y u)(rv:qK v r)(h:∀ s',Inv X pins σ H' s'→Q () s') :
  wpAny (model X.prog X.w) A (setItem (.ref a) u r) Q E s:=by
 rcases g with⟨kvs,k,e,ey,l,eH⟩|⟨kvs,k,b,e,ey,eb,l,eH⟩
 ·subst ey eH
  obtain⟨z,hd,vs,rel,dd⟩:=TX I.hok e
  have hz:vs.length≤sizeLine:=by rw[← rel.length];exact z
  have hl:(vS kvs k v).length≤sizeLine:=by have:=bD kvs k v;omega
  refine wpAny_setItem_pairs (hsz:=hz) (VA ry) dd fun h' dd' hs=>h _ ?_
  have he:∃ q,h'.get? a=some q:=let ⟨q,_,_,hq,_⟩:=dd';⟨q,hq⟩
  exact eE I (by rw[e];exact True.intro) hs he (B6 hl hd (rel.put k rv) dd')
 ·subst ey eH
  cases (show u=Value.ref b from ry)
  obtain⟨z,hd,xs,rel,dd⟩:=N0 I.hok e
  have hz:xs.length≤sizeLine:=by rw[← Paired.length rel];exact z
  have hl:(vS kvs k v).length≤sizeLine:=by have:=bD kvs k v;omega
  refine wpAny_setItem_heap (hsz:=hz) (tupleKind_room_in1 hu) (Q3 I.hok eb) dd fun h' dd' hs=>h _ ?_
  obtain⟨q,es,ep,hq,h2,h3,h4,_,h5⟩:=dd'
  refine eE I (by rw[e];exact True.intro) hs ⟨q,hq⟩ ⟨hl,hd,_,(rel.put k eb rv).keeps fun c ys ec=>?_,q,es,ep,hq,h2,h3,h4,h5⟩
  rw[qP (NE ec e (fun z=>nomatch z))]
  exact ec
end
theorem WD {P:Program}{w:World}{H:Hp}(h:Heap)(hb:sysModules<h.objs.size):zO P w H (h.push { cls:=.type "dict",data:=.dict #[] }) h.objs.size (.dK []):=
 ⟨Nat.zero_le _,beq_eq_false_iff_ne.mpr (Ne.symm (Nat.ne_of_lt hb)),[],.nil,Heap.DictOf.new h⟩
def MM:TE:=fun _ H Q=>∀ p,H p=none→Q (.ref p) (upd H p (.dK []))
section
variable {X:Cx}{pos:Pos}
theorem Y3:PE X (.Dict [] [] pos) MM:=fun pins s σ H Q I h =>
 wpAny_Dict_empty ⟨.ref s.heap.objs.size,_,I.laid (a:=s.heap.objs.size) (o:=.dK []) (t':=s.toks) (fun _ _ q=>Heap.get?_push_of_some _ q) (Nat.le_refl _) (WD s.heap I.big),rfl,h _ (I.hok.fresh (Nat.le_refl _))⟩
end
end _L
namespace _A
open PySem PySem.W PySem.Calls PyProof.Rows
theorem fN {P:Params}{h:Heap}:∀ (ns:List Int) (vs:List Value),WellAll P h vs (ns.map WData.int)→IntsAre vs ns:=by
 intro ns
 induction ns with
 |nil =>
  intro vs w
  rw[List.map_nil] at w
  cases w
  exact .nil
 |cons n ns ih =>
  intro vs w
  rw[List.map_cons] at w
  cases w with
  |cons a b =>
   cases a
   exact .cons _ _ (ih _ b)
theorem X6 {l:OpenLaw}{n:Nat}(hn:l.most=some n){P:Params}{h:Heap}{args:List WData}{vals:List Value}
  (hpre:l.row.toRowW.claim.pre args=true) (hwl:WellAll P h vals args) :
  ∃ a vs ns,vals=[Value.ref a]∧args=[WData.list (ns.map WData.int)]∧h.get? a=some { cls:=.type "list",data:=.seq vs.toArray } ∧ IntsAre vs ns∧ns.length≤n:=by
 have hsh:WShape.hasAll [] args [.list .int]=true:=(pre_splitW hpre).1
 have hc:l.pre.holds [] { args:=args } = true:=(pre_splitW hpre).2
 obtain⟨d,r,rfl,h1,h2⟩:=hasAllW_cons hsh
 obtain rfl:=hasAllW_nil h2
 obtain⟨xs,rfl,h3⟩:=hasW_list h1
 obtain⟨ns,rfl⟩:=items_int h3
 have hlen:ns.length≤n:=by
  unfold OpenLaw.pre at hc
  have h4:(WTm.not (.lt (.lit (.int (n:Int))) (.len (.arg 0)))).holds [] { args:=[.list (ns.map .int)] } = true:=by
   have h4:=(holds_andW hc).1
   rw[hn] at h4
   exact h4
  have h5:=condW_of h4 (w_not (w_lt w_lit (w_len_list (w_arg rfl))))
  rw[List.length_map] at h5
  refine Nat.le_of_not_lt fun q=>?_
  have q':(n:Int)<((ns.length:Nat):Int):=by omega
  first
   |(rw[decide_eq_true q'] at h5;exact absurd h5 (by decide))
   |(simp at h5;omega)
 cases hwl with
 |cons w1 w2 =>
  cases w2
  cases w1 with
  |list ho hall=>exact⟨_,_,ns,rfl,rfl,ho,fN ns _ hall,hlen⟩
theorem Z4 (l:OpenLaw)(args:List WData):l.row.toRowW.claim.post args (.bool true) args=true:=
 postW_of (r:=l.row.toRowW) (X:=(true == true))
  (show WShape.has [] (.bool true) .bool=true by first|rfl|decide|simp[WShape.has,WShape.arms,WShape.armsAll])
  (show (WTm.eq .res (.lit (.bool true))).value [] { args:=args,res:=some (.bool true),after:=args } = some (.bool (true == true)) from w_eq_bool (w_res rfl) w_lit) rfl
theorem attach_call {l:OpenLaw}{n:Nat}{q:Program}{loose:List Str}{XP:(Str→Option Value)→Heap→Prop}{YP:World→Heap→Prop}{d:DefRec}
  (hn:l.most=some n) (hdf:d.params.defaults=[])
  (call:∀ (w:World) (s₀ s₁:Shared) (mg mb:Str→Option Value) (fa:Addr) (o:Obj) (pm cd doc:Value) (a:Addr) (vs:List Value) (ns:List Int),
   Ground q loose [] XP w s₀ mg mb s₁.heap→YP w s₁.heap →
   s₁.heap.get? fa=some o→o.data=.func (docDef d.name d.params d.body d.scope pm cd doc)→s₁.heap.CodeRec cd d.name→mg d.name=some (.ref fa) →
   s₁.heap.get? a=some { cls:=.type "list",data:=.seq vs.toArray } → IntsAre vs ns→ns.length≤n→s₁.gens=#[] →
   codeAny (model l.prog w) callerA (.call (.ref fa) ⟨[.ref a],[]⟩) (fun r s'=>r=.ok (.ret (.bool true))∧OldK s₁.heap s'.heap∧s'.os=s₁.os∧AllBare s'.gens) s₁) :
  WalkO q loose XP YP l.row.toRowW d [] (fun f vs=>PySem.call f vs):=by
 intro w s₀ s₁ mg mb G Y fa o pm cd doc dV kV ho hd hcd hD hmg hg args vals as hpre hlay hrd hwl hlo
 obtain rfl:dV=.none:=Dflts.none hD hdf
 obtain rfl:kV=.none:=Dflts.noKw hD
 obtain⟨a,vs,ns,rfl,rfl,hobj,hints,hlen⟩:=X6 hn hpre hwl
 refine enter_call (codeAny_mono (call w s₀ s₁ mg mb fa o pm cd doc a vs ns G Y ho (fd_plain hd) hcd hmg hobj hints hlen hg) fun r s' hq=>?_)
 obtain⟨rfl,h2,h3,h4⟩:=hq
 exact⟨.inl ⟨.bool true,.bool true,[],rfl,fun _=>rfl,.bool true,Z4 l _,fun _=>⟨List.Pairwise.nil,fun _ hm=>(nomatch hm)⟩⟩,h2,h3,h4⟩
end _A
namespace _L
open PySem PySem.Spec PyProof.Rows
theorem XB {vs:List Value}{ns:List Int}(h:IntsAre vs ns):qL (ns.map V.int) vs:=by
 induction h with
 |nil=>exact .nil
 |cons n t h ih=>exact .cons ⟨t,rfl⟩ ih
def SqX (K:PySem.W.Frag)(H:Hp)(a:Addr)(xs:List V):Prop:=
 Rd H a (.lst xs)∨∃ (its:List Value) (n:Nat),K.lookup a=some { cls:=.type "list",data:=.seq its.toArray n } ∧ xs.length≤sizeLine∧qL xs its
theorem SqX.l {K:PySem.W.Frag}{H:Hp}{a:Addr}{xs:List V}(h:SqX K H a xs):SqL K H a xs:=by
 rcases h with h|⟨its,n,e,l,v⟩
 ·exact .inl h
 ·exact .inr ⟨_,its.toArray,n,e,rfl,rfl,rfl,by rw[List.size_toArray,← v.length];exact l,by simpa using v⟩
def XQ (H:Hp):Prop:=∀ b,H b=none∨∃ o xs,H b=some (.frz o (.lst xs))
theorem WT {P:Program}{w:World}{K:PySem.W.Frag}{mg mb:Str→Option Value}{CX:CXT}{k:Nat}{fa a:Addr}{fd:FuncData}{x:Str}{sp:Sp}{s₁:Shared}{vs:List Value}{ns:List Int}
  (KX:K.In s₁.heap) (hns:s₁.heap.Ns mainGlobals mg) (hb:s₁.heap.Ns builtinsNs mb) (hbb:∀ x:Str,x ≠ "__name__" → mb x=bootBuiltins x) (hlim:s₁.heap.NoLimit) (hg:s₁.gens=#[])
  (ha:s₁.heap.get? a=some { cls:=.type "list",data:=.seq vs.toArray }) (hi:IntsAre vs ns) (hl:ns.length≤sizeLine) (hr:Room k callerA)
  (F:∀ base:Heap,K.In base→base.Ns mainGlobals mg→FnOk P w K mg base CX k fa fd [x] sp) (hbind:∀ (s:Shared) (u:Value),BindsTo s fd ⟨[u],[]⟩ [(x,u)])
  (hsp:∀ H:Hp,XQ H→SqX K H a (ns.map V.int)→sp [.ref a] H (fun v _=>v=.bl true) fun _ _ _=>False)
  (hCX:∀ H e s',CX [] H s₁ (fun _ _ _=>False) e s'→False) :
  codeAny (model P w) callerA (.call (.ref fa) ⟨[.ref a],[]⟩) (fun r s'=>r=.ok (.ret (.bool true))∧OldK s₁.heap s'.heap∧s'.os=s₁.os∧AllBare s'.gens) s₁:=by
 have rv:=XB hi
 have lenV:=hi.length
 have core:∀ H:Hp,XQ H→SqX K H a (ns.map V.int)→HOk P w H s₁.heap→(∀ b,H b≠none→b=a)→(H a≠none→K.lookup a=none) →
   codeAny (model P w) callerA (.call (.ref fa) ⟨[.ref a],[]⟩) (fun r s'=>r=.ok (.ret (.bool true))∧OldK s₁.heap s'.heap∧s'.os=s₁.os∧AllBare s'.gens) s₁:=by
  intro H hO hS hok hA hK
  have base_of:∀ {b:Addr} {o:Obj},s₁.heap.get? b=some o→H b=none→(kY s₁.heap H).get? b=some o:=fun e n=>WO e n
  have noA:∀ {b:Addr} {o:Obj} {es:Array DictEntry} {ep:Nat},s₁.heap.get? b=some o→o.data=.dict es ep→H b=none:=fun {b o es ep} e d=>by
   cases q:H b with
   |none=>rfl
   |some u =>
    have e':b=a:=hA b (by rw[q];simp)
    subst e'
    rw[ha] at e;cases e
    have d':Data.seq vs.toArray _=Data.dict es ep:=d
    cases d'
  have nsK:∀ {b:Addr} {m:Str→Option Value},s₁.heap.Ns b m→(kY s₁.heap H).Ns b m:=fun {b m} ⟨o,es,ep,e,d,r⟩=>⟨o,es,ep,base_of e (noA e d),d,r⟩
  have hKb:K.In (kY s₁.heap H):=fun b o e=>base_of (KX b o e) (by
   cases q:H b with
   |none=>rfl
   |some u =>
    have e':b=a:=hA b (by rw[q];simp)
    subst e'
    rw[hK (by rw[q];simp)] at e;cases e)
  have hM:Mod K mg (kY s₁.heap H):=⟨hKb,nsK hns,⟨mb,nsK hb,hbb⟩,let ⟨mc,h1,h2⟩:=hlim;⟨mc,nsK h1,h2⟩⟩
  have e0:Env0 P w K mg (kY s₁.heap H) callerA [] s₁ H:=⟨rfl,hM,fun b o e=>KH e,Nat.le_of_eq (oU _ _),trivial,fun b hb=>absurd (show b∈([]:List Addr) from hb) (by simp),hok,.of_eq hg⟩
  refine codeAny_mono ((F _ hKb (nsK hns)).run callerA [] s₁ H ⟨[.ref a],[]⟩ [.ref a] [.ref a] _ _ hr e0 (hbind s₁ (.ref a)) (.cons rfl .nil) (hsp H hO hS)) fun r s' h=>?_
  cases r with
  |error e=>exact(hCX H e s' h).elim
  |ok fl =>
   cases fl with
   |next=>exact False.elim h
   |brk=>exact False.elim h
   |cont=>exact False.elim h
   |ret u =>
    obtain⟨v,H',os,bare,un,hok',r',q⟩:=h
    have q':v=.bl true:=q
    subst q'
    obtain rfl:u=Value.bool true:=r'
    refine⟨rfl,OldK.of_keep fun b o e=>?_,os,bare⟩
    cases q:H b with
    |none=>exact un.keep b o e q (by intro z;exact absurd (show b∈([]:List Addr) from z) (by simp)) (by simp)
    |some u =>
     rcases hO b with z|⟨ob,xs,z⟩
     ·rw[q] at z;cases z
     ·have z2:=un.frzs b ob _ z
      obtain⟨e1,_⟩:=hok b _ z
      obtain⟨e2,_⟩:=hok' b _ z2
      rw[e] at e1;cases e1
      exact e2
 cases hk:K.lookup a with
 |some o =>
  have e:=KX a o hk
  rw[ha] at e
  cases e
  refine core (fun _=>none) (fun _=>.inl rfl) (.inr ⟨vs,_,hk,by rw[List.length_map];exact hl,rv⟩) (fun b u z=>by have z':(none:Option HO)=some u:=z;cases z') (fun b z=>absurd rfl z) fun z=>absurd rfl z
 |none =>
  refine core (fun b=>if b=a then some (.frz { cls:=.type "list",data:=.seq vs.toArray } (.lst (ns.map V.int))) else none) (fun b=>?_) (.inl (.inr ⟨{ cls:=.type "list",data:=.seq vs.toArray },if_pos rfl⟩)) (fun b u z=>?_) (fun b z=>?_) fun _=>hk
  ·by_cases hb:b=a
   ·exact .inr ⟨_,_,if_pos hb⟩
   ·exact .inl (if_neg hb)
  ·by_cases hb:b=a
   ·have z':=(if_pos hb).symm.trans z
    cases z'
    subst hb
    exact⟨ha,by rw[List.length_map];exact hl,vs,_,rv,ha⟩
   ·have z':=(if_neg hb).symm.trans z
    cases z'
  ·by_cases hb:b=a
   ·exact hb
   ·exact absurd (if_neg hb) z
end _L
namespace _L
open PySem PySem.Spec PyProof.Rows
theorem GN {l:PySem.W.OpenLaw}{n k:Nat}{q:Program}{loose:List Str}{XP:(Str→Option Value)→Heap→Prop}{YP:World→Heap→Prop}{d:DefRec}{K:Params→PySem.W.Frag}{CX:World→CXT}{sp:World→Sp}{x:Str}
  (hn:l.most=some n) (hn2:n≤sizeLine) (hdf:d.params.defaults=[]) (hr:Room k callerA)
  (hY:∀ (w:World) (h:Heap),YP w h→(K w.params).In h)
  (F:∀ (w:World) (mg:Str→Option Value) (fa:Addr) (h:Heap),(K w.params).In h→h.Ns mainGlobals mg→mg d.name=some (.ref fa) →
   ∃ fd:FuncData,(∀ (s:Shared) (u:Value),BindsTo s fd ⟨[u],[]⟩ [(x,u)]) ∧
    ∀ base:Heap,(K w.params).In base→base.Ns mainGlobals mg→FnOk l.prog w (K w.params) mg base (CX w) k fa fd [x] (sp w))
  (hsp:∀ (w:World) (H:Hp) (a:Addr) (ns:List Int),ns.length≤n→XQ H→SqX (K w.params) H a (ns.map V.int)→sp w [.ref a] H (fun v _=>v=.bl true) fun _ _ _=>False)
  (hCX:∀ (w:World) (H:Hp) (s:Shared) (e:Value) (s':Shared),CX w [] H s (fun _ _ _=>False) e s'→False) :
  PySem.W.WalkO q loose XP YP l.row.toRowW d [] (fun f vs=>PySem.call f vs):=by
 refine _A.attach_call hn hdf fun w s₀ s₁ mg mb fa o pm cd doc a vs ns G Y ho hd hcd hmg hobj hints hlen hg=>?_
 have KX:=hY w _ Y
 obtain⟨fd,hb,hF⟩:=F w mg fa _ KX G.T.g hmg
 exact WT KX G.T.g G.T.b G.T.builtins G.T.nolimit hg hobj hints (Nat.le_trans hlen hn2) hr hF hb (fun H hO hS=>hsp w H a ns hlen hO hS) fun H e s'=>hCX w H s₁ e s'
end _L
namespace _L
open PySem PySem.Spec PyProof.Rows
def yH (s:Stmt):Arguments:=match s with
 |.FunctionDef _ a _ _ _ _ _ _ _ _=>a
 |_=>{ posonlyargs:=[],args:=[],vararg:=none,kwonlyargs:=[],kw_defaults:=[],kwarg:=none,defaults:=[] }
def x5 (s:Stmt):List Stmt:=match s with
 |.FunctionDef _ _ b _ _ _ _ _ _ _=>b
 |_=>[]
def qJ (s:Stmt):Scope:=match s with
 |.FunctionDef _ _ _ _ _ _ sc _ _ _=>sc
 |_=>{ kind:=.function,names:=[],isGenerator:=false,isCoroutine:=false }
abbrev CX0:CXT:=fun _ _ _ _ _ _=>False
structure Fun (K:PySem.W.Frag)(x qual:Str)(st:Stmt)(f:Addr)(fd:FuncData):Prop where
 ex:∃ (oc:Value) (od:Option Addr) (kV doc pm:Value) (an:Option Addr) (cdv ct:Value) (osl:Array (Option Value)),
  fd=PySem.W.fnOf x qual (yH st) (x5 st) (qJ st) .none kV doc pm an cdv ct∧K.lookup f=some ⟨oc,od,.func fd,osl⟩∧PySem.W.codeIn K cdv qual=true
 kp:PySem.W.keepIn K (.ref f)=true
section
variable {P:Program}{w:World}{K:PySem.W.Frag}{mg:Str→Option Value}{base:Heap}
theorem Fun.ok {x qual:Str}{st:Stmt}{f:Addr}{fd:FuncData}{N ps:List Str}{k:Nat}{sp:Sp}(F:Fun K x qual st f fd)(S:FnScope N ps (qJ st))(len:∀ vs H Q E,sp vs H Q E→vs.length=ps.length)
  (hbody:∀ (cdv:Value) (A:Around) (outer:List Env) (s:Shared) (H:Hp) (vs:List V) (Q:VK) (E:XK),Room k (A.deeper (envOfC qual (qJ st) s.heap.objs.size f cdv))→sp vs H Q E →
   ∃ t,PSs (mQ CX0 P w K mg base N qual (qJ st) f cdv A outer s H E).nox (x5 st) t∧t { nx:=fun _ H'=>Q .non H',rt:=Q } (wU N vs) H):FnOk P w K mg base CX0 (k+1) f fd ps sp:=by
 obtain⟨oc,od,kV,doc,pm,an,cdv,ct,osl,rfl,lk,hcd⟩:=F.ex
 refine N5 lk hcd S len fun A outer s H vs Q E hr hsp=>?_
 obtain⟨t,h,q⟩:=hbody cdv A outer s H vs Q E hr hsp
 exact⟨t,h.nox,q⟩
theorem Fun.binds {x qual:Str}{st:Stmt}{f:Addr}{fd:FuncData}{ps:List Str}(F:Fun K x qual st f fd)
  (h:∀ (kV doc pm:Value) (an:Option Addr) (cdv ct:Value) (us:List Value),us.length=ps.length→bindArgs (PySem.W.fnOf x qual (yH st) (x5 st) (qJ st) .none kV doc pm an cdv ct) ⟨us,[]⟩=pure (ps.zip us)):uH K fd ps []:=by
 obtain⟨oc,od,kV,doc,pm,an,cdv,ct,osl,rfl,lk,hcd⟩:=F.ex
 exact .all (h kV doc pm an cdv ct)
theorem BO {x qual:Str}{st:Stmt}{f:Addr}{oc:Value}{od an:Option Addr}{osl:Array (Option Value)}{kV doc pm cdv ct:Value}(l:K.lookup f=some ⟨oc,od,.func (PySem.W.fnOf x qual (yH st) (x5 st) (qJ st) .none kV doc pm an cdv ct),osl⟩)
  (c:PySem.W.codeIn K cdv qual=true) (k:PySem.W.keepIn K (.ref f)=true):Fun K x qual st f (PySem.W.fnOf x qual (yH st) (x5 st) (qJ st) .none kV doc pm an cdv ct):=⟨⟨oc,od,kV,doc,pm,an,cdv,ct,osl,rfl,l,c⟩,k⟩
end
def qH (H H':Hp):Prop:=∀ b o,H b=some o→H' b=some o
theorem qH.refl (H:Hp):qH H H:=fun _ _ h=>h
theorem qH.trans {H H1 H2:Hp}(a:qH H H1)(b:qH H1 H2):qH H H2:=fun c o h=>b c o (a c o h)
theorem qH.free {H H':Hp}(e:qH H H'){l:Addr}(h:H' l=Option.none):H l=Option.none:=by
 cases q:H l with
 |none=>rfl
 |some o =>
  rw[e l o q] at h
  cases h
theorem qH.seq {K:PySem.W.Frag}{H H':Hp}{a:Addr}{xs:List V}(e:qH H H')(h:SqL K H a xs):SqL K H' a xs:=by
 rcases h with (h|⟨o,h⟩)|h
 ·exact .inl (.inl (e _ _ h))
 ·exact .inl (.inr ⟨o,e _ _ h⟩)
 ·exact .inr h
end _L
end
section
namespace _S
open PySem
def Rs (xs:Array Nat):Prop:=xs.toList.Pairwise (· < ·)
theorem Rs.lt {xs:Array Nat}(h:Rs xs){a b:Nat}{x y:Nat}(hab:a<b)(ha:xs[a]? = some x)(hb:xs[b]? = some y):x<y:=by
 obtain⟨h1,e1⟩:=Array.getElem?_eq_some_iff.mp ha
 obtain⟨h2,e2⟩:=Array.getElem?_eq_some_iff.mp hb
 have:=List.pairwise_iff_getElem.mp h a b (by simpa using h1) (by simpa using h2) hab
 rw[← e1,← e2];simpa using this
theorem getD_some {xs:Array Nat}{i x d:Nat}(h:xs[i]? = some x):xs.getD i d=x:=by
 obtain⟨h1,e1⟩:=Array.getElem?_eq_some_iff.mp h
 simp[Array.getD,h1,e1]
structure Bel (xs:Array Nat)(j p:Nat):Prop where
 le:p≤xs.size
 lo:∀ i x,i<p→xs[i]? = some x→x<j
 hi:∀ i x,p≤i→xs[i]? = some x→j≤x
set_option tactic.hygienic true in
theorem bJ {xs:Array Nat}(h:Rs xs)(j:Nat):∀ (fuel lo hi:Nat),hi-lo≤fuel→lo≤hi→hi≤xs.size →
  (∀ i x,i<lo→xs[i]? = some x→x<j)→(∀ i x,hi≤i→xs[i]? = some x→j≤x)→Bel xs j (SetTable.below.go xs j fuel lo hi)
 |0,lo,hi,h1,h2,h3,h4,h5=>by
  have:lo=hi:=by omega
  subst this
  exact⟨h3,h4,h5⟩
 |fuel+1,lo,hi,h1,h2,h3,h4,h5=>by
  unfold SetTable.below.go
  by_cases hlt:lo<hi
  ·rw[if_pos hlt]
   have hm:(lo+hi)/2<xs.size:=by omega
   have e:xs[(lo+hi)/2]? = some xs[(lo+hi)/2]:=Array.getElem?_eq_getElem hm
   simp only[getD_some e]
   split
   ·rename_i hc
    refine bJ h j fuel _ hi (by omega) (by omega) h3 (fun i x hi' ex=>?_) h5
    by_cases q:i=(lo+hi)/2
    ·subst q;rw[e] at ex;cases ex;exact hc
    ·exact Nat.lt_trans (h.lt (by omega) ex e) hc
   ·rename_i hc
    refine bJ h j fuel lo _ (by omega) (by omega) (by omega) h4 (fun i x hi' ex=>?_)
    by_cases q:i=(lo+hi)/2
    ·subst q;rw[e] at ex;cases ex;omega
    ·have:=h.lt (show (lo+hi)/2<i by omega) e ex
     omega
  ·rw[if_neg hlt]
   have:lo=hi:=by omega
   subst this
   exact⟨h3,h4,h5⟩
theorem j6 {xs:Array Nat}(h:Rs xs)(j:Nat):Bel xs j (SetTable.below xs j):=
 bJ h j _ _ _ (by omega) (by omega) (Nat.le_refl _) (fun i x hi=>by omega) fun i x hi ex=>by
  have:=(Array.getElem?_eq_some_iff.mp ex).1
  omega
theorem bI {xs:Array Nat}(h:Rs xs){i j:Nat}(e:xs[i]? = some j):SetTable.below xs j=i:=by
 have b:=j6 h j
 have hi:=(Array.getElem?_eq_some_iff.mp e).1
 by_cases h1:SetTable.below xs j<i
 ·have e2:xs[SetTable.below xs j]? = some xs[SetTable.below xs j]:=Array.getElem?_eq_getElem (by omega)
  have:=h.lt h1 e2 e
  have:=b.hi _ _ (Nat.le_refl _) e2
  omega
 ·by_cases h2:i<SetTable.below xs j
  ·have:=b.lo _ _ h2 e
   omega
  ·omega
theorem aA {xs:Array Nat}(h:Rs xs){i j:Nat}(e:xs[i]? = some j):SetTable.below xs (j+1)=i+1:=by
 have b:=j6 h (j+1)
 have hi:=(Array.getElem?_eq_some_iff.mp e).1
 have h1:i<SetTable.below xs (j+1):=by
  apply Classical.byContradiction
  intro q
  have:=b.hi _ _ (by omega) e
  omega
 by_cases h2:i+1<SetTable.below xs (j+1)
 ·have hz:i+1<xs.size:=by have:=b.le;omega
  have e2:xs[i+1]? = some xs[i+1]:=Array.getElem?_eq_getElem hz
  have:=b.lo _ _ h2 e2
  have:=h.lt (Nat.lt_succ_self i) e e2
  omega
 ·omega
theorem aD {xs:Array Nat}(h:Rs xs):SetTable.below xs 0=0:=by
 have b:=j6 h 0
 apply Classical.byContradiction
 intro q
 have hz:0<xs.size:=by have:=b.le;omega
 have e2:xs[0]? = some xs[0]:=Array.getElem?_eq_getElem hz
 have:=b.lo _ _ (by omega) e2
 omega
structure Tb (t:SetTable):Prop where
 rs:Rs t.place
 dm:t.dummies=#[]
theorem eP (j:Nat):SetTable.has #[] j=false:=by simp[SetTable.has]
theorem nZ {t:SetTable}(T:Tb t){i j:Nat}(e:t.place[i]? = some j):t.slot j=.live i:=by
 unfold SetTable.slot
 simp only[bI T.rs e,e]
 simp
theorem iN {t:SetTable}(T:Tb t)(j:Nat):(∃ i,t.slot j=.live i∧t.place[i]? = some j)∨(t.slot j=.empty∧j ∉ t.place.toList):=by
 by_cases h:j∈t.place.toList
 ·obtain⟨i,hi,e⟩:=List.mem_iff_getElem.mp h
  have e':t.place[i]? = some j:=by rw[← Array.getElem?_toList,List.getElem?_eq_getElem hi,e]
  exact .inl ⟨i,nZ T e',e'⟩
 ·refine .inr ⟨?_,h⟩
  unfold SetTable.slot
  simp only[T.dm,eP]
  rw[if_neg,if_neg (by simp)]
  intro q
  apply h
  have:t.place[SetTable.below t.place j]? = some j:=by simpa using q
  obtain⟨h1,e1⟩:=Array.getElem?_eq_some_iff.mp this
  rw[← e1]
  simp
theorem X3 {xs:Array Nat}(h:Rs xs){j:Nat}(hj:j ∉ xs.toList):Rs (SetTable.insertAt xs (SetTable.below xs j) j):=by
 have b:=j6 h j
 unfold Rs
 rw[SetTable.toList_insertAt]
 have key:∀ (i:Nat) (x:Nat),xs.toList[i]? = some x→(i<SetTable.below xs j→x<j)∧(SetTable.below xs j≤i→j<x):=fun i x e=>by
  have e':xs[i]? = some x:=by rw[← Array.getElem?_toList];exact e
  refine⟨fun q=>b.lo _ _ q e',fun q=>?_⟩
  have h1:=b.hi _ _ q e'
  have:x≠j:=by
   rintro rfl
   exact hj (List.mem_of_getElem? e)
  omega
 have tk:∀ x∈xs.toList.take (SetTable.below xs j),x<j:=fun x hx=>by
  obtain⟨i,hi,e⟩:=List.mem_iff_getElem.mp hx
  rw[List.length_take] at hi
  rw[List.getElem_take] at e
  exact(key i x (by rw[List.getElem?_eq_getElem (by omega),e])).1 (by omega)
 have dr:∀ x∈xs.toList.drop (SetTable.below xs j),j<x:=fun x hx=>by
  obtain⟨i,hi,e⟩:=List.mem_iff_getElem.mp hx
  rw[List.length_drop] at hi
  rw[List.getElem_drop] at e
  exact(key (SetTable.below xs j+i) x (by rw[List.getElem?_eq_getElem (by omega),e])).2 (by omega)
 rw[List.pairwise_append,List.pairwise_cons]
 refine⟨List.Pairwise.take h,⟨dr,List.Pairwise.drop h⟩,fun x hx y hy=>?_⟩
 rcases List.mem_cons.mp hy with rfl|hy
 ·exact tk x hx
 ·exact Nat.lt_trans (tk x hx) (dr y hy)
theorem fM {α : Type}(xs:Array α){p:Nat}(hp:p≤xs.size)(x:α)(i:Nat):(SetTable.insertAt xs p x)[i]? = if i<p then xs[i]? else if i=p then some x else xs[i-1]?:=by
 rw[← Array.getElem?_toList,SetTable.toList_insertAt]
 have hl:(xs.toList.take p).length=p:=by simp;omega
 by_cases h1:i<p
 ·rw[if_pos h1,List.getElem?_append_left (by omega),List.getElem?_take_of_lt h1,Array.getElem?_toList]
 ·rw[if_neg h1,List.getElem?_append_right (by omega),hl]
  by_cases h2:i=p
  ·subst h2;simp
  ·rw[if_neg h2]
   obtain⟨k,hk⟩:∃ k,i-p=k+1:=⟨i-p-1,by omega⟩
   rw[hk,List.getElem?_cons_succ,List.getElem?_drop,Array.getElem?_toList]
   congr 1;omega
theorem uK {α : Type}(xs:Array α)(p:Nat)(x:α):(SetTable.insertAt xs p x).size=xs.size+1:=by
 have:=(SetTable.insertAt_perm xs p x).length_eq
 simpa using this
theorem M6 {t:SetTable}(T:Tb t){j:Nat}(hj:j ∉ t.place.toList):Tb (t.put j).1:=by
 refine⟨X3 T.rs hj,?_⟩
 show (if SetTable.has t.dummies j then _ else t.dummies)=#[]
 rw[T.dm,eP]
 rfl
end _S
end
section
namespace _S
open PySem
open PySem.SetTable (Probe leap runEnd turns bits)
def adv (mask:Nat)(p:Probe):Probe:=if p.more>0 then { p with j:=p.j+1,more:=p.more-1 } else { p with j:=(leap mask p.i p.perturb).1,more:=runEnd mask (leap mask p.i p.perturb).1-(leap mask p.i p.perturb).1,i:=(leap mask p.i p.perturb).1,perturb:=(leap mask p.i p.perturb).2 }
theorem GZ (t:SetTable)(p:Probe):t.advance p=adv t.mask p:=rfl
def it (mask:Nat):Nat→Probe→Probe
 |0,p=>p
 |n+1,p=>it mask n (adv mask p)
theorem pU (mask:Nat):∀ (n:Nat) (p:Probe),it mask (n+1) p=adv mask (it mask n p)
 |0,p=>rfl
 |n+1,p=>pU mask n (adv mask p)
theorem fR (mask:Nat):∀ (m n:Nat) (p:Probe),it mask (m+n) p=it mask n (it mask m p)
 |0,n,p=>by rw[Nat.zero_add];rfl
 |m+1,n,p=>by rw[Nat.add_right_comm];exact fR mask m n (adv mask p)
def rs (mask i pert:Nat):Probe:={ j:=i,more:=runEnd mask i-i,i,perturb:=pert,dummy:=none }
def st (mask:Nat)(h:Int):Probe:=rs mask (bits h % (mask+1)) (bits h)
theorem L7 (t:SetTable)(h:Int):t.probeStart h=st t.mask h:=rfl
theorem p8 (mask i pert:Nat):∀ k,k≤runEnd mask i-i→it mask k (rs mask i pert)={ j:=i+k,more:=runEnd mask i-i-k,i,perturb:=pert,dummy:=none }
 |0,_=>rfl
 |k+1,hk=>by
  rw[pU,p8 mask i pert k (by omega)]
  unfold adv
  rw[if_pos (by show runEnd mask i-i-k>0;omega)]
  simp only[Probe.mk.injEq,and_true,true_and]
  omega
theorem eT (mask i pert:Nat):it mask (runEnd mask i-i+1) (rs mask i pert)=rs mask (leap mask i pert).1 (leap mask i pert).2:=by
 rw[pU,p8 mask i pert _ (Nat.le_refl _)]
 unfold adv
 rw[if_neg (by show ¬ (runEnd mask i-i-(runEnd mask i-i)>0);omega)]
 rfl
theorem MH (mask i:Nat):runEnd mask i-i+1≤10:=by
 unfold runEnd
 split <;> omega
def lp (mask:Nat):Nat→Nat × Nat→Nat × Nat
 |0,q=>q
 |n+1,q=>lp mask n (leap mask q.1 q.2)
theorem Q9 (mask:Nat):∀ (m n:Nat) (q:Nat × Nat),lp mask (m+n) q=lp mask n (lp mask m q)
 |0,n,p=>by rw[Nat.zero_add];rfl
 |m+1,n,p=>by rw[Nat.add_right_comm];exact Q9 mask m n _
theorem V9 (mask:Nat):∀ (n i pert:Nat),∃ k,k≤10*n∧it mask k (rs mask i pert)=rs mask (lp mask n (i,pert)).1 (lp mask n (i,pert)).2
 |0,i,pert=>⟨0,by omega,rfl⟩
 |n+1,i,pert=>by
  obtain⟨k,hk,e⟩:=V9 mask n (leap mask i pert).1 (leap mask i pert).2
  refine⟨(runEnd mask i-i+1)+k,by have:=MH mask i;omega,?_⟩
  rw[fR,eT,e]
  rfl
theorem eZ (mask:Nat):∀ (n i pert:Nat),(lp mask n (i,pert)).2=pert/32 ^ n
 |0,i,pert=>by simp[lp]
 |n+1,i,pert=>by
  show (lp mask n ((leap mask i pert).1,pert/32)).2=_
  rw[eZ mask n _ (pert/32),Nat.div_div_eq_div_mul,← Nat.pow_succ']
theorem t9 (mask i pert:Nat):(leap mask i pert).1≤mask:=Nat.le_of_lt_succ (Nat.mod_lt _ (Nat.succ_pos _))
theorem VD (mask:Nat):∀ (n i pert:Nat),i≤mask→(lp mask n (i,pert)).1≤mask
 |0,i,pert,h=>h
 |n+1,i,pert,h=>VD mask n _ _ (t9 mask i pert)
theorem rZ (h:Int):bits h<2 ^ 64:=by
 unfold bits
 have h1:(0:Int)≤h % 2 ^ 64:=Int.emod_nonneg _ (by decide)
 have h2:h % 2 ^ 64<(2 ^ 64:Int):=Int.emod_lt_of_pos _ (by decide)
 omega
def cyc (mask:Nat):Nat→Nat→Nat
 |0,i=>i
 |n+1,i=>cyc mask n ((i*5+1) % (mask+1))
theorem pP (mask:Nat):∀ (m n i:Nat),cyc mask (m+n) i=cyc mask n (cyc mask m i)
 |0,n,p=>by rw[Nat.zero_add];rfl
 |m+1,n,p=>by rw[Nat.add_right_comm];exact pP mask m n _
theorem QC (mask:Nat):∀ (n i:Nat),(lp mask n (i,0)).1=cyc mask n i
 |0,i=>rfl
 |n+1,i=>by
  show (lp mask n (leap mask i 0)).1=_
  have:leap mask i 0=((i*5+1) % (mask+1),0):=by simp[leap]
  rw[this,QC mask n]
  rfl
def Msk (mask:Nat):Prop:=mask=7∨mask=31∨mask=127
def oD (mask:Nat):Bool:=(List.range (mask+1)).all (fun e=>(List.range (mask+1)).any fun n=>cyc mask n 0 == e)&&cyc mask (mask+1) 0 == 0
theorem oE {mask:Nat}(h:Msk mask):oD mask=true:=by
 rcases h with rfl|rfl|rfl <;> decide +kernel
theorem W6 {mask:Nat}(h:Msk mask){i e:Nat}(hi:i≤mask)(he:e≤mask):∃ n,n≤mask∧cyc mask n i=e:=by
 have a:=oE h
 unfold oD at a
 rw[Bool.and_eq_true,List.all_eq_true] at a
 obtain⟨a1,a2⟩:=a
 have g:∀ e,e≤mask→∃ n,n≤mask∧cyc mask n 0=e:=fun e he=>by
  obtain⟨n,hn,q⟩:=List.any_eq_true.mp (a1 e (List.mem_range.mpr (by omega)))
  exact⟨n,by have:=List.mem_range.mp hn;omega,by simpa using q⟩
 have a3:cyc mask (mask+1) 0=0:=by simpa using a2
 obtain⟨m,hm,em⟩:=g i hi
 obtain⟨n,hn,en⟩:=g e he
 by_cases q:m≤n
 ·refine⟨n-m,by omega,?_⟩
  rw[← em,← pP,show m+(n-m)=n by omega]
  exact en
 ·refine⟨n+(mask+1)-m,by omega,?_⟩
  rw[← em,← pP,show m+(n+(mask+1)-m)=(mask+1)+n by omega,pP,a3]
  exact en
theorem dY {mask:Nat}(h:Msk mask){i pert e:Nat}(hi:i≤mask)(hp:pert<2 ^ 64)(he:e≤mask):∃ n,n≤mask+13∧(lp mask n (i,pert)).1=e:=by
 have h0:(lp mask 13 (i,pert)).2=0:=by
  rw[eZ]
  apply Nat.div_eq_of_lt
  exact Nat.lt_trans hp (by decide)
 obtain⟨n,hn,q⟩:=W6 h (VD mask 13 i pert hi) he
 refine⟨13+n,by omega,?_⟩
 rw[Q9]
 have:lp mask 13 (i,pert)=((lp mask 13 (i,pert)).1,0):=by rw[← h0]
 rw[this,QC]
 exact q
theorem dN {mask:Nat}(h:Msk mask)(hs:Int){e:Nat}(he:e≤mask):∃ n,n<10*turns mask∧(it mask n (st mask hs)).j=e:=by
 obtain⟨n,hn,q⟩:=dY h (i:=bits hs % (mask+1)) (Nat.le_of_lt_succ (Nat.mod_lt _ (Nat.succ_pos _))) (rZ hs) he
 obtain⟨k,hk,e1⟩:=V9 mask n (bits hs % (mask+1)) (bits hs)
 refine⟨k,by unfold turns;omega,?_⟩
 show (it mask k (rs mask _ _)).j=e
 rw[e1]
 exact q
theorem bO (mask:Nat):∀ (n:Nat) (p:Probe),(it mask n p).dummy=p.dummy
 |0,p=>rfl
 |n+1,p=>by
  show (it mask n (adv mask p)).dummy=_
  rw[bO mask n]
  unfold adv
  split <;> rfl
def Way (t:SetTable)(p:Probe)(n:Nat):Prop:=∀ m,m<n→(it t.mask m p).j∈t.place.toList
inductive Meets (t:SetTable)(hashAt:Nat→Int)(h:Int)(p:Probe)(fuel:Nat):Option SetTable.Met→Prop
 |emp (n:Nat) (hn:n<fuel) (w:Way t p n) (e:(it t.mask n p).j ∉ t.place.toList) (q:∀ m i,m<n→t.place[i]? = some (it t.mask m p).j→hashAt i≠h):Meets t hashAt h p fuel (some (.empty (it t.mask n p).j none))
 |cand (n i:Nat) (hn:n<fuel) (w:Way t p n) (e:t.place[i]? = some (it t.mask n p).j) (hh:hashAt i=h) (q:∀ m i,m<n→t.place[i]? = some (it t.mask m p).j→hashAt i≠h):Meets t hashAt h p fuel (some (.candidate (it t.mask n p).j i (it t.mask (n+1) p)))
theorem X2 {xs:Array Nat}(h:Rs xs){a b x:Nat}(ha:xs[a]? = some x)(hb:xs[b]? = some x):a=b:=by rw[← bI h ha,bI h hb]
set_option tactic.hygienic true in
theorem kX {t:SetTable}(T:Tb t)(hashAt:Nat→Int)(h:Int):∀ (fuel:Nat) (p:Probe),p.dummy=none→(∃ n,n<fuel∧(it t.mask n p).j ∉ t.place.toList)→Meets t hashAt h p fuel (SetTable.probe.go t hashAt h fuel p)
 |0,p,_,⟨n,hn,_⟩=>by omega
 |fuel+1,p,hd,⟨n,hn,hne⟩=>by
  unfold SetTable.probe.go
  rcases iN T p.j with⟨i,e,ei⟩|⟨e,q⟩
  ·rw[e]
   simp only
   split
   ·rename_i hh
    exact Meets.cand 0 i (by omega) (fun m hm=>by omega) ei (by simpa using hh) fun m i hm=>by omega
   ·rename_i hh
    have hh':hashAt i≠h:=by simpa using hh
    have hn0:n≠0:=by
     rintro rfl
     exact hne (List.mem_of_getElem? (by rw[Array.getElem?_toList];exact ei))
    obtain⟨n',rfl⟩:∃ n',n=n'+1:=⟨n-1,by omega⟩
    have ih:=kX T hashAt h fuel (adv t.mask p) (by rw[← hd];exact bO t.mask 1 p) ⟨n',by omega,hne⟩
    rw[GZ]
    have mem0:p.j∈t.place.toList:=List.mem_of_getElem? (by rw[Array.getElem?_toList];exact ei)
    have up:∀ {k:Nat},Way t (adv t.mask p) k→Way t p (k+1):=fun {k} w m hm=>by
     cases m with
     |zero=>exact mem0
     |succ m=>exact w m (by omega)
    have upq:∀ {k:Nat},(∀ m i,m<k→t.place[i]? = some (it t.mask m (adv t.mask p)).j→hashAt i≠h)→∀ m i,m<k+1→t.place[i]? = some (it t.mask m p).j→hashAt i≠h:=fun {k} q m i' hm e'=>by
     cases m with
     |zero=>rw[X2 T.rs e' ei];exact hh'
     |succ m=>exact q m i' (by omega) e'
    generalize hg:SetTable.probe.go t hashAt h fuel (adv t.mask p)=r at ih
    cases ih with
    |emp k hk w e1 q1=>exact Meets.emp (p:=p) (k+1) (by omega) (up w) e1 (upq q1)
    |cand k i' hk w e1 hh1 q1=>exact Meets.cand (p:=p) (k+1) i' (by omega) (up w) e1 hh1 (upq q1)
  ·rw[e]
   simp only[hd]
   exact Meets.emp (p:=p) 0 (by omega) (fun m hm=>by omega) q fun m i hm=>by omega
end _S
end
section
namespace _S
open PySem
open PySem.SetTable (Probe leap runEnd turns bits)
structure Own (mask:Nat)(owner:Array (Option Nat))(us:List Nat):Prop where
 size:owner.size=mask+1
 nd:us.Nodup
 le:∀ u∈us,u≤mask
 at':∀ j k,j≤mask→(owner.getD j (some 0)=some k↔us[k]? = some j)
theorem tO {mask i:Nat}(hi:i≤mask):runEnd mask i≤mask:=by
 unfold runEnd
 split <;> omega
theorem tP (mask i:Nat):i≤runEnd mask i:=by
 unfold runEnd
 split <;> omega
theorem Own.none {mask:Nat}{owner:Array (Option Nat)}{us:List Nat}(O:Own mask owner us){j:Nat}(hj:j≤mask):(owner.getD j (some 0)).isNone=true↔j ∉ us:=by
 constructor
 ·intro h hm
  obtain⟨k,hk,e⟩:=List.mem_iff_getElem.mp hm
  have:=(O.at' j k hj).mpr (by rw[List.getElem?_eq_getElem hk,e])
  rw[this] at h
  cases h
 ·intro h
  cases q:owner.getD j (some 0) with
  |none=>rfl
  |some k=>exact absurd (List.mem_of_getElem? ((O.at' j k hj).mp q)) h
theorem nF {mask:Nat}{owner:Array (Option Nat)}{us:List Nat}(O:Own mask owner us):∀ (fuel i pert:Nat),i≤mask→(∃ L,L<fuel∧(lp mask L (i,pert)).1 ∉ us) →
  ∃ n,SetTable.layClean.free mask owner fuel i pert=some (it mask n (rs mask i pert)).j∧(it mask n (rs mask i pert)).j≤mask∧(it mask n (rs mask i pert)).j ∉ us∧∀ m,m<n→(it mask m (rs mask i pert)).j∈us
 |0,i,pert,hi,⟨L,hL,_⟩=>by omega
 |fuel+1,i,pert,hi,⟨L,hL,hne⟩=>by
  unfold SetTable.layClean.free
  have hmx:=tO hi
  have hmn:=tP mask i
  cases hf:(List.range (runEnd mask i+1-i)).find? fun k=>(owner.getD (i+k) (some 0)).isNone with
  |some k =>
   obtain⟨h1,h2,h3⟩:=List.find?_range_eq_some.mp hf
   have hk:k<runEnd mask i+1-i:=List.mem_range.mp h2
   have ej:(it mask k (rs mask i pert)).j=i+k:=by rw[p8 mask i pert k (by omega)]
   refine⟨k,?_,?_,?_,fun m hm=>?_⟩
   ·rw[ej]
   ·rw[ej];omega
   ·rw[ej];exact(O.none (by omega)).mp h1
   ·rw[p8 mask i pert m (by omega)]
    have:=h3 m hm
    apply Classical.byContradiction
    intro q
    rw[(O.none (show i+m≤mask by omega)).mpr q] at this
    cases this
  |none =>
   have hall:∀ k,k<runEnd mask i+1-i→i+k∈us:=fun k hk=>by
    have:=List.find?_eq_none.mp hf k (List.mem_range.mpr hk)
    apply Classical.byContradiction
    intro q
    exact this ((O.none (show i+k≤mask by omega)).mpr q)
   have hL0:L≠0:=by
    rintro rfl
    exact hne (hall 0 (by omega))
   obtain⟨L',rfl⟩:∃ L',L=L'+1:=⟨L-1,by omega⟩
   obtain⟨n,q1,q2,q3,q4⟩:=nF O fuel (leap mask i pert).1 (leap mask i pert).2 (t9 mask i pert) ⟨L',by omega,hne⟩
   have e:∀ m,it mask (runEnd mask i-i+1+m) (rs mask i pert)=it mask m (rs mask (leap mask i pert).1 (leap mask i pert).2):=fun m=>by rw[fR,eT]
   refine⟨runEnd mask i-i+1+n,?_,?_,?_,fun m hm=>?_⟩
   ·rw[e];exact q1
   ·rw[e];exact q2
   ·rw[e];exact q3
   ·by_cases hlt:m<runEnd mask i-i+1
    ·rw[p8 mask i pert m (by omega)]
     exact hall m (by omega)
    ·obtain⟨m',rfl⟩:∃ m',m=runEnd mask i-i+1+m':=⟨m-(runEnd mask i-i+1),by omega⟩
     rw[e]
     exact q4 m' (by omega)
theorem gap {mask:Nat}{us:List Nat}(h:us.length≤mask):∃ e,e≤mask∧e ∉ us:=by
 apply Classical.byContradiction
 intro q
 have:List.range (mask+1) ⊆ us:=fun e he=>by
  apply Classical.byContradiction
  intro r
  exact q ⟨e,by have:=List.mem_range.mp he;omega,r⟩
 have:=List.Nodup.length_le_of_subset List.nodup_range this
 rw[List.length_range] at this
 omega
theorem KM (mask:Nat):Own mask (Array.replicate (mask+1) none) []:=by
 refine⟨by simp,List.nodup_nil,fun u hu=>by simp at hu,fun j k hj=>?_⟩
 have:j<mask+1:=by omega
 simp[Array.getD,this]
theorem Y2 {mask:Nat}{owner:Array (Option Nat)}{us:List Nat}(O:Own mask owner us){j:Nat}(hj:j≤mask)(hn:j ∉ us):Own mask (owner.setIfInBounds j (some us.length)) (us++[j]):=by
 refine⟨by simp[O.size],?_,fun u hu=>?_,fun i k hi=>?_⟩
 ·rw[List.nodup_append]
  refine⟨O.nd,by simp,fun a ha b hb=>?_⟩
  simp at hb
  rintro rfl
  subst hb
  exact hn ha
 ·rcases List.mem_append.mp hu with h|h
  ·exact O.le u h
  ·simp at h;omega
 ·have hsz:=O.size
  have hi':i<owner.size:=by omega
  have hk:∀ {k},us[k]? = some i→k<us.length:=fun q=>(List.getElem?_eq_some_iff.mp q).1
  by_cases hij:j=i
  ·subst hij
   have e1:(owner.setIfInBounds j (some us.length)).getD j (some 0)=some us.length:=by simp[Array.getD,hi']
   rw[e1]
   constructor
   ·intro q;cases q;simp
   ·intro q
    by_cases h1:k<us.length
    ·rw[List.getElem?_append_left h1] at q
     exact absurd (List.mem_of_getElem? q) hn
    ·rw[List.getElem?_append_right (by omega)] at q
     have:k-us.length=0:=by
      cases hz:k-us.length with
      |zero=>rfl
      |succ z=>rw[hz] at q;simp at q
     congr 1;omega
  ·have e1:(owner.setIfInBounds j (some us.length)).getD i (some 0)=owner.getD i (some 0):=by
    simp[Array.getD,hi',Array.getElem_setIfInBounds,hij]
   rw[e1,O.at' i k hi]
   constructor
   ·intro q;rw[List.getElem?_append_left (hk q)];exact q
   ·intro q
    by_cases h1:k<us.length
    ·rw[List.getElem?_append_left h1] at q;exact q
    ·rw[List.getElem?_append_right (by omega)] at q
     cases hz:k-us.length with
     |zero=>rw[hz] at q;simp at q;exact absurd q hij
     |succ z=>rw[hz] at q;simp at q
def cX (mask:Nat)(us:List Nat)(hs:List Int):Prop:=∀ (k:Nat) (h:Int),hs[k]? = some h→∃ n,us[k]? = some (it mask n (st mask h)).j∧∀ m,m<n→(it mask m (st mask h)).j∈us
theorem nD {mask:Nat}(hM:Msk mask):∀ (hs done:List Int) (owner:Array (Option Nat)) (us:List Nat),Own mask owner us→us.length=done.length→done.length+hs.length≤mask→cX mask us done →
  ∃ owner' us',hs.foldl (fun acc h=>do
   let (owner,k) ← acc
   let j ← SetTable.layClean.free mask owner (turns mask) (bits h % (mask+1)) (bits h)
   pure (owner.setIfInBounds j (some k),k+1)) (some (owner,us.length))=some (owner',us'.length)∧Own mask owner' us'∧us'.length=done.length+hs.length∧cX mask us' (done++hs)
 |[],done,owner,us,O,hl,_,hL=>⟨owner,us,rfl,O,by simpa using hl,by simpa using hL⟩
 |h::hs,done,owner,us,O,hl,hlen,hL=>by
  rw[List.length_cons] at hlen
  obtain⟨e,he,hne⟩:=gap (mask:=mask) (us:=us) (by omega)
  obtain⟨L,hLn,hLe⟩:=dY hM (i:=bits h % (mask+1)) (Nat.le_of_lt_succ (Nat.mod_lt _ (Nat.succ_pos _))) (rZ h) he
  obtain⟨n,q1,q2,q3,q4⟩:=nF O (turns mask) (bits h % (mask+1)) (bits h) (Nat.le_of_lt_succ (Nat.mod_lt _ (Nat.succ_pos _))) ⟨L,by unfold turns;omega,by rw[hLe];exact hne⟩
  have O':=Y2 O q2 q3
  have hL':cX mask (us++[(it mask n (rs mask (bits h % (mask+1)) (bits h))).j]) (done++[h]):=fun k h' e'=>by
   by_cases hk:k<done.length
   ·rw[List.getElem?_append_left hk] at e'
    obtain⟨n',w1,w2⟩:=hL k h' e'
    exact⟨n',by rw[List.getElem?_append_left (by omega)];exact w1,fun m hm=>List.mem_append_left _ (w2 m hm)⟩
   ·rw[List.getElem?_append_right (by omega)] at e'
    cases hz:k-done.length with
    |succ z=>rw[hz] at e';simp at e'
    |zero =>
     rw[hz] at e'
     simp at e'
     subst e'
     refine⟨n,?_,fun m hm=>List.mem_append_left _ (q4 m hm)⟩
     rw[List.getElem?_append_right (by omega),hl,hz]
     rfl
  obtain⟨owner',us',r1,r2,r3,r4⟩:=nD hM hs (done++[h]) _ _ O' (by simp[hl]) (by simp;omega) hL'
  refine⟨owner',us',?_,r2,by simpa [Nat.add_assoc,Nat.add_comm 1] using r3,by simpa using r4⟩
  rw[List.foldl_cons]
  rw[List.length_append] at r1
  have e0:(do
   let (owner,k) ← some (owner,us.length)
   let j ← SetTable.layClean.free mask owner (turns mask) (bits h % (mask+1)) (bits h)
   pure (owner.setIfInBounds j (some k),k+1))=some (owner.setIfInBounds (it mask n (rs mask (bits h % (mask+1)) (bits h))).j (some us.length),us.length+1):=by
   show (SetTable.layClean.free mask owner (turns mask) (bits h % (mask+1)) (bits h)).bind _=_
   rw[q1]
   rfl
  rw[e0]
  exact r1
theorem lG {mask:Nat}(hM:Msk mask)(hs:Array Int)(hlen:hs.size≤mask):∃ owner us,SetTable.layClean mask hs=some owner∧Own mask owner us∧us.length=hs.size∧cX mask us hs.toList:=by
 obtain⟨owner',us',r1,r2,r3,r4⟩:=nD hM hs.toList [] _ [] (KM mask) rfl (by simpa using hlen) (fun k h e=>by simp at e)
 refine⟨owner',us',?_,r2,by simpa using r3,by simpa using r4⟩
 unfold SetTable.layClean
 rw[← Array.foldl_toList]
 have:(([]:List Nat).length)=0:=rfl
 rw[this] at r1
 erw [r1]
 rfl
structure Laid (mask:Nat)(hs:Array Int)(t:SetTable)(qR:Array Nat):Prop where
 msk:t.mask=mask
 tb:Tb t
 size:t.place.size=hs.size
 le:∀ x∈t.place.toList,x≤mask
 perm:qR.toList.Perm (List.range hs.size)
 way:∀ (i k:Nat) (h:Int),qR[i]? = some k→hs[k]? = some h→∃ n,t.place[i]? = some (it mask n (st mask h)).j∧Way t (st mask h) n
theorem Q4 {mask:Nat}(hM:Msk mask)(hs:Array Int)(hlen:hs.size≤mask)(finger moves:Nat)(led plain:Bool) :
  ∃ t qR,SetTable.laid mask finger moves led plain hs=some (t,qR)∧t.led=led∧t.plain=plain∧Laid mask hs t qR:=by
 obtain⟨owner,us,e,O,hl,hL⟩:=lG hM hs hlen
 have hg:∀ j,j≤mask→owner.getD j none=owner.getD j (some 0):=fun j hj=>by
  have:j<owner.size:=by rw[O.size];omega
  simp[Array.getD,this]
 generalize hlv:((List.range (mask+1)).filterMap fun j=>(owner.getD j none).map (j,·))=live
 have mem:∀ (j k:Nat),(j,k)∈live↔us[k]? = some j:=fun j k=>by
  rw[← hlv,List.mem_filterMap]
  constructor
  ·rintro⟨j',hj',q⟩
   have hj'':j'≤mask:=by have:=List.mem_range.mp hj';omega
   rw[hg j' hj''] at q
   cases hz:owner.getD j' (some 0) with
   |none=>rw[hz] at q;cases q
   |some k' =>
    rw[hz] at q
    simp at q
    obtain⟨rfl,rfl⟩:=q
    exact(O.at' _ _ hj'').mp hz
  ·intro q
   have hj:j≤mask:=O.le j (List.mem_of_getElem? q)
   refine⟨j,List.mem_range.mpr (by omega),?_⟩
   rw[hg j hj,(O.at' j k hj).mpr q]
   rfl
 have hfst:live.map (·.1)=(List.range (mask+1)).filter fun j=>(owner.getD j none).isSome:=by
  rw[← hlv,List.map_filterMap]
  generalize owner.getD=f
  induction List.range (mask+1) with
  |nil=>rfl
  |cons a l ih =>
   rw[List.filterMap_cons,List.filter_cons]
   cases hz:f a none with
   |none=>simpa using ih
   |some k=>simpa using ih
 have hR:(live.map (·.1)).Pairwise (· < ·):=by
  rw[hfst]
  exact List.Pairwise.filter _ List.pairwise_lt_range
 have ndl:(live.map (·.2)).Nodup:=by
  unfold List.Nodup
  rw[List.pairwise_map]
  have h1:=List.pairwise_map.mp hR
  refine List.Pairwise.imp_of_mem (fun {a b} ha hb hab=>?_) h1
  intro q
  have ea:=(mem a.1 a.2).mp ha
  have eb:=(mem b.1 b.2).mp hb
  rw[← q,ea] at eb
  simp at eb
  omega
 have pm:(live.map (·.2)).Perm (List.range hs.size):=by
  rw[List.perm_ext_iff_of_nodup ndl List.nodup_range]
  intro k
  rw[List.mem_map,List.mem_range,← hl]
  constructor
  ·rintro⟨⟨j,k'⟩,h1,rfl⟩
   exact(List.getElem?_eq_some_iff.mp ((mem j k').mp h1)).1
  ·intro hk
   exact⟨(us[k],k),(mem _ _).mpr (List.getElem?_eq_getElem hk),rfl⟩
 have hmem:∀ j,j∈live.map (·.1)↔j∈us:=fun j=>by
  rw[List.mem_map]
  constructor
  ·rintro⟨⟨j',k⟩,h1,rfl⟩
   exact List.mem_of_getElem? ((mem _ _).mp h1)
  ·intro h1
   obtain⟨k,hk,e⟩:=List.mem_iff_getElem.mp h1
   exact⟨(j,k),(mem _ _).mpr (by rw[List.getElem?_eq_getElem hk,e]),rfl⟩
 refine⟨{ mask,place:=(live.map (·.1)).toArray,dummies:=#[],finger,led,moves,plain },(live.map (·.2)).toArray,?_,rfl,rfl,rfl,⟨?_,rfl⟩,?_,fun x hx=>?_,?_,fun i k h e1 e2=>?_⟩
 ·unfold SetTable.laid
  rw[e,← hlv]
  rfl
 ·exact hR
 ·have:=pm.length_eq
  simp at this ⊢
  exact this
 ·exact O.le x ((hmem x).mp hx)
 ·exact pm
 ·have e1':(live.map (·.2))[i]? = some k:=by simpa using e1
  rw[List.getElem?_map] at e1'
  cases hz:live[i]? with
  |none=>rw[hz] at e1';cases e1'
  |some jk =>
   rw[hz] at e1'
   simp at e1'
   have hin:=List.mem_of_getElem? hz
   have hu:=(mem jk.1 jk.2).mp hin
   obtain⟨n,w1,w2⟩:=hL k h (by rw[Array.getElem?_toList];exact e2)
   rw[← e1'] at w1
   rw[hu] at w1
   refine⟨n,?_,fun m hm=>?_⟩
   ·rw[← w1]
    simp[hz]
   ·have:=(hmem _).mpr (w2 m hm)
    simpa using this
theorem GD {t:SetTable}{hs:Array Int}{w:Nat}:SetTable.relaid t hs w=SetTable.laid (SetTable.sizeAbove w-1) t.finger (t.movedTo (SetTable.sizeAbove w-1)) t.led t.plain hs:=rfl
end _S
end
section
namespace _S
open PySem
open PySem.SetTable (Probe leap runEnd turns bits)
structure Set0 {K:Type}(is:K→Value→Prop)(hash:K→Int)(es:Array (Int × Value))(seen:List K):Prop where
 good:∀ e∈es.toList,∃ k,e.1=hash k∧is k e.2
 nd:es.toList.Pairwise fun a b=>∀ k,is k a.2→¬ is k b.2
 mem:∀ k,k∈seen↔∃ e∈es.toList,is k e.2
section
variable {K:Type}{is:K→Value→Prop}{hash:K→Int}{es es':Array (Int × Value)}{seen seen':List K}
theorem Set0.perm (Z:Set0 is hash es seen)(p:es'.toList.Perm es.toList):Set0 is hash es' seen:=
 ⟨fun e he=>Z.good e (p.mem_iff.mp he),(p.pairwise_iff fun {x y} h k hy hx=>h k hx hy).mpr Z.nd,fun k=>(Z.mem k).trans ⟨fun ⟨e,he,q⟩=>⟨e,p.mem_iff.mpr he,q⟩,fun ⟨e,he,q⟩=>⟨e,p.mem_iff.mp he,q⟩⟩⟩
theorem Set0.nil:Set0 is hash #[] []:=⟨fun e he=>by simp at he,by simp,fun k=>by simp⟩
theorem Set0.push (Z:Set0 is hash es seen)(inj:∀ {k k':K} {v:Value},is k v→is k' v→k=k'){k:K}{x:Value}(hk:is k x)(hn:k ∉ seen)(p:es'.toList.Perm (es.toList++[(hash k,x)])):Set0 is hash es' (k::seen):=by
 refine Set0.perm (es:=es.push (hash k,x)) ⟨fun e he=>?_,?_,fun k'=>?_⟩ (by simpa using p)
 ·rw[Array.toList_push] at he
  rcases List.mem_append.mp he with he|he
  ·exact Z.good e he
  ·simp at he;subst he;exact⟨k,rfl,hk⟩
 ·rw[Array.toList_push,List.pairwise_append]
  refine⟨Z.nd,by simp,fun a ha b hb k' h1 h2=>?_⟩
  simp at hb;subst hb
  have:=inj hk h2
  subst this
  exact hn ((Z.mem k).mpr ⟨a,ha,h1⟩)
 ·rw[List.mem_cons,Z.mem,Array.toList_push]
  constructor
  ·rintro (rfl|⟨e,he,q⟩)
   ·exact⟨(hash k',x),by simp,hk⟩
   ·exact⟨e,List.mem_append_left _ he,q⟩
  ·rintro⟨e,he,q⟩
   rcases List.mem_append.mp he with he|he
   ·exact .inr ⟨e,he,q⟩
   ·simp at he;subst he;exact .inl (inj q hk)
theorem Set0.again (Z:Set0 is hash es seen){k:K}(hk:k∈seen):Set0 is hash es (k::seen):=
 ⟨Z.good,Z.nd,fun k'=>by rw[List.mem_cons,Z.mem];exact⟨fun h=>h.elim (fun e=>by subst e;exact(Z.mem _).mp hk) id,.inr⟩⟩
end
section
open Classical in
theorem bS {K:Type}{is:K→Value→Prop}:∀ (L:List (Int × Value)) (U:List K),L.Pairwise (fun a b=>∀ k,is k a.2→¬ is k b.2)→(∀ e∈L,∃ k∈U,is k e.2)→L.length≤U.length
 |[],U,_,_=>Nat.zero_le _
 |e::L,U,nd,h=>by
  rw[List.pairwise_cons] at nd
  obtain⟨k0,hk0,q0⟩:=h e (by simp)
  have ih:=bS L (U.erase k0) nd.2 fun e' he'=>by
   obtain⟨k,hk,q⟩:=h e' (by simp[he'])
   have:k≠k0:=fun z=>nd.1 e' he' k0 q0 (z▸q)
   exact⟨k,(List.mem_erase_of_ne this).mpr hk,q⟩
  rw[List.length_erase_of_mem hk0] at ih
  have:0<U.length:=List.length_pos_of_mem hk0
  rw[List.length_cons]
  omega
open Classical in
theorem Set0.few {K:Type}{is:K→Value→Prop}{hash:K→Int}{es:Array (Int × Value)}{seen U:List K}{k:K}(Z:Set0 is hash es seen)(hU:∀ k'∈seen,k'∈U)(hk:k∈U)(hn:k ∉ seen):es.size<U.length:=by
 have:=bS es.toList (U.erase k) Z.nd fun e he=>by
  obtain⟨k',_,q⟩:=Z.good e he
  have hs:=(Z.mem k').mpr ⟨e,he,q⟩
  have hne:k'≠k:=fun z=>hn (z▸hs)
  exact⟨k',(List.mem_erase_of_ne hne).mpr (hU k' hs),q⟩
 rw[List.length_erase_of_mem hk,Array.length_toList] at this
 have:0<U.length:=List.length_pos_of_mem hk
 omega
end
structure TabT (t:SetTable)(es:Array (Int × Value)):Prop where
 tb:Tb t
 msk:Msk t.mask
 size:t.place.size=es.size
 le:∀ x∈t.place.toList,x≤t.mask
 few:es.size*5<t.mask*3
 way:∀ (i:Nat) (e:Int × Value),es[i]? = some e→∃ n,t.place[i]? = some (it t.mask n (st t.mask e.1)).j∧Way t (st t.mask e.1) n
 plain:t.plain=true
theorem TabT.fits {t:SetTable}{es:Array (Int × Value)}(T:TabT t es):t.fits es.size=true:=by
 have h1:=T.size
 have h2:=T.few
 have h3:t.fill=es.size:=by unfold SetTable.fill;rw[T.tb.dm,h1];rfl
 unfold SetTable.fits
 rw[h3,h1]
 rcases T.msk with h|h|h <;> rw[h] at h2 ⊢ <;> simp <;> omega
theorem TabT.gap {t:SetTable}{es:Array (Int × Value)}(T:TabT t es):∃ e,e≤t.mask∧e ∉ t.place.toList:=by
 apply _S.gap
 rw[Array.length_toList,T.size]
 have h2:=T.few
 rcases T.msk with h|h|h <;> rw[h] at h2 ⊢ <;> omega
theorem TabT.odd {t:SetTable}{es:Array (Int × Value)}(T:TabT t es):t.gaveWay=false:=by
 unfold SetTable.gaveWay
 rcases T.msk with h|h|h <;> rw[h] <;> rfl
theorem TabT.put {t:SetTable}{es:Array (Int × Value)}(T:TabT t es){h:Int}{x:Value}{n:Nat}(w:Way t (st t.mask h) n)(hn:(it t.mask n (st t.mask h)).j ∉ t.place.toList)(hle:(it t.mask n (st t.mask h)).j≤t.mask) :
  let es':=SetTable.insertAt es (t.put (it t.mask n (st t.mask h)).j).2 (h,x)
  Tb (t.put (it t.mask n (st t.mask h)).j).1∧(t.put (it t.mask n (st t.mask h)).j).1.place.size=es'.size∧(∀ y∈(t.put (it t.mask n (st t.mask h)).j).1.place.toList,y≤t.mask) ∧
  (∀ (i:Nat) (e:Int × Value),es'[i]? = some e→∃ m,(t.put (it t.mask n (st t.mask h)).j).1.place[i]? = some (it t.mask m (st t.mask e.1)).j∧Way (t.put (it t.mask n (st t.mask h)).j).1 (st t.mask e.1) m):=by
 generalize hj:(it t.mask n (st t.mask h)).j=j at *
 have pm:∀ y,y∈(t.put j).1.place.toList↔y=j∨y∈t.place.toList:=fun y=>by
  show y∈(SetTable.insertAt t.place (SetTable.below t.place j) j).toList↔_
  rw[(SetTable.insertAt_perm _ _ _).mem_iff]
  simp[or_comm]
 have hb:SetTable.below t.place j≤t.place.size:=(j6 T.tb.rs j).le
 have wm:∀ {p:Probe} {m:Nat},Way t p m→Way (t.put j).1 p m:=fun {p m} w q hq=>(pm _).mpr (.inr (w q hq))
 refine⟨M6 T.tb hn,?_,fun y hy=>?_,fun i e he=>?_⟩
 ·show (SetTable.insertAt t.place _ j).size=(SetTable.insertAt es _ (h,x)).size
  rw[uK,uK,T.size]
 ·rcases (pm y).mp hy with rfl|hy
  ·exact hle
  ·exact T.le y hy
 ·have he':(if i<SetTable.below t.place j then es[i]? else if i=SetTable.below t.place j then some (h,x) else es[i-1]?)=some e:=by
   rw[← fM es (by rw[← T.size];exact hb)]
   exact he
  have pl:(t.put j).1.place[i]? = if i<SetTable.below t.place j then t.place[i]? else if i=SetTable.below t.place j then some j else t.place[i-1]?:=fM t.place hb j i
  rw[pl]
  by_cases h1:i<SetTable.below t.place j
  ·rw[if_pos h1] at he' ⊢
   obtain⟨m,q1,q2⟩:=T.way i e he'
   exact⟨m,q1,wm q2⟩
  ·rw[if_neg h1] at he' ⊢
   by_cases h2:i=SetTable.below t.place j
   ·rw[if_pos h2] at he' ⊢
    cases he'
    exact⟨n,by rw[hj],wm w⟩
   ·rw[if_neg h2] at he' ⊢
    obtain⟨m,q1,q2⟩:=T.way _ e he'
    exact⟨m,q1,wm q2⟩
theorem V8 {mask:Nat}(p:Probe)(hp:p.j+p.more≤mask):∀ n,(it mask n p).j+(it mask n p).more≤mask
 |0=>hp
 |n+1=>by
  rw[pU]
  have ih:=V8 p hp n
  unfold adv
  split
  ·show (it mask n p).j+1+((it mask n p).more-1)≤mask
   omega
  ·show (leap mask _ _).1+(runEnd mask (leap mask _ _).1-(leap mask _ _).1)≤mask
   have h1:=tO (t9 mask (it mask n p).i (it mask n p).perturb)
   have h2:=tP mask (leap mask (it mask n p).i (it mask n p).perturb).1
   omega
theorem U0 (mask:Nat)(h:Int)(n:Nat):(it mask n (st mask h)).j≤mask:=by
 have h0:bits h % (mask+1)≤mask:=Nat.le_of_lt_succ (Nat.mod_lt _ (Nat.succ_pos _))
 have:=V8 (mask:=mask) (st mask h) (by
  show bits h % (mask+1)+(runEnd mask (bits h % (mask+1))-bits h % (mask+1))≤mask
  have h1:=tO h0
  have h2:=tP mask (bits h % (mask+1))
  omega) n
 omega
theorem bF {t:SetTable}{es:Array (Int × Value)}(hM:Msk t.mask)(hp:t.plain=true)(h1:t.place.size=es.size)(h2:es.size≤64)(hf:t.tooFull=true)(hd:t.dummies=#[])(h3:(es.size-1)*5<t.mask*3)(h4:0<es.size) :
  SetTable.sizeAbove (SetTable.grown es.size)≤128∧∃ t' qR,t.relaid (es.map (·.1)) (SetTable.grown es.size)=some (t',qR)∧t'.led=t.led∧(qR.filterMap (es[·]?)).toList.Perm es.toList∧TabT t' (qR.filterMap (es[·]?))∧qR.toList.Perm (List.range es.size):=by
 have hfill:t.fill=es.size:=by unfold SetTable.fill;rw[hd,h1];rfl
 have hful:t.mask*3≤es.size*5:=by
  unfold SetTable.tooFull at hf
  rw[hfill] at hf
  simpa using hf
 have hcase:(es.size=5∧SetTable.sizeAbove (SetTable.grown es.size)=32)∨(es.size=19∧SetTable.sizeAbove (SetTable.grown es.size)=128):=by
  rcases hM with h|h|h <;> rw[h] at hful h3
  ·have:es.size=5:=by omega
   exact .inl ⟨this,by rw[this];decide⟩
  ·have:es.size=19:=by omega
   exact .inr ⟨this,by rw[this];decide⟩
  ·omega
 have hM':Msk (SetTable.sizeAbove (SetTable.grown es.size)-1):=by
  rcases hcase with⟨_,h⟩|⟨_,h⟩ <;> rw[h]
  ·exact .inr (.inl rfl)
  ·exact .inr (.inr rfl)
 have hle:(es.map (·.1)).size≤SetTable.sizeAbove (SetTable.grown es.size)-1:=by
  rw[Array.size_map]
  rcases hcase with⟨h5,h⟩|⟨h5,h⟩ <;> rw[h,h5] <;> omega
 obtain⟨t',qR,e,l1,l2,L⟩:=Q4 hM' (es.map (·.1)) hle t.finger (t.movedTo (SetTable.sizeAbove (SetTable.grown es.size)-1)) t.led t.plain
 have hosz:qR.size=es.size:=by
  have:=L.perm.length_eq
  simpa using this
 have hord:∀ i k,qR[i]? = some k→k<es.size:=fun i k q=>by
  have:k∈List.range (es.map (·.1)).size:=L.perm.mem_iff.mp (List.mem_of_getElem? (by rw[Array.getElem?_toList];exact q))
  simpa using this
 have hfm:(qR.filterMap (es[·]?)).toList=qR.toList.map fun k=>es.toList.getD k (0,.none):=by
  rw[Array.toList_filterMap]
  have:∀ l:List Nat,(∀ k∈l,k<es.size)→l.filterMap (es[·]?)=l.map fun k=>es.toList.getD k (0,.none):=by
   intro l
   induction l with
   |nil=>intro _;rfl
   |cons a l ih =>
    intro hl
    have ha:=hl a (by simp)
    rw[List.filterMap_cons,List.map_cons,ih fun k hk=>hl k (by simp[hk])]
    rw[Array.getElem?_eq_getElem ha]
    simp[ha]
  refine this _ fun k hk=>?_
  obtain⟨i,hi,q⟩:=List.mem_iff_getElem.mp hk
  exact hord i k (by rw[← Array.getElem?_toList,List.getElem?_eq_getElem hi,q])
 have hperm:(qR.filterMap (es[·]?)).toList.Perm es.toList:=by
  rw[hfm]
  have p1:=L.perm.map fun k=>es.toList.getD k (0,Value.none)
  refine p1.trans ?_
  have e2:(List.range (es.map (·.1)).size).map (fun k=>es.toList.getD k (0,Value.none))=es.toList:=by
   apply List.ext_getElem
   ·simp
   ·intro i a1 a2
    have a3:i<es.size:=by simpa using a2
    simp[a3]
  rw[e2]
 have hsz:(qR.filterMap (es[·]?)).size=es.size:=by rw[← Array.length_toList,hperm.length_eq,Array.length_toList]
 have hentry:∀ i,(qR.filterMap (es[·]?))[i]? = (qR[i]?).map fun k=>es.toList.getD k (0,.none):=fun i=>by
  rw[← Array.getElem?_toList,hfm,List.getElem?_map,Array.getElem?_toList]
 refine⟨by rcases hcase with⟨_,h⟩|⟨_,h⟩ <;> rw[h] <;> decide,t',qR,by rw[GD];exact e,l1,hperm,⟨L.tb,by rw[L.msk];exact hM',by rw[L.size,hsz,Array.size_map],by rw[L.msk];exact L.le,?_,fun i en q=>?_,by rw[l2];exact hp⟩,by have:=L.perm;rwa [Array.size_map] at this⟩
 ·rw[hsz,L.msk]
  rcases hcase with⟨h5,h⟩|⟨h5,h⟩ <;> rw[h,h5] <;> omega
 ·rw[hentry] at q
  cases hz:qR[i]? with
  |none=>rw[hz] at q;cases q
  |some k =>
   rw[hz] at q
   simp only[Option.map_some,Option.some.injEq] at q
   have hk:=hord i k hz
   have:(es.map (·.1))[k]? = some en.1:=by
    rw[Array.getElem?_map,Array.getElem?_eq_getElem hk]
    rw[← q]
    simp[hk]
   rw[L.msk]
   exact L.way i k en.1 hz this
end _S
end
section
namespace _S
open PySem
open PySem.SetTable (Probe leap runEnd turns bits)
def Sup (h0 h:Heap):Prop:=∀ b o,h0.get? b=some o→h.get? b=some o
def isT (prog:Program)(w:World)(h0:Heap)(ks:List Int)(v:Value):Prop:=∃ a,v=.ref a∧IsTupleKey (intKind prog w) h0 ks a
section
variable {prog:Program}{w:World}{h0:Heap}
theorem isT.inj {x y:List Int}{v:Value}(hx:isT prog w h0 x v)(hy:isT prog w h0 y v):x=y:=by
 obtain⟨a,rfl,h1⟩:=hx
 obtain⟨b,e,h2⟩:=hy
 cases e
 exact h1.inj h2
theorem uR {h:Heap}{ks:List Int}{a:Addr}(hS:Sup h0 h)(hx:IsTupleKey (intKind prog w) h0 ks a):IsTupleKey (intKind prog w) h ks a:=by
 obtain⟨o,items,n,ho,r⟩:=hx
 exact⟨o,items,n,hS _ _ ho,r⟩
variable {A:Around}{E:Value→Shared→Prop}{s:Shared}
theorem N9 {k:List Int}{v:Value}{Q:Int→Shared→Prop}(hu:A.units<cLine)(hS:Sup h0 s.heap)(hx:isT prog w h0 k v)(h:Q (tupleKeyHash (intKind prog w) k) { s with toks:=s.toks+(k.length+1) }) : wpAny (model prog w) A (pyHash v) Q E s:=by
 obtain⟨a,rfl,hx⟩:=hx
 exact wpAny_pyHash_tuple hu (uR hS hx) h
theorem eqT {k k':List Int}{v v':Value}{Q:Bool→Shared→Prop}(hu:A.units<cLine)(hS:Sup h0 s.heap)(hx:isT prog w h0 k v)(hy:isT prog w h0 k' v')(h:Q (decide (k=k')) s):wpAny (model prog w) A (eqBool v v') Q E s:=by
 obtain⟨a,rfl,hx⟩:=hx
 obtain⟨b,rfl,hy⟩:=hy
 exact wpAny_eqBool_tuple hu (uR hS hx) (uR hS hy) h
theorem fT {prog:Program}{w:World}:∀ {ks:List Int} {vs:List Value},ItemsAre (intKind prog w) ks vs→∀ v∈vs,∃ i t,v=.int i t:=by
 intro ks vs h
 induction h with
 |nil=>intro v hv;simp at hv
 |@cons k v' ks vs h1 _ ih =>
  intro v hv
  rcases List.mem_cons.mp hv with rfl|hv
  ·cases v <;> first|exact⟨_,_,rfl⟩|exact absurd h1 (by rintro⟨⟩)
  ·exact ih v hv
theorem LQ {k:List Int}{v:Value}{Q:Bool→Shared→Prop}(hS:Sup h0 s.heap)(hx:isT prog w h0 k v)(h:Q true s):wpAny (model prog w) A (hashByValue 8 v) Q E s:=by
 obtain⟨a,rfl,hx⟩:=hx
 have hx:=uR hS hx
 have hT:=hx.typeIs
 obtain⟨o,items,n,ho,_,hd,hi⟩:=hx
 unfold hashByValue
 refine wpAny_bind (wpAny_specialOf hT F.slot_tuple_hash.lookup ?_)
 show wpAny _ _ (seqItems? (.ref a) >>= _) Q E s
 refine wpAny_bind (wpAny_seqItems ho hd ?_)
 refine wpAny_bind ?_
 show wpAny _ _ (forIn items _ _) _ _ s
 rw[← Array.forIn_toList]
 refine wpAny_forIn_list _ (fun rest r s'=>r.1=none∧s'=s∧∀ v∈rest,∃ i t,v=.int i t) _ ?_ ?_ _ _ ⟨rfl,rfl,fT hi⟩
 ·rintro v rest r s' ⟨hr,rfl,hall⟩
  obtain⟨i,t,rfl⟩:=hall v List.mem_cons_self
  show wpAny _ _ (hashByValue 7 (.int i t) >>= _) _ _ _
  rw[show hashByValue 7 (.int i t)=pure true from rfl]
  refine wpAny_bind (wpAny_pure ?_)
  simp only[Bool.not_true,Bool.false_eq_true,if_false]
  exact wpAny_pure ⟨rfl,rfl,fun u hu'=>hall u (List.mem_cons_of_mem _ hu')⟩
 ·rintro⟨r1,r2⟩ s' ⟨hr,rfl,_⟩
  simp only at hr
  subst hr
  exact wpAny_pure h
theorem oA {k:List Int}{v:Value}{Q:Bool→Shared→Prop}(hS:Sup h0 s.heap)(hx:isT prog w h0 k v)(h:Q false s):wpAny (model prog w) A (ofAClassStatement 8 v) Q E s:=by
 obtain⟨a,rfl,hx⟩:=hx
 have hx:=uR hS hx
 have hT:=hx.typeIs
 obtain⟨o,items,n,ho,_,hd,hi⟩:=hx
 unfold ofAClassStatement
 refine wpAny_bind (wpAny_typeOf hT ?_)
 dsimp only
 refine wpAny_bind (wpAny_pure ?_)
 simp only[Bool.not_true,Bool.false_eq_true,if_false]
 refine wpAny_bind (wpAny_seqItems ho hd ?_)
 refine wpAny_bind ?_
 show wpAny _ _ (forIn items _ _) _ _ s
 rw[← Array.forIn_toList]
 refine wpAny_forIn_list _ (fun rest r s'=>r.1=none∧s'=s∧∀ v∈rest,∃ i t,v=.int i t) _ ?_ ?_ _ _ ⟨rfl,rfl,fT hi⟩
 ·rintro v rest r s' ⟨hr,rfl,hall⟩
  obtain⟨i,t,rfl⟩:=hall v List.mem_cons_self
  show wpAny _ _ (ofAClassStatement 7 (.int i t) >>= _) _ _ _
  rw[show ofAClassStatement 7 (.int i t)=pure false from rfl]
  refine wpAny_bind (wpAny_pure ?_)
  simp only[Bool.false_eq_true,if_false]
  exact wpAny_pure ⟨rfl,rfl,fun u hu'=>hall u (List.mem_cons_of_mem _ hu')⟩
 ·rintro⟨r1,r2⟩ s' ⟨hr,rfl,_⟩
  simp only at hr
  subst hr
  exact wpAny_pure h
theorem ZX {k:List Int}{v:Value}{Q:Bool→Shared→Prop}(hS:Sup h0 s.heap)(hx:isT prog w h0 k v)(h:Q true s):wpAny (model prog w) A (eqIsQuiet 8 v) Q E s:=by
 obtain⟨a,rfl,hx⟩:=hx
 exact wpAny_eqIsQuiet_tuple (uR hS hx) h
theorem aW {α : Type}{c:Prop}[Decidable c]{M:Model}{t u:Sem α}{Q:α→Shared→Prop}(h1:c→wpAny M A t Q E s)(h2:¬ c→wpAny M A u Q E s):wpAny M A (if c then t else u) Q E s:=by
 by_cases h:c
 ·rw[if_pos h];exact h1 h
 ·rw[if_neg h];exact h2 h
theorem L4 {k:List Int}{x:Value}{ys:List Value}{Q:Bool→Shared→Prop}(hS:Sup h0 s.heap)(hx:isT prog w h0 k x)(hy:∀ y∈ys,∃ k',isT prog w h0 k' y)(h:Q false s):wpAny (model prog w) A (searchCouldBeSeen x ys) Q E s:=by
 unfold searchCouldBeSeen
 refine wpAny_bind ?_
 refine wpAny_forIn_list _ (fun rest r s'=>r.1=none∧s'=s∧∀ v∈rest,∃ k',isT prog w h0 k' v) _ ?_ ?_ _ _ ⟨rfl,rfl,hy⟩
 ·rintro v rest r s' ⟨hr,rfl,hall⟩
  obtain⟨k',hv⟩:=hall v List.mem_cons_self
  have hrest:∀ u∈rest,∃ k',isT prog w h0 k' u:=fun u hu'=>hall u (List.mem_cons_of_mem _ hu')
  dsimp only
  refine aW (fun _=>wpAny_pure ⟨rfl,rfl,hrest⟩) fun _=>?_
  ·refine wpAny_bind (ZX hS hx ?_)
   simp only[Bool.not_true,Bool.false_eq_true,if_false]
   refine wpAny_bind (ZX hS hv ?_)
   simp only[Bool.not_true,Bool.false_eq_true,if_false]
   refine wpAny_bind (oA hS hx ?_)
   simp only[Bool.false_eq_true,if_false]
   refine wpAny_bind (oA hS hv ?_)
   simp only[Bool.false_eq_true,if_false]
   exact wpAny_pure ⟨rfl,rfl,hrest⟩
 ·rintro⟨r1,r2⟩ s' ⟨hr,rfl,_⟩
  simp only at hr
  subst hr
  exact wpAny_pure h
theorem L3 {k:List Int}{v:Value}{Q:Bool→Shared→Prop}(hx:isT prog w h0 k v)(h:Q true s):wpAny (model prog w) A (isSame v v) Q E s:=by
 obtain⟨a,rfl,hx⟩:=hx
 unfold isSame
 simp only[beq_self_eq_true,if_true]
 exact wpAny_pure h
theorem V5 {k:List Int}{x:Value}{S:Addr}{o:Obj}{es:Array (Int × Value)}{ep:Nat}{t:SetTable}{seen:List (List Int)}(hu:A.units<cLine)(hS:Sup h0 s.heap)(ho:s.heap.get? S=some o)(hd:o.data=.set es ep t)
  (T:TabT t es) (Z:Set0 (isT prog w h0) (tupleKeyHash (intKind prog w)) es seen) (hx:isT prog w h0 k x) (N:Nat) (hNw:Way t (st t.mask (tupleKeyHash (intKind prog w) k)) N)
  (hNe:(it t.mask N (st t.mask (tupleKeyHash (intKind prog w) k))).j ∉ t.place.toList) (hNf:N<10*turns t.mask) {Q:SetFound→Shared→Prop}
  (h1:k∈seen→Q (.there none) s) (h2:k ∉ seen→Q (.free (it t.mask N (st t.mask (tupleKeyHash (intKind prog w) k))).j false) s) :
  ∀ (fuel n:Nat) (stand:Option Probe),stand.getD (t.probeStart (tupleKeyHash (intKind prog w) k))=it t.mask n (st t.mask (tupleKeyHash (intKind prog w) k))→n≤N→N-n<fuel →
   (∀ (m i:Nat) (e:Int × Value),m<n→t.place[i]? = some (it t.mask m (st t.mask (tupleKeyHash (intKind prog w) k))).j→es[i]? = some e→¬ isT prog w h0 k e.2) →
   wpAny (model prog w) A (setSearchFrom S x (tupleKeyHash (intKind prog w) k) true fuel stand) Q E s
 |0,n,stand,_,_,hf,_=>by omega
 |fuel+1,n,stand,hst,hn,hf,hq=>by
  unfold setSearchFrom
  refine wpAny_bind (wpAny_setState_of ho hd T.fits ?_)
  dsimp only
  rw[T.odd]
  simp only[Bool.false_eq_true,if_false]
  rw[hst]
  generalize hg:t.probe _ (tupleKeyHash (intKind prog w) k) (it t.mask n (st t.mask (tupleKeyHash (intKind prog w) k)))=r
  obtain⟨H,hH,hg⟩:∃ H:Nat→Int,(∀ i,H i=(es[i]?.map (·.1)).getD 0)∧t.probe H (tupleKeyHash (intKind prog w) k) (it t.mask n (st t.mask (tupleKeyHash (intKind prog w) k)))=r:=⟨_,fun i=>rfl,hg⟩
  have itn:∀ m,it t.mask m (it t.mask n (st t.mask (tupleKeyHash (intKind prog w) k)))=it t.mask (n+m) (st t.mask (tupleKeyHash (intKind prog w) k)):=fun m=>(fR _ _ _ _).symm
  have gm:Meets t H (tupleKeyHash (intKind prog w) k) (it t.mask n (st t.mask (tupleKeyHash (intKind prog w) k))) (10*turns t.mask) r:=by
   rw[← hg]
   refine kX T.tb H _ _ _ (by rw[bO];rfl) ⟨N-n,by omega,?_⟩
   rw[itn,show n+(N-n)=N by omega]
   exact hNe
  have miss:∀ j:Nat,(∀ m i:Nat,m<j→t.place[i]? = some (it t.mask m (it t.mask n (st t.mask (tupleKeyHash (intKind prog w) k)))).j→H i≠tupleKeyHash (intKind prog w) k) →
    ∀ (m i:Nat) (e:Int × Value),m<n+j→t.place[i]? = some (it t.mask m (st t.mask (tupleKeyHash (intKind prog w) k))).j→es[i]? = some e→¬ isT prog w h0 k e.2:=fun j qj m i e hm ei ee hk=>by
   by_cases hmn:m<n
   ·exact hq m i e hmn ei ee hk
   ·refine qj (m-n) i (by omega) (by rw[itn,show n+(m-n)=m by omega];exact ei) ?_
    rw[hH,ee]
    obtain⟨k',e1,e2⟩:=Z.good e (List.mem_of_getElem? (by rw[Array.getElem?_toList];exact ee))
    rw[isT.inj hk e2]
    simpa using e1
  cases gm with
  |emp j hj w' e' q =>
   rw[itn] at e'
   have hjN:n+j=N:=by
    rcases Nat.lt_trichotomy (n+j) N with h|h|h
    ·exact absurd (hNw _ h) e'
    ·exact h
    ·have:=w' (N-n) (by omega)
     rw[itn,show n+(N-n)=N by omega] at this
     exact absurd this hNe
   dsimp only
   rw[itn,hjN]
   refine wpAny_pure (h2 fun hk=>?_)
   obtain⟨e,he,hke⟩:=(Z.mem k).mp hk
   obtain⟨i,hi,ei⟩:=List.mem_iff_getElem.mp he
   have ei':es[i]? = some e:=by rw[← Array.getElem?_toList,List.getElem?_eq_getElem hi,ei]
   obtain⟨m,w1,w2⟩:=T.way i e ei'
   obtain⟨k',g1,g2⟩:=Z.good e he
   have:=isT.inj hke g2
   subst this
   rw[g1] at w1 w2
   have hmN:m<N:=by
    apply Classical.byContradiction
    intro hc
    by_cases hmN:m=N
    ·subst hmN
     exact hNe (List.mem_of_getElem? (by rw[Array.getElem?_toList];exact w1))
    ·exact hNe (w2 N (by omega))
   exact miss j q m i e (by omega) w1 ei' hke
  |cand j i hj w' e' hh q =>
   rw[itn] at e'
   have hi:i<es.size:=by
    rw[← T.size]
    exact(Array.getElem?_eq_some_iff.mp e').1
   have ei:es[i]? = some es[i]:=Array.getElem?_eq_getElem hi
   have hjN:n+j<N:=by
    rcases Nat.lt_trichotomy (n+j) N with h|h|h
    ·exact h
    ·rw[h] at e'
     exact absurd (List.mem_of_getElem? (by rw[Array.getElem?_toList];exact e')) hNe
    ·have:=w' (N-n) (by omega)
     rw[itn,show n+(N-n)=N by omega] at this
     exact absurd this hNe
   obtain⟨k',g1,g2⟩:=Z.good es[i] (by simp)
   dsimp only
   have main:wpAny (model prog w) A (do
     let some (_,y):=es[i]?|unsupported "internal:set-entry"
     let equal ← holding [y] (eqBool y x)
     let (es',_,t') ← setState S
     if true&&equal then return .there none
     let some same:=t'.sameMemory t.moves t.mask|unsupported "set.changed-during-lookup:is-the-new-block-at-the-old-address"
     let still ← match (if same then t'.slot (it t.mask j (it t.mask n (st t.mask (tupleKeyHash (intKind prog w) k)))).j else .empty) with
      |.live i'=>match es'[i']? with
       |some (_,y')=>do pure (if ← isSame y' y then some i' else none)
       |none=>pure none
      |_=>pure none
     match still with
     |none=>rule "set.search.anew";setSearchFrom S x (tupleKeyHash (intKind prog w) k) true fuel none
     |some i'=>if equal then return .there (some i') else setSearchFrom S x (tupleKeyHash (intKind prog w) k) true fuel (some (it t.mask (j+1) (it t.mask n (st t.mask (tupleKeyHash (intKind prog w) k)))))) Q E s:=by
    rw[ei]
    dsimp only
    refine wpAny_bind (wpAny_holding (eqT hu hS g2 hx ?_))
    refine wpAny_bind (wpAny_setState_of ho hd T.fits ?_)
    by_cases hkk:k'=k
    ·subst hkk
     simp only[decide_true,Bool.and_self,if_true]
     exact wpAny_pure (h1 ((Z.mem k').mpr ⟨es[i],by simp,g2⟩))
    ·simp only[hkk,decide_false,Bool.and_false,Bool.false_eq_true,if_false]
     have hm:t.sameMemory t.moves t.mask=some true:=by simp[SetTable.sameMemory]
     rw[hm]
     dsimp only
     rw[itn,nZ T.tb e']
     simp only[if_true,ei]
     refine wpAny_bind (L3 g2 ?_)
     simp only[if_true]
     refine wpAny_bind (wpAny_pure ?_)
     dsimp only
     refine V5 hu hS ho hd T Z hx N hNw hNe hNf h1 h2 fuel (n+j+1) _ ?_ (by omega) (by omega) fun m i' e hm ei' ee hk=>?_
     ·rw[Option.getD_some,itn]
      rfl
     ·by_cases hmj:m<n+j
      ·exact miss j q m i' e hmj ei' ee hk
      ·have:m=n+j:=by omega
       subst this
       have:=X2 T.tb.rs ei' e'
       subst this
       rw[ei] at ee
       cases ee
       exact hkk (isT.inj g2 hk)
   refine aW (fun _=>?_) fun _=>?_
   ·refine wpAny_bind (L4 hS hx (fun y hy=>?_) ?_)
    ·obtain⟨e,he,rfl⟩:=List.mem_map.mp hy
     have:e∈es.toList:=by
      have:=(Array.mem_toList_iff.mp he)
      exact Array.mem_toList_iff.mpr (Array.mem_filter.mp this).1
     obtain⟨k2,_,g⟩:=Z.good e this
     exact⟨k2,g⟩
    ·simp only[Bool.false_eq_true,if_false]
     exact main
   ·exact main
end
end _S
end
section
namespace _S
open PySem
open PySem.SetTable (Probe leap runEnd turns bits)
@[reducible] def setO (es:Array (Int × Value))(ep:Nat)(t:SetTable):Obj:={ cls:=.type "set",dict:=none,data:=.set es ep t }
theorem b0 {h:Heap}{S:Addr}{es es':Array (Int × Value)}{ep:Nat}{t t':SetTable}(ho:h.get? S=some (setO es ep t)):(h.update S (Obj.putSet es' t')).get? S=some (setO es' (ep+1) t'):=Heap.get?_update_self _ ho rfl
structure SetK {K:Type}(is:K→Value→Prop)(hash:K→Int)(S:Addr)(led:Bool)(V:List Value)(seen:List K)(h:Heap):Prop where
 ex:∃ es ep t,h.get? S=some (setO es ep t)∧Set0 is hash es seen∧TabT t es∧t.led=led∧∀ e∈es.toList,e.2∈V
section
variable {prog:Program}{w:World}{h0:Heap}{A:Around}{E:Value→Shared→Prop}{s:Shared}{S:Addr}{led:Bool}{V:List Value}
theorem YM (a:Addr)(wanted:Nat):setRelay a wanted=(do
  let (es,_,t) ← setState a
  if SetTable.sizeAbove wanted>sizeLine then unsupported "set:memory"
  let (es,t) ← (do
   let some (t,qR):=t.relaid (es.map (·.1)) wanted|unsupported "internal:set-table-without-room"
   let es':=qR.filterMap (es[·]?)
   if es'.size != es.size then unsupported "internal:set-table-lost-an-element"
   pure (es',t))
  storeSet a es t):=rfl
theorem LN {seen:List (List Int)}{k:List Int}{x:Value}{Q:Bool→Shared→Prop}(hu:A.units<cLine)(hS:Sup h0 s.heap)(Z:SetK (isT prog w h0) (tupleKeyHash (intKind prog w)) S led V seen s.heap)(hx:isT prog w h0 k x)(hV:x∈V){U:List (List Int)}(hU:U.length≤63)(hU1:∀ k'∈seen,k'∈U)(hU2:k∈U)
  (h:∀ (b:Bool) (h':Heap) (tk:Nat),s.toks≤tk→Heap.SameBut S s.heap h'→SetK (isT prog w h0) (tupleKeyHash (intKind prog w)) S led V (k::seen) h'→Q b { s with heap:=h',toks:=tk }) : wpAny (model prog w) A (setAdd S x) Q E s:=by
 obtain⟨es,ep,t,ho,Z,T,hl,hm⟩:=Z
 unfold setAdd
 refine wpAny_holding (wpAny_bind (N9 hu hS hx ?_))
 unfold setAddHashed setAddHashedIn
 refine wpAny_holding (wpAny_bind (wpAny_setState_of (s:={ s with toks:=s.toks+(k.length+1) }) ho rfl T.fits ?_))
 dsimp only
 have hsc:byScan x es=false:=by
  obtain⟨a,rfl,_⟩:=hx
  rfl
 rw[hsc]
 simp only[Bool.false_eq_true,if_false]
 obtain⟨e,he,hne⟩:=T.gap
 have first:∃ N,Way t (st t.mask (tupleKeyHash (intKind prog w) k)) N∧(it t.mask N (st t.mask (tupleKeyHash (intKind prog w) k))).j ∉ t.place.toList∧N<10*turns t.mask:=by
  obtain⟨N,hN,eN⟩:=dN T.msk (tupleKeyHash (intKind prog w) k) he
  have gm:=kX T.tb (fun _=>tupleKeyHash (intKind prog w) k+1) (tupleKeyHash (intKind prog w) k) (10*turns t.mask) (st t.mask (tupleKeyHash (intKind prog w) k)) rfl ⟨N,hN,by rw[eN];exact hne⟩
  generalize SetTable.probe.go t _ _ _ _=r at gm
  cases gm with
  |emp j hj w' e' q=>exact⟨j,w',e',hj⟩
  |cand j i hj w' e' hh q=>exact absurd hh (by omega)
 obtain⟨N,hNw,hNe,hNf⟩:=first
 have hNt:N<100000:=by
  have:turns t.mask≤142:=by
   unfold turns
   rcases T.msk with h|h|h <;> rw[h] <;> omega
  omega
 refine wpAny_bind (V5 (s:={ s with toks:=s.toks+(k.length+1) }) hu hS ho rfl T Z hx N hNw hNe hNf (fun hk=>?_) (fun hk=>?_) 100000 0 none rfl (by omega) (by omega) fun m i e hm=>by omega)
 ·exact wpAny_pure (h _ s.heap _ (by omega) (Heap.SameBut.refl _ _) ⟨es,ep,t,ho,Z.again hk,T,hl,hm⟩)
 ·have hle:es.size<63:=Nat.lt_of_lt_of_le (Z.few hU1 hU2 hk) hU
  dsimp only
  refine wpAny_bind (wpAny_setState_of (s:={ s with toks:=s.toks+(k.length+1) }) ho rfl T.fits ?_)
  obtain⟨p1,p2,p3,p4⟩:=T.put (h:=tupleKeyHash (intKind prog w) k) (x:=x) hNw hNe (U0 _ _ _)
  generalize hj:(it t.mask N (st t.mask (tupleKeyHash (intKind prog w) k))).j=j at *
  have m1:(t.put j).1.mask=t.mask:=rfl
  have m2:(t.put j).1.plain=true:=T.plain
  have m3:(t.put j).1.led=led:=hl
  generalize hp:t.put j=tp at *
  obtain⟨t1,p⟩:=tp
  dsimp only at p1 p2 p3 p4 m1 m2 m3 ⊢
  rw[m2]
  simp only[if_true]
  refine wpAny_bind (LQ (s:={ s with toks:=s.toks+(k.length+1) }) hS hx ?_)
  simp only[if_true,Bool.not_false,Bool.true_and]
  have hsz:(SetTable.insertAt es p (tupleKeyHash (intKind prog w) k,x)).size=es.size+1:=uK _ _ _
  have hline:es.size+1≤sizeLine:=by rw[sizeLine_eq];omega
  refine wpAny_bind (wpAny_storeSet_of (s:={ s with toks:=s.toks+(k.length+1) }) ho rfl ?_ (by rw[hsz];exact hline))
  have Z1:Set0 (isT prog w h0) (tupleKeyHash (intKind prog w)) (SetTable.insertAt es p (tupleKeyHash (intKind prog w) k,x)) (k::seen):=by
   refine Z.push (fun a b=>isT.inj a b) hx hk ?_
   have:=SetTable.insertAt_perm es p (tupleKeyHash (intKind prog w) k,x)
   rw[Array.toList_push] at this
   exact this
  have hm1:∀ e∈(SetTable.insertAt es p (tupleKeyHash (intKind prog w) k,x)).toList,e.2∈V:=fun e he=>by
   have:=(SetTable.insertAt_perm es p (tupleKeyHash (intKind prog w) k,x)).mem_iff.mp he
   rw[Array.toList_push] at this
   rcases List.mem_append.mp this with h1|h1
   ·exact hm e h1
   ·simp at h1;subst h1;exact hV
  have ho1:=b0 (es':=SetTable.insertAt es p (tupleKeyHash (intKind prog w) k,x)) (t':=t1) ho
  have sb1:=Heap.SameBut.update s.heap S (Obj.putSet (SetTable.insertAt es p (tupleKeyHash (intKind prog w) k,x)) t1)
  have hfit:t1.fits (SetTable.insertAt es p (tupleKeyHash (intKind prog w) k,x)).size=true:=by
   have h3:t1.fill=es.size+1:=by unfold SetTable.fill;rw[p1.dm,p2,hsz];rfl
   have h2:=T.few
   unfold SetTable.fits
   rw[h3,p2,hsz,m1]
   rcases T.msk with h|h|h <;> rw[h] at h2 ⊢ <;> simp <;> omega
  refine aW (fun hf=>?_) fun hf=>?_
  ·have hM1:Msk t1.mask:=by rw[m1];exact T.msk
   have h3:((SetTable.insertAt es p (tupleKeyHash (intKind prog w) k,x)).size-1)*5<t1.mask*3:=by rw[hsz,m1];exact T.few
   obtain⟨q1,t2,qR,q2,q3,q4,q5,_⟩:=bF hM1 m2 p2 (by rw[hsz];omega) (by simpa using hf) p1.dm h3 (by rw[hsz];omega)
   rw[hsz] at q1 q2
   rw[YM]
   refine wpAny_bind ?_
   refine wpAny_bind (wpAny_setState_of (s:={ s with heap:=_,toks:=s.toks+(k.length+1) }) ho1 rfl hfit ?_)
   dsimp only
   rw[if_neg (by rw[sizeLine_eq];omega)]
   refine wpAny_bind ?_
   rw[q2]
   dsimp only
   have hs2:(qR.filterMap fun x_1=>(SetTable.insertAt es p (tupleKeyHash (intKind prog w) k,x))[x_1]?).size=es.size+1:=by rw[← Array.length_toList,q4.length_eq,Array.length_toList,hsz]
   rw[if_neg (by rw[hs2,hsz];simp)]
   refine wpAny_pure ?_
   refine wpAny_storeSet_of (s:={ s with heap:=_,toks:=s.toks+(k.length+1) }) ho1 rfl ?_ (by rw[hs2];exact hline)
   refine wpAny_pure (h _ _ _ (Nat.le_add_right _ _) (sb1.trans (Heap.SameBut.update _ S _)) ⟨_,_,t2,b0 ho1,Z1.perm q4,q5,by rw[q3];exact m3,fun e he=>hm1 e (q4.mem_iff.mp he)⟩)
  ·refine wpAny_pure (h _ _ _ (Nat.le_add_right _ _) sb1 ⟨_,_,t1,ho1,Z1,⟨p1,by rw[m1];exact T.msk,p2,by rw[m1];exact p3,?_,by rw[m1];exact p4,m2⟩,m3,hm1⟩)
   have h3:t1.fill=es.size+1:=by unfold SetTable.fill;rw[p1.dm,p2,hsz];rfl
   unfold SetTable.tooFull at hf
   rw[h3] at hf
   rw[hsz]
   simpa using hf
end
end _S
end
section
namespace _S
open PySem
open PySem.SetTable (Probe leap runEnd turns bits)
def isI (prog:Program)(w:World)(k:Int)(v:Value):Prop:=(intKind prog w).is k v=true
section
variable {prog:Program}{w:World}{A:Around}{E:Value→Shared→Prop}{s:Shared}{S:Addr}{led:Bool}{V:List Value}
set_option tactic.hygienic true in
theorem y8 {k:Int}{v:Value}(h:isI prog w k v):∃ t,v=.int k t:=by
 cases v <;> first|(exact absurd h (by rintro⟨⟩)) | skip
 rename_i i t
 refine⟨t,?_⟩
 have:i=k:=(intKind prog w).inj (.int i t) i k (intKind_is _ _ _ _) h
 rw[this]
theorem dE {es:Array (Int × Value)}{seen:List Int}(Z:Set0 (isI prog w) (intKind prog w).hash es seen):ElemsOf (intKind prog w) es.toList:=fun e he=>by
 obtain⟨k,h1,h2⟩:=Z.good e he
 refine⟨⟨k,h2,h1⟩,?_⟩
 obtain⟨t,q⟩:=y8 h2
 rw[q];rfl
theorem LL {seen:List Int}{k:Int}{x:Value}{Q:Bool→Shared→Prop}(Z:SetK (isI prog w) (intKind prog w).hash S led V seen s.heap)(hx:isI prog w k x)(hV:x∈V){U:List Int}(hU:U.length≤63)(hU1:∀ k'∈seen,k'∈U)(hU2:k∈U)
  (h:∀ (b:Bool) (h':Heap) (tk:Nat),s.toks≤tk→Heap.SameBut S s.heap h'→SetK (isI prog w) (intKind prog w).hash S led V (k::seen) h'→Q b { s with heap:=h',toks:=tk }) : wpAny (model prog w) A (setAdd S x) Q E s:=by
 obtain⟨es,ep,t,ho,Z,T,hl,hm⟩:=Z
 have hsc:x.scannable=true:=by
  obtain⟨tk,q⟩:=y8 hx
  rw[q];rfl
 have hf:=T.fits
 have hb:es.size<scanBound:=by
  have h1:=T.few
  have:scanBound=4096:=rfl
  rcases T.msk with h|h|h <;> rw[h] at h1 <;> omega
 unfold setAdd
 refine wpAny_holding (wpAny_bind ((intKind prog w).pyHash (k:=k) hx ?_))
 unfold setAddHashed setAddHashedIn
 refine wpAny_holding (wpAny_bind (wpAny_setState_of (s:={ s with toks:=s.toks+1 }) ho rfl hf ?_))
 dsimp only
 rw[byScan_of hsc hb (dE Z)]
 simp only[if_true]
 unfold setAddByScan
 refine wpAny_bind (wpAny_bind (wpAny_rule (wpAny_bind (wpAny_setScan_of (s:={ s with toks:=s.toks+1 }) hx ho rfl hf (dE Z) ?_))))
 cases hr:es.toList.findIdx? (fun e=>(intKind prog w).is k e.2) with
 |some j =>
  dsimp only
  obtain⟨hj,hpj,_⟩:=List.findIdx?_eq_some_iff_getElem.mp hr
  have hk:k∈seen:=(Z.mem k).mpr ⟨es.toList[j],List.getElem_mem hj,hpj⟩
  exact wpAny_pure (wpAny_pure (h _ s.heap _ (Nat.le_add_right _ _) (Heap.SameBut.refl _ _) ⟨es,ep,t,ho,Z.again hk,T,hl,hm⟩))
 |none =>
  dsimp only
  have hk:k ∉ seen:=fun hk=>by
   obtain⟨e,he,q⟩:=(Z.mem k).mp hk
   have:=List.findIdx?_eq_none_iff.mp hr e he
   rw[show (intKind prog w).is k e.2=true from q] at this
   cases this
  have hle:es.size<63:=Nat.lt_of_lt_of_le (Z.few hU1 hU2 hk) hU
  obtain⟨e,he,hne⟩:=T.gap
  have first:∃ N,Way t (st t.mask ((intKind prog w).hash k)) N∧(it t.mask N (st t.mask ((intKind prog w).hash k))).j ∉ t.place.toList∧t.freeSlot ((intKind prog w).hash k)=some ((it t.mask N (st t.mask ((intKind prog w).hash k))).j,false):=by
   obtain⟨N,hN,eN⟩:=dN T.msk ((intKind prog w).hash k) he
   have gm:=kX T.tb (fun _=>(intKind prog w).hash k+1) ((intKind prog w).hash k) (10*turns t.mask) (st t.mask ((intKind prog w).hash k)) rfl ⟨N,hN,by rw[eN];exact hne⟩
   unfold SetTable.freeSlot SetTable.probe
   rw[L7]
   generalize SetTable.probe.go t _ _ _ _=r at gm
   cases gm with
   |emp j hj w' e' q=>exact⟨j,w',e',rfl⟩
   |cand j i hj w' e' hh q=>exact absurd hh (by omega)
  obtain⟨N,hNw,hNe,hfs⟩:=first
  obtain⟨p1,p2,p3,p4⟩:=T.put (h:=(intKind prog w).hash k) (x:=x) hNw hNe (U0 _ _ _)
  generalize hj:(it t.mask N (st t.mask ((intKind prog w).hash k))).j=j at *
  have m1:(t.put j).1.mask=t.mask:=rfl
  have m2:(t.put j).1.plain=true:=T.plain
  have m3:(t.put j).1.led=led:=hl
  generalize hp:t.put j=tp at *
  obtain⟨t1,p⟩:=tp
  dsimp only at p1 p2 p3 p4 m1 m2 m3 ⊢
  have hsz:(SetTable.insertAt es p ((intKind prog w).hash k,x)).size=es.size+1:=uK _ _ _
  have hfit:t1.fits (SetTable.insertAt es p ((intKind prog w).hash k,x)).size=true:=by
   have h3:t1.fill=es.size+1:=by unfold SetTable.fill;rw[p1.dm,p2,hsz];rfl
   have h2:=T.few
   unfold SetTable.fits
   rw[h3,p2,hsz,m1]
   rcases T.msk with h|h|h <;> rw[h] at h2 ⊢ <;> simp <;> omega
  have lay:layNew t es ((intKind prog w).hash k) x=(SetTable.insertAt es p ((intKind prog w).hash k,x),t1,false,false):=by
   unfold layNew
   rw[hfs]
   dsimp only
   rw[hp]
   dsimp only
   unfold SetTable.orStandIn
   rw[hfit]
   rfl
  rw[lay]
  dsimp only
  refine wpAny_bind (wpAny_pure (a:=()) ?_)
  have hbv:hashByValue 8 x=pure true:=by
   rw[hashByValue_scannable 8 hsc]
   obtain⟨tk,q⟩:=y8 hx
   subst q
   rfl
  rw[hbv,ite_self]
  refine wpAny_bind (wpAny_pure ?_)
  simp only[if_true]
  have hline:es.size+1≤sizeLine:=by rw[sizeLine_eq];omega
  refine wpAny_bind (wpAny_storeSet_of (s:={ s with toks:=s.toks+1 }) ho rfl ?_ (by rw[hsz];exact hline))
  have pm:(SetTable.insertAt es p ((intKind prog w).hash k,x)).toList.Perm (es.toList++[((intKind prog w).hash k,x)]):=by
   have:=SetTable.insertAt_perm es p ((intKind prog w).hash k,x)
   rw[Array.toList_push] at this
   exact this
  have Z1:Set0 (isI prog w) (intKind prog w).hash (SetTable.insertAt es p ((intKind prog w).hash k,x)) (k::seen):=Z.push (fun a b=>(intKind prog w).inj _ _ _ a b) hx hk pm
  have hm1:∀ e∈(SetTable.insertAt es p ((intKind prog w).hash k,x)).toList,e.2∈V:=fun e he=>by
   rcases List.mem_append.mp (pm.mem_iff.mp he) with h1|h1
   ·exact hm e h1
   ·simp at h1;subst h1;exact hV
  have ho1:=b0 (es':=SetTable.insertAt es p ((intKind prog w).hash k,x)) (t':=t1) ho
  have sb1:=Heap.SameBut.update s.heap S (Obj.putSet (SetTable.insertAt es p ((intKind prog w).hash k,x)) t1)
  refine aW (fun hf=>?_) fun hf=>?_
  ·have hM1:Msk t1.mask:=by rw[m1];exact T.msk
   have h3:((SetTable.insertAt es p ((intKind prog w).hash k,x)).size-1)*5<t1.mask*3:=by rw[hsz,m1];exact T.few
   obtain⟨q1,t2,qR,q2,q3,q4,q5,q6⟩:=bF hM1 m2 p2 (by rw[hsz];omega) (by simpa using hf) p1.dm h3 (by rw[hsz];omega)
   have hs2:(qR.filterMap fun x_1=>(SetTable.insertAt es p ((intKind prog w).hash k,x))[x_1]?).size=es.size+1:=by rw[← Array.length_toList,q4.length_eq,Array.length_toList,hsz]
   have rl:relayAll t1 (SetTable.insertAt es p ((intKind prog w).hash k,x)) (SetTable.grown (SetTable.insertAt es p ((intKind prog w).hash k,x)).size)=(qR.filterMap fun x_1=>(SetTable.insertAt es p ((intKind prog w).hash k,x))[x_1]?,t2,false):=by
    unfold relayAll
    rw[q2]
    dsimp only
    have c1:coversAll qR (SetTable.insertAt es p ((intKind prog w).hash k,x)).size=true:=by
     unfold coversAll
     exact List.isPerm_iff.mpr q6
    rw[c1,q5.fits]
    rfl
   rw[rl]
   dsimp only
   refine wpAny_bind (wpAny_pure (a:=()) ?_)
   refine wpAny_bind (wpAny_storeSet_of (s:={ s with heap:=_,toks:=s.toks+1 }) ho1 rfl ?_ (by rw[hs2];exact hline))
   exact wpAny_pure (wpAny_pure (h _ _ _ (Nat.le_add_right _ _) (sb1.trans (Heap.SameBut.update _ S _)) ⟨_,_,t2,b0 ho1,Z1.perm q4,q5,by rw[q3];exact m3,fun e he=>hm1 e (q4.mem_iff.mp he)⟩))
  ·refine wpAny_pure (wpAny_pure (h _ _ _ (Nat.le_add_right _ _) sb1 ⟨_,_,t1,ho1,Z1,⟨p1,by rw[m1];exact T.msk,p2,by rw[m1];exact p3,?_,by rw[m1];exact p4,m2⟩,m3,hm1⟩))
   have h3:t1.fill=es.size+1:=by unfold SetTable.fill;rw[p1.dm,p2,hsz];rfl
   unfold SetTable.tooFull at hf
   rw[h3] at hf
   rw[hsz]
   simpa using hf
end
end _S
end
section
namespace _S
open PySem
structure AddS (prog:Program)(w:World){K:Type}(is:K→Value→Prop)(hash:K→Int)(h0:Heap):Prop where
 add:∀ {A:Around} {E:Value→Shared→Prop} {s:Shared} {S:Addr} {led:Bool} {V:List Value} {seen U:List K} {k:K} {x:Value} {Q:Bool→Shared→Prop},A.units<cLine→Sup h0 s.heap→SetK is hash S led V seen s.heap→is k x→x∈V→U.length≤63→(∀ k'∈seen,k'∈U)→k∈U →
  (∀ (b:Bool) (h':Heap) (tk:Nat),s.toks≤tk→Heap.SameBut S s.heap h'→SetK is hash S led V (k::seen) h'→Q b { s with heap:=h',toks:=tk }) → wpAny (model prog w) A (setAdd S x) Q E s
theorem GW {prog:Program}{w:World}(h0:Heap):AddS prog w (isT prog w h0) (tupleKeyHash (intKind prog w)) h0:=⟨fun hu hS Z hx hV h1 h2 h3 h=>LN hu hS Z hx hV h1 h2 h3 h⟩
theorem GV {prog:Program}{w:World}(h0:Heap):AddS prog w (isI prog w) (intKind prog w).hash h0:=⟨fun _ _ Z hx hV h1 h2 h3 h=>LL Z hx hV h1 h2 h3 h⟩
def yI {K:Type}(key:Nat→K):Nat→List K
 |0=>[]
 |i+1=>key i::yI key i
theorem jQ {K:Type}{key:Nat→K}{k:K}:∀ {n:Nat},k∈yI key n↔∃ i,i<n∧key i=k
 |0=>by simp[yI]
 |n+1=>by
  rw[yI,List.mem_cons,jQ]
  constructor
  ·rintro (rfl|⟨i,h,e⟩)
   ·exact⟨n,by omega,rfl⟩
   ·exact⟨i,by omega,e⟩
  ·rintro⟨i,h,e⟩
   by_cases hi:i=n
   ·subst hi;exact .inl e.symm
   ·exact .inr ⟨i,by omega,e⟩
section
variable {prog:Program}{w:World}{A:Around}{R:Result→Shared→Prop}{I:Addr}{fp wr:List Addr}{G:Array GenState→Array GenState→Prop}{n:Nat}{P:Nat→Value→Prop}{St:Nat→Shared→Prop}
variable {K:Type}{is:K→Value→Prop}{hash:K→Int}{h0:Heap}{led:Bool}{V:List Value}{U:List K}
theorem SetK.sup {S:Addr}{seen:List K}{h h':Heap}(Z:SetK is hash S led V seen h)(e:∀ o,h.get? S=some o→h'.get? S=some o):SetK is hash S led V seen h':=by
 obtain⟨es,ep,t,ho,r⟩:=Z
 exact⟨es,ep,t,e _ ho,r⟩
theorem cL (a:AddS prog w is hash h0)(W:WalksS prog w A.in1 I fp wr G n P St)(S:Addr)(hSf:S ∉ fp)(hu:A.in1.units<cLine)(key:Nat→K)(hkey:∀ i v,P i v→is (key i) v∧v∈V)(hU:U.length≤63)(hUk:∀ i,i<n→key i∈U)
  (hS0:h0.get? S=none) (hw0:∀ b∈wr,h0.get? b=none):∀ (k i:Nat) (s:Shared),n-i=k→i≤n→St i s→Sup h0 s.heap→SetK is hash S led V (yI key i) s.heap →
   (∀ s',Moved (S::wr) G s s'→SetK is hash S led V (yI key n) s'.heap→R (.ok (.ret .none)) s')→codeAny (model prog w) A (.builtin "set.update.loop" ⟨[.ref S,.ref I],[]⟩) R s:=by
 have hSw:S ∉ wr:=fun h=>hSf (W.sub _ h)
 have hsub:∀ b∈wr,b∈S::wr:=fun b hb=>List.mem_cons_of_mem _ hb
 intro k
 induction k with
 |zero =>
  intro i s hk hi hst hS Z hR
  have hin:i=n:=by omega
  subst hin
  refine codeAny_builtin PyProof.Rows.F.entry_set_update_loop ?_
  rw[Around.under_plainId PyProof.Rows.F.plain_set_update_loop _]
  show wpAny _ A.in1 (pyNext (.ref I) >>= _) _ _ s
  refine wpAny_bind (W.done s _ _ hst fun s' hm=>?_)
  exact wpAny_pure (hR s' (hm.mono hsub) (Z.sup fun o e=>hm.heap S _ hSw e))
 |succ k ih =>
  intro i s hk hi hst hS Z hR
  have hlt:i<n:=by omega
  refine codeAny_builtin PyProof.Rows.F.entry_set_update_loop ?_
  rw[Around.under_plainId PyProof.Rows.F.plain_set_update_loop _]
  show wpAny _ A.in1 (pyNext (.ref I) >>= _) _ _ s
  refine wpAny_bind (W.item i s _ _ hlt hst fun v s' hP hst' hm=>?_)
  obtain⟨q1,q2⟩:=hkey i v hP
  have hS':Sup h0 s'.heap:=fun b o e=>hm.heap b o (fun hb=>by rw[hw0 b hb] at e;cases e) (hS b o e)
  show wpAny _ A.in1 (holding [v] (setAdd S v) >>= _) _ _ s'
  refine wpAny_bind (wpAny_holding (a.add hu hS' (Z.sup fun o e=>hm.heap S _ hSw e) q1 q2 hU (fun k' hk'=>?_) (hUk i hlt) fun b h' tk htk hsb Z'=>?_))
  ·obtain⟨j,hj,e⟩:=jQ.mp hk'
   exact e▸hUk j (by omega)
  ·refine wpAny_pure ⟨plainId_quiet PyProof.Rows.F.plain_set_update_loop _,ih (i+1) _ (by omega) hlt (W.frame _ s' _ _ hst' htk fun b hb o e=>?_) (fun b o e=>?_) Z' fun s'' hm'' Z''=>?_⟩
   ·rw[hsb.2 b (fun h:b=S=>hSf (by rw[← h];exact hb))];exact e
   ·rw[hsb.2 b (fun h:b=S=>by rw[h,hS0] at e;cases e)];exact hS' b o e
   ·refine hR s'' (Moved.trans W.gtrans ((hm.mono hsub).then_heap htk fun b o hb e=>?_) hm'') Z''
    rw[hsb.2 b (fun h:b=S=>hb (by rw[h];exact List.mem_cons_self))];exact e
end
section
variable {prog:Program}{w:World}{A:Around}{E:Value→Shared→Prop}{s:Shared}
def wY (w:World):Bool:=!w.params.followText "set-order"
@[reducible] def set0 (w:World):Obj:=setO #[] 0 (.fresh 0 0 (wY w))
theorem bE (a:Value){Q₁:Value→Shared→Prop}(h:Q₁ (.ref s.heap.objs.size) { s with heap:=s.heap.push (set0 w) }) : codeAny (model prog w) A (.call (.builtin "set.__new__") ⟨[.type "set",a],[]⟩) (wants Q₁ E) s:=by
 refine codeAny_of_tree ?_
 show wpAny _ A.in1 (do checkBuiltinCall "set.__new__" ⟨[.type "set",a],[]⟩;again (.builtin "set.__new__" ⟨[.type "set",a],[]⟩)) _ _ s
 refine wpAny_bind (wpAny_of_eq (PySem.F.newCall_set_1 a) (wpAny_pure ⟨plainId_quiet PySem.F.plain_set_new _,codeAny_builtin PySem.F.entry_set_new ?_⟩))
 rw[Around.under_plainId PySem.F.plain_set_new _]
 unfold Builtin.«set.__new__» Builtin.Frozenset.newClass
 have hsub:=PySem.sub_set_self
 obtain⟨hp,g,d,tk,os⟩:=s
 dsimp only
 wp_walk
 refine wpAny_askSetting (wpAny_pure ?_)
 dsimp only
 simp only[newObj]
 exact wpAny_bind (wpAny_alloc (wpAny_pure (wpAny_pure h)))
theorem lC (w:World):TabT (.fresh 0 0 (wY w)) #[]:=⟨⟨by unfold Rs;exact List.Pairwise.nil,rfl⟩,.inl rfl,rfl,fun x hx=>(by cases hx),(show 0*5<7*3 by decide),fun i e h=>(by simp at h),rfl⟩
variable {K:Type}{is:K→Value→Prop}{hash:K→Int}{U:List K}
theorem XW (a:AddS prog w is hash s.heap){l:Addr}{items:Array Value}{Q:Value→Shared→Prop}(hh:A.handled=none)(hu:A.units+8<cLine)(hl:s.heap.IsList l items)(key:Nat→K)(hkey:∀ i v,items[i]? = some v→is (key i) v)(hU:U.length≤63)(hUk:∀ i,i<items.size→key i∈U)
  (h:∀ (h':Heap) (tk:Nat),SetK is hash s.heap.objs.size (wY w) items.toList (yI key items.size) h'→(∀ b o,s.heap.get? b=some o→h'.get? b=some o)→Q (.ref s.heap.objs.size) { s with heap:=h',toks:=tk }) :
  wpAny (model prog w) A (call (.type "set") [.ref l]) Q E s:=by
 obtain⟨c,tl,hmro⟩:=PySem.F.called_set.mro
 have hmade:=PySem.F.called_set.made
 have hsub:=PySem.F.called_set.sub
 refine wpAny_call (codeAny_of_tree ?_)
 show wpAny _ _ (callAny (.type "set") _) _ _ _
 refine wpAny_pure ⟨Code.quiet_builtin _ (by decide +kernel),codeAny_builtin PySem.F.entry_type_call ?_⟩
 rw[Around.under_plain (weight_type_call_type "set" [.ref l] []) rfl]
 have h1:=PySem.F.called_set.notType
 have h2:=PySem.F.called_set.canCreate
 have hct:=PySem.F.typeCall_set_1 (.ref l)
 repeat (any_goals (first|assumption|wp_step))
 refine codeAny_mono (bE (.ref l) (E:=E) (Q₁:=fun obj s₁=>obj=.ref s.heap.objs.size∧s₁={ s with heap:=s.heap.push (set0 w) }) ⟨rfl,rfl⟩) fun r s₁ hr=>?_
 cases r with
 |error e=>exact hr
 |ok fl =>
  cases fl with
  |ret obj =>
   obtain⟨rfl,rfl⟩:=hr
   have hS:(s.heap.push (set0 w)).get? s.heap.objs.size=some (set0 w):=Heap.get?_push_size _ rfl
   have hT:Shared.TypeIs { s with heap:=s.heap.push (set0 w) } (.ref s.heap.objs.size) "set":=⟨_,hS,rfl⟩
   have hli:=PySem.F.called_set.init.lookup
   have hbi:=PySem.F.called_set.init.bind (.ref s.heap.objs.size)
   repeat (any_goals (first|assumption|wp_step))
   refine codeAny_mono (codeAny_call_builtin (R:=wants (fun r s₂=>r=.none∧∃ h' tk,s₂={ s with heap:=h',toks:=tk } ∧ SetK is hash s.heap.objs.size (wY w) items.toList (yI key items.size) h'∧∀ b o,s.heap.get? b=some o→h'.get? b=some o) E) PySem.F.called_set.init.plain PySem.F.entry_set_init (check_set_init_1 hT ?_)) fun r₂ s₂ hr₂=>?_
   ·obtain⟨ol,hol,hcl,nl,hdl⟩:=hl
    obtain⟨ocls,odict,odata,oslots⟩:=ol
    simp only at hcl hdl
    subst hcl;subst hdl
    have hol':(s.heap.push (set0 w)).get? l=some { cls:=.type "list",dict:=odict,data:=.seq items nl,slots:=oslots }:=Heap.get?_push_of_some _ hol
    have hsls:=PySem.F.sub_list_set
    have hslf:=PySem.F.sub_list_frozenset
    have hne:(Value.type "list" == Value.type "dict")=false:=by decide
    have hl1:(s.heap.push (set0 w)).IsList l items:=⟨_,hol',rfl,nl,rfl⟩
    unfold Builtin.«set.__init__» noKeywords Builtin.Frozenset.updateFrom
    generalize hPI:pyIter=PI
    wp_walk
    subst hPI
    refine wpAny_pyIter_list hl1 ?_
    refine wpAny_bind (wpAny_runValue ?_)
    have hlS:l<s.heap.objs.size:=Heap.lt_size hol
    have hneI:l≠(s.heap.push (set0 w)).objs.size:=by
     rw[Heap.size_push];exact Nat.ne_of_lt (Nat.lt_succ_of_lt hlS)
    have nS:s.heap.get? s.heap.objs.size=none:=Heap.get?_none_of_le (Nat.le_refl _)
    have nI:s.heap.get? (s.heap.push (set0 w)).objs.size=none:=Heap.get?_none_of_le (by rw[Heap.size_push];exact Nat.le_succ _)
    refine cL (led:=wY w) (V:=items.toList) a ((Walks.list (A:=A.in1.in1.in1) (by simp[hh]) _ l hneI items).toS) s.heap.objs.size ?_ (by show A.units+3<cLine;omega) key (fun i v hv=>⟨hkey i v hv,?_⟩) hU hUk nS (fun b hb=>?_) (items.size-0) 0 _ (by omega) (Nat.zero_le _)
     ⟨⟨_,Heap.get?_push_size _ rfl,rfl,rfl⟩,hl1.push _⟩ (fun b o e=>Heap.get?_push_of_some _ (Heap.get?_push_of_some _ e)) ?_ fun s' hm hS'=>?_
    ·rw[Heap.size_push];simp only[List.mem_cons,List.mem_singleton,List.not_mem_nil,or_false,not_or]
     exact⟨Nat.ne_of_lt (Nat.lt_succ_self _),Nat.ne_of_gt hlS⟩
    ·exact List.mem_of_getElem? (by rw[Array.getElem?_toList];exact hv)
    ·rw[List.mem_singleton.mp hb];exact nI
    ·exact⟨#[],0,_,Heap.get?_push_of_some _ hS,Set0.nil,lC w,rfl,fun e he=>by simp at he⟩
    ·obtain⟨h',g',d',tk',os'⟩:=s'
     have eg:g'=s.gens:=hm.gens
     have ed:d'=s.drawn:=hm.drawn
     have eo:os'=s.os:=hm.os
     subst eg;subst ed;subst eo
     refine wpAny_pure (wpAny_pure ⟨rfl,h',tk',rfl,hS',fun b o e=>?_⟩)
     refine hm.heap b o (fun hb=>?_) (Heap.get?_push_of_some _ (Heap.get?_push_of_some _ e))
     rcases List.mem_cons.mp hb with rfl|hb
     ·rw[nS] at e;cases e
     ·rw[List.mem_singleton.mp hb,nI] at e;cases e
   ·cases r₂ with
    |error e=>exact hr₂
    |ok fl₂ =>
     cases fl₂ with
     |ret r =>
      obtain⟨rfl,h',tk,rfl,hS',hk'⟩:=hr₂
      repeat (any_goals (first|assumption|wp_step))
      exact h _ _ hS' hk'
     |_=>exact hr₂.elim
  |_=>exact hr.elim
theorem o7 (a:AddS prog w is hash s.heap){l:Addr}{items:Array Value}{Q:Value→Shared→Prop}(hh:A.handled=none)(hu:A.units+8<cLine)(hl:s.heap.IsTuple l items)(key:Nat→K)(hkey:∀ i v,items[i]? = some v→is (key i) v)(hU:U.length≤63)(hUk:∀ i,i<items.size→key i∈U)
  (h:∀ (h':Heap) (tk:Nat),SetK is hash s.heap.objs.size (wY w) items.toList (yI key items.size) h'→(∀ b o,s.heap.get? b=some o→h'.get? b=some o)→Q (.ref s.heap.objs.size) { s with heap:=h',toks:=tk }) :
  wpAny (model prog w) A (call (.type "set") [.ref l]) Q E s:=by
 obtain⟨c,tl,hmro⟩:=PySem.F.called_set.mro
 have hmade:=PySem.F.called_set.made
 have hsub:=PySem.F.called_set.sub
 refine wpAny_call (codeAny_of_tree ?_)
 show wpAny _ _ (callAny (.type "set") _) _ _ _
 refine wpAny_pure ⟨Code.quiet_builtin _ (by decide +kernel),codeAny_builtin PySem.F.entry_type_call ?_⟩
 rw[Around.under_plain (weight_type_call_type "set" [.ref l] []) rfl]
 have h1:=PySem.F.called_set.notType
 have h2:=PySem.F.called_set.canCreate
 have hct:=PySem.F.typeCall_set_1 (.ref l)
 repeat (any_goals (first|assumption|wp_step))
 refine codeAny_mono (bE (.ref l) (E:=E) (Q₁:=fun obj s₁=>obj=.ref s.heap.objs.size∧s₁={ s with heap:=s.heap.push (set0 w) }) ⟨rfl,rfl⟩) fun r s₁ hr=>?_
 cases r with
 |error e=>exact hr
 |ok fl =>
  cases fl with
  |ret obj =>
   obtain⟨rfl,rfl⟩:=hr
   have hS:(s.heap.push (set0 w)).get? s.heap.objs.size=some (set0 w):=Heap.get?_push_size _ rfl
   have hT:Shared.TypeIs { s with heap:=s.heap.push (set0 w) } (.ref s.heap.objs.size) "set":=⟨_,hS,rfl⟩
   have hli:=PySem.F.called_set.init.lookup
   have hbi:=PySem.F.called_set.init.bind (.ref s.heap.objs.size)
   repeat (any_goals (first|assumption|wp_step))
   refine codeAny_mono (codeAny_call_builtin (R:=wants (fun r s₂=>r=.none∧∃ h' tk,s₂={ s with heap:=h',toks:=tk } ∧ SetK is hash s.heap.objs.size (wY w) items.toList (yI key items.size) h'∧∀ b o,s.heap.get? b=some o→h'.get? b=some o) E) PySem.F.called_set.init.plain PySem.F.entry_set_init (check_set_init_1 hT ?_)) fun r₂ s₂ hr₂=>?_
   ·obtain⟨ol,hol,hcl,nl,hdl⟩:=hl
    obtain⟨ocls,odict,odata,oslots⟩:=ol
    simp only at hcl hdl
    subst hcl;subst hdl
    have hol':(s.heap.push (set0 w)).get? l=some { cls:=.type "tuple",dict:=odict,data:=.seq items nl,slots:=oslots }:=Heap.get?_push_of_some _ hol
    have hsls:=PySem.F.sub_tuple_set
    have hslf:=PySem.F.sub_tuple_frozenset
    have hne:(Value.type "tuple" == Value.type "dict")=false:=by decide
    have hl1:(s.heap.push (set0 w)).IsTuple l items:=⟨_,hol',rfl,nl,rfl⟩
    unfold Builtin.«set.__init__» noKeywords Builtin.Frozenset.updateFrom
    generalize hPI:pyIter=PI
    wp_walk
    subst hPI
    refine wpAny_pyIter_tuple hl1 ?_
    refine wpAny_bind (wpAny_runValue ?_)
    have hlS:l<s.heap.objs.size:=Heap.lt_size hol
    have hneI:l≠(s.heap.push (set0 w)).objs.size:=by
     rw[Heap.size_push];exact Nat.ne_of_lt (Nat.lt_succ_of_lt hlS)
    have nS:s.heap.get? s.heap.objs.size=none:=Heap.get?_none_of_le (Nat.le_refl _)
    have nI:s.heap.get? (s.heap.push (set0 w)).objs.size=none:=Heap.get?_none_of_le (by rw[Heap.size_push];exact Nat.le_succ _)
    refine cL (led:=wY w) (V:=items.toList) a ((Walks.tuple (A:=A.in1.in1.in1) (by simp[hh]) _ l hneI items).toS) s.heap.objs.size ?_ (by show A.units+3<cLine;omega) key (fun i v hv=>⟨hkey i v hv,?_⟩) hU hUk nS (fun b hb=>?_) (items.size-0) 0 _ (by omega) (Nat.zero_le _)
     ⟨⟨_,Heap.get?_push_size _ rfl,rfl,rfl⟩,hl1.push _⟩ (fun b o e=>Heap.get?_push_of_some _ (Heap.get?_push_of_some _ e)) ?_ fun s' hm hS'=>?_
    ·rw[Heap.size_push];simp only[List.mem_cons,List.mem_singleton,List.not_mem_nil,or_false,not_or]
     exact⟨Nat.ne_of_lt (Nat.lt_succ_self _),Nat.ne_of_gt hlS⟩
    ·exact List.mem_of_getElem? (by rw[Array.getElem?_toList];exact hv)
    ·rw[List.mem_singleton.mp hb];exact nI
    ·exact⟨#[],0,_,Heap.get?_push_of_some _ hS,Set0.nil,lC w,rfl,fun e he=>by simp at he⟩
    ·obtain⟨h',g',d',tk',os'⟩:=s'
     have eg:g'=s.gens:=hm.gens
     have ed:d'=s.drawn:=hm.drawn
     have eo:os'=s.os:=hm.os
     subst eg;subst ed;subst eo
     refine wpAny_pure (wpAny_pure ⟨rfl,h',tk',rfl,hS',fun b o e=>?_⟩)
     refine hm.heap b o (fun hb=>?_) (Heap.get?_push_of_some _ (Heap.get?_push_of_some _ e))
     rcases List.mem_cons.mp hb with rfl|hb
     ·rw[nS] at e;cases e
     ·rw[List.mem_singleton.mp hb,nI] at e;cases e
   ·cases r₂ with
    |error e=>exact hr₂
    |ok fl₂ =>
     cases fl₂ with
     |ret r =>
      obtain⟨rfl,h',tk,rfl,hS',hk'⟩:=hr₂
      repeat (any_goals (first|assumption|wp_step))
      exact h _ _ hS' hk'
     |_=>exact hr₂.elim
  |_=>exact hr.elim
theorem aE (a:AddS prog w is hash s.heap){l:Addr}{items:Array Value}{Q:Value→Shared→Prop}(hh:A.handled=none)(hu:A.units+8<cLine)(hl:s.heap.IsList l items∨s.heap.IsTuple l items)(key:Nat→K)(hkey:∀ i v,items[i]? = some v→is (key i) v)(hU:U.length≤63)(hUk:∀ i,i<items.size→key i∈U)
  (h:∀ (h':Heap) (tk:Nat),SetK is hash s.heap.objs.size (wY w) items.toList (yI key items.size) h'→(∀ b o,s.heap.get? b=some o→h'.get? b=some o)→Q (.ref s.heap.objs.size) { s with heap:=h',toks:=tk }) :
  wpAny (model prog w) A (call (.type "set") [.ref l]) Q E s:=by
 rcases hl with hl|hl
 ·exact XW a hh hu hl key hkey hU hUk h
 ·exact o7 a hh hu hl key hkey hU hUk h
end
end _S
end
section
namespace _S
open PySem
theorem fF {α : Type}:∀ {l:List α} {i:Nat} (h:i<l.length),(l[i]::l.eraseIdx i).Perm l
 |a::l,0,h=>by simp
 |a::l,i+1,h=>by
  rw[List.eraseIdx_cons_succ,List.getElem_cons_succ]
  exact(List.Perm.swap _ _ _).trans ((fF (l:=l) (i:=i) (by simpa using h)).cons a)
theorem nR {α : Type}(next:Nat→Nat):∀ (fuel k:Nat) (left:List α) (out:Array α),left.length=fuel→(pickOrder.go next fuel k left out).toList.Perm (out.toList++left)
 |0,k,left,out,h=>by
  have:left=[]:=List.eq_nil_of_length_eq_zero h
  subst this
  unfold pickOrder.go
  simp
 |fuel+1,k,left,out,h=>by
  unfold pickOrder.go
  have hlt:next k % left.length<left.length:=Nat.mod_lt _ (by omega)
  rw[List.getElem?_eq_getElem hlt]
  dsimp only
  refine(nR next fuel (k+1) _ _ (by rw[List.length_eraseIdx,if_pos hlt];omega)).trans ?_
  rw[Array.toList_push,List.append_assoc]
  refine List.Perm.append_left _ ?_
  exact fF hlt
theorem tI {α : Type}(next:Nat→Nat)(xs:Array α) : (pickOrder next xs).toList.Perm xs.toList:=by
 have:=nR next xs.size 0 xs.toList #[] (by simp)
 simpa [pickOrder] using this
theorem vC:Slot "set_iterator" "__next__" "set_iterator.__next__":=
 .of (owner:="set_iterator") (n:="__next__") (by rw[typeLookup_type,builtinLookup_eq_fast];kernel_rfl) (by decide +kernel) (by decide +kernel) (by decide +kernel) (.inl (by decide +kernel)) (by rw[isSubtype_type];kernel_rfl)
theorem fE:entryFor table "set_iterator.__next__" = some Builtin.«set_iterator.__next__»:=entryFor_of_fast (by kernel_rfl)
theorem tU (a:Value):argsOk "set_iterator.__next__" ⟨[a],[]⟩:=by unfold argsOk;kernel_rfl
theorem l8:Slot "set_iterator" "__iter__" "set_iterator.__iter__":=
 .of (owner:="set_iterator") (n:="__iter__") (by rw[typeLookup_type,builtinLookup_eq_fast];kernel_rfl) (by decide +kernel) (by decide +kernel) (by decide +kernel) (.inl (by decide +kernel)) (by rw[isSubtype_type];kernel_rfl)
theorem aM:entryFor table "set_iterator.__iter__" = some Builtin.«dict_keyiterator.__iter__»:=entryFor_alias (id':="dict_keyiterator.__iter__") (by kernel_rfl) rfl (by decide +kernel) (by kernel_rfl)
theorem iY (a:Value):argsOk "set_iterator.__iter__" ⟨[a],[]⟩:=by unfold argsOk;kernel_rfl
theorem aL:entryFor table "set.__iter__" = some Builtin.«frozenset.__iter__»:=entryFor_alias (id':="frozenset.__iter__") (by kernel_rfl) rfl (by decide +kernel) (by kernel_rfl)
theorem KA (a:Addr)(slot given epochThen:Nat):setNext a slot given epochThen=(do
  let (es,epoch,t) ← setState a
  if ← setsByText then
   if epoch != epochThen then unsupported "set_iterator.__next__:elements-changed"
   return ((← setWalk a)[given]?).map fun e=>(e.2,slot)
  if !t.plain&&es.size>1 then unsupported "set_iterator.__next__:the-table-is-plain-no-more"
  (do if !t.led&&!es.isEmpty then unsupported "set:maker-not-led")
  return match es[SetTable.below t.place slot]?,t.place[SetTable.below t.place slot]? with
   |some (_,x),some j=>some (x,j+1)
   |_,_=>none):=rfl
theorem GM (a:Addr):setWalk a=(do
  let (es,epoch,t) ← setState a
  if ← setsByText then return pickOrder ((← ask).params.setOrder a epoch) es
  if !t.plain&&es.size>1 then return (← drawOrder es.size es.toList).toArray
  (do if !t.led&&es.size>1 then unsupported "set:maker-not-led")
  return es):=rfl
theorem WE (a:Addr):setDrawn a=(do
  let (es,_,t) ← setState a
  let byText ← setsByText
  return !byText&&(!t.plain&&es.size>1)):=rfl
structure Still (w:World)(S:Addr)(es:Array (Int × Value))(ep:Nat)(t:SetTable):Prop where
 tab:TabT t es
 led:t.led=wY w
noncomputable def qR (w:World)(S:Addr)(ep:Nat)(es:Array (Int × Value)):Array (Int × Value):=if w.params.followText "set-order" = true then pickOrder (w.params.setOrder S ep) es else es
theorem m7 (w:World)(S:Addr)(ep:Nat)(es:Array (Int × Value)):(qR w S ep es).toList.Perm es.toList:=by
 unfold qR
 split
 ·exact tI _ _
 ·exact List.Perm.refl _
theorem uX (w:World)(S:Addr)(ep:Nat)(es:Array (Int × Value)):(qR w S ep es).size=es.size:=by
 rw[← Array.length_toList,(m7 w S ep es).length_eq,Array.length_toList]
def itO (slot i:Nat)(S:Addr)(n ep:Nat):Obj:={ cls:=.type "set_iterator",data:=.fields #[.int slot 0,.int i 0,.ref S,.int n 0,.int ep 0] }
def At (w:World)(I S:Addr)(es:Array (Int × Value))(ep:Nat)(t:SetTable)(i:Nat)(h:Heap):Prop:=
 ∃ slot,h.get? I=some (itO slot i S es.size ep)∧h.get? S=some (setO es ep t)∧(w.params.followText "set-order" = true∨SetTable.below t.place slot=i)
section
variable {prog:Program}{w:World}{A:Around}{E:Value→Shared→Prop}{s:Shared}{S I:Addr}{es:Array (Int × Value)}{ep:Nat}{t:SetTable}
theorem iM {slot i:Nat}{Q:Option (Value × Nat)→Shared→Prop}(Z:Still w S es ep t)(ho:s.heap.get? S=some (setO es ep t))(hs:w.params.followText "set-order" = true∨SetTable.below t.place slot=i)
  (h1:∀ e slot',(qR w S ep es)[i]? = some e→(w.params.followText "set-order" = true∨SetTable.below t.place slot'=i+1)→Q (some (e.2,slot')) s) (h2:(qR w S ep es)[i]? = none→Q none s):wpAny (model prog w) A (setNext S slot i ep) Q E s:=by
 rw[KA]
 refine wpAny_bind (wpAny_setState_of ho rfl Z.tab.fits ?_)
 dsimp only
 refine wpAny_bind (wpAny_bind (wpAny_askSetting (wpAny_pure ?_)))
 cases hf:w.params.followText "set-order" with
 |true =>
  show wpAny _ _ (if (w.params.followText "set-order")=true then _ else _) _ _ _
  rw[if_pos hf]
  have hb:(ep != ep)=false:=by simp
  rw[hb]
  simp only[Bool.false_eq_true,if_false]
  refine wpAny_bind ?_
  rw[GM]
  refine wpAny_bind (wpAny_setState_of ho rfl Z.tab.fits ?_)
  dsimp only
  refine wpAny_bind (wpAny_bind (wpAny_askSetting (wpAny_pure ?_)))
  show wpAny _ _ (if (w.params.followText "set-order")=true then _ else _) _ _ _
  rw[if_pos hf]
  refine wpAny_bind (wpAny_askSetting (wpAny_pure (wpAny_pure ?_)))
  show Q (((pickOrder (w.params.setOrder S ep) es)[i]?).map fun e=>(e.2,slot)) s
  have ho':qR w S ep es=pickOrder (w.params.setOrder S ep) es:=by unfold qR;rw[if_pos hf]
  rw[ho'] at h1 h2
  cases hx:(pickOrder (w.params.setOrder S ep) es)[i]? with
  |none=>exact h2 hx
  |some e=>exact h1 e slot hx (.inl hf)
 |false =>
  show wpAny _ _ (if (w.params.followText "set-order")=true then _ else _) _ _ _
  rw[if_neg (by rw[hf];decide),Z.tab.plain,Z.led]
  unfold wY
  rw[hf]
  simp only[Bool.not_true,Bool.false_and,Bool.false_eq_true,if_false,Bool.not_false]
  have hb:SetTable.below t.place slot=i:=by
   rcases hs with h|h
   ·rw[hf] at h;cases h
   ·exact h
  rw[hb]
  have ho':qR w S ep es=es:=by unfold qR;rw[if_neg (by rw[hf];decide)]
  rw[ho'] at h1 h2
  refine wpAny_pure ?_
  cases hx:es[i]? with
  |none=>exact h2 hx
  |some e =>
   have hi:i<t.place.size:=by rw[Z.tab.size];exact(Array.getElem?_eq_some_iff.mp hx).1
   have hp:t.place[i]? = some t.place[i]:=Array.getElem?_eq_getElem hi
   rw[hp]
   exact h1 e _ hx (.inr (aA Z.tab.tb.rs hp))
theorem At.type {i:Nat}(h:At w I S es ep t i s.heap):s.TypeIs (.ref I) "set_iterator":=by
 obtain⟨slot,h,_⟩:=h
 exact⟨_,h,rfl⟩
theorem nP {i:Nat}{Q:Value→Shared→Prop}(Z:Still w S es ep t)(hI:At w I S es ep t i s.heap)
  (h1:∀ e slot' slot,(qR w S ep es)[i]? = some e→s.heap.get? I=some (itO slot i S es.size ep)→s.heap.get? S=some (setO es ep t)→(w.params.followText "set-order" = true∨SetTable.below t.place slot'=i+1) →
   Q e.2 { s with heap:=(s.heap.update I (Obj.mapFields (·.setIfInBounds 0 (rawInt slot')))).update I (Obj.mapFields (·.setIfInBounds 1 (rawInt ((i:Int)+1)))) })
  (h2:(qR w S ep es)[i]? = none→wpAny (model prog w) A (do setField (.ref I) 2 .none;raiseNew (← newExc (.type "StopIteration") [])) (fun (fin:PySem.Fin) s'=>∃ r,fin=.done (.ret r)∧Q r s') E s) :
  wpAny (model prog w) A (Builtin.«set_iterator.__next__» ⟨[.ref I],[]⟩) (fun fin s'=>∃ r,fin=.done (.ret r)∧Q r s') E s:=by
 obtain⟨slot,hg,hS,hb⟩:=hI
 show wpAny _ _ (fieldsOf (.ref I) >>= _) _ _ s
 refine wpAny_bind (wpAny_fieldsOf hg rfl ?_)
 show wpAny _ _ (setEntries S >>= _) _ _ s
 refine wpAny_bind (wpAny_setEntries_of hS rfl Z.tab.fits ?_)
 have hne:(((es.size:Nat):Int) != ((es.size:Nat):Int))=false:=by simp
 rw[hne]
 simp only[Bool.false_eq_true,if_false]
 show wpAny _ _ (setNext S (slot:Int).toNat (i:Int).toNat (ep:Int).toNat >>= _) _ _ s
 rw[Int.toNat_natCast,Int.toNat_natCast,Int.toNat_natCast]
 refine wpAny_bind (iM Z hS hb (fun e slot' he hb'=>?_) fun he=>?_)
 ·dsimp only
  refine wpAny_bind (wpAny_setField hg rfl (by show 0<5;decide) ?_)
  have hg2:=Heap.get?_update_self (Obj.mapFields (·.setIfInBounds 0 (rawInt slot'))) hg rfl
  refine wpAny_bind (wpAny_setField hg2 rfl (by show 1<5;decide) ?_)
  exact wpAny_pure ⟨_,rfl,h1 e slot' slot he hg hS hb'⟩
 ·exact h2 he
theorem GL (hh:A.handled=none)(hne:S≠I)(Z:Still w S es ep t):Walks prog w A I [I,S] [I] es.size (fun i v=>∃ e,(qR w S ep es)[i]? = some e∧e.2=v) (fun i h=>At w I S es ep t i h) where
 sub:=fun b hb=>by simp at hb;simp[hb]
 frame:=fun i h h' ⟨slot,h1,h2,h3⟩ hk=>⟨slot,hk I (by simp) _ h1,hk S (by simp) _ h2,h3⟩
 item:=fun i s Q E hi st hQ=>by
  unfold pyNext
  refine wpAny_bind (wpAny_attempt (wpAny_callSpecial?_slot (name:=Str.ofString "__next__") st.type vC (wpAny_call_entry vC st.type fE (nP Z st (fun e slot' slot he hg hS hb=>?_) fun he=>?_) (tU _))))
  ·refine wpAny_pure (hQ e.2 _ s.toks ⟨e,he,rfl⟩ ⟨slot',?_,?_,hb⟩ fun b o hb e=>?_)
   ·exact Heap.get?_update_self _ (Heap.get?_update_self _ hg rfl) rfl
   ·rw[Heap.get?_update_other _ _ hne.symm,Heap.get?_update_other _ _ hne.symm];exact hS
   ·have hb:I≠b:=fun z=>hb (by simp[z])
    rw[Heap.get?_update_other _ _ hb,Heap.get?_update_other _ _ hb];exact e
  ·have:=Array.getElem?_eq_none_iff.mp he
   rw[uX] at this
   omega
 done:=fun s Q E st hQ=>by
  unfold pyNext
  refine wpAny_bind (wpAny_attempt (wpAny_callSpecial?_slot (name:=Str.ofString "__next__") st.type vC (wpAny_call_entry vC st.type fE (nP Z st (fun e slot' slot he hg hS hb=>?_) fun he=>?_) (tU _))))
  ·have:=(Array.getElem?_eq_some_iff.mp he).1
   rw[uX] at this
   omega
  ·obtain⟨slot,hg,hS,hb⟩:=st
   refine wpAny_bind (wpAny_setField hg rfl (by show 2<5;decide) ?_)
   refine wpAny_bind ?_
   simp only[newExc,newTuple]
   refine wpAny_bind (wpAny_newObj_type ?_ (by size_fits))
   refine wpAny_bind (m:=firstArgMember _ _) (wpAny_of_eq (a:=Value.none) (by first|rfl|(simp only[firstArgMember];rfl)) ?_)
   refine wpAny_newObj_type ?_ (by size_fits)
   simp only[raiseNew]
   refine wpAny_bind (wpAny_handled ?_)
   rw[show A.in1.handled=none from hh]
   refine wpAny_bind (wpAny_pure (wpAny_throw ?_))
   refine wpAny_bind (wpAny_isInstance (T:="StopIteration") (b:=true) ⟨_,Heap.get?_push_size _ rfl,rfl⟩ isSubtype_stop ?_)
   refine wpAny_pure (hQ _ s.toks fun b o hb e=>?_)
   exact(((Heap.SameBut.update ..).extBut.push _).push _) b o (fun z=>hb (by simp[z])) e
 self:=fun i s Q E st hQ=>by
  refine wpAny_pyIter_slot st.type l8 (wpAny_call_entry l8 st.type aM ?_ (iY _))
  show wpAny _ _ (ret (.ref I)) _ _ s
  exact wpAny_pure ⟨_,rfl,"set_iterator",_,st.type,vC.lookup,hQ⟩
theorem WS {Q:Value→Shared→Prop}(Z:Still w S es ep t)(ho:s.heap.get? S=some (setO es ep t))(h:Q (.ref s.heap.objs.size) { s with heap:=s.heap.push (itO 0 0 S es.size ep) }) : wpAny (model prog w) A (pyIter (.ref S)) Q E s:=by
 have hT:s.TypeIs (.ref S) "set":=⟨_,ho,rfl⟩
 refine wpAny_pyIter_slot hT PySem.F.slot_set_iter (wpAny_call_entry PySem.F.slot_set_iter hT aL ?_ (PySem.F.args_set_iter_1 _))
 show wpAny _ _ (Builtin.Frozenset.sizeOf S >>= _) _ _ s
 unfold Builtin.Frozenset.sizeOf
 refine wpAny_bind (wpAny_bind (wpAny_setEntries_of ho rfl Z.tab.fits (wpAny_pure ?_)))
 refine wpAny_bind ?_
 rw[WE]
 refine wpAny_bind (wpAny_setState_of ho rfl Z.tab.fits ?_)
 dsimp only
 refine wpAny_bind (wpAny_bind (wpAny_askSetting (wpAny_pure (wpAny_pure ?_))))
 rw[Z.tab.plain]
 simp only[Bool.not_true,Bool.false_and,Bool.and_false,Bool.false_eq_true,if_false]
 refine wpAny_bind (wpAny_pure ?_)
 unfold setEpoch
 refine wpAny_bind (wpAny_bind (wpAny_setState_of ho rfl Z.tab.fits (wpAny_pure ?_)))
 refine wpAny_bind (wpAny_newObj_type (wpAny_pure ⟨_,rfl,"set_iterator",_,⟨_,Heap.get?_push_size _ rfl,rfl⟩,vC.lookup,h⟩))
theorem UH (Z:Still w S es ep t)(ho:s.heap.get? S=some (setO es ep t)):At w s.heap.objs.size S es ep t 0 (s.heap.push (itO 0 0 S es.size ep)):=
 ⟨0,Heap.get?_push_size _ rfl,Heap.get?_push_of_some _ ho,.inr (aD Z.tab.tb.rs)⟩
end
end _S
end
section
namespace _S
open PySem PySem.W PyProof.Rows
def run (f:Nat→Nat→Bool){α : Type}:KasT α → α
 |.ret a=>a
 |.ask i j k=>run f (k (f i j))
theorem uE (f:Nat→Nat→Bool){α β:Type}(g:α→KasT β) : ∀ t:KasT α,run f (t.bind g)=run f (g (run f t))
 |.ret _=>rfl
 |.ask i j k=>uE f g (k (f i j))
section
variable (r:Nat→Int)
def lt (i j:Nat):Bool:=decide (r i<r j)
def ky (p:Array Nat)(k:Nat):Int:=r (p.getD k 0)
def Up (p:Array Nat)(n:Nat):Prop:=∀ i j,i≤j→j<n→ky r p i≤ky r p j
def Dn (p:Array Nat)(n:Nat):Prop:=∀ i j,i≤j→j<n→ky r p j≤ky r p i
variable {r}
theorem fW {p q:Array Nat}{i j:Nat}(h:p[i]? = q[j]?):ky r p i=ky r q j:=by
 unfold ky
 rw[Array.getD_eq_getD_getElem?,Array.getD_eq_getD_getElem?,h]
set_option tactic.hygienic true in
theorem fX {p:Array Nat}{i j:Nat}(hj:j≤p.size)(k:Nat):ky r (kas_rev p i j) k=if i≤k∧k<j then ky r p (i+j-1-k) else ky r p k:=by
 have:=getElem?_mirror_all (xs:=p) (i:=i) hj k
 unfold kas_rev
 split
 ·rename_i h;rw[if_pos h] at this;exact fW this
 ·rename_i h;rw[if_neg h] at this;exact fW this
theorem v8 (p:Array Nat)(i j:Nat):(kas_rev p i j).size=p.size:=mirror_size _ _ _ _
theorem wT (p:Array Nat)(i j:Nat):(kas_rev p i j).Perm p:=mirror_perm _ _ _ _
theorem bH (p:Array Nat):∀ (f n:Nat),1≤n→let m:=run (lt r) (kas_asc p f n);n≤m∧m≤n+f∧(∀ k,n≤k→k<m→ky r p (k-1)≤ky r p k)∧(m<n+f→ky r p m<ky r p (m-1))
 |0,n,_=>⟨Nat.le_refl _,Nat.le_refl _,fun k h1 h2=>by have:k<n:=h2;omega,fun h=>by have:n<n+0:=h;omega⟩
 |f+1,n,hn=>by
  simp only[kas_asc,run]
  cases hc:lt r (p.getD n 0) (p.getD (n-1) 0) with
  |true =>
   simp only[if_true,run]
   exact⟨Nat.le_refl _,by omega,fun k h1 h2=>by omega,fun _=>of_decide_eq_true hc⟩
  |false =>
   simp only[Bool.false_eq_true,if_false]
   obtain⟨h1,h2,h3,h4⟩:=bH p f (n+1) (by omega)
   refine⟨by omega,by omega,fun k a b=>?_,fun h=>h4 (by omega)⟩
   by_cases hk:k=n
   ·subst hk
    exact Int.not_lt.mp (of_decide_eq_false hc)
   ·exact h3 k (by omega) b
theorem U3 {p:Array Nat}{m:Nat}(h:∀ k,1≤k→k<m→ky r p (k-1)≤ky r p k):Up r p m:=by
 intro i j hij hj
 induction j with
 |zero =>
  have:i=0:=by omega
  subst this;exact Int.le_refl _
 |succ j ih =>
  by_cases e:i=j+1
  ·subst e;exact Int.le_refl _
  ·exact Int.le_trans (ih (by omega) (by omega)) (h (j+1) (by omega) hj)
def Eqs (p:Array Nat)(n q:Nat):Prop:=q<n∧∀ k,n-(q+1)≤k→k<n→ky r p k=ky r p (n-1)
theorem dG (p:Array Nat)(n:Nat):Eqs (r:=r) p (n+1) 0:=⟨Nat.succ_pos _,fun k a b=>by
 have:k=n:=by omega
 subst this
 rfl⟩
set_option tactic.hygienic true in
theorem eK {p:Array Nat}{n q:Nat}(hn:n≤p.size)(h:Eqs (r:=r) p n q)(k:Nat):ky r (kas_rev p (n-(q+1)) n) k=ky r p k:=by
 rw[fX hn]
 split
 ·rename_i hk
  rw[h.2 k hk.1 hk.2,h.2 (n-(q+1)+n-1-k) (by omega) (by omega)]
 ·rfl
theorem mU {p p':Array Nat}(h:∀ k,ky r p' k=ky r p k){n:Nat}(d:Dn r p n):Dn r p' n:=fun i j a b=>by rw[h,h];exact d i j a b
theorem jM:∀ (f:Nat) (p:Array Nat) (n q:Nat),n+f≤p.size→1≤n→Dn r p n→Eqs (r:=r) p n q →
  let o:=run (lt r) (kas_desc f p n q);o.1.size=p.size∧o.1.Perm p∧n≤o.2.1∧o.2.1≤n+f∧Dn r o.1 o.2.1∧Eqs (r:=r) o.1 o.2.1 o.2.2
 |0,p,n,q,_,_,d,e=>⟨rfl,Array.Perm.refl _,Nat.le_refl _,Nat.le_refl _,d,e⟩
 |f+1,p,n,q,hs,hn,d,e=>by
  simp only[kas_desc,run]
  cases hc:lt r (p.getD n 0) (p.getD (n-1) 0) with
  |true =>
   have hlt:ky r p n<ky r p (n-1):=of_decide_eq_true hc
   simp only[if_true]
   have d':Dn r p (n+1):=fun i j a b=>by
    by_cases hj:j=n
    ·subst hj
     by_cases hi:i=j
     ·subst hi;exact Int.le_refl _
     ·exact Int.le_trans (Int.le_of_lt hlt) (d i (j-1) (by omega) (by omega))
    ·exact d i j a (by omega)
   have e':∀ p:Array Nat,Eqs (r:=r) p (n+1) 0:=fun p=>dG p n
   by_cases hq:q>0
   ·rw[if_pos hq]
    have hk:=eK (r:=r) (p:=p) (n:=n) (q:=q) (by omega) e
    obtain⟨a1,a2,a3,a4,a5,a6⟩:=jM f (kas_rev p (n-(q+1)) n) (n+1) 0 (by rw[v8];omega) (by omega) (mU hk d') (e' _)
    exact⟨by rw[a1,v8],a2.trans (wT _ _ _),by omega,by omega,a5,a6⟩
   ·rw[if_neg hq]
    obtain⟨a1,a2,a3,a4,a5,a6⟩:=jM f p (n+1) 0 (by omega) (by omega) d' (e' _)
    exact⟨a1,a2,by omega,by omega,a5,a6⟩
  |false =>
   simp only[Bool.false_eq_true,if_false,run]
   cases hd:lt r (p.getD (n-1) 0) (p.getD n 0) with
   |true =>
    simp only[if_true,run]
    exact⟨by trivial,Array.Perm.refl _,Nat.le_refl _,by omega,d,e⟩
   |false =>
    simp only[Bool.false_eq_true,if_false]
    have he:ky r p n=ky r p (n-1):=Int.le_antisymm (Int.not_lt.mp (of_decide_eq_false hd)) (Int.not_lt.mp (of_decide_eq_false hc))
    have d':Dn r p (n+1):=fun i j a b=>by
     by_cases hj:j=n
     ·subst hj
      by_cases hi:i=j
      ·subst hi;exact Int.le_refl _
      ·rw[he];exact d i (j-1) (by omega) (by omega)
     ·exact d i j a (by omega)
    have e':Eqs (r:=r) p (n+1) (q+1):=⟨by have:=e.1;omega,fun k a b=>by
     by_cases hk:k=n
     ·subst hk;rfl
     ·rw[e.2 k (by omega) (by omega)];exact he.symm⟩
    obtain⟨a1,a2,a3,a4,a5,a6⟩:=jM f p (n+1) (q+1) (by omega) (by omega) d' e'
    exact⟨a1,a2,by omega,by omega,a5,a6⟩
structure Got (r:Nat→Int)(p:Array Nat)(N:Nat)(o:Nat × Array Nat):Prop where
 size:o.2.size=p.size
 perm:o.2.Perm p
 pos:1≤o.1
 le:o.1≤N
 up:Up r o.2 o.1
theorem lD {p:Array Nat}{n N:Nat}(hN:N≤p.size)(hn:1≤n)(hnN:n≤N)(d:Dn r p n):Got r p N (run (lt r) (kas_tail3 n N p)):=by
 unfold kas_tail3
 rw[uE]
 obtain⟨h1,h2,h3,h4⟩:=bH (r:=r) (kas_rev p 0 n) (N-n) n hn
 refine⟨v8 _ _ _,wT _ _ _,Nat.le_trans hn h1,Nat.le_trans h2 (by omega),U3 fun k a b=>?_⟩
 show ky r (kas_rev p 0 n) (k-1)≤ky r (kas_rev p 0 n) k
 by_cases hk:n≤k
 ·exact h3 k hk b
 ·rw[fX (by omega),fX (by omega),if_pos (by omega),if_pos (by omega)]
  exact d _ _ (by omega) (by omega)
theorem gM {p:Array Nat}{n N:Nat}(hN:N≤p.size)(hn:1≤n)(hnN:n+1≤N)(d:Dn r p (n+1)):Got r p N (run (lt r) (kas_descPart n N p)):=by
 unfold kas_descPart
 rw[uE]
 obtain⟨a1,a2,a3,a4,a5,a6⟩:=jM (r:=r) (N-(n+1)) p (n+1) 0 (by omega) (by omega) d (dG p n)
 generalize run (lt r) (kas_desc (N-(n+1)) p (n+1) 0)=o at *
 split
 ·have hk:=eK (r:=r) (p:=o.1) (n:=o.2.1) (q:=o.2.2) (by omega) a6
  have g:=lD (p:=kas_rev o.1 (o.2.1-(o.2.2+1)) o.2.1) (N:=N) (by rw[v8];omega) (by omega) (by omega) (mU hk a5)
  exact⟨by rw[g.size,v8,a1],(g.perm.trans (wT _ _ _)).trans a2,g.pos,g.le,g.up⟩
 ·have g:=lD (p:=o.1) (N:=N) (by omega) (by omega) (by omega) a5
  exact⟨by rw[g.size,a1],g.perm.trans a2,g.pos,g.le,g.up⟩
theorem aH {p:Array Nat}{N:Nat}(hN:N≤p.size)(h1:1≤N):Got r p N (run (lt r) (kas_count N p)):=by
 unfold kas_count
 rw[uE]
 obtain⟨b1,b2,b3,b4⟩:=bH (r:=r) p (N-1) 1 (Nat.le_refl _)
 generalize run (lt r) (kas_asc p (N-1) 1)=n at *
 have up:Up r p n:=U3 b3
 by_cases hn:n=N
 ·subst hn
  rw[if_pos (by simp)]
  exact⟨rfl,Array.Perm.refl _,h1,Nat.le_refl _,up⟩
 ·rw[if_neg (by simpa using hn)]
  have hlt:=b4 (by omega)
  by_cases hn1:n>1
  ·rw[if_pos hn1]
   simp only[run]
   cases hc:lt r (p.getD 0 0) (p.getD (n-1) 0) with
   |true=>simp only[if_true,run];exact⟨rfl,Array.Perm.refl _,by show 1≤n;omega,by show n≤N;omega,up⟩
   |false =>
    simp only[Bool.false_eq_true,if_false]
    have hle:ky r p (n-1)≤ky r p 0:=Int.not_lt.mp (of_decide_eq_false hc)
    have all:∀ k,k<n→ky r p k=ky r p 0:=fun k hk=>Int.le_antisymm (Int.le_trans (up k (n-1) (by omega) (by omega)) hle) (up 0 k (by omega) hk)
    have keys:∀ k,ky r (kas_rev p 0 n) k=ky r p k:=fun k=>by
     rw[fX (by omega)]
     split
     ·rw[all k (by omega),all _ (by omega)]
     ·rfl
    have g:=gM (p:=kas_rev p 0 n) (n:=n) (N:=N) (by rw[v8];omega) (by omega) (by omega) (mU keys fun i j a b=>by
     by_cases hj:j=n
     ·subst hj
      by_cases hi:i=j
      ·subst hi;exact Int.le_refl _
      ·rw[all i (by omega),← all (j-1) (by omega)];exact Int.le_of_lt hlt
     ·rw[all i (by omega),all j (by omega)];exact Int.le_refl _)
    exact⟨by rw[g.size,v8],g.perm.trans (wT _ _ _),g.pos,g.le,g.up⟩
  ·rw[if_neg hn1]
   have e:n=1:=by omega
   subst e
   exact gM hN (Nat.le_refl _) (by omega) fun i j a b=>by
    by_cases hij:i=j
    ·subst hij;exact Int.le_refl _
    ·have:i=0:=by omega
     have:j=1:=by omega
     subst i j;exact Int.le_of_lt hlt
theorem gB (p:Array Nat)(k:Nat)(up:Up r p k):∀ (f l h:Nat),h-l≤f→l≤h→h≤k→(∀ i,i<l→ky r p i≤ky r p k)→(∀ i,h≤i→i<k→ky r p k<ky r p i) →
  let m:=run (lt r) (kas_place p k f l h);m≤k∧(∀ i,i<m→ky r p i≤ky r p k)∧(∀ i,m≤i→i<k→ky r p k<ky r p i)
 |0,l,h,hf,hl,hk,a,b=>by
  have:l=h:=by omega
  subst this
  exact⟨hk,a,b⟩
 |f+1,l,h,hf,hl,hk,a,b=>by
  simp only[kas_place]
  by_cases hc:l≥h
  ·rw[if_pos hc]
   have:l=h:=by omega
   subst this
   exact⟨hk,a,b⟩
  ·rw[if_neg hc]
   simp only[run]
   cases hq:lt r (p.getD k 0) (p.getD ((l+h)/2) 0) with
   |true =>
    simp only[if_true]
    have hlt:ky r p k<ky r p ((l+h)/2):=of_decide_eq_true hq
    exact gB p k up f l ((l+h)/2) (by omega) (by omega) (by omega) a fun i x y=>Int.lt_of_lt_of_le hlt (up _ _ x y)
   |false =>
    simp only[Bool.false_eq_true,if_false]
    have hle:ky r p ((l+h)/2)≤ky r p k:=Int.not_lt.mp (of_decide_eq_false hq)
    exact gB p k up f ((l+h)/2+1) h (by omega) (by omega) hk (fun i x=>Int.le_trans (up _ _ (by omega) (by omega)) hle) b
theorem nM {p:Array Nat}{k l:Nat}(hk:k<p.size)(hl:l≤k)(i:Nat):ky r (bubble p k (k-l)) i=if i=l then ky r p k else if l<i∧i≤k then ky r p (i-1) else ky r p i:=by
 have h:=getElem?_bubble (xs:=p) hk (k-l) (by omega) i
 rw[show k-(k-l)=l by omega] at h
 by_cases h1:i=l
 ·rw[if_pos h1] at h ⊢;exact fW h
 ·rw[if_neg h1] at h ⊢
  by_cases h2:l<i∧i≤k
  ·rw[if_pos h2] at h ⊢;exact fW h
  ·rw[if_neg h2] at h ⊢;exact fW h
theorem lX:∀ (f:Nat) (p:Array Nat) (k:Nat),k+f≤p.size→Up r p k→let o:=run (lt r) (kas_bin f p k);o.size=p.size∧o.Perm p∧Up r o (k+f)
 |0,p,k,_,up=>⟨rfl,Array.Perm.refl _,up⟩
 |f+1,p,k,hs,up=>by
  simp only[kas_bin]
  rw[uE]
  obtain⟨h1,h2,h3⟩:=gB p k up k 0 k (by omega) (by omega) (Nat.le_refl _) (fun i hi=>by omega) fun i a b=>by omega
  generalize run (lt r) (kas_place p k k 0 k)=l at *
  have up':Up r (bubble p k (k-l)) (k+1):=fun i j a b=>by
   rw[nM (by omega) h1,nM (by omega) h1]
   by_cases e1:i=l
   ·rw[if_pos e1]
    by_cases e2:j=l
    ·rw[if_pos e2];exact Int.le_refl _
    ·rw[if_neg e2,if_pos (by omega)]
     exact Int.le_of_lt (h3 (j-1) (by omega) (by omega))
   ·rw[if_neg e1]
    by_cases e3:l<i∧i≤k
    ·rw[if_pos e3,if_neg (by omega),if_pos (by omega)]
     exact up _ _ (by omega) (by omega)
    ·rw[if_neg e3]
     by_cases e2:j=l
     ·rw[if_pos e2];exact h2 i (by omega)
     ·rw[if_neg e2]
      by_cases e4:l<j∧j≤k
      ·rw[if_pos e4];exact up _ _ (by omega) (by omega)
      ·rw[if_neg e4];exact up _ _ a (by omega)
  obtain⟨a1,a2,a3⟩:=lX f (bubble p k (k-l)) (k+1) (by rw[bubble_size];omega) up'
  exact⟨by rw[a1,bubble_size],a2.trans (bubble_perm _ _ _),by rw[show k+(f+1)=k+1+f by omega];exact a3⟩
set_option tactic.hygienic true in
theorem l9 {n:Nat}(hn:1≤n):let o:=run (lt r) (kas_sort n);o.toList.Perm (List.range n)∧Up r o n:=by
 unfold kas_sort
 simp only[uE]
 have hz:(List.toArray (List.range n)).size=n:=by simp
 have g:=aH (r:=r) (p:=List.toArray (List.range n)) (N:=n) (by omega) hn
 generalize run (lt r) (kas_count n (List.toArray (List.range n)))=c at *
 have pm:∀ {o:Array Nat},o.Perm (List.toArray (List.range n))→o.toList.Perm (List.range n):=fun h=>by simpa using Array.perm_iff_toList_perm.mp h
 split
 ·rename_i hlt
  have hm:max c.1 1=c.1:=by have:=g.pos;omega
  rw[hm]
  obtain⟨a1,a2,a3⟩:=lX (n-c.1) c.2 c.1 (by rw[g.size,hz];omega) g.up
  refine⟨pm (a2.trans g.perm),?_⟩
  rw[show c.1+(n-c.1)=n by omega] at a3
  exact a3
 ·rename_i hlt
  have:c.1=n:=by have:=g.le;omega
  refine⟨pm g.perm,?_⟩
  have u:=g.up
  rw[this] at u
  exact u
end
end _S
end
section
namespace _S
open PySem PySem.W PyProof.Rows
def Inn (n:Nat){α : Type}(T:α→Prop):KasT α → Prop
 |.ret a=>T a
 |.ask i j k=>i<n∧j<n∧∀ b,Inn n T (k b)
def PB (n:Nat)(p:Array Nat):Prop:=∀ k,p.getD k 0<n
theorem PB.perm {p q:Array Nat}{n:Nat}(h:PB n p)(e:q.Perm p):PB n q:=fun k=>by
 by_cases hk:k<q.size
 ·have e1:q.getD k 0=q[k]:=by simp[Array.getD,hk]
  rw[e1]
  have:q[k]∈p:=e.mem_iff.mp (Array.getElem_mem hk)
  obtain⟨j,hj,e2⟩:=Array.mem_iff_getElem.mp this
  have:=h j
  rw[show p.getD j 0=p[j] by simp[Array.getD,hj]] at this
  rw[← e2];exact this
 ·have e1:q.getD k 0=0:=by simp[Array.getD,hk]
  rw[e1]
  exact Nat.lt_of_le_of_lt (Nat.zero_le _) (h 0)
theorem Inn.bind {n:Nat}{α β:Type}{T:α→Prop}{U:β→Prop}{g:α→KasT β} : ∀ {t:KasT α},Inn n T t→(∀ a,T a→Inn n U (g a))→Inn n U (t.bind g)
 |.ret a,h,hg=>hg a h
 |.ask i j k,⟨h1,h2,h3⟩,hg=>⟨h1,h2,fun b=>Inn.bind (h3 b) hg⟩
theorem XD {n:Nat}{f:Nat→Nat→Bool}{cmp:Nat→Nat→(Bool→Shared→Prop)→Shared→Prop}{s:Shared}(hc:∀ i j (C:Bool→Shared→Prop),i<n→j<n→C (f i j) s→cmp i j C s){α : Type}{T:α→Prop}{G:α→Shared→Prop}:∀ t:KasT α,Inn n T t→G (run f t) s→t.kasWp cmp G s
 |.ret _,_,h=>h
 |.ask i j k,⟨h1,h2,h3⟩,h=>hc i j _ h1 h2 (XD hc (k (f i j)) (h3 _) h)
theorem wM {n:Nat}{α : Type}{T:α→Prop}{c:Prop}[Decidable c]{a b:KasT α}(h1:Inn n T a)(h2:Inn n T b):Inn n T (if c then a else b):=by
 split
 ·exact h1
 ·exact h2
section
variable {n:Nat}
theorem t0 {p:Array Nat}(h:PB n p):∀ f m,Inn n (fun _=>True) (kas_asc p f m)
 |0,m=>trivial
 |f+1,m=>⟨h _,h _,fun b=>wM trivial (t0 h f (m+1))⟩
theorem kZ:∀ (f:Nat) {p:Array Nat} (m q:Nat),PB n p→Inn n (fun o=>PB n o.1) (kas_desc f p m q)
 |0,p,m,q,h=>h
 |f+1,p,m,q,h=>⟨h _,h _,fun b=>wM (wM (kZ f _ _ (h.perm (wT _ _ _))) (kZ f _ _ h)) ⟨h _,h _,fun d=>wM h (kZ f _ _ h)⟩⟩
theorem nG {p:Array Nat}(h:PB n p)(m N:Nat):Inn n (fun o=>PB n o.2) (kas_tail3 m N p):=Inn.bind (t0 (h.perm (wT _ _ _)) _ _) fun _ _=>h.perm (wT _ _ _)
theorem gY {p:Array Nat}(h:PB n p)(m N:Nat):Inn n (fun o=>PB n o.2) (kas_descPart m N p):=Inn.bind (kZ _ _ _ h) fun o ho=>wM (nG (ho.perm (wT _ _ _)) _ _) (nG ho _ _)
theorem oX {p:Array Nat}(h:PB n p)(N:Nat):Inn n (fun o=>PB n o.2) (kas_count N p):=Inn.bind (t0 h _ _) fun m _=>wM h (wM ⟨h _,h _,fun b=>wM h (gY (h.perm (wT _ _ _)) _ _)⟩ (gY h _ _))
theorem gZ {p:Array Nat}(h:PB n p)(k:Nat):∀ f l r,Inn n (fun _=>True) (kas_place p k f l r)
 |0,l,r=>trivial
 |f+1,l,r=>wM (T:=fun _=>True) trivial ⟨h _,h _,fun b=>wM (gZ h k f _ _) (gZ h k f _ _)⟩
theorem eR:∀ (f:Nat) {p:Array Nat} (k:Nat),PB n p→Inn n (fun _=>True) (kas_bin f p k)
 |0,p,k,h=>trivial
 |f+1,p,k,h=>Inn.bind (gZ h k k 0 k) fun l _=>eR f (k+1) (h.perm (bubble_perm _ _ _))
theorem bM (hn:0<n):Inn n (fun _=>True) (kas_sort n):=by
 have h:PB n (List.toArray (List.range n)):=fun k=>by
  by_cases hk:k<n
  ·simp[Array.getD,hk]
  ·simp[Array.getD,hk,hn]
 exact Inn.bind (oX h n) fun o ho=>wM (eR _ _ ho) (show Inn n (fun _=>True) (.ret o.2) from trivial)
end
structure Cmps (prog:Program)(w:World)(h0:Heap)(vs:List Value)(f:Nat→Nat→Bool):Prop where
 ex:∃ κ,∀ (A:Around),A.units<cLine→∀ (s:Shared),Sup h0 s.heap→(∀ (Q:SortKind→Shared→Prop) (E:Value→Shared→Prop),Q κ s→wpAny (model prog w) A (keyKind' vs.toArray) Q E s)∧∀ i j (C:Bool→Shared→Prop),i<vs.length→j<vs.length→C (f i j) s→kas_ask prog w A κ vs i j C s
def wS (vs:List Value)(f:Nat→Nat→Bool):List Value:=if vs.length<2 then vs else (run f (kas_sort vs.length)).toList.map fun i=>vs.getD i Value.none
section
variable {prog:Program}{w:World}{A:Around}{E:Value→Shared→Prop}{s:Shared}
theorem VE {a:Addr}{vs:List Value}{n:Nat}{h0:Heap}{f:Nat→Nat→Bool}{P:PySem.Fin→Shared→Prop}(ho:s.heap.get? a=some (seqObj "list" vs.toArray n))(hu:A.units<cLine)(h64:vs.length<64)(c:2≤vs.length→Cmps prog w h0 vs f)(hS:Sup h0 s.heap)(ha:h0.get? a=none)
  (hl:(wS vs f).length=vs.length) (h:P (.done (.ret .none)) { s with heap:=sortedHeap s.heap a vs (wS vs f).toArray }) : wpAny (model prog w) A (Builtin.«list.sort» ⟨[.ref a],[]⟩) P E s:=by
 rw[list_sort_plain]
 have hb:a<s.heap.objs.size:=Heap.lt_size ho
 have hsz:vs.toArray.size=vs.length:=by simp
 refine wpAny_bind (listItems_at ho rfl (wpAny_bind (listUpdate_at ho rfl ?_ (by rw[hsz,sizeLine_eq];omega) (Nat.zero_le _))))
 obtain⟨e1,ho1⟩:∃ e1,(s.heap.update a (Obj.mapSeq fun _=>#[])).get? a=some (seqObj "list" #[] e1):=⟨_,get?_update_seq ho (fun _=>#[])⟩
 refine wpAny_bind (seqEpoch_at ho1 rfl (wpAny_bind (wpAny_newTuple (wpAny_bind (wpAny_newList (wpAny_holding ?_) (Nat.zero_le _))) (by show vs.length≤_;rw[sizeLine_eq];omega))))
 have ho6:(((s.heap.update a (Obj.mapSeq fun _=>#[])).push (seqObj "tuple" vs.toArray 0)).push (seqObj "list" #[] 0)).get? a=some (seqObj "list" #[] e1):=
  Heap.get?_push_of_some _ (Heap.get?_push_of_some _ ho1)
 have S6:Sup h0 (((s.heap.update a (Obj.mapSeq fun _=>#[])).push (seqObj "tuple" vs.toArray 0)).push (seqObj "list" #[] 0)):=fun b o e =>
  Heap.get?_push_of_some _ (Heap.get?_push_of_some _ ((Heap.get?_update_other _ _ (fun z:a=b=>by rw[← z,ha] at e;cases e)).trans (hS b o e)))
 show wpAny (model prog w) A _ P E { s with heap:=((s.heap.update a (Obj.mapSeq fun _=>#[])).push (seqObj "tuple" vs.toArray 0)).push (seqObj "list" #[] 0) }
 dsimp only
 have fin:∀ st':SortSt,(arrOf st').map (·.2)=(wS vs f).toArray→failedOf st'=none→wpAny (model prog w) A (do
   let touched:=(← seqEpoch a) != e1
   Builtin.List.listUpdate (.ref a) fun _=>(arrOf st').map (·.2)
   if let some e:=failedOf st' then rule "list.sort.comparison-raised";throw e
   if touched then rule "list.sort.modified";raiseError "ValueError" "list modified during sort"
   ret .none) P E { s with heap:=((s.heap.update a (Obj.mapSeq fun _=>#[])).push (seqObj "tuple" vs.toArray 0)).push (seqObj "list" #[] 0) }:=by
  intro st' h1 h2
  refine wpAny_bind (seqEpoch_at ho6 rfl ?_)
  rw[h1]
  refine wpAny_bind (listUpdate_at ho6 rfl ?_ (Nat.zero_le _) (by show (wS vs f).toArray.size≤_;rw[List.size_toArray,hl,sizeLine_eq];omega))
  rw[h2]
  simp only[bne_self_eq_false,Bool.false_eq_true,if_false]
  exact wpAny_pure h
 by_cases h2:vs.toArray.size<2
 ·rw[if_pos h2,if_pos h2]
  refine wpAny_bind (wpAny_pure ?_)
  rw[StateT.run_pure]
  refine wpAny_bind (wpAny_pure ?_)
  refine fin (SortSt.mk' general' (vs.toArray.zip vs.toArray) #[] 7 none) ?_ rfl
  show (vs.toArray.zip vs.toArray).map (·.2)=_
  unfold wS
  rw[if_pos (by rw[← hsz];exact h2)]
  apply Array.toList_inj.mp
  simp[List.map_snd_zip]
 ·rw[if_neg h2,if_neg h2]
  have h2':2≤vs.length:=by omega
  obtain⟨κ,C⟩:=c h2'
  obtain⟨k1,k2⟩:=C A hu { s with heap:=((s.heap.update a (Obj.mapSeq fun _=>#[])).push (seqObj "tuple" vs.toArray 0)).push (seqObj "list" #[] 0) } S6
  refine wpAny_bind (k1 _ _ ?_)
  refine wpAny_bind (wpAny_mono (kat_run (ks:=vs) (vs:=vs) (Q:=fun st' s'=>(arrOf st').map (·.2)=(wS vs f).toArray∧failedOf st'=none∧s'={ s with heap:=((s.heap.update a (Obj.mapSeq fun _=>#[])).push (seqObj "tuple" vs.toArray 0)).push (seqObj "list" #[] 0) })
   (G:=fun p s'=>p=run f (kas_sort vs.length)∧s'={ s with heap:=((s.heap.update a (Obj.mapSeq fun _=>#[])).push (seqObj "tuple" vs.toArray 0)).push (seqObj "list" #[] 0) }) rfl h2' h64 (fun p st' s' a1 a2 a3 a4=>⟨?_,a3,a4.2⟩) (XD k2 _ (bM (by omega)) ⟨rfl,rfl⟩)) ?_ fun _ _ e=>e)
  ·rw[kat_snds rfl a2,a4.1]
   unfold wS
   rw[if_neg (by omega)]
  ·rintro⟨⟨⟩,st'⟩ s' ⟨q1,q2,rfl⟩
   exact fin st' q1 q2
end
end _S
end
section
namespace _S
open PySem PySem.W PyProof.Rows
structure Ord {K:Type}(lt:K→K→Bool):Prop where
 irr:∀ a,lt a a=false
 tr:∀ {a b c},lt a b=true→lt b c=true→lt a c=true
 tri:∀ {a b},lt a b=false→a=b∨lt b a=true
def ltI (a b:Int):Bool:=decide (a<b)
theorem D9:Ord ltI:=⟨fun a=>by simp[ltI],fun {a b c} h1 h2=>by simp only[ltI,decide_eq_true_eq] at *;omega,fun {a b} h=>by simp only[ltI,decide_eq_true_eq,decide_eq_false_iff_not] at *;omega⟩
theorem eW:∀ a:List Int,_H.lexLt a a=false
 |[]=>rfl
 |x::xs=>by rw[_H.lexLt_cons,if_pos rfl];exact eW xs
theorem Q6:∀ {a b c:List Int},_H.lexLt a b=true→_H.lexLt b c=true→_H.lexLt a c=true
 |_,[],[],_,h=>by cases h
 |_,_::_,[],_,h=>by cases h
 |[],_,_::_,_,_=>rfl
 |_::_,[],_::_,h,_=>by cases h
 |x::xs,y::ys,z::zs,h1,h2=>by
  rw[_H.lexLt_cons] at h1 h2 ⊢
  by_cases e1:x=y
  ·subst e1
   rw[if_pos rfl] at h1
   by_cases e2:x=z
   ·rw[if_pos e2] at h2 ⊢;exact Q6 h1 h2
   ·rw[if_neg e2] at h2 ⊢;exact h2
  ·rw[if_neg e1] at h1
   have h1:=of_decide_eq_true h1
   by_cases e2:y=z
   ·subst e2;rw[if_neg e1];exact decide_eq_true h1
   ·rw[if_neg e2] at h2
    have h2:=of_decide_eq_true h2
    rw[if_neg (by omega)]
    exact decide_eq_true (by omega)
theorem eX:∀ {a b:List Int},_H.lexLt a b=false→a=b∨_H.lexLt b a=true
 |[],[],_=>.inl rfl
 |[],_::_,h=>by cases h
 |_::_,[],_=>.inr rfl
 |x::xs,y::ys,h=>by
  rw[_H.lexLt_cons] at h ⊢
  by_cases e:x=y
  ·subst e
   rw[if_pos rfl] at h ⊢
   rcases eX h with h|h
   ·exact .inl (by rw[h])
   ·exact .inr h
  ·rw[if_neg e] at h
   have h:=of_decide_eq_false h
   rw[if_neg (Ne.symm e)]
   exact .inr (decide_eq_true (by omega))
theorem uD:Ord _H.lexLt:=⟨eW,Q6,eX⟩
theorem n8 {α : Type}{p q:α→Bool}:∀ {l:List α},(∀ x∈l,p x=true→q x=true)→(∃ x∈l,q x=true∧p x=false)→l.countP p<l.countP q
 |[],_,⟨x,h,_⟩=>by simp at h
 |a::l,h,⟨x,hx,h1,h2⟩=>by
  have le:l.countP p≤l.countP q:=List.countP_mono_left fun y hy=>h y (by simp[hy])
  rw[List.countP_cons,List.countP_cons]
  rcases List.mem_cons.mp hx with rfl|hx
  ·rw[if_neg (by rw[h2];decide),if_pos h1];omega
  ·have ih:=n8 (l:=l) (fun y hy=>h y (by simp[hy])) ⟨x,hx,h1,h2⟩
   have:=h a (by simp)
   cases hp:p a with
   |false=>rw[if_neg (by decide)];split <;> omega
   |true=>rw[if_pos rfl,if_pos (this hp)];omega
section
variable {K:Type}{lt':K→K→Bool}
def tK (lt':K→K→Bool)(ks:List K)(d:K)(i:Nat):Int:=(ks.countP (fun k=>lt' k (ks.getD i d)):Nat)
theorem tL (O:Ord lt')(ks:List K)(d:K){i j:Nat}(hi:i<ks.length)(hj:j<ks.length):lt' (ks.getD i d) (ks.getD j d)=lt (tK lt' ks d) i j:=by
 have mi:ks.getD i d∈ks:=by simp[List.getD,hi]
 have mj:ks.getD j d∈ks:=by simp[List.getD,hj]
 unfold lt tK
 cases h:lt' (ks.getD i d) (ks.getD j d) with
 |true =>
  refine(decide_eq_true ?_).symm
  have:=n8 (l:=ks) (p:=fun k=>lt' k (ks.getD i d)) (q:=fun k=>lt' k (ks.getD j d)) (fun x _ hx=>O.tr hx h) ⟨_,mi,h,O.irr _⟩
  omega
 |false =>
  refine(decide_eq_false ?_).symm
  have:ks.countP (fun k=>lt' k (ks.getD j d))≤ks.countP (fun k=>lt' k (ks.getD i d)):=by
   rcases O.tri h with e|h'
   ·rw[e];exact Nat.le_refl _
   ·exact List.countP_mono_left fun x _ hx=>O.tr hx h'
  omega
theorem pH {n:Nat}{f g:Nat→Nat→Bool}(h:∀ i j,i<n→j<n→f i j=g i j){α : Type}{T:α→Prop}:∀ t:KasT α,Inn n T t→run f t=run g t
 |.ret _,_=>rfl
 |.ask i j k,⟨h1,h2,h3⟩=>by
  show run f (k (f i j))=run g (k (g i j))
  rw[h i j h1 h2]
  exact pH h _ (h3 _)
def y9 (lt':K→K→Bool)(ks:List K)(d:K)(i j:Nat):Bool:=lt' (ks.getD i d) (ks.getD j d)
def perm (lt':K→K→Bool)(ks:List K)(d:K):List Nat:=if ks.length<2 then List.range ks.length else (run (y9 lt' ks d) (kas_sort ks.length)).toList
set_option tactic.hygienic true in
theorem jR (O:Ord lt')(ks:List K)(d:K):(perm lt' ks d).Perm (List.range ks.length):=by
 unfold perm
 split
 ·exact List.Perm.refl _
 ·rename_i h
  rw[pH (f:=y9 lt' ks d) (g:=lt (tK lt' ks d)) (fun i j hi hj=>tL O ks d hi hj) (kas_sort ks.length) (bM (by omega))]
  exact(l9 (r:=tK lt' ks d) (n:=ks.length) (by omega)).1
theorem nN {α : Type}(ks:List α)(d:α):(List.range ks.length).map (ks.getD · d)=ks:=by
 apply List.ext_getElem
 ·simp
 ·intro i h1 h2
  simp[h2]
def iB (lt':K→K→Bool)(ks:List K)(d:K):List K:=(perm lt' ks d).map (ks.getD · d)
theorem QX (O:Ord lt')(ks:List K)(d:K):(iB lt' ks d).Perm ks:=by
 have:=(jR O ks d).map (ks.getD · d)
 rwa [nN] at this
theorem KK (O:Ord lt')(ks:List K)(d:K)(nd:ks.Nodup):(iB lt' ks d).Pairwise (fun a b=>lt' a b=true):=by
 have pp:=jR O ks d
 have ndp:(perm lt' ks d).Nodup:=pp.nodup_iff.mpr List.nodup_range
 unfold iB
 rw[List.pairwise_map]
 refine List.pairwise_iff_getElem.mpr fun i j hi hj hij=>?_
 have bd:∀ k (hk:k<(perm lt' ks d).length),(perm lt' ks d)[k]<ks.length:=fun k hk=>List.mem_range.mp (pp.mem_iff.mp (List.getElem_mem hk))
 have len:(perm lt' ks d).length=ks.length:=by rw[pp.length_eq,List.length_range]
 have hne:(perm lt' ks d)[i]≠(perm lt' ks d)[j]:=fun e=>by
  have:=(List.getElem_inj ndp).mp e
  omega
 have hk:ks.getD (perm lt' ks d)[i] d≠ks.getD (perm lt' ks d)[j] d:=fun e=>by
  have b1:=bd i hi
  have b2:=bd j hj
  rw[show ks.getD (perm lt' ks d)[i] d=ks[(perm lt' ks d)[i]] by simp[List.getD,b1],show ks.getD (perm lt' ks d)[j] d=ks[(perm lt' ks d)[j]] by simp[List.getD,b2]] at e
  exact hne ((List.getElem_inj nd).mp e)
 cases h:lt' (ks.getD (perm lt' ks d)[i] d) (ks.getD (perm lt' ks d)[j] d) with
 |true=>rfl
 |false =>
  exfalso
  rcases O.tri h with e|h'
  ·exact hk e
  ·have h2:¬ ks.length<2:=fun h2=>by omega
   have u:=(l9 (r:=tK lt' ks d) (n:=ks.length) (by omega)).2
   rw[← pH (f:=y9 lt' ks d) (g:=lt (tK lt' ks d)) (fun i j hi hj=>tL O ks d hi hj) (kas_sort ks.length) (bM (by omega))] at u
   have hp:perm lt' ks d=(run (y9 lt' ks d) (kas_sort ks.length)).toList:=by unfold perm;rw[if_neg h2]
   have:=u i j (by omega) (by omega)
   rw[tL O ks d (bd j hj) (bd i hi)] at h'
   have h'':=of_decide_eq_true h'
   have gd:∀ k (hk:k<(perm lt' ks d).length),(run (y9 lt' ks d) (kas_sort ks.length)).getD k 0=(perm lt' ks d)[k]:=fun k hk=>by
    have hk':k<(run (y9 lt' ks d) (kas_sort ks.length)).size:=by rw[hp,Array.length_toList] at hk;exact hk
    simp only[hp,Array.getElem_toList]
    simp[Array.getD,hk']
   unfold ky at this
   rw[gd i hi,gd j hj] at this
   omega
def j8 (lt':K→K→Bool)(x:K):List K→List K
 |[]=>[x]
 |y::l=>if lt' x y then x::y::l else if lt' y x then y::j8 lt' x l else y::l
def srt (lt':K→K→Bool):List K→List K
 |[]=>[]
 |x::xs=>j8 lt' x (srt lt' xs)
set_option tactic.hygienic true in
theorem bN (O:Ord lt')(x y:K):∀ l:List K,y∈j8 lt' x l↔y=x∨y∈l
 |[]=>by simp[j8]
 |z::l=>by
  unfold j8
  split
  ·simp
  ·rename_i h1
   split
   ·rw[List.mem_cons,bN O x y l,List.mem_cons]
    exact⟨fun h=>by rcases h with h|h|h <;> simp[h],fun h=>by rcases h with h|h|h <;> simp[h]⟩
   ·rename_i h2
    have:x=z:=(O.tri (by simpa using h1)).elim id fun h=>absurd h h2
    subst this
    simp
set_option tactic.hygienic true in
theorem eS (O:Ord lt')(x:K):∀ l:List K,l.Pairwise (fun a b=>lt' a b=true)→(j8 lt' x l).Pairwise (fun a b=>lt' a b=true)
 |[],_=>by simp[j8]
 |z::l,h=>by
  rw[List.pairwise_cons] at h
  unfold j8
  split
  ·rename_i h1
   refine List.pairwise_cons.mpr ⟨fun y hy=>?_,List.pairwise_cons.mpr h⟩
   rcases List.mem_cons.mp hy with rfl|hy
   ·exact h1
   ·exact O.tr h1 (h.1 y hy)
  ·split
   ·rename_i h2
    refine List.pairwise_cons.mpr ⟨fun y hy=>?_,eS O x l h.2⟩
    rcases (bN O x y l).mp hy with rfl|hy
    ·exact h2
    ·exact h.1 y hy
   ·exact List.pairwise_cons.mpr h
theorem yL (O:Ord lt')(y:K):∀ l:List K,y∈srt lt' l↔y∈l
 |[]=>by simp[srt]
 |x::l=>by rw[srt,bN O,yL O y l,List.mem_cons]
theorem uP (O:Ord lt'):∀ l:List K,(srt lt' l).Pairwise (fun a b=>lt' a b=true)
 |[]=>by simp[srt]
 |x::l=>eS O x _ (uP O l)
theorem kQ (O:Ord lt'):∀ {a b:List K},a.Pairwise (fun a b=>lt' a b=true)→b.Pairwise (fun a b=>lt' a b=true)→(∀ x,x∈a↔x∈b)→a=b
 |[],[],_,_,_=>rfl
 |[],y::b,_,_,h=>by have:=(h y).mpr (by simp);simp at this
 |x::a,[],_,_,h=>by have:=(h x).mp (by simp);simp at this
 |x::a,y::b,ha,hb,h=>by
  rw[List.pairwise_cons] at ha hb
  have asym:∀ {u v},lt' u v=true→lt' v u=true→False:=fun p q=>by have:=O.tr p q;rw[O.irr] at this;cases this
  have e:x=y:=by
   rcases List.mem_cons.mp ((h x).mp (by simp)) with e|e
   ·exact e
   ·rcases List.mem_cons.mp ((h y).mpr (by simp)) with e'|e'
    ·exact e'.symm
    ·exact(asym (hb.1 x e) (ha.1 y e')).elim
  subst e
  have ne:∀ {z:K} {l:List K},(∀ y∈l,lt' x y=true)→z∈l→z≠x:=fun h hz e=>by subst e;have:=h _ hz;rw[O.irr] at this;cases this
  rw[kQ O ha.2 hb.2 fun z=>⟨fun hz=>?_,fun hz=>?_⟩]
  ·exact(List.mem_cons.mp ((h z).mp (by simp[hz]))).elim (fun e=>absurd e (ne ha.1 hz)) id
  ·exact(List.mem_cons.mp ((h z).mpr (by simp[hz]))).elim (fun e=>absurd e (ne hb.1 hz)) id
theorem sL (O:Ord lt')(ks xs:List K)(d:K)(nd:ks.Nodup)(h:∀ x,x∈ks↔x∈xs):iB lt' ks d=srt lt' xs:=
 kQ O (KK O ks d nd) (uP O xs) fun x=>by rw[(QX O ks d).mem_iff,yL O,h]
end
end _S
end
section
namespace _S
open PySem PySem.W PyProof.Rows
theorem K7:typeLookup (.type "set") "__len__" = pure (some (.builtin "set.__len__")):=PySem.F.slot_set_len.lookup
section
variable {prog:Program}{w:World}{A:Around}{E:Value→Shared→Prop}{s:Shared}{S:Addr}{es:Array (Int × Value)}{ep:Nat}{t:SetTable}
theorem WP {r:Addr}(hT:s.TypeIs (.ref r) "set"){Q:Bool→Shared→Prop}(h:Q false s):wpAny (model prog w) A (Builtin.List.listLengthHint (.ref r)) Q E s:=by
 unfold Builtin.List.listLengthHint
 refine wpAny_bind (wpAny_specialOf hT K7 ?_)
 generalize hid:("set.__len__" : String)=id0
 wp_delta
 rw[show splitId id0=some ("set","__len__") from by subst hid;decide +kernel]
 subst hid
 refine wpAny_bind (wpAny_isInstance (T:="set") (b:=true) hT (by rw[isSubtype_type];kernel_rfl) ?_)
 refine wpAny_ite_split (fun hab=>absurd hab (by decide)) (fun _=>?_)
 refine wpAny_ite_split (fun _=>?_) (fun hab=>absurd (by decide +kernel) hab)
 exact wpAny_bind (wpAny_typeOf hT (wpAny_pure h))
theorem rN {Q:List Value→Shared→Prop}(hh:A.handled=none)(Z:Still w S es ep t)(ho:s.heap.get? S=some (setO es ep t))(hn:es.size≤1000)
  (h:∀ h' tk,(∀ b o,s.heap.get? b=some o→h'.get? b=some o)→s.heap.objs.size<h'.objs.size→Q ((qR w S ep es).toList.map (·.2)) { s with heap:=h',toks:=tk }) : wpAny (model prog w) A (collect (.ref S)) Q E s:=by
 have hS:S<s.heap.objs.size:=Heap.lt_size ho
 unfold collect
 refine wpAny_bind (wpAny_runValue (codeAny_builtin PySem.F.entry_proto_collect ?_))
 rw[Around.under_plainId PySem.F.plain_proto_collect _]
 show wpAny _ A.in1 (newList [] >>= fun l=>again (.builtin "list.__iadd__" ⟨[l,.ref S],[]⟩)) _ _ s
 refine wpAny_bind (wpAny_newObj_type (wpAny_pure ⟨plainId_quiet PySem.F.plain_list_iadd _,codeAny_builtin PySem.F.entry_list_iadd ?_⟩))
 rw[Around.under_plainId PySem.F.plain_list_iadd _]
 have hD:(s.heap.push { cls:=.type "list",data:=.seq ([] : List Value).toArray }).get? s.heap.objs.size=some { cls:=.type "list",data:=.seq #[] }:=Heap.get?_push_size _ rfl
 have ho1:(s.heap.push { cls:=.type "list",data:=.seq ([] : List Value).toArray }).get? S=some (setO es ep t):=Heap.get?_push_of_some _ ho
 show wpAny _ A.in1 (Builtin.List.listExtendWith (.ref s.heap.objs.size) (.ref S) (.ref s.heap.objs.size)) _ _ _
 unfold Builtin.List.listExtendWith
 have hT1:Shared.TypeIs { s with heap:=s.heap.push { cls:=.type "list",data:=.seq ([] : List Value).toArray } } (.ref S) "set":=⟨_,ho1,rfl⟩
 refine wpAny_bind (wpAny_typeOf hT1 ?_)
 have h1:Builtin.List.listSameRef (.ref s.heap.objs.size) (.ref S)=false:=by simp[Builtin.List.listSameRef];exact Nat.ne_of_gt hS
 rw[if_neg (by rw[h1];decide)]
 refine wpAny_bind (WS (s:={ s with heap:=s.heap.push { cls:=.type "list",data:=.seq ([] : List Value).toArray } }) Z ho1 ?_)
 have hD2:=Heap.get?_push_of_some (itO 0 0 S es.size ep) hD
 have hT2:Shared.TypeIs { s with heap:=(s.heap.push { cls:=.type "list",data:=.seq ([] : List Value).toArray }).push (itO 0 0 S es.size ep) } (.ref S) "set":=⟨_,Heap.get?_push_of_some _ ho1,rfl⟩
 refine wpAny_bind (wpAny_holding (WP hT2 ?_))
 refine wpAny_ite_split (fun _=>?_) (fun hab=>absurd (by decide) hab)
 refine wpAny_bind (wpAny_rule (wpAny_bind ?_))
 show wpAny _ _ (updateSeq s.heap.objs.size (·.push .none) >>= fun _=>updateSeq s.heap.objs.size (·.pop)) _ _ _
 refine wpAny_bind (wpAny_updateSeq hD2 rfl ?_)
 have hD3:=Heap.get?_update_self (Obj.mapSeq (·.push Value.none)) hD2 rfl
 refine wpAny_updateSeq (hz:=by seq_fits) hD3 rfl ?_
 have hD4:=Heap.get?_update_self (Obj.mapSeq (·.pop)) hD3 rfl
 have sz:(s.heap.push { cls:=.type "list",data:=.seq ([] : List Value).toArray }).objs.size=s.heap.objs.size+1:=Heap.size_push ..
 have oth:∀ {b:Addr} {o:Obj},b≠s.heap.objs.size→((s.heap.push { cls:=.type "list",data:=.seq ([] : List Value).toArray }).push (itO 0 0 S es.size ep)).get? b=some o →
   ((((s.heap.push { cls:=.type "list",data:=.seq ([] : List Value).toArray }).push (itO 0 0 S es.size ep)).update s.heap.objs.size (Obj.mapSeq (·.push Value.none))).update s.heap.objs.size (Obj.mapSeq (·.pop))).get? b=some o:=
  fun hb e=>(Heap.get?_update_other _ _ (Ne.symm hb)).trans ((Heap.get?_update_other _ _ (Ne.symm hb)).trans e)
 have at0:=UH (w:=w) (s:={ s with heap:=s.heap.push { cls:=.type "list",data:=.seq ([] : List Value).toArray } }) Z ho1
 refine wpAny_pure ⟨plainId_quiet PySem.F.plain_extend_loop _,?_⟩
 refine codeAny_extend_loopS ((GL (prog:=prog) (A:=A.in1) (I:=(s.heap.push { cls:=.type "list",data:=.seq ([] : List Value).toArray }).objs.size) hh (by rw[sz];exact Nat.ne_of_lt (Nat.lt_succ_of_lt hS)) Z).toS) (by rw[sizeLine_eq];omega) s.heap.objs.size ?_ _ es.size 0 _ #[] _ rfl (Nat.zero_le _) ?_ hD4 (ItemsOf.nil _) fun s' acc c hm hS' hacc=>?_
 ·rw[sz]
  simp only[List.mem_cons,List.not_mem_nil,or_false,not_or]
  exact⟨Nat.ne_of_lt (Nat.lt_succ_self _),Nat.ne_of_gt hS⟩
 ·obtain⟨slot,a1,a2,a3⟩:=at0
  exact⟨slot,oth (by rw[sz];exact Nat.ne_of_gt (Nat.lt_succ_self _)) a1,oth (Nat.ne_of_lt hS) a2,a3⟩
 ·show wpAny _ A (load s.heap.objs.size >>= _) _ _ s'
  refine wpAny_bind (wpAny_load hS' ?_)
  obtain⟨h',g',d',tk',os'⟩:=s'
  have eg:g'=s.gens:=hm.gens
  have ed:d'=s.drawn:=hm.drawn
  have eo:os'=s.os:=hm.os
  subst eg;subst ed;subst eo
  have e:acc.toList=(qR w S ep es).toList.map (·.2):=by
   refine List.ext_getElem? fun i=>?_
   rw[Array.getElem?_toList,List.getElem?_map,Array.getElem?_toList]
   by_cases hi:i<es.size
   ·have hi':i<acc.size:=by rw[hacc.1];exact hi
    obtain⟨e,he,q⟩:=hacc.2 i acc[i] (Array.getElem?_eq_getElem hi')
    rw[Array.getElem?_eq_getElem hi',he,Option.map_some,q]
   ·rw[Array.getElem?_eq_none (by rw[hacc.1];omega),Array.getElem?_eq_none (by rw[uX];omega)]
    rfl
  refine wpAny_pure ?_
  show Q acc.toList _
  rw[e]
  refine h h' tk' (fun b o q=>?_) (Heap.lt_size hS')
  have hb:b<s.heap.objs.size:=Heap.lt_size q
  refine hm.heap b o (fun hx=>?_) (oth (Nat.ne_of_lt hb) (Heap.get?_push_of_some _ (Heap.get?_push_of_some _ q)))
  simp only[List.mem_cons,List.not_mem_nil,or_false] at hx
  rcases hx with hx|hx
  ·exact absurd hb (by rw[hx];exact Nat.lt_irrefl _)
  ·exact absurd hb (by rw[hx,sz];exact Nat.not_lt.mpr (Nat.le_succ _))
end
end _S
end
section
namespace _S
open PySem PySem.W PyProof.Rows
section
variable {prog:Program}{w:World}{h0:Heap}
theorem K8 {A:Around}{s:Shared}{b:Bool}{Q:Bool→Shared→Prop}:∀ {xs ys:List Int} {us vs:List Value} {i:Nat} {N M:Nat},ItemsAre (intKind prog w) xs us→ItemsAre (intKind prog w) ys vs→N+ys.length=M+xs.length→Q (_H.lexLt xs ys) s→KatLex prog w A b (decide (N<M)) Q (us.zip vs) i s:=by
 intro xs ys us vs i N M hx
 induction hx generalizing ys vs i with
 |nil =>
  intro hy hl h
  cases hy with
  |nil =>
   have:decide (N<M)=false:=decide_eq_false (by simp at hl;omega)
   rw[this];exact h
  |@cons k v ys vs q r =>
   have:decide (N<M)=true:=decide_eq_true (by simp at hl;omega)
   rw[this];exact h
 |@cons x u xs us qx rx ih =>
  intro hy hl h
  cases hy with
  |nil =>
   have:decide (N<M)=false:=decide_eq_false (by simp at hl;omega)
   rw[this];exact h
  |@cons y v ys vs qy ry =>
   obtain⟨t,rfl⟩:=y8 (prog:=prog) (w:=w) qx
   obtain⟨t',rfl⟩:=y8 (prog:=prog) (w:=w) qy
   rw[List.zip_cons_cons]
   refine kat_cons (wpAny_eqBool_int ?_)
   rw[_H.lexLt_cons] at h
   refine kat_go (fun e=>kat_yes ?_) fun e=>kat_no ?_
   ·rw[if_pos (by simpa using e)] at h
    exact ih ry (by simp at hl;omega) h
   ·rw[if_neg (by simpa using e)] at h
    cases b&&i == 0 with
    |true=>exact oneLt_int h
    |false=>exact kat_one _ _ (PyProof.Rows.lt_int h)
theorem cP {h:Heap}:∀ {vs:List Value} {ks:List (List Int)},vs.length=ks.length→(∀ i v,vs[i]? = some v→isT prog w h (ks.getD i []) v)→(∀ k∈ks,k≠[])→∃ fs,KatTups h vs fs∧fs.length=vs.length∧∀ f∈fs,∃ n t,f=Value.int n t
 |[],[],_,_,_=>⟨[],trivial,rfl,fun f hf=>by simp at hf⟩
 |v::vs,k::ks,hl,hv,hne=>by
  obtain⟨fs,a1,a2,a3⟩:=cP (vs:=vs) (ks:=ks) (by simpa using hl) (fun i u hu=>by simpa using hv (i+1) u (by simpa using hu)) fun k hk=>hne k (by simp[hk])
  obtain⟨a,rfl,o,items,n,ho,hc,hd,hi⟩:=hv 0 v rfl
  have hk:k≠[]:=hne k (by simp)
  have hi':ItemsAre (intKind prog w) k items.toList:=hi
  cases hz:items.toList with
  |nil=>rw[hz] at hi';cases hi';exact absurd rfl hk
  |cons f rest =>
   rw[hz] at hi'
   cases hi' with
   |cons q _ =>
    obtain⟨t,rfl⟩:=y8 (prog:=prog) (w:=w) q
    refine⟨_::fs,KatTups.cons ho hc hd (by rw[← Array.getElem?_toList,hz];rfl) a1,by simp[a2],fun f hf=>?_⟩
    rcases List.mem_cons.mp hf with rfl|hf
    ·exact⟨_,_,rfl⟩
    ·exact a3 f hf
theorem PL {vs:List Value}{ks:List (List Int)}(hl:vs.length=ks.length)(hv:∀ i v,vs[i]? = some v→isT prog w h0 (ks.getD i []) v)(hne:∀ k∈ks,k≠[])(h2:2≤vs.length):Cmps prog w h0 vs (y9 _H.lexLt ks []):=by
 refine⟨tuples' (Value.type "int" != Value.type "tuple"),fun A hu s hS=>⟨fun Q E h=>?_,fun i j C hi hj h=>?_⟩⟩
 ·obtain⟨fs,a1,a2,a3⟩:=cP (h:=s.heap) hl (fun i v hv'=>by obtain⟨a,e,q⟩:=hv i v hv';exact⟨a,e,uR hS q⟩) hne
  refine kat_kind a1 (by omega) (fun v hv'=>?_) (by decide) h
  obtain⟨n,t,rfl⟩:=a3 v hv'
  exact Looks.of_pure rfl
 ·have g:∀ k (hk:k<vs.length),∃ a,vs.getD k Value.none=.ref a∧IsTupleKey (intKind prog w) s.heap (ks.getD k []) a:=fun k hk=>by
   obtain⟨a,e,q⟩:=hv k vs[k] (List.getElem?_eq_getElem hk)
   exact⟨a,by rw[← e];simp[List.getD,hk],uR hS q⟩
  obtain⟨a,ea,oa,ia,na,ha,_,da,qa⟩:=g i hi
  obtain⟨b,eb,ob,ib,nb,hb,_,db,qb⟩:=g j hj
  unfold kas_ask
  rw[ea,eb]
  refine kat_lt ha da hb db (K8 qa qb ?_ h)
  have la:=qa.length
  have lb:=qb.length
  simp only[Array.length_toList] at la lb
  omega
theorem PJ {vs:List Value}{ks:List Int}(hl:vs.length=ks.length)(hv:∀ i v,vs[i]? = some v→isI prog w (ks.getD i 0) v)(h2:2≤vs.length):Cmps prog w h0 vs (y9 ltI ks 0):=by
 have hi:∀ v∈vs,∃ n t,v=Value.int n t:=fun v hm=>by
  obtain⟨i,hi,e⟩:=List.mem_iff_getElem.mp hm
  obtain⟨t,q⟩:=y8 (hv i v (by rw[List.getElem?_eq_getElem hi,e]))
  exact⟨_,t,q⟩
 refine⟨oneType',fun A hu s hS=>⟨fun Q E h=>?_,fun i j C hi hj h=>?_⟩⟩
 ·obtain⟨v₁,v₂,rest,rfl⟩:∃ v₁ v₂ rest,vs=v₁::v₂::rest:=by
   match vs,h2 with
   |v₁::v₂::rest,_=>exact⟨v₁,v₂,rest,rfl⟩
  rw[keyKind_ints (intsAre_map _ hi)]
  exact wpAny_pure h
 ·have g:∀ k (hk:k<vs.length),∃ t,vs.getD k Value.none=.int (ks.getD k 0) t:=fun k hk=>by
   obtain⟨t,q⟩:=y8 (hv k vs[k] (List.getElem?_eq_getElem hk))
   exact⟨t,by rw[← q];simp[List.getD,hk]⟩
  obtain⟨t,et⟩:=g i hi
  obtain⟨u,eu⟩:=g j hj
  unfold kas_ask
  rw[et,eu]
  exact kat_lt_int h
end
section
variable {K:Type}{lt':K→K→Bool}
theorem sM (O:Ord lt'){vs:List Value}{ks:List K}{d:K}(hl:vs.length=ks.length):wS vs (y9 lt' ks d)=(perm lt' ks d).map (vs.getD · Value.none):=by
 unfold wS perm
 rw[hl]
 split
 ·rw[← hl,nN]
 ·rfl
end
structure Kind (prog:Program)(w:World){K:Type}(is:K→Value→Prop)(hash:K→Int)(lt':K→K→Bool)(d:K)(Fit:K→Prop)(h0:Heap):Prop where
 ord:Ord lt'
 inj:∀ {k k':K} {v:Value},is k v→is k' v→k=k'
 cmps:∀ {vs:List Value} {ks:List K},vs.length=ks.length→(∀ i v,vs[i]? = some v→is (ks.getD i d) v)→(∀ k∈ks,Fit k)→2≤vs.length→Cmps prog w h0 vs (y9 lt' ks d)
theorem VC (prog:Program)(w:World)(h0:Heap):Kind prog w (isT prog w h0) (tupleKeyHash (intKind prog w)) _H.lexLt [] (·≠[]) h0:=⟨uD,isT.inj,fun h1 h2 h3 h4=>PL h1 h2 h3 h4⟩
theorem VB (prog:Program)(w:World)(h0:Heap):Kind prog w (isI prog w) (intKind prog w).hash ltI 0 (fun _=>True) h0:=⟨D9,fun a b=>(intKind prog w).inj _ _ _ a b,fun h1 h2 _ h4=>PJ h1 h2 h4⟩
section
variable {prog:Program}{w:World}{A:Around}{E:Value→Shared→Prop}{s:Shared}{K:Type}{is:K→Value→Prop}{hash:K→Int}{lt':K→K→Bool}{d:K}{Fit:K→Prop}{h0:Heap}{S:Addr}{V:List Value}{seen:List K}
open Classical in
noncomputable def kOf (is:K→Value→Prop)(d:K)(e:Int × Value):K:=if h:∃ k,is k e.2 then choose h else d
open Classical in
theorem BS {e:Int × Value}(h:∃ k,is k e.2):is (kOf is d e) e.2:=by
 unfold kOf
 rw[dif_pos h]
 exact choose_spec h
theorem iQ {Q:Value→Shared→Prop}(kd:Kind prog w is hash lt' d Fit h0)(hh:A.handled=none)(hu:A.units+8<cLine)(hS:Sup h0 s.heap)(Z:SetK is hash S (wY w) V seen s.heap)(hf:∀ k∈seen,Fit k){U:List K}(hU:U.length≤63)(hU1:∀ k∈seen,k∈U)
  (h:∀ h' tk D c (ps:List (K × Value)),(∀ b o,s.heap.get? b=some o→h'.get? b=some o)→s.heap.objs.size≤D→h'.get? D=some (seqObj "list" (ps.map (·.2)).toArray c)→ps.map (·.1)=srt lt' seen→(∀ p∈ps,is p.1 p.2∧p.2∈V)→ps.length<64→Q (.ref D) { s with heap:=h',toks:=tk }) :
  wpAny (model prog w) A (call (.builtin "sorted") [.ref S]) Q E s:=by
 obtain⟨es,ep,t,ho,Z0,T,hl,hV⟩:=Z
 have st:Still w S es ep t:=⟨T,hl⟩
 have hn:es.size<64:=by
  have:=bS es.toList U Z0.nd fun e he=>by
   obtain⟨k',_,q⟩:=Z0.good e he
   exact⟨k',hU1 k' ((Z0.mem k').mpr ⟨e,he,q⟩),q⟩
  rw[Array.length_toList] at this
  omega
 have op:=m7 w S ep es
 have osz:=uX w S ep es
 have good:∀ e∈(qR w S ep es).toList,is (kOf is d e) e.2∧e.2∈V:=fun e he=>by
  have he':=op.mem_iff.mp he
  obtain⟨k,_,q⟩:=Z0.good e he'
  exact⟨BS ⟨k,q⟩,hV e he'⟩
 have nd0:(qR w S ep es).toList.Pairwise fun a b=>∀ k,is k a.2→¬ is k b.2:=(op.pairwise_iff fun {x y} h k hy hx=>h k hx hy).mpr Z0.nd
 generalize hoe:(qR w S ep es).toList=oe at *
 have hoel:oe.length<64:=by rw[op.length_eq,Array.length_toList];exact hn
 have hks:∀ i v,(oe.map (·.2))[i]? = some v→is ((oe.map (kOf is d)).getD i d) v∧v∈V:=fun i v hv=>by
  rw[List.getElem?_map] at hv
  cases hi:oe[i]? with
  |none=>rw[hi] at hv;cases hv
  |some e =>
   rw[hi] at hv
   cases hv
   have g:=good e (List.mem_of_getElem? hi)
   have:(oe.map (kOf is d)).getD i d=kOf is d e:=by rw[List.getD_eq_getElem?_getD,List.getElem?_map,hi];rfl
   rw[this];exact g
 have nd:(oe.map (kOf is d)).Nodup:=by
  unfold List.Nodup
  rw[List.pairwise_map]
  refine List.Pairwise.imp_of_mem (fun {a b} ha hb h e=>?_) nd0
  exact h _ (good a ha).1 (e▸(good b hb).1)
 have mem:∀ x,x∈oe.map (kOf is d)↔x∈seen:=fun x=>by
  rw[Z0.mem,List.mem_map]
  constructor
  ·rintro⟨e,he,rfl⟩
   exact⟨e,op.mem_iff.mp he,(good e he).1⟩
  ·rintro⟨e,he,q⟩
   exact⟨e,op.mem_iff.mpr he,kd.inj (good e (op.mem_iff.mpr he)).1 q⟩
 have hlen:(oe.map (·.2)).length=(oe.map (kOf is d)).length:=by simp
 have hout:=sM kd.ord (d:=d) hlen
 have pp:=jR kd.ord (oe.map (kOf is d)) d
 refine Calls.call_function_entry kind_sorted plain_sorted entry_sorted (args_sorted1 _) ?_
 unfold Builtin.«sorted»
 refine wpAny_bind (m:=checkCount "sorted" 1 1 _) (wpAny_pure ?_)
 refine wpAny_bind (rN hh st ho (by omega) fun h1 tk1 kp1 hlt=>?_)
 rw[hoe]
 refine wpAny_bind (wpAny_newList ?_ (by rw[sizeLine_eq,List.length_map];omega))
 have hD:(h1.push (seqObj "list" (oe.map (·.2)).toArray 0)).get? h1.objs.size=some (seqObj "list" (oe.map (·.2)).toArray 0):=Heap.get?_push_size _ rfl
 have n0:h0.get? h1.objs.size=none:=by
  cases q:h0.get? h1.objs.size with
  |none=>rfl
  |some o=>exact absurd (Heap.lt_size (hS _ _ q)) (Nat.not_lt.mpr (Nat.le_of_lt hlt))
 have hps:((perm lt' (oe.map (kOf is d)) d).map fun i=>((oe.map (kOf is d)).getD i d,(oe.map (·.2)).getD i Value.none)).map (·.2)=wS (oe.map (·.2)) (y9 lt' (oe.map (kOf is d)) d):=by
  rw[hout,List.map_map];rfl
 have hpl:(wS (oe.map (·.2)) (y9 lt' (oe.map (kOf is d)) d)).length=(oe.map (·.2)).length:=by rw[hout,List.length_map,pp.length_eq,List.length_range,hlen]
 show wpAny _ _ _ _ _ { s with heap:=h1.push (seqObj "list" (oe.map (·.2)).toArray 0),toks:=tk1 }
 refine wpAny_bind (wpAny_holding (wpAny_call_entry slot_list_sort ⟨_,hD,rfl⟩ entry_list_sort (VE (h0:=h0) (f:=y9 lt' (oe.map (kOf is d)) d) hD (by show A.units+2<cLine;omega) (by rw[List.length_map];exact hoel) (fun h2=>kd.cmps hlen (fun i v hv=>(hks i v hv).1) (fun k hk=>hf k ((mem k).mp hk)) h2) (fun b o e=>Heap.get?_push_of_some _ (kp1 b o (hS b o e))) n0 hpl ⟨_,rfl,?_⟩) (args_list_sort _)))
 refine wpAny_pure ⟨_,rfl,?_⟩
 have hz:(h1.push (seqObj "list" (oe.map (·.2)).toArray 0)).objs.size=h1.objs.size+1:=size_push' ..
 have old:∀ b o,b≠h1.objs.size→(h1.push (seqObj "list" (oe.map (·.2)).toArray 0)).get? b=some o→((((h1.push (seqObj "list" (oe.map (·.2)).toArray 0)).update h1.objs.size (Obj.mapSeq fun _=>#[])).push (seqObj "tuple" (oe.map (·.2)).toArray 0)).push (seqObj "list" #[] 0)).get? b=some o:=fun b o hb e =>
  Heap.get?_push_of_some _ (Heap.get?_push_of_some _ ((Heap.get?_update_other _ _ (Ne.symm hb)).trans e))
 obtain⟨e1,he1⟩:∃ e1,((h1.push (seqObj "list" (oe.map (·.2)).toArray 0)).update h1.objs.size (Obj.mapSeq fun _=>#[])).get? h1.objs.size=some (seqObj "list" #[] e1):=⟨_,get?_update_seq hD (fun _=>#[])⟩
 have he6:=get?_update_seq (Heap.get?_push_of_some (seqObj "list" #[] 0) (Heap.get?_push_of_some (seqObj "tuple" (oe.map (·.2)).toArray 0) he1)) (fun _=>(wS (oe.map (·.2)) (y9 lt' (oe.map (kOf is d)) d)).toArray)
 refine h _ tk1 h1.objs.size _ ((perm lt' (oe.map (kOf is d)) d).map fun i=>((oe.map (kOf is d)).getD i d,(oe.map (·.2)).getD i Value.none)) (fun b o e=>?_) (Nat.le_of_lt hlt) (by rw[hps];exact he6) ?_ (fun p hp=>?_) (by rw[List.length_map,pp.length_eq,List.length_range,List.length_map];exact hoel)
 ·have hb:b≠h1.objs.size:=fun z=>by
   subst z
   exact absurd (Heap.lt_size e) (Nat.not_lt.mpr (Nat.le_of_lt hlt))
  exact(Heap.get?_update_other _ _ (Ne.symm hb)).trans (old b o hb (Heap.get?_push_of_some _ (kp1 b o e)))
 ·rw[List.map_map,← sL kd.ord (oe.map (kOf is d)) seen d nd mem]
  rfl
 ·obtain⟨i,hi,rfl⟩:=List.mem_map.mp hp
  have hi':i<oe.length:=by
   have:=List.mem_range.mp (pp.mem_iff.mp hi)
   rwa [List.length_map] at this
  have hv:(oe.map (·.2))[i]? = some ((oe.map (·.2)).getD i Value.none):=by
   rw[List.getD_eq_getElem?_getD,List.getElem?_eq_getElem (by rw[List.length_map];exact hi')]
   rfl
  exact hks i _ hv
end
end _S
end
section
namespace _S
open PySem PySem.W PyProof.Rows
section
variable {prog:Program}{w:World}{A:Around}{E:Value→Shared→Prop}{s:Shared}{K:Type}{is:K→Value→Prop}{hash:K→Int}{lt':K→K→Bool}{d:K}{Fit:K→Prop}{h0:Heap}
theorem iP {Q:Value→Shared→Prop}(kd:Kind prog w is hash lt' d Fit h0)(hu:A.units+8<cLine)(hS:Sup h0 s.heap){l:Addr}{vs:List Value}(hl:s.heap.IsList l vs.toArray∨s.heap.IsTuple l vs.toArray)(ks:List K)(hlen:vs.length=ks.length)(hks:∀ i v,vs[i]? = some v→is (ks.getD i d) v)(nd:ks.Nodup)(hf:∀ k∈ks,Fit k)(hoel:vs.length<64)
  (h:∀ (h1 h':Heap) (tk:Nat) (D:Addr) (c:Nat) (ps:List (K × Value)),(∀ b o,s.heap.get? b=some o→h1.get? b=some o)→(∀ b o,h1.get? b=some o→h'.get? b=some o)→h1.objs.size≤D→h'.get? D=some (seqObj "list" (ps.map (·.2)).toArray c)→ps.map (·.1)=srt lt' ks→(∀ p∈ps,is p.1 p.2∧p.2∈vs)→ps.length<64→Q (.ref D) { s with heap:=h',toks:=tk }) :
  wpAny (model prog w) A (call (.builtin "sorted") [.ref l]) Q E s:=by
 have hout:=sM kd.ord (d:=d) hlen
 have pp:=jR kd.ord ks d
 refine Calls.call_function_entry kind_sorted plain_sorted entry_sorted (args_sorted1 _) ?_
 unfold Builtin.«sorted»
 refine wpAny_bind (m:=checkCount "sorted" 1 1 _) (wpAny_pure ?_)
 have hcol:∀ {R:List Value→Shared→Prop},(∀ h1:Heap,(∀ b o,s.heap.get? b=some o→h1.get? b=some o)→R vs { s with heap:=h1 }) → wpAny (model prog w) A.in1 (collect (.ref l)) R E s:=fun {R} hR=>by
  have e:vs.toArray.toList=vs:=by simp
  rcases hl with⟨o,ho,hc,n,hd⟩|⟨o,ho,hc,n,hd⟩
  ·exact wpAny_collect_seq l (.inl rfl) ho hc hd (fun h' hk=>by rw[e];exact hR h' hk) (by rw[List.size_toArray,sizeLine_eq];omega)
  ·exact wpAny_collect_seq l (.inr rfl) ho hc hd (fun h' hk=>by rw[e];exact hR h' hk) (by rw[List.size_toArray,sizeLine_eq];omega)
 refine wpAny_bind (hcol fun h1 kp1=>?_)
 refine wpAny_bind (wpAny_newList ?_ (by rw[sizeLine_eq];omega))
 have hD:(h1.push (seqObj "list" vs.toArray 0)).get? h1.objs.size=some (seqObj "list" vs.toArray 0):=Heap.get?_push_size _ rfl
 have n0:h0.get? h1.objs.size=none:=by
  cases q:h0.get? h1.objs.size with
  |none=>rfl
  |some o=>exact absurd (Heap.lt_size (kp1 _ _ (hS _ _ q))) (Nat.lt_irrefl _)
 have hps:((perm lt' ks d).map fun i=>(ks.getD i d,vs.getD i Value.none)).map (·.2)=wS vs (y9 lt' ks d):=by
  rw[hout,List.map_map];rfl
 have hpl:(wS vs (y9 lt' ks d)).length=vs.length:=by rw[hout,List.length_map,pp.length_eq,List.length_range,hlen]
 show wpAny _ _ _ _ _ { s with heap:=h1.push (seqObj "list" vs.toArray 0),toks:=s.toks }
 refine wpAny_bind (wpAny_holding (wpAny_call_entry slot_list_sort ⟨_,hD,rfl⟩ entry_list_sort (VE (h0:=h0) (f:=y9 lt' ks d) hD (by show A.units+2<cLine;omega) hoel (fun h2=>kd.cmps hlen hks hf h2) (fun b o e=>Heap.get?_push_of_some _ (kp1 b o (hS b o e))) n0 hpl ⟨_,rfl,?_⟩) (args_list_sort _)))
 refine wpAny_pure ⟨_,rfl,?_⟩
 have hz:(h1.push (seqObj "list" vs.toArray 0)).objs.size=h1.objs.size+1:=size_push' ..
 have old:∀ b o,b≠h1.objs.size→(h1.push (seqObj "list" vs.toArray 0)).get? b=some o→((((h1.push (seqObj "list" vs.toArray 0)).update h1.objs.size (Obj.mapSeq fun _=>#[])).push (seqObj "tuple" vs.toArray 0)).push (seqObj "list" #[] 0)).get? b=some o:=fun b o hb e =>
  Heap.get?_push_of_some _ (Heap.get?_push_of_some _ ((Heap.get?_update_other _ _ (Ne.symm hb)).trans e))
 obtain⟨e1,he1⟩:∃ e1,((h1.push (seqObj "list" vs.toArray 0)).update h1.objs.size (Obj.mapSeq fun _=>#[])).get? h1.objs.size=some (seqObj "list" #[] e1):=⟨_,get?_update_seq hD (fun _=>#[])⟩
 have he6:=get?_update_seq (Heap.get?_push_of_some (seqObj "list" #[] 0) (Heap.get?_push_of_some (seqObj "tuple" vs.toArray 0) he1)) (fun _=>(wS vs (y9 lt' ks d)).toArray)
 refine h h1 _ s.toks h1.objs.size _ ((perm lt' ks d).map fun i=>(ks.getD i d,vs.getD i Value.none)) kp1 (fun b o e=>?_) (Nat.le_refl _) (by rw[hps];exact he6) ?_ (fun p hp=>?_) (by rw[List.length_map,pp.length_eq,List.length_range,← hlen];exact hoel)
 ·have hb:b≠h1.objs.size:=fun z=>by
   subst z
   exact absurd (Heap.lt_size e) (Nat.lt_irrefl _)
  exact(Heap.get?_update_other _ _ (Ne.symm hb)).trans (old b o hb (Heap.get?_push_of_some _ e))
 ·rw[List.map_map,← sL kd.ord ks ks d nd fun x=>Iff.rfl]
  rfl
 ·obtain⟨i,hi,rfl⟩:=List.mem_map.mp hp
  have hi':i<vs.length:=by
   have:=List.mem_range.mp (pp.mem_iff.mp hi)
   rwa [← hlen] at this
  have hv:vs[i]? = some (vs.getD i Value.none):=by
   rw[List.getD_eq_getElem?_getD,List.getElem?_eq_getElem hi']
   rfl
  exact⟨hks i _ hv,List.mem_of_getElem? hv⟩
end
end _S
end
section
namespace _D
open PySem PySem.Spec PyProof.Rows _L
inductive D where
 |non|bl (b:Bool)|int (i:Int)|str (x:Str)|ty (n:String)|obj (a:Addr)|tup (xs:List D)|lst (xs:List D)|dct0|loc (i:Nat)|exn (c:Value)|fd (ks:List Key) (ds:List D)
def dH (a:Addr)(c:Value):HO:=.ext fun h=>∃ ob,h.get? a=some ob∧ob.cls=c
inductive MO where
 |dead|lst (xs:List D)|dct (kvs:List (Key × D))|ins (C:Addr) (fs:List (Str × D))
abbrev Sto:=List MO
inductive Res (β : Type) where
 |ok (d:β) (S:Sto)|ex (c:Value) (x:D) (S:Sto)|bad
@[inline] def Res.bind {β γ:Type}(r:Res β)(f:β→Sto→Res γ) : Res γ:=
 match r with
 |.ok d S=>f d S
 |.ex c x S=>.ex c x S
 |.bad=>.bad
theorem Res.bind_ok {β γ:Type}(d:β)(S:Sto)(f:β→Sto→Res γ) : (Res.ok d S).bind f=f d S:=rfl
section
variable (K:PySem.W.Frag)(P:Hp)(α : List Addr)
mutual
def Rep:D→V→Prop
 |.non,v=>v=.non
 |.bl b,v=>v=.bl b
 |.int i,v=>v=.int i
 |.str x,v=>v=.str x
 |.ty n,v=>v=.ty n
 |.obj a,v=>v=.ref a∧PySem.W.keepIn K (.ref a)=true
 |.tup ds,v=>∃ a vs,v=.ref a∧SqT K P a vs∧qF ds vs
 |.lst ds,v=>∃ a vs,v=.ref a∧SqX K P a vs∧qF ds vs
 |.dct0,v=>∃ a,v=.ref a∧P a=some (.dK [])
 |.loc i,v=>∃ a,v=.ref a∧α[i]? = some a
 |.exn c,v=>∃ a,v=.ref a∧P a=some (dH a c)
 |.fd ks ds,v=>∃ a o vs,v=.ref a∧P a=some (.frz o (.dK (ks.zip vs)))∧ks.length=vs.length∧qF ds vs
def qF:List D→List V→Prop
 |[],vs=>vs=[]
 |d::ds,vs=>∃ w ws,vs=w::ws∧Rep d w∧qF ds ws
end
end
section
variable {K:PySem.W.Frag}{P P':Hp}{α α':List Addr}
theorem uG (e:qH P P'){a:Addr}{xs:List V}(h:SqT K P a xs):SqT K P' a xs:=by
 rcases h with (h|⟨o,h⟩)|h
 ·exact .inl (.inl (e _ _ h))
 ·exact .inl (.inr ⟨o,e _ _ h⟩)
 ·exact .inr h
theorem cG (e:qH P P'){a:Addr}{u:HO}(h:Rd P a u):Rd P' a u:=by
 rcases h with h|⟨o,h⟩
 ·exact .inl (e _ _ h)
 ·exact .inr ⟨o,e _ _ h⟩
theorem w4 (e:qH P P'){a:Addr}{xs:List V}(h:SqX K P a xs):SqX K P' a xs:=by
 rcases h with h|h
 ·exact .inl (cG e h)
 ·exact .inr h
theorem pY {i:Nat}{a:Addr}(h:α<+:α')(e:α[i]? = some a):α'[i]? = some a:=by
 obtain⟨r,rfl⟩:=h
 rw[List.getElem?_append_left (List.getElem?_eq_some_iff.mp e).1]
 exact e
mutual
theorem Rep.mono (e:qH P P')(h:α<+:α'):∀ (d:D) (v:V),Rep K P α d v→Rep K P' α' d v
 |.non,_,r=>by simpa only [Rep] using r
 |.bl _,_,r=>by simpa only [Rep] using r
 |.int _,_,r=>by simpa only [Rep] using r
 |.str _,_,r=>by simpa only [Rep] using r
 |.ty _,_,r=>by simpa only [Rep] using r
 |.obj _,_,r=>by simpa only [Rep] using r
 |.tup ds,v,r=>by
  simp only[Rep] at r ⊢
  obtain⟨a,vs,rfl,q,t⟩:=r
  exact⟨a,vs,rfl,uG e q,qF.mono e h ds vs t⟩
 |.lst ds,v,r=>by
  simp only[Rep] at r ⊢
  obtain⟨a,vs,rfl,q,t⟩:=r
  exact⟨a,vs,rfl,w4 e q,qF.mono e h ds vs t⟩
 |.dct0,v,r=>by
  simp only[Rep] at r ⊢
  obtain⟨a,rfl,q⟩:=r
  exact⟨a,rfl,e _ _ q⟩
 |.loc i,v,r=>by
  simp only[Rep] at r ⊢
  obtain⟨a,rfl,q⟩:=r
  exact⟨a,rfl,pY h q⟩
 |.exn c,v,r=>by
  simp only[Rep] at r ⊢
  obtain⟨a,rfl,q⟩:=r
  exact⟨a,rfl,e _ _ q⟩
 |.fd ks ds,v,r=>by
  simp only[Rep] at r ⊢
  obtain⟨a,o,vs,rfl,q,hl,t⟩:=r
  exact⟨a,o,vs,rfl,e _ _ q,hl,qF.mono e h ds vs t⟩
theorem qF.mono (e:qH P P')(h:α<+:α'):∀ (ds:List D) (vs:List V),qF K P α ds vs→qF K P' α' ds vs
 |[],vs,r=>by simpa only [qF] using r
 |d::ds,vs,r=>by
  simp only[qF] at r ⊢
  obtain⟨w,ws,rfl,r1,r2⟩:=r
  exact⟨w,ws,rfl,Rep.mono e h d w r1,qF.mono e h ds ws r2⟩
end
theorem qF.nil:qF K P α [] []:=by simp only[qF]
theorem qF.cons {d:D}{v:V}{ds:List D}{vs:List V}(r:Rep K P α d v)(t:qF K P α ds vs):qF K P α (d::ds) (v::vs):=by
 simp only[qF];exact⟨v,vs,rfl,r,t⟩
theorem qF.nil_inv {vs:List V}(r:qF K P α [] vs):vs=[]:=by simpa only [qF] using r
theorem qF.cons_inv {d:D}{ds:List D}{vs:List V}(r:qF K P α (d::ds) vs):∃ w ws,vs=w::ws∧Rep K P α d w∧qF K P α ds ws:=by simpa only [qF] using r
theorem qF.length:∀ {ds:List D} {vs:List V},qF K P α ds vs→ds.length=vs.length
 |[],vs,r=>by rw[r.nil_inv];rfl
 |d::ds,vs,r=>by
  obtain⟨w,ws,rfl,_,t⟩:=r.cons_inv
  rw[List.length_cons,List.length_cons,t.length]
theorem qF.append:∀ {ds es:List D} {vs ws:List V},qF K P α ds vs→qF K P α es ws→qF K P α (ds++es) (vs++ws)
 |[],es,vs,ws,r,t=>by rw[r.nil_inv];exact t
 |d::ds,es,vs,ws,r,t=>by
  obtain⟨w,us,rfl,r1,r2⟩:=r.cons_inv
  exact .cons r1 (r2.append t)
theorem qF.get:∀ {ds:List D} {vs:List V} {i:Nat} {d:D},qF K P α ds vs→ds[i]? = some d→∃ v,vs[i]? = some v∧Rep K P α d v
 |[],_,_,_,_,e=>by simp at e
 |d::ds,vs,i,d',r,e=>by
  obtain⟨w,ws,rfl,r1,r2⟩:=r.cons_inv
  cases i with
  |zero=>simp at e;subst e;exact⟨w,rfl,r1⟩
  |succ i =>
   obtain⟨v,h1,h2⟩:=r2.get (i:=i) (d:=d') (by simpa using e)
   exact⟨v,by simpa using h1,h2⟩
theorem qF.drop:∀ {ds:List D} {vs:List V} (n:Nat),qF K P α ds vs→qF K P α (ds.drop n) (vs.drop n)
 |ds,vs,0,r=>by simpa using r
 |[],vs,n+1,r=>by rw[r.nil_inv];exact .nil
 |d::ds,vs,n+1,r=>by
  obtain⟨w,ws,rfl,_,r2⟩:=r.cons_inv
  simpa using r2.drop n
theorem qF.take:∀ {ds:List D} {vs:List V} (n:Nat),qF K P α ds vs→qF K P α (ds.take n) (vs.take n)
 |ds,vs,0,r=>by simpa using qF.nil
 |[],vs,n+1,r=>by rw[r.nil_inv];exact .nil
 |d::ds,vs,n+1,r=>by
  obtain⟨w,ws,rfl,r1,r2⟩:=r.cons_inv
  simpa using qF.cons r1 (r2.take n)
theorem qF.set {d:D}{v:V}(q:Rep K P α d v):∀ {ds:List D} {vs:List V} (n:Nat),qF K P α ds vs→qF K P α (ds.set n d) (vs.set n v)
 |[],vs,n,r=>by rw[r.nil_inv];exact .nil
 |e::ds,vs,0,r=>by
  obtain⟨w,ws,rfl,r1,r2⟩:=r.cons_inv
  exact .cons q r2
 |e::ds,vs,n+1,r=>by
  obtain⟨w,ws,rfl,r1,r2⟩:=r.cons_inv
  exact .cons r1 (r2.set q n)
end
abbrev qE:=List (Option D)
def zC (K:PySem.W.Frag)(P:Hp)(α : List Addr)(σ : _L.St)(env:qE):Prop:=env.length=σ.length∧∀ (i:Nat) (d:D),env[i]? = some (some d)→∃ v,σ[i]? = some (some v)∧Rep K P α d v
def KVs (K:PySem.W.Frag)(P:Hp)(α : List Addr){κ : Type}:List (κ × D)→List (κ × V)→Prop:=Paired fun (p:κ × D) (q:κ × V)=>p.1=q.1∧Rep K P α p.2 q.2
def MOk (K:PySem.W.Frag)(H P:Hp)(α : List Addr)(a:Addr):MO→Prop
 |.dead=>True
 |.lst ds=>∃ vs,H a=some (.lst vs)∧qF K P α ds vs
 |.dct kvs=>∃ vs,H a=some (.dK vs)∧KVs K P α kvs vs
 |.ins C fs=>∃ dx vs,H a=some (.ins C dx vs)∧KVs K P α fs vs
structure Rel (K:PySem.W.Frag)(H P:Hp)(α : List Addr)(S:Sto):Prop where
 sub:qH P H
 len:α.length=S.length
 nd:α.Nodup
 sep:∀ (i:Nat) (a:Addr) (o:MO),α[i]? = some a→S[i]? = some o→o≠.dead→P a=none
 at':∀ (i:Nat) (a:Addr) (o:MO),α[i]? = some a→S[i]? = some o→MOk K H P α a o
 own:∀ (i:Nat) (a:Addr),α[i]? = some a→H a≠none
section
variable {K:PySem.W.Frag}{H P P':Hp}{α α':List Addr}{S:Sto}
theorem zC.mono {σ : _L.St}{env:qE}(e:qH P P')(h:α<+:α')(r:zC K P α σ env):zC K P' α' σ env:=
 ⟨r.1,fun i d q=>let ⟨v,h1,h2⟩:=r.2 i d q;⟨v,h1,Rep.mono e h d v h2⟩⟩
theorem KVs.mono {κ : Type}(e:qH P P')(h:α<+:α'){kvs:List (κ × D)}{vs:List (κ × V)}(r:KVs K P α kvs vs):KVs K P' α' kvs vs:=by
 refine Paired.mapP r fun p q z=>⟨z.1,Rep.mono e h _ _ z.2⟩
theorem MOk.mono {a:Addr}(e:qH P P')(h:α<+:α'):∀ {o:MO},MOk K H P α a o→MOk K H P' α' a o
 |.dead,_=>trivial
 |.lst _,⟨vs,q,r⟩=>⟨vs,q,qF.mono e h _ _ r⟩
 |.dct _,⟨vs,q,r⟩=>⟨vs,q,r.mono e h⟩
 |.ins _ _,⟨dx,vs,q,r⟩=>⟨dx,vs,q,r.mono e h⟩
theorem Rel.grow {H':Hp}(r:Rel K H P α S)(e:qH H H'):Rel K H' P α S where
 sub:=r.sub.trans e
 len:=r.len
 nd:=r.nd
 sep:=r.sep
 at':=fun i a o q1 q2=>by
  have m:=r.at' i a o q1 q2
  cases o with
  |dead=>trivial
  |lst ds=>obtain⟨vs,q,t⟩:=m;exact⟨vs,e _ _ q,t⟩
  |dct kvs=>obtain⟨vs,q,t⟩:=m;exact⟨vs,e _ _ q,t⟩
  |ins C fs=>obtain⟨dx,vs,q,t⟩:=m;exact⟨dx,vs,e _ _ q,t⟩
 own:=fun i a q=>by
  have m:=r.own i a q
  cases z:H a with
  |none=>exact absurd z m
  |some o=>rw[e _ _ z];intro w;cases w
theorem bX {H:Hp}{a:Addr}{o:HO}(h:H a=none):qH H (upd H a o):=fun b u e=>by rw[qP (zF e h)];exact e
theorem Rel.pure {a:Addr}{o:HO}(r:Rel K H P α S)(h:H a=none):Rel K (upd H a o) (upd P a o) α S∧qH P (upd P a o):=by
 have hP:P a=none:=by
  cases z:P a with
  |none=>rfl
  |some u=>rw[r.sub _ _ z] at h;cases h
 have sP:qH P (upd P a o):=bX hP
 have r1:=r.grow (bX (o:=o) h)
 refine⟨⟨fun b u e=>?_,r.len,r.nd,fun i b u q1 q2 q3=>?_,fun i b u q1 q2=>(r1.at' i b u q1 q2).mono sP (List.prefix_refl _),r1.own⟩,sP⟩
 ·by_cases hb:b=a
  ·subst hb;rw[zN] at e ⊢;exact e
  ·rw[qP hb] at e ⊢;exact r.sub _ _ e
 ·have hb:b≠a:=by rintro rfl;exact r.own i b q1 h
  rw[qP hb]
  exact r.sep i b u q1 q2 q3
theorem Rel.new {a:Addr}{o:HO}{m:MO}(r:Rel K H P α S)(h:H a=none)(hm:MOk K (upd H a o) P (α ++ [a]) a m):Rel K (upd H a o) P (α ++ [a]) (S++[m]):=by
 have hP:P a=none:=by
  cases z:P a with
  |none=>rfl
  |some u=>rw[r.sub _ _ z] at h;cases h
 have r1:=r.grow (bX (o:=o) h)
 have hp:α<+:α++[a]:=List.prefix_append _ _
 have split:∀ (i:Nat) (b:Addr),(α++[a])[i]? = some b→(i<α.length∧α[i]? = some b)∨(i=α.length∧b=a):=fun i b q=>by
  by_cases hi:i<α.length
  ·rw[List.getElem?_append_left hi] at q;exact .inl ⟨hi,q⟩
  ·rw[List.getElem?_append_right (by omega)] at q
   cases hk:i-α.length with
   |zero=>rw[hk] at q;simp at q;exact .inr ⟨by omega,q.symm⟩
   |succ k=>rw[hk] at q;simp at q
 refine⟨r1.sub,by simp[r.len],?_,fun i b u q1 q2 q3=>?_,fun i b u q1 q2=>?_,fun i b q=>?_⟩
 ·rw[List.nodup_append]
  refine⟨r.nd,by simp,fun b hb c hc e=>?_⟩
  simp at hc;subst hc;subst e
  obtain⟨i,hi,e⟩:=List.mem_iff_getElem.mp hb
  exact r.own i b (by rw[List.getElem?_eq_getElem hi,e]) h
 ·rcases split i b q1 with⟨hi,z⟩|⟨hi,rfl⟩
  ·rw[List.getElem?_append_left (by rw[← r.len];exact hi)] at q2
   exact r.sep i b u z q2 q3
  ·exact hP
 ·rcases split i b q1 with⟨hi,z⟩|⟨hi,rfl⟩
  ·rw[List.getElem?_append_left (by rw[← r.len];exact hi)] at q2
   exact(r1.at' i b u z q2).mono (qH.refl _) hp
  ·rw[hi,r.len,List.getElem?_append_right (Nat.le_refl _)] at q2
   simp at q2;subst q2
   exact hm
 ·rcases split i b q with⟨_,z⟩|⟨_,rfl⟩
  ·exact r1.own i b z
  ·rw[zN];intro z;cases z
theorem QV {N:List Addr}(hN:N.Nodup){i j:Nat}{x:Addr}(a:N[i]? = some x)(b:N[j]? = some x):i=j:=by
 obtain⟨h1,e1⟩:=List.getElem?_eq_some_iff.mp a
 obtain⟨h2,e2⟩:=List.getElem?_eq_some_iff.mp b
 exact(List.getElem_inj hN).mp (e1.trans e2.symm)
theorem Rel.put {a:Addr}{i:Nat}{o:HO}{m m':MO}(r:Rel K H P α S)(ha:α[i]? = some a)(hs:S[i]? = some m)(hd:m≠.dead)(hm:MOk K (upd H a o) P α a m'):Rel K (upd H a o) P α (S.set i m'):=by
 have hP:=r.sep i a m ha hs hd
 have hi:i<S.length:=(List.getElem?_eq_some_iff.mp hs).1
 refine⟨fun b u e=>?_,by simp[r.len],r.nd,fun j b u q1 q2 q3=>?_,fun j b u q1 q2=>?_,fun j b q=>?_⟩
 ·have hb:b≠a:=by rintro rfl;rw[hP] at e;cases e
  rw[qP hb];exact r.sub _ _ e
 ·by_cases hj:j=i
  ·subst hj;rw[ha] at q1;cases q1;exact hP
  ·rw[List.getElem?_set_ne (Ne.symm hj)] at q2;exact r.sep j b u q1 q2 q3
 ·by_cases hj:j=i
  ·subst hj;rw[ha] at q1;cases q1
   rw[List.getElem?_set_self hi] at q2;cases q2
   exact hm
  ·rw[List.getElem?_set_ne (Ne.symm hj)] at q2
   have hb:b≠a:=by rintro rfl;exact hj (QV r.nd q1 ha)
   have z:=r.at' j b u q1 q2
   cases u with
   |dead=>trivial
   |lst ds=>obtain⟨vs,q,t⟩:=z;exact⟨vs,by rw[qP hb];exact q,t⟩
   |dct kvs=>obtain⟨vs,q,t⟩:=z;exact⟨vs,by rw[qP hb];exact q,t⟩
   |ins C fs=>obtain⟨dx,vs,q,t⟩:=z;exact⟨dx,vs,by rw[qP hb];exact q,t⟩
 ·by_cases hb:b=a
  ·subst hb;rw[zN];intro z;cases z
  ·rw[qP hb];exact r.own j b q
end
theorem nn {β : Type}{a:β}{p:Prop}(h:(none:Option β) = some a):p:=by cases h
theorem g6 {β : Type}{c:Prop}[Decidable c]{a b:β}(h:(if c then some a else none)=some b):c∧a=b:=by
 by_cases z:c
 ·rw[if_pos z] at h;exact⟨z,Option.some.inj h⟩
 ·rw[if_neg z] at h;exact nn h
end _D
end
section
namespace _D
open PySem PySem.Spec PyProof.Rows _L
abbrev DE:=qE→Sto→Res D
abbrev DT:=qE→Sto→Res Bool
abbrev DA:=qE→Sto→Res (List D)
inductive Out where
 |nx (env:qE) (S:Sto)|rt (d:D) (S:Sto)|bk (env:qE) (S:Sto)|ct (env:qE) (S:Sto)|ex (c:Value) (x:D) (env:qE) (S:Sto)|bad
abbrev DS:=qE→Sto→Out
def Old (X:Cx)(pins:List (Addr × Obj))(H:Hp)(b:Addr):Prop:=
 (∃ o,X.s₀.heap.get? b=some o)∨H b≠none∨(∃ p∈X.pn++pins,p.1=b)∨∃ x,X.env.cells.lookup x=some b
def Cv (X:Cx)(pins:List (Addr × Obj))(H:Hp)(B h:Heap):Prop:=∀ b o,h.get? b=some o→Old X pins H b→b ∉ frs X.stack→B.get? b=some o
inductive FlyX (X:Cx)(pins:List (Addr × Obj))(H:Hp)(c:Value)(e:Addr)(h:Heap):Prop where
 |new (g:Heap) (args:List Value):Heap.MadeExcOf g h e c args→g.FunFrames X.base X.stack→(∀ b o,h.get? b=some o→Old X pins H b→g.get? b=some o)→FlyX X pins H c e h
 |fly (B:Heap) (a0:Value):Heap.FlyingW B X.stack e c a0 h→Cv X pins H B h→FlyX X pins H c e h
inductive XOk (X:Cx)(P:Hp)(α : List Addr)(c:Value)(x:D)(S:Sto)(u:Value)(s:Shared):Prop
 |mk (e:Addr) (pins:List (Addr × Obj)) (σ : _L.St) (H:Hp) (P':Hp) (α' : List Addr) (e1:u=.ref e) (I:Inv X pins σ H s) (r:Rel X.K H P' α' S) (q1:qH P P') (q2:α<+:α') (q3:X.ex=[]∧X.stack=X.env::X.outer∧X.env.frame=some X.env.locals) (q4:FlyX X pins H c e s.heap):XOk X P α c x S u s
theorem XOk.base {X:Cx}{P P1:Hp}{α α1:List Addr}{c:Value}{x:D}{S:Sto}{u:Value}{s:Shared}(e:qH P P1)(h:α<+:α1)(k:XOk X P1 α1 c x S u s):XOk X P α c x S u s:=by
 obtain⟨a,pins,σ,H,P',α',e1,I,r,q1,q2,q3,q4⟩:=k
 exact⟨a,pins,σ,H,P',α',e1,I,r,e.trans q1,h.trans q2,q3,q4⟩
section
variable (X:Cx)
def qI {β : Type}(P:Hp)(α : List Addr)(r:Res β)(Ok:β→Sto→Prop):Prop:=
 match r with
 |.ok d S'=>Ok d S'
 |.ex c x S'=>∀ u s',XOk X P α c x S' u s'→X.xe u s'
 |.bad=>False
def OkV (P:Hp)(α : List Addr)(Q:VK)(d:D)(S':Sto):Prop:=∀ v H' P' α',Rel X.K H' P' α' S'→qH P P'→α<+:α'→Rep X.K P' α' d v→Q v H'
def OkT (P:Hp)(α : List Addr)(Q:Bool→Hp→Prop)(b:Bool)(S':Sto):Prop:=∀ H' P' α',Rel X.K H' P' α' S'→qH P P'→α<+:α'→Q b H'
def OkA (P:Hp)(α : List Addr)(Q:List V→Hp→Prop)(ds:List D)(S':Sto):Prop:=∀ vs H' P' α',Rel X.K H' P' α' S'→qH P P'→α<+:α'→qF X.K P' α' ds vs→Q vs H'
abbrev zB (P:Hp)(α : List Addr)(r:Res D)(Q:VK):Prop:=qI X P α r (OkV X P α Q)
abbrev vD (P:Hp)(α : List Addr)(r:Res Bool)(Q:Bool→Hp→Prop):Prop:=qI X P α r (OkT X P α Q)
abbrev gP (P:Hp)(α : List Addr)(r:Res (List D))(Q:List V→Hp→Prop):Prop:=qI X P α r (OkA X P α Q)
def zJ (P:Hp)(α : List Addr)(r:Out)(D:Ends):Prop:=
 match r with
 |.nx env' S'=>∀ σ' H' P' α',Rel X.K H' P' α' S'→zC X.K P' α' σ' env'→qH P P'→α<+:α'→D.nx σ' H'
 |.bk env' S'=>∀ σ' H' P' α',Rel X.K H' P' α' S'→zC X.K P' α' σ' env'→qH P P'→α<+:α'→D.bk σ' H'
 |.ct env' S'=>∀ σ' H' P' α',Rel X.K H' P' α' S'→zC X.K P' α' σ' env'→qH P P'→α<+:α'→D.ct σ' H'
 |.rt d S'=>∀ v H' P' α',Rel X.K H' P' α' S'→qH P P'→α<+:α'→Rep X.K P' α' d v→D.rt v H'
 |.ex c x _ S'=>∀ u s',XOk X P α c x S' u s'→X.xe u s'
 |.bad=>False
inductive tD (f:DE)(σ : _L.St)(H:Hp)(Q:VK):Prop
 |mk (P:Hp) (α : List Addr) (env:qE) (S:Sto) (r:Rel X.K H P α S) (re:zC X.K P α σ env) (af:zB X P α (f env S) Q):tD f σ H Q
inductive tDT (f:DT)(σ : _L.St)(H:Hp)(Q:Bool→Hp→Prop):Prop
 |mk (P:Hp) (α : List Addr) (env:qE) (S:Sto) (r:Rel X.K H P α S) (re:zC X.K P α σ env) (af:vD X P α (f env S) Q):tDT f σ H Q
inductive tDA (f:DA)(σ : _L.St)(H:Hp)(Q:List V→Hp→Prop):Prop
 |mk (P:Hp) (α : List Addr) (env:qE) (S:Sto) (r:Rel X.K H P α S) (re:zC X.K P α σ env) (af:gP X P α (f env S) Q):tDA f σ H Q
inductive tDS (f:DS)(D:Ends)(σ : _L.St)(H:Hp):Prop
 |mk (P:Hp) (α : List Addr) (env:qE) (S:Sto) (r:Rel X.K H P α S) (re:zC X.K P α σ env) (af:zJ X P α (f env S) D):tDS f D σ H
end
section
variable {X:Cx}{P P1:Hp}{α α1:List Addr}
theorem zB.base {r:Res D}{Q:VK}(e:qH P P1)(h:α<+:α1)(k:zB X P α r Q):zB X P1 α1 r Q:=by
 cases r with
 |ok d S=>exact fun v H' P' α' r q1 q2 q3=>k v H' P' α' r (e.trans q1) (h.trans q2) q3
 |ex c x S=>exact fun u s' q=>k u s' (q.base e h)
 |bad=>exact k
theorem vD.base {r:Res Bool}{Q:Bool→Hp→Prop}(e:qH P P1)(h:α<+:α1)(k:vD X P α r Q):vD X P1 α1 r Q:=by
 cases r with
 |ok d S=>exact fun H' P' α' r q1 q2=>k H' P' α' r (e.trans q1) (h.trans q2)
 |ex c x S=>exact fun u s' q=>k u s' (q.base e h)
 |bad=>exact k
theorem gP.base {r:Res (List D)}{Q:List V→Hp→Prop}(e:qH P P1)(h:α<+:α1)(k:gP X P α r Q):gP X P1 α1 r Q:=by
 cases r with
 |ok d S=>exact fun v H' P' α' r q1 q2 q3=>k v H' P' α' r (e.trans q1) (h.trans q2) q3
 |ex c x S=>exact fun u s' q=>k u s' (q.base e h)
 |bad=>exact k
theorem zJ.base {r:Out}{D:Ends}(e:qH P P1)(h:α<+:α1)(k:zJ X P α r D):zJ X P1 α1 r D:=by
 cases r with
 |nx env S=>exact fun v H' P' α' r q0 q1 q2=>k v H' P' α' r q0 (e.trans q1) (h.trans q2)
 |bk env S=>exact fun v H' P' α' r q0 q1 q2=>k v H' P' α' r q0 (e.trans q1) (h.trans q2)
 |ct env S=>exact fun v H' P' α' r q0 q1 q2=>k v H' P' α' r q0 (e.trans q1) (h.trans q2)
 |rt d S=>exact fun v H' P' α' r q1 q2 q3=>k v H' P' α' r (e.trans q1) (h.trans q2) q3
 |ex c x env S=>exact fun u s' q=>k u s' (q.base e h)
 |bad=>exact k
theorem xr {Q:VK}{v:V}{H:Hp}{d:D}{S:Sto}(k:OkV X P α Q d S)(r:Rel X.K H P α S)(q:Rep X.K P α d v):Q v H:=k v H P α r (qH.refl _) (List.prefix_refl _) q
end
section
variable {X:Cx}{a b e:Expr}{pos:Pos}
theorem peW {t t':TE}(h:PE X e t)(w:∀ σ H Q,t' σ H Q→t σ H Q):PE X e t':=fun pins s σ H Q I q=>h pins s σ H Q I (w σ H Q q)
theorem psW {st:Stmt}{t t':TS}(h:PS X st t)(w:∀ D σ H,t' D σ H→t D σ H):PS X st t':=fun pins s σ H D I q=>h pins s σ H D I (w D σ H q)
theorem M5 {st:List Stmt}{t t':TS}(h:PSs X st t)(w:∀ D σ H,t' D σ H→t D σ H):PSs X st t':=fun pins s σ H D I q=>h pins s σ H D I (w D σ H q)
theorem paW {es:List Expr}{t t':TA}(h:PA X es t)(w:∀ σ H Q,t' σ H Q→t σ H Q):PA X es t':=fun pos pins s σ H Q I q=>h pos pins s σ H Q I (w σ H Q q)
structure Got (X:Cx)(pins:List (Addr × Obj))(σ : _L.St)(env:qE)(P:Hp)(α : List Addr)(u:Value)(s1:Shared)(v:V)(H1 P1:Hp)(α1:List Addr)(d:D)(S1:Sto):Prop where
 inv:Inv X pins σ H1 s1
 val:qK v u
 rel:Rel X.K H1 P1 α1 S1
 env:zC X.K P1 α1 σ env
 rep:Rep X.K P1 α1 d v
 same:qH P P1
 pre:α<+:α1
inductive GotG (X:Cx)(pins:List (Addr × Obj))(σ : _L.St)(env:qE)(P:Hp)(α : List Addr)(u:Value)(s1:Shared){γ : Type}(g:D→Sto→Res γ)(Ok:γ→Sto→Prop):Prop
 |mk (v:V) (H1 P1:Hp) (α1:List Addr) (d:D) (S1:Sto) (G:Got X pins σ env P α u s1 v H1 P1 α1 d S1) (q:qI X P α (g d S1) Ok):GotG X pins σ env P α u s1 g Ok
inductive GotAG (X:Cx)(pins:List (Addr × Obj))(σ : _L.St)(env:qE)(P:Hp)(α : List Addr)(us:List Value)(s1:Shared){γ : Type}(g:List D→Sto→Res γ)(Ok:γ→Sto→Prop):Prop
 |mk (vs:List V) (H1 P1:Hp) (α1:List Addr) (ds:List D) (S1:Sto) (I:Inv X pins σ H1 s1) (rv:qL vs us) (r:Rel X.K H1 P1 α1 S1) (re:zC X.K P1 α1 σ env) (rp:qF X.K P1 α1 ds vs) (e1:qH P P1) (e2:α<+:α1) (q:qI X P α (g ds S1) Ok):GotAG X pins σ env P α us s1 g Ok
inductive GotT (X:Cx)(pins:List (Addr × Obj))(σ : _L.St)(env:qE)(P:Hp)(α : List Addr)(b:Bool)(s1:Shared){γ : Type}(g:Bool→Sto→Res γ)(Ok:γ→Sto→Prop):Prop
 |mk (H1 P1:Hp) (α1:List Addr) (S1:Sto) (I:Inv X pins σ H1 s1) (r:Rel X.K H1 P1 α1 S1) (re:zC X.K P1 α1 σ env) (e1:qH P P1) (e2:α<+:α1) (q:qI X P α (g b S1) Ok):GotT X pins σ env P α b s1 g Ok
theorem xA {γ : Type}{f:DE}{g:D→Sto→Res γ}{Ok:γ→Sto→Prop}{pins:List (Addr × Obj)}{s:Shared}{σ : _L.St}{H P:Hp}{α : List Addr}{env:qE}{S:Sto}(he:PE X e (tD X f))(I:Inv X pins σ H s)(r:Rel X.K H P α S)
  (re:zC X.K P α σ env) (af:qI X P α ((f env S).bind g) Ok) :
  wpAny (model X.prog X.w) X.A (eval e X.env) (fun u s1=>GotG X pins σ env P α u s1 g Ok) X.xe s:=by
 refine thn (he pins s σ H (fun v H1=>∃ P1 α1 d S1,Rel X.K H1 P1 α1 S1∧zC X.K P1 α1 σ env∧Rep X.K P1 α1 d v∧qH P P1∧α<+:α1∧qI X P α (g d S1) Ok) I ⟨P,α,env,S,r,re,?_⟩) fun u s1 ⟨v,H1,I1,rv,P1,α1,d,S1,q1,q2,q3,q4,q5,q6⟩=>⟨v,H1,P1,α1,d,S1,⟨I1,rv,q1,q2,q3,q4,q5⟩,q6⟩
 cases q:f env S with
 |bad=>rw[q] at af;exact af
 |ex c x S'=>rw[q] at af;exact af
 |ok d S' =>
  rw[q] at af
  exact fun v H' P' α' r' e1 e2 rp=>⟨P',α',d,S',r',re.mono e1 e2,rp,e1,e2,af⟩
theorem yQ {γ : Type}{es:List Expr}{f:DA}{g:List D→Sto→Res γ}{Ok:γ→Sto→Prop}{pins:List (Addr × Obj)}{s:Shared}{σ : _L.St}{H P:Hp}{α : List Addr}{env:qE}{S:Sto}(he:PA X es (tDA X f))(I:Inv X pins σ H s)(r:Rel X.K H P α S)
  (re:zC X.K P α σ env) (af:qI X P α ((f env S).bind g) Ok) (pos:Pos) :
  wpAny (model X.prog X.w) X.A (spliced (backTo pos (starEach es X.env))) (fun us s1=>GotAG X pins σ env P α us s1 g Ok) X.xe s:=by
 refine thn (he pos pins s σ H (fun vs H1=>∃ P1 α1 ds S1,Rel X.K H1 P1 α1 S1∧zC X.K P1 α1 σ env∧qF X.K P1 α1 ds vs∧qH P P1∧α<+:α1∧qI X P α (g ds S1) Ok) I ⟨P,α,env,S,r,re,?_⟩) fun u s1 ⟨v,H1,I1,rv,P1,α1,d,S1,q1,q2,q3,q4,q5,q6⟩=>⟨v,H1,P1,α1,d,S1,I1,rv,q1,q2,q3,q4,q5,q6⟩
 cases q:f env S with
 |bad=>rw[q] at af;exact af
 |ex c x S'=>rw[q] at af;exact af
 |ok d S' =>
  rw[q] at af
  exact fun v H' P' α' r' e1 e2 rp=>⟨P',α',d,S',r',re.mono e1 e2,rp,e1,e2,af⟩
theorem fD {γ : Type}{f:DT}{g:Bool→Sto→Res γ}{Ok:γ→Sto→Prop}{pins:List (Addr × Obj)}{s:Shared}{σ : _L.St}{H P:Hp}{α : List Addr}{env:qE}{S:Sto}{m:Sem Bool}
  (he:∀ (Q:Bool→Hp→Prop),tDT X f σ H Q→wpAny (model X.prog X.w) X.A m (TP X pins σ Q) X.xe s) (r:Rel X.K H P α S) (re:zC X.K P α σ env) (af:qI X P α ((f env S).bind g) Ok) :
  wpAny (model X.prog X.w) X.A m (fun b s1=>GotT X pins σ env P α b s1 g Ok) X.xe s:=by
 refine thn (he (fun b H1=>∃ P1 α1 S1,Rel X.K H1 P1 α1 S1∧zC X.K P1 α1 σ env∧qH P P1∧α<+:α1∧qI X P α (g b S1) Ok) ⟨P,α,env,S,r,re,?_⟩) fun b s1 ⟨H1,I1,P1,α1,S1,q1,q2,q4,q5,q6⟩=>⟨H1,P1,α1,S1,I1,q1,q2,q4,q5,q6⟩
 cases q:f env S with
 |bad=>rw[q] at af;exact af
 |ex c x S'=>rw[q] at af;exact af
 |ok d S' =>
  rw[q] at af
  exact fun H' P' α' r' e1 e2=>⟨P',α',S',r',re.mono e1 e2,e1,e2,af⟩
def dC (d:D):DE:=fun _ S=>.ok d S
def qB (i:Nat):DE:=fun env S=>match env[i]? with
 |some (some d)=>.ok d S
 |_=>.bad
theorem PR {i j}:PE X (.Constant (.int i) j pos) (tD X (dC (.int i))):=peW FT fun σ H Q ⟨P,α,env,S,r,re,af⟩=>xr af r (by simp only[Rep])
theorem TM {i j}:PE X (.Constant (.bool i) j pos) (tD X (dC (.bl i))):=peW NN fun σ H Q ⟨P,α,env,S,r,re,af⟩=>xr af r (by simp only[Rep])
theorem PY {i j}:PE X (.Constant (.str i) j pos) (tD X (dC (.str i))):=peW FW fun σ H Q ⟨P,α,env,S,r,re,af⟩=>xr af r (by simp only[Rep])
theorem PU {j}:PE X (.Constant .none j pos) (tD X (dC .non)):=peW FU fun σ H Q ⟨P,α,env,S,r,re,af⟩=>xr af r (by simp only[Rep])
set_option tactic.hygienic true in
theorem GI {i:Nat}{σ : _L.St}{H:Hp}{Q:VK}(h:tD X (qB i) σ H Q):MN i σ H Q:=by
 obtain⟨P,α,env,S,r,re,af⟩:=h
 unfold qB at af
 split at af
 ·rename_i d q
  obtain⟨v,h1,h2⟩:=re.2 i d q
  exact⟨v,h1,xr af r h2⟩
 ·exact False.elim af
theorem dv (i:Nat){x:Str}(hN:X.N[i]? = some x:=by rfl)(hv:Vis X.env.scope x:=by first|exact Or.inl rfl|exact Or.inr (Or.inl rfl)|exact Or.inr (Or.inr rfl))(hd:(x == ("__debug__" : Str))=false:=by decide)
  (hcd:(x == ("__classdict__" : Str))=false:=by decide):PE X (.Name x pos) (tD X (qB i)):=peW (FY hN hv hd hcd) fun σ H Q h=>GI h
theorem eG {x:Str}{d:D}{v:V}{u:Value}(hg:Gl X x)(hm:X.mg x=some u)(r:qK v u)(q:∀ P α,Rep X.K P α d v)(hd:(x == ("__debug__" : Str))=false:=by decide):PE X (.Name x pos) (tD X (dC d)):=
 peW (KO hg hm r hd) fun σ H Q ⟨P,α,env,S,r,re,af⟩=>xr af r (q _ _)
theorem UU {x:Str}{n:String}(hg:Gl X x)(hm:X.mg x=none)(hv:bootBuiltins x=some (.type n))(hn:x ≠ "__name__":=by decide)(hd:(x == ("__debug__" : Str))=false:=by decide):PE X (.Name x pos) (tD X (dC (.ty n))):=
 peW (KN (v:=.ty n) hg hm hv rfl hn hd) fun σ H Q ⟨P,α,env,S,r,re,af⟩=>xr af r (by simp only[Rep])
abbrev G2:=D→D→Sto→Res D
def OpD (X:Cx)(f:Value→Value→Sem Value)(g:G2):Prop:=
 ∀ (pins:List (Addr × Obj)) (σ : _L.St) (H:Hp) (s:Shared) (P:Hp) (α : List Addr) (S:Sto) (v u:V) (vv uu:Value) (a b:D) (Q:VK),Inv X pins σ H s→Rel X.K H P α S→qK v vv→qK u uu→Rep X.K P α a v→Rep X.K P α b u→zB X P α (g a b S) Q →
  wpAny (model X.prog X.w) X.A (f vv uu) (EP X pins σ Q) X.xe s
theorem OpD.of {f:Value→Value→Sem Value}{r:R2}{g:G2}(h:OpR X f r)(w:∀ H P α S v u a b Q,Rel X.K H P α S→Rep X.K P α a v→Rep X.K P α b u→zB X P α (g a b S) Q→r v u H Q):OpD X f g:=
 fun pins σ H s P α S v u vv uu a b Q I rl r1 r2 p1 p2 af=>h pins s σ H v u vv uu Q I r1 r2 (w H P α S v u a b Q rl p1 p2 af)
def UnD (X:Cx)(f:Value→Sem Value)(g:D→Sto→Res D):Prop:=
 ∀ (pins:List (Addr × Obj)) (σ : _L.St) (H:Hp) (s:Shared) (P:Hp) (α : List Addr) (S:Sto) (v:V) (vv:Value) (a:D) (Q:VK),Inv X pins σ H s→Rel X.K H P α S→qK v vv→Rep X.K P α a v→zB X P α (g a S) Q →
  wpAny (model X.prog X.w) X.A (f vv) (EP X pins σ Q) X.xe s
def IxD (X:Cx)(g:G2):Prop:=
 ∀ (value slice:Expr) (pins:List (Addr × Obj)) (σ : _L.St) (H:Hp) (s:Shared) (P:Hp) (α : List Addr) (S:Sto) (v u:V) (vv uu:Value) (a b:D) (Q:VK),Inv X pins σ H s→Rel X.K H P α S→qK v vv→qK u uu→Rep X.K P α a v→Rep X.K P α b u→zB X P α (g a b S) Q →
  subscripted slice false vv uu=operate [vv,uu] (getItem vv uu)→wpAny (model X.prog X.w) X.A (subscriptTail value slice vv uu) (EP X pins σ Q) X.xe s
def wG (X:Cx)(f:Value)(g:List D→Sto→Res D):Prop:=
 ∀ (pins:List (Addr × Obj)) (σ : _L.St) (H:Hp) (s:Shared) (P:Hp) (α : List Addr) (S:Sto) (vs:List V) (us:List Value) (ds:List D) (Q:VK),Inv X pins σ H s→Rel X.K H P α S→qL vs us→qF X.K P α ds vs→zB X P α (g ds S) Q →
  wpAny (model X.prog X.w) X.A (call f us) (EP X pins σ Q) X.xe s
def d2 (g:G2)(fa fb:DE):DE:=fun env S=>(fa env S).bind fun x S1=>(fb env S1).bind fun y S2=>g x y S2
def d1 (g:D→Sto→Res D)(fa:DE):DE:=fun env S=>(fa env S).bind g
variable {fa fb:DE}
theorem dD {g:G2}{f:Value→Value→Sem Value}{pins:List (Addr × Obj)}{s:Shared}{σ : _L.St}{H:Hp}{Q:VK}(ho:OpD X f g)(ha:PE X a (tD X fa))(hb:PE X b (tD X fb))(I:Inv X pins σ H s)(h:tD X (d2 g fa fb) σ H Q) :
  wpAny (model X.prog X.w) X.A (eval a X.env) (fun v s₁=>wpAny (model X.prog X.w) X.A (eval b X.env) (fun u s₂=>wpAny (model X.prog X.w) X.A (f v u) (EP X pins σ Q) X.xe s₂) X.xe s₁) X.xe s:=by
 obtain⟨P,α,env,S,r,re,af⟩:=h
 refine thn (xA ha I r re af) fun vv s1 ⟨v,H1,P1,α1,d,S1,G1,af1⟩=>?_
 refine thn (xA hb G1.inv G1.rel G1.env (P:=P1) (α:=α1) (Ok:=OkV X P1 α1 Q) (g:=fun y S2=>g d y S2) ?_) fun uu s2 ⟨u,H2,P2,α2,d',S2,G2,af2⟩=>?_
 ·exact zB.base G1.same G1.pre af1
 ·exact ho pins σ H2 s2 P2 α2 S2 v u vv uu d d' Q G2.inv G2.rel G1.val G2.val (Rep.mono G2.same G2.pre _ _ G1.rep) G2.rep (zB.base G2.same G2.pre af2)
theorem TR {op:Operator}{g:G2}(ho:OpD X (binaryOp op) g)(ha:PE X a (tD X fa))(hb:PE X b (tD X fb)):PE X (.BinOp a op b pos) (tD X (d2 g fa fb)):=
 fun pins s σ H Q I h=>wpAny_BinOp (dD ho ha hb I h)
theorem PQ {op:CmpOp}{g:G2}(ho:OpD X (compareOp op) g)(ha:PE X a (tD X fa))(hb:PE X b (tD X fb))(hm:behindInMarks op b=false:=by first|exact kH _|with_unfolding_all rfl):PE X (.Compare a [op] [b] pos) (tD X (d2 g fa fb)):=
 fun pins s σ H Q I h=>wpAny_Compare1 (dD ho ha hb I h) hm
theorem TU {op:UnaryOp}{g:D→Sto→Res D}(ho:UnD X (unaryOp op) g)(ha:PE X a (tD X fa)):PE X (.UnaryOp op a pos) (tD X (d1 g fa)):=by
 intro pins s σ H Q I h
 obtain⟨P,α,env,S,r,re,af⟩:=h
 exact UnaryOp_ (thn (xA ha I r re af) fun vv s1 ⟨v,H1,P1,α1,d,S1,G1,af1⟩=>ho pins σ H1 s1 P1 α1 S1 v vv d Q G1.inv G1.rel G1.val G1.rep (zB.base G1.same G1.pre af1))
theorem V3 {g:G2}(ho:IxD X g)(ha:PE X a (tD X fa))(hb:PE X b (tD X fb))(hs:uY b:=by intro _ _;rfl):PE X (.Subscript a b pos) (tD X (d2 g fa fb)):=by
 intro pins s σ H Q I h
 obtain⟨P,α,env,S,r,re,af⟩:=h
 have IxR':IxR X (fun x y H Q=>∃ P α S a b,Rel X.K H P α S∧Rep X.K P α a x∧Rep X.K P α b y∧zB X P α (g a b S) Q):=fun value slice pins s σ H x y v u Q I rx ry ⟨P,α,S,a,b,r,p1,p2,af⟩ hsl =>
  ho value slice pins σ H s P α S x y v u a b Q I r rx ry p1 p2 af hsl
 refine peW (NO IxR' ha hb hs) (t':=tD X (d2 g fa fb)) (fun σ H Q h=>?_) pins s σ H Q I ⟨P,α,env,S,r,re,af⟩
 obtain⟨P,α,env,S,r,re,af⟩:=h
 refine⟨P,α,env,S,r,re,?_⟩
 unfold d2 at af
 cases q:fa env S with
 |bad=>rw[q] at af;exact af
 |ex c x S'=>rw[q] at af;exact af
 |ok d S1 =>
  rw[q] at af
  intro v H1 P1 α1 r1 e1 e2 rp
  refine⟨P1,α1,env,S1,r1,re.mono e1 e2,?_⟩
  have af':zB X P α ((fb env S1).bind fun y S2=>g d y S2) Q:=af
  cases q2:fb env S1 with
  |bad=>rw[q2] at af';exact af'
  |ex c x S'=>rw[q2] at af';exact fun u s' z=>af' u s' (z.base e1 e2)
  |ok d' S2 =>
   rw[q2] at af'
   intro u H2 P2 α2 r2 e3 e4 rp2
   exact⟨P2,α2,S2,d,d',r2,Rep.mono e3 e4 _ _ rp,rp2,zB.base (e1.trans e3) (e2.trans e4) af'⟩
def qC:DA:=fun _ S=>.ok [] S
def qA (f:DE)(g:DA):DA:=fun env S=>(f env S).bind fun x S1=>(g env S1).bind fun xs S2=>.ok (x::xs) S2
theorem oG:PA X [] (tDA X qC):=paW FS fun σ H Q ⟨P,α,env,S,r,re,af⟩=>af [] H P α r (qH.refl _) (List.prefix_refl _) .nil
theorem eF {es:List Expr}{g:DA}(ha:PE X e (tD X fa))(hr:PA X es (tDA X g))(hs:starEach (e::es) X.env=(false,eval e X.env)::starEach es X.env:=by rfl):PA X (e::es) (tDA X (qA fa g)):=by
 intro pos pins s σ H Q I h
 obtain⟨P,α,env,S,r,re,af⟩:=h
 rw[hs]
 show wpAny _ _ (spliced ((false,eval e X.env)::backTo pos (starEach es X.env))) _ _ s
 refine Calls.spliced_cons (thn (xA ha I r re af) fun u s1 ⟨x,H1,P1,α1,d,S1,G1,af1⟩=>?_)
 refine thn (yQ hr G1.inv G1.rel G1.env (P:=P1) (α:=α1) (Ok:=OkA X P1 α1 Q) (gP.base G1.same G1.pre af1) pos) fun us s2 ⟨xs,H2,P2,α2,ds,S2,I2,rv,r2,re2,rp2,e1,e2,af2⟩=>?_
 exact⟨x::xs,H2,I2,.cons G1.val rv,af2 _ _ _ _ r2 e1 e2 (.cons (Rep.mono e1 e2 _ _ G1.rep) rp2)⟩
def lim:Nat:=16777216
theorem xN:lim=sizeLine:=sizeLine_eq.symm
def qY (f:DA):DE:=fun env S=>(f env S).bind fun xs S1=>if xs.length≤lim then .ok (.tup xs) S1 else .bad
def zM (f:DA):DE:=fun env S=>(f env S).bind fun xs S1=>if xs.length≤lim then .ok (.lst xs) S1 else .bad
def aI (f:DA):DE:=fun env S=>(f env S).bind fun xs S1=>if xs.length≤lim then .ok (.loc S1.length) (S1++[.lst xs]) else .bad
theorem cH {K:PySem.W.Frag}{P:Hp}{α : List Addr}{a:Addr}{ds:List D}{vs:List V}(h:SqT K P a vs)(r:qF K P α ds vs):Rep K P α (.tup ds) (.ref a):=by simp only[Rep];exact⟨a,vs,rfl,h,r⟩
theorem kL {K:PySem.W.Frag}{P:Hp}{α : List Addr}{a:Addr}{ds:List D}{vs:List V}(h:SqX K P a vs)(r:qF K P α ds vs):Rep K P α (.lst ds) (.ref a):=by simp only[Rep];exact⟨a,vs,rfl,h,r⟩
theorem gC {H P:Hp}{α : List Addr}{S:Sto}{p:Addr}{ds:List D}{vs:List V}{Q:VK}(r:Rel X.K H P α S)(hp:H p=none)(rp:qF X.K P α ds vs)(af:OkV X P α Q (.tup ds) S):Q (.ref p) (upd H p (.tup vs)):=by
 obtain⟨r1,e1⟩:=r.pure (o:=.tup vs) hp
 exact af _ _ _ α r1 e1 (List.prefix_refl _) (cH (.of zN) (qF.mono e1 (List.prefix_refl _) _ _ rp))
theorem v6 {H P:Hp}{α : List Addr}{S:Sto}{p:Addr}{ds:List D}{vs:List V}{Q:VK}(r:Rel X.K H P α S)(hp:H p=none)(rp:qF X.K P α ds vs)(af:OkV X P α Q (.lst ds) S):Q (.ref p) (upd H p (.lst vs)):=by
 obtain⟨r1,e1⟩:=r.pure (o:=.lst vs) hp
 exact af _ _ _ α r1 e1 (List.prefix_refl _) (kL (.inl (.inl zN)) (qF.mono e1 (List.prefix_refl _) _ _ rp))
theorem h9 {H P:Hp}{α : List Addr}{S:Sto}{p:Addr}{ds:List D}{vs:List V}{Q:VK}(r:Rel X.K H P α S)(hp:H p=none)(rp:qF X.K P α ds vs)(af:OkV X P α Q (.loc S.length) (S++[.lst ds])):Q (.ref p) (upd H p (.lst vs)):=by
 have hpre:α<+:α++[p]:=List.prefix_append _ _
 have r1:=r.new (o:=.lst vs) (m:=.lst ds) hp ⟨vs,zN,qF.mono (qH.refl _) hpre _ _ rp⟩
 refine af _ _ _ _ r1 (qH.refl _) hpre ?_
 simp only[Rep]
 exact⟨p,rfl,by rw[← r.len];simp⟩
theorem mT {f:DA}{σ : _L.St}{H:Hp}{Q:VK}{G:List D→Sto→Res D}{mk:List V→HO}(h:tD X (fun env S=>(f env S).bind fun xs S1=>if xs.length≤lim then G xs S1 else .bad) σ H Q)
  (k:∀ H1 P1 α1 S1 ds vs p,Rel X.K H1 P1 α1 S1→H1 p=none→qF X.K P1 α1 ds vs→zB X P1 α1 (G ds S1) Q→Q (.ref p) (upd H1 p (mk vs))) :
  tDA X f σ H fun vs H1=>vs.length≤sizeLine∧∀ p,H1 p=none→Q (.ref p) (upd H1 p (mk vs)):=by
 obtain⟨P,α,env,S,r,re,af⟩:=h
 refine⟨P,α,env,S,r,re,?_⟩
 have af':zB X P α ((f env S).bind fun xs S1=>if xs.length≤lim then G xs S1 else .bad) Q:=af
 cases q:f env S with
 |bad=>rw[q] at af';exact af'
 |ex c x S'=>rw[q] at af';exact af'
 |ok ds S1 =>
  rw[q] at af'
  intro vs H1 P1 α1 r1 e1 e2 rp
  have af2:zB X P α (if ds.length≤lim then G ds S1 else .bad) Q:=af'
  by_cases hl:ds.length≤lim
  ·rw[if_pos hl] at af2
   exact⟨by rw[← rp.length,← xN];exact hl,fun p hp=>k H1 P1 α1 S1 ds vs p r1 hp rp (zB.base e1 e2 af2)⟩
  ·rw[if_neg hl] at af2;exact False.elim af2
theorem B0 {es:List Expr}{f:DA} {x1} (h:PA X es (tDA X f)):PE X (.Tuple es x1 pos) (tD X (qY f)):=
 peW (FX h) fun σ H Q q=>mT (G:=fun xs S1=>.ok (.tup xs) S1) (mk:=.tup) q fun H1 P1 α1 S1 ds vs p r hp rp af=>gC r hp rp af
theorem oJ {es:List Expr}{f:DA}(h:PA X es (tDA X f)):PE X (.List es pos) (tD X (zM f)):=
 peW (QY h) fun σ H Q q=>mT (G:=fun xs S1=>.ok (.lst xs) S1) (mk:=.lst) q fun H1 P1 α1 S1 ds vs p r hp rp af=>v6 r hp rp af
theorem UX {es:List Expr}{f:DA}(h:PA X es (tDA X f)):PE X (.List es pos) (tD X (aI f)):=
 peW (QY h) fun σ H Q q=>mT (G:=fun xs S1=>.ok (.loc S1.length) (S1++[MO.lst xs])) (mk:=.lst) q fun H1 P1 α1 S1 ds vs p r hp rp af=>h9 r hp rp af
end
end _D
end
section
namespace _D
open PySem PySem.Spec PyProof.Rows _L
section
variable {X:Cx}{a b c e:Expr}{pos:Pos}{fa fb fc:DE}{ta tb:DT}
def xO:D→Sto→Option Bool
 |.non,_=>some false
 |.bl b,_=>some b
 |.int i,_=>some (i != 0)
 |.str x,_=>if x.length≤lim then some ((x.length:Int) != 0) else none
 |.tup xs,_=>some (!xs.isEmpty)
 |.lst xs,_=>some (!xs.isEmpty)
 |.dct0,_=>some false
 |.loc i,S=>match S[i]? with
  |some (.lst xs)=>some (!xs.isEmpty)
  |some (.dct kvs)=>some (!kvs.isEmpty)
  |_=>none
 |_,_=>none
theorem qF.isEmpty {K:PySem.W.Frag}{P:Hp}{α : List Addr}{ds:List D}{vs:List V}(r:qF K P α ds vs):(!ds.isEmpty)=!vs.isEmpty:=by
 cases ds with
 |nil=>rw[r.nil_inv];rfl
 |cons d ds=>obtain⟨w,ws,rfl,_,_⟩:=r.cons_inv;rfl
theorem wB {K:PySem.W.Frag}{H P:Hp}(e:qH P H){a:Addr}{xs:List V}(h:SqT K P a xs):SqT K H a xs:=uG e h
theorem j1 {H P:Hp}{α : List Addr}{S:Sto}{v:V}{d:D}{k:Bool}(r:Rel X.K H P α S)(p:Rep X.K P α d v)(h:xO d S=some k):cZ X.K v H k:=by
 cases d with
 |non=>simp only[Rep] at p;subst p;cases h;rfl
 |bl b=>simp only[Rep] at p;subst p;cases h;rfl
 |int i=>simp only[Rep] at p;subst p;cases h;rfl
 |str x =>
  simp only[Rep] at p;subst p
  obtain⟨hl,rfl⟩:=g6 h
  exact⟨by rw[← xN];exact hl,rfl⟩
 |tup xs =>
  simp only[Rep] at p
  obtain⟨a,vs,rfl,q,t⟩:=p
  cases h
  exact .inr (.inl ⟨vs,wB r.sub q,t.isEmpty⟩)
 |lst xs =>
  simp only[Rep] at p
  obtain⟨a,vs,rfl,q,t⟩:=p
  cases h
  exact .inl ⟨vs,(w4 r.sub q).l,t.isEmpty⟩
 |dct0 =>
  simp only[Rep] at p
  obtain⟨a,rfl,q⟩:=p
  cases h
  exact .inr (.inr ⟨[],r.sub _ _ q,rfl⟩)
 |loc i =>
  simp only[Rep] at p
  obtain⟨a,rfl,q⟩:=p
  have h:(match S[i]? with|some (.lst xs)=>some (!xs.isEmpty)|some (.dct kvs)=>some (!kvs.isEmpty)|_=>none)=some k:=h
  cases hs:S[i]? with
  |none=>rw[hs] at h;exact nn h
  |some m =>
   rw[hs] at h
   cases m with
   |lst xs =>
    cases h
    obtain⟨vs,z,t⟩:=r.at' i a _ q hs
    exact .inl ⟨vs,.of z,t.isEmpty⟩
   |dct kvs =>
    cases h
    obtain⟨vs,z,t⟩:=r.at' i a _ q hs
    refine .inr (.inr ⟨vs,z,?_⟩)
    cases t <;> rfl
   |_=>exact nn h
 |ty n=>exact nn h
 |obj a=>exact nn h
 |exn c=>exact nn h
 |fd ks ds=>exact nn h
theorem U2 {pins:List (Addr × Obj)}{s:Shared}{σ : _L.St}{H P:Hp}{α : List Addr}{S:Sto}{v:V}{vv:Value}{d:D}{k:Bool}{Q:Bool→Hp→Prop}(I:Inv X pins σ H s)(r:Rel X.K H P α S)(rv:qK v vv)(p:Rep X.K P α d v)(h:xO d S=some k)(q:Q k H) :
  wpAny (model X.prog X.w) X.A (truthy vv) (TP X pins σ Q) X.xe s:=pJ pins s σ H v vv Q I rv ⟨k,j1 r p h,q⟩
def vV (o:Option Bool)(S:Sto):Res Bool:=match o with
 |some b=>.ok b S
 |none=>.bad
def dTr (f:DE):DT:=fun env S=>(f env S).bind fun d S1=>vV (xO d S1) S1
theorem tN {o:Option Bool}{S:Sto}{P:Hp}{α : List Addr}{Ok:Bool→Sto→Prop}(h:qI X P α (vV o S) Ok):∃ b,o=some b∧Ok b S:=by
 cases o with
 |none=>exact False.elim h
 |some b=>exact⟨b,rfl,h⟩
theorem BH (ha:PE X a (tD X fa))(he:∀ whole,isTrue a X.env whole=(do let v ← whole;standAt a.pos;holding [v] (truthy v)):=by intro _;rfl):PT X a (tDT X (dTr fa)):=by
 intro pins s σ H Q I h
 obtain⟨P,α,env,S,r,re,af⟩:=h
 refine isTrue_plain (thn (xA ha I r re af) fun vv s1 ⟨v,H1,P1,α1,d,S1,G1,af1⟩=>?_) (he _)
 obtain⟨k,e1,q⟩:=tN af1
 exact U2 G1.inv G1.rel G1.val G1.rep e1 (q H1 P1 α1 G1.rel G1.same G1.pre)
theorem BF {op:CmpOp}{g:G2}(ho:OpD X (compareOp op) g)(ha:PE X a (tD X fa))(hb:PE X b (tD X fb))(hm:behindInMarks op b=false:=by first|exact kH _|with_unfolding_all rfl):PT X (.Compare a [op] [b] pos) (tDT X (dTr (d2 g fa fb))):=by
 intro pins s σ H Q I h
 obtain⟨P,α,env,S,r,re,af⟩:=h
 refine wpAny_isTrue_Compare1 ?_ hm
 have key:tD X (d2 g fa fb) σ H (fun v H1=>∃ k,cZ X.K v H1 k∧Q k H1):=by
  refine⟨P,α,env,S,r,re,?_⟩
  have af':qI X P α ((d2 g fa fb env S).bind fun d S1=>vV (xO d S1) S1) (OkT X P α Q):=af
  cases q:d2 g fa fb env S with
  |bad=>rw[q] at af';exact af'
  |ex c x S'=>rw[q] at af';exact af'
  |ok d S1 =>
   rw[q] at af'
   obtain⟨k,e1,qk⟩:=tN (X:=X) af'
   exact fun v H1 P1 α1 r1 e3 e4 rp=>⟨k,j1 r1 rp e1,qk H1 P1 α1 r1 e3 e4⟩
 exact thn (dD ho ha hb I key) fun v s1 h1=>thn h1 fun u s2 h2=>thn h2 fun x s3 ⟨y,H3,I3,r3,k,tk,qk⟩=>pJ pins s3 σ H3 y x Q I3 r3 ⟨k,tk,qk⟩
def xH (g g':G2)(fa fb fc:DE):DE:=fun env S=>(fa env S).bind fun x S1=>(fb env S1).bind fun y S2=>(g x y S2).bind fun z S3 =>
 match xO z S3 with
 |some true=>(fc env S3).bind fun w S4=>g' y w S4
 |some false=>.ok z S3
 |none=>.bad
inductive GotO (X:Cx)(pins:List (Addr × Obj))(σ : _L.St)(P:Hp)(α : List Addr)(w:Value)(s1:Shared){γ : Type}(k:D→Sto→Res γ)(Ok:γ→Sto→Prop):Prop
 |mk (y:V) (H1 P1:Hp) (α1:List Addr) (d:D) (S1:Sto) (I:Inv X pins σ H1 s1) (rv:qK y w) (r:Rel X.K H1 P1 α1 S1) (rp:Rep X.K P1 α1 d y) (e1:qH P P1) (e2:α<+:α1) (q:qI X P α (k d S1) Ok):GotO X pins σ P α w s1 k Ok
theorem sK {γ : Type}{f:Value→Value→Sem Value}{g:G2}{k:D→Sto→Res γ}{Ok:γ→Sto→Prop}{pins:List (Addr × Obj)}{σ : _L.St}{H:Hp}{s:Shared}{P:Hp}{α : List Addr}{S:Sto}{v u:V}{vv uu:Value}{a b:D}(ho:OpD X f g)(I:Inv X pins σ H s)(r:Rel X.K H P α S)
  (rv:qK v vv) (ru:qK u uu) (pa:Rep X.K P α a v) (pb:Rep X.K P α b u) (af:qI X P α ((g a b S).bind k) Ok) :
  wpAny (model X.prog X.w) X.A (f vv uu) (fun w s1=>GotO X pins σ P α w s1 k Ok) X.xe s:=by
 refine thn (ho pins σ H s P α S v u vv uu a b (fun y H1=>∃ P1 α1 d S1,Rel X.K H1 P1 α1 S1∧Rep X.K P1 α1 d y∧qH P P1∧α<+:α1∧qI X P α (k d S1) Ok) I r rv ru pa pb ?_) fun w s1 ⟨y,H1,I1,r1,P1,α1,d,S1,q1,q2,q3,q4,q5⟩=>⟨y,H1,P1,α1,d,S1,I1,r1,q1,q2,q3,q4,q5⟩
 cases q:g a b S with
 |bad=>rw[q] at af;exact af
 |ex c x S'=>rw[q] at af;exact af
 |ok d S' =>
  rw[q] at af
  exact fun v H' P' α' r' e1 e2 rp=>⟨P',α',d,S',r',rp,e1,e2,af⟩
theorem qI.base' {β : Type}{P P1:Hp}{α α1:List Addr}{r:Res β}{Ok Ok1:β→Sto→Prop}(e:qH P P1)(h:α<+:α1)(ho:∀ d S,Ok d S→Ok1 d S)(k:qI X P α r Ok):qI X P1 α1 r Ok1:=by
 cases r with
 |ok d S=>exact ho d S k
 |ex c x S=>exact fun u s' q=>k u s' (q.base e h)
 |bad=>exact k
theorem W8 {op op':CmpOp}{g g':G2}(ho:OpD X (compareOp op) g)(ho':OpD X (compareOp op') g')(ha:PE X a (tD X fa))(hb:PE X b (tD X fb))(hc:PE X c (tD X fc))
  (hm:lastMarks [op,op'] [b,c]=false:=by with_unfolding_all rfl):PE X (.Compare a [op,op'] [b,c] pos) (tD X (xH g g' fa fb fc)):=by
 intro pins s σ H Q I h
 obtain⟨P,α,env,S,r,re,af⟩:=h
 refine Compare_chain (thn (xA ha I r re af) fun vv s1 ⟨v,H1,P1,α1,d,S1,G1,af1⟩=>chain_link (thn (xA hb G1.inv G1.rel G1.env (zB.base G1.same G1.pre af1)) fun uu s2 ⟨u,H2,P2,α2,d',S2,G2,af2⟩ =>
  thn (sK ho G2.inv G2.rel G1.val G2.val (Rep.mono G2.same G2.pre _ _ G1.rep) G2.rep (zB.base G2.same G2.pre af2)) fun w s3 ⟨y,H3,P3,α3,z,S3,I3,r3,rl3,rp3,e3,e4,af3⟩=>?_)) hm
 cases ht:xO z S3 with
 |none=>simp only[ht] at af3;exact False.elim af3
 |some k =>
  simp only[ht] at af3
  have tv:=j1 rl3 rp3 ht
  refine thn (pJ pins s3 σ H3 y w (fun k' H'=>k'=k∧H'=H3) I3 r3 ⟨k,tv,rfl,rfl⟩) fun k' s4 ⟨H4,I4,hk,hH⟩=>?_
  subst hk;subst hH
  cases k' with
  |false=>exact ite_ff ⟨y,H4,I4,r3,af3 y H4 P3 α3 rl3 e3 e4 rp3⟩
  |true =>
   refine ite_tt (chain_last (thn (xA hc I4 rl3 (G2.env.mono e3 e4) (zB.base e3 e4 af3)) fun ww s5 ⟨w',H5,P5,α5,d5,S5,G5,af5⟩=>?_))
   exact ho' pins σ H5 s5 P5 α5 S5 u w' uu ww d' d5 Q G5.inv G5.rel G2.val G5.val (Rep.mono (e3.trans G5.same) (e4.trans G5.pre) _ _ G2.rep) G5.rep (zB.base G5.same G5.pre af5)
theorem WH {op op':CmpOp}{g g':G2}(ho:OpD X (compareOp op) g)(ho':OpD X (compareOp op') g')(ha:PE X a (tD X fa))(hb:PE X b (tD X fb))(hc:PE X c (tD X fc))
  (hm:lastMarks [op,op'] [b,c]=false:=by with_unfolding_all rfl):PT X (.Compare a [op,op'] [b,c] pos) (tDT X (dTr (xH g g' fa fb fc))):=by
 intro pins s σ H Q I h
 obtain⟨P,α,env,S,r,re,af⟩:=h
 have af':qI X P α ((xH g g' fa fb fc env S).bind fun d S1=>vV (xO d S1) S1) (OkT X P α Q):=af
 have assoc:(xH g g' fa fb fc env S).bind (fun d S1=>vV (xO d S1) S1)=(fa env S).bind fun x S1=>(fb env S1).bind fun y S2=>(g x y S2).bind fun z S3 =>
   match xO z S3 with
   |some true=>((fc env S3).bind fun w S4=>g' y w S4).bind fun d S1=>vV (xO d S1) S1
   |some false=>.ok false S3
   |none=>.bad:=by
  unfold xH
  cases fa env S with
  |bad=>rfl
  |ex _ _ _=>rfl
  |ok x S1 =>
   show Res.bind (Res.bind (fb env S1) _) _=Res.bind (fb env S1) _
   cases fb env S1 with
   |bad=>rfl
   |ex _ _ _=>rfl
   |ok y S2 =>
    show Res.bind (Res.bind (g x y S2) _) _=Res.bind (g x y S2) _
    cases g x y S2 with
    |bad=>rfl
    |ex _ _ _=>rfl
    |ok z S3 =>
     show Res.bind (match xO z S3 with|some true=>(fc env S3).bind fun w S4=>g' y w S4|some false=>.ok z S3|none=>.bad) _=_
     cases ht:xO z S3 with
     |none=>simp only[ht,Res.bind]
     |some k=>cases k <;> simp only[ht,Res.bind,vV]
 rw[assoc] at af'
 refine isTrue_chain (thn (xA ha I r re af') fun vv s1 ⟨v,H1,P1,α1,d,S1,G1,af1⟩=>test_link (thn (xA hb G1.inv G1.rel G1.env (vD.base G1.same G1.pre af1)) fun uu s2 ⟨u,H2,P2,α2,d',S2,G2,af2⟩ =>
  thn (sK ho G2.inv G2.rel G1.val G2.val (Rep.mono G2.same G2.pre _ _ G1.rep) G2.rep (vD.base G2.same G2.pre af2)) fun w s3 ⟨y,H3,P3,α3,z,S3,I3,r3,rl3,rp3,e3,e4,af3⟩=>?_)) hm
 cases ht:xO z S3 with
 |none=>simp only[ht] at af3;exact False.elim af3
 |some k =>
  simp only[ht] at af3
  have tv:=j1 rl3 rp3 ht
  refine thn (pJ pins s3 σ H3 y w (fun k' H'=>k'=k∧H'=H3) I3 r3 ⟨k,tv,rfl,rfl⟩) fun k' s4 ⟨H4,I4,hk,hH⟩=>?_
  subst hk;subst hH
  cases k' with
  |false=>exact ite_ff ⟨H4,I4,af3 H4 P3 α3 rl3 e3 e4⟩
  |true =>
   have af4:qI X P2 α2 ((fc env S3).bind fun w S4=>(g' d' w S4).bind fun d S1=>vV (xO d S1) S1) (OkT X P2 α2 Q):=by
    have e:((fc env S3).bind fun w S4=>(g' d' w S4).bind fun d S1=>vV (xO d S1) S1)=(((fc env S3).bind fun w S4=>g' d' w S4).bind fun d S1=>vV (xO d S1) S1):=by
     cases fc env S3 <;> rfl
    rw[e];exact af3
   refine ite_tt (test_last (thn (xA hc I4 rl3 (G2.env.mono e3 e4) (vD.base e3 e4 af4)) fun ww s5 ⟨w',H5,P5,α5,d5,S5,G5,af5⟩ =>
    thn (sK ho' G5.inv G5.rel G2.val G5.val (Rep.mono (e3.trans G5.same) (e4.trans G5.pre) _ _ G2.rep) G5.rep (vD.base G5.same G5.pre af5)) fun x6 s6 ⟨y6,H6,P6,α6,d6,S6,I6,r6,rl6,rp6,e5,e6,af6⟩=>?_))
   obtain⟨k6,q6,z6⟩:=tN af6
   exact U2 I6 rl6 r6 rp6 q6 (z6 H6 P6 α6 rl6 e5 e6)
def zQ (t:DT):DT:=fun env S=>(t env S).bind fun b S1=>.ok (!b) S1
def w8 (t u:DT):DT:=fun env S=>(t env S).bind fun b S1=>if b then .ok true S1 else u env S1
theorem BG (ha:PT X a (tDT X ta)):PT X (.UnaryOp .Not a pos) (tDT X (zQ ta)):=by
 intro pins s σ H Q I h
 obtain⟨P,α,env,S,r,re,af⟩:=h
 refine isTrue_not (thn (fD (fun Q' q=>ha pins s σ H Q' I q) r re af) fun b s1 ⟨H1,P1,α1,S1,I1,r1,re1,e1,e2,af1⟩=>⟨H1,I1,af1 H1 P1 α1 r1 e1 e2⟩)
def PWD (X:Cx)(e:Expr)(t:DT):Prop:=PW X e (tDT X t)
theorem PWD.pt {t:DT}(h:PWD X e t):PT X e (tDT X t):=h _
theorem BI (ha:PT X a (tDT X ta)):PWD X (.BoolOp .Or [a] pos) ta:=M7 ha
theorem N2 {rest:List Expr}(ha:PT X a (tDT X ta))(hb:PWD X (.BoolOp .Or (b::rest) pos) tb):PWD X (.BoolOp .Or (a::b::rest) pos) (w8 ta tb):=by
 intro wh pins s σ H Q I h
 obtain⟨P,α,env,S,r,re,af⟩:=h
 refine isTrue_or (thn (fD (fun Q' q=>ha pins s σ H Q' I q) r re af) fun k s1 ⟨H1,P1,α1,S1,I1,r1,re1,e1,e2,af1⟩=>?_)
 cases k with
 |true=>exact⟨H1,I1,af1 H1 P1 α1 r1 e1 e2⟩
 |false=>exact hb wh pins s1 σ H1 Q I1 ⟨P1,α1,env,S1,r1,re1,vD.base e1 e2 af1⟩
def yN (f g:DE):DE:=fun env S=>(f env S).bind fun x S1=>match xO x S1 with
 |some true=>g env S1
 |some false=>.ok x S1
 |none=>.bad
def aJ (f:DE):DE:=fun env S=>(f env S).bind fun x S1=>match xO x S1 with
 |some b=>.ok (.bl (!b)) S1
 |none=>.bad
theorem PX {op} (h:PE X a (tD X fa)):PE X (.BoolOp op [a] pos) (tD X fa):=FV h
theorem MT {pins:List (Addr × Obj)}{s:Shared}{σ : _L.St}{H:Hp}{v:V}{vv:Value}{k:Bool}{R:Bool→Shared→Prop}(I:Inv X pins σ H s)(rv:qK v vv)(t:cZ X.K v H k)(h:∀ s',Inv X pins σ H s'→R k s') :
  wpAny (model X.prog X.w) X.A (truthy vv) R X.xe s:=thn (pJ pins s σ H v vv (fun k' H'=>k'=k∧H'=H) I rv ⟨k,t,rfl,rfl⟩) fun k' s4 ⟨H4,I4,hk,hH⟩=>by subst hk;subst hH;exact h s4 I4
theorem PN {rest:List Expr}(ha:PE X a (tD X fa))(hb:PE X (.BoolOp .And (b::rest) pos) (tD X fb)):PE X (.BoolOp .And (a::b::rest) pos) (tD X (yN fa fb)):=by
 intro pins s σ H Q I h
 obtain⟨P,α,env,S,r,re,af⟩:=h
 refine BoolOp_and (thn (xA ha I r re af) fun vv s1 ⟨v,H1,P1,α1,d,S1,G1,af1⟩=>?_)
 cases ht:xO d S1 with
 |none=>simp only[ht] at af1;exact False.elim af1
 |some k =>
  simp only[ht] at af1
  refine MT G1.inv G1.val (j1 G1.rel G1.rep ht) fun s2 I2=>?_
  cases k with
  |true=>exact hb pins s2 σ H1 Q I2 ⟨P1,α1,env,S1,G1.rel,G1.env,zB.base G1.same G1.pre af1⟩
  |false=>exact⟨v,H1,I2,G1.val,af1 v H1 P1 α1 G1.rel G1.same G1.pre G1.rep⟩
theorem PV (ha:PE X a (tD X fa)):PE X (.UnaryOp .Not a pos) (tD X (aJ fa)):=by
 intro pins s σ H Q I h
 obtain⟨P,α,env,S,r,re,af⟩:=h
 refine UnaryOp_ (thn (xA ha I r re af) fun vv s1 ⟨v,H1,P1,α1,d,S1,G1,af1⟩=>?_)
 cases ht:xO d S1 with
 |none=>simp only[ht] at af1;exact False.elim af1
 |some k =>
  simp only[ht] at af1
  exact not_of (MT G1.inv G1.val (j1 G1.rel G1.rep ht) fun s2 I2=>⟨.bl (!k),H1,I2,rfl,af1 (.bl (!k)) H1 P1 α1 G1.rel G1.same G1.pre (by simp only[Rep])⟩)
def dIf (t:DT)(f g:DE):DE:=fun env S=>(t env S).bind fun b S1=>if b then f env S1 else g env S1
theorem TQ (hc:PT X c (tDT X ta))(ha:PE X a (tD X fa))(hb:PE X b (tD X fb)):PE X (.IfExp c a b pos) (tD X (dIf ta fa fb)):=by
 intro pins s σ H Q I h
 obtain⟨P,α,env,S,r,re,af⟩:=h
 refine wpAny_IfExp (thn (fD (fun Q' q=>hc pins s σ H Q' I q) r re af) fun k s1 ⟨H1,P1,α1,S1,I1,r1,re1,e1,e2,af1⟩=>?_)
 cases k with
 |true=>exact ha pins s1 σ H1 Q I1 ⟨P1,α1,env,S1,r1,re1,zB.base e1 e2 af1⟩
 |false=>exact hb pins s1 σ H1 Q I1 ⟨P1,α1,env,S1,r1,re1,zB.base e1 e2 af1⟩
end
end _D
end
section
namespace _D
open PySem PySem.Spec PyProof.Rows _L
@[inline] def Res.toS {β : Type}(env:qE)(r:Res β)(k:β→Sto→Out):Out:=
 match r with
 |.ok d S=>k d S
 |.ex c x S=>.ex c x env S
 |.bad=>.bad
section
variable {X:Cx}{a b c e:Expr}{pos:Pos}{fa fb fc:DE}{ta tb:DT}{f g:DS}{st:Stmt}{rest:List Stmt}
def zI:DS:=fun env S=>.nx env S
def qN (f g:DS):DS:=fun env S=>match f env S with
 |.nx env1 S1=>g env1 S1
 |o=>o
theorem B9:PSs X [] (tDS X zI):=M5 KY fun D σ H ⟨P,α,env,S,r,re,af⟩=>af σ H P α r re (qH.refl _) (List.prefix_refl _)
theorem JA (h1:PS X st (tDS X f))(h2:PSs X rest (tDS X g)):PSs X (st::rest) (tDS X (qN f g)):=M5 (Y8 h1 h2) fun D σ H ⟨P,α,env,S,r,re,af⟩=>by
 refine⟨P,α,env,S,r,re,?_⟩
 unfold qN at af
 cases q:f env S with
 |nx env1 S1 =>
  rw[q] at af
  exact fun σ' H' P' α' r' re' e1 e2=>⟨P',α',env1,S1,r',re',zJ.base e1 e2 af⟩
 |rt d S1=>rw[q] at af;exact af
 |bk env1 S1=>rw[q] at af;exact af
 |ct env1 S1=>rw[q] at af;exact af
 |ex c x env1 S1=>rw[q] at af;exact af
 |bad=>rw[q] at af;exact af
theorem BA (h1:PS X st (tDS X f)):PSs X [st] (tDS X f):=KZ h1
theorem yF {β : Type}{P:Hp}{α : List Addr}{env:qE}{r:Res β}{k:β→Sto→Out}{D:Ends}(h:zJ X P α (r.toS env k) D):qI X P α r fun d S=>zJ X P α (k d S) D:=by
 cases r with
 |ok d S=>exact h
 |ex c x S=>exact h
 |bad=>exact h
inductive GotS (X:Cx)(pins:List (Addr × Obj))(σ : _L.St)(env:qE)(P:Hp)(α : List Addr)(u:Value)(s1:Shared)(k:D→Sto→Out)(E:Ends):Prop
 |mk (v:V) (H1 P1:Hp) (α1:List Addr) (d:D) (S1:Sto) (G:Got X pins σ env P α u s1 v H1 P1 α1 d S1) (q:zJ X P1 α1 (k d S1) E):GotS X pins σ env P α u s1 k E
theorem fB {k:D→Sto→Out}{pins:List (Addr × Obj)}{s:Shared}{σ : _L.St}{H P:Hp}{α : List Addr}{env:qE}{S:Sto}{D:Ends}(he:PE X e (tD X fa))(I:Inv X pins σ H s)(r:Rel X.K H P α S)
  (re:zC X.K P α σ env) (af:zJ X P α ((fa env S).toS env k) D) :
  wpAny (model X.prog X.w) X.A (eval e X.env) (fun u s1=>GotS X pins σ env P α u s1 k D) X.xe s:=by
 have af1:qI X P α ((fa env S).bind fun d S=>.ok d S) fun d S=>zJ X P α (k d S) D:=by
  have:=yF af
  cases q:fa env S <;> rw[q] at this <;> exact this
 exact thn (xA he I r re af1) fun u s1 ⟨v,H1,P1,α1,d,S1,G,q⟩=>⟨v,H1,P1,α1,d,S1,G,zJ.base G.same G.pre q⟩
def w6 (f:DE):DS:=fun env S=>(f env S).toS env fun _ S1=>.nx env S1
theorem JB (he:PE X e (tD X fa))(hs:swapsWith e none pos.line X.env=pure false:=by rfl):PS X (.Expr e pos) (tDS X (w6 fa)):=by
 intro pins s σ H D I h
 obtain⟨P,α,env,S,r,re,af⟩:=h
 exact wpAny_Expr_any (thn (fB he I r re af) fun v s1 ⟨x,H1,P1,α1,d,S1,G,q⟩=>⟨σ,H1,G.inv,q σ H1 P1 α1 G.rel G.env (qH.refl _) (List.prefix_refl _)⟩) I.quiet hs
def qW (f:DE):DS:=fun env S=>(f env S).toS env fun d S1=>.rt d S1
theorem BC (he:PE X e (tD X fa)):PS X (.Return (some e) pos) (tDS X (qW fa)):=by
 intro pins s σ H D I h
 obtain⟨P,α,env,S,r,re,af⟩:=h
 exact wpAny_Return_some (thn (fB he I r re af) fun v s1 ⟨x,H1,P1,α1,d,S1,G,q⟩=>⟨x,σ,H1,G.inv,G.val,q x H1 P1 α1 G.rel (qH.refl _) (List.prefix_refl _) G.rep⟩)
def sIf (t:DT)(f g:DS):DS:=fun env S=>(t env S).toS env fun b S1=>if b then f env S1 else g env S1
theorem TZ {c:Expr}{as bs:List Stmt}(hc:PT X c (tDT X ta))(ha:PSs X as (tDS X f))(hb:PSs X bs (tDS X g)):PS X (.If c as bs pos) (tDS X (sIf ta f g)):=by
 intro pins s σ H D I h
 obtain⟨P,α,env,S,r,re,af⟩:=h
 have af1:qI X P α ((ta env S).bind fun d S=>.ok d S) fun b S=>zJ X P α (if b then f env S else g env S) D:=by
  have:=yF af
  cases q:ta env S <;> rw[q] at this <;> exact this
 refine wpAny_If (thn (fD (fun Q' q=>hc pins s σ H Q' I q) r re af1) fun k s1 ⟨H1,P1,α1,S1,I1,r1,re1,e1,e2,af2⟩=>?_)
 cases k with
 |true=>exact ha pins s1 σ H1 D I1 ⟨P1,α1,env,S1,r1,re1,zJ.base e1 e2 af2⟩
 |false=>exact hb pins s1 σ H1 D I1 ⟨P1,α1,env,S1,r1,re1,zJ.base e1 e2 af2⟩
abbrev DG:=D→qE→Sto→Res qE
abbrev DGs:=List D→qE→Sto→Res qE
def OkE (X:Cx)(P:Hp)(α : List Addr)(Q:_L.St→Hp→Prop)(env':qE)(S':Sto):Prop:=∀ σ' H' P' α',Rel X.K H' P' α' S'→zC X.K P' α' σ' env'→qH P P'→α<+:α'→Q σ' H'
def tDG (X:Cx)(g:DG):TG:=fun v σ H Q=>∃ P α env S d,Rel X.K H P α S∧zC X.K P α σ env∧Rep X.K P α d v∧qI X P α (g d env S) (OkE X P α Q)
def rD (X:Cx)(g:DGs):TGs:=fun vs σ H Q=>∃ P α env S ds,Rel X.K H P α S∧zC X.K P α σ env∧qF X.K P α ds vs∧qI X P α (g ds env S) (OkE X P α Q)
theorem zC.set {K:PySem.W.Frag}{P:Hp}{α : List Addr}{σ : _L.St}{env:qE}{d:D}{v:V}(re:zC K P α σ env)(i:Nat)(rp:Rep K P α d v):zC K P α (σ.set i (some v)) (env.set i (some d)):=by
 refine⟨by simp[re.1],fun j d' e=>?_⟩
 by_cases hj:i=j
 ·subst hj
  by_cases hi:i<env.length
  ·rw[List.getElem?_set_self hi] at e
   cases e
   exact⟨v,by rw[List.getElem?_set_self (by rw[← re.1];exact hi)],rp⟩
  ·rw[List.getElem?_eq_none (by simp;omega)] at e;cases e
 ·rw[List.getElem?_set_ne hj] at e ⊢
  exact re.2 j d' e
def gNm (i:Nat):DG:=fun d env S=>.ok (env.set i (some d)) S
theorem J2 {i:Nat}{x:Str}(hN:X.N.Nodup)(hi:X.N[i]? = some x:=by rfl)(hx:Loc X.env.scope x:=by first|exact Or.inl rfl|exact Or.inr rfl)(hf:X.fn x=true∨X.env.scope.names.lookup x=some .local:=by first|exact .inl rfl|exact .inr rfl|assumption):PG X (.Name x pos) (tDG X (gNm i)):=by
 intro pins s σ H v u Q I rv h
 obtain⟨P,α,env,S,d,r,re,rp,af⟩:=h
 exact KP hN hi hx hf pins s σ H v u Q I rv (af _ H P α r (re.set i rp) (qH.refl _) (List.prefix_refl _))
def zR:DGs:=fun ds env S=>match ds with
 |[]=>.ok env S
 |_=>.bad
def qM (g:DG)(gs:DGs):DGs:=fun ds env S=>match ds with
 |d::r=>(g d env S).bind fun env1 S1=>gs r env1 S1
 |[]=>.bad
theorem J3:PGs X [] (rD X zR):=by
 intro pins s σ H vs us Q I rv h
 obtain⟨P,α,env,S,ds,r,re,rp,af⟩:=h
 cases ds with
 |nil=>exact KQ pins s σ H vs us Q I rv ⟨rp.nil_inv,af σ H P α r re (qH.refl _) (List.prefix_refl _)⟩
 |cons d ds=>exact False.elim af
theorem WB {es:List Expr}{g:DG}{gs:DGs}(h1:PG X e (tDG X g))(h2:PGs X es (rD X gs))(hs:(assignEach (e::es) X.env).map (·.2)=assign e X.env::(assignEach es X.env).map (·.2):=by rfl):PGs X (e::es) (rD X (qM g gs)):=by
 intro pins s σ H vs us Q I rv h
 obtain⟨P,α,env,S,ds,r,re,rp,af⟩:=h
 cases ds with
 |nil=>exact False.elim af
 |cons d ds =>
  obtain⟨w,ws,rfl,p1,p2⟩:=rp.cons_inv
  refine Y6 h1 h2 hs pins s σ H _ us Q I rv ⟨w,ws,rfl,P,α,env,S,d,r,re,p1,?_⟩
  have af':qI X P α ((g d env S).bind fun env1 S1=>gs ds env1 S1) (OkE X P α Q):=af
  cases q:g d env S with
  |bad=>rw[q] at af';exact af'
  |ex c x S'=>rw[q] at af';exact af'
  |ok env1 S1 =>
   rw[q] at af'
   intro σ' H' P' α' r' re' e1 e2
   refine⟨P',α',env1,S1,ds,r',re',qF.mono e1 e2 _ _ p2,qI.base' e1 e2 (fun env' S' ok σ2 H2 P2 α2 r2 re2 e3 e4=>ok σ2 H2 P2 α2 r2 re2 (e1.trans e3) (e2.trans e4)) af'⟩
def gTp (n:Nat)(gs:DGs):DG:=fun d env S=>match d with
 |.tup xs=>if xs.length=n then gs xs env S else .bad
 |_=>.bad
set_option tactic.hygienic true in
theorem B3 {es:List Expr}{k:Nat}{gs:DGs}{n:Nat}(hc:X.calm=true)(h:PGs X es (rD X gs))(hn:(assignEach es X.env).length=n:=by rfl)(hst:(assignEach es X.env).findIdx? (·.1)=none:=by rfl):PG X (.Tuple es k pos) (tDG X (gTp n gs)):=by
 intro pins s σ H v u Q I rv hw
 obtain⟨P,α,env,S,d,r,re,rp,af⟩:=hw
 cases d with
 |tup xs =>
  simp only[Rep] at rp
  obtain⟨a,vs,rfl,q,t⟩:=rp
  simp only[gTp] at af
  split at af
  ·rename_i hl
   exact FZ hc h hn hst pins s σ H _ u Q I rv ⟨a,vs,rfl,wB r.sub q,by rw[← t.length];exact hl,P,α,env,S,xs,r,re,t,af⟩
  ·exact False.elim af
 |_=>exact False.elim af
abbrev G3:=D→D→D→Sto→Res Unit
def OkU (X:Cx)(P:Hp)(α : List Addr)(Q:Hp→Prop)(_:Unit)(S':Sto):Prop:=∀ H' P' α',Rel X.K H' P' α' S'→qH P P'→α<+:α'→Q H'
def lS (X:Cx)(g:G3):XR:=fun o i v H Q=>∃ P α S a b d,Rel X.K H P α S∧Rep X.K P α a o∧Rep X.K P α b i∧Rep X.K P α d v∧qI X P α (g a b d S) (OkU X P α Q)
def gSb (fo fi:DE)(g:G3):DG:=fun d env S=>(fo env S).bind fun o S1=>(fi env S1).bind fun i S2=>(g o i d S2).bind fun _ S3=>.ok env S3
theorem B2 {o i:Expr}{fo fi:DE}{g:G3}(ho:PE X o (tD X fo))(hi:PE X i (tD X fi))(hs:lU X (lS X g))
  (ha:∀ v,assign (.Subscript o i pos) X.env v=(do
   let ov ← holding [v] (eval o X.env)
   let iv ← holding [v,ov] (eval i X.env)
   standAt pos
   holding [v,ov,iv] (setItem ov iv v)
   release [v,ov,iv] []):=by intro _;rfl):PG X (.Subscript o i pos) (tDG X (gSb fo fi g)):=by
 intro pins s σ H v u Q I rv h
 obtain⟨P,α,env,S,d,r,re,rp,af⟩:=h
 rw[ha]
 refine wpAny_bind (wpAny_holding (thn (xA ho I r re af) fun ov s1 ⟨x,H1,P1,α1,d1,S1,G1,af1⟩=>?_))
 refine wpAny_bind (wpAny_holding (thn (xA hi G1.inv G1.rel G1.env (P:=P1) (α:=α1) (Ok:=OkE X P1 α1 Q) (qI.base' G1.same G1.pre (fun env' S' ok σ2 H2 P2 α2 r2 re2 e3 e4=>ok σ2 H2 P2 α2 r2 re2 (G1.same.trans e3) (G1.pre.trans e4)) af1)) fun iv s2 ⟨y,H2,P2,α2,d2,S2,G2,af2⟩=>?_))
 refine wpAny_bind (wpAny_standAt (wpAny_bind (wpAny_holding (thn (hs pins s2 σ H2 x y v ov iv u (fun H3=>Q σ H3) G2.inv G1.val G2.val rv ⟨P2,α2,S2,d1,d2,d,G2.rel,Rep.mono G2.same G2.pre _ _ G1.rep,G2.rep,Rep.mono (G1.same.trans G2.same) (G1.pre.trans G2.pre) _ _ rp,?_⟩) fun _ s3 ⟨H3,I3,q3⟩=>?_))))
 ·cases q:g d1 d2 d S2 with
  |bad=>rw[q] at af2;exact af2
  |ex c x S'=>rw[q] at af2;exact fun u s' z=>af2 u s' (z.base G2.same G2.pre)
  |ok w S3 =>
   rw[q] at af2
   exact fun H' P' α' r' e1 e2=>af2 σ H' P' α' r' (G2.env.mono e1 e2) (G2.same.trans e1) (G2.pre.trans e2)
 ·exact wpAny_release ⟨σ,H3,I3,q3⟩
def zG (f:DE)(g:DG):DS:=fun env S=>(f env S).toS env fun d S1=>(g d env S1).toS env fun env' S2=>.nx env' S2
theorem iZ {g:DG}{d:D}{env:qE}{S:Sto}{P:Hp}{α : List Addr}{D':Ends}(h:zJ X P α ((g d env S).toS env fun env' S2=>.nx env' S2) D'):qI X P α (g d env S) (OkE X P α D'.nx):=by
 cases q:g d env S with
 |bad=>rw[q] at h;exact h
 |ex c x S'=>rw[q] at h;exact h
 |ok env1 S1=>rw[q] at h;exact h
theorem B7 {tg e:Expr}{g:DG}(he:PE X e (tD X fa))(hg:PG X tg (tDG X g))(hs:swapsWithSole [tg] e pos.line X.env=pure false:=by rfl)(hw:swappedStores [tg] e X.env=pure none:=by rfl)
  (h1:(assignEach [tg] X.env).map (·.2)=[assign tg X.env]:=by rfl):PS X (.Assign [tg] e pos) (tDS X (zG fa g)):=by
 intro pins s σ H D I h
 obtain⟨P,α,env,S,r,re,af⟩:=h
 refine wpAny_Assign_stores (thn (fB he I r re af) fun v s1 ⟨x,H1,P1,α1,d,S1,G,q⟩=>?_) hs hw
 rw[h1]
 exact thn (hg pins s1 σ H1 x v _ G.inv G.val ⟨P1,α1,env,S1,d,G.rel,G.env,G.rep,iZ q⟩) fun _ s2 q=>q
theorem BD {i:Nat}{x:Str}{e:Expr}{pos':Pos}(hN:X.N.Nodup)(he:PE X e (tD X fa))(hi:X.N[i]? = some x:=by rfl)(hx:Loc X.env.scope x:=by first|exact Or.inl rfl|exact Or.inr rfl)(hs:swapsWith e (some (.Name x pos')) pos.line X.env=pure false:=by rfl)
  (hf:X.fn x=true∨X.env.scope.names.lookup x=some .local:=by first|exact .inl rfl|exact .inr rfl|assumption):PS X (.Assign [.Name x pos'] e pos) (tDS X (zG fa (gNm i))):=by
 intro pins s σ H D I h
 obtain⟨P,α,env,S,r,re,af⟩:=h
 refine wpAny_Assign_Name (thn (fB he I r re af) fun v s1 ⟨y,H1,P1,α1,d,S1,G,q⟩=>?_) hs
 exact yE G.inv hN hi hx G.val (fun s2 I2=>⟨_,H1,I2,q _ H1 P1 α1 G.rel (G.env.set i G.rep) (qH.refl _) (List.prefix_refl _)⟩) hf
def sN (i j:Nat)(env:qE)(S1:Sto):List D→Out
 |[x,y]=>.nx ((env.set i (some x)).set j (some y)) S1
 |_=>.bad
def pI (i j:Nat)(f:DA):DS:=fun env S=>(f env S).toS env fun ds S1=>sN i j env S1 ds
theorem BB {i j:Nat}{x y:Str}{a b:Expr}{f:DA}{px py pt:Pos} {kt k2 pt2} (hc:X.calm=true) (hN:X.N.Nodup) (ha:PA X [a,b] (tDA X f)) (hi:X.N[i]? = some x:=by rfl) (hj:X.N[j]? = some y:=by rfl) (hij:i≠j:=by decide)
  (hx:X.env.scope.names.lookup x=some .local:=by rfl) (hy:X.env.scope.names.lookup y=some .local:=by rfl)
  (hw:swappedStores [.Tuple [.Name x px,.Name y py] kt pt] (.Tuple [a,b] k2 pt2) X.env=pure (some [x,y]):=by rfl)
  (hs:swapsWithSole [.Tuple [.Name x px,.Name y py] kt pt] (.Tuple [a,b] k2 pt2) pos.line X.env=pure false:=by rfl) :
  PS X (.Assign [.Tuple [.Name x px,.Name y py] kt pt] (.Tuple [a,b] k2 pt2) pos) (tDS X (pI i j f)):=psW (M4 hc hN hi hj hij hx hy ha hw hs) fun D σ H ⟨P,α,env,S,r,re,af⟩=>by
 refine⟨P,α,env,S,r,re,?_⟩
 have af1:=yF af
 cases q:f env S with
 |bad=>rw[q] at af1;exact af1
 |ex c x S'=>rw[q] at af1;exact af1
 |ok ds S1 =>
  rw[q] at af1
  intro vs H' P' α' r' e1 e2 rp
  have af2:zJ X P α (sN i j env S1 ds) D:=af1
  cases ds with
  |nil=>exact False.elim af2
  |cons d ds=>cases ds with
   |nil=>exact False.elim af2
   |cons d' ds=>cases ds with
    |cons _ _=>exact False.elim af2
    |nil =>
     obtain⟨w,ws,rfl,p1,t⟩:=rp.cons_inv
     obtain⟨w',ws',rfl,p2,t⟩:=t.cons_inv
     rw[t.nil_inv]
     exact⟨w,w',rfl,af2 _ _ P' α' r' (((re.mono e1 e2).set i p1).set j p2) e1 e2⟩
end
end _D
end
section
namespace _D
open PySem PySem.Spec PyProof.Rows _L
structure ItD (K:PySem.W.Frag)(J:It)(P:Hp)(α : List Addr)(ds:List D):Prop where
 go:∀ i H P1 α1 S,i<ds.length→Rel K H P1 α1 S→qH P P1→α<+:α1→J.go i H
 yld:∀ i H x H' P1 α1 S,i<ds.length→Rel K H P1 α1 S→qH P P1→α<+:α1→J.yld i H x H'→∃ P2 d,ds[i]? = some d∧Rel K H' P2 α1 S∧qH P1 P2∧Rep K P2 α1 d x
 stop:∀ i H P1 α1 S,ds.length≤i→Rel K H P1 α1 S→qH P P1→α<+:α1→J.stop i H
abbrev DI:=qE→Sto→Res (List D)
def OkI (X:Cx)(P:Hp)(α : List Addr)(R:It→Hp→Prop)(ds:List D)(S':Sto):Prop:=∀ J H' P' α',Rel X.K H' P' α' S'→qH P P'→α<+:α'→ItD X.K J P' α' ds→R J H'
inductive tDI (X:Cx)(f:DI)(σ : _L.St)(H:Hp)(R:It→Hp→Prop):Prop
 |mk (P:Hp) (α : List Addr) (env:qE) (S:Sto) (r:Rel X.K H P α S) (re:zC X.K P α σ env) (af:qI X P α (f env S) (OkI X P α R)):tDI X f σ H R
def v7 {β : Type}(o:Option β)(S:Sto):Res β:=match o with
 |some b=>.ok b S
 |none=>.bad
theorem j0 {X:Cx}{β : Type}{o:Option β}{S:Sto}{P:Hp}{α : List Addr}{Ok:β→Sto→Prop}(h:qI X P α (v7 o S) Ok):∃ b,o=some b∧Ok b S:=by
 cases o with
 |none=>exact False.elim h
 |some b=>exact⟨b,rfl,h⟩
theorem p9 {X:Cx}{β : Type}{c:Prop}[Decidable c]{r:Res β}{P:Hp}{α : List Addr}{Ok:β→Sto→Prop}(h:qI X P α (if c then r else .bad) Ok):c∧qI X P α r Ok:=by
 by_cases z:c
 ·rw[if_pos z] at h;exact⟨z,h⟩
 ·rw[if_neg z] at h;exact False.elim h
theorem sJ {X:Cx}{β : Type}{ds:List D}{g:D→Res β}{P:Hp}{α : List Addr}{Ok:β→Sto→Prop}(h:qI X P α (match ds with|[d]=>g d|_=>.bad) Ok):∃ d,ds=[d]∧qI X P α (g d) Ok:=by
 cases ds with
 |nil=>exact False.elim h
 |cons d ds =>
  cases ds with
  |nil=>exact⟨d,rfl,h⟩
  |cons _ _=>exact False.elim h
theorem tG {β : Type}{S:Sto}{i:Nat}{f:List D→Option β}{g:List (Key × D)→Option β}{b:β}(h:(match S[i]? with|some (.lst xs)=>f xs|some (.dct kvs)=>g kvs|_=>none)=some b):(∃ xs,S[i]? = some (.lst xs)∧f xs=some b)∨∃ kvs,S[i]? = some (.dct kvs)∧g kvs=some b:=by
 cases e:S[i]? with
 |none=>rw[e] at h;exact nn h
 |some m =>
  rw[e] at h
  cases m with
  |lst xs=>exact .inl ⟨xs,rfl,h⟩
  |dct kvs=>exact .inr ⟨kvs,rfl,h⟩
  |_=>exact nn h
theorem F6 {β : Type}{S:Sto}{i:Nat}{f:List D→Option β}{b:β}(h:(match S[i]? with|some (.lst xs)=>f xs|_=>none)=some b):∃ xs,S[i]? = some (.lst xs)∧f xs=some b:=by
 cases e:S[i]? with
 |none=>rw[e] at h;exact nn h
 |some m =>
  rw[e] at h
  cases m with
  |lst xs=>exact⟨xs,rfl,h⟩
  |_=>exact nn h
inductive ItV (d:D)(xs:List D):Prop
 |tup (e:d=.tup xs)
 |lst (e:d=.lst xs)
def VJ {β : Type}(S:Sto)(n:Nat)(f:List D→Res β) : Res β:=match S[n]? with
 |some (.lst xs)=>f xs
 |_=>.bad
theorem gA {X:Cx}{β : Type}{S:Sto}{n:Nat}{f:List D→Res β}{P:Hp}{α : List Addr}{Ok:β→Sto→Prop}(h:qI X P α (VJ S n f) Ok):∃ xs,S[n]? = some (.lst xs)∧qI X P α (f xs) Ok:=by
 unfold VJ at h
 cases e:S[n]? with
 |none=>rw[e] at h;exact False.elim h
 |some m =>
  rw[e] at h
  cases m with
  |lst xs=>exact⟨xs,rfl,h⟩
  |_=>exact False.elim h
def xB:D→Option (List D)
 |.tup xs=>some xs
 |.lst xs=>some xs
 |_=>none
theorem itV {d:D}{xs:List D}(h:xB d=some xs):ItV d xs:=by
 cases d with
 |tup ys=>exact .tup (congrArg D.tup (Option.some.inj h))
 |lst ys=>exact .lst (congrArg D.lst (Option.some.inj h))
 |_=>exact nn h
def yP (f:DE):DI:=fun env S=>(f env S).bind fun d S1=>v7 (xB d) S1
section
variable {X:Cx}{K:PySem.W.Frag}{tg e:Expr}{fa:DE}{pos:Pos}
theorem WR {P:Hp}{α : List Addr}{a:Addr}{ds:List D}{vs:List V}(q:SqL K P a vs)(t:qF K P α ds vs):ItD K (Itl K a) P α ds where
 go:=fun i H P1 α1 S hi r e _=>⟨vs,vs[i]'(by rw[← t.length];exact hi),(e.trans r.sub).seq q,by simp⟩
 yld:=fun i H x H' P1 α1 S hi r e e2 y=>by
  obtain⟨rfl,y⟩:=y
  have hx:=y vs ((e.trans r.sub).seq q)
  obtain⟨v,h1,h2⟩:=t.get (List.getElem?_eq_getElem hi)
  rw[hx] at h1;cases h1
  exact⟨P1,_,List.getElem?_eq_getElem hi,r,qH.refl _,Rep.mono e e2 _ _ h2⟩
 stop:=fun i H P1 α1 S hi r e _=>⟨vs,(e.trans r.sub).seq q,by rw[← t.length];exact hi⟩
theorem JV {P:Hp}{α : List Addr}{a:Addr}{ds:List D}{vs:List V}(q:SqT K P a vs)(t:qF K P α ds vs):ItD K (Itt K a) P α ds where
 go:=fun i H P1 α1 S hi r e _=>⟨vs,vs[i]'(by rw[← t.length];exact hi),uG (e.trans r.sub) q,by simp⟩
 yld:=fun i H x H' P1 α1 S hi r e e2 y=>by
  obtain⟨rfl,y⟩:=y
  have hx:=y vs (uG (e.trans r.sub) q)
  obtain⟨v,h1,h2⟩:=t.get (List.getElem?_eq_getElem hi)
  rw[hx] at h1;cases h1
  exact⟨P1,_,List.getElem?_eq_getElem hi,r,qH.refl _,Rep.mono e e2 _ _ h2⟩
 stop:=fun i H P1 α1 S hi r e _=>⟨vs,uG (e.trans r.sub) q,by rw[← t.length];exact hi⟩
theorem dO {pins:List (Addr × Obj)}{σ : _L.St}{H P:Hp}{α : List Addr}{S:Sto}{s:Shared}{v:V}{vv:Value}{d:D}{ds:List D}{R:It→Hp→Prop}(I:Inv X pins σ H s)(r:Rel X.K H P α S)(rv:qK v vv)(rp:Rep X.K P α d v)(hd:xB d=some ds)
  (q:OkI X P α R ds S):wpAny (model X.prog X.w) X.A (pyIter vv) (PIE X pins σ tg R) X.xe s:=by
 cases d with
 |tup xs =>
  cases hd
  simp only[Rep] at rp
  obtain⟨a,vs,rfl,sq,t⟩:=rp
  cases rv
  obtain⟨its,rv,p,hz⟩:=I.tuple (wB r.sub sq)
  refine wpAny_pyIter_tuple (show s.heap.IsTuple a its.toArray from p) ?_
  refine⟨s.heap.objs.size,[s.heap.objs.size],_,_,H,rfl,I.kept (t':=s.toks) fun b o e=>Heap.get?_push_of_some _ e,iT a _,⟨_,Heap.get?_push_size _ rfl,rfl,rfl⟩,fun b hb=>?_,q _ _ P α r (qH.refl _) (List.prefix_refl _) (JV sq t)⟩
  have e:b=s.heap.objs.size:=by simpa using hb
  subst e
  exact I.fpOk (Nat.le_refl _) (I.hok.fresh (Nat.le_refl _))
 |lst xs =>
  cases hd
  simp only[Rep] at rp
  obtain⟨a,vs,rfl,sq,t⟩:=rp
  cases rv
  obtain⟨its,rv,p,hz⟩:=I.list ((w4 r.sub sq).l)
  refine wpAny_pyIter_list p.isList ?_
  refine⟨s.heap.objs.size,[s.heap.objs.size],_,_,H,rfl,I.kept (t':=s.toks) fun b o e=>Heap.get?_push_of_some _ e,lE a _,⟨_,Heap.get?_push_size _ rfl,rfl,rfl⟩,fun b hb=>?_,q _ _ P α r (qH.refl _) (List.prefix_refl _) (WR sq.l t)⟩
  have e:b=s.heap.objs.size:=by simpa using hb
  subst e
  exact I.fpOk (Nat.le_refl _) (I.hok.fresh (Nat.le_refl _))
 |_=>cases hd
theorem OkI.base {P P1:Hp}{α α1:List Addr}{R:It→Hp→Prop}{ds:List D}{S:Sto}(e:qH P P1)(h:α<+:α1)(k:OkI X P α R ds S):OkI X P1 α1 R ds S:=fun J H' P' α' r q1 q2 q3=>k J H' P' α' r (e.trans q1) (h.trans q2) q3
theorem B4 (ha:PE X e (tD X fa)):PI X tg e (tDI X (yP fa)):=by
 intro pins s σ H R I h
 obtain⟨P,α,env,S,r,re,af⟩:=h
 refine thn (xA ha I r re af) fun vv s1 ⟨v,H1,P1,α1,d,S1,G1,af1⟩=>?_
 obtain⟨ds,e1,q⟩:=j0 af1
 exact dO G1.inv G1.rel G1.val G1.rep e1 (q.base G1.same G1.pre)
def wN (lo:Int)(n:Nat):List D:=(List.range n).map fun (i:Nat)=>D.int (lo+(i:Int))
theorem gE (lo:Int)(n:Nat):(wN lo n).length=n:=by simp[wN]
theorem nJ {P:Hp}{α : List Addr}{lo:Int}{n:Nat}:ItD K (Itr lo n) P α (wN lo n) where
 go:=fun i H P1 α1 S hi r e _=>by rw[gE] at hi;exact hi
 yld:=fun i H x H' P1 α1 S hi r e e2 y=>by
  obtain⟨rfl,rfl⟩:=y
  rw[gE] at hi
  exact⟨P1,.int (lo+i),by simp[wN,hi],r,qH.refl _,by simp only[Rep]⟩
 stop:=fun i H P1 α1 S hi r e _=>by rw[gE] at hi;exact hi
def pG (ds:List D):Option (List D):=match ds with
 |[.int j]=>if -(2 ^ 62)≤j∧j<2 ^ 62 then some (wN 0 j.toNat) else none
 |[.int i,.int j]=>if -(2 ^ 62)≤i∧i<2 ^ 62 ∧ -(2 ^ 62)≤j∧j<2 ^ 62 then some (wN i (j-i).toNat) else none
 |_=>none
def vK (f:DA):DI:=fun env S=>(f env S).bind fun ds S1=>v7 (pG ds) S1
def asI:D→Option Int
 |.int i=>some i
 |_=>none
theorem bG {d:D}{i:Int}(h:asI d=some i):d=.int i:=by
 cases d with
 |int k=>exact congrArg D.int (Option.some.inj h)
 |_=>exact nn h
inductive RngV:List D→List D→Prop
 |one (j:Int) (h : -(2 ^ 62)≤j∧j<2 ^ 62):RngV [.int j] (wN 0 j.toNat)
 |two (i j:Int) (h : -(2 ^ 62)≤i∧i<2 ^ 62 ∧ -(2 ^ 62)≤j∧j<2 ^ 62):RngV [.int i,.int j] (wN i (j-i).toNat)
theorem NY (d:D):pG [d]=(asI d).bind fun j=>if -(2 ^ 62)≤j∧j<2 ^ 62 then some (wN 0 j.toNat) else none:=by cases d <;> rfl
theorem NZ (d d':D):pG [d,d']=(asI d).bind fun i=>(asI d').bind fun j=>if -(2 ^ 62)≤i∧i<2 ^ 62 ∧ -(2 ^ 62)≤j∧j<2 ^ 62 then some (wN i (j-i).toNat) else none:=by
 cases d with
 |int i=>cases d' <;> rfl
 |_=>rfl
theorem G9 {ds its:List D}(h:pG ds=some its):RngV ds its:=by
 cases ds with
 |nil=>exact nn h
 |cons d ds =>
  cases ds with
  |nil =>
   obtain⟨j,e,h⟩:=Option.bind_eq_some_iff.mp ((NY d).symm.trans h)
   obtain⟨c,rfl⟩:=g6 h
   rw[bG e]
   exact .one j c
  |cons d' ds =>
   cases ds with
   |nil =>
    obtain⟨i,e,h⟩:=Option.bind_eq_some_iff.mp ((NZ d d').symm.trans h)
    obtain⟨j,e',h⟩:=Option.bind_eq_some_iff.mp h
    obtain⟨c,rfl⟩:=g6 h
    rw[bG e,bG e']
    exact .two i j c
   |cons _ _ =>
    have h0:∀ d'' t,pG (d::d'::d''::t)=none:=fun d'' t=>by cases d <;> first|rfl|(cases d' <;> rfl)
    exact nn ((h0 _ _).symm.trans h)
theorem tM {K:PySem.W.Frag}{P:Hp}{α : List Addr}{i:Int}{vs:List V}{ds:List D}(r:qF K P α (.int i::ds) vs):∃ ws,vs=.int i::ws∧qF K P α ds ws:=by
 obtain⟨w,ws,rfl,p,t⟩:=r.cons_inv
 exact⟨ws,congrArg (· :: ws) (by simpa only [Rep] using p),t⟩
theorem PI.weak {iter:Expr}{t t':TI}(h:PI X tg iter t)(w:∀ σ H R,t' σ H R→t σ H R):PI X tg iter t':=fun pins s σ H R I q=>h pins s σ H R I (w σ H R q)
end
section
variable {X:Cx}{tg a b:Expr}{f:DA}{p pos:Pos}
theorem WC {e:Expr}{es:List Expr}(hg:Gl X "range")(hm:X.mg "range" = none)(ha:PA X (e::es) (tDA X f))(hs:starEach (e::es) X.env=(false,eval e X.env)::starEach es X.env:=by rfl)(hpl:(backTo pos (starEach es X.env)).any (·.1)=false:=by rfl) :
  PI X tg (.Call (.Name "range" p) (e::es) [] pos) (tDI X (vK f)):=by
 intro pins s σ H R I h
 obtain⟨P,α,env,S,r,re,af⟩:=h
 refine Call_ (j9 I hg hm boot_range (PyProof.Rows.callWith_type1 (thn (yQ ha I r re af pos) fun us s1 ⟨vs,H1,P1,α1,ds,S1,I1,rv,r1,re1,rp,e1,e2,af1⟩=>?_) hs hpl))
 obtain⟨its,hi,q⟩:=j0 af1
 cases G9 hi with
 |one j c =>
  obtain⟨ws,rfl,t1⟩:=tM rp
  cases t1.nil_inv
  obtain⟨u,rfl,t,rfl⟩:=jV rv
  refine call_range_1 (sX I1 (by omega) (by omega) c.1 c.2 ?_)
  have z:=q (Itr 0 j.toNat) H1 P1 α1 r1 e1 e2 nJ
  rw[Int.sub_zero]
  exact z
 |two i j c =>
  obtain⟨ws,rfl,t1⟩:=tM rp
  obtain⟨ws2,rfl,t2⟩:=tM t1
  cases t2.nil_inv
  obtain⟨u,u',rfl,⟨t,rfl⟩,t',rfl⟩:=iU rv
  exact call_range_2 (sX I1 c.1 c.2.1 c.2.2.1 c.2.2.2 (q (Itr i (j-i).toNat) H1 P1 α1 r1 e1 e2 nJ))
def wD (g:DG)(f:DS):List D→qE→Sto→Out
 |[],env,S=>.nx env S
 |d::ds,env,S=>(g d env S).toS env fun env1 S1=>match f env1 S1 with
  |.nx env2 S2=>wD g f ds env2 S2
  |.ct env2 S2=>wD g f ds env2 S2
  |.bk env2 S2=>.nx env2 S2
  |o=>o
def jF (fi:DI)(g:DG)(f:DS):DS:=fun env S=>(fi env S).toS env fun ds S1=>wD g f ds env S1
inductive LoopW (X:Cx)(P1:Hp)(α1:List Addr)(g:DG)(f:DS)(ds:List D)(D:Ends)(i m:Nat)(σ : _L.St)(H:Hp):Prop
 |mk (hi:i≤ds.length) (hm:m=ds.length-i) (P2:Hp) (α2:List Addr) (env2:qE) (S2:Sto) (r:Rel X.K H P2 α2 S2) (re:zC X.K P2 α2 σ env2) (e1:qH P1 P2) (e2:α1<+:α2) (af:zJ X P2 α2 (wD g f (ds.drop i) env2 S2) D):LoopW X P1 α1 g f ds D i m σ H
theorem B8 {iter:Expr}{body:List Stmt}{fi:DI}{g:DG}{f:DS}(hp:PassesOwn (model X.prog X.w) X.A X.env X.xe)(hc:X.calm=true)(hi:PI X tg iter (tDI X fi))(hg:PG X tg (tDG X g))(hb:PSs X body (tDS X f))
  (hs:∀ x,foldedSetIterable iter X.env x=pure x:=by intro _;rfl):PS X (.For tg iter body [] pos) (tDS X (jF fi g f)):=psW (M3 hp hc hi hg hb hs) fun D σ H ⟨P,α,env,S,r,re,af⟩=>by
 refine⟨P,α,env,S,r,re,?_⟩
 have af1:=yF af
 cases q:fi env S with
 |bad=>rw[q] at af1;exact af1
 |ex c x S'=>rw[q] at af1;exact af1
 |ok ds S1 =>
  rw[q] at af1
  have af2:zJ X P α (wD g f ds env S1) D:=af1
  intro J H1 P1 α1 r1 e1 e2 it
  refine⟨LoopW X P1 α1 g f ds D,
   ⟨ds.length,Nat.zero_le _,rfl,P1,α1,env,S1,r1,re.mono e1 e2,qH.refl _,List.prefix_refl _,zJ.base e1 e2 af2⟩,?_⟩
  rintro i m σ2 H2 ⟨hi,rfl,P2,α2,env2,S2,r2,re2,e3,e4,af3⟩
  by_cases hlt:i<ds.length
  ·refine .inr ⟨it.go i H2 P2 α2 S2 hlt r2 e3 e4,LoopW X P1 α1 g f ds D (i+1) (ds.length-(i+1)),fun σ' H' w=>⟨_,?_,w⟩,fun x H3 y=>?_⟩
   ·omega
   ·obtain⟨P3,d,hd,r3,e5,rp⟩:=it.yld i H2 x H3 P2 α2 S2 hlt r2 e3 e4 y
    have hdr:ds.drop i=d::ds.drop (i+1):=by
     rw[List.drop_eq_getElem_cons hlt]
     rw[List.getElem?_eq_getElem hlt] at hd
     rw[Option.some.inj hd]
    rw[hdr] at af3
    have af4:=yF (zJ.base e5 (List.prefix_refl _) af3)
    refine⟨P3,α2,env2,S2,d,r3,re2.mono e5 (List.prefix_refl _),rp,?_⟩
    cases q2:g d env2 S2 with
    |bad=>rw[q2] at af4;exact af4
    |ex c x S'=>rw[q2] at af4;exact af4
    |ok env3 S3 =>
     rw[q2] at af4
     intro σ4 H4 P4 α4 r4 re4 e6 e7
     refine⟨P4,α4,env3,S3,r4,re4,?_⟩
     have af5:=zJ.base e6 e7 af4
     cases q3:f env3 S3 with
     |bad=>simp only[q3] at af5;exact af5
     |ex c x env4 S4=>simp only[q3] at af5;exact af5
     |rt d4 S4=>simp only[q3] at af5;exact af5
     |bk env4 S4=>simp only[q3] at af5;exact af5
     |nx env4 S4 =>
      simp only[q3] at af5
      exact fun σ5 H5 P5 α5 r5 re5 e8 e9=>⟨hlt,rfl,P5,α5,env4,S4,r5,re5,((e3.trans e5).trans e6).trans e8,(e4.trans e7).trans e9,zJ.base e8 e9 af5⟩
     |ct env4 S4 =>
      simp only[q3] at af5
      exact fun σ5 H5 P5 α5 r5 re5 e8 e9=>⟨hlt,rfl,P5,α5,env4,S4,r5,re5,((e3.trans e5).trans e6).trans e8,(e4.trans e7).trans e9,zJ.base e8 e9 af5⟩
  ·have hdr:ds.drop i=[]:=List.drop_eq_nil_of_le (by omega)
   rw[hdr] at af3
   exact .inl ⟨it.stop i H2 P2 α2 S2 (by omega) r2 e3 e4,af3 σ2 H2 P2 α2 r2 re2 (qH.refl _) (List.prefix_refl _)⟩
end
end _D
end
section
namespace _D
open PySem PySem.Spec PyProof.Rows _L
abbrev DF:=List D→Sto→Res D
section
variable {X:Cx}{x:Str}{p pos:Pos}{e:Expr}{es:List Expr}{F:DF}{fa:DA}
def qD (F:DF)(fa:DA):DE:=fun env S=>(fa env S).bind fun ds S1=>F ds S1
theorem tZ {F:DF}{u:Value}{pins:List (Addr × Obj)}{s1:Shared}{σ : _L.St}{H1 P P1:Hp}{α α1:List Addr}{vs:List V}{us:List Value}{ds:List D}{S1:Sto}{Q:VK}(hc:wG X u F)(I1:Inv X pins σ H1 s1)(r1:Rel X.K H1 P1 α1 S1)(rv:qL vs us)
  (rp:qF X.K P1 α1 ds vs) (e1:qH P P1) (e2:α<+:α1) (af:qI X P α (F ds S1) (OkV X P α Q)):wpAny (model X.prog X.w) X.A (call u us) (EP X pins σ Q) X.xe s1:=hc pins σ H1 s1 P1 α1 S1 vs us ds Q I1 r1 rv rp (zB.base e1 e2 af)
theorem W7 {id:String}(hc:wG X (.builtin id) F)(hg:Gl X x)(hm:X.mg x=none)(hv:bootBuiltins x=some (.builtin id))(ha:PA X (e::es) (tDA X fa))(hn:x ≠ "__name__":=by decide)(hdb:(x == ("__debug__" : Str))=false:=by decide)
  (he:starEach (e::es) X.env=(false,eval e X.env)::starEach es X.env:=by rfl) (hpl:(backTo pos (starEach es X.env)).any (·.1)=false:=by rfl):PE X (.Call (.Name x p) (e::es) [] pos) (tD X (qD F fa)):=by
 intro pins s σ H Q I h
 obtain⟨P,α,env,S,r,re,af⟩:=h
 refine wpAny_Call_Name_kw (j9 I hg hm hv ?_ hn hdb)
 exact PyProof.Rows.callWith_builtin1 (thn (yQ ha I r re af pos) fun us s1 ⟨vs,H1,P1,α1,ds,S1,I1,rv,r1,re1,rp,e1,e2,af1⟩=>tZ hc I1 r1 rv rp e1 e2 af1) he hpl
theorem oH {T:String}(hc:wG X (.type T) F)(hg:Gl X x)(hm:X.mg x=none)(hv:bootBuiltins x=some (.type T))(ha:PA X (e::es) (tDA X fa))(hn:x ≠ "__name__":=by decide)(hdb:(x == ("__debug__" : Str))=false:=by decide)
  (he:starEach (e::es) X.env=(false,eval e X.env)::starEach es X.env:=by rfl) (hpl:(backTo pos (starEach es X.env)).any (·.1)=false:=by rfl):PE X (.Call (.Name x p) (e::es) [] pos) (tD X (qD F fa)):=by
 intro pins s σ H Q I h
 obtain⟨P,α,env,S,r,re,af⟩:=h
 refine wpAny_Call_Name_kw (j9 I hg hm hv ?_ hn hdb)
 exact PyProof.Rows.callWith_type1 (thn (yQ ha I r re af pos) fun us s1 ⟨vs,H1,P1,α1,ds,S1,I1,rv,r1,re1,rp,e1,e2,af1⟩=>tZ hc I1 r1 rv rp e1 e2 af1) he hpl
end
end _D
end
section
namespace _D
open PySem PySem.Spec PyProof.Rows _L
theorem bZ {α : Type}{t:Sem α}{Q Q':α→Shared→Prop}{M:Model}{A:Around}{E:Value→Shared→Prop}{s:Shared}(h:wpAny M A t Q (fun _ _=>False) s)(hQ:∀ a s,Q a s→Q' a s):wpAny M A t Q' E s:=wpAny_mono h hQ fun _ _ x=>x.elim
def kN (ifs:List Expr)(env:Env):Sem Bool:=forIn ifs true fun c r=>if r=true then do let ok ← PySem.isTrue c env (eval c env);pure (ForInStep.yield ok) else pure (ForInStep.yield r)
def PTs (X:Cx)(ifs:List Expr)(t:DT):Prop:=
 ∀ (pins:List (Addr × Obj)) (s:Shared) (σ : _L.St) (H:Hp) (Q:Bool→Hp→Prop),Inv X pins σ H s→tDT X t σ H Q→wpAny (model X.prog X.w) X.A (kN ifs X.env) (TP X pins σ Q) X.xe s
def zH:DT:=fun _ S=>.ok true S
section
variable {X:Cx}
theorem JD:PTs X [] zH:=fun pins s σ H Q I ⟨P,α,env,S,r,re,af⟩=>by
 unfold kN
 rw[List.forIn_nil]
 exact wpAny_pure ⟨H,I,af H P α r (qH.refl _) (List.prefix_refl _)⟩
theorem DC {e:Expr}{f:DE}{pins:List (Addr × Obj)}{s:Shared}{σ : _L.St}{H P:Hp}{α : List Addr}{env:qE}{S:Sto}{d:D}{S1:Sto}(he:PE X e (tD X f))(I:Inv X pins σ H s)(r:Rel X.K H P α S)(re:zC X.K P α σ env)(q:f env S=.ok d S1) :
  wpAny (model X.prog X.w) X.A (eval e X.env) (fun u s1=>∃ v H1 P1 α1,Got X pins σ env P α u s1 v H1 P1 α1 d S1) X.xe s:=by
 refine thn (xA (g:=fun d S=>Res.ok d S) (Ok:=fun d' S'=>d'=d∧S'=S1) he I r re (by rw[q];exact⟨rfl,rfl⟩)) fun u s1 ⟨v,H1,P1,α1,d',S',G,h1,h2⟩=>?_
 have e1:d'=d:=h1
 have e2:S'=S1:=h2
 subst e1;subst e2
 exact⟨v,H1,P1,α1,G⟩
theorem NS {ifs:List Expr}{t:DT}{pins:List (Addr × Obj)}{s:Shared}{σ : _L.St}{H P:Hp}{α : List Addr}{env:qE}{S:Sto}{b:Bool}{S1:Sto}(he:PTs X ifs t)(I:Inv X pins σ H s)(r:Rel X.K H P α S)(re:zC X.K P α σ env)(q:t env S=.ok b S1) :
  wpAny (model X.prog X.w) X.A (kN ifs X.env) (fun b' s1=>b'=b∧∃ H1 P1 α1,Inv X pins σ H1 s1∧Rel X.K H1 P1 α1 S1∧zC X.K P1 α1 σ env∧qH P P1∧α<+:α1) X.xe s:=by
 refine thn (he pins s σ H (fun b' H1=>b'=b∧∃ P1 α1,Rel X.K H1 P1 α1 S1∧zC X.K P1 α1 σ env∧qH P P1∧α<+:α1) I ⟨P,α,env,S,r,re,?_⟩) fun b' s1 ⟨H1,I1,e,P1,α1,q1,q2,q3,q4⟩=>⟨e,H1,P1,α1,I1,q1,q2,q3,q4⟩
 rw[q]
 exact fun H' P' α' r' e1 e2=>⟨rfl,P',α',r',re.mono e1 e2,e1,e2⟩
theorem DD {tg:Expr}{g:DG}{pins:List (Addr × Obj)}{s:Shared}{σ : _L.St}{H P:Hp}{α : List Addr}{env env1:qE}{S:Sto}{d:D}{v:V}{u:Value}{S1:Sto}(hg:PG X tg (tDG X g))(I:Inv X pins σ H s)(r:Rel X.K H P α S)(re:zC X.K P α σ env)(rv:qK v u)
  (rp:Rep X.K P α d v) (q:g d env S=.ok env1 S1) :
  wpAny (model X.prog X.w) X.A (assign tg X.env u) (fun _ s1=>∃ σ1 H1 P1 α1,Inv X pins σ1 H1 s1∧Rel X.K H1 P1 α1 S1∧zC X.K P1 α1 σ1 env1∧qH P P1∧α<+:α1) X.xe s:=by
 refine thn (hg pins s σ H v u (fun σ1 H1=>∃ P1 α1,Rel X.K H1 P1 α1 S1∧zC X.K P1 α1 σ1 env1∧qH P P1∧α<+:α1) I rv ⟨P,α,env,S,d,r,re,rp,?_⟩) fun _ s1 ⟨σ1,H1,I1,P1,α1,q1,q2,q3,q4⟩=>⟨σ1,H1,P1,α1,I1,q1,q2,q3,q4⟩
 rw[q]
 exact fun σ' H' P' α' r' re' e1 e2=>⟨P',α',r',re',e1,e2⟩
def mL (K:PySem.W.Frag)(P:Hp)(α : List Addr)(ds:List D)(o:Obj):Prop:=∃ (its:List Value) (n:Nat) (vs:List V),o={ cls:=.type "list",data:=.seq its.toArray n } ∧ qL vs its∧qF K P α ds vs∧ds.length≤lim
theorem mL.mono {K:PySem.W.Frag}{P P1:Hp}{α α1:List Addr}{ds:List D}{o:Obj}(e:qH P P1)(h:α<+:α1)(a:mL K P α ds o):mL K P1 α1 ds o:=by
 obtain⟨its,n,vs,q1,q2,q3,q4⟩:=a
 exact⟨its,n,vs,q1,q2,qF.mono e h _ _ q3,q4⟩
theorem mL.cell {K:PySem.W.Frag}{P:Hp}{α : List Addr}{ds:List D}{o:Obj}(a:mL K P α ds o):∀ v,o.data≠.cell v:=by
 obtain⟨its,n,vs,rfl,_⟩:=a
 intro v z;cases z
theorem Inv.pin1 {pins:List (Addr × Obj)}{σ : _L.St}{H:Hp}{s:Shared}{a:Addr}{o:Obj}(I:Inv X pins σ H s)(f:xV X pins H a)(e:s.heap.get? a=some o)(d:∀ v,o.data≠.cell v):Inv X (pins++[(a,o)]) σ H s:=
 I.pins_of fun p hp=>(List.mem_append.mp hp).elim (fun z=>I.pin p (List.mem_append_right _ z)) fun z=>by
  have e':p=(a,o):=by simpa using z
  subst e'
  exact⟨e,f.1,f.2.1,f.2.2.1,d⟩
theorem Inv.pinned1 {pins:List (Addr × Obj)}{σ : _L.St}{H:Hp}{s:Shared}{a:Addr}{o:Obj}(I:Inv X (pins++[(a,o)]) σ H s):s.heap.get? a=some o∧H a=none:=by
 have:=I.pin (a,o) (List.mem_append_right _ (List.mem_append_right _ (by simp)))
 exact⟨this.1,this.2.1⟩
end
end _D
end
section
namespace _D
open PySem PySem.Spec PyProof.Rows _L
structure TurnSt (Y:Cx)(pins:List (Addr × Obj))(P1:Hp)(α1:List Addr)(fp:List Addr)(acc:Addr)(env:qE)(S:Sto)(ds:List D)(s:Shared)(σ : _L.St)(H P:Hp)(α : List Addr)(o:Obj):Prop where
 inv:Inv Y pins σ H s
 rel:Rel Y.K H P α S
 env:zC Y.K P α σ env
 same:qH P1 P
 pre:α1<+:α
 fpn:∀ b∈fp,H b=none
 acn:H acc=none
 at':s.heap.get? acc=some o
 acc:mL Y.K P α ds o
end _D
end
section
namespace _D
open PySem PySem.Spec PyProof.Rows _L
def wQ (cells:List (Str × Addr)):List (Str × NameKind)→List (Str × Addr)→List (Str × Addr)
 |[],cs=>cs
 |(n,k)::r,cs=>wQ cells r (if k == .free then (n,(cells.lookup n).getD 0)::cs else cs)
theorem lF {env:Env}{scope:Scope}(h:∀ y∈scope.names,y.2=.free→∃ c,env.cells.lookup y.1=some c):closureFor scope env=pure (wQ env.cells scope.names []):=by
 have go:∀ (l:List (Str × NameKind)) (cs:List (Str × Addr)),(∀ y∈l,y.2=.free→∃ c,env.cells.lookup y.1=some c) →
   (forIn l cs fun x cs=>match x with|(name,kind)=>if (kind == NameKind.free)=true then do let a ← cellOf env name;pure (ForInStep.yield ((name,a)::cs)) else pure (ForInStep.yield cs):Sem (List (Str × Addr)))=pure (wQ env.cells l cs):=by
  intro l
  induction l with
  |nil=>intro cs _;rfl
  |cons y r ih =>
   intro cs hl
   obtain⟨n,k⟩:=y
   rw[List.forIn_cons]
   by_cases hk:k=.free
   ·subst hk
    obtain⟨c,hc⟩:=hl (n,.free) List.mem_cons_self rfl
    have hc':env.cells.lookup n=some c:=hc
    have e:cellOf env n=pure c:=by unfold cellOf;rw[hc']
    simp only[beq_self_eq_true,if_true,e,pure_bind]
    rw[ih _ fun z hz=>hl z (List.mem_cons_of_mem _ hz)]
    simp only[wQ,beq_self_eq_true,if_true,hc',Option.getD_some]
   ·have hb:(k == NameKind.free)=false:=by simpa using hk
    simp only[hb,Bool.false_eq_true,if_false,pure_bind]
    rw[ih _ fun z hz=>hl z (List.mem_cons_of_mem _ hz)]
    simp only[wQ,hb,Bool.false_eq_true,if_false]
 unfold closureFor
 have:=go scope.names [] h
 simp only[bind_pure]
 exact this
theorem bA {cells:List (Str × Addr)}{x:Str}{c:Addr}:∀ (l:List (Str × NameKind)) (cs:List (Str × Addr)),(wQ cells l cs).lookup x=some c→cs.lookup x=some c∨((x,NameKind.free)∈l∧c=(cells.lookup x).getD 0)
 |[],cs,h=>.inl h
 |(n,k)::r,cs,h=>by
  rcases bA r _ h with h|⟨h1,h2⟩
  ·by_cases hk:k=.free
   ·subst hk
    simp only[beq_self_eq_true,if_true,List.lookup_cons] at h
    cases hb:x == n with
    |true =>
     rw[hb] at h
     have e:x=n:=by simpa using hb
     subst e
     exact .inr ⟨List.mem_cons_self,(Option.some.inj h).symm⟩
    |false=>rw[hb] at h;exact .inl h
   ·have hb:(k == NameKind.free)=false:=by simpa using hk
    simp only[hb,Bool.false_eq_true,if_false] at h
    exact .inl h
  ·exact .inr ⟨List.mem_cons_of_mem _ h1,h2⟩
theorem gS {cells:List (Str × Addr)}{x:Str}:∀ (l:List (Str × NameKind)) (cs:List (Str × Addr)),((x,NameKind.free)∈l∨∃ c,cs.lookup x=some c)→∃ c,(wQ cells l cs).lookup x=some c
 |[],cs,h=>by
  rcases h with h|h
  ·cases h
  ·exact h
 |(n,k)::r,cs,h=>by
  refine gS r _ ?_
  rcases h with h|⟨c,h⟩
  ·rcases List.mem_cons.mp h with e|h
   ·cases e
    exact .inr ⟨(cells.lookup x).getD 0,by simp only[beq_self_eq_true,if_true,List.lookup_cons]⟩
   ·exact .inl h
  ·by_cases hk:k=.free
   ·subst hk
    simp only[beq_self_eq_true,if_true,List.lookup_cons]
    cases hb:x == n with
    |true=>exact .inr ⟨_,rfl⟩
    |false=>exact .inr ⟨c,h⟩
   ·have hb:(k == NameKind.free)=false:=by simpa using hk
    simp only[hb,Bool.false_eq_true,if_false]
    exact .inr ⟨c,h⟩
structure CompSc (scX:Scope)(NX:List Str)(scope:Scope)(N':List Str)(cap:List (Option Nat)):Prop where
 kind:scope.kind=.function
 names:∀ y∈scope.names,y.2=.local → scope.names.lookup y.1=some .local
 nocell:∀ y∈scope.names,y.2≠.cell
 free:∀ y∈scope.names,y.2=.free→scX.names.lookup y.1=some .cell∨scX.names.lookup y.1=some .free
 fr2:∀ y∈scope.names,y.2=.free→scope.names.lookup y.1=some .free
 len:cap.length=N'.length
 caps:((cap.zip N').all fun p=>match p.1 with|none=>true|some i=>NX[i]? == some p.2&&scope.names.lookup p.2 == some .free)=true
 nd:N'.Nodup
def vY (cap:List (Option Nat))(σ : _L.St):_L.St:=cap.map fun o=>match o with
 |none=>none
 |some i=>(σ[i]?).join
def xS (cap:List (Option Nat))(env:qE):qE:=cap.map fun o=>match o with
 |none=>none
 |some i=>(env[i]?).join
theorem ZY {K:PySem.W.Frag}{P:Hp}{α : List Addr}{σ : _L.St}{env:qE}(re:zC K P α σ env)(cap:List (Option Nat)):zC K P α (vY cap σ) (xS cap env):=by
 refine⟨by simp[vY,xS],fun j d e=>?_⟩
 unfold xS at e
 unfold vY
 rw[List.getElem?_map] at e ⊢
 cases q:cap[j]? with
 |none=>rw[q] at e;cases e
 |some o =>
  rw[q] at e
  cases o with
  |none=>cases e
  |some i =>
   have e':(env[i]?).join=some d:=by simpa using e
   cases z:env[i]? with
   |none=>rw[z] at e';cases e'
   |some w =>
    rw[z] at e'
    have e'':w=some d:=e'
    subst e''
    obtain⟨v,h1,h2⟩:=re.2 i d z
    exact⟨v,by simp[h1],h2⟩
def zA (X:Cx)(N':List Str)(scope:Scope)(cl:List (Str × Addr))(C:Addr)(ex:List Addr)(s₀:Shared)(H₀:Hp):Cx:=
 { X with N:=N',s₀:=s₀,H₀:=H₀,env:=compEnvC scope cl C X.env,outer:=X.stack,stack:=X.stack,ex:=ex,fn:=fun _=>false,pn:=[],xe:=fun _ _=>False }
theorem jC {scope:Scope}{env:Env}:∀ {names:List (Str × NameKind)} {x:Str} {k:NameKind},
  (names.map fun (n,k)=>if (k == NameKind.free&&env.scope.kind == .function&&env.kindOf n == some .cell) then (n,NameKind.cell) else (n,k)).lookup x=some k →
  names.lookup x=some k∨(k=.cell∧names.lookup x=some .free)
 |[],_,_,h=>by simp at h
 |(n,k0)::r,x,k,h=>by
  rw[List.map_cons,List.lookup_cons] at h
  rw[List.lookup_cons]
  dsimp only at h
  cases hb:(k0 == NameKind.free&&env.scope.kind == .function&&env.kindOf n == some .cell) with
  |true =>
   rw[hb] at h
   simp only[if_true] at h
   cases hx:x == n with
   |true =>
    rw[hx] at h
    have e:NameKind.cell=k:=Option.some.inj h
    have hk:k0=.free:=by
     have:=(Bool.and_eq_true _ _).mp hb
     have:=(Bool.and_eq_true _ _).mp this.1
     simpa using this.1
    subst hk
    exact .inr ⟨e.symm,rfl⟩
   |false=>rw[hx] at h;exact jC (scope:=scope) h
  |false =>
   rw[hb] at h
   simp only[Bool.false_eq_true,if_false] at h
   cases hx:x == n with
   |true=>rw[hx] at h;exact .inl h
   |false=>rw[hx] at h;exact jC (scope:=scope) h
section
variable {X:Cx}{scope:Scope}{N':List Str}{cap:List (Option Nat)}{pins:List (Addr × Obj)}{σ : _L.St}{H2:Hp}{s2:Shared}{fp:List Addr}
theorem kS (S:CompSc X.env.scope X.N scope N' cap){x:Str}{k:NameKind}(h:(relabel scope X.env).names.lookup x=some k):scope.names.lookup x=some k∨(k=.cell∧scope.names.lookup x=some .free):=jC (scope:=scope) h
theorem wC (S:CompSc X.env.scope X.N scope N' cap)(ok:X.Ok){x:Str}{c:Addr}(h:(wQ X.env.cells scope.names []).lookup x=some c):X.env.cells.lookup x=some c:=by
 rcases bA _ _ h with h|⟨hm,hc⟩
 ·cases h
 ·have:=S.free _ hm rfl
  obtain⟨c',hc'⟩:=ok.has x this
  rw[hc',Option.getD_some] at hc
  rw[hc',hc]
theorem UR {C:Addr}(S:CompSc X.env.scope X.N scope N' cap)(I2:Inv X pins σ H2 s2)(hf:∀ b∈fp,xV X pins H2 b)(hlt:∀ b∈fp,b<s2.heap.objs.size)(hC:s2.heap.objs.size≤C) :
  (zA X N' scope (wQ X.env.cells scope.names []) C fp s2 H2).Ok where
 mod:=I2.ok.mod
 kind:=S.kind
 glob:=I2.ok.glob
 blt:=I2.ok.blt
 above:=hC
 inj:=fun x y c h1 h2=>I2.ok.inj x y c (wC S I2.ok h1) (wC S I2.ok h2)
 has:=fun x hx=>by
  have hx':(relabel scope X.env).names.lookup x=some .cell∨(relabel scope X.env).names.lookup x=some .free:=hx
  have hf:scope.names.lookup x=some .free:=by
   rcases hx' with h|h
   ·rcases kS S h with h|⟨_,h⟩
    ·exact absurd rfl (S.nocell _ (PySem.mem_of_lookup h))
    ·exact h
   ·rcases kS S h with h|⟨z,_⟩
    ·exact h
    ·cases z
  exact gS _ _ (.inl (PySem.mem_of_lookup hf))
 cab:=fun x c h _=>by cases h
 hd:=I2.ok.hd
 frames:=I2.ok.frames
 stk:=.inl rfl
 exf:=fun b hb=>⟨Nat.ne_of_lt (Nat.lt_of_lt_of_le (hlt b hb) hC),fun x c h=>(hf b hb).2.2.2.2.1 x c (wC S I2.ok h)⟩
 bs:=I2.bs
 bsz:=Nat.le_trans I2.ok.bsz I2.sz
 noex:=fun b o e hb=>by
  obtain⟨_,_,_,h,_⟩:=hf b hb
  rcases h with h|h
  ·exact I2.ok.noex b o e h
  ·exact absurd (Nat.lt_of_lt_of_le (Heap.lt_size e) (Nat.le_trans I2.ok.bsz h)) (Nat.lt_irrefl _)
 exfs:=fun b hb hb2=>by
  obtain⟨_,h1,h2,_⟩:=hf b hb
  rcases List.mem_cons.mp (I2.stkSub b hb2) with z|z
  ·exact h1 z
  ·exact h2 z
 funs:=I2.stack
 frf:=I2.stkFree
theorem W4 {s4:Shared}{C:Addr}{m:Str→Option Value}(S:CompSc X.env.scope X.N scope N' cap)(I2:Inv X pins σ H2 s2)(hf:∀ b∈fp,xV X pins H2 b)(hlt:∀ b∈fp,b<s2.heap.objs.size)(hC:s2.heap.objs.size≤C)
  (hn:s4.heap.Ns C m) (os:s4.os=s2.os) (gens:s4.gens=s2.gens) (keep:∀ b o,s2.heap.get? b=some o→s4.heap.get? b=some o) :
  Inv (zA X N' scope (wQ X.env.cells scope.names []) C fp s2 H2) [] (vY cap σ) H2 s4 where
 ok:=UR S I2 hf hlt hC
 os:=os
 bare:=gens▸I2.bare
 base:=Un.kept keep
 loc:=by
  refine⟨m,hn,fun j x v h1 h2 h3=>?_⟩
  have h1':N'[j]? = some x:=h1
  unfold vY at h2
  rw[List.getElem?_map] at h2
  cases q:cap[j]? with
  |none=>rw[q] at h2;cases h2
  |some o =>
   rw[q] at h2
   cases o with
   |none=>cases h2
   |some i =>
    have e':(σ[i]?).join=some v:=by simpa using h2
    have hσ:σ[i]? = some (some v):=by
     cases z:σ[i]? with
     |none=>rw[z] at e';cases e'
     |some w=>rw[z] at e';have:w=some v:=e';rw[this]
    have hz:(some i,x)∈cap.zip N':=by
     refine List.mem_iff_getElem?.mpr ⟨j,?_⟩
     rw[List.getElem?_zip_eq_some]
     exact⟨q,h1'⟩
    have hc:=List.all_eq_true.mp S.caps _ hz
    simp only[Bool.and_eq_true,beq_iff_eq] at hc
    obtain⟨hN,hfr⟩:=hc
    have hk:=S.free _ (PySem.mem_of_lookup hfr) rfl
    obtain⟨mo,hmo,hl⟩:=I2.loc
    have vis:Vis X.env.scope x:=by
     rcases hk with k|k
     ·exact .inr (.inl k)
     ·exact .inr (.inr k)
    obtain⟨u,ru,lk⟩:=hl i x v hN hσ vis
    refine⟨u,ru,?_⟩
    rcases lk with⟨kl,_⟩|⟨_,c,hcl,hcell⟩
    ·have kl':X.env.scope.names.lookup x=some .local:=kl
     rcases hk with k|k
     ·have k':X.env.scope.names.lookup x=some .cell:=k
      rw[kl'] at k';cases k'
     ·have k':X.env.scope.names.lookup x=some .free:=k
      rw[kl'] at k';cases k'
    ·obtain⟨c',hc'⟩:=gS (cells:=X.env.cells) scope.names [] (.inl (PySem.mem_of_lookup hfr))
     have e2:=wC S I2.ok hc'
     rw[hcl] at e2;cases e2
     refine .inr ⟨?_,c,hc',?_⟩
     ·have h3':Vis (relabel scope X.env) x:=h3
      rcases h3' with h|h|h
      ·rcases kS S h with h|⟨z,_⟩
       ·rw[hfr] at h;cases h
       ·cases z
      ·exact .inl h
      ·exact .inr h
     ·obtain⟨ob,hob,hd⟩:=hcell
      exact⟨ob,keep c ob hob,hd⟩
 cell:=fun x c h=>by
  obtain⟨v,ob,hob,hd⟩:=I2.cell x c (wC S I2.ok h)
  exact⟨v,ob,keep c ob hob,hd⟩
 free:=I2.hok.fresh hC
 freeC:=fun x c h=>I2.freeC x c (wC S I2.ok h)
 pin:=fun p hp=>absurd (show p∈([]:List (Addr × Obj)) from hp) (by simp)
 hok:=I2.hok.kept keep
 len:=by
  show (vY cap σ).length=N'.length
  simp[vY,S.len]
end
end _D
end
section
namespace _D
open PySem PySem.Spec PyProof.Rows _L
theorem oW {P:Program}{w:World}{H:Hp}{h:Heap}{a:Addr}{o:HO}(x:HOk P w H h)(hn:H a=none)(new:zO P w (upd H a o) h a o):HOk P w (upd H a o) h:=fun b u e=>by
 by_cases hb:b=a
 ·subst hb;rw[zN] at e;cases e;exact new
 ·rw[qP hb] at e
  exact(x b u e).stay (fun c v _ q=>q) (fun c q=>by rw[qP (zF q hn)];exact q) fun c xs q=>by rw[qP (zF q hn)];exact q
theorem oV {P:Program}{w:World}{H:Hp}{h h':Heap}{C:Addr}(x:HOk P w H h)(hn:H C=none)(k:∀ b o,b≠C→h.get? b=some o→h'.get? b=some o):HOk P w H h':=fun b u e =>
 (x b u e).stay (fun c v hc q=>k c v (by
  rintro rfl
  rcases hc with z|z
  ·subst z;rw[hn] at e;cases e
  ·rw[hn] at z;cases z) q) (fun _ q=>q) fun _ _ q=>q
section
variable {X:Cx}{elt tg iter:Expr}{ifs:List Expr}{scope:Scope}{pos:Pos}{N':List Str}{cap:List (Option Nat)}{fi:DI}{g:DG}{t:DT}{fe:DE}
def pL (X:Cx)(pins:List (Addr × Obj))(σ : _L.St)(P1:Hp)(α1:List Addr)(ds:List D)(SF:Sto)(acc C:Addr)(s:Shared):Prop:=
 ∃ (H' P':Hp) (α' : List Addr) (vs:List V),Inv X pins σ (upd H' acc (.lst vs)) s∧Rel X.K H' P' α' SF∧H' acc=none∧qH P1 P'∧α1<+:α'∧qF X.K P' α' ds vs∧H' C=none
theorem W3 {Y:Cx}{pins:List (Addr × Obj)}{σ σ':_L.St}{H2:Hp}{s2 s':Shared}{fp:List Addr}{acc C:Addr}{P1:Hp}{α1:List Addr}{H' P':Hp}{α' : List Addr}{envF:qE}{SF:Sto}{ds:List D}{o:Obj}{cl:List (Str × Addr)}(I2:Inv X pins σ H2 s2)
  (hf:∀ b∈fp,xV X pins H2 b) (hY:Y=zA X N' scope cl C fp s2 H2) (hC:s2.heap.objs.size≤C) (hA:s2.heap.objs.size≤acc) (hne:acc≠C) (st:TurnSt Y [] P1 α1 fp acc envF SF ds s' σ' H' P' α' o)
  {h':Heap} (sb:Heap.SameBut C s'.heap h'):pL X pins σ P1 α1 ds SF acc C { s' with heap:=h' }:=by
 subst hY
 obtain⟨its,n,vs,rfl,rv,rp,hz⟩:=st.acc
 have kC:∀ b o,b≠C→s'.heap.get? b=some o→h'.get? b=some o:=fun b o hb e=>(sb.2 b hb).trans e
 have nC:∀ b o,s2.heap.get? b=some o→b≠C:=fun b o e=>Nat.ne_of_lt (Nat.lt_of_lt_of_le (Heap.lt_size e) hC)
 have nA:∀ b o,s2.heap.get? b=some o→b≠acc:=fun b o e=>Nat.ne_of_lt (Nat.lt_of_lt_of_le (Heap.lt_size e) hA)
 have base:Un (frs X.stack) fp H2 H' s2.heap s'.heap:=st.inv.base
 have nt:∀ b u,H' b=some u→b≠acc:=fun b u e=>zF e st.acn
 have un:Un (frs X.stack) fp H2 (upd H' acc (.lst vs)) s2.heap h':=by
  refine⟨fun b ob q hn hb hx=>kC b ob (nC b ob q) (base.keep b ob q hn hb hx),fun b ob q hn hb hx=>?_,fun b ob q hn hx=>?_,fun b ob q hx=>?_,fun b xs q=>?_,fun b ob u q=>?_,fun b ps q=>?_⟩
  ·obtain⟨sl,e⟩:=base.slot b ob q hn hb hx
   exact⟨sl,kC b _ (nC b ob q) e⟩
  ·rw[qP (nA b ob q)];exact base.free b ob q hn hx
  ·obtain⟨o',e⟩:=base.there b ob q hx
   exact⟨o',kC b o' (nC b ob q) e⟩
  ·have:=base.tups b xs q;rw[qP (nt _ _ this)];exact this
  ·have:=base.frzs b ob u q;rw[qP (nt _ _ this)];exact this
  ·obtain⟨more,e⟩:=base.tbls b ps q
   exact⟨more,by rw[qP (nt _ _ e)];exact e⟩
 have hok':HOk X.prog X.w H' h':=oV st.inv.hok st.inv.free kC
 have hat:h'.get? acc=some { cls:=.type "list",data:=.seq its.toArray n }:=kC acc _ hne st.at'
 have hok:HOk X.prog X.w (upd H' acc (.lst vs)) h':=oW hok' st.acn ⟨by rw[← rp.length,← xN];exact hz,its,n,rv,hat⟩
 refine⟨H',P',α',vs,?_,st.rel,st.acn,st.same,st.pre,rp,st.inv.free⟩
 exact I2.call' (s':={ s' with heap:=h' }) (ch:=fp) (st.inv.os) un hok st.inv.bare fun b hb=>by
  obtain⟨_,h1,h2,h3,h4,h5⟩:=hf b hb
  exact⟨h3,h1,h4,h5⟩
theorem eB (S:CompSc X.env.scope X.N scope N' cap)(ok:X.Ok):closureFor scope X.env=pure (wQ X.env.cells scope.names []):=lF fun y hy hk=>ok.has y.1 (S.free y hy hk)
theorem JE {pins:List (Addr × Obj)}{σ : _L.St}{P1:Hp}{α1:List Addr}{ds:List D}{SF:Sto}{acc C:Addr}{s:Shared}{Q:VK}(c:pL X pins σ P1 α1 ds SF acc C s)(ok:OkV X P1 α1 Q (.lst ds) SF):EP X pins σ Q (.ref acc) s:=by
 obtain⟨H',P',α',vs,I,r,hn,e1,e2,rp,_⟩:=c
 exact⟨.ref acc,_,I,rfl,v6 r hn rp fun v H2 P2 α2 r2 q1 q2 q3=>ok v H2 P2 α2 r2 (e1.trans q1) (e2.trans q2) q3⟩
end
end _D
end
section
namespace _D
open PySem PySem.Spec PyProof.Rows _L PySem.SeqAt
def b01 (b:Bool):Int:=if b then 1 else 0
mutual
def eqD:D→D→Bool
 |.non,.non=>true
 |.bl a,.bl b=>a == b
 |.bl a,.int b=>b01 a == b
 |.int a,.bl b=>a == b01 b
 |.int a,.int b=>a == b
 |.str a,.str b=>a == b
 |.tup xs,.tup ys=>xT xs ys
 |.lst xs,.lst ys=>xT xs ys
 |_,_=>false
def xT:List D→List D→Bool
 |[],[]=>true
 |x::xs,y::ys=>eqD x y&&xT xs ys
 |_,_=>false
end
def pl:Nat→D→Bool
 |_,.non=>true
 |_,.bl _=>true
 |_,.int _=>true
 |_,.str _=>true
 |n+1,.tup xs=>xs.all (pl n)
 |n+1,.lst xs=>xs.all (pl n)
 |_,_=>false
theorem oM (x y:D)(xs ys:List D):xT (x::xs) (y::ys)=(eqD x y&&xT xs ys):=rfl
theorem j7:∀ (xs ys:List D),xT xs ys=((List.range (min xs.length ys.length)).all (fun j=>eqD (xs.getD j .non) (ys.getD j .non))&&xs.length == ys.length)
 |[],[]=>rfl
 |[],y::ys=>rfl
 |x::xs,[]=>rfl
 |x::xs,y::ys=>by
  have ih:=j7 xs ys
  rw[oM,ih,List.length_cons,List.length_cons,Nat.succ_min_succ,List.range_succ_eq_map,List.all_cons,List.all_map,Bool.and_assoc]
  have e:(xs.length+1 == ys.length+1)=(xs.length == ys.length):=by simp
  rw[e]
  rfl
theorem WK {xs ys:List D}(h:xs.length≠ys.length):xT xs ys=false:=by
 rw[j7]
 simp[h]
theorem mW (xs ys:List D):eqD (.tup xs) (.tup ys)=xT xs ys:=rfl
theorem mV (xs ys:List D):eqD (.lst xs) (.lst ys)=xT xs ys:=rfl
section
variable {X:Cx}{pins:List (Addr × Obj)}{σ : _L.St}{H P:Hp}{α : List Addr}{S:Sto}{s:Shared}
inductive Kd (X:Cx)(P:Hp)(α : List Addr)(s:Shared):D→Value→Prop where
 |non:Kd X P α s .non .none
 |bl (b:Bool):Kd X P α s (.bl b) (.bool b)
 |int (i:Int) (t:Tok):Kd X P α s (.int i) (.int i t)
 |str (x:Str) (t:Tok):Kd X P α s (.str x) (.str x t)
 |tup (a:Addr) (xs:List D) (its:List Value) (vs:List V) (rp:qF X.K P α xs vs) (rv:qL vs its) (h:s.heap.IsTuple a its.toArray) (q:SqT X.K P a vs):Kd X P α s (.tup xs) (.ref a)
 |lst (a:Addr) (xs:List D) (its:List Value) (vs:List V) (rp:qF X.K P α xs vs) (rv:qL vs its) (h:s.heap.IsList a its.toArray) (q:SqX X.K P a vs):Kd X P α s (.lst xs) (.ref a)
theorem jP (I:Inv X pins σ H s)(r:Rel X.K H P α S){n:Nat}{d:D}{v:V}{u:Value}(h:pl n d=true)(p:Rep X.K P α d v)(rv:qK v u):Kd X P α s d u:=by
 cases d with
 |non=>simp only[Rep] at p;subst p;cases rv;exact .non
 |bl b=>simp only[Rep] at p;subst p;cases rv;exact .bl b
 |int i=>simp only[Rep] at p;subst p;obtain⟨t,rfl⟩:=rv;exact .int i t
 |str x=>simp only[Rep] at p;subst p;obtain⟨t,rfl⟩:=rv;exact .str x t
 |tup xs =>
  simp only[Rep] at p
  obtain⟨a,vs,rfl,q,t⟩:=p
  cases rv
  obtain⟨its,r1,p1,_⟩:=I.tuple (wB r.sub q)
  exact .tup a xs its vs t r1 p1 q
 |lst xs =>
  simp only[Rep] at p
  obtain⟨a,vs,rfl,q,t⟩:=p
  cases rv
  obtain⟨its,r1,p1,_⟩:=I.list ((w4 r.sub q).l)
  exact .lst a xs its vs t r1 p1.isList q
 |_=>cases n <;> exact Bool.noConfusion h
theorem uB {ds:List D}{vs:List V}{its:List Value}(rp:qF X.K P α ds vs)(rv:qL vs its){j:Nat}(h:j<its.toArray.size):∃ v,Rep X.K P α (ds.getD j .non) v∧qK v its.toArray[j]∧ds.getD j .non∈ds:=by
 have l1:=rp.length
 have l2:=rv.length
 have hj:j<its.length:=by simpa using h
 have hd:j<ds.length:=by omega
 obtain⟨v,e1,p⟩:=rp.get (List.getElem?_eq_getElem hd)
 obtain⟨u,e2,q⟩:=rv.get e1
 have e3:its.toArray[j]=u:=by
  have:its[j]? = some its[j]:=List.getElem?_eq_getElem hj
  rw[this] at e2
  simpa using Option.some.inj e2
 have e4:ds.getD j .non=ds[j]:=by simp[List.getD,hd]
 rw[e3,e4]
 exact⟨v,p,q,List.getElem_mem hd⟩
theorem jS {n:Nat}{ds:List D}(h:ds.all (pl n)=true){d:D}(hd:d∈ds):pl n d=true:=List.all_eq_true.mp h d hd
theorem JR {h:Heap}{a:Addr}{xs ys:Array Value}(h1:h.IsTuple a xs)(h2:h.IsTuple a ys):xs=ys:=by
 obtain⟨o,e,_,n,d⟩:=h1
 obtain⟨o',e',_,n',d'⟩:=h2
 cases e.symm.trans e'
 cases d.symm.trans d'
 rfl
theorem JP {h:Heap}{a:Addr}{xs ys:Array Value}(h1:h.IsList a xs)(h2:h.IsList a ys):xs=ys:=by
 obtain⟨o,e,_,n,d⟩:=h1
 obtain⟨o',e',_,n',d'⟩:=h2
 cases e.symm.trans e'
 cases d.symm.trans d'
 rfl
theorem BQ {h:Heap}{a:Addr}{xs ys:Array Value}(h1:h.IsTuple a xs)(h2:h.IsList a ys):False:=by
 obtain⟨o,e,c,_⟩:=h1
 obtain⟨o',e',c',_⟩:=h2
 cases e.symm.trans e'
 exact absurd (c.symm.trans c') (by decide)
inductive Seqs (X:Cx)(P:Hp)(α : List Addr)(xs ys:List D)(its its2:List Value):Prop
 |mk (vs ws:List V) (rp:qF X.K P α xs vs) (rv:qL vs its) (rp2:qF X.K P α ys ws) (rv2:qL ws its2):Seqs X P α xs ys its its2
theorem Seqs.len1 {xs ys:List D}{its its2:List Value}(q:Seqs X P α xs ys its its2):xs.length=its.length:=by
 obtain⟨vs,ws,rp,rv,_,_⟩:=q
 exact rp.length.trans rv.length
theorem Seqs.len2 {xs ys:List D}{its its2:List Value}(q:Seqs X P α xs ys its its2):ys.length=its2.length:=by
 obtain⟨vs,ws,_,_,rp,rv⟩:=q
 exact rp.length.trans rv.length
inductive SameR (X:Cx)(P:Hp)(α : List Addr):D→D→Prop
 |eq {d d':D} (h:eqD d d'=true):SameR X P α d d'
 |tt (xs ys:List D) (its:List Value) (q:Seqs X P α xs ys its its):SameR X P α (.tup xs) (.tup ys)
 |ll (xs ys:List D) (its:List Value) (q:Seqs X P α xs ys its its):SameR X P α (.lst xs) (.lst ys)
theorem cK {d d':D}{u:Value}(k1:Kd X P α s d u)(k2:Kd X P α s d' u):SameR X P α d d':=by
 cases k1 with
 |non=>cases k2;exact .eq rfl
 |bl b=>cases k2;exact .eq (beq_self_eq_true _)
 |int i t=>cases k2;exact .eq (beq_self_eq_true _)
 |str x t=>cases k2;exact .eq (beq_self_eq_true _)
 |tup a xs its vs rp rv h q =>
  cases k2 with
  |tup _ ys its2 ws rp2 rv2 h2 q2 =>
   cases JR h h2
   exact .tt xs ys its ⟨vs,ws,rp,rv,rp2,rv2⟩
  |lst _ ys its2 ws rp2 rv2 h2 q2=>exact(BQ h h2).elim
 |lst a xs its vs rp rv h q =>
  cases k2 with
  |lst _ ys its2 ws rp2 rv2 h2 q2 =>
   cases JP h h2
   exact .ll xs ys its ⟨vs,ws,rp,rv,rp2,rv2⟩
  |tup _ ys its2 ws rp2 rv2 h2 q2=>exact(BQ h2 h).elim
theorem nB (I:Inv X pins σ H s)(r:Rel X.K H P α S){m:Nat}(ih:∀ (d d':D) (u:Value),pl m d=true→pl m d'=true→Kd X P α s d u→Kd X P α s d' u→eqD d d'=true){xs ys:List D}{its:List Value}(h1:xs.all (pl m)=true)(h2:ys.all (pl m)=true)(q:Seqs X P α xs ys its its):xT xs ys=true:=by
 obtain⟨vs,ws,rp,rv,rp2,rv2⟩:=q
 have l1:=rp.length.trans rv.length
 have l2:=rp2.length.trans rv2.length
 rw[j7,l1,l2,Nat.min_self,Bool.and_eq_true]
 refine⟨List.all_eq_true.mpr fun j hj=>?_,BEq.rfl⟩
 have hj:j<its.toArray.size:=List.mem_range.mp hj
 obtain⟨w1,y1,z1,m1⟩:=uB rp rv hj
 obtain⟨w2,y2,z2,m2⟩:=uB rp2 rv2 hj
 exact ih _ _ _ (jS h1 m1) (jS h2 m2) (jP I r (jS h1 m1) y1 z1) (jP I r (jS h2 m2) y2 z2)
theorem eJ (I:Inv X pins σ H s)(r:Rel X.K H P α S):∀ (n:Nat) (d d':D) (u:Value),pl n d=true→pl n d'=true→Kd X P α s d u→Kd X P α s d' u→eqD d d'=true:=by
 intro n
 induction n with
 |zero =>
  intro d d' u h1 h2 k1 k2
  cases cK k1 k2 with
  |eq h=>exact h
  |tt=>exact Bool.noConfusion h1
  |ll=>exact Bool.noConfusion h1
 |succ m ih =>
  intro d d' u h1 h2 k1 k2
  cases cK k1 k2 with
  |eq h=>exact h
  |tt xs ys its q=>exact(mW xs ys).trans (nB I r ih h1 h2 q)
  |ll xs ys its q=>exact(mV xs ys).trans (nB I r ih h1 h2 q)
structure E3 (A:Around)(s:Shared)(u u':Value)(b:Bool):Prop where
 eq:EqAt A s u u' b
 rc:RcAt A s u u' b
 ne:RcNeAt A s u u' (!b)
inductive EqR (X:Cx)(P:Hp)(α : List Addr)(A:Around)(s:Shared):D→D→Value→Value→Prop
 |of {d d':D} {u u':Value} (b:Bool) (e:eqD d d'=b) (h:E3 A s u u' b):EqR X P α A s d d' u u'
 |tt (a b:Addr) (xs ys:List D) (its its2:List Value) (ha:s.heap.IsTuple a its.toArray) (hb:s.heap.IsTuple b its2.toArray) (q:Seqs X P α xs ys its its2):EqR X P α A s (.tup xs) (.tup ys) (.ref a) (.ref b)
 |ll (a b:Addr) (xs ys:List D) (its its2:List Value) (ha:s.heap.IsList a its.toArray) (hb:s.heap.IsList b its2.toArray) (q:Seqs X P α xs ys its its2):EqR X P α A s (.lst xs) (.lst ys) (.ref a) (.ref b)
theorem V4 {A:Around}{d d':D}{u u':Value}(hu:A.units<cLine)(k1:Kd X P α s d u)(k2:Kd X P α s d' u'):EqR X P α A s d d' u u':=by
 cases k1 with
 |non  =>
  cases k2 with
  |non  => exact .of _ rfl ⟨EqAt.same _,RcAt.none_none,RcNeAt.none_none⟩
  |bl b=>exact .of _ rfl ⟨EqAt.none_bool b,RcAt.none_bool b,RcNeAt.none_bool b⟩
  |int b tb=>exact .of _ rfl ⟨EqAt.none_int b tb,RcAt.none_int b tb,RcNeAt.none_int b tb⟩
  |str b tb=>exact .of _ rfl ⟨EqAt.none_str b tb,RcAt.none_str b tb,RcNeAt.none_str b tb⟩
  |tup b ys its2 ws rp2 rv2 hb qb=>exact .of _ rfl ⟨EqAt.none_tuple hb hu,RcAt.none_tuple hb hu,RcNeAt.none_tuple hb hu⟩
  |lst b ys its2 ws rp2 rv2 hb qb=>exact .of _ rfl ⟨EqAt.none_list hb hu,RcAt.none_list hb hu,RcNeAt.none_list hb hu⟩
 |bl a =>
  cases k2 with
  |non  => exact .of _ rfl ⟨EqAt.bool_none a,RcAt.bool_none a,RcNeAt.bool_none a⟩
  |bl b=>exact .of _ rfl ⟨EqAt.bool_bool a b,RcAt.bool_bool a b,RcNeAt.bool_bool a b⟩
  |int b tb=>exact .of _ rfl ⟨EqAt.bool_int a b tb,RcAt.bool_int a b tb,RcNeAt.bool_int a b tb⟩
  |str b tb=>exact .of _ rfl ⟨EqAt.bool_str a b tb,RcAt.bool_str a b tb,RcNeAt.bool_str a b tb⟩
  |tup b ys its2 ws rp2 rv2 hb qb=>exact .of _ rfl ⟨EqAt.bool_tuple a hb hu,RcAt.bool_tuple a hb hu,RcNeAt.bool_tuple a hb hu⟩
  |lst b ys its2 ws rp2 rv2 hb qb=>exact .of _ rfl ⟨EqAt.bool_list a hb hu,RcAt.bool_list a hb hu,RcNeAt.bool_list a hb hu⟩
 |int a ta =>
  cases k2 with
  |non  => exact .of _ rfl ⟨EqAt.int_none a ta,RcAt.int_none a ta,RcNeAt.int_none a ta⟩
  |bl b=>exact .of _ rfl ⟨EqAt.int_bool a ta b,RcAt.int_bool a ta b,RcNeAt.int_bool a ta b⟩
  |int b tb=>exact .of _ rfl ⟨EqAt.int_int a ta b tb,RcAt.int_int a ta b tb,RcNeAt.int_int a ta b tb⟩
  |str b tb=>exact .of _ rfl ⟨EqAt.int_str a ta b tb,RcAt.int_str a ta b tb,RcNeAt.int_str a ta b tb⟩
  |tup b ys its2 ws rp2 rv2 hb qb=>exact .of _ rfl ⟨EqAt.int_tuple a ta hb hu,RcAt.int_tuple a ta hb hu,RcNeAt.int_tuple a ta hb hu⟩
  |lst b ys its2 ws rp2 rv2 hb qb=>exact .of _ rfl ⟨EqAt.int_list a ta hb hu,RcAt.int_list a ta hb hu,RcNeAt.int_list a ta hb hu⟩
 |str a ta =>
  cases k2 with
  |non  => exact .of _ rfl ⟨EqAt.str_none a ta,RcAt.str_none a ta,RcNeAt.str_none a ta⟩
  |bl b=>exact .of _ rfl ⟨EqAt.str_bool a ta b,RcAt.str_bool a ta b,RcNeAt.str_bool a ta b⟩
  |int b tb=>exact .of _ rfl ⟨EqAt.str_int a ta b tb,RcAt.str_int a ta b tb,RcNeAt.str_int a ta b tb⟩
  |str b tb=>exact .of _ rfl ⟨EqAt.str_str a ta b tb,RcAt.str_str a ta b tb,RcNeAt.str_str a ta b tb⟩
  |tup b ys its2 ws rp2 rv2 hb qb=>exact .of _ rfl ⟨EqAt.str_tuple a ta hb hu,RcAt.str_tuple a ta hb hu,RcNeAt.str_tuple a ta hb hu⟩
  |lst b ys its2 ws rp2 rv2 hb qb=>exact .of _ rfl ⟨EqAt.str_list a ta hb hu,RcAt.str_list a ta hb hu,RcNeAt.str_list a ta hb hu⟩
 |tup a xs its vs rp rv ha qa =>
  cases k2 with
  |non  => exact .of _ rfl ⟨EqAt.tuple_none ha hu,RcAt.tuple_none ha hu,RcNeAt.tuple_none ha hu⟩
  |bl b=>exact .of _ rfl ⟨EqAt.tuple_bool b ha hu,RcAt.tuple_bool b ha hu,RcNeAt.tuple_bool b ha hu⟩
  |int b tb=>exact .of _ rfl ⟨EqAt.tuple_int b tb ha hu,RcAt.tuple_int b tb ha hu,RcNeAt.tuple_int b tb ha hu⟩
  |str b tb=>exact .of _ rfl ⟨EqAt.tuple_str b tb ha hu,RcAt.tuple_str b tb ha hu,RcNeAt.tuple_str b tb ha hu⟩
  |tup b ys its2 ws rp2 rv2 hb qb=>exact .tt a b xs ys its its2 ha hb ⟨vs,ws,rp,rv,rp2,rv2⟩
  |lst b ys its2 ws rp2 rv2 hb qb=>exact .of _ rfl ⟨EqAt.tuple_list ha hb hu,RcAt.tuple_list ha hb hu,RcNeAt.tuple_list ha hb hu⟩
 |lst a xs its vs rp rv ha qa =>
  cases k2 with
  |non  => exact .of _ rfl ⟨EqAt.list_none ha hu,RcAt.list_none ha hu,RcNeAt.list_none ha hu⟩
  |bl b=>exact .of _ rfl ⟨EqAt.list_bool b ha hu,RcAt.list_bool b ha hu,RcNeAt.list_bool b ha hu⟩
  |int b tb=>exact .of _ rfl ⟨EqAt.list_int b tb ha hu,RcAt.list_int b tb ha hu,RcNeAt.list_int b tb ha hu⟩
  |str b tb=>exact .of _ rfl ⟨EqAt.list_str b tb ha hu,RcAt.list_str b tb ha hu,RcNeAt.list_str b tb ha hu⟩
  |tup b ys its2 ws rp2 rv2 hb qb=>exact .of _ rfl ⟨EqAt.list_tuple ha hb hu,RcAt.list_tuple ha hb hu,RcNeAt.list_tuple ha hb hu⟩
  |lst b ys its2 ws rp2 rv2 hb qb=>exact .ll a b xs ys its its2 ha hb ⟨vs,ws,rp,rv,rp2,rv2⟩
theorem E3.cast {A:Around}{u u':Value}{b c:Bool}(e:c=b)(h:E3 A s u u' b):E3 A s u u' c:=e▸h
theorem N4 {A:Around}{a b:Addr}{xs ys:List D}{its its2:List Value}(hu:A.units<cLine)(ha:s.heap.IsTuple a its.toArray)(hb:s.heap.IsTuple b its2.toArray)(l1:xs.length=its.length)(l2:ys.length=its2.length)
  (sub:∀ j (h1:j<its.toArray.size) (h2:j<its2.toArray.size),EqAt A.in1 s its.toArray[j] its2.toArray[j] (eqD (xs.getD j .non) (ys.getD j .non))) (same:a=b→xT xs ys=true):E3 A s (.ref a) (.ref b) (xT xs ys):=by
 have e:xT xs ys=((List.range (min its.toArray.size its2.toArray.size)).all (fun j=>eqD (xs.getD j .non) (ys.getD j .non))&&its.toArray.size == its2.toArray.size):=by rw[j7,l1,l2];rfl
 have R1:=RcAt.tuples ha hb hu sub
 have R2:=RcNeAt.tuples ha hb hu sub
 rw[← e] at R1 R2
 refine⟨?_,R1,R2⟩
 by_cases hab:a=b
 ·rw[same hab,hab]
  exact EqAt.same _
 ·exact EqAt.of_refs hab R1
theorem N3 {A:Around}{a b:Addr}{xs ys:List D}{its its2:List Value}(hu:A.units<cLine)(ha:s.heap.IsList a its.toArray)(hb:s.heap.IsList b its2.toArray)(l1:xs.length=its.length)(l2:ys.length=its2.length)
  (sub:∀ j (h1:j<its.toArray.size) (h2:j<its2.toArray.size),EqAt A.in1 s its.toArray[j] its2.toArray[j] (eqD (xs.getD j .non) (ys.getD j .non))) (same:a=b→xT xs ys=true):E3 A s (.ref a) (.ref b) (xT xs ys):=by
 have R:RcAt A s (.ref a) (.ref b) (xT xs ys)∧RcNeAt A s (.ref a) (.ref b) (!xT xs ys):=by
  by_cases hl:its.length=its2.length
  ·have e:xT xs ys=(List.range its.toArray.size).all (fun j=>eqD (xs.getD j .non) (ys.getD j .non)):=by rw[j7,l1,l2,← hl,Nat.min_self,BEq.rfl,Bool.and_true];rfl
   rw[e]
   exact⟨RcAt.lists ha hb hl hu sub,RcNeAt.lists ha hb hl hu sub⟩
  ·rw[WK (by rw[l1,l2];exact hl)]
   have hn:(its.toArray.size != its2.toArray.size)=true:=bne_iff_ne.mpr hl
   exact⟨RcAt.lists_lengths ha hb hn hu,RcNeAt.lists_lengths ha hb hn hu⟩
 refine⟨?_,R.1,R.2⟩
 by_cases hab:a=b
 ·rw[same hab,hab]
  exact EqAt.same _
 ·exact EqAt.of_refs hab R.1
theorem oK (I:Inv X pins σ H s)(r:Rel X.K H P α S):∀ (n:Nat) (A:Around) (d d':D) (u u':Value),A.units+n<cLine→pl n d=true→pl n d'=true→Kd X P α s d u→Kd X P α s d' u'→E3 A s u u' (eqD d d'):=by
 intro n
 induction n with
 |zero =>
  intro A d d' u u' hu h1 h2 k1 k2
  cases V4 hu k1 k2 with
  |of b e h=>exact h.cast e
  |tt=>exact Bool.noConfusion h1
  |ll=>exact Bool.noConfusion h1
 |succ m ih =>
  intro A d d' u u' hu h1 h2 k1 k2
  have hu0:A.units<cLine:=Nat.lt_of_le_of_lt (Nat.le_add_right _ _) hu
  have hu1:A.in1.units+m<cLine:=by show A.units+1+m<cLine;omega
  have sub:∀ {xs ys:List D} {its its2:List Value},xs.all (pl m)=true→ys.all (pl m)=true→Seqs X P α xs ys its its2 →
    ∀ j (h1:j<its.toArray.size) (h2:j<its2.toArray.size),EqAt A.in1 s its.toArray[j] its2.toArray[j] (eqD (xs.getD j .non) (ys.getD j .non)):=fun {xs ys its its2} a1 a2 ⟨vs,ws,b1,b2,c1,c2⟩ j g1 g2=>by
   obtain⟨w1,y1,z1,m1⟩:=uB b1 b2 g1
   obtain⟨w2,y2,z2,m2⟩:=uB c1 c2 g2
   exact(ih A.in1 _ _ _ _ hu1 (jS a1 m1) (jS a2 m2) (jP I r (jS a1 m1) y1 z1) (jP I r (jS a2 m2) y2 z2)).eq
  cases V4 hu0 k1 k2 with
  |of b e h=>exact h.cast e
  |tt a b xs ys its its2 ha hb q=>exact(N4 hu0 ha hb q.len1 q.len2 (sub h1 h2 q) fun e=>by subst e;exact(mW xs ys).symm.trans (eJ I r (m+1) _ _ _ h1 h2 k1 k2)).cast (mW xs ys)
  |ll a b xs ys its its2 ha hb q=>exact(N3 hu0 ha hb q.len1 q.len2 (sub h1 h2 q) fun e=>by subst e;exact(mV xs ys).symm.trans (eJ I r (m+1) _ _ _ h1 h2 k1 k2)).cast (mV xs ys)
def yC:Nat:=30
def gEq:G2:=fun a b S=>if pl yC a&&pl yC b then .ok (.bl (eqD a b)) S else .bad
def gNe:G2:=fun a b S=>if pl yC a&&pl yC b then .ok (.bl (!eqD a b)) S else .bad
set_option tactic.hygienic true in
theorem NF (hu:X.A.units+64<cLine):OpD X (compareOp .Eq) gEq:=by
 intro pins σ H s P α S v u vv uu a b Q I r rv ru pa pb af
 unfold gEq at af
 split at af
 ·rename_i h
  rw[Bool.and_eq_true] at h
  exact(oK I r yC X.A a b vv uu (by unfold yC;omega) h.1 h.2 (jP I r h.1 pa rv) (jP I r h.2 pb ru)).rc _ _ _ _ ⟨.bl _,H,I,rfl,xr af r (by simp only[Rep])⟩
 ·exact False.elim af
set_option tactic.hygienic true in
theorem NJ (hu:X.A.units+64<cLine):OpD X (compareOp .NotEq) gNe:=by
 intro pins σ H s P α S v u vv uu a b Q I r rv ru pa pb af
 unfold gNe at af
 split at af
 ·rename_i h
  rw[Bool.and_eq_true] at h
  exact(oK I r yC X.A a b vv uu (by unfold yC;omega) h.1 h.2 (jP I r h.1 pa rv) (jP I r h.2 pb ru)).ne _ _ _ _ ⟨.bl _,H,I,rfl,xr af r (by simp only[Rep])⟩
 ·exact False.elim af
end
end _D
end
section
namespace _D
open PySem PySem.Spec PyProof.Rows _L
section
variable {X:Cx}
def i2 (C:Int→Int→Bool)(f:Int→Int→D):G2:=fun a b S=>match a,b with
 |.int i,.int j=>if C i j then .ok (f i j) S else .bad
 |_,_=>.bad
theorem V7 {C:Int→Int→Bool}{f:Int→Int→D}{a b:D}{S:Sto}{P:Hp}{α : List Addr}{Ok:D→Sto→Prop}(h:qI X P α (i2 C f a b S) Ok):∃ i j,a=.int i∧b=.int j∧C i j=true∧Ok (f i j) S:=by
 cases a with
 |int i =>
  cases b with
  |int j =>
   obtain⟨hc,h⟩:=p9 (X:=X) h
   exact⟨i,j,rfl,rfl,hc,h⟩
  |_=>exact False.elim h
 |_=>exact False.elim h
theorem wA {P:Hp}{α : List Addr}{i:Int}{v:V}(r:Rep X.K P α (.int i) v):v=.int i:=by simpa only [Rep] using r
theorem m6 {f:Value→Value→Sem Value}{C':Int→Int→Prop}{v:Int→Int→V}{C:Int→Int→Bool}{d:Int→Int→D}(h:OpR X f (rI C' v))(hC:∀ i j,C i j=true→C' i j)(hv:∀ P α i j,Rep X.K P α (d i j) (v i j)):OpD X f (i2 C d):=
 OpD.of h fun H P α S x y a b Q r p1 p2 af=>by
  obtain⟨i,j,rfl,rfl,hc,ok⟩:=V7 af
  exact⟨i,j,wA p1,wA p2,hC i j hc,xr ok r (hv P α i j)⟩
theorem m5 {f:Value→Value→Sem Value}{v:Int→Int→V}{d:Int→Int→D}(h:OpR X f (rI0 v))(hv:∀ P α i j,Rep X.K P α (d i j) (v i j)):OpD X f (i2 (fun _ _=>true) d):=
 OpD.of h fun H P α S x y a b Q r p1 p2 af=>by
  obtain⟨i,j,rfl,rfl,_,ok⟩:=V7 af
  exact⟨i,j,wA p1,wA p2,xr ok r (hv P α i j)⟩
def x9:G2:=i2 (fun _ _=>true) fun i j=>.int (i-j)
theorem FI:OpD X (binaryOp .Sub) x9:=m5 FR fun P α i j=>by simp only[Rep]
def lZ (i j:Int):Bool:=decide (-(2 ^ 64)<i∧i<2 ^ 64)||decide (-(2 ^ 64)<j∧j<2 ^ 64)
theorem KC:OpD X (binaryOp .Mult) (i2 lZ fun i j=>.int (i*j)):=m6 FP (fun i j h=>by
 unfold lZ at h
 rw[Bool.or_eq_true] at h
 rcases h with h|h
 ·exact .inl (of_decide_eq_true h)
 ·exact .inr (of_decide_eq_true h)) fun P α i j=>by simp only[Rep]
def P8 (i j:Int):Bool:=decide (0<j∧j<1073741824)
def yO:G2:=i2 P8 fun i j=>.int (i/j)
theorem FE:OpD X (binaryOp .FloorDiv) yO:=m6 KJ (fun i j h=>(of_decide_eq_true h:0<j∧j<1073741824)) fun P α i j=>by simp only[Rep]
def yY:G2:=i2 (fun _ j=>decide (0<j)) fun i j=>.int (i % j)
theorem FG:OpD X (binaryOp .Mod) yY:=m6 FO (fun i j h=>of_decide_eq_true h) fun P α i j=>by simp only[Rep]
def LR (i j:Int):Bool:=decide (0≤j∧j≤1000000∧i.natAbs<2 ^ 64)
def gX:G2:=i2 LR fun i j=>.int (i ^ j.toNat)
theorem FH:OpD X (binaryOp .Pow) gX:=m6 FQ (fun i j h=>(of_decide_eq_true h:0≤j∧j≤1000000∧i.natAbs<2 ^ 64)) fun P α i j=>by simp only[Rep]
def gLt:G2:=i2 (fun _ _=>true) fun i j=>.bl (decide (i<j))
def gLe:G2:=i2 (fun _ _=>true) fun i j=>.bl (decide (i≤j))
def gGt:G2:=i2 (fun _ _=>true) fun i j=>.bl (decide (j<i))
def gGe:G2:=i2 (fun _ _=>true) fun i j=>.bl (decide (j≤i))
theorem VI:OpD X (compareOp .Lt) gLt:=m5 NM fun P α i j=>by simp only[Rep]
theorem NI:OpD X (compareOp .LtE) gLe:=m5 NL fun P α i j=>by simp only[Rep]
theorem NG:OpD X (compareOp .GtE) gGe:=m5 NK fun P α i j=>by simp only[Rep]
def yZ:D→Sto→Res D:=fun a S=>match a with
 |.int i=>.ok (.int (-i)) S
 |_=>.bad
theorem MY:UnD X (unaryOp .USub) yZ:=by
 intro pins σ H s P α S v vv a Q I r rv p af
 cases a with
 |int i=>exact MZ pins s σ H v vv Q I rv ⟨i,wA p,xr af r (by simp only[Rep])⟩
 |_=>exact False.elim af
def gIs:G2:=fun a b S=>match b with
 |.non=>match a with
  |.non=>.ok (.bl true) S
  |_=>.ok (.bl false) S
 |_=>.bad
theorem KB {P:Hp}{α : List Addr}{d:D}{v:V}(r:Rep X.K P α d v):decide (v=.non)=(match d with|.non=>true|_=>false):=by
 cases d <;> simp only[Rep] at r
 case non=>subst r;rfl
 case bl=>subst r;rfl
 case int=>subst r;rfl
 case str=>subst r;rfl
 case ty=>subst r;rfl
 case obj=>obtain⟨rfl,_⟩:=r;rfl
 case tup=>obtain⟨a,vs,rfl,_⟩:=r;rfl
 case lst=>obtain⟨a,vs,rfl,_⟩:=r;rfl
 case dct0=>obtain⟨a,rfl,_⟩:=r;rfl
 case loc=>obtain⟨a,rfl,_⟩:=r;rfl
 case exn=>obtain⟨a,rfl,_⟩:=r;rfl
 case fd=>obtain⟨a,o,vs,rfl,_⟩:=r;rfl
theorem NH:OpD X (compareOp .Is) gIs:=OpD.of FN fun H P α S x y a b Q r p1 p2 af=>by
 cases b with
 |non =>
  simp only[Rep] at p2
  refine⟨p2,?_⟩
  rw[KB p1]
  cases a <;> exact xr af r (by simp only[Rep])
 |_=>exact False.elim af
def qT:G2:=fun a b S=>match a,b with
 |.int i,.int j=>.ok (.int (i+j)) S
 |.str x,.str y=>if x.length+y.length≤lim then .ok (.str (x++y)) S else .bad
 |.tup xs,.tup ys=>if xs.length+ys.length≤lim then .ok (.tup (xs++ys)) S else .bad
 |.lst xs,.lst ys=>if xs.length+ys.length≤lim then .ok (.lst (xs++ys)) S else .bad
 |_,_=>.bad
theorem vZ {pins:List (Addr × Obj)}{σ : _L.St}{H P:Hp}{α : List Addr}{S:Sto}{s:Shared}{xs:List D}{v:V}(I:Inv X pins σ H s)(r:Rel X.K H P α S)(p:Rep X.K P α (.tup xs) v) :
  ∃ a vs its,v=.ref a∧SqT X.K P a vs∧qF X.K P α xs vs∧qL vs its∧IsTup s.heap a its.toArray∧xs.length=its.length∧xs.length≤lim:=by
 simp only[Rep] at p
 obtain⟨a,vs,rfl,q,t⟩:=p
 obtain⟨its,rv,p1,z⟩:=I.tuple (wB r.sub q)
 exact⟨a,vs,its,rfl,q,t,rv,p1,by rw[t.length,rv.length],by rw[t.length,xN];exact z⟩
theorem yR {pins:List (Addr × Obj)}{σ : _L.St}{H P:Hp}{α : List Addr}{S:Sto}{s:Shared}{xs:List D}{v:V}(I:Inv X pins σ H s)(r:Rel X.K H P α S)(p:Rep X.K P α (.lst xs) v) :
  ∃ a vs its n,v=.ref a∧SqX X.K P a vs∧qF X.K P α xs vs∧qL vs its∧s.heap.get? a=some { cls:=.type "list",data:=.seq its.toArray n } ∧ xs.length=its.length∧xs.length≤lim:=by
 simp only[Rep] at p
 obtain⟨a,vs,rfl,q,t⟩:=p
 have:∃ its n,qL vs its∧s.heap.get? a=some { cls:=.type "list",data:=.seq its.toArray n } ∧ vs.length≤sizeLine:=by
  rcases q with q|⟨its,n,e,z,rv⟩
  ·obtain⟨z,its,n,rv,e⟩:=(cG r.sub q).ok I.hok
   exact⟨its,n,rv,e,z⟩
  ·exact⟨its,n,rv,I.kIn _ _ e,z⟩
 obtain⟨its,n,rv,e,z⟩:=this
 exact⟨a,vs,its,n,rfl,q,t,rv,e,by rw[t.length,rv.length],by rw[t.length,xN];exact z⟩
theorem dS {pins:List (Addr × Obj)}{σ : _L.St}{H P:Hp}{α : List Addr}{S:Sto}{s:Shared}{xs:List D}{vs:List V}{its:List Value}{Q:VK}(I:Inv X pins σ H s)(r:Rel X.K H P α S)(t:qF X.K P α xs vs)(rv:qL vs its)(hz:xs.length≤lim)
  (ok:OkV X P α Q (.tup xs) S):EP X pins σ Q (.ref s.heap.objs.size) { s with heap:=s.heap.push { cls:=.type "tuple",data:=.seq its.toArray } }:=by
 refine⟨.ref s.heap.objs.size,_,I.laid (t':=s.toks) (o:=.tup vs) (fun b ob q=>Heap.get?_push_of_some _ q) (Nat.le_refl _) ⟨by rw[← t.length,← xN];exact hz,its,rv,IsTup.new _ _⟩,rfl,gC r (I.hok.fresh (Nat.le_refl _)) t ok⟩
theorem dR {pins:List (Addr × Obj)}{σ : _L.St}{H P:Hp}{α : List Addr}{S:Sto}{s:Shared}{xs:List D}{vs:List V}{its:List Value}{Q:VK}(I:Inv X pins σ H s)(r:Rel X.K H P α S)(t:qF X.K P α xs vs)(rv:qL vs its)(hz:xs.length≤lim)
  (ok:OkV X P α Q (.lst xs) S):EP X pins σ Q (.ref s.heap.objs.size) { s with heap:=s.heap.push { cls:=.type "list",data:=.seq its.toArray } }:=by
 refine⟨.ref s.heap.objs.size,_,I.laid (t':=s.toks) (o:=.lst vs) (fun b ob q=>Heap.get?_push_of_some _ q) (Nat.le_refl _) ⟨by rw[← t.length,← xN];exact hz,its,0,rv,Heap.get?_push_size _ rfl⟩,rfl,v6 r (I.hok.fresh (Nat.le_refl _)) t ok⟩
theorem GY {pins:List (Addr × Obj)}{σ : _L.St}{H P:Hp}{α : List Addr}{S:Sto}{s:Shared}{xs ys:List D}{v u:V}{vv uu:Value}{Q:VK}(I:Inv X pins σ H s)(r:Rel X.K H P α S)(rv:qK v vv)(ru:qK u uu)(pa:Rep X.K P α (.tup xs) v)(pb:Rep X.K P α (.tup ys) u)(hl:xs.length+ys.length≤lim)(af:OkV X P α Q (.tup (xs++ys)) S) :
  wpAny (model X.prog X.w) X.A (binaryOp .Add vv uu) (EP X pins σ Q) X.xe s:=by
 obtain⟨a,vs,its,rfl,q1,t1,rv1,h1,l1,_⟩:=vZ I r pa
 obtain⟨b,ws,its2,rfl,q2,t2,rv2,h2,l2,_⟩:=vZ I r pb
 cases rv
 cases ru
 by_cases hx:its=[]
 ·obtain⟨⟨cls,dd,data,sl⟩,ho,hc,n,hd⟩:=id h1
  obtain⟨⟨cls2,dd2,data2,sl2⟩,ho2,hc2,n2,hd2⟩:=id h2
  simp only at hc hd hc2 hd2
  subst hc hd hc2 hd2
  have hxs:xs=[]:=List.length_eq_zero_iff.mp (by rw[l1,hx];rfl)
  subst hxs
  exact concat_meets ⟨_,ho,rfl⟩ ⟨_,ho2,rfl⟩ noFill_tuple_add seq_tuple_add PySem.F.slot_tuple_add PySem.F.entry_tuple_add (PySem.F.args_tuple_add_2 _ _) (tuple_addW0 a b its.toArray its2.toArray n n2 dd dd2 sl sl2 (by simp[hx]))
   ⟨ho,ho2,⟨.ref b,H,I,rfl,xr af r pb⟩⟩
 ·refine _H.cat_tup h1 h2 hx (fun z=>⟨.ref a,H,I,rfl,xr af r ?_⟩) (fun z=>?_) (by rw[← l1,← l2,← xN];exact hl)
  ·have hys:ys=[]:=List.length_eq_zero_iff.mp (by rw[l2,z];rfl)
   rw[hys,List.append_nil];exact pa
  ·exact dS I r (t1.append t2) (rv1.append rv2) (by rw[List.length_append];exact hl) af
theorem GX {pins:List (Addr × Obj)}{σ : _L.St}{H P:Hp}{α : List Addr}{S:Sto}{s:Shared}{xs ys:List D}{v u:V}{vv uu:Value}{Q:VK}(I:Inv X pins σ H s)(r:Rel X.K H P α S)(rv:qK v vv)(ru:qK u uu)(pa:Rep X.K P α (.lst xs) v)(pb:Rep X.K P α (.lst ys) u)(hl:xs.length+ys.length≤lim)(af:OkV X P α Q (.lst (xs++ys)) S) :
  wpAny (model X.prog X.w) X.A (binaryOp .Add vv uu) (EP X pins σ Q) X.xe s:=by
 obtain⟨a,vs,its,n,rfl,q1,t1,rv1,h1,l1,_⟩:=yR I r pa
 obtain⟨b,ws,its2,n2,rfl,q2,t2,rv2,h2,l2,_⟩:=yR I r pb
 cases rv
 cases ru
 refine PySem.P.add_list h1 h2 ?_ (by rw[List.size_toArray,List.size_toArray,← l1,← l2,← xN];exact hl)
 rw[List.append_toArray]
 exact dR I r (t1.append t2) (rv1.append rv2) (by rw[List.length_append];exact hl) af
inductive AddV (a b:D)(S:Sto):Prop
 |bad (e:qT a b S=.bad)
 |int (i j:Int) (ea:a=.int i) (eb:b=.int j)
 |str (x y:Str) (ea:a=.str x) (eb:b=.str y)
 |tup (x y:List D) (ea:a=.tup x) (eb:b=.tup y)
 |lst (x y:List D) (ea:a=.lst x) (eb:b=.lst y)
theorem LO (a b:D)(S:Sto):AddV a b S:=by
 cases a with
 |int i=>cases b with
  |int j=>exact .int i j rfl rfl
  |_=>exact .bad rfl
 |str i=>cases b with
  |str j=>exact .str i j rfl rfl
  |_=>exact .bad rfl
 |tup i=>cases b with
  |tup j=>exact .tup i j rfl rfl
  |_=>exact .bad rfl
 |lst i=>cases b with
  |lst j=>exact .lst i j rfl rfl
  |_=>exact .bad rfl
 |_=>exact .bad rfl
theorem FD:OpD X (binaryOp .Add) qT:=by
 intro pins σ H s P α S v u vv uu a b Q I r rv ru pa pb af
 cases LO a b S with
 |bad e=>rw[e] at af;exact False.elim af
 |int i j ea eb =>
  subst ea eb
  exact FM pins s σ H v u vv uu Q I rv ru ⟨i,j,wA pa,wA pb,xr af r (by simp only[Rep])⟩
 |str x y ea eb =>
  subst ea eb
  obtain⟨hl,af⟩:=p9 (X:=X) af
  simp only[Rep] at pa pb
  exact i9 pins s σ H v u vv uu Q I rv ru ⟨x,y,pa,pb,by rw[← xN];exact hl,xr af r (by simp only[Rep])⟩
 |tup xs ys ea eb =>
  subst ea eb
  obtain⟨hl,af⟩:=p9 (X:=X) af
  exact GY I r rv ru pa pb hl af
 |lst xs ys ea eb =>
  subst ea eb
  obtain⟨hl,af⟩:=p9 (X:=X) af
  exact GX I r rv ru pa pb hl af
def gIx:G2:=fun a b S=>match b with
 |.int k=>match a with
  |.tup xs=>v7 (atI xs k) S
  |.lst xs=>v7 (atI xs k) S
  |.loc i=>match S[i]? with
   |some (.lst xs)=>v7 (atI xs k) S
   |_=>.bad
  |_=>.bad
 |_=>.bad
theorem mO {P:Hp}{α : List Addr}{ds:List D}{vs:List V}{k:Int}{d:D}(rp:qF X.K P α ds vs)(h:atI ds k=some d):∃ v,atI vs k=some v∧Rep X.K P α d v:=by
 unfold atI at h ⊢
 rw[← rp.length]
 cases q:ixN ds.length k with
 |none=>rw[q] at h;cases h
 |some j =>
  rw[q] at h
  obtain⟨v,h1,h2⟩:=rp.get (show ds[j]? = some d from h)
  exact⟨v,h1,h2⟩
theorem BR:IxD X gIx:=by
 intro value slice pins σ H s P α S v u vv uu a b Q I r rv ru pa pb af hs
 cases b with
 |int k =>
  have hk:=wA pb
  cases a with
  |tup xs =>
   obtain⟨d,e,ok⟩:=j0 (X:=X) af
   simp only[Rep] at pa
   obtain⟨p,vs,rfl,q,t⟩:=pa
   obtain⟨w,e1,rw'⟩:=mO t e
   exact fV value slice pins s σ H _ u vv uu Q I rv ru ⟨p,vs,k,w,rfl,hk,wB r.sub q,e1,xr ok r rw'⟩ hs
  |lst xs =>
   obtain⟨d,e,ok⟩:=j0 (X:=X) af
   simp only[Rep] at pa
   obtain⟨p,vs,rfl,q,t⟩:=pa
   obtain⟨w,e1,rw'⟩:=mO t e
   exact eV value slice pins s σ H _ u vv uu Q I rv ru ⟨p,vs,k,w,rfl,hk,(w4 r.sub q).l,e1,xr ok r rw'⟩ hs
  |loc i =>
   obtain⟨xs,hS,af⟩:=gA (X:=X) (f:=fun xs=>v7 (atI xs k) S) af
   obtain⟨d,e,ok⟩:=j0 (X:=X) af
   simp only[Rep] at pa
   obtain⟨p,rfl,q⟩:=pa
   obtain⟨vs,z,t⟩:=r.at' i p _ q hS
   obtain⟨w,e1,rw'⟩:=mO t e
   exact eV value slice pins s σ H _ u vv uu Q I rv ru ⟨p,vs,k,w,rfl,hk,.of z,e1,xr ok r rw'⟩ hs
  |_=>exact False.elim af
 |_=>exact False.elim af
def mX:G3:=fun o i d S=>match o,i with
 |.loc n,.int k=>match S[n]? with
  |some (.lst xs)=>match ixN xs.length k with
   |some j=>.ok () (S.set n (.lst (xs.set j d)))
   |none=>.bad
  |_=>.bad
 |_,_=>.bad
theorem L6:lU X (lS X mX):=by
 intro pins s σ H o i v ov iv u Q I ro ri rv h
 obtain⟨P,α,S,a,b,d,r,pa,pb,pd,af⟩:=h
 cases a with
 |loc n =>
  cases b with
  |int k =>
   obtain⟨xs,hS,af⟩:=gA (X:=X) (f:=fun xs=>match ixN xs.length k with|some j=>.ok () (S.set n (.lst (xs.set j d)))|none=>.bad) af
   cases hj:ixN xs.length k with
   |none=>rw[hj] at af;exact False.elim af
   |some j =>
    rw[hj] at af
    simp only[Rep] at pa
    obtain⟨p,rfl,q⟩:=pa
    obtain⟨vs,z,t⟩:=r.at' n p _ q hS
    refine YN pins s σ H _ i v ov iv u Q I ro ri rv ⟨p,vs,k,j,rfl,wA pb,z,by rw[← t.length];exact hj,?_⟩
    refine af _ P α (r.put (m':=.lst (xs.set j d)) q hS (by intro z;cases z) ⟨vs.set j v,zN,t.set pd j⟩) (qH.refl _) (List.prefix_refl _)
  |_=>exact False.elim af
 |_=>exact False.elim af
def F1:D→Sto→Option Nat
 |.tup xs,_=>some xs.length
 |.lst xs,_=>some xs.length
 |.str x,_=>if x.length≤lim then some x.length else none
 |.dct0,_=>some 0
 |.loc i,S=>match S[i]? with
  |some (.lst xs)=>some xs.length
  |_=>none
 |_,_=>none
def dJ:DF:=fun ds S=>match ds with
 |[d]=>match F1 d S with
  |some n=>.ok (.int n) S
  |none=>.bad
 |_=>.bad
end
end _D
end
section
namespace _D
open PySem PySem.Spec PyProof.Rows _L
section
variable {X:Cx}
theorem yV {P:Hp}{α : List Addr}{d:D}{vs:List V}{us:List Value}(rp:qF X.K P α [d] vs)(rv:qL vs us):∃ v u,vs=[v]∧us=[u]∧Rep X.K P α d v∧qK v u:=by
 obtain⟨v,ws,rfl,p,t⟩:=rp.cons_inv
 have:=t.nil_inv;subst this
 obtain⟨u,rfl,q⟩:=jV rv
 exact⟨v,u,rfl,rfl,p,q⟩
theorem mG {P:Hp}{α : List Addr}{d e:D}{vs:List V}{us:List Value}(rp:qF X.K P α [d,e] vs)(rv:qL vs us):∃ v w u x,vs=[v,w]∧us=[u,x]∧Rep X.K P α d v∧Rep X.K P α e w∧qK v u∧qK w x:=by
 obtain⟨v,ws,rfl,p,t⟩:=rp.cons_inv
 obtain⟨w,ws,rfl,p',t⟩:=t.cons_inv
 have:=t.nil_inv;subst this
 obtain⟨u,x,rfl,q,q'⟩:=iU rv
 exact⟨v,w,u,x,rfl,rfl,p,p',q,q'⟩
def aX (d:D)(S:Sto):Option Nat:=match d with
 |.dct0=>none
 |_=>F1 d S
theorem F2 {H P:Hp}{α : List Addr}{S:Sto}{d:D}{v:V}{n:Nat}(r:Rel X.K H P α S)(p:Rep X.K P α d v)(hn:aX d S=some n):GT X.K v H n:=by
 cases d with
 |str x =>
  cases (show v=.str x from p)
  obtain⟨hl,rfl⟩:=g6 hn
  exact⟨by rw[← xN];exact hl,rfl⟩
 |tup xs =>
  simp only[Rep] at p
  obtain⟨a,ws,rfl,sq,t⟩:=p
  cases hn
  exact .inr ⟨ws,wB r.sub sq,t.length⟩
 |lst xs =>
  simp only[Rep] at p
  obtain⟨a,ws,rfl,sq,t⟩:=p
  cases hn
  exact .inl ⟨ws,(w4 r.sub sq).l,t.length⟩
 |loc i =>
  simp only[Rep] at p
  obtain⟨a,rfl,e⟩:=p
  obtain⟨xs,hS,hn⟩:=F6 (f:=fun xs=>some xs.length) hn
  cases hn
  obtain⟨ws,z,t⟩:=r.at' i a _ e hS
  exact .inl ⟨ws,.of z,t.length⟩
 |_=>exact nn hn
inductive LenD1 (ds:List D)(S:Sto)(r:Res D):Prop
 |bad (e:r=.bad)
 |of (d:D) (n:Nat) (ed:ds=[d]) (hn:aX d S=some n) (e:r=.ok (.int n) S)
theorem NC (ds:List D)(S:Sto):LenD1 ds S (match ds with|[.dct0]=>.bad|_=>dJ ds S):=by
 cases ds with
 |nil=>exact .bad rfl
 |cons d ds =>
  cases ds with
  |cons _ _=>cases d <;> exact .bad rfl
  |nil =>
   have z:(match [d] with|[D.dct0]=>Res.bad|_=>dJ [d] S)=(match aX d S with|some n=>Res.ok (D.int n) S|none=>.bad):=by cases d <;> rfl
   rw[z]
   cases hn:aX d S with
   |none=>exact .bad rfl
   |some n=>exact .of d n rfl hn rfl
theorem PD (hD:True):wG X (.builtin "len") (fun ds S=>match ds with|[.dct0]=>.bad|_=>dJ ds S):=by
 intro pins σ H s P α S vs us ds Q I r rv rp af
 have af1:qI X P α (match ds with|[D.dct0]=>Res.bad|_=>dJ ds S) (OkV X P α Q):=af
 clear af
 cases NC ds S with
 |bad e=>rw[e] at af1;exact False.elim af1
 |of d n ed hn e =>
  rw[e] at af1
  subst ed
  obtain⟨v,u,rfl,rfl,p,q⟩:=yV rp rv
  exact XV pins s σ H _ _ Q I rv ⟨v,n,rfl,F2 r p hn,xr af1 r (by simp only[Rep])⟩
def tyD:D→Sto→Option String
 |.non,_=>some "NoneType"
 |.bl _,_=>some "bool"
 |.int _,_=>some "int"
 |.str _,_=>some "str"
 |.tup _,_=>some "tuple"
 |.lst _,_=>some "list"
 |.dct0,_=>some "dict"
 |.loc i,S=>match S[i]? with
  |some (.lst _)=>some "list"
  |some (.dct _)=>some "dict"
  |_=>none
 |_,_=>none
def xP (a b:String):Bool:=a == b||(a == "bool" && b == "int")
def uC (b:String):Bool:=b == "int" || b == "bool" || b == "tuple" || b == "list" || b == "str" || b == "dict"
def BZ (a b:String):Option Bool:=if (Value.type a == Value.type b)=true then some true else if PySem.W.kitMeta b=true then (fastBuiltinMro a).map (·.contains (.type b)) else none
def tyL:List String:=["NoneType","bool","int","str","tuple","list","dict"]
def okL:List String:=["int","bool","tuple","list","str","dict"]
theorem JX:(tyL.all fun a=>okL.all fun b=>decide (BZ a b=some (xP a b)))=true:=by decide +kernel
theorem FK {b:String}(hb:uC b=true):b∈okL:=by simpa [uC,okL,or_assoc] using hb
theorem JY {K:PySem.W.Frag}{a b:String}(ha:a∈tyL)(hb:uC b=true):PySem.W.kitOne K (.type a) (.type b)=some (xP a b):=
 of_decide_eq_true (p:=BZ a b=some (xP a b)) (List.all_eq_true.mp (List.all_eq_true.mp JX a ha) b (FK hb))
def zD:DF:=fun ds S=>match ds with
 |[d,.ty b]=>if uC b then match tyD d S with
   |some a=>.ok (.bl (xP a b)) S
   |none=>.bad
  else .bad
 |_=>.bad
inductive TyV (X:Cx)(H:Hp)(v:V)(a:String):Prop
 |of (t:TyOf X.K H v (.type a))
 |tup (p:Addr) (vs:List V) (e:v=.ref p) (q:SqT X.K H p vs) (ea:a = "tuple")
 |lst (p:Addr) (vs:List V) (e:v=.ref p) (q:SqL X.K H p vs) (ea:a = "list")
theorem MX {d:D}{S:Sto}{a:String}(h:tyD d S=some a):a∈tyL:=by
 cases d with
 |non=>cases h;exact .head _
 |bl b=>cases h;exact .tail _ (.head _)
 |int i=>cases h;exact .tail _ (.tail _ (.head _))
 |str x=>cases h;exact .tail _ (.tail _ (.tail _ (.head _)))
 |tup xs=>cases h;exact .tail _ (.tail _ (.tail _ (.tail _ (.head _))))
 |lst xs=>cases h;exact .tail _ (.tail _ (.tail _ (.tail _ (.tail _ (.head _)))))
 |dct0=>cases h;exact .tail _ (.tail _ (.tail _ (.tail _ (.tail _ (.tail _ (.head _))))))
 |loc i =>
  rcases tG (f:=fun _=>some "list") (g:=fun _=>some "dict") h with⟨_,_,h⟩|⟨_,_,h⟩
  ·cases h;exact .tail _ (.tail _ (.tail _ (.tail _ (.tail _ (.head _)))))
  ·cases h;exact .tail _ (.tail _ (.tail _ (.tail _ (.tail _ (.tail _ (.head _))))))
 |_=>exact nn h
theorem LC {H P:Hp}{α : List Addr}{S:Sto}{d:D}{v:V}{a:String}(r:Rel X.K H P α S)(p:Rep X.K P α d v)(h:tyD d S=some a):TyV X H v a:=by
 cases d with
 |non=>cases h;cases (show v=.non from p);exact .of .non
 |bl b=>cases h;cases (show v=.bl b from p);exact .of (.bl b)
 |int i=>cases h;cases (show v=.int i from p);exact .of (.int i)
 |str x=>cases h;cases (show v=.str x from p);exact .of (.str x)
 |tup xs =>
  cases h
  simp only[Rep] at p
  obtain⟨a,vs,e,q,t⟩:=p
  exact .tup a vs e (wB r.sub q) rfl
 |lst xs =>
  cases h
  simp only[Rep] at p
  obtain⟨a,vs,e,q,t⟩:=p
  exact .lst a vs e (w4 r.sub q).l rfl
 |dct0 =>
  cases h
  simp only[Rep] at p
  obtain⟨a,rfl,q⟩:=p
  exact .of (.dK (r.sub _ _ q))
 |loc i =>
  simp only[Rep] at p
  obtain⟨a,rfl,q⟩:=p
  rcases tG (f:=fun _=>some "list") (g:=fun _=>some "dict") h with⟨xs,hS,h⟩|⟨kvs,hS,h⟩
  ·cases h
   obtain⟨vs,z,t⟩:=r.at' i a _ q hS
   exact .of (.lst z)
  ·cases h
   obtain⟨vs,z,t⟩:=r.at' i a _ q hS
   exact .of (.dK z)
 |_=>exact nn h
inductive IsiV (ds:List D)(S:Sto):Prop
 |bad (e:zD ds S=.bad)
 |of (d:D) (b a:String) (ed:ds=[d,.ty b]) (hb:uC b=true) (ha:tyD d S=some a) (e:zD ds S=.ok (.bl (xP a b)) S)
theorem D6 (ds:List D)(S:Sto):IsiV ds S:=by
 cases ds with
 |nil=>exact .bad rfl
 |cons d ds =>
  cases ds with
  |nil=>exact .bad rfl
  |cons e ds =>
   cases ds with
   |cons _ _=>cases e <;> exact .bad rfl
   |nil =>
    cases e with
    |ty b =>
     have z:zD [d,.ty b] S=if uC b then (match tyD d S with|some a=>.ok (.bl (xP a b)) S|none=>.bad) else .bad:=rfl
     by_cases hb:uC b=true
     ·rw[if_pos hb] at z
      cases ha:tyD d S with
      |none=>rw[ha] at z;exact .bad z
      |some a=>rw[ha] at z;exact .of d b a rfl hb ha z
     ·rw[if_neg hb] at z
      exact .bad z
    |_=>exact .bad rfl
theorem o8:wG X (.builtin "isinstance") zD:=by
 intro pins σ H s P α S vs us ds Q I r rv rp af
 cases D6 ds S with
 |bad e=>rw[e] at af;exact False.elim af
 |of d b a ed hb ha e =>
  subst ed
  rw[e] at af
  obtain⟨v,w,u,x,rfl,rfl,p,p',q,q'⟩:=mG rp rv
  simp only[Rep] at p'
  subst p'
  cases (show x=Value.type b from q')
  have kit:=JY (K:=X.K) (MX ha) hb
  have fin:∀ tk,EP X pins σ Q (.bool (xP a b)) { s with toks:=tk }:=fun tk=>⟨.bl _,H,I.tok tk,rfl,xr af r (by simp only[Rep])⟩
  cases LC r p ha with
  |of ht=>exact oZ I q ht kit fin
  |tup p' ws e sq ea =>
   subst e ea
   cases (show u=Value.ref p' from q)
   obtain⟨its,rv',⟨o,h1,h2,_⟩,_⟩:=I.tuple sq
   exact PySem.W.kia_one PySem.W.kitx_tuple I.kIn ⟨o,h1,h2⟩ kit (fun z=>nomatch z) fin
  |lst p' ws e sq ea =>
   subst e ea
   cases (show u=Value.ref p' from q)
   obtain⟨its,rv',⟨o,_,h1,h2,_⟩,_⟩:=I.list sq
   exact PySem.W.kia_one PySem.W.kitx_list I.kIn ⟨o,h1,h2⟩ kit (fun z=>nomatch z) fin
def xL:List D→Option (List Bool)
 |[]=>some []
 |.bl b::r=>(xL r).map (b::·)
 |_=>none
theorem vG {P:Hp}{α : List Addr}:∀ {ds:List D} {bs:List Bool} {vs:List V} {us:List Value},xL ds=some bs→qF X.K P α ds vs→qL vs us→us=bs.map Value.bool
 |[],bs,vs,us,h,rp,rv=>by
  cases h
  have:=rp.nil_inv;subst this
  cases rv;rfl
 |d::ds,bs,vs,us,h,rp,rv=>by
  cases d with
  |bl b =>
   obtain⟨bs',q,rfl⟩:=Option.map_eq_some_iff.mp (show (xL ds).map (b::·)=some bs from h)
   obtain⟨w,ws,rfl,p,t⟩:=rp.cons_inv
   simp only[Rep] at p;subst p
   cases rv with
   |cons q1 q2 =>
    cases (show _=Value.bool b from q1)
    rw[vG q t q2]
    rfl
  |_=>exact nn h
def u8 (any:Bool):DF:=fun ds S=>match ds with
 |[d]=>match (xB d).bind xL with
  |some bs=>.ok (.bl (if any then bs.any id else bs.all id)) S
  |none=>.bad
 |_=>.bad
theorem nW (bs:List Bool):((List.range bs.length).all fun i=>bs.getD i false)=bs.all id:=by
 induction bs with
 |nil=>rfl
 |cons b bs ih =>
  rw[List.length_cons,List.range_succ_eq_map,List.all_cons,List.all_map,List.all_cons,← ih]
  rfl
theorem nX (bs:List Bool):((List.range bs.length).any fun i=>bs.getD i false)=bs.any id:=by
 induction bs with
 |nil=>rfl
 |cons b bs ih =>
  rw[List.length_cons,List.range_succ_eq_map,List.any_cons,List.any_map,List.any_cons,← ih]
  rfl
theorem Q0 {pins:List (Addr × Obj)}{σ : _L.St}{H:Hp}{s:Shared}{o:Obj}{h':Heap}{tk:Nat}(I:Inv X pins σ H s)(k:∀ b ob,b ∉ [s.heap.objs.size]→(s.heap.push o).get? b=some ob→h'.get? b=some ob):Inv X pins σ H { s with heap:=h',toks:=tk }:=
 I.kept fun b u e=>k b u (by simp;exact Nat.ne_of_lt (Heap.lt_size e)) (Heap.get?_push_of_some _ e)
theorem jT {bs:List Bool}{its:List Value}(hi:its=bs.map Value.bool){A:Around}:TruthOf X.prog X.w A (fun i v=>its.toArray[i]? = some v) (fun i=>bs.getD i false):=fun i v s' Q' E' hv hQ=>by
 subst hi
 have hv':(bs.map Value.bool)[i]? = some v:=by simpa using hv
 rw[List.getElem?_map] at hv'
 cases e:bs[i]? with
 |none=>rw[e] at hv';exact nn hv'
 |some b =>
  rw[e] at hv'
  cases Option.some.inj hv'
  have:bs.getD i false=b:=by simp[List.getD,e]
  have hQ':Q' (bs.getD i false) s':=hQ
  rw[this] at hQ'
  exact wpAny_truthy_bool hQ'
theorem JI {any:Bool}{ds:List D}{S:Sto}{P:Hp}{α : List Addr}{Ok:D→Sto→Prop}(h:qI X P α (u8 any ds S) Ok):∃ d xs bs,ds=[d]∧ItV d xs∧xL xs=some bs∧Ok (.bl (if any then bs.any id else bs.all id)) S:=by
 obtain⟨d,rfl,h1⟩:=sJ (X:=X) (β:=D) (g:=fun d=>match (xB d).bind xL with|some bs=>.ok (D.bl (if any then bs.any id else bs.all id)) S|none=>.bad) h
 cases hb:(xB d).bind xL with
 |none=>rw[hb] at h1;exact False.elim h1
 |some bs =>
  rw[hb] at h1
  obtain⟨xs,hx,hbs⟩:=Option.bind_eq_some_iff.mp hb
  exact⟨d,xs,bs,rfl,itV hx,hbs,h1⟩
theorem P9 (any:Bool)(hc:X.calm=true):wG X (.builtin (if any then "any" else "all")) (u8 any):=by
 intro pins σ H s P α S vs us ds Q I r rv rp af
 obtain⟨d,xs,bs,ed,hd,hbs,ok⟩:=JI af
 clear af
 subst ed
 obtain⟨v,u,rfl,rfl,p,q⟩:=yV rp rv
 clear rp
 have fin:∀ {o:Obj} (h':Heap) (tk:Nat),(∀ b ob,b ∉ [s.heap.objs.size]→(s.heap.push o).get? b=some ob→h'.get? b=some ob)→EP X pins σ Q (.bool (if any then bs.any id else bs.all id)) { s with heap:=h',toks:=tk }:=
  fun {o} h' tk k=>⟨.bl _,H,Q0 I k,rfl,xr ok r (by simp only[Rep])⟩
 clear rv ok
 have hh:X.A.in1.handled=none:=I.ok.hd hc
 cases hd with
 |tup ed =>
  subst ed
  obtain⟨a,ws,its,rfl,sq,t,rvi,ht,hl,_⟩:=vZ I r p
  cases (show u=Value.ref a from q)
  have hi:=vG hbs t rvi
  have hlen:its.toArray.size=bs.length:=by rw[hi];simp
  have hne:a≠s.heap.objs.size:=by obtain⟨o,e,_⟩:=ht;exact Nat.ne_of_lt (Heap.lt_size e)
  have W:=Walks.tuple (prog:=X.prog) (w:=X.w) hh s.heap.objs.size a hne its.toArray
  have hT:∀ o,(s.heap.push o).IsTuple a its.toArray:=fun o=>by obtain⟨o,e,c⟩:=ht;exact⟨o,Heap.get?_push_of_some _ e,c⟩
  have ht':s.heap.IsTuple a its.toArray:=ht
  cases any with
  |false =>
   refine call_all_walk (wpAny_pyIter_tuple ht' ⟨s.heap.objs.size,_,_,_,_,_,_,rfl,W,⟨⟨_,Heap.get?_push_size _ rfl,rfl,rfl⟩,hT _⟩,jT hi,fun h' tk k=>?_⟩)
   rw[hlen,nW]
   exact fin h' tk k
  |true =>
   refine call_any_walk (wpAny_pyIter_tuple ht' ⟨s.heap.objs.size,_,_,_,_,_,_,rfl,W,⟨⟨_,Heap.get?_push_size _ rfl,rfl,rfl⟩,hT _⟩,jT hi,fun h' tk k=>?_⟩)
   rw[hlen,nX]
   exact fin h' tk k
 |lst ed =>
  subst ed
  obtain⟨a,ws,its,n,rfl,sq,t,rvi,ht,hl,_⟩:=yR I r p
  cases (show u=Value.ref a from q)
  have hL:s.heap.IsList a its.toArray:=⟨_,ht,rfl,n,rfl⟩
  have hi:=vG hbs t rvi
  have hlen:its.toArray.size=bs.length:=by rw[hi];simp
  have hne:a≠s.heap.objs.size:=Nat.ne_of_lt (Heap.lt_size ht)
  have W:=Walks.list (prog:=X.prog) (w:=X.w) hh s.heap.objs.size a hne its.toArray
  have hL':∀ o,(s.heap.push o).IsList a its.toArray:=fun o=>⟨_,Heap.get?_push_of_some _ ht,rfl,n,rfl⟩
  cases any with
  |false =>
   refine call_all_walk (wpAny_pyIter_list hL ⟨s.heap.objs.size,_,_,_,_,_,_,rfl,W,⟨⟨_,Heap.get?_push_size _ rfl,rfl,rfl⟩,hL' _⟩,jT hi,fun h' tk k=>?_⟩)
   rw[hlen,nW]
   exact fin h' tk k
  |true =>
   refine call_any_walk (wpAny_pyIter_list hL ⟨s.heap.objs.size,_,_,_,_,_,_,rfl,W,⟨⟨_,Heap.get?_push_size _ rfl,rfl,rfl⟩,hL' _⟩,jT hi,fun h' tk k=>?_⟩)
   rw[hlen,nX]
   exact fin h' tk k
def dI:DF:=fun ds S=>match ds with
 |[.int i]=>.ok (.int i) S
 |[.bl b]=>.ok (.int (b01 b)) S
 |_=>.bad
inductive IntV (ds:List D)(S:Sto):Prop
 |bad (e:dI ds S=.bad)
 |int (i:Int) (e:ds=[.int i])
 |bl (b:Bool) (e:ds=[.bl b])
theorem D3 (ds:List D)(S:Sto):IntV ds S:=by
 cases ds with
 |nil=>exact .bad rfl
 |cons d ds =>
  cases ds with
  |cons _ _=>cases d <;> exact .bad rfl
  |nil =>
   cases d with
   |int i=>exact .int i rfl
   |bl b=>exact .bl b rfl
   |_=>exact .bad rfl
theorem PC:wG X (.type "int") dI:=by
 intro pins σ H s P α S vs us ds Q I r rv rp af
 cases D3 ds S with
 |bad e=>rw[e] at af;exact False.elim af
 |int i e =>
  subst e
  obtain⟨v,u,rfl,rfl,p,q⟩:=yV rp rv
  exact n6 pins s σ H _ _ Q I rv (.inl ⟨_,by rw[wA p],xr af r (by simp only[Rep])⟩)
 |bl b e =>
  subst e
  obtain⟨v,u,rfl,rfl,p,q⟩:=yV rp rv
  simp only[Rep] at p;subst p
  exact n6 pins s σ H _ _ Q I rv (.inr ⟨_,rfl,xr af r (by simp only[Rep];rfl)⟩)
def xX:DF:=fun ds S=>match ds with
 |[d]=>match xB d with
  |some xs=>.ok (.tup xs) S
  |none=>.bad
 |_=>.bad
theorem XZ:wG X (.type "tuple") xX:=by
 intro pins σ H s P α S vs us ds Q I r rv rp af
 obtain⟨d,rfl,af1⟩:=sJ (X:=X) (β:=D) (g:=fun d=>match xB d with|some xs=>.ok (D.tup xs) S|none=>.bad) af
 obtain⟨xs,hx,af2⟩:∃ xs,xB d=some xs∧OkV X P α Q (.tup xs) S:=by
  cases hx:xB d with
  |none=>rw[hx] at af1;exact False.elim af1
  |some xs=>rw[hx] at af1;exact⟨xs,rfl,af1⟩
 obtain⟨v,u,rfl,rfl,p,q⟩:=yV rp rv
 cases itV hx with
 |tup e =>
  subst e
  have p0:=p
  simp only[Rep] at p
  obtain⟨a,ws,rfl,sq,t⟩:=p
  exact gL pins s σ H _ _ Q I rv ⟨a,ws,rfl,.inr ⟨wB r.sub sq,xr af2 r p0⟩⟩
 |lst e =>
  subst e
  simp only[Rep] at p
  obtain⟨a,ws,rfl,sq,t⟩:=p
  exact gL pins s σ H _ _ Q I rv ⟨a,ws,rfl,.inl ⟨(w4 r.sub sq).l,fun l hl=>gC r hl t af2⟩⟩
def pR:DF:=fun ds S=>match ds with
 |[d]=>match xB d with
  |some xs=>.ok (.lst xs) S
  |none=>.bad
 |_=>.bad
theorem UN:wG X (.type "list") pR:=by
 intro pins σ H s P α S vs us ds Q I r rv rp af
 obtain⟨d,rfl,af1⟩:=sJ (X:=X) (β:=D) (g:=fun d=>match xB d with|some xs=>.ok (D.lst xs) S|none=>.bad) af
 obtain⟨xs,hx,af2⟩:∃ xs,xB d=some xs∧OkV X P α Q (.lst xs) S:=by
  cases hx:xB d with
  |none=>rw[hx] at af1;exact False.elim af1
  |some xs=>rw[hx] at af1;exact⟨xs,rfl,af1⟩
 obtain⟨v,u,rfl,rfl,p,q⟩:=yV rp rv
 cases itV hx with
 |tup e =>
  subst e
  simp only[Rep] at p
  obtain⟨a,ws,rfl,sq,t⟩:=p
  exact gR pins s σ H _ _ Q I rv ⟨a,ws,rfl,.inr (wB r.sub sq),fun l hl=>v6 r hl t af2⟩
 |lst e =>
  subst e
  simp only[Rep] at p
  obtain⟨a,ws,rfl,sq,t⟩:=p
  exact gR pins s σ H _ _ Q I rv ⟨a,ws,rfl,.inl ((w4 r.sub sq).l),fun l hl=>v6 r hl t af2⟩
end
end _D
end
section
namespace _D
open PySem PySem.Spec PyProof.Rows _L
def zW (tp:Bool)(h:Heap)(it l:Addr)(k:Nat):Prop:=if tp then h.IsTupleIter it l k else h.IsListIter it l k
def wI (tp:Bool)(h:Heap)(l:Addr)(xs:Array Value):Prop:=if tp then h.IsTuple l xs else h.IsList l xs
theorem zW.keep {tp:Bool}{h h':Heap}{it l:Addr}{k:Nat}(x:zW tp h it l k)(q:∀ o,h.get? it=some o→h'.get? it=some o):zW tp h' it l k:=by
 cases tp <;> (obtain⟨o,e,r⟩:=x;exact⟨o,q o e,r⟩)
theorem wI.keep {tp:Bool}{h h':Heap}{l:Addr}{xs:Array Value}(x:wI tp h l xs)(q:∀ o,h.get? l=some o→h'.get? l=some o):wI tp h' l xs:=by
 cases tp <;> (obtain⟨o,e,r⟩:=x;exact⟨o,q o e,r⟩)
theorem zW.there {tp:Bool}{h:Heap}{it l:Addr}{k:Nat}(x:zW tp h it l k):∃ o,h.get? it=some o∧∀ v,o.data≠.cell v:=by
 cases tp <;> (obtain⟨o,e,_,d⟩:=x;exact⟨o,e,fun v z=>by rw[d] at z;cases z⟩)
section
variable {prog:Program}{w:World}{A:Around}{E:Value→Shared→Prop}{s:Shared}
theorem WY {it t:Addr}{i:Nat}{items:Array Value}{x:Value}{Q:Value→Shared→Prop}(hit:s.heap.IsTupleIter it t i)(ht:s.heap.IsTuple t items)(hx:items[i]? = some x)
  (hQ:∀ h',h'.IsTupleIter it t (i+1)→Heap.SameBut it s.heap h'→Q x { s with heap:=h' }) : wpAny (model prog w) A (Builtin.SmallTypes.nextOf (.ref it)) Q E s:=by
 obtain⟨o,e,c,d⟩:=id hit
 obtain⟨u,eu,_,m,du⟩:=ht
 unfold Builtin.SmallTypes.nextOf
 refine wpAny_bind (wpAny_callSpecial?_slot (name:=Str.ofString "__next__") hit.typeIs F.slot_tuple_iterator_next (wpAny_call_entry F.slot_tuple_iterator_next hit.typeIs F.entry_tuple_iterator_next ?_ (F.args_tuple_iterator_next_1 _)))
 show wpAny _ _ (field (.ref it) 0 >>= _) _ _ s;refine wpAny_bind (wpAny_field e d (x:=.ref t) rfl ?_)
 show wpAny _ _ (if (Value.ref t == Value.none)=true then _ else _) _ _ s;rw[if_neg (show ¬ ((Value.ref t == Value.none)=true) from Bool.false_ne_true)]
 show wpAny _ _ (field (.ref it) 1 >>= _) _ _ s;refine wpAny_bind (wpAny_field e d (x:=.int i 0) rfl ?_)
 show wpAny _ _ (seqItems? (.ref t) >>= _) _ _ s;refine wpAny_bind (wpAny_seqItems eu du ?_)
 simp only[Int.toNat_natCast,hx]
 refine wpAny_bind (wpAny_setField e d (by simp) (wpAny_pure ⟨x,rfl,wpAny_pure (hQ _ ⟨_,Heap.get?_update_self _ e (Obj.isFreed_of_fields (Obj.data_mapFields d _)),(Obj.cls_mapFields ..).trans c,?_⟩ (Heap.SameBut.update ..))⟩))
 rw[Obj.data_mapFields d];simp[rawInt]
theorem sE {it t:Addr}{i:Nat}{items:Array Value}{Q:Value→Shared→Prop}(hh:A.handled=none)(hit:s.heap.IsTupleIter it t i)(ht:s.heap.IsTuple t items)(hx:items[i]? = none)
  (hE:∀ h' e,Heap.ExtBut it s.heap h'→(∃ o,h'.get? e=some o∧o.cls=.type "StopIteration")→E (.ref e) { s with heap:=h' }) : wpAny (model prog w) A (Builtin.SmallTypes.nextOf (.ref it)) Q E s:=by
 obtain⟨o,e,c,d⟩:=id hit
 obtain⟨u,eu,_,m,du⟩:=ht
 unfold Builtin.SmallTypes.nextOf
 refine wpAny_bind (wpAny_callSpecial?_slot (name:=Str.ofString "__next__") hit.typeIs F.slot_tuple_iterator_next (wpAny_call_entry F.slot_tuple_iterator_next hit.typeIs F.entry_tuple_iterator_next ?_ (F.args_tuple_iterator_next_1 _)))
 show wpAny _ _ (field (.ref it) 0 >>= _) _ _ s;refine wpAny_bind (wpAny_field e d (x:=.ref t) rfl ?_)
 show wpAny _ _ (if (Value.ref t == Value.none)=true then _ else _) _ _ s;rw[if_neg (show ¬ ((Value.ref t == Value.none)=true) from Bool.false_ne_true)]
 show wpAny _ _ (field (.ref it) 1 >>= _) _ _ s;refine wpAny_bind (wpAny_field e d (x:=.int i 0) rfl ?_)
 show wpAny _ _ (seqItems? (.ref t) >>= _) _ _ s;refine wpAny_bind (wpAny_seqItems eu du ?_)
 simp only[Int.toNat_natCast,hx];refine wpAny_bind (wpAny_rule (wpAny_bind (wpAny_setField e d (by simp) ?_)))
 show wpAny _ _ (newExc (.type "StopIteration") [] >>= _) _ _ _;refine wpAny_bind ?_
 simp only[newExc,newTuple];refine wpAny_bind (wpAny_newObj_type ?_ (by size_fits))
 refine wpAny_bind (m:=firstArgMember _ _) (wpAny_of_eq (a:=Value.none) (by first|rfl|(simp only[firstArgMember];rfl)) (wpAny_newObj_type ?_ (by size_fits)))
 simp only[raiseNew];refine wpAny_bind (wpAny_handled ?_)
 first|rw[show A.in1.handled=none from hh]|rw[hh]
 exact wpAny_bind (wpAny_pure (wpAny_throw (hE _ _ (((Heap.SameBut.update ..).extBut.push _).push _) ⟨_,Heap.get?_push_size _ rfl,rfl⟩)))
theorem bT {tp:Bool}{it l:Addr}{k:Nat}{xs:Array Value}{x:Value}{Q:Value→Shared→Prop}(hit:zW tp s.heap it l k)(hl:wI tp s.heap l xs)(hx:xs[k]? = some x)
  (hQ:∀ h',zW tp h' it l (k+1)→Heap.SameBut it s.heap h'→Q x { s with heap:=h' }) : wpAny (model prog w) A (Builtin.SmallTypes.nextOf (.ref it)) Q E s:=by
 cases tp with
 |false=>exact wpAny_nextOf_list_item hit hl hx hQ
 |true=>exact WY hit hl hx hQ
theorem pB {tp:Bool}{it l:Addr}{k:Nat}{xs:Array Value}{Q:Value→Shared→Prop}(hh:A.handled=none)(hit:zW tp s.heap it l k)(hl:wI tp s.heap l xs)(hx:xs[k]? = none)
  (hE:∀ h' e,Heap.ExtBut it s.heap h'→(∃ o,h'.get? e=some o∧o.cls=.type "StopIteration")→E (.ref e) { s with heap:=h' }) : wpAny (model prog w) A (Builtin.SmallTypes.nextOf (.ref it)) Q E s:=by
 cases tp with
 |false=>exact wpAny_nextOf_list_end hh hit hl hx hE
 |true=>exact sE hh hit hl hx hE
structure ZA (z I O i j:Addr):Prop where
 Iz:I≠z
 Oz:O≠z
 iz:i≠z
 jz:j≠z
 IO:I≠O
 Ii:I≠i
 Ij:I≠j
 Oi:O≠i
 Oj:O≠j
 ij:i≠j
structure Off (z O i j a:Addr):Prop where
 z:a≠z
 O:a≠O
 i:a≠i
 j:a≠j
abbrev XO (z O i j:Addr)(h h':Heap):Prop:=∀ c o,c≠z→c≠O→c≠i→c≠j→h.get? c=some o→h'.get? c=some o
theorem YW {tp tq:Bool}{z I O i j a b:Addr}{k:Nat}{xs ys:Array Value}{x y p q:Value}{Q:Value→Shared→Prop}(D:ZA z I O i j)(Da:Off z O i j a)(Db:Off z O i j b)
  (hz:IsZip s.heap z I O .none) (hI:IsPair s.heap I (.ref i) (.ref j)) (hO:IsPair s.heap O p q) (h1:zW tp s.heap i a k) (h2:zW tq s.heap j b k) (ha:wI tp s.heap a xs) (hb:wI tq s.heap b ys) (hx:xs[k]? = some x) (hy:ys[k]? = some y)
  (hQ:∀ h',IsZip h' z I O (rawInt s.heap.objs.size)→IsPair h' O x y→zW tp h' i a (k+1)→zW tq h' j b (k+1)→IsPair h' s.heap.objs.size x y→h'.objs.size=s.heap.objs.size+1→XO z O i j s.heap h'→Q (.ref s.heap.objs.size) { s with heap:=h' }) :
  wpAny (model prog w) A (Builtin.«zip.__next__» ⟨[.ref z],[]⟩) (fun fin s'=>∃ v,fin=.done (.ret v)∧Q v s') E s:=by
 show wpAny _ _ (field (.ref z) 2 >>= _) _ _ _;refine wpAny_bind (wpAny_field hz rfl (x:=.bool false) rfl ?_)
 show wpAny _ _ (field (.ref z) 3 >>= _) _ _ _;refine wpAny_bind (wpAny_field hz rfl (x:=.ref I) rfl (wpAny_bind (wpAny_seqItems hI rfl ?_)))
 show wpAny _ _ (Builtin.SmallTypes.ownedTupleIsFree (.ref z) >>= _) _ _ _;refine wpAny_bind ?_
 unfold Builtin.SmallTypes.ownedTupleIsFree;refine wpAny_bind (wpAny_field hz rfl (x:=.none) rfl (wpAny_pure ?_))
 simp only[if_true];refine wpAny_bind (wpAny_rule (wpAny_bind (wpAny_field hz rfl (x:=.ref O) rfl (wpAny_bind (wpAny_setField_rec hz (by simp) fun g1 z1 s1=>?_)))))
 replace z1:IsZip g1 z I O .ellipsis:=z1
 refine wpAny_bind ?_;simp only[List.zipIdx_cons,List.zipIdx_nil,List.forIn_cons,List.forIn_nil]
 refine wpAny_bind (wpAny_bind (wpAny_onRaise ?_));show wpAny _ _ (Builtin.SmallTypes.nextOf (.ref i) >>= _) _ _ _
 refine wpAny_bind (bT (h1.keep fun o e=>s1.extBut _ _ D.iz e) (ha.keep fun o e=>s1.extBut _ _ Da.z e) hx fun g2 i2 s2=>wpAny_pure ?_)
 have O2:IsPair g2 O p q:=s2.extBut _ _ D.Oi (s1.extBut _ _ D.Oz hO)
 refine wpAny_bind (wpAny_seqItems O2 rfl (wpAny_bind (wpAny_updateSeq_pair O2 fun g3 O3 s3=>wpAny_bind (wpAny_letGo (wpAny_pure ?_)))))
 replace O3:IsPair g3 O x q:=O3
 refine wpAny_bind (wpAny_bind (wpAny_onRaise ?_));show wpAny _ _ (Builtin.SmallTypes.nextOf (.ref j) >>= _) _ _ _
 refine wpAny_bind (bT (h2.keep fun o e=>s3.extBut _ _ D.Oj.symm (s2.extBut _ _ D.ij.symm (s1.extBut _ _ D.jz e))) (hb.keep fun o e=>s3.extBut _ _ Db.O (s2.extBut _ _ Db.i (s1.extBut _ _ Db.z e))) hy fun g4 j4 s4=>wpAny_pure ?_)
 have O4:IsPair g4 O x q:=s4.extBut _ _ D.Oj O3
 refine wpAny_bind (wpAny_seqItems O4 rfl (wpAny_bind (wpAny_updateSeq_pair O4 fun g5 O5 s5=>wpAny_bind (wpAny_letGo (wpAny_pure (wpAny_pure ?_))))))
 replace O5:IsPair g5 O x y:=O5
 refine wpAny_bind (wpAny_seqItems O5 rfl (wpAny_bind (wpAny_newTuple ?_)))
 have sz:g5.objs.size=s.heap.objs.size:=by rw[s5.1,s4.1,s3.1,s2.1,s1.1]
 have z5:IsZip g5 z I O .ellipsis:=s5.extBut _ _ D.Oz.symm (s4.extBut _ _ D.jz.symm (s3.extBut _ _ D.Oz.symm (s2.extBut _ _ D.iz.symm z1)))
 have k5:XO z O i j s.heap g5:=fun c o c1 c2 c3 c4 e=>s5.extBut _ _ c2 (s4.extBut _ _ c4 (s3.extBut _ _ c2 (s2.extBut _ _ c3 (s1.extBut _ _ c1 e))))
 have i5:zW tp g5 i a (k+1):=i2.keep fun o e=>s5.extBut _ _ D.Oi.symm (s4.extBut _ _ D.ij (s3.extBut _ _ D.Oi.symm e))
 have j5:zW tq g5 j b (k+1):=j4.keep fun o e=>s5.extBut _ _ D.Oj.symm e
 have zl:z<g5.objs.size:=Heap.lt_size z5
 show wpAny _ _ (Builtin.SmallTypes.ownedTupleHandOut (.ref z) (.ref g5.objs.size) >>= _) _ _ _
 refine wpAny_bind ?_;unfold Builtin.SmallTypes.ownedTupleHandOut
 have z6:IsZip (g5.push { cls:=.type "tuple",data:=.seq #[x,y] }) z I O .ellipsis:=Heap.get?_push_of_some _ z5
 refine wpAny_bind (wpAny_setField_rec z6 (by simp) fun g7 z7 s7=>?_)
 replace z7:IsZip g7 z I O (rawInt g5.objs.size):=z7
 refine wpAny_setField_rec z7 (by simp) fun g8 z8 s8=>?_
 replace z8:IsZip g8 z I O (rawInt g5.objs.size):=z8
 have up:∀ c o,c≠z→g5.get? c=some o→g8.get? c=some o:=fun c o c1 e=>s8.extBut _ _ c1 (s7.extBut _ _ c1 (Heap.get?_push_of_some _ e))
 have T8:IsPair g8 g5.objs.size x y:=s8.extBut _ _ (Nat.ne_of_gt zl) (s7.extBut _ _ (Nat.ne_of_gt zl) (Heap.get?_push_size _ rfl))
 have sz8:g8.objs.size=g5.objs.size+1:=by rw[s8.1,s7.1,Heap.size_push]
 rw[sz] at z8 T8 sz8
 refine wpAny_pure ⟨_,rfl,?_⟩
 show Q (.ref g5.objs.size) _
 rw[sz]
 exact hQ g8 z8 (up _ _ D.Oz O5) (i5.keep fun o e=>up _ o D.iz e) (j5.keep fun o e=>up _ o D.jz e) T8 sz8 fun c o c1 c2 c3 c4 e=>up c o c1 (k5 c o c1 c2 c3 c4 e)
end
end _D
end
section
namespace _D
open PySem PySem.Spec PyProof.Rows _L
theorem zO.there {P:Program}{w:World}{H:Hp}{h:Heap}{a:Addr}{o:HO}(x:zO P w H h a o):∃ ob,h.get? a=some ob:=by
 cases o with
 |lst xs=>obtain⟨_,_,_,_,e⟩:=x;exact⟨_,e⟩
 |tup xs=>obtain⟨_,_,_,ob,e,_⟩:=x;exact⟨_,e⟩
 |dK kvs=>obtain⟨_,_,_,_,o,_,_,e,_⟩:=x;exact⟨_,e⟩
 |dT kvs=>obtain⟨_,_,_,_,o,_,_,e,_⟩:=x;exact⟨_,e⟩
 |set S n=>obtain⟨o,_,_,_,e,_⟩:=x;exact⟨_,e⟩
 |ins C dx fs=>obtain⟨_,_,_,e,_⟩:=x;exact⟨_,e⟩
 |own y=>obtain⟨_,e⟩:=x;exact⟨_,e⟩
 |xd fs=>obtain⟨_,⟨_,_,_,e,_⟩,_⟩:=x;exact⟨_,e⟩
 |rng lo hi=>obtain⟨_,_,_,e⟩:=x;exact⟨_,e⟩
 |frz ob u=>obtain⟨e,_⟩:=x;exact⟨_,e⟩
 |tbl ps=>exact⟨_,show h.get? a=some _ from x⟩
 |met f y=>exact⟨_,show h.get? a=some _ from x⟩
 |ext φ => obtain⟨_,e,_⟩:=x;exact e
section
variable {X:Cx}{pins:List (Addr × Obj)}{σ : _L.St}{H:Hp}{s:Shared}{B h':Heap}
abbrev Fn1 (X:Cx):Prop:=X.ex=[]∧X.stack=X.env::X.outer∧X.env.frame=some X.env.locals
theorem Fn1.mem (F:Fn1 X){b:Addr}:b∈frs X.stack↔b=X.env.locals∨b∈X.fs:=by
 rw[F.2.1]
 unfold frs
 rw[List.filterMap_cons,F.2.2]
 exact List.mem_cons
theorem Old.there (I:Inv X pins σ H s)(F:Fn1 X){b:Addr}(o:Old X pins H b):∃ ob,s.heap.get? b=some ob:=by
 rcases o with⟨o,e⟩|e|⟨p,hp,rfl⟩|⟨x,e⟩
 ·exact I.base.there b o e (by rw[F.1];simp)
 ·cases q:H b with
  |none=>exact absurd q e
  |some u=>exact zO.there (I.hok b u q)
 ·exact⟨_,(I.pin p hp).1⟩
 ·obtain⟨v,ob,ho,_⟩:=I.cell x b e
  exact⟨ob,ho⟩
theorem Inv.fly (I:Inv X pins σ H s)(F:Fn1 X)(cv:Cv X pins H B s.heap)(st:B.StaysIn h')(up:s.heap.UpToSlots h'):Inv X pins σ H { s with heap:=h' } ∧ Cv X pins H B h':=by
 have kp:∀ b o,s.heap.get? b=some o→Old X pins H b→b ∉ frs X.stack→h'.get? b=some o:=fun b o e q n=>st b o (cv b o e q n)
 have neL:∀ b o,X.s₀.heap.get? b=some o→b≠X.env.locals:=fun b o e=>Nat.ne_of_lt (Nat.lt_of_lt_of_le (Heap.lt_size e) I.ok.above)
 have nofr:∀ b o,X.s₀.heap.get? b=some o→b ∉ X.fs→b ∉ frs X.stack:=fun b o e n z=>(F.mem.mp z).elim (neL b o e) n
 have nx:∀ b,b ∉ X.ex:=fun b=>by rw[F.1];simp
 have frU:∀ b,b∈frs X.stack→∀ o,s.heap.get? b=some o→∃ sl,h'.get? b=some { o with slots:=sl }:=fun b hb o e=>by
  obtain⟨_,o',e',nf⟩:=I.stack.mem hb
  rw[e] at e';cases e'
  exact up b o e nf
 have cellK:∀ x c,X.env.cells.lookup x=some c→∀ v,s.heap.IsCell c v→h'.IsCell c v:=fun x c e v ⟨o,ho,hd⟩=>by
  obtain⟨sl,q⟩:=up c o ho fun vs z=>by rw[hd] at z;cases z
  exact⟨_,q,hd⟩
 refine⟨⟨I.ok,I.os,I.bare,⟨fun b o e n hb hx=>?_,fun b o e n hb hx=>?_,I.base.free,fun b o e hx=>?_,I.base.tups,I.base.frzs,I.base.tbls⟩,?_,fun x c e=>?_,I.free,I.freeC,fun p hp=>?_,fun a o e=>?_,I.len⟩,fun b o e q n=>?_⟩
 ·exact kp b o (I.base.keep b o e n hb hx) (.inl ⟨o,e⟩) (nofr b o e hb)
 ·obtain⟨sl,e1⟩:=I.base.slot b o e n hb hx
  obtain⟨sl',e2⟩:=frU b (F.mem.mpr (.inr hb)) _ e1
  exact⟨sl',e2⟩
 ·obtain⟨o',e1⟩:=I.base.there b o e hx
  by_cases hb:b∈frs X.stack
  ·obtain⟨sl,e2⟩:=frU b hb _ e1
   exact⟨_,e2⟩
  ·exact⟨o',kp b o' e1 (.inl ⟨o,e⟩) hb⟩
 ·obtain⟨m,hn,hl⟩:=I.loc
  refine⟨m,up.ns hn,fun i x v e1 e2 e3=>?_⟩
  obtain⟨u,r,l⟩:=hl i x v e1 e2 e3
  refine⟨u,r,?_⟩
  rcases l with l|⟨k,c,e,z⟩
  ·exact .inl l
  ·exact .inr ⟨k,c,e,cellK x c e _ z⟩
 ·obtain⟨v,z⟩:=I.cell x c e
  exact⟨v,cellK x c e v z⟩
 ·obtain⟨e,n,ne,nf,d⟩:=I.pin p hp
  exact⟨kp p.1 p.2 e (.inr (.inr (.inl ⟨p,hp,rfl⟩))) fun z=>(F.mem.mp z).elim ne nf,n,ne,nf,d⟩
 ·refine(I.hok a o e).stay (fun b u hb q=>?_) (fun _ q=>q) fun _ _ q=>q
  have hn:H b≠none:=by
   rcases hb with rfl|hb
   ·rw[e];intro z;cases z
   ·rw[hb];intro z;cases z
  exact kp b u q (.inr (.inl hn)) fun z=>hn (I.stkFree b z)
 ·obtain⟨o1,e1⟩:=Old.there I F q
  have e2:=cv b o1 e1 q n
  have e3:=st b o1 e2
  rw[e] at e3;cases e3
  exact e2
theorem QL {c:Value}{e:Addr}{g:Heap}{args:List Value}(I:Inv X pins σ H s)(hm:Heap.MadeExcOf g s.heap e c args)(hf:g.FunFrames X.base X.stack)(hk:∀ b o,s.heap.get? b=some o→Old X pins H b→g.get? b=some o) :
  (PySem.W.hideAll g (frs X.stack)).StaysIn g∧g.FunFrames (PySem.W.hideAll g (frs X.stack)) X.stack∧Cv X pins H (PySem.W.hideAll g (frs X.stack)) s.heap:=
 ⟨fun b o q=>PySem.W.of_hideAll _ q,PySem.W.funFrames_hide hf fun env he a ha=>List.mem_filterMap.mpr ⟨env,he,ha⟩,fun b o e q n=>PySem.W.hideAll_get _ (hk b o e q) n⟩
theorem Q5 {M:Model}{A:Around}{E:Value→Shared→Prop}{c:Value}{e:Addr}{Q:Unit→Shared→Prop}(I:Inv X pins σ H s)(F:Fn1 X)(hA:A.frames=some X.stack)(f:FlyX X pins H c e s.heap)
  (hQ:∀ h' B a0,Heap.FlyingW B X.outer e c a0 h'→Inv X pins σ H { s with heap:=h' } → Cv X pins H B h'→Q () { s with heap:=h' }) : wpAny M A (leaving X.env (.ref e)) Q E s:=by
 cases f with
 |new g args hm hf hk =>
  obtain⟨k1,k2,k3⟩:=QL I hm hf hk
  rw[F.2.1] at hA
  refine wpAny_leaves_madeW hA F.2.2 k1 (by rw[← F.2.1];exact k2) hm fun h' t x1 x2 x3 x4=>?_
  obtain⟨I1,cv1⟩:=Inv.fly I F k3 x1.1 x4
  exact hQ h' _ _ x1 I1 cv1
 |fly B a0 fl cv =>
  rw[F.2.1] at hA
  refine wpAny_leaves_onW hA F.2.2 (by rw[← F.2.1];exact fl) fun h' x1 x2=>?_
  obtain⟨I1,cv1⟩:=Inv.fly I F cv x1.1 x2
  exact hQ h' _ _ x1 I1 cv1
end
def CXd (P:Program)(w:World):CXT:=fun outer H s E u s' =>
 ∃ e c H' B a0,u=.ref e∧s'.os=s.os∧AllBare s'.gens∧Un (frs outer) [] H H' s.heap s'.heap∧HOk P w H' s'.heap∧Heap.FlyingW B outer e c a0 s'.heap ∧
  (∀ b o,s'.heap.get? b=some o→((∃ o,s.heap.get? b=some o)∨H' b≠none)→b ∉ frs outer→B.get? b=some o)∧E c none H'
section
variable {X:Cx}{pins:List (Addr × Obj)}{σ : _L.St}{H:Hp}{s s':Shared}
theorem BM {E:XK}{u:Value}(I:Inv X pins σ H s)(F:Fn1 X)(h:CXd X.prog X.w X.stack H s E u s'):∃ e c H',u=.ref e∧Inv X pins σ H' s'∧FlyX X pins H' c e s'.heap∧E c none H':=by
 obtain⟨e,c,H',B,a0,rfl,os,bare,un,hok,fl,cov,q⟩:=h
 have I':Inv X pins σ H' s':=Inv.call' I os un hok bare (ch:=[]) fun b z=>absurd z (by simp)
 refine⟨e,c,H',rfl,I',.fly B a0 fl fun b o eb old n=>cov b o eb ?_ n,q⟩
 rcases old with⟨o,z⟩|z|⟨p,hp,rfl⟩|⟨x,z⟩
 ·exact .inl (I.base.there b o z (by rw[F.1];simp))
 ·exact .inr z
 ·exact .inl ⟨_,(I.pin p hp).1⟩
 ·obtain⟨v,ob,ho,_⟩:=I.cell x b z
  exact .inl ⟨ob,ho⟩
end
end _D
end
section
namespace _D
open PySem PySem.Spec PyProof.Rows _L
structure RoomC (cm:Bool)(k:Nat)(A:Around):Prop where
 hd:cm=true→A.handled=none
 dp:A.depth+3*k+5<recursionLimit
 un:A.units+16*k+200<cLine
 gd:A.guards=some []
theorem RoomC.mono {cm:Bool}{j k:Nat}{A:Around}(r:RoomC cm k A)(h:j≤k:=by decide):RoomC cm j A:=⟨r.hd,by have:=r.dp;omega,by have:=r.un;omega,r.gd⟩
theorem RoomC.deeper {cm:Bool}{k:Nat}{A:Around}(r:RoomC cm (k+1) A)(env:Env):RoomC cm k (A.deeper env):=
 ⟨r.hd,by have:=r.dp;show A.depth+1+3*k+5<_;omega,by have:=r.un;show A.units+3+16*k+200<_;omega,r.gd⟩
theorem RoomC.depth {cm:Bool}{k:Nat}{A:Around}(r:RoomC cm k A):A.depth<recursionLimit:=by have:=r.dp;omega
theorem RoomC.units {cm:Bool}{k:Nat}{A:Around}(r:RoomC cm k A):A.units+64<cLine:=by have:=r.un;omega
theorem RoomC.of {k:Nat}{A:Around}(r:Room k A):RoomC true k A:=⟨fun _=>r.hd,r.dp,r.un,r.gd⟩
theorem RoomC.any {cm:Bool}{k:Nat}{A:Around}(r:RoomC cm k A):RoomC false k A:=⟨(fun z=>nomatch z),r.dp,r.un,r.gd⟩
theorem RoomC.mark {cm:Bool}{k:Nat}{A:Around}(r:RoomC cm k A)(h:Option Value):RoomC false k (A.mark h):=⟨(fun z=>nomatch z),r.dp,r.un,r.gd⟩
abbrev Cx.re (X:Cx)(A:Around)(cm:Bool)(E:Value→Shared→Prop):Cx:={ X with A:=A,calm:=cm,xe:=E }
theorem Inv.re {X:Cx}{pins:List (Addr × Obj)}{σ : _L.St}{H:Hp}{s:Shared}(I:Inv X pins σ H s)(A:Around)(cm:Bool)(E:Value→Shared→Prop)(hf:A.frames=some X.stack)(hh:cm=true→A.handled=none):Inv (Cx.re X A cm E) pins σ H s:=
 ⟨⟨I.ok.mod,I.ok.kind,I.ok.glob,I.ok.blt,I.ok.above,I.ok.inj,I.ok.has,I.ok.cab,hh,hf,I.ok.stk,I.ok.exf,I.ok.bs,I.ok.bsz,I.ok.noex,I.ok.exfs,I.ok.funs,I.ok.frf⟩,I.os,I.bare,I.base,I.loc,I.cell,I.free,I.freeC,I.pin,I.hok,I.len⟩
theorem Inv.unre {X:Cx}{pins:List (Addr × Obj)}{σ : _L.St}{H:Hp}{s:Shared}{A:Around}{cm:Bool}{E:Value→Shared→Prop}(I:Inv (Cx.re X A cm E) pins σ H s)(hf:X.A.frames=some X.stack)(hh:X.calm=true→X.A.handled=none):Inv X pins σ H s:=
 ⟨⟨I.ok.mod,I.ok.kind,I.ok.glob,I.ok.blt,I.ok.above,I.ok.inj,I.ok.has,I.ok.cab,hh,hf,I.ok.stk,I.ok.exf,I.ok.bs,I.ok.bsz,I.ok.noex,I.ok.exfs,I.ok.funs,I.ok.frf⟩,I.os,I.bare,I.base,I.loc,I.cell,I.free,I.freeC,I.pin,I.hok,I.len⟩
structure FnX (P:Program)(w:World)(K:PySem.W.Frag)(mg:Str→Option Value)(base:Heap)(cm:Bool)(k:Nat)(f:Addr)(fd:FuncData)(ps:List Str)(sp:Sp):Prop where
 len:∀ vs H Q E,sp vs H Q E→vs.length=ps.length
 run:∀ (A:Around) (outer:List Env) (s:Shared) (H:Hp) (args:Args) (us:List Value) (vs:List V) (Q:VK) (E:XK),RoomC cm k A→Env0 P w K mg base A outer s H→BindsTo s fd args (ps.zip us)→qL vs us→sp vs H Q E →
  codeAny (model P w) A (.call (.ref f) args) (CR (CXd P w) outer P w H s Q E) s
theorem FnX.ok {P:Program}{w:World}{K:PySem.W.Frag}{mg:Str→Option Value}{base:Heap}{k:Nat}{f:Addr}{fd:FuncData}{ps:List Str}{sp:Sp}(F:FnX P w K mg base true k f fd ps sp):FnOk P w K mg base (CXd P w) k f fd ps sp:=
 ⟨F.len,fun A outer s H args us vs Q E hr=>F.run A outer s H args us vs Q E (.of hr)⟩
theorem FnX.any {P:Program}{w:World}{K:PySem.W.Frag}{mg:Str→Option Value}{base:Heap}{cm:Bool}{k:Nat}{f:Addr}{fd:FuncData}{ps:List Str}{sp:Sp}(F:FnX P w K mg base false k f fd ps sp):FnX P w K mg base cm k f fd ps sp:=
 ⟨F.len,fun A outer s H args us vs Q E hr=>F.run A outer s H args us vs Q E hr.any⟩
theorem FnX.imp {P:Program}{w:World}{K:PySem.W.Frag}{mg:Str→Option Value}{base:Heap}{cm:Bool}{k:Nat}{f:Addr}{fd:FuncData}{ps:List Str}{sp sp':Sp}(F:FnX P w K mg base cm k f fd ps sp)
  (h:∀ vs H Q E,sp' vs H Q E→sp vs H Q E):FnX P w K mg base cm k f fd ps sp':=
 ⟨fun vs H Q E q=>F.len vs H Q E (h _ _ _ _ q),fun A outer s H args us vs Q E hr he hb hv hs=>F.run A outer s H args us vs Q E hr he hb hv (h _ _ _ _ hs)⟩
def cxC (cm:Bool)(P:Program)(w:World)(K:PySem.W.Frag)(mg:Str→Option Value)(base:Heap)(N:List Str)(qual:Str)(scope:Scope)(f:Addr)(cd:Value)(A:Around)(outer:List Env)(s:Shared)(H:Hp)(E:XK):Cx where
 prog:=P
 w:=w
 K:=K
 mg:=mg
 base:=base
 A:=A.deeper (envOfC qual scope s.heap.objs.size f cd)
 N:=N
 s₀:=s
 H₀:=H
 env:=envOfC qual scope s.heap.objs.size f cd
 outer:=outer
 stack:=envOfC qual scope s.heap.objs.size f cd::outer
 ex:=[]
 calm:=cm
 fn:=fun _=>true
 pn:=[]
 xe:=fun e s'=>wpAny (model P w) (A.deeper (envOfC qual scope s.heap.objs.size f cd)) (leaving (envOfC qual scope s.heap.objs.size f cd) e) (fun _ s''=>CXd P w outer H s E e s'') (fun e' s''=>CXd P w outer H s E e' s'') s'
section
variable {P:Program}{w:World}{K:PySem.W.Frag}{mg:Str→Option Value}{base:Heap}{cm:Bool}{N:List Str}{qual:Str}{scope:Scope}{f:Addr}{cd:Value}{A:Around}{outer:List Env}{s:Shared}{H:Hp}{E:XK}
theorem W5:PassesOwn (model P w) (A.deeper (envOfC qual scope s.heap.objs.size f cd)) (envOfC qual scope s.heap.objs.size f cd) (cxC cm P w K mg base N qual scope f cd A outer s H E).xe:=PassesOwn.leaving (Q₁:=fun e s''=>CXd P w outer H s E e s'')
theorem oC {P0:Hp}{α : List Addr}{c:Value}{x:D}{S:Sto}{u:Value}{s':Shared}(k:XOk (cxC cm P w K mg base N qual scope f cd A outer s H E) P0 α c x S u s')
  (q:∀ H' P' α',Rel K H' P' α' S→qH P0 P'→α<+:α'→E c none H'):(cxC cm P w K mg base N qual scope f cd A outer s H E).xe u s':=by
 obtain⟨e,pins,σ,H1,P1,α1,rfl,I,r,e1,e2,F,fl⟩:=k
 refine Q5 (X:=cxC cm P w K mg base N qual scope f cd A outer s H E) I F I.ok.frames fl fun h' B a0 x1 I1 cv=>?_
 refine⟨e,c,H1,B,a0,rfl,I1.os,I1.bare,I1.base,I1.hok,x1,fun b o eb hb n=>cv b o eb ?_ fun z=>?_,q H1 P1 α1 r e1 e2⟩
 ·rcases hb with z|z
  ·exact .inl z
  ·exact .inr (.inl z)
 ·rcases (Fn1.mem F).mp z with z|z
  ·subst z
   rcases hb with⟨o',e'⟩|z
   ·exact absurd (Heap.lt_size e') (Nat.not_lt.mpr I1.ok.above)
   ·exact z I1.free
  ·exact n z
theorem aR {ps:List Str}{s1:Shared}{us:List Value}{vs:List V}(S:FnScope N ps scope)(hd:cm=true→A.handled=none)(e0:Env0 P w K mg base A outer s H)(hl:vs.length=ps.length)(r:qL vs us)
  (x:InCallC s s.heap.objs.size (bindL (envOfC qual scope s.heap.objs.size f cd).kindOf (ps.zip us) fun _=>none) (cellsFrom (s.heap.objs.size+1) scope.names []) (bindC (envOfC qual scope s.heap.objs.size f cd).kindOf (ps.zip us) fun _=>none) s1) :
  Inv (cxC cm P w K mg base N qual scope f cd A outer s H E) [] (_L.wU N vs) H s1:=by
 have I:=nH (CX:=CXd P w) (E:=E) (A:={ A with handled:=none }) S rfl ⟨e0.frames,e0.mod,e0.bs,e0.bsz,e0.funs,e0.frf,e0.hok,e0.bare⟩ hl r x
 have J:=Inv.re I (A.deeper (envOfC qual scope s.heap.objs.size f cd)) cm (cxC cm P w K mg base N qual scope f cd A outer s H E).xe (Around.frames_deeper e0.frames) hd
 exact J
end
theorem BN {P:Program}{w:World}{K:PySem.W.Frag}{mg:Str→Option Value}{base:Heap}{cm:Bool}{k:Nat}{f:Addr}{x qual:Str}{st:Stmt}{fd:FuncData}{N ps:List Str}{sp:Sp}(F:Fun K x qual st f fd)(S:FnScope N ps (qJ st))
  (len:∀ vs H Q E,sp vs H Q E→vs.length=ps.length)
  (hbody:∀ (cdv:Value) (A:Around) (outer:List Env) (s:Shared) (H:Hp) (vs:List V) (Q:VK) (E:XK),RoomC cm k (A.deeper (envOfC qual (qJ st) s.heap.objs.size f cdv))→sp vs H Q E →
   ∃ t,PSs (cxC cm P w K mg base N qual (qJ st) f cdv A outer s H E) (x5 st) t∧t { nx:=fun _ H'=>Q .non H',rt:=Q } (_L.wU N vs) H) :
  FnX P w K mg base cm (k+1) f fd ps sp:=by
 obtain⟨oc,od,kV,doc,pm,an,cdv,ct,osl,rfl,lk,hcd⟩:=F.ex
 refine⟨len,fun A outer s H args us vs Q E hr e0 hb r hsp=>?_⟩
 have hl:=len _ _ _ _ hsp
 have KX:K.In s.heap:=e0.mod.kin.keeps fun b o e=>(e0.bs b o e).1
 have lim:s.heap.NoLimit:=e0.mod.nolimit.keeps fun b o e=>(e0.bs b o e).1
 have hkind:∀ y∈ps.zip us,(qJ st).names.lookup y.1=some .local ∨ ((qJ st).names.lookup y.1=some .cell∧((cellsFrom (s.heap.objs.size+1) (qJ st).names []).lookup y.1).isSome=true):=fun ⟨n,v⟩ hy=>by
  rcases S.par n (List.of_mem_zip hy).1 with q|q
  ·exact .inl q
  ·exact .inr ⟨q,PySem.W.cellsFrom_some _ _ _ (.inl q)⟩
 refine codeAny_call_function hr.depth (KX _ _ lk) rfl S.co S.gen rfl (PySem.W.codeRec_of KX hcd) (hb _ _ _ _ ?_)
 refine wpAny_newFunctionEnv_cells S.kind hkind fun env he s1 x=>?_
 subst he
 refine⟨lim.keeps x.toInCall.keep,codeAny_func ?_⟩
 obtain⟨t,ht,hq⟩:=hbody cdv A outer s H vs Q E (hr.deeper _) hsp
 have I:Inv (cxC cm P w K mg base N qual (qJ st) f cdv A outer s H E) [] (_L.wU N vs) H s1:=aR S hr.hd e0 hl r x
 refine wpAny_mono (ht [] s1 (_L.wU N vs) H _ I hq) (fun fl s' hs=>?_) fun e s' hs=>hs
 have fin:∀ {σ' : _L.St} {H':Hp} {v:V} {u:Value},Inv (cxC cm P w K mg base N qual (qJ st) f cdv A outer s H E) [] σ' H' s'→qK v u→Q v H'→CE outer P w H s Q u s':=
  fun {σ' H' v u} J rv q=>⟨v,H',J.os,J.bare,J.base,J.hok,rv,q⟩
 cases fl with
 |ret u =>
  obtain⟨v,σ',H',J,rv,q⟩:=hs
  exact fin J rv q
 |next =>
  obtain⟨σ',H',J,q⟩:=hs
  exact fin (v:=V.non) (u:=Value.none) J rfl q
 |brk =>
  obtain⟨_,_,_,q⟩:=hs
  exact False.elim q
 |cont =>
  obtain⟨_,_,_,q⟩:=hs
  exact False.elim q
def vX (n:Nat)(ds:List D):qE:=ds.map some++List.replicate (n-ds.length) none
def vQ:Out→Res D
 |.rt d S=>.ok d S
 |.nx _ S=>.ok .non S
 |.ex c x _ S=>.ex c x S
 |_=>.bad
def qQ (n:Nat)(g:DS):DF:=fun ds S=>vQ (g (vX n ds) S)
def spD (K:PySem.W.Frag)(n:Nat)(F:DF):Sp:=fun vs H Q E=>vs.length=n∧∃ P α ds S,Rel K H P α S∧qF K P α ds vs∧match F ds S with
 |.ok d S'=>∀ v H' P' α',Rel K H' P' α' S'→qH P P'→α<+:α'→Rep K P' α' d v→Q v H'
 |.ex c _ S'=>∀ H' P' α',Rel K H' P' α' S'→qH P P'→α<+:α'→E c none H'
 |.bad=>False
theorem iJ {K:PySem.W.Frag}{P:Hp}{α : List Addr}{N:List Str}{ds:List D}{vs:List V}(r:qF K P α ds vs):zC K P α (_L.wU N vs) (vX N.length ds):=by
 refine⟨by simp[vX,_L.wU,r.length],fun i d e=>?_⟩
 unfold vX at e
 unfold _L.wU
 by_cases hi:i<ds.length
 ·rw[List.getElem?_append_left (by simpa using hi),List.getElem?_map] at e
  rw[List.getElem?_append_left (by rw[List.length_map,← r.length];exact hi),List.getElem?_map]
  cases q:ds[i]? with
  |none=>rw[q] at e;cases e
  |some d' =>
   rw[q] at e;cases e
   obtain⟨v,h1,h2⟩:=r.get q
   exact⟨v,by rw[h1];rfl,h2⟩
 ·rw[List.getElem?_append_right (by simpa using hi),List.getElem?_replicate] at e
  split at e <;> cases e
section
variable {P:Program}{w:World}{K:PySem.W.Frag}{mg:Str→Option Value}{base:Heap}{cm:Bool}
theorem fnX {x qual:Str}{st:Stmt}{f:Addr}{fd:FuncData}{N ps:List Str}{k:Nat}{g:DS}(F:Fun K x qual st f fd)(S:FnScope N ps (qJ st))
  (hbody:∀ (cdv:Value) (A:Around) (outer:List Env) (s:Shared) (H:Hp) (E:XK),RoomC cm k (A.deeper (envOfC qual (qJ st) s.heap.objs.size f cdv)) →
   PSs (cxC cm P w K mg base N qual (qJ st) f cdv A outer s H E) (x5 st) (tDS (cxC cm P w K mg base N qual (qJ st) f cdv A outer s H E) g)) :
  FnX P w K mg base cm (k+1) f fd ps (spD K ps.length (qQ N.length g)):=by
 refine BN F S (fun vs H Q E h=>h.1) fun cdv A outer s H vs Q E hr h=>?_
 obtain⟨hl,P',α,ds,S',r,rp,af⟩:=h
 refine⟨_,hbody cdv A outer s H E hr,P',α,vX N.length ds,S',r,iJ rp,?_⟩
 unfold qQ at af
 cases q:g (vX N.length ds) S' with
 |rt d S1=>rw[q] at af;exact fun v H' P1 α1 r1 e1 e2 p1=>af v H' P1 α1 r1 e1 e2 p1
 |nx env S1=>rw[q] at af;exact fun σ' H' P1 α1 r1 re1 e1 e2=>af .non H' P1 α1 r1 e1 e2 (by simp only[Rep])
 |bk env S1=>rw[q] at af;exact False.elim af
 |ct env S1=>rw[q] at af;exact False.elim af
 |ex c x env S1=>rw[q] at af;exact fun u s' z=>oC z fun H' P1 α1 r1 e1 e2=>af H' P1 α1 r1 e1 e2
 |bad=>rw[q] at af;exact False.elim af
end
section
variable {X:Cx}{cm:Bool}{k:Nat}{f:Addr}{fd:FuncData}{ps:List Str}{F:DF}{x:Str}{p pos:Pos}{e:Expr}{es:List Expr}{fa:DA}{n:Nat}
def qG (n:Nat)(F:DF)(fa:DA):DE:=fun env S=>(fa env S).bind fun ds S1=>if ds.length=n then F ds S1 else .bad
theorem cI {pins:List (Addr × Obj)}{σ : _L.St}{H:Hp}{s:Shared}{Q:VK}{us:List Value}{vs:List V}{P:Hp}{α : List Addr}{ds:List D}{S:Sto}(G:FnX X.prog X.w X.K X.mg X.base cm k f fd ps (spD X.K n F))(hr:RoomC cm k X.A)(hb:uH X.K fd ps [])(hF:Fn1 X)
  (I:Inv X pins σ H s) (r:Rel X.K H P α S) (rv:qL vs us) (rp:qF X.K P α ds vs) (hn:ds.length=n) (af:zB X P α (F ds S) Q):wpAny (model X.prog X.w) X.A (call (.ref f) us) (EP X pins σ Q) X.xe s:=by
 have hvn:vs.length=n:=by rw[← rp.length];exact hn
 let E:XK:=fun c _ H'=>match F ds S with
  |.ex c' _ S'=>c=c'∧∃ P' α',Rel X.K H' P' α' S'∧qH P P'∧α<+:α'
  |_=>False
 have hsp:spD X.K n F vs H Q E:=by
  refine⟨hvn,P,α,ds,S,r,rp,?_⟩
  cases q:F ds S with
  |ok d S'=>rw[q] at af;exact af
  |ex c x S' =>
   intro H' P' α' r' e1 e2
   show match F ds S with|.ex c' _ S'=>c=c'∧∃ P' α',Rel X.K H' P' α' S'∧qH P P'∧α<+:α'|_=>False
   rw[q]
   exact⟨rfl,P',α',r',e1,e2⟩
  |bad=>rw[q] at af;exact af
 have hl:us.length=ps.length:=by rw[← rv.length];exact G.len _ _ _ _ hsp
 have hb':=hb s us I.kIn (by rw[List.append_nil];exact hl)
 rw[List.append_nil] at hb'
 refine wpAny_call (codeAny_mono (G.run X.A X.stack s H ⟨us,[]⟩ us vs Q E hr I.env0 hb' rv hsp) fun r s' hq=>?_)
 cases r with
 |error u =>
  obtain⟨a,c,H',rfl,I',fl,q⟩:=BM I hF hq
  cases z:F ds S with
  |ok d S'=>simp only[E,z] at q
  |bad=>simp only[E,z] at q
  |ex c' x' S' =>
   simp only[E,z] at q
   obtain⟨rfl,P',α',r',e1,e2⟩:=q
   rw[z] at af
   exact af _ _ ⟨a,pins,σ,H',P',α',rfl,I',r',e1,e2,hF,fl⟩
 |ok fl =>
  cases fl with
  |ret u=>exact I.after hq
  |next=>exact False.elim hq
  |brk=>exact False.elim hq
  |cont=>exact False.elim hq
theorem n9 {env:qE}{S S1:Sto}{P:Hp}{α : List Addr}{ds:List D}{Ok:D→Sto→Prop}(h:qI X P α (if ds.length=n then F ds S1 else .bad) Ok):ds.length=n∧qI X P α (F ds S1) Ok:=by
 by_cases hn:ds.length=n
 ·rw[if_pos hn] at h;exact⟨hn,h⟩
 ·rw[if_neg hn] at h;exact False.elim h
theorem UV (G:FnX X.prog X.w X.K X.mg X.base cm k f fd ps (spD X.K n F))(hr:RoomC cm k X.A)(hF:Fn1 X)(hg:Gl X x)(hm:X.mg x=some (.ref f))(hk:PySem.W.keepIn X.K (.ref f)=true)(hb:uH X.K fd ps [])
  (ha:PA X (e::es) (tDA X fa)) (hdb:(x == ("__debug__" : Str))=false:=by decide) (he:starEach (e::es) X.env=(false,eval e X.env)::starEach es X.env:=by rfl) (hpl:(backTo pos (starEach es X.env)).any (·.1)=false:=by rfl) :
  PE X (.Call (.Name x p) (e::es) [] pos) (tD X (qG n F fa)):=by
 intro pins s σ H Q I h
 obtain⟨P,α,env,S,r,re,af⟩:=h
 refine wpAny_Call_Name_kw (kF I hg hm ?_ hdb)
 refine PySem.W.callWith_K (h₀:=X.base) I.ok.mod.kin hk (thn (yQ ha I r re af pos) fun us s1 ⟨vs,H1,P1,α1,ds,S1,I1,rv,r1,re1,rp,e1,e2,af1⟩=>⟨I1.kIn,?_⟩) he hpl
 obtain⟨hn,af2⟩:=n9 (env:=env) (S:=S) af1
 exact cI G hr hb hF I1 r1 rv rp hn (zB.base e1 e2 af2)
end
end _D
end
section
namespace _D
open PySem PySem.Spec PyProof.Rows _L
abbrev lY:List Value:=[.type "ValueError",.type "Exception",.type "BaseException",.type "object"]
def NA:Value→Bool
 |.str _ _=>true
 |_=>false
def kJ (K:PySem.W.Frag)(N:Addr):Bool:=(match List.lookup N K with
 |some o=>match o.data with
  |.dict es _=>es.toList.all fun e=>NA e.key
  |_=>false
 |none=>false)&&decide (PySem.W.nsIn K N "__init__" = some none)
theorem yK {K:PySem.W.Frag}{N:Addr}(h:kJ K N=true):PySem.W.nsOkIn K N=true∧PySem.W.nsIn K N "__init__" = some none:=by
 unfold kJ at h
 rw[Bool.and_eq_true,decide_eq_true_eq] at h
 refine⟨?_,h.2⟩
 have h1:=h.1
 unfold PySem.W.nsOkIn
 cases e:List.lookup N K with
 |none=>rw[e] at h1;cases h1
 |some o =>
  rw[e] at h1
  obtain⟨oc,od,dt,sl⟩:=o
  cases dt with
  |dict es ep =>
   simp only at h1 ⊢
   rw[Array.all_toList] at h1
   refine Eq.trans (congrArg (fun f=>Array.all es f) (funext fun e=>?_)) h1
   cases e.key <;> rfl
  |_=>cases h1
def lN (K:PySem.W.Frag)(C:Addr)(f:Value→ClassData→Array (Option Value)→Bool):Bool:=match List.lookup C K with
 |some o=>(match o.data with|.cls cd=>f o.cls cd o.slots|_=>false)
 |none=>false
theorem sI {K:PySem.W.Frag}{C:Addr}{f:Value→ClassData→Array (Option Value)→Bool}(h:lN K C f=true):∃ oc od cd sl,List.lookup C K=some ⟨oc,od,.cls cd,sl⟩∧f oc cd sl=true:=by
 unfold lN at h
 cases e:List.lookup C K with
 |none=>rw[e] at h;exact Bool.noConfusion h
 |some o =>
  rw[e] at h
  obtain⟨oc,od,dt,sl⟩:=o
  cases dt with
  |cls cd=>exact⟨oc,od,cd,sl,rfl,h⟩
  |_=>exact Bool.noConfusion h
def bK (K:PySem.W.Frag)(C A:Addr):Bool:=lN K C fun oc cd sl=>lN K A fun _ ca _=>decide (oc=.type "type")&&(decide (cd.mro=.ref C::.ref A::lY)&&(!cd.hasDel&&(kJ K cd.ns&&(kJ K ca.ns&&(decide (sl.toList.length=6)&&decide (sl.toList[4]? = some (some (.builtin "ValueError.__new__"))))))))
inductive ExcO (h:Heap)(C:Addr):Prop
 |mk (nm q:Str) (N:Addr) (bs bm:List Value) (hdct:Bool) (sn:List Str) (sub:List Value) (ab:Bool) (col:Option Bool) (dd:Option Addr) (k0 k1 k2 k3 k5:Option Value) (mN:Str→Option Value) (hC:h.get? C=some (excClassObj nm q C N bs bm hdct sn sub ab col dd k0 k1 k2 k3 k5 "ValueError.__new__")) (hN:h.Ns N mN) (hni:mN "__init__" = none) (T:OwnTail h lY bm):ExcO h C
theorem tH {β : Type}{l:List β}{n:Nat}(h:l.length=n+1):∃ a t,l=a::t∧t.length=n:=by
 cases l with
 |nil=>exact Nat.noConfusion h
 |cons a t=>exact⟨a,t,rfl,Nat.succ.inj h⟩
theorem six {β : Type}{l:List β}(h:l.length=6):∃ a b c d e f,l=[a,b,c,d,e,f]:=by
 obtain⟨a,t,e1,h⟩:=tH h
 obtain⟨b,t2,e2,h⟩:=tH h
 obtain⟨c,t3,e3,h⟩:=tH h
 obtain⟨d,t4,e4,h⟩:=tH h
 obtain⟨e,t5,e5,h⟩:=tH h
 obtain⟨f,t6,e6,h⟩:=tH h
 exact⟨a,b,c,d,e,f,by rw[e1,e2,e3,e4,e5,e6,List.length_eq_zero_iff.mp h]⟩
theorem FC {C:Addr}{od:Option Addr}{cd:ClassData}{sl:Array (Option Value)}{tl:List Value}{k0 k1 k2 k3 k4 k5:Option Value}{n:String}(hm:cd.mro=.ref C::tl)(hd:cd.hasDel=false)(hs:sl.toList=[k0,k1,k2,k3,k4,k5])(hn:sl.toList[4]? = some (some (.builtin n))) :
  (⟨.type "type",od,.cls cd,sl⟩:Obj)=excClassObj cd.name cd.qualname C cd.ns cd.bases tl cd.hasDict cd.slotNames cd.subclasses cd.abstract cd.collection od k0 k1 k2 k3 k5 n:=by
 rw[hs] at hn
 cases hn
 cases cd
 cases sl
 cases hm
 cases hd
 cases hs
 rfl
theorem JF {K:PySem.W.Frag}{h:Heap}{C A:Addr}{od:Option Addr}{cd:ClassData}{sl:Array (Option Value)}(KI:K.In h)(e:List.lookup C K=some ⟨.type "type",od,.cls cd,sl⟩)(h2:cd.mro=.ref C::.ref A::lY)(h3:cd.hasDel=false)(h4:kJ K cd.ns=true)(h6:sl.toList.length=6)(h7:sl.toList[4]? = some (some (.builtin "ValueError.__new__")))(T:OwnTail h lY (.ref A::lY)):ExcO h C:=by
 obtain⟨k0,k1,k2,k3,x,k5,es⟩:=six h6
 exact⟨_,_,_,_,_,_,_,_,_,_,_,k0,k1,k2,k3,k5,_,(KI _ _ e).trans (congrArg some (FC h2 h3 es h7)),.of_isNs (PySem.W.isNs_of_in KI (yK h4).1),PySem.W.nsMap_none_of_in KI (yK h4).1 (yK h4).2,T⟩
theorem JG {K:PySem.W.Frag}{h:Heap}{C A:Addr}(KI:K.In h)(z:bK K C A=true):ExcO h C:=by
 obtain⟨oc,od,cd,sl,e,z⟩:=sI z
 obtain⟨qc,qd,ca,ql,e2,z⟩:=sI z
 have a1:=Bool.and_eq_true_iff.mp z
 have a2:=Bool.and_eq_true_iff.mp a1.2
 have a3:=Bool.and_eq_true_iff.mp a2.2
 have a4:=Bool.and_eq_true_iff.mp a3.2
 have a5:=Bool.and_eq_true_iff.mp a4.2
 have a6:=Bool.and_eq_true_iff.mp a5.2
 rw[of_decide_eq_true a1.1] at e
 exact JF KI e (of_decide_eq_true a2.1) (Bool.not_eq_true' _▸a3.1) a4.1 (of_decide_eq_true a6.1) (of_decide_eq_true a6.2) (.own (KI _ _ e2) (.of_isNs (PySem.W.isNs_of_in KI (yK a5.1).1)) (PySem.W.nsMap_none_of_in KI (yK a5.1).1 (yK a5.1).2) .base)
section
variable {X:Cx}{pos:Pos}{fa:DA}
def yS (c:Value)(fa:DA):DS:=fun env S=>(fa env S).toS env fun ds S1=>if ds.length≤lim then .ex c .non env S1 else .bad
inductive GotAS (X:Cx)(pins:List (Addr × Obj))(σ : _L.St)(env:qE)(P:Hp)(α : List Addr)(us:List Value)(s1:Shared)(k:List D→Sto→Out)(E:Ends):Prop
 |mk (vs:List V) (H1 P1:Hp) (α1:List Addr) (ds:List D) (S1:Sto) (I:Inv X pins σ H1 s1) (rv:qL vs us) (r:Rel X.K H1 P1 α1 S1) (re:zC X.K P1 α1 σ env) (rp:qF X.K P1 α1 ds vs) (e1:qH P P1) (e2:α<+:α1) (q:zJ X P1 α1 (k ds S1) E):GotAS X pins σ env P α us s1 k E
theorem eD {es:List Expr}{k:List D→Sto→Out}{pins:List (Addr × Obj)}{s:Shared}{σ : _L.St}{H P:Hp}{α : List Addr}{env:qE}{S:Sto}{D:Ends}(he:PA X es (tDA X fa))(I:Inv X pins σ H s)(r:Rel X.K H P α S)
  (re:zC X.K P α σ env) (af:zJ X P α ((fa env S).toS env k) D) (pos:Pos) :
  wpAny (model X.prog X.w) X.A (spliced (backTo pos (starEach es X.env))) (fun us s1=>GotAS X pins σ env P α us s1 k D) X.xe s:=by
 have af1:qI X P α ((fa env S).bind fun d S=>.ok d S) fun d S=>zJ X P α (k d S) D:=by
  have:=yF af
  cases q:fa env S <;> rw[q] at this <;> exact this
 exact thn (yQ he I r re af1 pos) fun u s1 ⟨vs,H1,P1,α1,ds,S1,I1,rv,r1,re1,rp,e1,e2,q⟩=>⟨vs,H1,P1,α1,ds,S1,I1,rv,r1,re1,rp,e1,e2,zJ.base e1 e2 q⟩
theorem WG {x:Str}{C Ae:Addr}{e₀:Expr}{rest:List Expr}{np cpos:Pos}(hc:X.calm=true)(hF:Fn1 X)(hg:Gl X x)(hm:X.mg x=some (.ref C))(hx:bK X.K C Ae=true)(ha:PA X (e₀::rest) (tDA X fa))
  (hdb:(x == ("__debug__" : Str))=false:=by decide) (he:starEach (e₀::rest) X.env=(false,eval e₀ X.env)::starEach rest X.env:=by rfl) (hpl:(backTo cpos (starEach rest X.env)).any (·.1)=false:=by rfl) :
  PS X (.Raise (some (.Call (.Name x np) (e₀::rest) [] cpos)) none pos) (tDS X (yS (.ref C) fa)):=by
 intro pins s σ H D I h
 obtain⟨P,α,env,S,r,re,af⟩:=h
 obtain⟨nm,qn,N,bs,tl,hdct,sn,sub,ab,col,dd,k0,k1,k2,k3,k5,mN,hC,hN,hni,T⟩:=JG I.mod.kin hx
 refine wpAny_Raise_call_subT (C:=C) (nm:=nm) (q:=qn) (N:=N) (bs:=bs) (bm:=tl) (hdct:=hdct) (sn:=sn) (sub:=sub) (ab:=ab) (col:=col) (dd:=dd) (k0:=k0) (k1:=k1) (k2:=k2) (k3:=k3) (k5:=k5)
  PySem.F.excBase_ValueError (mN:=mN) (T.hasType PySem.F.excBase_ValueError.hasBase) (I.ok.hd hc) (by rw[he];show (false||(backTo cpos (starEach rest X.env)).any (·.1))=false;rw[hpl];rfl) hni (kF I hg hm ⟨rfl,?_⟩ hdb)
 have run:=eD ha I r re af cpos
 rw[he] at run ⊢
 refine Calls.evalArgs_plain (thn run fun us s2 ⟨vs,H1,P1,α1,ds,S1,I1,rv,r1,re1,rp,e1,e2,q⟩=>?_)
 have hl:us.length=ds.length:=by rw[rp.length,rv.length]
 by_cases hz:ds.length≤lim
 ·rw[if_pos hz] at q
  refine⟨rfl,by rw[hl,← xN];exact hz,I1.bk _ _ hC,hN.keeps I1.bk,T.keeps I1.bk,fun h' e hm=>q _ _ ⟨e,pins,σ,H1,P1,α1,rfl,I1.kept (t':=s2.toks) hm.keeps,r1,qH.refl _,List.prefix_refl _,hF,.new s2.heap us hm I1.stack fun b o eb old=>?_⟩⟩
  obtain⟨o1,q1⟩:=Old.there I1 hF old
  have q2:=hm.keeps b o1 q1
  rw[eb] at q2;cases q2
  exact q1
 ·rw[if_neg hz] at q;exact False.elim q
end
section
variable {X:Cx}{pins:List (Addr × Obj)}{σ : _L.St}{H:Hp}{s:Shared}
theorem aY {M:Model}{A:Around}{E:Value→Shared→Prop}{base h:Heap}{env:Env}{outer:List Env}{L e:Addr}{cls:Value}{args:List Value}{Q:Unit→Shared→Prop}
  (hfr:A.frames=some (env::outer)) (hf:env.frame=some L) (hkb:base.StaysIn h) (hl:h.FunFrames base (env::outer)) (hx:Heap.MadeExcOf h s.heap e cls args)
  (hQ:∀ h' a0,Heap.HeldW base (env::outer) e cls a0 L h'→s.heap.UpToSlots h'→Q () { s with heap:=h' }) : wpAny M A (noteFrame (.ref e) env) Q E s:=by
 obtain⟨t,he,htn,ht⟩:=hx.there
 have fresh:∀ b,h.get? b=none→base.get? b=none:=fun b hb=>by
  cases hq:base.get? b with
  |none=>rfl
  |some o'=>have z:=hkb b o' hq;rw[hb] at z;cases z
 unfold noteFrame
 simp only[hf]
 refine wpAny_bind (wpAny_field he rfl (x:=.none) rfl ?_)
 rw[if_neg (by decide)]
 refine wpAny_entryW hfr (hl.of_keeps fun b o hb _=>⟨o,hx.keeps b o hb,rfl⟩) hf he (fun b o hb=>hx.keeps b o (hkb b o hb)) (fresh e hx.new) rfl (by simp) (a0:=.ref t) rfl fun h' hN=>?_
 obtain⟨n1,n2,n3,n4⟩:=hN
 exact hQ h' (.ref t) ⟨n1,fresh e hx.new,n2,n3⟩ n4
theorem WV {M:Model}{A:Around}{E:Value→Shared→Prop}{c:Value}{e:Addr}{Q:Unit→Shared→Prop}(I:Inv X pins σ H s)(F:Fn1 X)(hA:A.frames=some X.stack)(f:FlyX X pins H c e s.heap)
  (hQ:∀ h' B a0,Heap.FlyingW B X.stack e c a0 h'→Inv X pins σ H { s with heap:=h' } → Cv X pins H B h'→Q () { s with heap:=h' }) :
  wpAny M A (noteFrame (.ref e) X.env) (fun _ s₂=>wpAny M A (setFlight (.ref e) none) Q E s₂) E s:=by
 have land:∀ (B:Heap) (a0:Value) (h1:Heap),Cv X pins H B s.heap→Heap.HeldW B X.stack e c a0 X.env.locals h1→s.heap.UpToSlots h1→wpAny M A (setFlight (.ref e) none) Q E { s with heap:=h1 }:=fun B a0 h1 cv hh up=>by
  refine wpAny_landsW (s:={ s with heap:=h1 }) hh fun h2 f2 u2=>?_
  obtain⟨I2,cv2⟩:=Inv.fly I F cv f2.1 (up.trans u2)
  exact hQ h2 B a0 f2 I2 cv2
 cases f with
 |new g args hm hf hk =>
  obtain⟨k1,k2,k3⟩:=QL I hm hf hk
  rw[F.2.1] at hA
  exact aY hA F.2.2 k1 (by rw[← F.2.1];exact k2) hm fun h' a0 x1 x2=>land _ a0 h' k3 (F.2.1▸x1) x2
 |fly B a0 fl cv =>
  rw[F.2.1] at hA
  exact wpAny_looks_onW hA F.2.2 (by rw[← F.2.1];exact fl) fun h' x1 x2=>land B a0 h' cv (by rw[F.2.1];exact x1) x2
theorem eL {B:Heap}{c a0:Value}{e:Addr}(I:Inv X pins σ H s)(F:Fn1 X)(fl:Heap.FlyingW B X.stack e c a0 s.heap)(cv:Cv X pins H B s.heap):¬ Old X pins H e∧e ∉ frs X.stack∧∃ ob,s.heap.get? e=some ob∧ob.cls=c:=by
 obtain⟨oe,vs,he,hc,hd,_⟩:=fl.first
 have nf:e ∉ frs X.stack:=fun z=>by
  obtain⟨_,o,ho,hn⟩:=I.stack.mem z
  rw[he] at ho;cases ho
  exact hn vs hd
 refine⟨fun z=>?_,nf,oe,he,hc⟩
 have q:=cv e oe he z nf
 rw[fl.2.1] at q;cases q
theorem Inv.track {e:Addr}{c:Value}{ob:Obj}(I:Inv X pins σ H s)(F:Fn1 X)(no:¬ Old X pins H e)(nf:e ∉ frs X.stack)(he:s.heap.get? e=some ob)(hc:ob.cls=c):Inv X pins σ (upd H e (dH e c)) s:=by
 have hn:H e=none:=by
  cases q:H e with
  |none=>rfl
  |some u=>exact absurd (.inr (.inl (by rw[q];intro z;cases z))) no
 have nL:e≠X.env.locals:=fun z=>nf (F.mem.mpr (.inl z))
 have n0:∀ b o,X.s₀.heap.get? b=some o→b≠e:=fun b o q z=>no (.inl ⟨o,z▸q⟩)
 refine⟨I.ok,I.os,I.bare,⟨I.base.keep,I.base.slot,fun b o q n hx=>?_,I.base.there,fun b xs q=>?_,fun b o xs q=>?_,fun b ps q=>?_⟩,I.loc,I.cell,?_,fun x k q=>?_,fun p hp=>?_,fun b u q=>?_,I.len⟩
 ·rw[qP (n0 b o q)];exact I.base.free b o q n hx
 ·have z:=I.base.tups b xs q
  rw[qP (zF z hn)];exact z
 ·have z:=I.base.frzs b o xs q
  rw[qP (zF z hn)];exact z
 ·obtain⟨m,z⟩:=I.base.tbls b ps q
  exact⟨m,by rw[qP (zF z hn)];exact z⟩
 ·rw[qP (Ne.symm nL)];exact I.free
 ·have z:k≠e:=fun z=>no (.inr (.inr (.inr ⟨x,z▸q⟩)))
  rw[qP z];exact I.freeC x k q
 ·obtain⟨a1,a2,a3,a4,a5⟩:=I.pin p hp
  have z:p.1≠e:=fun z=>no (.inr (.inr (.inl ⟨p,hp,z⟩)))
  exact⟨a1,by rw[qP z];exact a2,a3,a4,a5⟩
 ·by_cases hb:b=e
  ·subst hb
   rw[zN] at q;cases q
   refine⟨⟨ob,he,hc⟩,⟨ob,he⟩,fun h1 h2 ⟨o,q1,q2⟩ k=>⟨o,k o q1,q2⟩⟩
  ·rw[qP hb] at q
   exact(I.hok b u q).stay (fun _ _ _ z=>z) (fun k z=>by rw[qP (zF z hn)];exact z) fun k xs z=>by rw[qP (zF z hn)];exact z
theorem Inv.gone {i t':Nat}{n:Str}{h':Heap}(I:Inv X pins σ H s)(hN:X.N.Nodup)(hi:X.N[i]? = some n){m:Str→Option Value}{v:Option Value}(hl:∀ (j:Nat) (y:Str) (w:V),X.N[j]? = some y→σ[j]? = some (some w)→Vis X.env.scope y→∃ u,qK w u∧GU X.env s.heap m y u)(hv:h'.Ns X.env.locals fun y=>if y=n then v else m y)(sb:Heap.SameBut X.env.locals s.heap h') :
  Inv X pins (σ.set i none) H { s with heap:=h',toks:=t' }:=by
 have neL:∀ b o,X.s₀.heap.get? b=some o→b≠X.env.locals:=fun b o e=>Nat.ne_of_lt (Nat.lt_of_lt_of_le (Heap.lt_size e) I.ok.above)
 have kp:∀ b o,b≠X.env.locals→s.heap.get? b=some o→h'.get? b=some o:=fun b o n e=>(sb.2 b n).trans e
 refine⟨I.ok,I.os,I.bare,⟨fun b o e n hb hx=>kp b o (neL b o e) (I.base.keep b o e n hb hx),fun b o e n hb hx=>?_,I.base.free,fun b o e hx=>?_,I.base.tups,I.base.frzs,I.base.tbls⟩,⟨_,hv,fun j y w e1 e2 e3=>?_⟩,fun x c e=>?_,I.free,I.freeC,fun p hp=>?_,fun b u q=>?_,by simpa using I.len⟩
 ·obtain⟨sl,q⟩:=I.base.slot b o e n hb hx
  exact⟨sl,kp b _ (neL b o e) q⟩
 ·obtain⟨o',q⟩:=I.base.there b o e hx
  exact⟨o',kp b o' (neL b o e) q⟩
 ·have hj:i≠j:=fun z=>by
   subst z
   by_cases hs:i<σ.length
   ·rw[List.getElem?_set_self hs] at e2;cases e2
   ·rw[List.getElem?_eq_none (by simp;omega)] at e2;cases e2
  rw[List.getElem?_set_ne hj] at e2
  obtain⟨u,r,l⟩:=hl j y w e1 e2 e3
  refine⟨u,r,?_⟩
  rcases l with⟨k,z⟩|⟨k,c,z,zc⟩
  ·refine .inl ⟨k,?_⟩
   have:y≠n:=fun z=>hj (bU hN hi (z▸e1))
   simp[this,z]
  ·exact .inr ⟨k,c,z,zc.sameBut sb (I.cne y c z)⟩
 ·obtain⟨w,z⟩:=I.cell x c e
  exact⟨w,z.sameBut sb (I.cne x c e)⟩
 ·obtain⟨e,n,ne,nf,d⟩:=I.pin p hp
  exact⟨kp p.1 p.2 ne e,n,ne,nf,d⟩
 ·refine(I.hok b u q).stay (fun c w hc z=>kp c w ?_ z) (fun _ z=>z) fun _ _ z=>z
  rintro rfl
  rcases hc with rfl|hc
  ·rw[I.free] at q;cases q
  ·rw[I.free] at hc;cases hc
theorem eO {M:Model}{A:Around}{E:Value→Shared→Prop}{i:Nat}{n:Str}{pos:Pos}{Q:Unit→Shared→Prop}(I:Inv X pins σ H s)(hN:X.N.Nodup)(hi:X.N[i]? = some n)(hlo:X.env.scope.names.lookup n=some .local)
  (h:∀ s',Inv X pins (σ.set i none) H s'→Q () s'):wpAny M A (do bindName X.env n .none;unbindBehindTheSuite X.env n pos) Q E s:=by
 obtain⟨m,hm,hl⟩:=id I.loc
 exact wpAny_nameGoes_keeps hlo hm (by rw[I.ok.kind];rfl) fun h' v hv sb=>h _ (Inv.gone I hN hi hl hv sb)
end
end _D
end
section
namespace _D
open PySem PySem.Spec PyProof.Rows _L
abbrev Cx.tryIn (X:Cx)(E:Value→Shared→Prop)(pn:List (Addr × Obj)):Cx:={ X with xe:=E,pn:=pn }
abbrev Cx.suite (X:Cx)(e:Addr):Cx:=Cx.re X (X.A.mark (some (.ref e))) false fun _ _=>False
def bW (N i:Nat)(cs:List Value)(f g:DS):DS:=fun env S=>match f env S with
 |.ex c x env1 S1=>if cs.contains c then (match g ((List.replicate N none).set i (some (.exn c))) S1 with
   |.rt d S2=>.rt d S2
   |.nx env2 S2=>.nx (env2.set i none) S2
   |_=>.bad) else .bad
 |o=>o
section
variable {X:Cx}{pins:List (Addr × Obj)}{σ : _L.St}{H:Hp}{s:Shared}
theorem Inv.inTry (I:Inv X pins σ H s)(E:Value→Shared→Prop):Inv (Cx.tryIn X E (X.pn++pins)) [] σ H s:=
 ⟨⟨I.ok.mod,I.ok.kind,I.ok.glob,I.ok.blt,I.ok.above,I.ok.inj,I.ok.has,I.ok.cab,I.ok.hd,I.ok.frames,I.ok.stk,I.ok.exf,I.ok.bs,I.ok.bsz,I.ok.noex,I.ok.exfs,I.ok.funs,I.ok.frf⟩,I.os,I.bare,I.base,I.loc,I.cell,I.free,I.freeC,fun p hp=>I.pin p (by simpa using hp),I.hok,I.len⟩
theorem Inv.outTry {E:Value→Shared→Prop}{more:List (Addr × Obj)}(I:Inv (Cx.tryIn X E (X.pn++pins)) more σ H s):Inv X pins σ H s:=
 ⟨⟨I.ok.mod,I.ok.kind,I.ok.glob,I.ok.blt,I.ok.above,I.ok.inj,I.ok.has,I.ok.cab,I.ok.hd,I.ok.frames,I.ok.stk,I.ok.exf,I.ok.bs,I.ok.bsz,I.ok.noex,I.ok.exfs,I.ok.funs,I.ok.frf⟩,I.os,I.bare,I.base,I.loc,I.cell,I.free,I.freeC,fun p hp=>I.pin p (List.mem_append_left _ hp),I.hok,I.len⟩
theorem SP.outTry {E:Value→Shared→Prop}{D:Ends}{f:Flow}{s':Shared}(h:SP (Cx.tryIn X E (X.pn++pins)) [] D f s'):SP X pins D f s':=by
 cases f with
 |next=>obtain⟨σ',H',I,q⟩:=h;exact⟨σ',H',Inv.outTry I,q⟩
 |brk=>obtain⟨σ',H',I,q⟩:=h;exact⟨σ',H',Inv.outTry I,q⟩
 |cont=>obtain⟨σ',H',I,q⟩:=h;exact⟨σ',H',Inv.outTry I,q⟩
 |ret u=>obtain⟨v,σ',H',I,r,q⟩:=h;exact⟨v,σ',H',Inv.outTry I,r,q⟩
theorem FlyX.outTry {E:Value→Shared→Prop}{more:List (Addr × Obj)}{c:Value}{e:Addr}{h:Heap}(f:FlyX (Cx.tryIn X E (X.pn++pins)) more H c e h):FlyX X pins H c e h:=by
 have old:∀ b,Old X pins H b→Old (Cx.tryIn X E (X.pn++pins)) more H b:=fun b o=>by
  rcases o with o|o|⟨p,hp,z⟩|o
  ·exact .inl o
  ·exact .inr (.inl o)
  ·exact .inr (.inr (.inl ⟨p,List.mem_append_left _ hp,z⟩))
  ·exact .inr (.inr (.inr o))
 cases f with
 |new g args hm hf hk=>exact .new g args hm hf fun b o e q=>hk b o e (old b q)
 |fly B a0 fl cv=>exact .fly B a0 fl fun b o e q n=>cv b o e (old b q) n
theorem ZZ {K:PySem.W.Frag}{P:Hp}{α : List Addr}{σ : _L.St}{n:Nat}(h:σ.length=n):zC K P α σ (List.replicate n none):=by
 refine⟨by simp[h],fun i d e=>?_⟩
 rw[List.getElem?_replicate] at e
 split at e <;> cases e
theorem zC.unset {K:PySem.W.Frag}{P:Hp}{α : List Addr}{σ : _L.St}{env:qE}(re:zC K P α σ env)(i:Nat):zC K P α (σ.set i none) (env.set i none):=by
 refine⟨by simp[re.1],fun j d e=>?_⟩
 by_cases hj:i=j
 ·subst hj
  by_cases hi:i<env.length
  ·rw[List.getElem?_set_self hi] at e;cases e
  ·rw[List.getElem?_eq_none (by simp;omega)] at e;cases e
 ·rw[List.getElem?_set_ne hj] at e ⊢
  exact re.2 j d e
end
section
variable {X:Cx}{pos:Pos}{f g:DS}
theorem BP {pins:List (Addr × Obj)}{D:Ends}{c:Value}{e C0:Addr}{s':Shared}{σ : _L.St}{H P:Hp}{α : List Addr}{S1:Sto}{x n:Str}{i:Nat}{b₀:Stmt}{suite:List Stmt}{np hpos:Pos}{cs:List Value}
  (F:Fn1 X) (hg:Gl X x) (hm:X.mg x=some (.ref C0)) (hcs:∀ c∈cs,PySem.W.exmOne X.K c (.ref C0)=some true) (hN:X.N.Nodup) (hi:X.N[i]? = some n) (hlo:X.env.scope.names.lookup n=some .local)
  (hs:∀ e,PSs (Cx.suite X e) (b₀::suite) (tDS (Cx.suite X e) g)) (hc:cs.contains c=true) (I:Inv X pins σ H s') (r:Rel X.K H P α S1) (fl:FlyX X pins H c e s'.heap)
  (af:zJ X P α (match g ((List.replicate X.N.length none).set i (some (.exn c))) S1 with|.rt d S2=>.rt d S2|.nx env2 S2=>.nx (env2.set i none) S2|_=>.bad) D) (hdb:(x == ("__debug__" : Str))=false) :
  wpAny (model X.prog X.w) X.A (noteFrame (.ref e) X.env) (fun _ s₂=>wpAny (model X.prog X.w) X.A (setFlight (.ref e) none) (fun _ s₃ =>
   wpAny (model X.prog X.w) X.A (handleBy (.ref e) X.env [.ExceptHandler (some (.Name x np)) (some n) (b₀::suite) hpos]) (SP X pins D) X.xe s₃) X.xe s₂) X.xe s':=by
 have hcs':PySem.W.exmOne X.K c (.ref C0)=some true:=hcs c (by simpa using hc)
 have Z:∀ {σ : _L.St} {H:Hp} {s:Shared},Inv X pins σ H s→Inv (Cx.suite X e) pins σ H s:=fun I=>Inv.re I _ false _ I.ok.frames fun z=>nomatch z
 refine WV I F I.ok.frames fl fun h5 B a0 f5 I5 cv5=>?_
 refine wpAny_handleBy_cons (codeAny_handlers_test (A:=X.A.mark (some (.ref e))) (kF (X:=Cx.suite X e) (Z I5) hg hm ?_ hdb)) (by intro q;cases q)
 obtain⟨no5,nf5,ob5,he5,hc5⟩:=eL I5 F f5 cv5
 refine(PySem.W.exm_one I5.kIn (by subst hc5;exact(PySem.W.Looks.ld he5).andThen .now) hcs').at ?_
 refine codeAny_handlers_suite_as ?_
 refine lands_againW (s:={ s' with heap:=h5 }) f5 fun h6 f6 u6=>?_
 obtain⟨I6,cv6⟩:=Inv.fly I5 F cv5 f6.1 u6
 obtain⟨no6,nf6,ob6,he6,hc6⟩:=eL I6 F f6 cv6
 have J6:Inv X pins σ (upd H e (dH e c)) { s' with heap:=h6 }:=Inv.track I6 F no6 nf6 he6 hc6
 have hn:H e=none:=by
  cases q:H e with
  |none=>rfl
  |some u=>exact absurd (.inr (.inl (by rw[q];intro z;cases z))) no6
 obtain⟨r1,sP⟩:=r.pure (o:=dH e c) hn
 refine yE (X:=Cx.suite X e) (v:=.ref e) (Z J6) hN hi (.inl hlo) rfl (fun s7 I7=>?_) (.inr hlo)
 have re7:zC X.K (upd P e (dH e c)) α (σ.set i (some (.ref e))) ((List.replicate X.N.length none).set i (some (.exn c))):=(ZZ I.len).set i (by simp only[Rep];exact⟨e,rfl,zN⟩)
 refine wpAny_mono (hs e pins s7 _ _ { nx:=fun σ' H'=>D.nx (σ'.set i none) H',rt:=D.rt } I7 ⟨_,α,_,S1,r1,re7,?_⟩) (fun fl s8 q=>?_) fun _ _ z=>False.elim z
 ·cases q:g ((List.replicate X.N.length none).set i (some (.exn c))) S1 with
  |rt d S2=>rw[q] at af;exact fun v H' P' α' r' e1 e2 rp=>af v H' P' α' r' (sP.trans e1) e2 rp
  |nx env2 S2=>rw[q] at af;exact fun σ' H' P' α' r' re' e1 e2=>af _ H' P' α' r' (zC.unset re' i) (sP.trans e1) e2
  |bk env2 S2=>rw[q] at af;exact False.elim af
  |ct env2 S2=>rw[q] at af;exact False.elim af
  |ex c' x' env2 S2=>rw[q] at af;exact False.elim af
  |bad=>rw[q] at af;exact False.elim af
 ·cases fl with
  |next =>
   obtain⟨σ',H',I8,q⟩:=q
   exact eO (Inv.unre I8 I.ok.frames I.ok.hd) hN hi hlo fun s9 I9=>⟨_,H',I9,q⟩
  |brk =>
   obtain⟨_,_,_,q⟩:=q
   exact False.elim q
  |cont =>
   obtain⟨_,_,_,q⟩:=q
   exact False.elim q
  |ret u =>
   obtain⟨v,σ',H',I8,rv,q⟩:=q
   exact eO (Inv.unre I8 I.ok.frames I.ok.hd) hN hi hlo fun s9 I9=>⟨v,_,H',I9,rv,q⟩
set_option tactic.hygienic true in
theorem BE {x n:Str}{C0:Addr}{i:Nat}{body:List Stmt}{b₀:Stmt}{suite:List Stmt}{np hpos:Pos}{cs:List Value}(F:Fn1 X)(hb:∀ E pn,PassesOwn (model X.prog X.w) X.A X.env E→PSs (Cx.tryIn X E pn) body (tDS (Cx.tryIn X E pn) f))
  (hs:∀ e,PSs (Cx.suite X e) (b₀::suite) (tDS (Cx.suite X e) g)) (hg:Gl X x) (hm:X.mg x=some (.ref C0)) (hcs:∀ c∈cs,PySem.W.exmOne X.K c (.ref C0)=some true) (hN:X.N.Nodup) (hi:X.N[i]? = some n:=by rfl) (hlo:X.env.scope.names.lookup n=some .local:=by rfl)
  (hdb:(x == ("__debug__" : Str))=false:=by decide):PS X (.Try body [.ExceptHandler (some (.Name x np)) (some n) (b₀::suite) hpos] [] [] pos) (tDS X (bW X.N.length i cs f g)):=by
 intro pins s σ H D I h
 obtain⟨P,α,env,S,r,re,af⟩:=h
 refine wpAny_Try_except ?_
 refine wpAny_mono (hb _ (X.pn++pins) (PassesOwn.looking (K:=fun e s₂=>wpAny (model X.prog X.w) X.A (setFlight e none) (fun _ s₃=>wpAny (model X.prog X.w) X.A (handleBy e X.env [.ExceptHandler (some (.Name x np)) (some n) (b₀::suite) hpos]) (SP X pins D) X.xe s₃) X.xe s₂) (E₁:=X.xe))
  [] s σ H D (Inv.inTry I _) ⟨P,α,env,S,r,re,?_⟩) (fun fl s1 q=>?_) fun _ _ z=>z
 ·unfold bW at af
  cases q:f env S with
  |rt d S2=>rw[q] at af;exact af
  |nx env2 S2=>rw[q] at af;exact af
  |bk env2 S2=>rw[q] at af;exact af
  |ct env2 S2=>rw[q] at af;exact af
  |bad=>rw[q] at af;exact af
  |ex c x' env2 S2 =>
   rw[q] at af
   dsimp only at af
   intro u s' k
   obtain⟨e,pins',σ',H',P',α',rfl,I',r',e1,e2,F',fl⟩:=k
   split at af
   ·rename_i hc
    exact BP F hg hm hcs hN hi hlo hs hc (Inv.outTry I') r' (FlyX.outTry fl) (zJ.base e1 e2 af) hdb
   ·exact False.elim af
 ·have q':=SP.outTry q
  cases fl with
  |next=>exact wpAny_execs_nil q'
  |brk=>exact q'
  |cont=>exact q'
  |ret u=>exact q'
end
end _D
end
section
namespace _D
open PySem PySem.Spec PyProof.Rows _L PySem.W
structure ExnK (K:PySem.W.Frag)(C:Addr):Prop where
 ga:findIn K (.ref C) "__getattribute__" = some (some (.builtin "BaseException.__getattribute__"))
 hk:findIn K (.ref C) "__getattr__" = some none
 cl:findIn K (.ref C) "__class__" = some (some (.builtin "object.__class__"))
 sp:specialIn K (.builtin "object.__class__") "__get__" = some (some (.builtin "getset_descriptor.__get__"))
 tk:takesIn K (.builtin "object.__class__")=some true
 mo:mroIn K C (.type "object")=some true
 mb:mroIn K C (.type "BaseException")=some true
 isC:(clsIn K C).isSome=true
section
variable {prog:Program}{w:World}{A:Around}{E:Value→Shared→Prop}{s:Shared}{K:PySem.W.Frag}{x C:Addr}
abbrev uI (x C:Addr)(h:Heap):Prop:=∃ ob,h.get? x=some ob∧ob.cls=.ref C
theorem uI.type {M:Model}{h:Heap}(I:uI x C h):Looks M h (typeOf (.ref x)) (.ref C):=by
 obtain⟨ob,e,c⟩:=I
 rw[← c]
 exact(Looks.ld e).andThen .now
theorem WL {M:Model}{h:Heap}(X:K.In h)(Z:ExnK K C):Looks M h (Builtin.ObjectAttr.find (.ref x) (.ref C) "__class__") (.bind (.builtin "getset_descriptor.__get__") (.builtin "object.__class__")):=by
 have l1:=looks_findIn (M:=M) X Z.cl
 have l2:Looks M h (Builtin.ObjectAttr.getOf (some (.builtin "object.__class__"))) (some (.builtin "getset_descriptor.__get__")):=looks_specialIn X Z.sp
 have l3:=looks_takesIn (M:=M) X Z.tk
 have l4:Looks M h (Builtin.ObjectAttr.dataDescriptor? (some (.builtin "object.__class__")) (some (.builtin "getset_descriptor.__get__"))) (some (.builtin "getset_descriptor.__get__",.builtin "object.__class__")):=l3.andThen .now
 exact l1.andThen (l2.andThen (l4.andThen (Looks.tag .now)))
theorem JH {R:Result→Shared→Prop}{tp:Value}(X:K.In s.heap)(Z:ExnK K C)(I:uI x C s.heap)(h:R (.ok (.ret (.ref C))) s) :
  codeAny (model prog w) A (.call (.builtin "getset_descriptor.__get__") ⟨[.builtin "object.__class__",.ref x,tp],[]⟩) R s:=by
 have LT:=uI.type (M:=model prog w) I
 have LM:=looks_mroIn (M:=model prog w) X Z.mo
 cases s
 refine codeAny_call_builtin KF.slot_gs.plain KF.entry_gs (KF.slot_gs.check _ _ _ _ _ _ _ _ KF.type_class (KF.args_gs _ _ _) ?_)
 unfold Builtin.«getset_descriptor.__get__» Builtin.Getset_descriptor.descrGet
 rw[dga_obj]
 refine wpAny_bind (wpAny_pure ?_)
 unfold Builtin.Getset_descriptor.descrGetter Builtin.Getset_descriptor.descrCheckInstance Builtin.Getset_descriptor.descrNameAndClass isInstance
 simp only[KF.owner_class]
 repeat lk
 refine⟨Code.quiet_builtin _ (by decide +kernel),codeAny_builtin KF.entry_class ?_⟩
 unfold Builtin.«object.__class__» shownTypeOf
 repeat lk
 exact h
theorem BJ {tk:Tok}{R:Result→Shared→Prop}(X:K.In s.heap)(Z:ExnK K C)(I:uI x C s.heap)(h:R (.ok (.ret (.ref C))) s) :
  codeAny (model prog w) A (.call (.builtin "BaseException.__getattribute__") ⟨[.ref x,.str "__class__" tk],[]⟩) R s:=by
 have LT:=uI.type (M:=model prog w) I
 have LM:=looks_mroIn (M:=model prog w) X Z.mb
 have LF:=WL (M:=model prog w) (x:=x) X Z
 have hk:builtinKind "BaseException.__getattribute__" = some .slot:=by decide +kernel
 have hsp:splitId "BaseException.__getattribute__" = some ("BaseException","__getattribute__"):=by decide +kernel
 have chk:∀ (A:Around) (Q:Unit→Shared→Prop) (E:Value→Shared→Prop),Q () s→wpAny (model prog w) A (checkBuiltinCall "BaseException.__getattribute__" ⟨[.ref x,.str "__class__" tk],[]⟩) Q E s:=by
  intro A Q E hq
  have ha:=PySem.F.args_bexc_ga (.ref x) (.str "__class__" tk)
  simp only[checkBuiltinCall,hk,hsp]
  unfold isInstance
  refine wpAny_bind (wpAny_bind (LT.here (LM.here ?_)))
  repeat (any_goals (first|assumption|wp_step))
 refine codeAny_call_builtin PySem.F.attr_ValueError.ga.plain PySem.F.entry_bexc_ga (chk _ _ _ ?_)
 cases s
 unfold Builtin.«object.__getattribute__»
 refine wpAny_bind (wpAny_of_eq (show slotArgs "__getattribute__" 1 ⟨[.ref x,.str "__class__" tk],[]⟩=pure (.ref x,[.str "__class__" tk]) from by kernel_rfl) ?_)
 refine wpAny_bind (wpAny_pure (wpAny_bind (LT.at (wpAny_bind (LF.at ?_)))))
 show wpAny _ _ (Builtin.ObjectAttr.bindTo _ _ _ _) _ _ _
 unfold Builtin.ObjectAttr.bindTo
 dsimp only
 exact wpAny_bind (wpAny_holding (wpAny_call (JH X Z I (wpAny_pure h))))
theorem oP {Q:Option Value→Shared→Prop}(X:K.In s.heap)(Z:ExnK K C)(I:uI x C s.heap)(h:Q (some (.ref C)) { s with toks:=s.toks+1 }) : wpAny (model prog w) A (getAttr? (.ref x) "__class__") Q E s:=by
 have LT:=uI.type (M:=model prog w) I
 have L1:=looks_findIn (M:=model prog w) X Z.ga
 have lk2:=looks_findIn (M:=model prog w) X Z.hk
 unfold getAttr? getAttrBy? getAttrBy
 cases s
 refine wpAny_bind (wpAny_mkText (wpAny_bind (wpAny_attempt (wpAny_holding (wpAny_bind (LT.at (wpAny_bind (L1.at ?_))))))))
 dsimp only
 have hx2:(Value.builtin "BaseException.__getattribute__" == Value.builtin "object.__getattribute__")=false:=by decide +kernel
 rw[hx2,Bool.and_false,if_neg Bool.false_ne_true]
 unfold getAttrByItsOwn hookBefore
 rw[if_pos (show onTheHeap (.ref C)=true from rfl)]
 refine wpAny_bind (lk2.at (wpAny_bind (wpAny_attempt (wpAny_holding ?_))))
 unfold callGetattribute
 rw[Bool.false_and,if_neg Bool.false_ne_true]
 unfold boundAndCalled
 refine wpAny_bind (wpAny_of_eq (PySem.F.attr_ValueError.ga.bind (.ref x)) ?_)
 refine wpAny_call (BJ X Z I ?_)
 show wpAny _ _ (handedOut (.ref C)) _ _ _
 exact wpAny_pure (wpAny_pure h)
set_option tactic.hygienic true in
theorem dQ (Z:ExnK K C):KitX K (.ref x) (.ref C) (uI x C) where
 ty:=fun _ _ _ I=>I.type
 it:=fun M h X _=>by
  have z:=Z.isC
  unfold clsIn at z
  split at z
  ·rename_i ho
   intro A' Q' E' s' k q
   unfold isType loadHead
   exact wpAny_bind (wpAny_loadPart (k _ _ (X _ _ ho)) (wpAny_pure q))
  ·cases z
 ne:=fun h tp dd its n sl X htp=>by
  have z:=Z.isC
  unfold clsIn at z
  split at z
  ·rename_i ho
   cases hq:(Value.ref C == Value.ref tp) with
   |false=>rfl
   |true =>
    obtain rfl:C=tp:=Value.ref.inj (beq_iff_eq.mp hq)
    have y:=(X _ _ ho).symm.trans htp
    cases y
  ·cases z
 ca:=fun X I k=>oP X Z I k
end
end _D
end
section
namespace _D
open PySem PySem.Spec PyProof.Rows _L
section
variable {X:Cx}
structure ClsK (K:PySem.W.Frag)(cl:List Addr):Prop where
 ex:∀ C∈cl,ExnK K C
 one:∀ C∈cl,∀ B∈cl,PySem.W.kitOne K (.ref C) (.ref B)=some (C == B)
 ve:∀ C∈cl,PySem.W.kitOne K (.ref C) (.type "ValueError")=some true
def zY (cl:List Addr):DF:=fun ds S=>match ds with
 |[.exn (.ref C),.obj B]=>if cl.contains C&&cl.contains B then .ok (.bl (C == B)) S else .bad
 |[.exn (.ref C),.ty b]=>if cl.contains C&&(b == "ValueError") then .ok (.bl true) S else .bad
 |_=>zD ds S
theorem oO {pins:List (Addr × Obj)}{σ : _L.St}{H P:Hp}{α : List Addr}{S:Sto}{s:Shared}{C:Addr}{v:V}{u:Value}(I:Inv X pins σ H s)(r:Rel X.K H P α S)(p:Rep X.K P α (.exn (.ref C)) v)(q:qK v u):∃ a,u=.ref a∧uI a C s.heap:=by
 simp only[Rep] at p
 obtain⟨a,rfl,z⟩:=p
 obtain⟨y,_⟩:=I.hok a _ (r.sub _ _ z)
 exact⟨a,q,y⟩
inductive IsiE (cl:List Addr)(ds:List D)(S:Sto):Prop
 |bad (e:zY cl ds S=.bad)
 |old (e:zY cl ds S=zD ds S)
 |obj (C B:Addr) (ed:ds=[.exn (.ref C),.obj B]) (h1:C∈cl) (h2:B∈cl) (e:zY cl ds S=.ok (.bl (C == B)) S)
 |ve (C:Addr) (ed:ds=[.exn (.ref C),.ty "ValueError"]) (h1:C∈cl) (e:zY cl ds S=.ok (.bl true) S)
theorem NB (cl:List Addr)(C:Addr)(d:D)(S:Sto):IsiE cl [.exn (.ref C),d] S:=by
 cases d with
 |obj B =>
  have z:zY cl [.exn (.ref C),.obj B] S=if (cl.contains C&&cl.contains B)=true then .ok (.bl (C == B)) S else .bad:=rfl
  by_cases h:(cl.contains C&&cl.contains B)=true
  ·rw[if_pos h] at z
   have h':=Bool.and_eq_true_iff.mp h
   exact .obj C B rfl (List.contains_iff_mem.mp h'.1) (List.contains_iff_mem.mp h'.2) z
  ·rw[if_neg h] at z
   exact .bad z
 |ty b =>
  have z:zY cl [.exn (.ref C),.ty b] S=if (cl.contains C&&(b == "ValueError"))=true then .ok (.bl true) S else .bad:=rfl
  by_cases h:(cl.contains C&&(b == "ValueError"))=true
  ·rw[if_pos h] at z
   have h':=Bool.and_eq_true_iff.mp h
   cases (beq_iff_eq.mp h'.2)
   exact .ve C rfl (List.contains_iff_mem.mp h'.1) z
  ·rw[if_neg h] at z
   exact .bad z
 |_=>exact .old rfl
theorem D5 (cl:List Addr)(ds:List D)(S:Sto):IsiE cl ds S:=by
 cases ds with
 |nil=>exact .old rfl
 |cons a ds =>
  cases a with
  |exn c =>
   cases c with
   |ref C =>
    cases ds with
    |nil=>exact .old rfl
    |cons b ds =>
     cases ds with
     |nil=>exact NB cl C b S
     |cons _ _=>cases b <;> exact .old rfl
   |_=>exact .old rfl
  |_=>exact .old rfl
theorem UL {cl:List Addr}(hK:ClsK X.K cl):wG X (.builtin "isinstance") (zY cl):=by
 intro pins σ H s P α S vs us ds Q I r rv rp af
 cases D5 cl ds S with
 |bad e=>rw[e] at af;exact False.elim af
 |old e=>rw[e] at af;exact o8 pins σ H s P α S vs us ds Q I r rv rp af
 |obj C B ed h1 h2 e =>
  rw[e] at af
  subst ed
  obtain⟨v,w,u,x,rfl,rfl,p,p',q,q'⟩:=mG rp rv
  simp only[Rep] at p'
  obtain⟨rfl,_⟩:=p'
  cases (show x=Value.ref B from q')
  obtain⟨a,rfl,ha⟩:=oO I r p q
  exact PySem.W.kia_one (dQ (hK.ex C h1)) I.kIn ha (hK.one C h1 B h2) (fun z=>nomatch z) fun tk=>⟨.bl _,H,I.tok tk,rfl,xr af r (by simp only[Rep])⟩
 |ve C ed h1 e =>
  rw[e] at af
  subst ed
  obtain⟨v,w,u,x,rfl,rfl,p,p',q,q'⟩:=mG rp rv
  simp only[Rep] at p'
  subst p'
  cases (show x=Value.type "ValueError" from q')
  obtain⟨a,rfl,ha⟩:=oO I r p q
  exact PySem.W.kia_one (dQ (hK.ex C h1)) I.kIn ha (hK.ve C h1) (fun z=>nomatch z) fun tk=>⟨.bl _,H,I.tok tk,rfl,xr af r (by simp only[Rep])⟩
def MtD (X:Cx)(id:String)(g:D→List D→Sto→Res D):Prop:=
 ∀ (pins:List (Addr × Obj)) (σ : _L.St) (H:Hp) (s:Shared) (P:Hp) (α : List Addr) (S:Sto) (v:V) (vv:Value) (vs:List V) (us:List Value) (a:D) (ds:List D) (Q:VK),Inv X pins σ H s→Rel X.K H P α S→qK v vv→Rep X.K P α a v→qL vs us→qF X.K P α ds vs→zB X P α (g a ds S) Q →
  wpAny (model X.prog X.w) X.A (call (.builtin id) (vv::us)) (EP X pins σ Q) X.xe s
def dBm (T:String)(g:D→List D→Sto→Res D)(fo:DE)(fa:DA):DE:=fun env S=>(fo env S).bind fun a S1=>if (tyD a S1 == some T)=true then (fa env S1).bind fun ds S2=>g a ds S2 else .bad
theorem MV {H P:Hp}{α : List Addr}{S:Sto}{a:D}{v:V}{T:String}(r:Rel X.K H P α S)(p:Rep X.K P α a v)(h:tyD a S=some T)(hT:T = "list" ∨ T = "dict" ∨ T = "int" ∨ T = "str"):tyV X.K T v H:=by
 cases a with
 |int i=>cases h;simp only[Rep] at p;subst p;rfl
 |str x=>cases h;simp only[Rep] at p;subst p;rfl
 |lst xs =>
  cases h
  simp only[Rep] at p
  obtain⟨b,vs,rfl,q,t⟩:=p
  exact .inl ⟨rfl,vs,(w4 r.sub q).l⟩
 |dct0 =>
  cases h
  simp only[Rep] at p
  obtain⟨b,rfl,q⟩:=p
  exact .inr (.inr (.inl ⟨rfl,.inl ⟨[],r.sub _ _ q⟩⟩))
 |loc i =>
  simp only[Rep] at p
  obtain⟨b,rfl,q⟩:=p
  rcases tG (f:=fun _=>some "list") (g:=fun _=>some "dict") h with⟨xs,hS,h⟩|⟨kvs,hS,h⟩
  ·cases h
   obtain⟨vs,z,t⟩:=r.at' i b _ q hS
   exact .inl ⟨rfl,vs,SqL.of z⟩
  ·cases h
   obtain⟨vs,z,t⟩:=r.at' i b _ q hS
   exact .inr (.inr (.inl ⟨rfl,.inl ⟨vs,z⟩⟩))
 |non=>cases h;exact absurd hT (by decide)
 |bl b=>cases h;exact absurd hT (by decide)
 |tup xs=>cases h;exact absurd hT (by decide)
 |_=>exact nn h
variable {o e:Expr}{es:List Expr}{fo:DE}{fa:DA}{name:Str}{apos cpos:Pos}{T id:String}{g:D→List D→Sto→Res D}
theorem PM {P:Hp}{α : List Addr}{a:D}{S:Sto}{β : Type}{k:Res β}{Ok:β→Sto→Prop}(h:qI X P α (if (tyD a S == some T)=true then k else .bad) Ok):tyD a S=some T∧qI X P α k Ok:=by
 by_cases z:(tyD a S == some T)=true
 ·rw[if_pos z] at h;exact⟨beq_iff_eq.mp z,h⟩
 ·rw[if_neg z] at h;exact False.elim h
theorem TN (pa:PlainAttrs T)(slot:Slot T name id)(hty:typeOf (.builtin id)=pure (.type "method_descriptor"))(hT:T = "list" ∨ T = "dict" ∨ T = "int" ∨ T = "str")(hm:MtD X id g)(ho:PE X o (tD X fo))(ha:PA X (e::es) (tDA X fa))
  (hbase:attributeBase o name X.env (eval o X.env)=eval o X.env:=by rfl)
  (hfew:((backTo cpos (starEach (e::es) X.env)).all (fun x=>!x.1)&&(backToKw cpos (keywordEach [] X.env)).all (fun x=>x.1.isSome)
   && decide ((e::es).length+([]:List Keyword).length+(if ([] : List Keyword).isEmpty then 0 else 1)<30))=true:=by rfl)
  (hline:(apos.endLine == cpos.line)=true:=by rfl) (hs:starEach (e::es) X.env=(false,eval e X.env)::starEach es X.env:=by rfl) (hplain:(backTo cpos (starEach es X.env)).any (·.1)=false:=by rfl) :
  PE X (.Call (.Attribute o name apos) (e::es) [] cpos) (tD X (dBm T g fo fa)):=by
 intro pins s σ H Q I h
 obtain⟨P,α,env,S,r,re,af⟩:=h
 refine wpAny_Call_method_late hbase hfew hline rfl (thn (xA ho I r re af) fun vv s1 ⟨v,H1,P1,α1,d,S1,G1,af1⟩=>?_)
 obtain⟨ht,af2⟩:=PM af1
 obtain⟨h1,h2⟩:=MU G1.inv G1.val (MV G1.rel G1.rep ht hT)
 refine⟨T,id,pa,slot,hty,h1,h2,?_⟩
 have hA:=yQ ha G1.inv G1.rel G1.env (P:=P1) (α:=α1) (Ok:=OkV X P1 α1 Q) (zB.base G1.same G1.pre (r:=(fa env S1).bind fun ds S2=>g d ds S2) af2) cpos
 rw[hs] at hA ⊢
 refine Calls.callWith_builtin (by show (false||(backTo cpos (starEach es X.env)).any (·.1))=false;rw[hplain] <;> rfl) (Calls.evalArgs_plain ?_)
 exact thn hA fun us s2 ⟨vs,H2,P2,α2,ds,S2,I2,rv,r2,re2,rp2,e1,e2,af3⟩=>hm pins σ H2 s2 P2 α2 S2 v vv vs us d ds Q I2 r2 G1.val (Rep.mono e1 e2 _ _ G1.rep) rv rp2 (zB.base e1 e2 af3)
def JL:D→List D→Sto→Res D:=fun a ds S=>match a,ds with
 |.loc i,[d]=>match S[i]? with
  |some (.lst xs)=>if xs.length<lim then .ok .non (S.set i (.lst (xs++[d]))) else .bad
  |_=>.bad
 |_,_=>.bad
end
end _D
end
section
namespace _D
open PySem PySem.Spec PyProof.Rows _L
def bQ:D→Option Key
 |.int i=>some (.inl i)
 |.str x=>some (.inr x)
 |_=>none
def T4 (kvs:List (Key × D))(k:Key):Option D:=(kvs.find? fun kv=>decide (kv.1=k)).map (·.2)
def bV (kvs:List (Key × D))(k:Key)(v:D):List (Key × D):=
 if (kvs.any fun kv=>decide (kv.1=k))=true then kvs.map (fun kv=>if kv.1=k then (kv.1,v) else kv) else kvs++[(k,v)]
section
variable {K:PySem.W.Frag}{P:Hp}{α : List Addr}
theorem K1 {kvs:List (Key × D)}{vs:List (Key × V)}(r:KVs K P α kvs vs):kvs.length=vs.length:=Paired.length r
theorem JZ {k:Key}{kvs:List (Key × D)}{vs:List (Key × V)}(h:KVs K P α kvs vs):(kvs.any fun kv=>decide (kv.1=k))=(vs.any fun kv=>decide (kv.1=k)):=by
 induction h with
 |nil=>rfl
 |cons z t ih=>rw[List.any_cons,List.any_cons,ih,z.1]
theorem K2 {k:Key}{d:D}{v:V}(q:Rep K P α d v){kvs:List (Key × D)}{vs:List (Key × V)}(h:KVs K P α kvs vs):KVs K P α (kvs.map fun kv=>if kv.1=k then (kv.1,d) else kv) (vs.map fun kv=>if kv.1=k then (kv.1,v) else kv):=by
 induction h with
 |nil=>exact .nil
 |cons z t ih =>
  rw[List.map_cons,List.map_cons]
  refine .cons ?_ ih
  rw[← z.1]
  split
  ·exact⟨rfl,q⟩
  ·exact z
theorem K0 {k:Key}{d:D}{v:V}(q:Rep K P α d v){kvs:List (Key × D)}{vs:List (Key × V)}(h:KVs K P α kvs vs):KVs K P α (kvs++[(k,d)]) (vs++[(k,v)]):=by
 induction h with
 |nil=>exact .cons ⟨rfl,q⟩ .nil
 |cons z t ih=>exact .cons z ih
theorem K3 {k:Key}{d:D}{v:V}(q:Rep K P α d v){kvs:List (Key × D)}{vs:List (Key × V)}(r:KVs K P α kvs vs):KVs K P α (bV kvs k d) (vS vs k v):=by
 unfold bV vS
 rw[JZ r]
 split
 ·exact K2 q r
 ·exact K0 q r
theorem BU {d:D}{k:Key}{v:V}(h:bQ d=some k)(r:Rep K P α d v):v=kV k:=by
 cases d with
 |int i=>cases h;simp only[Rep] at r;exact r
 |str x=>cases h;simp only[Rep] at r;exact r
 |_=>cases h
end
section
variable {X:Cx}{o i e:Expr}{pos:Pos}{fo fi:DE}
def uU:DE:=fun _ S=>.ok .dct0 S
theorem UW:PE X (.Dict [] [] pos) (tD X uU):=by
 refine peW Y3 fun σ H Q ⟨P,α,env,S,r,re,af⟩ p hp=>?_
 obtain⟨r1,e1⟩:=r.pure (o:=.dK []) hp
 refine af _ _ _ α r1 e1 (List.prefix_refl _) ?_
 simp only[Rep]
 exact⟨p,rfl,zN⟩
def uJ:G3:=fun o i d S=>match o with
 |.loc n=>match S[n]? with
  |some (.dct kvs)=>match bQ i with
   |some k=>if kvs.length<lim then .ok () (S.set n (.dct (bV kvs k d))) else .bad
   |none=>.bad
  |_=>mX o i d S
 |_=>mX o i d S
inductive Set2V (a b d:D)(S:Sto):Prop
 |bad (e:uJ a b d S=.bad)
 |old (e:uJ a b d S=mX a b d S)
 |of (n:Nat) (kvs:List (Key × D)) (k:Key) (ea:a=.loc n) (hS:S[n]? = some (.dct kvs)) (hk:bQ b=some k) (hl:kvs.length<lim) (e:uJ a b d S=.ok () (S.set n (.dct (bV kvs k d))))
theorem L5 (a b d:D)(S:Sto):Set2V a b d S:=by
 cases a with
 |loc n =>
  have z:uJ (.loc n) b d S=(match S[n]? with|some (.dct kvs)=>(match bQ b with|some k=>(if kvs.length<lim then .ok () (S.set n (.dct (bV kvs k d))) else .bad)|none=>.bad)|_=>mX (.loc n) b d S):=rfl
  cases hS:S[n]? with
  |none=>rw[hS] at z;exact .old z
  |some m =>
   rw[hS] at z
   cases m with
   |dct kvs =>
    cases hk:bQ b with
    |none=>rw[hk] at z;exact .bad z
    |some k =>
     rw[hk] at z
     by_cases hl:kvs.length<lim
     ·exact .of n kvs k rfl hS hk hl (z.trans (if_pos hl))
     ·exact .bad (z.trans (if_neg hl))
   |_=>exact .old z
 |_=>exact .old rfl
theorem MJ (hu:X.A.units+1<cLine):lU X (lS X uJ):=by
 intro pins s σ H o i v ov iv u Q I ro ri rv h
 obtain⟨P,α,S,a,b,d,r,pa,pb,pd,af⟩:=h
 cases L5 a b d S with
 |bad e=>rw[e] at af;exact False.elim af
 |old e =>
  rw[e] at af
  exact L6 pins s σ H o i v ov iv u Q I ro ri rv ⟨P,α,S,a,b,d,r,pa,pb,pd,af⟩
 |of n kvs k ea hS hk hl e =>
  rw[e] at af
  subst ea
  simp only[Rep] at pa
  obtain⟨p,rfl,q⟩:=pa
  obtain⟨vs,z,t⟩:=r.at' n p _ q hS
  cases BU hk pb
  cases (show ov=Value.ref p from ro)
  refine oF hu I (mM.k (v:=v) z (by rw[← K1 t,← xN];exact hl)) ri rv fun s' I'=>⟨_,I',?_⟩
  exact af _ P α (r.put (m':=.dct (bV kvs k d)) q hS (by intro z;cases z) ⟨_,zN,K3 pd t⟩) (qH.refl _) (List.prefix_refl _)
def SO:D→List D→Sto→Res D:=fun a ds S=>match a,ds with
 |.loc n,[i,x]=>match S[n]? with
  |some (.dct kvs)=>match bQ i with
   |some k=>.ok ((T4 kvs k).getD x) S
   |none=>.bad
  |_=>.bad
 |_,_=>.bad
def fK:D→List D→Sto→Res D:=fun a ds S=>match a,ds with
 |.lst xs,[.bl k]=>match xL xs with
  |some bs=>.ok (.int (bs.countP (· == k):Nat)) S
  |none=>.bad
 |_,_=>.bad
def mZ (k:Bool):List Bool→Option Nat
 |[]=>none
 |b::r=>if b=k then some 0 else (mZ k r).map (· + 1)
def fL:D→List D→Sto→Res D:=fun a ds S=>match a,ds with
 |.lst xs,[.bl k]=>match (xL xs).bind (mZ k) with
  |some j=>.ok (.int j) S
  |none=>.bad
 |_,_=>.bad
theorem dF (k:Bool){bs:List Bool}{y:Value}(hy:y∈(bs.map Value.bool).toArray):PySem.MeetsSeq.EqGives y (.bool k) (isBoolOf k y):=by
 have hy':y∈bs.map Value.bool:=by rwa [List.mem_toArray] at hy
 obtain⟨b,_,rfl⟩:=List.mem_map.mp hy'
 exact fun prog w A E s Q h=>PySem.SeqAt.EqAt.bool_bool b k prog w E Q h
theorem rO (k:Bool)(bs:List Bool):(bs.map Value.bool).countP (isBoolOf k)=bs.countP (· == k):=by
 rw[List.countP_map]
 rfl
theorem iX {β : Type}{r:Res β}{P:Hp}{α : List Addr}{Ok:β→Sto→Prop}(e:r=.bad)(h:qI X P α r Ok):False:=by
 rw[e] at h
 exact h
inductive BlV (a:D)(ds:List D):Prop
 |no (h:∀ (g:List D→Bool→Res D),(match a,ds with|.lst xs,[.bl k]=>g xs k|_,_=>.bad)=.bad)
 |of (xs:List D) (k:Bool) (ea:a=.lst xs) (ed:ds=[.bl k])
theorem blV (a:D)(ds:List D):BlV a ds:=by
 cases a with
 |lst xs =>
  cases ds with
  |nil=>exact .no fun _=>rfl
  |cons d ds =>
   cases ds with
   |cons _ _=>cases d <;> exact .no fun _=>rfl
   |nil =>
    cases d with
    |bl k=>exact .of xs k rfl rfl
    |_=>exact .no fun _=>rfl
 |_=>exact .no fun _=>rfl
theorem WW:MtD X "list.count" fK:=by
 intro pins σ H s P α S v vv vs us a ds Q I r rv p rvs rps af
 cases blV a ds with
 |no h=>exact(iX (X:=X) (r:=fK a ds S) (h _) af).elim
 |of xs k ea ed =>
  subst ea ed
  have af:qI X P α (match xL xs with|some bs=>Res.ok (D.int (bs.countP (· == k):Nat)) S|none=>.bad) (OkV X P α Q):=af
  cases hb:xL xs with
  |none=>rw[hb] at af;exact False.elim af
  |some bs =>
   rw[hb] at af
   obtain⟨vx,ux,rfl,rfl,px,qx⟩:=yV rps rvs
   simp only[Rep] at px
   subst px
   cases (show ux=Value.bool k from qx)
   obtain⟨b,ws,its,n,rfl,sq,t,rvi,ht,hl,_⟩:=yR I r p
   cases (show vv=Value.ref b from rv)
   have hi:=vG hb t rvi
   subst hi
   refine call_meets PySem.F.slot_list_count ⟨_,ht,rfl⟩ PySem.F.entry_list_count (PySem.F.args_list_count_2 _ _) (PySem.SeqAt.list_countAt b (bs.map Value.bool).toArray n none #[] (.bool k) (isBoolOf k)) ⟨ht,fun y hy=>(dF k hy).at _ _,?_⟩
   refine⟨.int _,H,I.tok _,⟨_,rfl⟩,?_⟩
   rw[show (bs.map Value.bool).toArray.toList=bs.map Value.bool from rfl,rO]
   exact xr af r (by simp only[Rep])
theorem eQ {k:Bool}:∀ {bs:List Bool} {j:Nat},mZ k bs=some j→∃ h:j<bs.length,bs[j]=k∧∀ m (hm:m<bs.length),m<j→bs[m]≠k
 |[],j,h=>by cases h
 |b::r,j,h=>by
  unfold mZ at h
  by_cases hb:b=k
  ·rw[if_pos hb] at h
   cases h
   exact⟨by simp,by simpa using hb,fun m hm z=>absurd z (Nat.not_lt_zero _)⟩
  ·rw[if_neg hb] at h
   obtain⟨i,hi,rfl⟩:=Option.map_eq_some_iff.mp h
   obtain⟨h1,h2,h3⟩:=eQ hi
   refine⟨by simp;omega,by simpa using h2,fun m hm hl=>?_⟩
   cases m with
   |zero=>simpa using hb
   |succ m=>simpa using h3 m (by simp at hm;omega) (by omega)
theorem WX:MtD X "list.index" fL:=by
 intro pins σ H s P α S v vv vs us a ds Q I r rv p rvs rps af
 cases blV a ds with
 |no h=>exact(iX (X:=X) (r:=fL a ds S) (h _) af).elim
 |of xs k ea ed =>
  subst ea ed
  have af:qI X P α (match (xL xs).bind (mZ k) with|some j=>Res.ok (D.int j) S|none=>.bad) (OkV X P α Q):=af
  cases hj:(xL xs).bind (mZ k) with
  |none=>rw[hj] at af;exact False.elim af
  |some j =>
   rw[hj] at af
   obtain⟨bs,hb,hi⟩:=Option.bind_eq_some_iff.mp hj
   obtain⟨vx,ux,rfl,rfl,px,qx⟩:=yV rps rvs
   simp only[Rep] at px
   subst px
   cases (show ux=Value.bool k from qx)
   obtain⟨b,ws,its,n,rfl,sq,t,rvi,ht,hl,hz⟩:=yR I r p
   cases (show vv=Value.ref b from rv)
   have hi':=vG hb t rvi
   subst hi'
   obtain⟨h1,h2,h3⟩:=eQ hi
   have hlen:bs.length≤sizeLine:=by
    have e1:=t.length
    have e2:=rvi.length
    rw[List.length_map] at e2
    rw[xN] at hz
    omega
   refine call_meets PySem.F.slot_list_index ⟨_,ht,rfl⟩ PySem.F.entry_list_index (PySem.F.args_list_index_2 _ _) (PySem.MeetsSeq.list_index b (bs.map Value.bool).toArray n (.bool k) (isBoolOf k) (fun y hy=>dF k hy) j (by simpa using h1) ?_ ?_ ?_) ⟨ht,?_⟩
   ·rw[sizeLine_eq] at hlen;omega
   ·simp[isBoolOf,h2]
   ·intro m hm hl'
    have hm':m<bs.length:=by simpa using hm
    have:=h3 m hm' hl'
    simp[isBoolOf,this]
   ·exact⟨.int _,H,I.tok _,⟨_,rfl⟩,xr af r (by simp only[Rep])⟩
end
end _D
end
section
namespace _D
open PySem PySem.Spec PyProof.Rows _L
section
variable {X:Cx}{a b c e:Expr}{pos:Pos}{fa fe:DE}
def SQ (i:Nat)(g:G2)(fe:DE):DS:=fun env S=>match env[i]? with
 |some (some x)=>(fe env S).toS env fun y S1=>(g x y S1).toS env fun z S2=>.nx (env.set i (some z)) S2
 |_=>.bad
def SL:G2:=i2 (fun _ _=>true) fun i j=>.int (i+j)
def hX (i j k:Nat)(env:qE)(S1:Sto):List D→Out
 |[x,y,z]=>.nx (((env.set i (some x)).set j (some y)).set k (some z)) S1
 |_=>.bad
def mH (i j k:Nat)(f:DA):DS:=fun env S=>(f env S).toS env fun ds S1=>hX i j k env S1 ds
theorem JC {i j k:Nat}{x y z:Str}{f:DA}{px py pz pt:Pos} {kt k2 pt2} (hc:X.calm=true) (hN:X.N.Nodup) (ha:PA X [a,b,c] (tDA X f)) (hi:X.N[i]? = some x:=by rfl) (hj:X.N[j]? = some y:=by rfl) (hk:X.N[k]? = some z:=by rfl) (hij:i≠j:=by decide) (hik:i≠k:=by decide) (hjk:j≠k:=by decide)
  (hx:X.env.scope.names.lookup x=some .local:=by rfl) (hy:X.env.scope.names.lookup y=some .local:=by rfl) (hz:X.env.scope.names.lookup z=some .local:=by rfl)
  (hw:swappedStores [.Tuple [.Name x px,.Name y py,.Name z pz] kt pt] (.Tuple [a,b,c] k2 pt2) X.env=pure (some [x,y,z]):=by rfl)
  (hs:swapsWithSole [.Tuple [.Name x px,.Name y py,.Name z pz] kt pt] (.Tuple [a,b,c] k2 pt2) pos.line X.env=pure false:=by rfl) :
  PS X (.Assign [.Tuple [.Name x px,.Name y py,.Name z pz] kt pt] (.Tuple [a,b,c] k2 pt2) pos) (tDS X (mH i j k f)):=by
 intro pins s σ H D I h
 obtain⟨P,α,env,S,r,re,af⟩:=h
 rw[exec_Assign_arm]
 refine wpAny_bind (wpAny_standAt ?_)
 rw[hs]
 refine wpAny_bind (wpAny_pure ?_)
 rw[if_neg (by decide)]
 refine wpAny_bind (Tuple_ (thn (eD ha I r re af _) fun us s1 ⟨vs,H1,P1,α1,ds,S1,I1,rv,r1,re1,rp,e1,e2,q⟩=>?_))
 match ds,rp,q with
 |[],_,q=>exact False.elim q
 |[_],_,q=>exact False.elim q
 |[_,_],_,q=>exact False.elim q
 |_::_::_::_::_,_,q=>exact False.elim q
 |[d1,d2,d3],rp,q =>
  obtain⟨v1,t1,rfl,p1,rp⟩:=rp.cons_inv
  obtain⟨v2,t2,rfl,p2,rp⟩:=rp.cons_inv
  obtain⟨v3,t3,rfl,p3,rp⟩:=rp.cons_inv
  cases rp.nil_inv
  obtain⟨u1,u2,u3,rfl,q1,q2,q3⟩:∃ u1 u2 u3,us=[u1,u2,u3]∧qK v1 u1∧qK v2 u2∧qK v3 u3:=by
   cases rv with
   |cons z1 rv=>cases rv with
    |cons z2 rv=>cases rv with
     |cons z3 rv=>cases rv;exact⟨_,_,_,rfl,z1,z2,z3⟩
  refine wpAny_newObj_type ?_ (by show 3≤sizeLine;decide)
  have I2:Inv X pins σ H1 { s1 with heap:=s1.heap.push { cls:=.type "tuple",data:=.seq [u1,u2,u3].toArray } }:=I1.kept (t':=s1.toks) fun b o e=>Heap.get?_push_of_some _ e
  rw[hw]
  refine wpAny_bind (wpAny_pure ?_)
  show wpAny (model X.prog X.w) X.A (do rule "assign.swapped-stores";let items ← unpackItems (.ref s1.heap.objs.size) 3 none;assignInOrder [fun v=>bindName X.env z v,fun v=>bindName X.env y v,fun v=>bindName X.env x v] items.reverse;pure Flow.next) _ _ _
  refine wpAny_bind (wpAny_rule (wpAny_bind (unpackItems_tuple (items:=#[u1,u2,u3]) (I.ok.hd hc) (IsTup.new s1.heap _) fun h' hx'=>?_)))
  have I3:=I2.kept (h':=h') (t':=s1.toks) fun b o e=>hx' b o (Nat.ne_of_lt (Heap.lt_size e)) e
  show wpAny _ _ (assignInOrder [fun v=>bindName X.env z v,fun v=>bindName X.env y v,fun v=>bindName X.env x v] [u3,u2,u1] >>= fun _=>pure Flow.next) _ _ _
  refine wpAny_bind (assignInOrder_cons (wpAny_bindName (yE I3 hN hk (.inl hz) q3 (fun s2 I4=>?_) (.inr hz))))
  refine assignInOrder_cons (wpAny_bindName (yE I4 hN hj (.inl hy) q2 (fun s3 I5=>?_) (.inr hy)))
  refine assignInOrder_cons (wpAny_bindName (yE I5 hN hi (.inl hx) q1 (fun s4 I6=>assignInOrder_nil (wpAny_pure ?_)) (.inr hx)))
  rw[List.set_comm _ _ (Ne.symm hij),List.set_comm _ _ (Ne.symm hik),List.set_comm _ _ (Ne.symm hjk)] at I6
  exact⟨_,H1,I6,q _ H1 P1 α1 r1 (((re1.set i p1).set j p2).set k p3) (qH.refl _) (List.prefix_refl _)⟩
def x8 (xs:List D)(lo hi:Option Int):List D:=(xs.drop (_H.sIx xs.length 0 lo)).take (_H.sIx xs.length xs.length hi-_H.sIx xs.length 0 lo)
abbrev DO:=qE→Sto→Res (Option Int)
def OkO (X:Cx)(P:Hp)(α : List Addr)(Q:Option Int→Hp→Prop)(o:Option Int)(S':Sto):Prop:=∀ H' P' α',Rel X.K H' P' α' S'→qH P P'→α<+:α'→Q o H'
def tDO (X:Cx)(f:DO):TO:=fun σ H Q=>∃ P α env S,Rel X.K H P α S∧zC X.K P α σ env∧qI X P α (f env S) (OkO X P α Q)
def zK:DO:=fun _ S=>.ok none S
def z9 (f:DE):DO:=fun env S=>(f env S).bind fun d S1=>match d with
 |.int i=>.ok (some i) S1
 |_=>.bad
theorem J8:PO X none (tDO X zK):=fun pins s σ H Q I ⟨P,α,env,S,r,re,af⟩=>KU pins s σ H Q I (af H P α r (qH.refl _) (List.prefix_refl _))
theorem J9 (he:PE X e (tD X fe)):PO X (some e) (tDO X (z9 fe)):=by
 intro pins s σ H Q I h
 obtain⟨P,α,env,S,r,re,af⟩:=h
 refine KW (te:=tD X fe) he pins s σ H Q I ⟨P,α,env,S,r,re,?_⟩
 have af':qI X P α ((fe env S).bind fun d S1=>match d with|.int i=>.ok (some i) S1|_=>.bad) (OkO X P α Q):=af
 cases q:fe env S with
 |bad=>rw[q] at af';exact af'
 |ex c x S'=>rw[q] at af';exact af'
 |ok d S1 =>
  rw[q] at af'
  intro v H1 P1 α1 r1 e1 e2 rp
  cases d with
  |int i=>exact⟨i,wA rp,af' H1 P1 α1 r1 e1 e2⟩
  |_=>exact False.elim af'
theorem qF.cut {K:PySem.W.Frag}{P:Hp}{α : List Addr}{ds:List D}{vs:List V}(r:qF K P α ds vs)(lo hi:Option Int):qF K P α (x8 ds lo hi) (gT vs lo hi):=by
 unfold x8 gT
 rw[r.length]
 exact(r.drop _).take _
def gSl (d:D)(lo hi:Option Int)(S:Sto):Res D:=match d with
 |.lst xs=>.ok (.lst (x8 xs lo hi)) S
 |.loc i=>match S[i]? with
  |some (.lst xs)=>.ok (.lst (x8 xs lo hi)) S
  |_=>.bad
 |.tup xs=>.ok (.tup (x8 xs lo hi)) S
 |_=>.bad
def dSl (fe:DE)(fl fh:DO):DE:=fun env S=>(fe env S).bind fun d S1=>(fl env S1).bind fun lo S2=>(fh env S2).bind fun hi S3=>gSl d lo hi S3
end
end _D
end
section
namespace _D
open PySem PySem.Spec PyProof.Rows _L _H
section
variable {prog:Program}{w:World}{A:Around}{E:Value→Shared→Prop}{s:Shared}
theorem gO {t sl:Addr}{items:Array Value}{vl vu:Value}{lo hi:Option Int}{Q:Value→Shared→Prop}(ht:IsTup s.heap t items)(hs:s.heap.IsSliceOf sl vl vu .none)(pl:IsPart vl lo)(pu:IsPart vu hi)
  (hw:sIx items.size 0 lo=0∧sIx items.size items.size hi=items.size) (h:Q (.ref t) s):wpAny (model prog w) A (getItem (.ref t) (.ref sl)) Q E s:=by
 obtain⟨ob,hob,hcb,_⟩:=id hs
 have hTs:s.TypeIs (.ref sl) "slice":=⟨ob,hob,hcb⟩
 unfold getItem
 try with_reducible refine wpAny_holding ?_
 first|refine wpAny_bind (wpAny_pure ?_)|skip
 refine wpAny_bind (wpAny_sequenceKey ht.typeIs (by decide) ?_)
 refine wpAny_bind (wpAny_callSpecial?_slot (name:=Str.ofString "__getitem__") ht.typeIs PyProof.Rows.slot_tuple_getitem
  (wpAny_call_entry PyProof.Rows.slot_tuple_getitem ht.typeIs entry_tuple_getitem ?_ (args_tuple_getitem _ _)))
 show wpAny _ _ (Builtin.Tuple.tupleItemsOf (.ref t) >>= _) _ _ s
 refine wpAny_bind (tupleItemsOf_ ht ?_)
 refine wpAny_bind (wpAny_typeOf hTs ?_)
 rw[if_pos (by decide)]
 refine wpAny_bind (jG hs pl pu ?_)
 show wpAny _ _ (if (((sIx items.size 0 lo:Nat):Int) == 0&&(1:Int) == 1&&(sIx items.size items.size hi-sIx items.size 0 lo) == items.size)=true then _ else _) _ _ s
 rw[hw.1,hw.2,if_pos (by simp)]
 unfold Builtin.Tuple.tupleIsExact
 refine wpAny_bind (wpAny_bind (wpAny_typeOf ht.typeIs (wpAny_pure ?_)))
 rw[if_pos (by decide)]
 exact wpAny_bind (wpAny_rule (wpAny_pure ⟨_,rfl,wpAny_pure h⟩))
end
section
variable {X:Cx}{e:Expr}{fe:DE}{pos p2:Pos}
def DM (X:Cx):V→Option Int→Option Int→Hp→VK→Prop:=fun x lo hi H Q=>∃ P α S d,Rel X.K H P α S∧Rep X.K P α d x∧zB X P α (gSl d lo hi S) Q
theorem DR:SlR X (DM X):=by
 intro pins s σ H x v vl vu lo hi sl Q I rx hs pl pu h
 obtain⟨P,α,S,d,r,p,af⟩:=h
 cases d with
 |lst xs =>
  simp only[Rep] at p
  obtain⟨a,vs,rfl,q,t⟩:=p
  exact cM pins s σ H _ v vl vu lo hi sl Q I rx hs pl pu ⟨a,vs,rfl,(w4 r.sub q).l,fun b hb=>v6 r hb (qF.cut t lo hi) af⟩
 |loc i =>
  obtain⟨xs,hS,af⟩:=gA (X:=X) (f:=fun xs=>Res.ok (D.lst (x8 xs lo hi)) S) af
  simp only[Rep] at p
  obtain⟨a,rfl,q⟩:=p
  obtain⟨vs,z,t⟩:=r.at' i a _ q hS
  exact cM pins s σ H _ v vl vu lo hi sl Q I rx hs pl pu ⟨a,vs,rfl,SqL.of z,fun b hb=>v6 r hb (qF.cut t lo hi) af⟩
 |tup xs =>
  have p0:=p
  simp only[Rep] at p
  obtain⟨a,vs,rfl,q,t⟩:=p
  by_cases hw:sIx vs.length 0 lo=0∧sIx vs.length vs.length hi=vs.length
  ·cases rx
   obtain⟨its,rv,ht,hz⟩:=I.tuple (wB r.sub q)
   have hlen:its.toArray.size=vs.length:=by rw[List.size_toArray];exact rv.length.symm
   refine⟨"tuple",_,PyProof.Rows.slot_tuple_getitem.lookup,ht.typeIs,gO ht hs pl pu (by rw[hlen];exact hw) ⟨.ref a,H,I,rfl,xr af r ?_⟩⟩
   have e:x8 xs lo hi=xs:=by
    unfold x8
    rw[t.length,hw.1,hw.2,← t.length]
    simp
   rw[e]
   exact p0
  ·exact MK pins s σ H _ v vl vu lo hi sl Q I rx hs pl pu ⟨a,vs,rfl,wB r.sub q,hw,fun b hb=>gC r hb (qF.cut t lo hi) af⟩
 |_=>exact False.elim af
theorem WA {lo hi:Option Expr}{fl fh:DO}(he:PE X e (tD X fe))(hl:PO X lo (tDO X fl))(hu:PO X hi (tDO X fh)):PE X (.Subscript e (.Slice lo hi none p2) pos) (tD X (dSl fe fl fh)):=
 peW (Y4 DR he hl hu) fun σ H Q ⟨P,α,env,S,r,re,af⟩=>by
  refine⟨P,α,env,S,r,re,?_⟩
  have af':qI X P α ((fe env S).bind fun d S1=>(fl env S1).bind fun lo S2=>(fh env S2).bind fun hi S3=>gSl d lo hi S3) (OkV X P α Q):=af
  cases q:fe env S with
  |bad=>rw[q] at af';exact af'
  |ex c x S'=>rw[q] at af';exact af'
  |ok d S1 =>
   rw[q] at af'
   intro v H1 P1 α1 r1 e1 e2 rp
   refine⟨P1,α1,env,S1,r1,re.mono e1 e2,?_⟩
   have af2:qI X P1 α1 ((fl env S1).bind fun lo S2=>(fh env S2).bind fun hi S3=>gSl d lo hi S3) (OkV X P1 α1 Q):=zB.base e1 e2 af'
   cases q2:fl env S1 with
   |bad=>rw[q2] at af2;exact af2
   |ex c x S'=>rw[q2] at af2;exact af2
   |ok l S2 =>
    rw[q2] at af2
    intro H2 P2 α2 r2 e3 e4
    refine⟨P2,α2,env,S2,r2,(re.mono e1 e2).mono e3 e4,?_⟩
    have af3:qI X P2 α2 ((fh env S2).bind fun hi S3=>gSl d l hi S3) (OkV X P2 α2 Q):=zB.base e3 e4 af2
    cases q3:fh env S2 with
    |bad=>rw[q3] at af3;exact af3
    |ex c x S'=>rw[q3] at af3;exact af3
    |ok u S3 =>
     rw[q3] at af3
     intro H3 P3 α3 r3 e5 e6
     exact⟨P3,α3,S3,d,r3,Rep.mono (e3.trans e5) (e4.trans e6) _ _ rp,zB.base e5 e6 af3⟩
end
end _D
end
section
namespace _D
open PySem PySem.Spec PyProof.Rows _L
section
variable {prog:Program}{w:World}{A:Around}{E:Value→Shared→Prop}{s:Shared}
theorem YX {tp tq:Bool}{z I O i j a b:Addr}{k:Nat}{xs ys:Array Value}{p q:Value}{Q:Fin→Shared→Prop}(hh:A.handled=none)(D:ZA z I O i j)(Da:Off z O i j a)(Db:Off z O i j b)
  (hz:IsZip s.heap z I O .none) (hI:IsPair s.heap I (.ref i) (.ref j)) (hO:IsPair s.heap O p q) (h1:zW tp s.heap i a k) (h2:zW tq s.heap j b k) (ha:wI tp s.heap a xs) (hb:wI tq s.heap b ys) (hend:xs[k]? = none∨ys[k]? = none)
  (hE:∀ h' e,XO z O i j s.heap h'→(∃ o,h'.get? e=some o∧o.cls=.type "StopIteration")→E (.ref e) { s with heap:=h' }) : wpAny (model prog w) A (Builtin.«zip.__next__» ⟨[.ref z],[]⟩) Q E s:=by
 show wpAny _ _ (field (.ref z) 2 >>= _) _ _ _;refine wpAny_bind (wpAny_field hz rfl (x:=.bool false) rfl ?_)
 show wpAny _ _ (field (.ref z) 3 >>= _) _ _ _;refine wpAny_bind (wpAny_field hz rfl (x:=.ref I) rfl (wpAny_bind (wpAny_seqItems hI rfl ?_)))
 show wpAny _ _ (Builtin.SmallTypes.ownedTupleIsFree (.ref z) >>= _) _ _ _;refine wpAny_bind ?_
 unfold Builtin.SmallTypes.ownedTupleIsFree;refine wpAny_bind (wpAny_field hz rfl (x:=.none) rfl (wpAny_pure ?_))
 simp only[if_true];refine wpAny_bind (wpAny_rule (wpAny_bind (wpAny_field hz rfl (x:=.ref O) rfl (wpAny_bind (wpAny_setField_rec hz (by simp) fun g1 z1 s1=>?_)))))
 replace z1:IsZip g1 z I O .ellipsis:=z1
 refine wpAny_bind ?_;simp only[List.zipIdx_cons,List.zipIdx_nil,List.forIn_cons,List.forIn_nil]
 refine wpAny_bind (wpAny_bind (wpAny_onRaise ?_));show wpAny _ _ (Builtin.SmallTypes.nextOf (.ref i) >>= _) _ _ _
 have it1:zW tp g1 i a k:=h1.keep fun o e=>s1.extBut _ _ D.iz e
 have sq1:wI tp g1 a xs:=ha.keep fun o e=>s1.extBut _ _ Da.z e
 cases hx:xs[k]? with
 |none =>
  refine wpAny_bind (pB hh it1 sq1 hx fun g2 e x2 he=>?_)
  obtain⟨oe,h3,h4⟩:=he
  have z2:IsZip g2 z I O .ellipsis:=x2 _ _ D.iz.symm z1
  have ne:e≠z:=fun y=>by subst y;rw[z2] at h3;cases h3;simp at h4
  exact wpAny_setField_rec z2 (by simp) fun g3 _ s3=>hE g3 e (fun c o c1 _ c3 _ y=>s3.extBut _ _ c1 (x2 _ _ c3 (s1.extBut _ _ c1 y))) ⟨oe,s3.extBut _ _ ne h3,h4⟩
 |some x =>
  have hy:ys[k]? = none:=by
   rcases hend with y|y
   ·rw[hx] at y;cases y
   ·exact y
  refine wpAny_bind (bT it1 sq1 hx fun g2 i2 s2=>wpAny_pure ?_)
  have O2:IsPair g2 O p q:=s2.extBut _ _ D.Oi (s1.extBut _ _ D.Oz hO)
  refine wpAny_bind (wpAny_seqItems O2 rfl (wpAny_bind (wpAny_updateSeq_pair O2 fun g3 O3 s3=>wpAny_bind (wpAny_letGo (wpAny_pure ?_)))))
  refine wpAny_bind (wpAny_bind (wpAny_onRaise ?_));show wpAny _ _ (Builtin.SmallTypes.nextOf (.ref j) >>= _) _ _ _
  refine wpAny_bind (pB hh (h2.keep fun o e=>s3.extBut _ _ D.Oj.symm (s2.extBut _ _ D.ij.symm (s1.extBut _ _ D.jz e))) (hb.keep fun o e=>s3.extBut _ _ Db.O (s2.extBut _ _ Db.i (s1.extBut _ _ Db.z e))) hy fun g4 e x4 he=>?_)
  obtain⟨oe,h3,h4⟩:=he
  have z4:IsZip g4 z I O .ellipsis:=x4 _ _ D.jz.symm (s3.extBut _ _ D.Oz.symm (s2.extBut _ _ D.iz.symm z1))
  have ne:e≠z:=fun y=>by subst y;rw[z4] at h3;cases h3;simp at h4
  exact wpAny_setField_rec z4 (by simp) fun g5 _ s5=>hE g5 e (fun c o c1 c2 c3 c4 y=>s5.extBut _ _ c1 (x4 _ _ c4 (s3.extBut _ _ c2 (s2.extBut _ _ c3 (s1.extBut _ _ c1 y))))) ⟨oe,s5.extBut _ _ ne h3,h4⟩
abbrev fQ (tp:Bool)(l:Addr):Obj:={ cls:=.type (if tp then "tuple_iterator" else "list_iterator"),data:=.fields #[.ref l,.int 0 0] }
abbrev zh1 (tp:Bool)(h:Heap)(a:Addr):Heap:=h.push (fQ tp a)
abbrev zh2 (tp tq:Bool)(h:Heap)(a b:Addr):Heap:=(zh1 tp h a).push (fQ tq b)
abbrev zh3 (tp tq:Bool)(h:Heap)(a b:Addr):Heap:=(zh2 tp tq h a b).push { cls:=.type "tuple",data:=.seq #[.ref h.objs.size,.ref (zh1 tp h a).objs.size] }
abbrev zh4 (tp tq:Bool)(h:Heap)(a b:Addr):Heap:=(zh3 tp tq h a b).push { cls:=.type "tuple",data:=.seq #[.none,.none] }
abbrev zh5 (tp tq:Bool)(h:Heap)(a b:Addr):Heap:=(zh4 tp tq h a b).push { cls:=.type "zip",data:=.fields #[.none,.bool false,.bool false,.ref (zh2 tp tq h a b).objs.size,.ref (zh3 tp tq h a b).objs.size] }
set_option maxHeartbeats 4000000 in
theorem GS (tp:Bool)(a b:Addr)(xs ys:Array Value) :
  Meets (Builtin.«zip.__new__» ⟨[.type "zip",.ref a,.ref b],[]⟩) (fun _ R s=>wI tp s.heap a xs∧wI tp s.heap b ys∧R (.ok (.ret (.ref (zh4 tp tp s.heap a b).objs.size))) { s with heap:=zh5 tp tp s.heap a b }):=
 .of_wp fun prog w A R s h=>by
  obtain⟨hp,g,d,tk,os⟩:=s
  obtain⟨q1,q2,h⟩:=h
  have hsub:=sub_zip
  have e2:∀ ob:Obj,wI tp (hp.push ob) b ys:=fun ob=>q2.keep fun o e=>Heap.get?_push_of_some _ e
  cases tp
  ·have l1:Heap.IsList (Shared.heap ⟨hp,g,d,tk,os⟩) a xs:=q1
   have l2:Heap.IsList (Shared.heap ⟨hp.push { cls:=.type "list_iterator",data:=.fields #[.ref a,.int 0 0] },g,d,tk,os⟩) b ys:=e2 _
   wp_walk using wpAny_pyIter_list l1,wpAny_pyIter_list l2
   exact⟨_,rfl,h⟩
  ·have l1:Heap.IsTuple (Shared.heap ⟨hp,g,d,tk,os⟩) a xs:=q1
   have l2:Heap.IsTuple (Shared.heap ⟨hp.push { cls:=.type "tuple_iterator",data:=.fields #[.ref a,.int 0 0] },g,d,tk,os⟩) b ys:=e2 _
   wp_walk using wpAny_pyIter_tuple l1,wpAny_pyIter_tuple l2
   exact⟨_,rfl,h⟩
theorem fU {tp:Bool}{h:Heap}{it l:Addr}(e:h.get? it=some (fQ tp l)):zW tp h it l 0:=by
 cases tp
 ·exact⟨_,e,rfl,rfl⟩
 ·exact⟨_,e,rfl,rfl⟩
theorem XX {tp:Bool}{a b:Addr}{xs ys:Array Value}{Q:Value→Shared→Prop}(ha:wI tp s.heap a xs)(hb:wI tp s.heap b ys)
  (h:∀ h',IsZip h' (s.heap.objs.size+4) (s.heap.objs.size+2) (s.heap.objs.size+3) .none→IsPair h' (s.heap.objs.size+2) (.ref s.heap.objs.size) (.ref (s.heap.objs.size+1)) →
   IsPair h' (s.heap.objs.size+3) .none .none→zW tp h' s.heap.objs.size a 0→zW tp h' (s.heap.objs.size+1) b 0→h'.objs.size=s.heap.objs.size+5→(∀ c o,s.heap.get? c=some o→h'.get? c=some o)→Q (.ref (s.heap.objs.size+4)) { s with heap:=h' }) :
  wpAny (model prog w) A (call (.type "zip") [.ref a,.ref b]) Q E s:=by
 refine callType_new F.called_zip (by decide) (F.typeCall_zip_2 _ _) (F.newCall_zip_2 _ _) (fun obj=>F.args_object_init_3 obj _ _) F.entry_zip_new (GS tp a b xs ys) ⟨ha,hb,?_⟩
 have y1:(zh1 tp s.heap a).objs.size=s.heap.objs.size+1:=Heap.size_push ..
 have y2:(zh2 tp tp s.heap a b).objs.size=s.heap.objs.size+2:=by rw[Heap.size_push,y1]
 have y3:(zh3 tp tp s.heap a b).objs.size=s.heap.objs.size+3:=by rw[Heap.size_push,y2]
 have y4:(zh4 tp tp s.heap a b).objs.size=s.heap.objs.size+4:=by rw[Heap.size_push,y3]
 have y5:(zh5 tp tp s.heap a b).objs.size=s.heap.objs.size+5:=by rw[Heap.size_push,y4]
 have g5:(zh5 tp tp s.heap a b).get? (zh4 tp tp s.heap a b).objs.size=some _:=Heap.get?_push_size _ rfl
 have g4:(zh5 tp tp s.heap a b).get? (zh3 tp tp s.heap a b).objs.size=some _:=Heap.get?_push_of_some _ (Heap.get?_push_size _ rfl)
 have g3:(zh5 tp tp s.heap a b).get? (zh2 tp tp s.heap a b).objs.size=some _:=Heap.get?_push_of_some _ (Heap.get?_push_of_some _ (Heap.get?_push_size _ rfl))
 have g2:(zh5 tp tp s.heap a b).get? (zh1 tp s.heap a).objs.size=some (fQ tp b):=Heap.get?_push_of_some _ (Heap.get?_push_of_some _ (Heap.get?_push_of_some _ (Heap.get?_push_size _ rfl)))
 have g1:(zh5 tp tp s.heap a b).get? s.heap.objs.size=some (fQ tp a):=Heap.get?_push_of_some _ (Heap.get?_push_of_some _ (Heap.get?_push_of_some _ (Heap.get?_push_of_some _ (Heap.get?_push_size _ rfl))))
 have kp:∀ c o,s.heap.get? c=some o→(zh5 tp tp s.heap a b).get? c=some o:=fun c o e=>Heap.get?_push_of_some _ (Heap.get?_push_of_some _ (Heap.get?_push_of_some _ (Heap.get?_push_of_some _ (Heap.get?_push_of_some _ e))))
 show _∧_
 rw[y2,y3,y4] at g5
 rw[y1,y2] at g3
 rw[y3] at g4
 rw[y1] at g2
 rw[y4]
 exact⟨⟨_,g5,rfl⟩,h _ g5 g3 g4 (fU g1) (fU g2) y5 kp⟩
end
end _D
end
section
namespace _D
open PySem PySem.Spec PyProof.Rows _L
def Sq (tp:Bool)(K:PySem.W.Frag)(H:Hp)(a:Addr)(xs:List V):Prop:=if tp then SqT K H a xs else SqL K H a xs
section
variable {X:Cx}{pins:List (Addr × Obj)}{σ : _L.St}{H:Hp}{s:Shared}
theorem Sq.at {tp:Bool}{a:Addr}{xs:List V}(I:Inv X pins σ H s)(q:Sq tp X.K H a xs):∃ its,qL xs its∧wI tp s.heap a its.toArray:=by
 cases tp with
 |true =>
  obtain⟨its,rv,p,_⟩:=I.tuple q
  exact⟨its,rv,p⟩
 |false =>
  obtain⟨its,rv,p,_⟩:=I.list q
  exact⟨its,rv,p.isList⟩
theorem Sq.inj {tp:Bool}{a:Addr}{xs ys:List V}(I:Inv X pins σ H s)(q:Sq tp X.K H a xs)(q':Sq tp X.K H a ys):xs=ys:=by
 cases tp with
 |true=>exact I.tuple_inj q q'
 |false=>exact I.list_inj q q'
theorem Sq.off {tp:Bool}{a b:Addr}{xs:List V}(I:Inv X pins σ H s)(q:Sq tp X.K H a xs)(f:xV X pins H b):a≠b:=by
 have key:H a≠none∨∃ o,X.K.lookup a=some o:=by
  cases tp with
  |true =>
   rcases q with (q|⟨o,q⟩)|⟨o,_,_,q,_⟩
   ·exact .inl (by rw[q];intro z;cases z)
   ·exact .inl (by rw[q];intro z;cases z)
   ·exact .inr ⟨_,q⟩
  |false =>
   rcases q with (q|⟨o,q⟩)|⟨o,_,_,q,_⟩
   ·exact .inl (by rw[q];intro z;cases z)
   ·exact .inl (by rw[q];intro z;cases z)
   ·exact .inr ⟨_,q⟩
 rintro rfl
 rcases key with k|⟨o,k⟩
 ·exact k f.1
 ·have e:=I.mod.kin a o k
  rcases f.2.2.2.1 with z|z
  ·exact I.ok.noex a o e z
  ·exact absurd (Heap.lt_size (I.ok.bs a o e).1) (Nat.not_lt.mpr z)
theorem Inv.turnLay {fp:List Addr}{h':Heap}{T:Addr}{xs:List V}{its:List Value}(I:Inv X pins σ H s)(hf:∀ b∈fp,xV X pins H b)(k:∀ b o,b ∉ fp→s.heap.get? b=some o→h'.get? b=some o)(th:∀ b∈fp,∃ o,h'.get? b=some o)
  (hT:s.heap.objs.size≤T) (rv:qL xs its) (hx:IsTup h' T its.toArray) (hz:xs.length≤sizeLine):Inv X pins σ (upd H T (.tup xs)) { s with heap:=h' }:=by
 have hn:H T=none:=I.hok.fresh hT
 have ne:∀ b o,s.heap.get? b=some o→b≠T:=fun b o e=>Nat.ne_of_lt (Nat.lt_of_lt_of_le (Heap.lt_size e) hT)
 refine I.step (g':=s.gens) (d':=s.drawn) (t':=s.toks) (ch:=fp) (fun b hb=>⟨(hf b hb).2.2.2.1,(hf b hb).2.1,(hf b hb).2.2.2.2.1,(hf b hb).2.2.2.2.2⟩) (fun b o _ _ hc e _=>k b o hc e) (fun b o _ _ hc e _=>⟨o.slots,k b o hc e⟩)
  (fun b o _ e n=>by rw[qP (ne b o e)];exact n) (fun b o hc e=>⟨o,k b o hc e⟩) (fun b ys e=>by rw[qP (zF e hn)];exact e) (fun b o u e=>by rw[qP (zF e hn)];exact e)
  (fun b ps e=>⟨#[],by rw[qP (zF e hn),e];simp⟩) (fun m hm=>?_) (fun b u e=>?_) I.bare
 ·obtain⟨o,es,ep,ho,r⟩:=hm
  exact⟨o,es,ep,k _ o (fun z=>(hf _ z).2.1 rfl) ho,r⟩
 ·by_cases hb:b=T
  ·subst hb
   rw[zN] at e;cases e
   exact⟨hz,its,rv,hx⟩
  ·rw[qP hb] at e
   refine(I.hok b u e).stay (fun c v hc q=>k c v (fun z=>?_) q) (fun c q=>by rw[qP (zF q hn)];exact q) fun c ys q=>by rw[qP (zF q hn)];exact q
   have hcn:=(hf c z).1
   rcases hc with rfl|hc
   ·rw[hcn] at e;cases e
   ·rw[hcn] at hc;cases hc
theorem Inv.turnL {fp:List Addr}{h':Heap}(I:Inv X pins σ H s)(hf:∀ b∈fp,xV X pins H b)(k:∀ b o,b ∉ fp→s.heap.get? b=some o→h'.get? b=some o):Inv X pins σ H { s with heap:=h' }:=by
 refine I.step (g':=s.gens) (d':=s.drawn) (t':=s.toks) (ch:=fp) (fun b hb=>⟨(hf b hb).2.2.2.1,(hf b hb).2.1,(hf b hb).2.2.2.2.1,(hf b hb).2.2.2.2.2⟩) (fun b o _ _ hc e _=>k b o hc e) (fun b o _ _ hc e _=>⟨o.slots,k b o hc e⟩)
  (fun b o _ e n=>n) (fun b o hc e=>⟨o,k b o hc e⟩) (fun b ys e=>e) (fun b o u e=>e) (fun b ps e=>⟨#[],by rw[e];simp⟩) (fun m hm=>?_) (fun b u e=>?_) I.bare
 ·obtain⟨o,es,ep,ho,r⟩:=hm
  exact⟨o,es,ep,k _ o (fun z=>(hf _ z).2.1 rfl) ho,r⟩
 ·refine(I.hok b u e).stay (fun c v hc q=>k c v (fun z=>?_) q) (fun c q=>q) fun c ys q=>q
  have hcn:=(hf c z).1
  rcases hc with rfl|hc
  ·rw[hcn] at e;cases e
  ·rw[hcn] at hc;cases hc
end
def Itz (tp:Bool)(K:PySem.W.Frag)(a b:Addr):It:=
  ⟨fun i H=>∃ xs ys x y,Sq tp K H a xs∧Sq tp K H b ys∧xs[i]? = some x∧ys[i]? = some y,
   fun i H v H'=>∃ T x y,v=.ref T∧H T=none∧H'=upd H T (.tup [x,y])∧(∀ xs,Sq tp K H a xs→xs[i]? = some x)∧∀ ys,Sq tp K H b ys→ys[i]? = some y,
   fun i H=>∃ xs ys,Sq tp K H a xs∧Sq tp K H b ys∧(xs.length≤i∨ys.length≤i)⟩
def a8 (tp:Bool)(z I O i j a b:Addr)(k:Nat)(h:Heap):Prop:=∃ p q,IsZip h z I O .none∧IsPair h I (.ref i) (.ref j)∧IsPair h O p q∧zW tp h i a k∧zW tp h j b k
theorem pK {tp:Bool}{z I O i j a b:Addr}{k:Nat}{h:Heap}(st:a8 tp z I O i j a b k h):∀ c∈[z,I,O,i,j],∃ o,h.get? c=some o∧∀ v,o.data≠.cell v:=fun c hc=>by
 obtain⟨p,q,s1,s2,s3,s4,s5⟩:=st
 simp only[List.mem_cons,List.not_mem_nil,or_false] at hc
 rcases hc with rfl|rfl|rfl|rfl|rfl
 ·exact⟨_,s1,fun v y=>by cases y⟩
 ·exact⟨_,s2,fun v y=>by cases y⟩
 ·exact⟨_,s3,fun v y=>by cases y⟩
 ·exact s4.there
 ·exact s5.there
theorem VH {c z I O i j:Addr}(h:c ∉ [z,I,O,i,j]):c≠z∧c≠O∧c≠i∧c≠j:=by
 simp only[List.mem_cons,List.not_mem_nil,or_false,not_or] at h
 exact⟨h.1,h.2.2.1,h.2.2.2.1,h.2.2.2.2⟩
theorem YU {P:Program}{w:World}{K:PySem.W.Frag}{elts:List Expr}{x1:Nat}{tpos:Pos}{tp:Bool}{z I O i j a b:Addr}(D:ZA z I O i j):Turn P w K (.Tuple elts x1 tpos) (Itz tp K a b) [z,I,O,i,j] z (a8 tp z I O i j a b) where
 mem:=.head _
 obj:=fun k h st=>pK st
 keep:=fun k h h' st kp=>by
  obtain⟨p,q,s1,s2,s3,s4,s5⟩:=st
  exact⟨p,q,kp z (.head _) _ s1,kp I (.tail _ (.head _)) _ s2,kp O (.tail _ (.tail _ (.head _))) _ s3,s4.keep fun o e=>kp i (.tail _ (.tail _ (.tail _ (.head _)))) o e,s5.keep fun o e=>kp j (.tail _ (.tail _ (.tail _ (.tail _ (.head _))))) o e⟩
 item:=by
  intro X hP hw hK hc k pins s σ H E Iv hf st hg
  subst hP hw hK
  obtain⟨p,q,s1,s2,s3,s4,s5⟩:=st
  obtain⟨xs,ys,x,y,qa,qb,hx,hy⟩:=hg
  obtain⟨ia,ra,ha⟩:=qa.at Iv
  obtain⟨ib,rb,hb⟩:=qb.at Iv
  obtain⟨u,hu,ru⟩:=ra.get hx
  obtain⟨u',hu',ru'⟩:=rb.get hy
  have off:∀ {c:Addr} {zs:List V},Sq tp X.K H c zs→Off z O i j c:=fun {c zs} qc=>⟨qc.off Iv (hf z (.head _)),qc.off Iv (hf O (.tail _ (.tail _ (.head _)))),qc.off Iv (hf i (.tail _ (.tail _ (.tail _ (.head _))))),qc.off Iv (hf j (.tail _ (.tail _ (.tail _ (.tail _ (.head _))))))⟩
  have hT:s.TypeIs (.ref z) "zip":=⟨_,s1,rfl⟩
  unfold pyNext
  refine wpAny_bind (wpAny_attempt (wpAny_callSpecial?_slot (name:=Str.ofString "__next__") hT F.slot_zip_next (wpAny_call_entry F.slot_zip_next hT F.entry_zip_next
   (YW D (off qa) (off qb) s1 s2 s3 s4 s5 ha hb (by simpa using hu) (by simpa using hu') fun h' a1 a2 a3 a4 a5 a6 a7=>wpAny_pure ?_) (F.args_zip_next_1 _))))
  refine⟨_,rfl,wpAny_letOwnedTupleGo_zip (s:={ s with heap:=h' }) a1 fun h2 b1 b2=>?_⟩
  have up:∀ c o,c≠z→h'.get? c=some o→h2.get? c=some o:=fun c o n e=>(b2.2 c n).trans e
  have zl:z<s.heap.objs.size:=Heap.lt_size s1
  have T2:IsPair h2 s.heap.objs.size u u':=up _ _ (Nat.ne_of_gt zl) a5
  have st2:a8 tp z I O i j a b (k+1) h2:=⟨u,u',b1,up _ _ D.Iz (a7 I _ D.Iz D.IO D.Ii D.Ij s2),up _ _ D.Oz a2,a3.keep fun o e=>up _ o D.iz e,a4.keep fun o e=>up _ o D.jz e⟩
  refine⟨.ref s.heap.objs.size,upd H s.heap.objs.size (.tup [x,y]),?_,rfl,⟨_,x,y,rfl,Iv.hok.fresh (Nat.le_refl _),rfl,fun zs qz=>by rw[qz.inj Iv qa];exact hx,fun zs qz=>by rw[qz.inj Iv qb];exact hy⟩,st2,fun c hc=>?_⟩
  ·show _L.Inv X pins σ (upd H s.heap.objs.size (.tup [x,y])) { s with heap:=h2 }
   refine Inv.turnLay (fp:=[z,I,O,i,j]) (its:=[u,u']) Iv hf (fun c o hc e=>?_) (fun c hc=>?_) (Nat.le_refl _) (.cons ru (.cons ru' .nil)) ⟨_,T2,rfl,_,rfl⟩ (by show 2≤sizeLine;decide)
   ·have hc:=VH hc
    exact up c o hc.1 (a7 c o hc.1 hc.2.1 hc.2.2.1 hc.2.2.2 e)
   ·obtain⟨o,e,_⟩:=pK st2 c hc
    exact⟨o,e⟩
  ·have hn:=(hf c hc).1
   rw[qP ?_]
   ·exact hn
   ·rintro rfl
    obtain⟨o,e,_⟩:=pK ⟨p,q,s1,s2,s3,s4,s5⟩ _ hc
    exact absurd (Heap.lt_size e) (Nat.lt_irrefl _)
 done:=by
  intro X hP hw hK hc k pins s σ H E Iv hf st hg
  subst hP hw hK
  obtain⟨p,q,s1,s2,s3,s4,s5⟩:=st
  obtain⟨xs,ys,qa,qb,hend⟩:=hg
  obtain⟨ia,ra,ha⟩:=qa.at Iv
  obtain⟨ib,rb,hb⟩:=qb.at Iv
  have off:∀ {c:Addr} {zs:List V},Sq tp X.K H c zs→Off z O i j c:=fun {c zs} qc=>⟨qc.off Iv (hf z (.head _)),qc.off Iv (hf O (.tail _ (.tail _ (.head _)))),qc.off Iv (hf i (.tail _ (.tail _ (.tail _ (.head _))))),qc.off Iv (hf j (.tail _ (.tail _ (.tail _ (.tail _ (.head _))))))⟩
  have hT:s.TypeIs (.ref z) "zip":=⟨_,s1,rfl⟩
  have l1:=ra.length
  have l2:=rb.length
  unfold pyNext
  refine wpAny_bind (wpAny_attempt (wpAny_callSpecial?_slot (name:=Str.ofString "__next__") hT F.slot_zip_next (wpAny_call_entry F.slot_zip_next hT F.entry_zip_next
   (YX (Iv.ok.hd hc) D (off qa) (off qb) s1 s2 s3 s4 s5 ha hb ?_ fun h' e kp he=>?_) (F.args_zip_next_1 _))))
  ·rcases hend with y|y
   ·exact .inl (by simp;omega)
   ·exact .inr (by simp;omega)
  ·obtain⟨o,ho,hcl⟩:=he
   refine wpAny_bind (wpAny_isInstance (T:="StopIteration") (b:=true) ⟨o,ho,hcl⟩ isSubtype_stop (wpAny_pure ⟨rfl,Inv.turnL (fp:=[z,I,O,i,j]) Iv hf fun c o hc e=>?_⟩))
   have hc:=VH hc
   exact kp c o hc.1 hc.2.1 hc.2.2.1 hc.2.2.2 e
 self:=fun _ _ _ _ _ st h=>by
  obtain⟨p,q,s1,_⟩:=st
  exact wpAny_pyIter_zip s1 h
end _D
end
section
namespace _D
open PySem PySem.Spec PyProof.Rows _L
def yA (xs ys:List D):List D:=List.zipWith (fun x y=>D.tup [x,y]) xs ys
def iW (ds:List D):Option (List D):=match ds with
 |[.tup xs,.tup ys]=>some (yA xs ys)
 |[.lst xs,.lst ys]=>some (yA xs ys)
 |_=>none
def gW (f:DA):DI:=fun env S=>(f env S).bind fun ds S1=>v7 (iW ds) S1
theorem YV {xs ys:List D}{i:Nat}:(yA xs ys)[i]? = match xs[i]?,ys[i]? with|some x,some y=>some (D.tup [x,y])|_,_=>none:=by
 unfold yA
 rw[List.getElem?_zipWith]
 cases xs[i]? <;> cases ys[i]? <;> rfl
theorem f9 (xs ys:List D):(yA xs ys).length=min xs.length ys.length:=by simp[yA]
section
variable {K:PySem.W.Frag}
theorem Sq.mono {tp:Bool}{P P':Hp}(e:qH P P'){a:Addr}{xs:List V}(q:Sq tp K P a xs):Sq tp K P' a xs:=by
 cases tp with
 |true=>exact uG e q
 |false=>exact e.seq q
theorem JW {tp:Bool}{P:Hp}{α : List Addr}{a b:Addr}{xs ys:List D}{vs ws:List V}(qa:Sq tp K P a vs)(qb:Sq tp K P b ws)(ta:qF K P α xs vs)(tb:qF K P α ys ws):ItD K (Itz tp K a b) P α (yA xs ys) where
 go:=fun i H P1 α1 S hi r e _=>by
  rw[f9] at hi
  have h1:i<vs.length:=by rw[← ta.length];omega
  have h2:i<ws.length:=by rw[← tb.length];omega
  exact⟨vs,ws,vs[i],ws[i],qa.mono (e.trans r.sub),qb.mono (e.trans r.sub),by simp,by simp⟩
 yld:=fun i H x H' P1 α1 S hi r e e2 y=>by
  obtain⟨T,u,w,rfl,hT,rfl,hu,hw⟩:=y
  rw[f9] at hi
  have h1:i<xs.length:=by omega
  have h2:i<ys.length:=by omega
  obtain⟨v1,z1,p1⟩:=ta.get (List.getElem?_eq_getElem h1)
  obtain⟨v2,z2,p2⟩:=tb.get (List.getElem?_eq_getElem h2)
  have eu:=hu vs (qa.mono (e.trans r.sub))
  have ew:=hw ws (qb.mono (e.trans r.sub))
  rw[z1] at eu;cases eu
  rw[z2] at ew;cases ew
  obtain⟨r1,s1⟩:=r.pure (o:=.tup [u,w]) hT
  refine⟨_,.tup [xs[i],ys[i]],?_,r1,s1,?_⟩
  ·rw[YV,List.getElem?_eq_getElem h1,List.getElem?_eq_getElem h2]
  ·exact cH (.of zN) (.cons (Rep.mono (e.trans s1) e2 _ _ p1) (.cons (Rep.mono (e.trans s1) e2 _ _ p2) .nil))
 stop:=fun i H P1 α1 S hi r e _=>by
  rw[f9] at hi
  have l1:=ta.length
  have l2:=tb.length
  exact⟨vs,ws,qa.mono (e.trans r.sub),qb.mono (e.trans r.sub),by omega⟩
end
section
variable {X:Cx}{e1 e2:Expr}{elts:List Expr}{x1:Nat}{tpos:Pos}{f:DA}{p pos:Pos}
theorem XL {tp:Bool}{pins:List (Addr × Obj)}{σ : _L.St}{H P:Hp}{α : List Addr}{S:Sto}{s:Shared}{a b:Addr}{xs ys:List D}{vs ws:List V}{R:It→Hp→Prop}(I:Inv X pins σ H s)(r:Rel X.K H P α S)(qa:Sq tp X.K P a vs)(qb:Sq tp X.K P b ws)(ta:qF X.K P α xs vs)(tb:qF X.K P α ys ws)
  (q:OkI X P α R (yA xs ys) S):wpAny (model X.prog X.w) X.A (call (.type "zip") [.ref a,.ref b]) (fun v s1=>wpAny (model X.prog X.w) X.A (pyIter v) (PIE X pins σ (.Tuple elts x1 tpos) R) X.xe s1) X.xe s:=by
 obtain⟨ia,ra,ha⟩:=(qa.mono r.sub).at I
 obtain⟨ib,rb,hb⟩:=(qb.mono r.sub).at I
 refine XX ha hb fun h' z1 z2 z3 z4 z5 z6 z7=>?_
 refine wpAny_pyIter_zip (s:={ s with heap:=h' }) z1 ?_
 have D:ZA (s.heap.objs.size+4) (s.heap.objs.size+2) (s.heap.objs.size+3) s.heap.objs.size (s.heap.objs.size+1):=by constructor <;> (intro z;simp at z)
 refine⟨_,[s.heap.objs.size+4,s.heap.objs.size+2,s.heap.objs.size+3,s.heap.objs.size,s.heap.objs.size+1],_,_,H,rfl,I.kept (t':=s.toks) z7,YU (a:=a) (b:=b) D,⟨_,_,z1,z2,z3,z4,z5⟩,fun c hc=>?_,q _ _ P α r (qH.refl _) (List.prefix_refl _) (JW qa qb ta tb)⟩
 have hl:s.heap.objs.size≤c:=by
  simp only[List.mem_cons,List.not_mem_nil,or_false] at hc
  rcases hc with rfl|rfl|rfl|rfl|rfl <;> simp
 exact I.fpOk hl (I.hok.fresh hl)
inductive ZipV (ds:List D)(its:List D):Prop
 |tup (xs ys:List D) (ed:ds=[.tup xs,.tup ys]) (e:its=yA xs ys)
 |lst (xs ys:List D) (ed:ds=[.lst xs,.lst ys]) (e:its=yA xs ys)
theorem GR {ds its:List D}(h:iW ds=some its):ZipV ds its:=by
 cases ds with
 |nil=>exact nn h
 |cons a ds =>
  cases a with
  |tup xs =>
   cases ds with
   |nil=>exact nn h
   |cons b ds =>
    cases b with
    |tup ys =>
     cases ds with
     |nil=>exact .tup xs ys rfl (Option.some.inj h).symm
     |cons _ _=>exact nn h
    |_=>exact nn h
  |lst xs =>
   cases ds with
   |nil=>exact nn h
   |cons b ds =>
    cases b with
    |lst ys =>
     cases ds with
     |nil=>exact .lst xs ys rfl (Option.some.inj h).symm
     |cons _ _=>exact nn h
    |_=>exact nn h
  |_=>exact nn h
theorem B5 (hg:Gl X "zip")(hm:X.mg "zip" = none)(ha:PA X [e1,e2] (tDA X f))(hs:starEach [e1,e2] X.env=(false,eval e1 X.env)::starEach [e2] X.env:=by rfl)(hpl:(backTo pos (starEach [e2] X.env)).any (·.1)=false:=by rfl) :
  PI X (.Tuple elts x1 tpos) (.Call (.Name "zip" p) [e1,e2] [] pos) (tDI X (gW f)):=by
 intro pins s σ H R I h
 obtain⟨P,α,env,S,r,re,af⟩:=h
 refine Call_ (j9 I hg hm boot_zip (PyProof.Rows.callWith_type1 (thn (yQ ha I r re af pos) fun us s1 ⟨vs,H1,P1,α1,ds,S1,I1,rv,r1,re1,rp,e1,e2,af1⟩=>?_) hs hpl))
 obtain⟨its,hi,q⟩:=j0 af1
 cases GR hi with
 |tup xs ys ed e =>
  subst ed e
  obtain⟨v,w,u,x,rfl,rfl,p1,p2,q1,q2⟩:=mG rp rv
  simp only[Rep] at p1 p2
  obtain⟨a,va,rfl,qa,ta⟩:=p1
  obtain⟨b,vb,rfl,qb,tb⟩:=p2
  cases (show u=Value.ref a from q1)
  cases (show x=Value.ref b from q2)
  exact XL (tp:=true) I1 r1 qa qb ta tb (q.base e1 e2)
 |lst xs ys ed e =>
  subst ed e
  obtain⟨v,w,u,x,rfl,rfl,p1,p2,q1,q2⟩:=mG rp rv
  simp only[Rep] at p1 p2
  obtain⟨a,va,rfl,qa,ta⟩:=p1
  obtain⟨b,vb,rfl,qb,tb⟩:=p2
  cases (show u=Value.ref a from q1)
  cases (show x=Value.ref b from q2)
  exact XL (tp:=false) I1 r1 qa.l qb.l ta tb (q.base e1 e2)
end
end _D
end
section
namespace _D
open PySem PySem.Spec PyProof.Rows _L
def Src (K:PySem.W.Frag)(mg:Str→Option Value)(x:Str)(st:Stmt)(ps:List Str):Prop:=∃ f fd,mg x=some (.ref f)∧Fun K x x st f fd∧uH K fd ps []
def Lk (K:PySem.W.Frag)(f:Addr)(fd:FuncData):Prop:=∃ oc od osl,K.lookup f=some ⟨oc,od,.func fd,osl⟩
theorem lM {K:PySem.W.Frag}{x q:Str}{st:Stmt}{f:Addr}{fd:FuncData}(F:Fun K x q st f fd):Lk K f fd:=by
 obtain⟨oc,od,kV,doc,pm,an,cdv,ct,osl,_,lk,_⟩:=F.ex
 exact⟨oc,od,osl,lk⟩
theorem Lk.one {K:PySem.W.Frag}{f:Addr}{fd fd':FuncData}(h:Lk K f fd)(h':Lk K f fd'):fd=fd':=by
 obtain⟨oc,od,osl,e⟩:=h
 obtain⟨oc',od',osl',e'⟩:=h'
 rw[e] at e'
 cases e'
 rfl
def Def (P:Program)(w:World)(K:PySem.W.Frag)(mg:Str→Option Value)(base:Heap)(cm:Bool)(k:Nat)(x:Str)(n:Nat)(F:DF):Prop:=
 ∃ f fd ps,ps.length=n∧mg x=some (.ref f)∧PySem.W.keepIn K (.ref f)=true∧uH K fd ps [] ∧ Lk K f fd∧FnX P w K mg base cm k f fd ps (spD K n F)
def lT (P:Program)(w:World)(K:PySem.W.Frag)(mg:Str→Option Value)(base:Heap)(cm:Bool)(k:Nat)(x:Str)(ps:List Str)(F:DF):Prop:=
 ∃ f fd,mg x=some (.ref f)∧PySem.W.keepIn K (.ref f)=true∧uH K fd ps [] ∧ Lk K f fd∧FnX P w K mg base cm k f fd ps (spD K ps.length F)
section
variable {P:Program}{w:World}{K:PySem.W.Frag}{mg:Str→Option Value}{base:Heap}{cm:Bool}
theorem B1 {x:Str}{st:Stmt}{N ps:List Str}{k:Nat}{g:DS}(h:Src K mg x st ps)(S:FnScope N ps (qJ st))
  (hbody:∀ (f:Addr) (cdv:Value) (A:Around) (outer:List Env) (s:Shared) (H:Hp) (E:XK),RoomC cm k (A.deeper (envOfC x (qJ st) s.heap.objs.size f cdv)) →
   PSs (cxC cm P w K mg base N x (qJ st) f cdv A outer s H E) (x5 st) (tDS (cxC cm P w K mg base N x (qJ st) f cdv A outer s H E) g)):Def P w K mg base cm (k+1) x ps.length (qQ N.length g):=by
 obtain⟨f,fd,hm,F,hb⟩:=h
 exact⟨f,fd,ps,rfl,hm,F.kp,hb,lM F,fnX F S fun cdv A outer s H E hr=>hbody f cdv A outer s H E hr⟩
theorem J0 {x:Str}{st:Stmt}{N ps:List Str}{k:Nat}{g:DS}(h:Src K mg x st ps)(S:FnScope N ps (qJ st))
  (hbody:∀ (f:Addr) (cdv:Value) (A:Around) (outer:List Env) (s:Shared) (H:Hp) (E:XK),RoomC cm k (A.deeper (envOfC x (qJ st) s.heap.objs.size f cdv)) →
   PSs (cxC cm P w K mg base N x (qJ st) f cdv A outer s H E) (x5 st) (tDS (cxC cm P w K mg base N x (qJ st) f cdv A outer s H E) g)):lT P w K mg base cm (k+1) x ps (qQ N.length g):=by
 obtain⟨f,fd,hm,F,hb⟩:=h
 exact⟨f,fd,hm,F.kp,hb,lM F,fnX F S fun cdv A outer s H E hr=>hbody f cdv A outer s H E hr⟩
theorem Def.mono {x:Str}{j k n:Nat}{F:DF}(h:Def P w K mg base cm j x n F)(hk:j≤k:=by decide):Def P w K mg base cm k x n F:=by
 obtain⟨f,fd,ps,hn,hm,kp,hb,hl,X⟩:=h
 exact⟨f,fd,ps,hn,hm,kp,hb,hl,X.len,fun A outer s H args us vs Q E hr=>X.run A outer s H args us vs Q E (hr.mono hk)⟩
theorem Def.any {x:Str}{k n:Nat}{F:DF}(h:Def P w K mg base false k x n F):Def P w K mg base cm k x n F:=by
 obtain⟨f,fd,ps,hn,hm,kp,hb,hl,X⟩:=h
 exact⟨f,fd,ps,hn,hm,kp,hb,hl,X.any⟩
end
section
variable {X:Cx}{cm:Bool}{k n:Nat}{F:DF}{x:Str}{p pos:Pos}{e:Expr}{es:List Expr}{fa:DA}
theorem dcN (G:Def X.prog X.w X.K X.mg X.base cm k x n F)(hr:RoomC cm k X.A)(hF:Fn1 X)(hg:Gl X x)(ha:PA X (e::es) (tDA X fa))(hdb:(x == ("__debug__" : Str))=false:=by decide)(he:starEach (e::es) X.env=(false,eval e X.env)::starEach es X.env:=by rfl)(hpl:(backTo pos (starEach es X.env)).any (·.1)=false:=by rfl) :
  PE X (.Call (.Name x p) (e::es) [] pos) (tD X (qG n F fa)):=by
 obtain⟨f,fd,ps,hn,hm,kp,hb,hl,G⟩:=G
 exact UV G hr hF hg hm kp hb ha hdb he hpl
theorem oI {C:Addr}(hg:Gl X x)(hm:X.mg x=some (.ref C))(hk:PySem.W.keepIn X.K (.ref C)=true)(hd:(x == ("__debug__" : Str))=false:=by decide):PE X (.Name x pos) (tD X (dC (.obj C))):=
 eG hg hm (v:=.ref C) rfl (fun P α => by simp only[Rep];exact⟨trivial,hk⟩) hd
end
def zT:DF:=fun ds S=>match ds with
 |[.dct0]=>.bad
 |_=>dJ ds S
theorem UM {X:Cx}:wG X (.builtin "len") zT:=PD trivial
def gU:DE:=fun _ _=>.bad
theorem PP {X:Cx}{e:Expr}:PE X e (tD X gU):=fun _ _ _ _ _ _ ⟨_,_,_,_,_,_,h⟩=>False.elim h
theorem V1:∃ C:Int→Int→Bool,C=lZ:=⟨_,rfl⟩
noncomputable def V0:Int→Int→Bool:=Classical.choose V1
theorem d0:V0=lZ:=Classical.choose_spec V1
noncomputable def w5:G2:=i2 V0 fun i j=>.int (i*j)
theorem hW {X:Cx}:OpD X (binaryOp .Mult) w5:=by
 unfold w5
 rw[d0]
 exact KC
theorem hu1 {cm:Bool}{k:Nat}{A:Around}(hr:RoomC cm k A):A.units+1<cLine:=by have:=hr.units;omega
end _D
end
section
namespace _D
open PySem PySem.Spec PyProof.Rows _L
structure QE (X:Cx)(e:Expr)(f:DE):Prop where
 get:PE X e (tD X f)
structure QT (X:Cx)(e:Expr)(t:DT):Prop where
 get:PT X e (tDT X t)
structure QW (X:Cx)(e:Expr)(t:DT):Prop where
 get:PWD X e t
structure QA (X:Cx)(es:List Expr)(f:DA):Prop where
 get:PA X es (tDA X f)
structure QO (X:Cx)(e:Option Expr)(f:DO):Prop where
 get:PO X e (tDO X f)
structure QG (X:Cx)(t:Expr)(g:DG):Prop where
 get:PG X t (tDG X g)
structure QGs (X:Cx)(ts:List Expr)(g:DGs):Prop where
 get:PGs X ts (rD X g)
structure QI (X:Cx)(tg it:Expr)(f:DI):Prop where
 get:PI X tg it (tDI X f)
structure QS (X:Cx)(s:Stmt)(f:DS):Prop where
 get:PS X s (tDS X f)
structure QB (X:Cx)(ss:List Stmt)(f:DS):Prop where
 get:PSs X ss (tDS X f)
structure ZOp (X:Cx)(f:Value→Value→Sem Value)(g:G2):Prop where
 get:OpD X f g
structure ZUn (X:Cx)(f:Value→Sem Value)(g:D→Sto→Res D):Prop where
 get:UnD X f g
structure ZIx (X:Cx)(g:G2):Prop where
 get:IxD X g
structure ZCall (X:Cx)(f:Value)(F:DF):Prop where
 get:wG X f F
structure ZMt (X:Cx)(id:String)(g:D→List D→Sto→Res D):Prop where
 get:MtD X id g
structure ZSet (X:Cx)(g:G3):Prop where
 get:lU X (lS X g)
structure ZPass (X:Cx):Prop where
 get:PassesOwn (model X.prog X.w) X.A X.env X.xe
section
variable {X:Cx}{a b c e e1 e2 o i:Expr}{es rest:List Expr}{fa fb fc fe fo fi:DE}{ta tb:DT}{fA:DA}{f g:DS}{st:Stmt}{sts:List Stmt}{x:Str}{p pos:Pos}{n k:Nat}{cm:Bool}{F:DF}{G2':G2}
theorem ZG {j}:QE X (.Constant .none j pos) (dC .non):=⟨PU⟩
theorem VO {v j}:QE X (.Constant (.bool v) j pos) (dC (.bl v)):=⟨TM⟩
theorem ZE {v j}:QE X (.Constant (.int v) j pos) (dC (.int v)):=⟨PR⟩
theorem ZJ {v j}:QE X (.Constant (.str v) j pos) (dC (.str v)):=⟨PY⟩
theorem MA (m:Nat)(hN:X.N[m]? = some x)(hv:Vis X.env.scope x)(hd:(x == ("__debug__" : Str))=false)(hcd:(x == ("__classdict__" : Str))=false):QE X (.Name x pos) (qB m):=⟨dv m hN hv hd hcd⟩
theorem G0 {nm:String}(hg:Gl X x)(hm:X.mg x=none)(hv:bootBuiltins x=some (.type nm))(hn:x ≠ "__name__")(hd:(x == ("__debug__" : Str))=false):QE X (.Name x pos) (dC (.ty nm)):=⟨UU hg hm hv hn hd⟩
theorem M8 {C:Addr}(hg:Gl X x)(hm:X.mg x=some (.ref C))(hk:PySem.W.keepIn X.K (.ref C)=true)(hd:(x == ("__debug__" : Str))=false):QE X (.Name x pos) (dC (.obj C)):=⟨oI hg hm hk hd⟩
theorem G4 {v:Int}(hg:Gl X x)(hm:∃ t,X.mg x=some (.int v t))(hd:(x == ("__debug__" : Str))=false):QE X (.Name x pos) (dC (.int v)):=⟨let ⟨_,h⟩:=hm;eG (v:=.int v) hg h ⟨_,rfl⟩ (fun _ _=>by simp only[Rep]) hd⟩
theorem ZB:QE X e gU:=⟨PP⟩
theorem VS {op:UnaryOp}{h:D→Sto→Res D}(ho:ZUn X (unaryOp op) h)(ha:QE X a fa):QE X (.UnaryOp op a pos) (d1 h fa):=⟨TU ho.1 ha.1⟩
theorem ZH (ha:QE X a fa):QE X (.UnaryOp .Not a pos) (aJ fa):=⟨PV ha.1⟩
theorem VR {op:Operator}(ho:ZOp X (binaryOp op) G2')(ha:QE X a fa)(hb:QE X b fb):QE X (.BinOp a op b pos) (d2 G2' fa fb):=⟨TR ho.1 ha.1 hb.1⟩
theorem ZD {op:CmpOp}(ho:ZOp X (compareOp op) G2')(ha:QE X a fa)(hb:QE X b fb)(hm:behindInMarks op b=false:=by first|exact kH _|with_unfolding_all rfl):QE X (.Compare a [op] [b] pos) (d2 G2' fa fb):=⟨PQ ho.1 ha.1 hb.1 hm⟩
theorem sQ {op op':CmpOp}{g':G2}(ho:ZOp X (compareOp op) G2')(ho':ZOp X (compareOp op') g')(ha:QE X a fa)(hb:QE X b fb)(hc:QE X c fc)(hm:lastMarks [op,op'] [b,c]=false:=by with_unfolding_all rfl):QE X (.Compare a [op,op'] [b,c] pos) (xH G2' g' fa fb fc):=⟨W8 ho.1 ho'.1 ha.1 hb.1 hc.1 hm⟩
theorem ZI {op} (h:QE X a fa):QE X (.BoolOp op [a] pos) fa:=⟨PX h.1⟩
theorem Z9 (ha:QE X a fa)(hb:QE X (.BoolOp .And (b::rest) pos) fb):QE X (.BoolOp .And (a::b::rest) pos) (yN fa fb):=⟨PN ha.1 hb.1⟩
theorem VP (hc:QT X c ta)(ha:QE X a fa)(hb:QE X b fb):QE X (.IfExp c a b pos) (dIf ta fa fb):=⟨TQ hc.1 ha.1 hb.1⟩
theorem ZK {x1} (h:QA X es fA):QE X (.Tuple es x1 pos) (qY fA):=⟨B0 h.1⟩
theorem ZF (h:QA X es fA):QE X (.List es pos) (zM fA):=⟨oJ h.1⟩
theorem c8 (h:QA X es fA):QE X (.List es pos) (aI fA):=⟨UX h.1⟩
theorem c7:QE X (.Dict [] [] pos) uU:=⟨UW⟩
theorem VQ (ho:ZIx X G2')(ha:QE X a fa)(hb:QE X b fb)(hs:uY b:=by intro _ _;rfl):QE X (.Subscript a b pos) (d2 G2' fa fb):=⟨V3 ho.1 ha.1 hb.1 hs⟩
theorem sR {lo hi:Option Expr}{fl fh:DO}{p2:Pos}(he:QE X e fe)(hl:QO X lo fl)(hu:QO X hi fh):QE X (.Subscript e (.Slice lo hi none p2) pos) (dSl fe fl fh):=⟨WA he.1 hl.1 hu.1⟩
theorem cC:QO X none zK:=⟨J8⟩
theorem cD (he:QE X e fe):QO X (some e) (z9 fe):=⟨J9 he.1⟩
theorem Z7:QA X [] qC:=⟨oG⟩
theorem c0 (ha:QE X e fa)(hr:QA X es fA)(hs:starEach (e::es) X.env=(false,eval e X.env)::starEach es X.env:=by rfl):QA X (e::es) (qA fa fA):=⟨eF ha.1 hr.1 hs⟩
theorem qcN (G:Def X.prog X.w X.K X.mg X.base cm k x n F)(hr:RoomC cm k X.A)(hF:Fn1 X)(hg:Gl X x)(ha:QA X (e::es) fA)(hdb:(x == ("__debug__" : Str))=false)(he:starEach (e::es) X.env=(false,eval e X.env)::starEach es X.env:=by rfl)(hpl:(backTo pos (starEach es X.env)).any (·.1)=false:=by rfl):QE X (.Call (.Name x p) (e::es) [] pos) (qG n F fA):=⟨dcN G hr hF hg ha.1 hdb he hpl⟩
theorem Y9 {id:String}(hc:ZCall X (.builtin id) F)(hg:Gl X x)(hm:X.mg x=none)(hv:bootBuiltins x=some (.builtin id))(ha:QA X (e::es) fA)(hn:x ≠ "__name__")(hdb:(x == ("__debug__" : Str))=false)(he:starEach (e::es) X.env=(false,eval e X.env)::starEach es X.env:=by rfl)(hpl:(backTo pos (starEach es X.env)).any (·.1)=false:=by rfl):QE X (.Call (.Name x p) (e::es) [] pos) (qD F fA):=⟨W7 hc.1 hg hm hv ha.1 hn hdb he hpl⟩
theorem ZC {T:String}(hc:ZCall X (.type T) F)(hg:Gl X x)(hm:X.mg x=none)(hv:bootBuiltins x=some (.type T))(ha:QA X (e::es) fA)(hn:x ≠ "__name__")(hdb:(x == ("__debug__" : Str))=false)(he:starEach (e::es) X.env=(false,eval e X.env)::starEach es X.env:=by rfl)(hpl:(backTo pos (starEach es X.env)).any (·.1)=false:=by rfl):QE X (.Call (.Name x p) (e::es) [] pos) (qD F fA):=⟨oH hc.1 hg hm hv ha.1 hn hdb he hpl⟩
theorem lO {T id:String}{name:Str}{apos:Pos}{h:D→List D→Sto→Res D}(pa:PlainAttrs T)(slot:Slot T name id)(hty:typeOf (.builtin id)=pure (.type "method_descriptor"))(hT:T = "list" ∨ T = "dict" ∨ T = "int" ∨ T = "str")(hm:ZMt X id h)(ho:QE X o fo)(ha:QA X (e::es) fA)
  (hbase:attributeBase o name X.env (eval o X.env)=eval o X.env:=by rfl)
  (hfew:((backTo pos (starEach (e::es) X.env)).all (fun x=>!x.1)&&(backToKw pos (keywordEach [] X.env)).all (fun x=>x.1.isSome)&&decide ((e::es).length+([]:List Keyword).length+(if ([] : List Keyword).isEmpty then 0 else 1)<30))=true:=by rfl)
  (hline:(apos.endLine == pos.line)=true:=by rfl) (hs:starEach (e::es) X.env=(false,eval e X.env)::starEach es X.env:=by rfl) (hplain:(backTo pos (starEach es X.env)).any (·.1)=false:=by rfl):QE X (.Call (.Attribute o name apos) (e::es) [] pos) (dBm T h fo fA):=⟨TN pa slot hty hT hm.1 ho.1 ha.1 hbase hfew hline hs hplain⟩
theorem VU (h:QW X e ta):QT X e ta:=⟨PWD.pt h.1⟩
theorem mE (ha:QT X a ta):QW X (.BoolOp .Or [a] pos) ta:=⟨BI ha.1⟩
theorem lP (ha:QT X a ta)(hb:QW X (.BoolOp .Or (b::rest) pos) tb):QW X (.BoolOp .Or (a::b::rest) pos) (w8 ta tb):=⟨N2 ha.1 hb.1⟩
theorem ZV (ha:QT X a ta):QT X (.UnaryOp .Not a pos) (zQ ta):=⟨BG ha.1⟩
theorem ZU {op:CmpOp}(ho:ZOp X (compareOp op) G2')(ha:QE X a fa)(hb:QE X b fb)(hm:behindInMarks op b=false:=by first|exact kH _|with_unfolding_all rfl):QT X (.Compare a [op] [b] pos) (dTr (d2 G2' fa fb)):=⟨BF ho.1 ha.1 hb.1 hm⟩
theorem sU {op op':CmpOp}{g':G2}(ho:ZOp X (compareOp op) G2')(ho':ZOp X (compareOp op') g')(ha:QE X a fa)(hb:QE X b fb)(hc:QE X c fc)(hm:lastMarks [op,op'] [b,c]=false:=by with_unfolding_all rfl):QT X (.Compare a [op,op'] [b,c] pos) (dTr (xH G2' g' fa fb fc)):=⟨WH ho.1 ho'.1 ha.1 hb.1 hc.1 hm⟩
theorem ZW (ha:QE X a fa)(he:∀ whole,isTrue a X.env whole=(do let v ← whole;standAt a.pos;holding [v] (truthy v)):=by intro _;rfl):QT X a (dTr fa):=⟨BH ha.1 he⟩
theorem G6 {m:Nat}(hN:X.N.Nodup)(hi:X.N[m]? = some x)(hx:Loc X.env.scope x)(hf:X.fn x=true∨X.env.scope.names.lookup x=some .local):QG X (.Name x pos) (gNm m):=⟨J2 hN hi hx hf⟩
theorem cA:QGs X [] zR:=⟨J3⟩
theorem sS {h:DG}{gs:DGs}(h1:QG X e h)(h2:QGs X es gs)(hs:(assignEach (e::es) X.env).map (·.2)=assign e X.env::(assignEach es X.env).map (·.2):=by rfl):QGs X (e::es) (qM h gs):=⟨WB h1.1 h2.1 hs⟩
theorem ZM {kk:Nat}{gs:DGs}(hc:X.calm=true)(h:QGs X es gs)(hn:(assignEach es X.env).length=n:=by rfl)(hst:(assignEach es X.env).findIdx? (·.1)=none:=by rfl):QG X (.Tuple es kk pos) (gTp n gs):=⟨B3 hc h.1 hn hst⟩
theorem ZL {h:G3}(ho:QE X o fo)(hi:QE X i fi)(hs:ZSet X h)
  (ha:∀ v,assign (.Subscript o i pos) X.env v=(do
   let ov ← holding [v] (eval o X.env)
   let iv ← holding [v,ov] (eval i X.env)
   standAt pos
   holding [v,ov,iv] (setItem ov iv v)
   release [v,ov,iv] []):=by intro _;rfl):QG X (.Subscript o i pos) (gSb fo fi h):=⟨B2 ho.1 hi.1 hs.1 ha⟩
theorem ZP {tg:Expr}(ha:QE X e fa):QI X tg e (yP fa):=⟨B4 ha.1⟩
theorem sT {tg:Expr}(hg:Gl X "range")(hm:X.mg "range" = none)(ha:QA X (e::es) fA)(hs:starEach (e::es) X.env=(false,eval e X.env)::starEach es X.env:=by rfl)(hpl:(backTo pos (starEach es X.env)).any (·.1)=false:=by rfl):QI X tg (.Call (.Name "range" p) (e::es) [] pos) (vK fA):=⟨WC hg hm ha.1 hs hpl⟩
theorem ZQ {elts:List Expr}{x1:Nat}{tpos:Pos}(hg:Gl X "zip")(hm:X.mg "zip" = none)(ha:QA X [e1,e2] fA)(hs:starEach [e1,e2] X.env=(false,eval e1 X.env)::starEach [e2] X.env:=by rfl)(hpl:(backTo pos (starEach [e2] X.env)).any (·.1)=false:=by rfl):QI X (.Tuple elts x1 tpos) (.Call (.Name "zip" p) [e1,e2] [] pos) (gW fA):=⟨B5 hg hm ha.1 hs hpl⟩
theorem Z8:QB X [] zI:=⟨B9⟩
theorem mC (h:QS X st f):QB X [st] f:=⟨BA h.1⟩
theorem b5 (h1:QS X st f)(h2:QB X sts g):QB X (st::sts) (qN f g):=⟨JA h1.1 h2.1⟩
theorem cE (he:QE X e fa)(hs:swapsWith e none pos.line X.env=pure false:=by rfl):QS X (.Expr e pos) (w6 fa):=⟨JB he.1 hs⟩
theorem ZT (he:QE X e fa):QS X (.Return (some e) pos) (qW fa):=⟨BC he.1⟩
theorem VT {as bs:List Stmt}(hc:QT X c ta)(ha:QB X as f)(hb:QB X bs g):QS X (.If c as bs pos) (sIf ta f g):=⟨TZ hc.1 ha.1 hb.1⟩
theorem ZS {tg iter:Expr}{body:List Stmt}{fI:DI}{h:DG}(hp:ZPass X)(hc:X.calm=true)(hi:QI X tg iter fI)(hg:QG X tg h)(hb:QB X body f)(hs:∀ x,foldedSetIterable iter X.env x=pure x:=by intro _;rfl):QS X (.For tg iter body [] pos) (jF fI h f):=⟨B8 hp.1 hc hi.1 hg.1 hb.1 hs⟩
theorem MC {m:Nat}{pos':Pos}(hN:X.N.Nodup)(he:QE X e fa)(hi:X.N[m]? = some x)(hx:Loc X.env.scope x)(hs:swapsWith e (some (.Name x pos')) pos.line X.env=pure false)(hf:X.fn x=true∨X.env.scope.names.lookup x=some .local):QS X (.Assign [.Name x pos'] e pos) (zG fa (gNm m)):=⟨BD hN he.1 hi hx hs hf⟩
theorem ZR {tg:Expr}{h:DG}(he:QE X e fa)(hg:QG X tg h)(hs:swapsWithSole [tg] e pos.line X.env=pure false:=by rfl)(hw:swappedStores [tg] e X.env=pure none:=by rfl)(h1:(assignEach [tg] X.env).map (·.2)=[assign tg X.env]:=by rfl):QS X (.Assign [tg] e pos) (zG fa h):=⟨B7 he.1 hg.1 hs hw h1⟩
theorem MB {m l:Nat}{y:Str}{px py pt:Pos} {kt k2 pt2} (hc:X.calm=true) (hN:X.N.Nodup) (ha:QA X [a,b] fA) (hi:X.N[m]? = some x) (hj:X.N[l]? = some y) (hij:m≠l) (hx:X.env.scope.names.lookup x=some .local) (hy:X.env.scope.names.lookup y=some .local)
  (hw:swappedStores [.Tuple [.Name x px,.Name y py] kt pt] (.Tuple [a,b] k2 pt2) X.env=pure (some [x,y]):=by rfl) (hs:swapsWithSole [.Tuple [.Name x px,.Name y py] kt pt] (.Tuple [a,b] k2 pt2) pos.line X.env=pure false:=by rfl) :
  QS X (.Assign [.Tuple [.Name x px,.Name y py] kt pt] (.Tuple [a,b] k2 pt2) pos) (pI m l fA):=⟨BB hc hN ha.1 hi hj hij hx hy hw hs⟩
theorem G7 {m l q:Nat}{y z:Str}{px py pz pt:Pos} {kt k2 pt2} (hc:X.calm=true) (hN:X.N.Nodup) (ha:QA X [a,b,c] fA) (hi:X.N[m]? = some x) (hj:X.N[l]? = some y) (hk:X.N[q]? = some z) (hij:m≠l) (hik:m≠q) (hjk:l≠q) (hx:X.env.scope.names.lookup x=some .local) (hy:X.env.scope.names.lookup y=some .local) (hz:X.env.scope.names.lookup z=some .local)
  (hw:swappedStores [.Tuple [.Name x px,.Name y py,.Name z pz] kt pt] (.Tuple [a,b,c] k2 pt2) X.env=pure (some [x,y,z]):=by rfl) (hs:swapsWithSole [.Tuple [.Name x px,.Name y py,.Name z pz] kt pt] (.Tuple [a,b,c] k2 pt2) pos.line X.env=pure false:=by rfl) :
  QS X (.Assign [.Tuple [.Name x px,.Name y py,.Name z pz] kt pt] (.Tuple [a,b,c] k2 pt2) pos) (mH m l q fA):=⟨JC hc hN ha.1 hi hj hk hij hik hjk hx hy hz hw hs⟩
theorem YC {C Ae:Addr}{np cpos:Pos}(hc:X.calm=true)(hF:Fn1 X)(hg:Gl X x)(hm:X.mg x=some (.ref C))(hx:bK X.K C Ae=true)(ha:QA X (e::rest) fA)(hdb:(x == ("__debug__" : Str))=false)(he:starEach (e::rest) X.env=(false,eval e X.env)::starEach rest X.env:=by rfl)(hpl:(backTo cpos (starEach rest X.env)).any (·.1)=false:=by rfl) :
  QS X (.Raise (some (.Call (.Name x np) (e::rest) [] cpos)) none pos) (yS (.ref C) fA):=⟨WG hc hF hg hm hx ha.1 hdb he hpl⟩
theorem MD {nm:Str}{C0:Addr}{m:Nat}{body:List Stmt}{b₀:Stmt}{suite:List Stmt}{np hpos:Pos}{cs:List Value}(hF:Fn1 X)(hb:∀ E pn,ZPass (Cx.tryIn X E pn)→QB (Cx.tryIn X E pn) body f)(hs:∀ e,QB (Cx.suite X e) (b₀::suite) g)(hg:Gl X x)(hm:X.mg x=some (.ref C0))(hcs:∀ c∈cs,PySem.W.exmOne X.K c (.ref C0)=some true)(hN:X.N.Nodup)(hi:X.N[m]? = some nm)(hlo:X.env.scope.names.lookup nm=some .local)(hdb:(x == ("__debug__" : Str))=false)(hn:X.N.length=n) :
  QS X (.Try body [.ExceptHandler (some (.Name x np)) (some nm) (b₀::suite) hpos] [] [] pos) (bW n m cs f g):=⟨hn▸BE hF (fun E pn hp=>(hb E pn ⟨hp⟩).1) (fun e=>(hs e).1) hg hm hcs hN hi hlo hdb⟩
theorem U4:ZOp X (binaryOp .Add) qT:=⟨FD⟩
theorem UG:ZOp X (binaryOp .Sub) x9:=⟨FI⟩
theorem UC:ZOp X (binaryOp .Mult) w5:=⟨hW⟩
theorem U6:ZOp X (binaryOp .FloorDiv) yO:=⟨FE⟩
theorem UB:ZOp X (binaryOp .Mod) yY:=⟨FG⟩
theorem UE:ZOp X (binaryOp .Pow) gX:=⟨FH⟩
theorem TD:ZOp X (compareOp .Lt) gLt:=⟨VI⟩
theorem TC:ZOp X (compareOp .LtE) gLe:=⟨NI⟩
theorem T7:ZOp X (compareOp .GtE) gGe:=⟨NG⟩
theorem T9:ZOp X (compareOp .Is) gIs:=⟨NH⟩
theorem T6 (hr:RoomC cm k X.A):ZOp X (compareOp .Eq) gEq:=⟨NF hr.units⟩
theorem TF (hr:RoomC cm k X.A):ZOp X (compareOp .NotEq) gNe:=⟨NJ hr.units⟩
theorem UD:ZUn X (unaryOp .USub) yZ:=⟨MY⟩
theorem TB:ZIx X gIx:=⟨BR⟩
theorem U8:ZCall X (.builtin "isinstance") zD:=⟨o8⟩
theorem XE {cl:List Addr}(h:ClsK X.K cl):ZCall X (.builtin "isinstance") (zY cl):=⟨UL h⟩
theorem U9:ZCall X (.builtin "len") zT:=⟨UM⟩
theorem U5 (hc:X.calm=true):ZCall X (.builtin "all") (u8 false):=⟨P9 false hc⟩
theorem U7:ZCall X (.type "int") dI:=⟨PC⟩
theorem cS:ZCall X (.type "tuple") xX:=⟨XZ⟩
theorem XF:ZCall X (.type "list") pR:=⟨UN⟩
theorem cQ:ZMt X "list.count" fK:=⟨WW⟩
theorem cR:ZMt X "list.index" fL:=⟨WX⟩
theorem UF (hr:RoomC cm k X.A):ZSet X uJ:=⟨MJ (hu1 hr)⟩
end
section
variable {P:Program}{w:World}{K:PySem.W.Frag}{mg:Str→Option Value}{base:Heap}{cm:Bool}
theorem cT {N:List Str}{qual:Str}{scope:Scope}{f:Addr}{cd:Value}{A:Around}{outer:List Env}{s:Shared}{H:Hp}{E:XK}:ZPass (cxC cm P w K mg base N qual scope f cd A outer s H E):=⟨W5⟩
theorem LY {x:Str}{st:Stmt}{N ps:List Str}{k:Nat}{g:DS}{body:List Stmt}(h:Src K mg x st ps)(S:FnScope N ps (qJ st))(hbd:x5 st=body)
  (hbody:∀ (f:Addr) (cdv:Value) (A:Around) (outer:List Env) (s:Shared) (H:Hp) (E:XK),RoomC cm k (A.deeper (envOfC x (qJ st) s.heap.objs.size f cdv)) →
   QB (cxC cm P w K mg base N x (qJ st) f cdv A outer s H E) body g):Def P w K mg base cm (k+1) x ps.length (qQ N.length g):=
 B1 h S fun f cdv A outer s H E hr=>hbd▸(hbody f cdv A outer s H E hr).1
theorem TV {x:Str}{st:Stmt}{N ps:List Str}{k:Nat}{g:DS}{body:List Stmt}(h:Src K mg x st ps)(S:FnScope N ps (qJ st))(hbd:x5 st=body)
  (hbody:∀ (f:Addr) (cdv:Value) (A:Around) (outer:List Env) (s:Shared) (H:Hp) (E:XK),RoomC cm k (A.deeper (envOfC x (qJ st) s.heap.objs.size f cdv)) →
   QB (cxC cm P w K mg base N x (qJ st) f cdv A outer s H E) body g):lT P w K mg base cm (k+1) x ps (qQ N.length g):=
 J0 h S fun f cdv A outer s H E hr=>hbd▸(hbody f cdv A outer s H E hr).1
theorem UZ {x:Str}{st:Stmt}{ps:List Str}(h:Src K mg x st ps):Def P w K mg base cm 0 x ps.length fun _ _=>.bad:=by
 obtain⟨f,fd,hm,F,hb⟩:=h
 exact⟨f,fd,ps,rfl,hm,F.kp,hb,lM F,⟨fun vs H Q E z=>z.1,fun A outer s H args us vs Q E _ _ _ _ z=>by obtain⟨_,_,_,_,_,_,_,z⟩:=z;exact False.elim z⟩⟩
end
end _D
end
section
namespace _D
open PySem PySem.Spec PyProof.Rows _L
theorem ML {K:PySem.W.Frag}{h:Heap}{mg:Str→Option Value}(X:K.In h)(G:h.Ns mainGlobals mg){x:Str}{st:Stmt}{ps:List Str}{f:Addr}{oc:Value}{od an:Option Addr}{osl:Array (Option Value)}{kV doc pm cdv ct:Value}
  (a:PySem.W.nsIn K mainGlobals x=some (some (.ref f)))
  (l:K.lookup f=some ⟨oc,od,.func (PySem.W.fnOf x x (yH st) (x5 st) (qJ st) .none kV doc pm an cdv ct),osl⟩) (c:PySem.W.codeIn K cdv x=true) (k:PySem.W.keepIn K (.ref f)=true)
  (hb:∀ (kV doc pm:Value) (an:Option Addr) (cdv ct:Value) (us:List Value),us.length=ps.length→bindArgs (PySem.W.fnOf x x (yH st) (x5 st) (qJ st) .none kV doc pm an cdv ct) ⟨us,[]⟩=pure (ps.zip us)):Src K mg x st ps:=
 have F:=BO (st:=st) l c k
 ⟨f,_,PySem.W.mg_of X G a,F,F.binds hb⟩
def d8 (K:PySem.W.Frag)(C:Addr):Bool:=
 decide (PySem.W.findIn K (.ref C) "__getattribute__" = some (some (.builtin "BaseException.__getattribute__")))&&decide (PySem.W.findIn K (.ref C) "__getattr__" = some none)
 && decide (PySem.W.findIn K (.ref C) "__class__" = some (some (.builtin "object.__class__")))&&decide (PySem.W.mroIn K C (.type "object")=some true)&&decide (PySem.W.mroIn K C (.type "BaseException")=some true)
 && (PySem.W.clsIn K C).isSome&&decide (PySem.W.kitOne K (.ref C) (.type "ValueError")=some true)
def W2 (K:PySem.W.Frag):Bool:=
 decide (PySem.W.specialIn K (.builtin "object.__class__") "__get__" = some (some (.builtin "getset_descriptor.__get__")))&&decide (PySem.W.takesIn K (.builtin "object.__class__")=some true)
def PF (K:PySem.W.Frag)(cl:List Addr):Bool:=cl.all fun C=>cl.all fun B=>decide (PySem.W.kitOne K (.ref C) (.ref B)=some (C == B))
theorem PH {K:PySem.W.Frag}{cl:List Addr}(h1:cl.all (d8 K)=true)(h2:W2 K=true)(h3:PF K cl=true):ClsK K cl:=by
 have g:=h2
 unfold W2 at g
 simp only[Bool.and_eq_true,decide_eq_true_eq] at g
 have k1:∀ C∈cl,d8 K C=true:=List.all_eq_true.mp h1
 refine⟨fun C hC=>?_,fun C hC B hB=>?_,fun C hC=>?_⟩
 ·have e:=k1 C hC
  unfold d8 at e
  simp only[Bool.and_eq_true,decide_eq_true_eq] at e
  obtain⟨⟨⟨⟨⟨⟨e1,e2⟩,e3⟩,e4⟩,e5⟩,e6⟩,e7⟩:=e
  exact⟨e1,e2,e3,g.1,g.2,e4,e5,e6⟩
 ·have e:=List.all_eq_true.mp (List.all_eq_true.mp h3 C hC) B hB
  exact of_decide_eq_true e
 ·have e:=k1 C hC
  unfold d8 at e
  simp only[Bool.and_eq_true,decide_eq_true_eq] at e
  exact e.2
def LX (K:PySem.W.Frag)(cs:List Value)(A:Addr):Bool:=cs.all fun v=>decide (PySem.W.exmOne K v (.ref A)=some true)
def LV (K:PySem.W.Frag)(cs:List Addr)(A:Addr):Bool:=cs.all fun C=>bK K C A
def LW (K:PySem.W.Frag)(cs:List Addr):Bool:=cs.all fun C=>PySem.W.keepIn K (.ref C)
def lR (K:PySem.W.Frag):Sp:=fun vs H Q E=>∃ a ns,vs=[.ref a]∧SqX K H a (List.map V.int ns)∧ns.length≤63∧∀ H',Q (.bl true) H'
theorem sZ {K:PySem.W.Frag}{P:Hp}{α : List Addr}:∀ ns:List Int,qF K P α (ns.map D.int) (ns.map V.int)
 |[]=>.nil
 |n::ns=>.cons (by simp only[Rep]) (sZ ns)
theorem K5 {P:Program}{w:World}{K:PySem.W.Frag}{mg:Str→Option Value}{fa:Addr}{st:Stmt}{k:Nat}{x:Str}(hs:Src K mg "law" st [x])(hfa:mg "law" = some (.ref fa))
  (hbd:∀ (kV doc pm:Value) (an:Option Addr) (cdv ct:Value) (s:Shared) (v:Value),BindsTo s (PySem.W.fnOf "law" "law" (yH st) (x5 st) (qJ st) .none kV doc pm an cdv ct) ⟨[v],[]⟩ [(x,v)])
  (hall:∀ base:Heap,∃ F,lT P w K mg base true k "law" [x] F∧∀ ns:List Int,ns.length≤63→∃ S,F [.lst (ns.map D.int)] [] = .ok (.bl true) S) :
  ∃ fd:FuncData,(∀ (s:Shared) (v:Value),BindsTo s fd ⟨[v],[]⟩ [(x,v)])∧∀ base:Heap,K.In base→base.Ns mainGlobals mg→FnOk P w K mg base (CXd P w) k fa fd [x] (lR K):=by
 obtain⟨f,fd,hm,F,hb⟩:=hs
 cases hfa.symm.trans hm
 refine⟨fd,?_,fun base _ _=>?_⟩
 ·obtain⟨oc,od,kV,doc,pm,an,cdv,ct,osl,rfl,_,_⟩:=F.ex
  exact hbd kV doc pm an cdv ct
 ·obtain⟨G,⟨f',fd',hm',_,hb',hl,X⟩,hG⟩:=hall base
  cases hm.symm.trans hm'
  cases hl.one (lM F)
  refine(X.imp fun vs H Q E h=>?_).ok
  obtain⟨a,ns,rfl,hS,hl,k⟩:=h
  obtain⟨S,e⟩:=hG ns hl
  refine⟨rfl,H,[],[.lst (ns.map D.int)],[],⟨qH.refl _,rfl,.nil,by simp,by simp,by simp⟩,.cons (kL hS (sZ ns)) .nil,?_⟩
  rw[e]
  intro v H' P' α' _ _ _ rv
  simp only[Rep] at rv
  subst rv
  exact k H'
theorem LD {l:PySem.W.OpenLaw}{q:Program}{loose:List Str}{XP:(Str→Option Value)→Heap→Prop}{YP:World→Heap→Prop}{d:DefRec}{K:Params→PySem.W.Frag}{k:Nat}{x:Str}(hn:l.most=some 63)(hdf:d.params.defaults=[])(hr:Room k callerA)
  (hY:∀ (w:World) (h:Heap),YP w h→(K w.params).In h)
  (F:∀ (w:World) (mg:Str→Option Value) (fa:Addr) (h:Heap),(K w.params).In h→h.Ns mainGlobals mg→mg d.name=some (.ref fa) →
   ∃ fd:FuncData,(∀ (s:Shared) (u:Value),BindsTo s fd ⟨[u],[]⟩ [(x,u)])∧∀ base:Heap,(K w.params).In base→base.Ns mainGlobals mg→FnOk l.prog w (K w.params) mg base (CXd l.prog w) k fa fd [x] (lR (K w.params))) :
  PySem.W.WalkO q loose XP YP l.row.toRowW d [] (fun f vs=>PySem.call f vs):=
 _L.GN (n:=63) (k:=k) (x:=x) (CX:=fun w=>CXd l.prog w) (sp:=fun w=>lR (K w.params)) hn (by decide) hdf hr hY F (fun _ _ a ns hl _ hS=>⟨a,ns,rfl,hS,hl,fun _=>rfl⟩) fun w H s e s' h=>by
  obtain⟨_,_,_,_,_,_,_,_,_,_,_,_,z⟩:=h
  exact z
end _D
end
section
namespace _D
open PySem
theorem us0 {us:List Value}(h:us.length=0):us=[]:=List.eq_nil_of_length_eq_zero h
theorem usS {us:List Value}{n:Nat}(h:us.length=n+1):∃ a vs,us=a::vs∧vs.length=n:=by
 cases us with
 |nil=>exact absurd h (by simp)
 |cons a vs=>exact⟨a,vs,rfl,by simpa using h⟩
theorem us1 {us:List Value}(h:us.length=1):∃ a,us=[a]:=by
 obtain⟨a,vs,rfl,h'⟩:=usS h
 exact⟨a,by rw[us0 h']⟩
theorem us2 {us:List Value}(h:us.length=2):∃ a b,us=[a,b]:=by
 obtain⟨a,vs,rfl,h'⟩:=usS h
 obtain⟨b,rfl⟩:=us1 h'
 exact⟨a,b,rfl⟩
theorem us3 {us:List Value}(h:us.length=3):∃ a b c,us=[a,b,c]:=by
 obtain⟨a,vs,rfl,h'⟩:=usS h
 obtain⟨b,c,rfl⟩:=us2 h'
 exact⟨a,b,c,rfl⟩
theorem us4 {us:List Value}(h:us.length=4):∃ a b c d,us=[a,b,c,d]:=by
 obtain⟨a,vs,rfl,h'⟩:=usS h
 obtain⟨b,c,d,rfl⟩:=us3 h'
 exact⟨a,b,c,d,rfl⟩
end _D
end
section
namespace _D
open PySem PySem.Spec PyProof.Rows _L
def okO (F:DF):DF:=fun ds S=>match F ds S with
 |.ok d S'=>.ok d S'
 |_=>.bad
theorem kI {F:DF}{ds:List D}{S S':Sto}{d:D}(h:F ds S=.ok d S'):okO F ds S=.ok d S':=by unfold okO;rw[h]
section
variable {X:Cx}{cm:Bool}{k n:Nat}{F:DF}{x:Str}{p pos:Pos}{e:Expr}{es:List Expr}{fa:DA}{f:Addr}{fd:FuncData}{ps:List Str}
theorem GB {pins:List (Addr × Obj)}{σ : _L.St}{H:Hp}{s:Shared}{Q:VK}{us:List Value}{vs:List V}{P:Hp}{α : List Addr}{ds:List D}{S:Sto}(G:FnX X.prog X.w X.K X.mg X.base cm k f fd ps (spD X.K n F))(hr:RoomC cm k X.A)(hb:uH X.K fd ps [])
  (I:Inv X pins σ H s) (r:Rel X.K H P α S) (rv:qL vs us) (rp:qF X.K P α ds vs) (hn:ds.length=n) (af:zB X P α (okO F ds S) Q):wpAny (model X.prog X.w) X.A (call (.ref f) us) (EP X pins σ Q) X.xe s:=by
 have hvn:vs.length=n:=by rw[← rp.length];exact hn
 have hsp:spD X.K n F vs H Q fun _ _ _=>False:=by
  refine⟨hvn,P,α,ds,S,r,rp,?_⟩
  unfold okO at af
  cases q:F ds S with
  |ok d S'=>rw[q] at af;exact af
  |ex c x S'=>rw[q] at af;exact False.elim af
  |bad=>rw[q] at af;exact af
 have hl:us.length=ps.length:=by rw[← rv.length];exact G.len _ _ _ _ hsp
 have hb':=hb s us I.kIn (by rw[List.append_nil];exact hl)
 rw[List.append_nil] at hb'
 refine wpAny_call (codeAny_mono (G.run X.A X.stack s H ⟨us,[]⟩ us vs Q _ hr I.env0 hb' rv hsp) fun r s' hq=>?_)
 cases r with
 |error u =>
  obtain⟨_,_,_,_,_,_,_,_,_,_,_,_,z⟩:=hq
  exact False.elim z
 |ok fl =>
  cases fl with
  |ret u=>exact I.after hq
  |next=>exact False.elim hq
  |brk=>exact False.elim hq
  |cont=>exact False.elim hq
theorem dcO (G:Def X.prog X.w X.K X.mg X.base cm k x n F)(hr:RoomC cm k X.A)(hg:Gl X x)(ha:PA X (e::es) (tDA X fa))(hdb:(x == ("__debug__" : Str))=false:=by decide)(he:starEach (e::es) X.env=(false,eval e X.env)::starEach es X.env:=by rfl)(hpl:(backTo pos (starEach es X.env)).any (·.1)=false:=by rfl) :
  PE X (.Call (.Name x p) (e::es) [] pos) (tD X (qG n (okO F) fa)):=by
 obtain⟨f,fd,ps,hn0,hm,hk,hb,hl,G⟩:=G
 intro pins s σ H Q I h
 obtain⟨P,α,env,S,r,re,af⟩:=h
 refine wpAny_Call_Name_kw (kF I hg hm ?_ hdb)
 refine PySem.W.callWith_K (h₀:=X.base) I.ok.mod.kin hk (thn (yQ ha I r re af pos) fun us s1 ⟨vs,H1,P1,α1,ds,S1,I1,rv,r1,re1,rp,e1,e2,af1⟩=>⟨I1.kIn,?_⟩) he hpl
 obtain⟨hn,af2⟩:=n9 (env:=env) (S:=S) af1
 exact GB G hr hb I1 r1 rv rp hn (zB.base e1 e2 af2)
end
end _D
end
section
namespace _D
open PySem PySem.Spec PyProof.Rows _L
structure QTs (X:Cx)(ifs:List Expr)(t:DT):Prop where
 get:PTs X ifs t
section
variable {X:Cx}{elt tg iter e:Expr}{ifs es:List Expr}{scope:Scope}{pos p:Pos}{N':List Str}{cap:List (Option Nat)}{fi:DI}{g:DG}{t u:DT}{fe:DE}{fa:DA}{x:Str}{cm:Bool}{k n:Nat}{F:DF}
theorem cF:QTs X [] zH:=⟨JD⟩
theorem qcO (G:Def X.prog X.w X.K X.mg X.base cm k x n F)(hr:RoomC cm k X.A)(hg:Gl X x)(ha:QA X (e::es) fa)(hdb:(x == ("__debug__" : Str))=false)(he:starEach (e::es) X.env=(false,eval e X.env)::starEach es X.env:=by rfl)(hpl:(backTo pos (starEach es X.env)).any (·.1)=false:=by rfl) :
  QE X (.Call (.Name x p) (e::es) [] pos) (qG n (okO F) fa):=⟨dcO G hr hg ha.1 hdb he hpl⟩
end
end _D
end
section
namespace _D
open PySem PySem.Spec PyProof.Rows _L
def stn (o:Option (Nat × MO))(S:Sto):Prop:=match o with
 |none=>True
 |some p=>S[p.1]? = some p.2
open Classical in
noncomputable def tS (o:Option (Nat × MO))(S:Sto):Bool:=decide (stn o S)
theorem wV {o:Option (Nat × MO)}{S:Sto}:tS o S=true↔stn o S:=by simp[tS]
structure ItD2 (K:PySem.W.Frag)(J:It)(P:Hp)(α : List Addr)(o:Option (Nat × MO))(ds:List D):Prop where
 go:∀ i H P1 α1 S,i<ds.length→Rel K H P1 α1 S→stn o S→qH P P1→α<+:α1→J.go i H
 yld:∀ i H x H' P1 α1 S,i<ds.length→Rel K H P1 α1 S→stn o S→qH P P1→α<+:α1→J.yld i H x H'→∃ P2 d,ds[i]? = some d∧Rel K H' P2 α1 S∧qH P1 P2∧Rep K P2 α1 d x
 stop:∀ i H P1 α1 S,ds.length≤i→Rel K H P1 α1 S→stn o S→qH P P1→α<+:α1→J.stop i H
theorem ItD.two {K:PySem.W.Frag}{J:It}{P:Hp}{α : List Addr}{ds:List D}(h:ItD K J P α ds):ItD2 K J P α none ds:=
 ⟨fun i H P1 α1 S a b _ c d=>h.go i H P1 α1 S a b c d,fun i H x H' P1 α1 S a b _ c d e=>h.yld i H x H' P1 α1 S a b c d e,fun i H P1 α1 S a b _ c d=>h.stop i H P1 α1 S a b c d⟩
abbrev DI2:=qE→Sto→Res (Option (Nat × MO) × List D)
inductive tDI2 (X:Cx)(f:DI2)(σ : _L.St)(H:Hp)(R:It→Hp→Prop):Prop
 |mk (P:Hp) (α : List Addr) (env:qE) (S:Sto) (r:Rel X.K H P α S) (re:zC X.K P α σ env) (af:qI X P α (f env S) (fun p S'=>∀ J H' P' α',Rel X.K H' P' α' S'→qH P P'→α<+:α'→ItD2 X.K J P' α' p.1 p.2→R J H')):tDI2 X f σ H R
def wJ (f:DI):DI2:=fun env S=>(f env S).bind fun ds S1=>.ok (none,ds) S1
section
variable {X:Cx}{K:PySem.W.Frag}{tg e:Expr}{fa:DE}{pos:Pos}
theorem J7 {f:DI}(h:PI X tg e (tDI X f)):PI X tg e (tDI2 X (wJ f)):=PI.weak h fun σ H R ⟨P,α,env,S,r,re,af⟩=>by
 refine⟨P,α,env,S,r,re,?_⟩
 unfold wJ at af
 cases q:f env S with
 |bad=>rw[q] at af;exact af
 |ex c x S'=>rw[q] at af;exact af
 |ok ds S1 =>
  rw[q] at af
  exact fun J H' P' α' r' e1 e2 it=>af J H' P' α' r' e1 e2 it.two
theorem JU {P:Hp}{α : List Addr}{a:Addr}{n:Nat}{ds:List D}(hα:α[n]? = some a):ItD2 K (Itl K a) P α (some (n,.lst ds)) ds where
 go:=fun i H P1 α1 S hi r st e e2=>by
  obtain⟨vs,z,t⟩:=r.at' n a _ (pY e2 hα) st
  exact⟨vs,vs[i]'(by rw[← t.length];exact hi),.of z,by simp⟩
 yld:=fun i H x H' P1 α1 S hi r st e e2 y=>by
  obtain⟨rfl,y⟩:=y
  obtain⟨vs,z,t⟩:=r.at' n a _ (pY e2 hα) st
  have hx:=y vs (.of z)
  obtain⟨v,h1,h2⟩:=t.get (List.getElem?_eq_getElem hi)
  rw[hx] at h1;cases h1
  exact⟨P1,_,List.getElem?_eq_getElem hi,r,qH.refl _,h2⟩
 stop:=fun i H P1 α1 S hi r st e e2=>by
  obtain⟨vs,z,t⟩:=r.at' n a _ (pY e2 hα) st
  exact⟨vs,.of z,by rw[← t.length];exact hi⟩
def itD (d:D)(S:Sto):Res (Option (Nat × MO) × List D):=match d with
 |.tup xs=>.ok (none,xs) S
 |.lst xs=>.ok (none,xs) S
 |.loc n=>match S[n]? with
  |some (.lst xs)=>.ok (some (n,.lst xs),xs) S
  |_=>.bad
 |_=>.bad
def dIt (f:DE):DI2:=fun env S=>(f env S).bind fun d S1=>itD d S1
theorem TW (ha:PE X e (tD X fa)):PI X tg e (tDI2 X (dIt fa)):=by
 intro pins s σ H R I h
 obtain⟨P,α,env,S,r,re,af⟩:=h
 refine thn (xA ha I r re af) fun vv s1 ⟨v,H1,P1,α1,d,S1,G1,af1⟩=>?_
 have seq:∀ ds,xB d=some ds→(∀ J H' P' α',Rel X.K H' P' α' S1→qH P P'→α<+:α'→ItD2 X.K J P' α' none ds→R J H')→wpAny (model X.prog X.w) X.A (pyIter vv) (PIE X pins σ tg R) X.xe s1:=fun ds e1 q =>
  dO G1.inv G1.rel G1.val G1.rep e1 fun J H' P' α' r' h1 h2 it=>q J H' P' α' r' (G1.same.trans h1) (G1.pre.trans h2) it.two
 cases d with
 |tup xs=>exact seq xs rfl af1
 |lst xs=>exact seq xs rfl af1
 |loc n =>
  obtain⟨xs,hS,af1⟩:=gA (X:=X) (f:=fun xs=>Res.ok (some (n,MO.lst xs),xs) S1) af1
  have rp:=G1.rep
  simp only[Rep] at rp
  obtain⟨a,rfl,ha⟩:=rp
  cases (show vv=Value.ref a from G1.val)
  obtain⟨vs,z,t⟩:=G1.rel.at' n a _ ha hS
  obtain⟨its,rv,p,hz⟩:=G1.inv.list (SqL.of z)
  refine wpAny_pyIter_list p.isList ?_
  refine⟨s1.heap.objs.size,[s1.heap.objs.size],_,_,H1,rfl,G1.inv.kept (t':=s1.toks) fun b o e=>Heap.get?_push_of_some _ e,lE a _,⟨_,Heap.get?_push_size _ rfl,rfl,rfl⟩,fun b hb=>?_,af1 _ _ P1 α1 G1.rel G1.same G1.pre (JU ha)⟩
  have e:b=s1.heap.objs.size:=by simpa using hb
  subst e
  exact G1.inv.fpOk (Nat.le_refl _) (G1.inv.hok.fresh (Nat.le_refl _))
 |_=>exact False.elim af1
end
end _D
end
section
namespace _D
open PySem PySem.Spec PyProof.Rows _L
def xU (elt:Expr)(gens:List Comprehension)(scope:Scope)(pos:Pos)(k:Nat)(acc:Value)(env:Env):Sem Unit:=
 match gens[k+1]? with
 |some g'=>do
  let x ← eval g'.iter env
  standAt g'.iter.pos
  let x ← foldedSetIterable g'.iter env x
  let it ← holding [x] (pyIter x)
  let _ ← runOwn (.compStart (.ListComp elt gens scope pos) (k+1) it acc env) env
 |none=>do let _ ← call (.builtin "list.append") [acc,← eval elt env]
theorem YT (elt target iter:Expr)(ifs:List Expr)(gens:List Comprehension)(scope:Scope)(pos:Pos)(it acc:Value)(env:Env)(k:Nat)(hg:gens[k]? = some ⟨target,iter,ifs,0⟩)(ha:∀ g',gens[k+1]? = some g'→g'.is_async=0) :
  compTurn (.ListComp elt gens scope pos) k it acc env=(do
   standAt iter.pos
   match ← pyNext it with
   |none=>pure (.done .next)
   |some v =>
    letOwnedTupleGo target it v
    assign target env v
    let mut ok:=true
    for c in ifs do
     if ok then ok ← isTrue c env (eval c env)
    if ok then xU elt gens scope pos k acc env
    again (.compLoop (.ListComp elt gens scope pos) k it acc env)):=by
 unfold compTurn xU
 simp only[hg]
 cases q:gens[k+1]? with
 |none=>rfl
 |some g' =>
  have h0:=ha g' q
  have e0:(g'.is_async != 0)=false:=by rw[h0];rfl
  simp only[e0,Bool.false_eq_true,if_false,bind_assoc,pure_bind]
  rfl
abbrev DK:=qE→Sto→List D→Res (qE × List D)
noncomputable def goL (o:Option (Nat × MO))(g:DG)(t:DT)(k:DK):List D→DK
 |[],env,S,acc=>if tS o S then .ok (env,acc) S else .bad
 |d::ds,env,S,acc=>if tS o S then (g d env S).bind fun env1 S1=>(t env1 S1).bind fun b S2 =>
   if b then (k env1 S2 acc).bind fun p S3=>goL o g t k ds p.1 S3 p.2 else goL o g t k ds env1 S2 acc
  else .bad
def qX (fe:DE):DK:=fun env S acc=>(fe env S).bind fun x S1=>if acc.length<lim then .ok (env,acc++[x]) S1 else .bad
def YY (Y:Cx)(pins:List (Addr × Obj))(P1:Hp)(α1:List Addr)(acc:Addr)(env:qE)(S:Sto)(ds:List D)(s:Shared):Prop:=
 ∃ σ H P α o,TurnSt Y pins P1 α1 [] acc env S ds s σ H P α o
def PK (Y:Cx)(step:Value→Sem Unit)(k:DK):Prop:=
 ∀ (pins:List (Addr × Obj)) (P1:Hp) (α1:List Addr) (acc:Addr) (env env':qE) (S S':Sto) (ds ds':List D) (s:Shared),(∀ H:Hp,H acc=none→xV Y pins H acc)→YY Y pins P1 α1 acc env S ds s→k env S ds=.ok (env',ds') S' →
  wpAny (model Y.prog Y.w) Y.A (step (.ref acc)) (fun _ s'=>YY Y pins P1 α1 acc env' S' ds' s') (fun _ _=>False) s
section
variable {Y:Cx}{elt tg iter:Expr}{ifs:List Expr}{gens:List Comprehension}{scope:Scope}{pos:Pos}{k:Nat}{g:DG}{t:DT}{fe:DE}{it acc:Addr}{fp:List Addr}{J:It}{tn:Nat→Heap→Prop}{items:List D}{P1:Hp}{α1:List Addr}{pins:List (Addr × Obj)}
theorem oT {X:Cx}{pins:List (Addr × Obj)}{H:Hp}{b:Addr}{fp:List Addr}{h:Heap}(f:xV X pins H b)(hn:b ∉ fp):xV X (pins++vR fp h) H b:=by
 obtain⟨f0,f1,f2,f3,f4,f5⟩:=f
 refine⟨f0,f1,f2,f3,f4,fun p hp=>?_⟩
 rcases List.mem_append.mp hp with z|z
 ·exact f5 p (List.mem_append_left _ z)
 ·rcases List.mem_append.mp z with z|z
  ·exact f5 p (List.mem_append_right _ z)
  ·rintro rfl
   exact hn (nQ z).1
theorem Res.bind_inv {β γ:Type}{r:Res β}{f:β→Sto→Res γ}{x:γ}{S:Sto}(h:r.bind f=.ok x S):∃ b S1,r=.ok b S1∧f b S1=.ok x S:=by
 cases r with
 |ok b S1=>exact⟨b,S1,rfl,h⟩
 |_=>cases h
inductive GoC (o:Option (Nat × MO))(g:DG)(t:DT)(k:DK)(d:D)(ds acc:List D)(env:qE)(S SF:Sto)(x:qE × List D):Prop
 |no (env1:qE) (S1 S2:Sto) (z:stn o S) (q1:g d env S=.ok env1 S1) (q2:t env1 S1=.ok false S2) (r:goL o g t k ds env1 S2 acc=.ok x SF):GoC o g t k d ds acc env S SF x
 |yes (env1:qE) (S1 S2:Sto) (env5:qE) (ds5:List D) (S5:Sto) (z:stn o S) (q1:g d env S=.ok env1 S1) (q2:t env1 S1=.ok true S2) (q3:k env1 S2 acc=.ok (env5,ds5) S5) (r:goL o g t k ds env5 S5 ds5=.ok x SF):GoC o g t k d ds acc env S SF x
set_option tactic.hygienic true in
theorem WM {o:Option (Nat × MO)}{g:DG}{t:DT}{k:DK}{d:D}{ds acc:List D}{env:qE}{S SF:Sto}{x:qE × List D}(h:goL o g t k (d::ds) env S acc=.ok x SF):GoC o g t k d ds acc env S SF x:=by
 simp only[goL] at h
 split at h
 ·rename_i z
  obtain⟨env1,S1,q1,h⟩:=Res.bind_inv h
  obtain⟨b,S2,q2,h⟩:=Res.bind_inv h
  cases b with
  |false=>exact .no env1 S1 S2 (wV.mp z) q1 q2 h
  |true =>
   obtain⟨⟨env5,ds5⟩,S5,q3,h⟩:=Res.bind_inv h
   exact .yes env1 S1 S2 env5 ds5 S5 (wV.mp z) q1 q2 q3 h
 ·cases h
set_option tactic.hygienic true in
theorem JM {o:Option (Nat × MO)}{g:DG}{t:DT}{k:DK}{acc dsF:List D}{env envF:qE}{S SF:Sto}(h:goL o g t k [] env S acc=.ok (envF,dsF) SF):stn o S∧env=envF∧acc=dsF∧S=SF:=by
 simp only[goL] at h
 split at h
 ·rename_i z
  cases h
  exact⟨wV.mp z,rfl,rfl,rfl⟩
 ·cases h
inductive LpI (Y:Cx)(pins:List (Addr × Obj))(P1:Hp)(α1:List Addr)(fp:List Addr)(acc:Addr)(tn:Nat→Heap→Prop)(G:List D→DK)(items:List D)(x:qE × List D)(SF:Sto)(n:Nat)(s:Shared):Prop
 |mk (i:Nat) (σ : _L.St) (H P:Hp) (α : List Addr) (o:Obj) (env:qE) (S:Sto) (ds:List D) (hn:n=items.length-i) (hi:i≤items.length) (st:TurnSt Y pins P1 α1 fp acc env S ds s σ H P α o) (st1:tn i s.heap) (run:G (items.drop i) env S ds=.ok x SF):LpI Y pins P1 α1 fp acc tn G items x SF n s
theorem GK {M:Model}{A:Around}{Q:Fin→Shared→Prop}{Qa Qd:Shared→Prop}{E:Value→Shared→Prop}{s:Shared}{it acc:Value}{en:Env}(hgk:gens[k]? = some ⟨tg,iter,ifs,0⟩)(has:∀ g',gens[k+1]? = some g'→g'.is_async=0)
  (ha:∀ s,Qa s→Q (.again (.compLoop (.ListComp elt gens scope pos) k it acc en)) s) (hd:∀ s,Qd s→Q (.done .next) s)
  (h:wpAny M A (pyNext it) (fun r s1=>(r=none→Qd s1)∧∀ v,r=some v→wpAny M A (letOwnedTupleGo tg it v) (fun _ s2=>wpAny M A (assign tg en v) (fun _ s3=>wpAny M A (kN ifs en) (fun b s4=>(b=false→Qa s4)∧(b=true→wpAny M A (xU elt gens scope pos k acc en) (fun _ s5=>Qa s5) E s4)) E s3) E s2) E s1) E s) :
  wpAny M A (compTurn (.ListComp elt gens scope pos) k it acc en) Q E s:=by
 rw[YT elt tg iter ifs gens scope pos it acc en k hgk has]
 refine wpAny_bind (wpAny_standAt (wpAny_bind (thn h fun r s1 ⟨h0,h1⟩=>?_)))
 cases r with
 |none=>exact wpAny_pure (hd _ (h0 rfl))
 |some v =>
  refine wpAny_bind (thn (h1 v rfl) fun _ s2 h2=>wpAny_bind (thn h2 fun _ s3 h3=>wpAny_bind (thn h3 fun b s4 h4=>?_)))
  cases b with
  |false=>exact wpAny_pure (ha _ (h4.1 rfl))
  |true=>exact wpAny_bind (thn (h4.2 rfl) fun _ s5 h5=>wpAny_pure (ha _ h5))
theorem JK (hfp:∀ H:Hp,(∀ b∈fp,H b=none)→∀ b∈fp,xV Y pins H b)(hne:acc ∉ fp)(o:Obj)(H':Hp)(hn:∀ b∈fp,H' b=none):∀ b∈fp,xV Y (pins++[(acc,o)]) H' b:=fun b hb=>by
 obtain⟨f0,f1,f2,f3,f4,f5⟩:=hfp H' hn b hb
 refine⟨f0,f1,f2,f3,f4,fun p hp=>?_⟩
 rcases List.mem_append.mp hp with z|z
 ·exact f5 p (List.mem_append_left _ z)
 ·rcases List.mem_append.mp z with z|z
  ·exact f5 p (List.mem_append_right _ z)
  ·rw[List.mem_singleton.mp z]
   rintro rfl
   exact hne hb
theorem jU {i:Nat}{h:Heap}(T:Turn Y.prog Y.w Y.K tg J fp it tn)(st2:tn (i+1) h)(pl:∀ b∈fp,∃ o,h.get? b=some o∧∀ v,o.data≠.cell v){s5:Shared}{σ5:_L.St}{H5:Hp}(I5:Inv Y (pins++vR fp h) σ5 H5 s5):tn (i+1) s5.heap∧(∀ b∈fp,H5 b=none):=by
 refine⟨T.keep _ _ _ st2 fun b hb o' e=>(I5.pin (b,o') (List.mem_append_right _ (List.mem_append_right _ (uV hb e)))).1,fun b hb=>?_⟩
 obtain⟨o',e,d'⟩:=pl b hb
 exact(I5.pin (b,o') (List.mem_append_right _ (List.mem_append_right _ (uV hb e)))).2.1
theorem aG {o':Option (Nat × MO)}{kk:DK}{Qa Qd:Shared→Prop}{E:Value→Shared→Prop}{s:Shared}{σ : _L.St}{H P:Hp}{α : List Addr}{env envF:qE}{S SF:Sto}{ds dsF:List D}{o:Obj}{i:Nat}(hc:Y.calm=true)(hx:Y.xe=fun _ _=>False)
  (T:Turn Y.prog Y.w Y.K tg J fp it tn) (hit:ItD2 Y.K J P1 α1 o' items) (hg:PG Y tg (tDG Y g)) (ht:PTs Y ifs t) (he:PK Y (fun acc=>xU elt gens scope pos k acc Y.env) kk) (hacc:∀ H:Hp,H acc=none→xV Y pins H acc) (hfp:∀ H:Hp,(∀ b∈fp,H b=none)→∀ b∈fp,xV Y pins H b) (hne:acc ∉ fp)
  (hi:i≤items.length) (st:TurnSt Y pins P1 α1 fp acc env S ds s σ H P α o) (st1:tn i s.heap) (run:goL o' g t kk (items.drop i) env S ds=.ok (envF,dsF) SF)
  (hA:∀ s' σ' H' P' α' o1 env1 S' ds',i<items.length→TurnSt Y pins P1 α1 fp acc env1 S' ds' s' σ' H' P' α' o1→tn (i+1) s'.heap→goL o' g t kk (items.drop (i+1)) env1 S' ds'=.ok (envF,dsF) SF→Qa s')
  (hD:∀ s' σ' H' P' α' o',TurnSt Y pins P1 α1 fp acc envF SF dsF s' σ' H' P' α' o'→Qd s') :
  wpAny (model Y.prog Y.w) Y.A (pyNext (.ref it)) (fun r s1=>(r=none→Qd s1)∧∀ v,r=some v→wpAny (model Y.prog Y.w) Y.A (letOwnedTupleGo tg (.ref it) v) (fun _ s2=>wpAny (model Y.prog Y.w) Y.A (assign tg Y.env v) (fun _ s3=>wpAny (model Y.prog Y.w) Y.A (kN ifs Y.env) (fun b s4=>(b=false→Qa s4)∧(b=true→wpAny (model Y.prog Y.w) Y.A (xU elt gens scope pos k (.ref acc) Y.env) (fun _ s5=>Qa s5) E s4)) E s3) E s2) E s1) E s:=by
 have I1:=_D.Inv.pin1 st.inv (hacc H st.acn) st.at' st.acc.cell
 have fp1:=JK hfp hne o
 by_cases hlt:i<items.length
 ·have hdr:items.drop i=items[i]::items.drop (i+1):=List.drop_eq_getElem_cons hlt
  rw[hdr] at run
  have run:=WM run
  have hst:stn o' S:=by cases run with|no _ _ _ z=>exact z|yes _ _ _ _ _ _ z=>exact z
  refine bZ (T.item Y rfl rfl rfl hc i _ s σ H (fun _ _=>False) I1 (fp1 H st.fpn) st1 (hit.go i H P α S hlt st.rel hst st.same st.pre)) fun r s1 ⟨u,hr,h1⟩=>⟨fun z=>(by rw[hr] at z;cases z),fun v hv=>?_⟩
  obtain rfl:v=u:=Option.some.inj (hv.symm.trans hr)
  refine bZ h1 fun _ s2 ⟨x,H2,I2,rx,y,st2,fr2⟩=>?_
  obtain⟨P2,d,hd,r2,e2,rp⟩:=hit.yld i H x H2 P α S hlt st.rel hst st.same st.pre y
  cases (List.getElem?_eq_getElem hlt).symm.trans hd
  have pl:=T.obj _ _ st2
  have I2':=I2.pinned (fp1 _ fr2) pl
  have two:∀ env1 S1 b S2,g items[i] env S=.ok env1 S1→t env1 S1=.ok b S2→(∀ s4 σ3 H4 P4 α4 (I4:Inv Y (pins++vR fp s2.heap) σ3 H4 s4),TurnSt Y pins P1 α1 fp acc env1 S2 ds s4 σ3 H4 P4 α4 o→tn (i+1) s4.heap→(b=false→Qa s4)∧(b=true→wpAny (model Y.prog Y.w) Y.A (xU elt gens scope pos k (.ref acc) Y.env) (fun _ s5=>Qa s5) E s4))→wpAny (model Y.prog Y.w) Y.A (assign tg Y.env v) (fun _ s3=>wpAny (model Y.prog Y.w) Y.A (kN ifs Y.env) (fun b s4=>(b=false→Qa s4)∧(b=true→wpAny (model Y.prog Y.w) Y.A (xU elt gens scope pos k (.ref acc) Y.env) (fun _ s5=>Qa s5) E s4)) E s3) E s2:=by
   intro env1 S1 b S2 q1 q2 next
   refine bZ (hx▸DD hg I2' r2 (st.env.mono e2 (List.prefix_refl _)) rx rp q1) fun _ s3 ⟨σ3,H3,P3,α3,I3,r3,re3,e3,e3'⟩=>?_
   refine bZ (hx▸NS ht I3 r3 re3 q2) fun b' s4 ⟨hb,H4,P4,α4,I4,r4,re4,e4,e4'⟩=>?_
   have I4':Inv Y (pins++vR fp s2.heap) σ3 H4 s4:=I4.pins_of fun p hp=>I4.pin p (List.mem_append_right _ ((List.mem_append.mp hp).elim (fun z=>List.mem_append_left _ (List.mem_append_left _ z)) fun z=>List.mem_append_right _ z))
   have a4:=I4.pin (acc,o) (List.mem_append_right _ (List.mem_append_left _ (List.mem_append_right _ (List.mem_singleton.mpr rfl))))
   rw[hb]
   exact next s4 σ3 H4 P4 α4 I4' ⟨I4'.unpinned,r4,re4,((st.same.trans e2).trans e3).trans e4,(st.pre.trans e3').trans e4',(jU T st2 pl I4').2,a4.2.1,a4.1,st.acc.mono ((e2.trans e3).trans e4) (e3'.trans e4')⟩ (jU T st2 pl I4').1
  cases run with
  |no env1 S1 S2 _ q1 q2 run=>exact two env1 S1 false S2 q1 q2 fun s4 σ3 H4 P4 α4 I4 st4 tn4=>⟨fun _=>hA s4 σ3 H4 P4 α4 o env1 S2 ds hlt st4 tn4 run,fun z=>(by cases z)⟩
  |yes env1 S1 S2 env5 ds5 S5 _ q1 q2 q3 run =>
   refine two env1 S1 true S2 q1 q2 fun s4 σ3 H4 P4 α4 I4 st4 tn4=>⟨fun z=>(by cases z),fun _=>?_⟩
   refine bZ (he (pins++vR fp s2.heap) P1 α1 acc env1 env5 S2 S5 ds ds5 s4 (fun H hn=>oT (hacc H hn) hne) ⟨σ3,H4,P4,α4,o,I4,st4.rel,st4.env,st4.same,st4.pre,fun b hb=>(by cases hb),st4.acn,st4.at',st4.acc⟩ q3) fun _ s5 ⟨σ5,H5,P5,α5,o5,T5⟩=>?_
   exact hA s5 σ5 H5 P5 α5 o5 env5 S5 ds5 hlt ⟨T5.inv.unpinned,T5.rel,T5.env,T5.same,T5.pre,(jU T st2 pl T5.inv).2,T5.acn,T5.at',T5.acc⟩ (jU T st2 pl T5.inv).1 run
 ·rw[List.drop_eq_nil_of_le (by omega)] at run
  obtain⟨z,rfl,rfl,rfl⟩:=JM run
  refine bZ (T.done Y rfl rfl rfl hc i _ s σ H (fun _ _=>False) I1 (fp1 H st.fpn) st1 (hit.stop i H P α _ (by omega) st.rel z st.same st.pre)) fun r s1 ⟨hr,I2⟩=>⟨fun _=>?_,fun v hv=>(by rw[hr] at hv;cases hv)⟩
  have a:=_D.Inv.pinned1 I2
  exact hD s1 σ H P α o ⟨I2.unpinned,st.rel,st.env,st.same,st.pre,st.fpn,a.2,a.1,st.acc⟩
theorem aF {o':Option (Nat × MO)}{kk:DK}{R:Result→Shared→Prop}{s:Shared}{σ : _L.St}{H P:Hp}{α : List Addr}{env envF:qE}{S SF:Sto}{ds0 dsF:List D}{o:Obj}(hc:Y.calm=true)(hx:Y.xe=fun _ _=>False)(hgk:gens[k]? = some ⟨tg,iter,ifs,0⟩)(has:∀ g',gens[k+1]? = some g'→g'.is_async=0)
  (T:Turn Y.prog Y.w Y.K tg J fp it tn) (hit:ItD2 Y.K J P1 α1 o' items) (hg:PG Y tg (tDG Y g)) (ht:PTs Y ifs t) (he:PK Y (fun acc=>xU elt gens scope pos k acc Y.env) kk) (hacc:∀ H:Hp,H acc=none→xV Y pins H acc) (hfp:∀ H:Hp,(∀ b∈fp,H b=none)→∀ b∈fp,xV Y pins H b) (hne:acc ∉ fp)
  (st:TurnSt Y pins P1 α1 fp acc env S ds0 s σ H P α o) (st0:tn 0 s.heap) (run:goL o' g t kk items env S ds0=.ok (envF,dsF) SF)
  (hR:∀ s' σ' H' P' α' o',TurnSt Y pins P1 α1 fp acc envF SF dsF s' σ' H' P' α' o'→R (.ok .next) s') :
  codeAny (model Y.prog Y.w) Y.A (.compLoop (.ListComp elt gens scope pos) k (.ref it) (.ref acc) Y.env) R s:=by
 refine codeAny_loop rfl (LpI Y pins P1 α1 fp acc tn (goL o' g t kk) items (envF,dsF) SF) (fun n s hI=>?_) items.length ⟨0,σ,H,P,α,o,env,S,ds0,rfl,Nat.zero_le _,st,st0,run⟩
 obtain⟨i,σ,H,P,α,o,env,S,ds,hn,hi,st,st1,run⟩:=hI
 subst hn
 refine wpAny_noted (GK hgk has (Qa:=fun s'=>∃ m,m<items.length-i∧LpI Y pins P1 α1 fp acc tn (goL o' g t kk) items (envF,dsF) SF m s') (Qd:=R (.ok .next)) (fun _ h=>⟨rfl,h⟩) (fun _ h=>h) ?_)
 exact aG hc hx T hit hg ht he hacc hfp hne hi st st1 run (fun s' σ' H' P' α' o1 env1 S' ds' hlt st' tn' run'=>⟨_,Nat.sub_succ_lt_self _ _ hlt,i+1,σ',H',P',α',o1,env1,S',ds',rfl,hlt,st',tn',run'⟩) hR
set_option tactic.hygienic true in
theorem KR (hx:Y.xe=fun _ _=>False)(hlast:gens[k+1]? = none)(he:PE Y elt (tD Y fe)):PK Y (fun acc=>xU elt gens scope pos k acc Y.env) (qX fe):=by
 intro pins P1 α1 acc env env' S S' ds ds' s hacc ⟨σ,H,P,α,o,st⟩ run
 show wpAny _ _ (xU elt gens scope pos k (.ref acc) Y.env) _ _ s
 unfold xU
 rw[hlast]
 dsimp only
 unfold qX at run
 cases q3:fe env S with
 |bad=>rw[q3] at run;cases run
 |ex c z S'=>rw[q3] at run;cases run
 |ok d5 S5 =>
  rw[q3,Res.bind_ok] at run
  split at run
  ·rename_i hlen
   cases run
   have fA:=hacc H st.acn
   have I1:=_D.Inv.pin1 st.inv fA st.at' st.acc.cell
   refine wpAny_bind (bZ (hx▸DC he I1 st.rel st.env q3) fun u5 s5 ⟨v5,H5,P5,α5,G5⟩=>?_)
   have J:=_D.Inv.pinned1 G5.inv
   have J1:=G5.inv.unpinned
   obtain⟨J4,J5⟩:=J
   obtain⟨its,n5,vs,ho,rvs,rps,hz⟩:=st.acc
   subst ho
   have hlen':vs.length=ds.length:=rps.length.symm
   have hl2:=rvs.length
   refine wpAny_bind (call_meets F.slot_list_append ⟨_,J4,rfl⟩ F.entry_list_append (F.args_list_append_2 _ _) (PySem.list_append acc its.toArray n5 u5 (by rw[List.size_toArray];rw[← xN];omega)) ⟨J4,?_⟩)
   have q:=PySem.IsL.update J4 (·.push u5)
   have fA5:=hacc H5 J5
   have keep:∀ b o,b≠acc→s5.heap.get? b=some o→(s5.heap.update acc (Obj.mapSeq (·.push u5))).get? b=some o:=fun b o hb e=>(Heap.get?_update_other s5.heap _ (Ne.symm hb)).trans e
   have I6:=J1.turned (t':=s5.toks) keep J5 fA5.2.1 fA5.2.2.2.1 fA5.2.2.2.2.1 fA5.2.2.2.2.2
   refine wpAny_pure ⟨σ,H5,P5,α5,_,I6,G5.rel,G5.env,st.same.trans G5.same,st.pre.trans G5.pre,fun b hb=>(by simp at hb),J5,q,?_⟩
   refine⟨its++[u5],_,vs++[v5],by simp <;> rfl,rvs.append (.cons G5.val .nil),?_,by simp;omega⟩
   exact(qF.mono G5.same G5.pre _ _ rps).append (.cons G5.rep .nil)
  ·cases run
end
end _D
end
section
namespace _D
open PySem PySem.Spec PyProof.Rows _L
def mkM (m:Bool)(r:Res (qE × List D)):Res D:=match r with
 |.ok p S2=>if m then .ok (.loc S2.length) (S2++[.lst p.2]) else .ok (.lst p.2) S2
 |_=>.bad
noncomputable def qS (m:Bool)(cap:List (Option Nat))(fi:DI2)(g:DG)(t:DT)(k:DK):DE:=fun env S=>(fi env S).bind fun p S1=>mkM m (goL p.1 g t k p.2 (xS cap env) S1 [])
section
variable {X:Cx}{elt tg iter:Expr}{ifs:List Expr}{scope:Scope}{pos:Pos}{N':List Str}{cap:List (Option Nat)}{fi:DI2}{g:DG}{t:DT}{kk:DK}{rest:List Comprehension}{mm:Bool}
theorem QF {P:Hp}{α : List Addr}{r:Res (qE × List D)}{Ok:D→Sto→Prop}(h:qI X P α (mkM mm r) Ok):∃ envF ds SF,r=.ok (envF,ds) SF∧(if mm then Ok (.loc SF.length) (SF++[.lst ds]) else Ok (.lst ds) SF):=by
 cases r with
 |ok p S =>
  obtain⟨envF,ds⟩:=p
  refine⟨envF,ds,S,rfl,?_⟩
  cases mm <;> exact h
 |ex c x S=>exact False.elim h
 |bad=>exact False.elim h
theorem WI {pins:List (Addr × Obj)}{σ : _L.St}{P1:Hp}{α1:List Addr}{ds:List D}{SF:Sto}{acc C:Addr}{s:Shared}{Q:VK}(c:pL X pins σ P1 α1 ds SF acc C s)(ok:if mm then OkV X P1 α1 Q (.loc SF.length) (SF++[.lst ds]) else OkV X P1 α1 Q (.lst ds) SF):EP X pins σ Q (.ref acc) s:=by
 cases mm with
 |false=>exact JE c ok
 |true =>
  obtain⟨H',P',α',vs,I,r,hn,e1,e2,rp,_⟩:=c
  exact⟨.ref acc,_,I,rfl,h9 r hn rp fun v H2 P2 α2 r2 q1 q2 q3=>ok v H2 P2 α2 r2 (e1.trans q1) (e2.trans q2) q3⟩
theorem bB {o':Option (Nat × MO)}{kk:DK}{pins:List (Addr × Obj)}{σ : _L.St}{H2 P1:Hp}{α1:List Addr}{s2:Shared}{S1 SF:Sto}{env envF:qE}{ds items:List D}{it:Addr}{fp:List Addr}{tn:Nat→Heap→Prop}{J:It}{E:Value→Shared→Prop}{RR:Value→Addr→Result→Shared→Prop}{rest:List Comprehension}
  (hc:X.calm=true) (S:CompSc X.env.scope X.N scope N' cap) (has:∀ g',(⟨tg,iter,ifs,0⟩::rest:List Comprehension)[0+1]? = some g'→g'.is_async=0)
  (hg:∀ cl C ex s₀ H₀,PG (zA X N' scope cl C ex s₀ H₀) tg (tDG (zA X N' scope cl C ex s₀ H₀) g))
  (ht:∀ cl C ex s₀ H₀,PTs (zA X N' scope cl C ex s₀ H₀) ifs t) (he:∀ cl C ex s₀ H₀,PK (zA X N' scope cl C ex s₀ H₀) (fun acc=>xU elt (⟨tg,iter,ifs,0⟩::rest) scope pos 0 acc (zA X N' scope cl C ex s₀ H₀).env) kk)
  (I2:Inv X pins σ H2 s2) (r:Rel X.K H2 P1 α1 S1) (re:zC X.K P1 α1 σ env) (T:Turn X.prog X.w X.K tg J fp it tn) (st0:tn 0 s2.heap) (hf:∀ b∈fp,xV X pins H2 b) (hit:ItD2 X.K J P1 α1 o' items) (run:goL o' g t kk items (xS cap env) S1 [] = .ok (envF,ds) SF)
  (hRR:∀ acc C s',s2.heap.objs.size≤acc→(∃ m,s'.heap.Ns C m)→s2.heap.objs.size≤C→acc≠C→(∀ h',Heap.SameBut C s'.heap h'→pL X pins σ P1 α1 ds SF acc C { s' with heap:=h' }) → RR (.ref acc) C (.ok .next) s') :
  wpAny (model X.prog X.w) X.A (newList []) (fun acc s₃=>wpAny (model X.prog X.w) X.A (newFunctionEnv scope X.env.globals (wQ X.env.cells scope.names []) [] X.env.qual none .none (some X.env)) (fun cenv s₄ =>
   codeAny (model X.prog X.w) X.A (.compStart (.ListComp elt (⟨tg,iter,ifs,0⟩::rest) scope pos) 0 (.ref it) acc { cenv with scope:=relabel scope X.env }) (RR acc cenv.locals) s₄) E s₃) E s2:=by
 have hlt:∀ b∈fp,b<s2.heap.objs.size:=fun b hb=>by
  obtain⟨o,e,_⟩:=T.obj 0 _ st0 b hb
  exact Heap.lt_size e
 refine wpAny_newObj_type (wpAny_newFunctionEnv S.nocell (by intro y hy;simp at hy) (fun h₁ hns₁ hsb₁=>?_) S.kind)
 dsimp only at hns₁ hsb₁ ⊢
 generalize hH2:s2.heap.push { cls:=.type "list",dict:=none,data:=.seq ([] : List Value).toArray } = Hh at hns₁ hsb₁ ⊢
 have hsz:Hh.objs.size=s2.heap.objs.size+1:=by rw[← hH2,Heap.size_push]
 have hC:s2.heap.objs.size≤Hh.objs.size:=by rw[hsz];exact Nat.le_succ _
 have hne:s2.heap.objs.size≠Hh.objs.size:=by rw[hsz];exact Nat.ne_of_lt (Nat.lt_succ_self _)
 have keep:∀ b o,s2.heap.get? b=some o→h₁.get? b=some o:=fun b o e=>by
  have hb:b≠Hh.objs.size:=by rw[hsz];exact Nat.ne_of_lt (Nat.lt_succ_of_lt (Heap.lt_size e))
  exact hsb₁.extBut b o hb (Heap.get?_push_of_some _ (hH2▸Heap.get?_push_of_some _ e))
 have hacc:h₁.get? s2.heap.objs.size=some { cls:=.type "list",data:=.seq ([] : List Value).toArray }:=hsb₁.extBut _ _ hne (Heap.get?_push_of_some _ (hH2▸Heap.get?_push_size _ rfl))
 have I4:∀ tk,Inv (zA X N' scope (wQ X.env.cells scope.names []) Hh.objs.size fp s2 H2) [] (vY cap σ) H2 { s2 with heap:=h₁,toks:=tk }:=fun tk =>
  W4 (s4:={ s2 with heap:=h₁,toks:=tk }) S I2 hf hlt hC hns₁ rfl rfl keep
 have loop:∀ tk,codeAny (model X.prog X.w) X.A (.compLoop (.ListComp elt (⟨tg,iter,ifs,0⟩::rest) scope pos) 0 (.ref it) (.ref s2.heap.objs.size) (compEnvC scope (wQ X.env.cells scope.names []) Hh.objs.size X.env)) (RR (.ref s2.heap.objs.size) Hh.objs.size) { s2 with heap:=h₁,toks:=tk }:=fun tk=>by
  refine aF (kk:=kk) (o':=o') (Y:=zA X N' scope (wQ X.env.cells scope.names []) Hh.objs.size fp s2 H2) (pins:=[]) (fp:=fp) (acc:=s2.heap.objs.size) (P1:=P1) (α1:=α1) (σ:=vY cap σ) (H:=H2) (P:=P1) (α:=α1) (o:={ cls:=.type "list",data:=.seq ([] : List Value).toArray }) hc rfl rfl has T hit
   (hg _ _ _ _ _) (ht _ _ _ _ _) (he _ _ _ _ _) (fun H hn=>?_) (fun H hn b hb=>?_) (fun hm=>Nat.lt_irrefl _ (hlt _ hm)) ⟨I4 tk,r,ZY re cap,qH.refl _,List.prefix_refl _,fun b hb=>(hf b hb).1,I2.hok.fresh (Nat.le_refl _),hacc,⟨[],0,[],rfl,.nil,.nil,Nat.zero_le _⟩⟩ (T.keep _ _ _ st0 fun b hb o e=>keep b o e) run fun s' σ' H' P' α' o' st=>?_
  ·refine⟨hn,hne,fun hm=>?_,.inr (Nat.le_refl _),fun x c h z=>?_,fun p hp=>absurd (show p∈([]:List (Addr × Obj)) from hp) (by simp)⟩
   ·obtain⟨_,o,ho,_⟩:=I2.stack.mem hm
    exact Nat.lt_irrefl _ (Heap.lt_size ho)
   ·obtain⟨v,ob,hob,_⟩:=I2.cell x c (wC S I2.ok h)
    rw[z] at hob
    exact Nat.lt_irrefl _ (Heap.lt_size hob)
  ·obtain⟨_,h1,h2,h3,h4,h5⟩:=hf b hb
   refine⟨hn b hb,Nat.ne_of_lt (Nat.lt_of_lt_of_le (hlt b hb) hC),fun hm=>?_,.inl hb,fun x c h=>h4 x c (wC S I2.ok h),fun p hp=>absurd (show p∈([]:List (Addr × Obj)) from hp) (by simp)⟩
   rcases List.mem_cons.mp (I2.stkSub b hm) with z|z
   ·exact h1 z
   ·exact h2 z
  ·obtain⟨m,hm,_⟩:=st.inv.loc
   exact hRR _ _ s' (Nat.le_refl _) ⟨m,hm⟩ hC hne fun h' sb=>W3 I2 hf rfl hC (Nat.le_refl _) hne st sb
 exact codeAny_compStart_list (loop _) (T.self X.A 0 _ _ _ (T.keep _ _ _ st0 fun b hb o e=>keep b o e) (loop _))
theorem W9 (hc:X.calm=true)(S:CompSc X.env.scope X.N scope N' cap)(hi:PI X tg iter (tDI2 X fi))
  (hg:∀ cl C ex s₀ H₀,PG (zA X N' scope cl C ex s₀ H₀) tg (tDG (zA X N' scope cl C ex s₀ H₀) g))
  (ht:∀ cl C ex s₀ H₀,PTs (zA X N' scope cl C ex s₀ H₀) ifs t) (has:∀ g',(⟨tg,iter,ifs,0⟩::rest:List Comprehension)[0+1]? = some g'→g'.is_async=0) (he:∀ cl C ex s₀ H₀,PK (zA X N' scope cl C ex s₀ H₀) (fun acc=>xU elt (⟨tg,iter,ifs,0⟩::rest) scope pos 0 acc (zA X N' scope cl C ex s₀ H₀).env) kk)
  (hs:∀ x,foldedSetIterable iter X.env x=pure x:=by intro _;rfl):PE X (.ListComp elt (⟨tg,iter,ifs,0⟩::rest) scope pos) (tD X (qS mm cap fi g t kk)):=by
 intro pins s σ H Q I h
 obtain⟨P,α,env,S0,r,re,af⟩:=h
 rw[eval_ListComp]
 have af':qI X P α ((fi env S0).bind fun p S1=>mkM mm (goL p.1 g t kk p.2 (xS cap env) S1 [])) (OkV X P α Q):=af
 refine wpAny_comprehension_free (use:=none) rfl hs (eB S I.ok) S.kind S.names ?_
 refine thn (hi pins s σ H (fun J H1=>∃ (P1:Hp) (α1:List Addr) (p:Option (Nat × MO) × List _D.D) (S1:Sto),Rel X.K H1 P1 α1 S1∧qH P P1∧α<+:α1∧ItD2 X.K J P1 α1 p.1 p.2∧qI X P α (mkM mm (goL p.1 g t kk p.2 (xS cap env) S1 [])) (OkV X P α Q)) I ⟨P,α,env,S0,r,re,?_⟩) fun xv s1 h1=>thn h1 fun itv s2 h2=>?_
 ·cases q:fi env S0 with
  |bad=>rw[q] at af';exact af'
  |ex c x S'=>rw[q] at af';exact af'
  |ok p S1=>rw[q] at af';exact fun J H1 P1 α1 r1 e1 e2 it=>⟨P1,α1,p,S1,r1,e1,e2,it,af'⟩
 obtain⟨it,fp,tn,J,H2,rfl,I2,T,st0,hf,P1,α1,p,S1,r1,e1,e2,hit,af1⟩:=h2
 obtain⟨envF,ds,SF,run,ok⟩:=QF af1
 refine bB (RR:=fun acc C=>compPost (model X.prog X.w) X.A X.xe none (EP X pins σ Q) acc C) hc S has hg ht he I2 r1 (re.mono e1 e2) T st0 hf hit run ?_
 intro acc C s' hA ⟨m,hm⟩ hC hne fin
 refine⟨m,hm,fun h' sb=>WI (mm:=mm) (fin h' sb) ?_⟩
 cases mm with
 |false=>exact fun v H3 P3 α3 r3 q1 q2 q3=>ok v H3 P3 α3 r3 (e1.trans q1) (e2.trans q2) q3
 |true=>exact fun v H3 P3 α3 r3 q1 q2 q3=>ok v H3 P3 α3 r3 (e1.trans q1) (e2.trans q2) q3
theorem WF {i:Nat}{y:Str}{py spos:Pos}(hc:X.calm=true)(hN:X.N.Nodup)(S:CompSc X.env.scope X.N scope N' cap)(hi:PI X tg iter (tDI2 X fi))
  (hg:∀ cl C ex s₀ H₀,PG (zA X N' scope cl C ex s₀ H₀) tg (tDG (zA X N' scope cl C ex s₀ H₀) g))
  (ht:∀ cl C ex s₀ H₀,PTs (zA X N' scope cl C ex s₀ H₀) ifs t) (has:∀ g',(⟨tg,iter,ifs,0⟩::rest:List Comprehension)[0+1]? = some g'→g'.is_async=0) (he:∀ cl C ex s₀ H₀,PK (zA X N' scope cl C ex s₀ H₀) (fun acc=>xU elt (⟨tg,iter,ifs,0⟩::rest) scope pos 0 acc (zA X N' scope cl C ex s₀ H₀).env) kk)
  (hy:X.N[i]? = some y:=by rfl) (hyl:Loc X.env.scope y:=by first|exact Or.inl rfl|exact Or.inr rfl) (hf:X.fn y=true∨X.env.scope.names.lookup y=some .local:=by first|exact .inl rfl|exact .inr rfl|assumption)
  (hsw:swapsWith (.ListComp elt (⟨tg,iter,ifs,0⟩::rest) scope pos) (some (.Name y py)) spos.line X.env=pure true:=by rfl)
  (hs:∀ x,foldedSetIterable iter X.env x=pure x:=by intro _;rfl):PS X (.Assign [.Name y py] (.ListComp elt (⟨tg,iter,ifs,0⟩::rest) scope pos) spos) (tDS X (zG (qS mm cap fi g t kk) (gNm i))):=by
 intro pins s σ H D I h
 obtain⟨P,α,env,S0,r,re,af⟩:=h
 have af0:=yF af
 have af':qI X P α ((fi env S0).bind fun p S1=>mkM mm (goL p.1 g t kk p.2 (xS cap env) S1 [])) (fun d S=>zJ X P α (.nx (env.set i (some d)) S) D):=af0
 rw[exec_Assign_Name_used _ _ _ _ hsw]
 refine wpAny_bind (wpAny_standAt (wpAny_bind ?_))
 show wpAny _ X.A (do let _ ← comprehension (.ListComp elt (⟨tg,iter,ifs,0⟩::rest) scope pos) scope X.env _ (newList []) false (eval iter X.env) (some (assign (.Name y py) X.env))) _ _ s
 refine wpAny_bind (wpAny_mono (wpAny_comprehension_free (use:=some (assign (.Name y py) X.env)) (Q:=fun _ s'=>SP X pins D .next s') rfl hs (eB S I.ok) S.kind S.names ?_) (fun _ s' hq=>wpAny_pure (wpAny_pure hq)) fun _ _ e=>e)
 refine thn (hi pins s σ H (fun J H1=>∃ (P1:Hp) (α1:List Addr) (p:Option (Nat × MO) × List _D.D) (S1:Sto),Rel X.K H1 P1 α1 S1∧qH P P1∧α<+:α1∧ItD2 X.K J P1 α1 p.1 p.2∧qI X P α (mkM mm (goL p.1 g t kk p.2 (xS cap env) S1 [])) (fun d S=>zJ X P α (.nx (env.set i (some d)) S) D)) I ⟨P,α,env,S0,r,re,?_⟩) fun xv s1 h1=>thn h1 fun itv s2 h2=>?_
 ·cases q:fi env S0 with
  |bad=>rw[q] at af';exact af'
  |ex c x S'=>rw[q] at af';exact af'
  |ok p S1=>rw[q] at af';exact fun J H1 P1 α1 r1 e1 e2 it=>⟨P1,α1,p,S1,r1,e1,e2,it,af'⟩
 obtain⟨it,fp,tn,J,H2,rfl,I2,T,st0,hfp,P1,α1,p,S1,r1,e1,e2,hit,af1⟩:=h2
 obtain⟨envF,ds,SF,run,ok⟩:=QF af1
 refine bB (RR:=fun acc C=>compPost (model X.prog X.w) X.A X.xe (some (assign (.Name y py) X.env)) (fun _ s'=>SP X pins D .next s') acc C) hc S has hg ht he I2 r1 (re.mono e1 e2) T st0 hfp hit run ?_
 intro acc C s' hA ⟨m,hm⟩ hC hne fin
 show wpAny _ X.A (assign (.Name y py) X.env (.ref acc)) _ _ s'
 obtain⟨H3,P3,α3,vs,I3,r3,hn3,q1,q2,rp,hCn⟩:=fin s'.heap (Heap.SameBut.refl _ _)
 obtain⟨r4,e4⟩:=r3.pure (o:=.lst vs) hn3
 have hCn':(upd H3 acc (.lst vs)) C=none:=by rw[qP (Ne.symm hne)];exact hCn
 have fC:=I2.fpOk hC hCn'
 refine wpAny_assign_Name (lB I3 hN hy hyl (show qK (V.ref acc) (Value.ref acc) from rfl) (fun s5 I5 ⟨a,sb,ha⟩=>?_) hf)
 have hCa:C≠a:=by
  rcases ha with rfl|ha
  ·exact fC.2.1
  ·exact fun z=>fC.2.2.2.2.1 _ _ ha z.symm
 refine⟨m,hm.sameBut sb hCa,fun h' sb'=>?_⟩
 have I6:Inv X pins (σ.set i (some (V.ref acc))) (upd H3 acc (.lst vs)) { s5 with heap:=h' }:=I5.turned (t':=s5.toks) (fun b o hb e=>(sb'.2 b hb).trans e) hCn' fC.2.1 fC.2.2.2.1 fC.2.2.2.2.1 fC.2.2.2.2.2
 cases mm with
 |false =>
  refine⟨_,_,I6,ok _ _ (upd P3 acc (.lst vs)) α3 r4 ?_ ((e1.trans q1).trans e4) (e2.trans q2)⟩
  exact((re.mono e1 e2).mono (q1.trans e4) q2).set i (kL (.inl (.inl zN)) (qF.mono e4 (List.prefix_refl _) _ _ rp))
 |true =>
  have hpre:α3<+:α3++[acc]:=List.prefix_append _ _
  have r5:=r3.new (o:=.lst vs) (m:=.lst ds) hn3 ⟨vs,zN,qF.mono (qH.refl _) hpre _ _ rp⟩
  refine⟨_,_,I6,ok _ _ P3 (α3++[acc]) r5 ?_ (e1.trans q1) ((e2.trans q2).trans hpre)⟩
  refine((re.mono e1 e2).mono q1 (q2.trans hpre)).set i ?_
  simp only[Rep]
  exact⟨acc,rfl,by rw[← r3.len];simp⟩
end
end _D
end
section
namespace _D
open PySem PySem.Spec PyProof.Rows _L
section
variable {X:Cx}
def S7:D→List D→Sto→Res D:=fun a ds S=>match a,ds with
 |.loc n,[i,x]=>match S[n]? with
  |some (.dct kvs)=>match bQ i with
   |some k=>match T4 kvs k with
    |some d=>.ok d S
    |none=>if kvs.length<lim then .ok x (S.set n (.dct (bV kvs k x))) else .bad
   |none=>.bad
  |_=>.bad
 |_,_=>.bad
def xF:List D→Option (List Int)
 |[]=>some []
 |.int i::r=>(xF r).map (i::·)
 |_::_=>none
theorem jO (ns:List Int):xF (ns.map D.int)=some ns:=by
 induction ns with
 |nil=>rfl
 |cons n r ih=>exact congrArg (Option.map (n::·)) ih
theorem v4:∀ {ds:List D} {ns:List Int},xF ds=some ns→ds=ns.map D.int
 |[],ns,h=>by cases h;rfl
 |d::r,ns,h=>by
  cases d with
  |int i =>
   obtain⟨m,h1,rfl⟩:=Option.map_eq_some_iff.mp (show (xF r).map (i::·)=some ns from h)
   rw[v4 h1];rfl
  |_=>exact nn h
theorem wO {K:PySem.W.Frag}{P:Hp}{α : List Addr}:∀ {ns:List Int} {vs:List V},qF K P α (ns.map D.int) vs→vs=ns.map V.int
 |[],vs,r=>by rw[r.nil_inv];rfl
 |n::ns,vs,r=>by
  obtain⟨w,ws,rfl,p,t⟩:=r.cons_inv
  simp only[Rep] at p
  rw[p,wO t];rfl
def bL:G2:=fun a b S=>match a,b with
 |.tup xs,.tup ys=>match xF xs,xF ys with
  |some ns,some ms=>.ok (.bl (_H.lexLt ns ms)) S
  |_,_=>.bad
 |_,_=>gLt a b S
end
section
variable {X:Cx}
theorem rF {pins:List (Addr × Obj)}{σ : _L.St}{H P:Hp}{α : List Addr}{S:Sto}{s:Shared}{xs:List D}{v:V}{vv:Value}{ns:List Int}(I:Inv X pins σ H s)(r:Rel X.K H P α S)(rv:qK v vv)(p:Rep X.K P α (.tup xs) v)(h:xF xs=some ns) :
  ∃ a its,vv=.ref a∧IsTup s.heap a (List.toArray its)∧IntsAre its ns:=by
 have:=v4 h
 subst this
 obtain⟨a,vs,its,rfl,q1,t1,rv1,h1,l1,_⟩:=vZ I r p
 have:=wO t1
 subst this
 exact⟨a,its,rv,h1,by simpa using vL rv1⟩
set_option tactic.hygienic true in
theorem FF (hu:X.A.units<cLine):OpD X (compareOp .Lt) bL:=by
 intro pins σ H s P α S v u vv uu a b Q I r rv ru pa pb af
 unfold bL at af
 split at af
 ·rename_i xs ys
  split at af
  ·rename_i ns ms h1 h2
   obtain⟨a,its,rfl,t1,i1⟩:=rF I r rv pa h1
   obtain⟨b,its2,rfl,t2,i2⟩:=rF I r ru pb h2
   exact _H.lt_tupInts t1 t2 (by simpa using i1) (by simpa using i2) hu ⟨.bl _,H,I,rfl,xr af r (by simp only[Rep])⟩
  ·exact False.elim af
 ·exact VI pins σ H s P α S v u vv uu a b Q I r rv ru pa pb af
end
end _D
end
section
namespace _D
open PySem PySem.Spec PyProof.Rows _L
section
variable {X:Cx}
noncomputable def kW:G2:=fun a b S=>match a,b with
 |.lst xs,.int k=>if 0≤k∧k<2 ^ 62∧xs.length*k.toNat≤lim then .ok (.lst (List.replicate k.toNat xs).flatten) S else .bad
 |_,_=>w5 a b S
theorem r0 {K:PySem.W.Frag}{P:Hp}{α : List Addr}{ds:List D}{vs:List V}(r:qF K P α ds vs):∀ k:Nat,qF K P α (List.replicate k ds).flatten (List.replicate k vs).flatten
 |0=>by simpa using qF.nil
 |k+1=>by
  rw[List.replicate_succ,List.replicate_succ,List.flatten_cons,List.flatten_cons]
  exact r.append (r0 r k)
inductive MulV (a b:D)(S:Sto):Prop
 |old (e:kW a b S=w5 a b S)
 |of (xs:List D) (k:Int) (ea:a=.lst xs) (eb:b=.int k)
theorem D8 (a b:D)(S:Sto):MulV a b S:=by
 cases a with
 |lst xs=>cases b with
  |int k=>exact .of xs k rfl rfl
  |_=>exact .old rfl
 |_=>exact .old rfl
theorem KD:OpD X (binaryOp .Mult) kW:=by
 intro pins σ H s P α S v u vv uu a b Q I r rv ru pa pb af
 cases D8 a b S with
 |old e =>
  rw[e] at af
  exact hW pins σ H s P α S v u vv uu a b Q I r rv ru pa pb af
 |of xs k ea eb =>
  subst ea eb
  obtain⟨hk,af⟩:=p9 (X:=X) af
  obtain⟨h1,h2,hz⟩:=hk
  obtain⟨l,vs,its,n,rfl,q1,t1,rv1,e,l1,_⟩:=yR I r pa
  cases (show vv=Value.ref l from rv)
  have:=wA pb
  subst this
  obtain⟨t,rfl⟩:=ru
  have hl:its.length=vs.length:=rv1.length.symm
  have hlen:its.toArray.size*k.toNat≤sizeLine:=by rw[List.size_toArray,← l1,← xN];exact hz
  have hcap:¬ its.toArray.size*k.toNat>(2 ^ 63-1)/8:=by
   have:(sizeLine:Nat)≤(2 ^ 63-1)/8:=by decide
   omega
  have hfit:¬ (!Builtin.List.listFitsIndex k)=true:=by
   rw[fitsIndex_both (by omega) (by omega)]
   exact Bool.false_ne_true
  have hlong:¬ Builtin.List.listTooLong (its.toArray.size*k.toNat)=true:=by
   rw[Y0 hlen]
   exact Bool.false_ne_true
  have hnew:List.foldl (fun x1 x2=>x1++x2) #[] (List.replicate (if its.toArray.isEmpty=true then 0 else k.toNat) its.toArray)=(List.replicate k.toNat its).flatten.toArray:=by
   have f0:∀ m:Nat,List.foldl (fun x1 x2=>x1++x2) #[] (List.replicate m its.toArray)=(List.replicate m its).flatten.toArray:=fun m=>by
    have:=nE its m []
    rw[List.nil_append] at this
    exact this
   rw[f0]
   cases its with
   |nil=>simp
   |cons a r'=>rw[if_neg (by simp)]
  refine wpAny_binaryOp_repeat_ref (T:="list") (U:="int") (by decide) ⟨_,e,rfl⟩ (fun s'=>typeIs_int s' k t) noFill_list_mul F.fills_int_mul F.slot_int_rmul repeat_list F.slot_int_index.lookup
   (call_meets F.slot_int_rmul (typeIs_int s k t) F.entry_int_rmul (F.args_int_rmul_2 _ _) (int___rmul___int_list k t l its.toArray n)
    ⟨e,rfl,⟨_,e,rfl⟩,call_meets F.slot_list_mul ⟨_,e,rfl⟩ F.entry_list_mul (F.args_list_mul_2 _ _) (AutoListH.list___mul___list_int_3 l its.toArray n k t hfit hcap hlong) ⟨e,?_⟩⟩)
  rw[hnew]
  exact dR I r (r0 t1 k.toNat) (rv1.rep k.toNat) (by rw[K6,Nat.mul_comm];exact hz) af
def YZ (X:Cx)(cm:Bool)(k:Nat)(f:Addr)(p:Nat × DF):Prop:=∃ fd ps,PySem.W.keepIn X.K (.ref f)=true∧uH X.K fd ps [] ∧ FnX X.prog X.w X.K X.mg X.base cm k f fd ps (spD X.K p.1 p.2)
inductive TabL (X:Cx)(cm:Bool)(k:Nat):List Expr→List (Nat × DF)→Prop
 |nil:TabL X cm k [] []
 |cons {x:Str} {p:Pos} {n:Nat} {F:DF} {es:List Expr} {Fs:List (Nat × DF)}:Def X.prog X.w X.K X.mg X.base cm k x n F→Gl X x→(x == ("__debug__" : Str))=false→TabL X cm k es Fs→TabL X cm k (.Name x p::es) ((n,F)::Fs)
def flA:List Addr→DA
 |[]=>qC
 |f::fs=>qA (dC (.obj f)) (flA fs)
theorem BL (fs:List Addr)(env:qE)(S:Sto):flA fs env S=.ok (fs.map D.obj) S:=by
 induction fs with
 |nil=>rfl
 |cons f fs ih=>simp[flA,qA,dC,Res.bind,ih]
theorem MP {cm:Bool}{k:Nat}{es:List Expr}{Fs:List (Nat × DF)}(h:TabL X cm k es Fs):∃ fs,PA X es (tDA X (flA fs))∧fs.length=Fs.length∧∀ (i:Nat) (p:Nat × DF),Fs[i]? = some p→∃ f,fs[i]? = some f∧YZ X cm k f p:=by
 induction h with
 |nil=>exact⟨[],oG,rfl,fun i p e=>by simp at e⟩
 |@cons x p n F es Fs G hg hd _ ih =>
  obtain⟨fs,h1,h2,h3⟩:=ih
  obtain⟨f,fd,ps,hn,hm,kp,hb,hl,G⟩:=G
  refine⟨f::fs,eF (oI hg hm kp hd) h1,by simp[h2],fun i q e=>?_⟩
  cases i with
  |zero =>
   simp at e;subst e
   exact⟨f,rfl,fd,ps,kp,hb,G⟩
  |succ i =>
   obtain⟨f',e1,e2⟩:=h3 i q (by simpa using e)
   exact⟨f',by simpa using e1,e2⟩
def mR (Fs:List (Nat × DF))(fi:DE)(fa:DA):DE:=fun env S=>(fi env S).bind fun d S1=>match d with
 |.int k=>match atI Fs k with
  |some p=>(fa env S1).bind fun ds S2=>if ds.length=p.1 then p.2 ds S2 else .bad
  |none=>.bad
 |_=>.bad
inductive TabR (X:Cx)(cm:Bool)(k:Nat)(P:Hp)(α : List Addr)(Q:VK)(fa:DA)(env:qE)(v:V)(H1:Hp):Prop
 |mk (P1:Hp) (α1:List Addr) (S1:Sto) (f:Addr) (p:Nat × DF) (r:Rel X.K H1 P1 α1 S1) (e1:qH P P1) (e2:α<+:α1) (hv:v=.ref f) (g:YZ X cm k f p) (af:qI X P α ((fa env S1).bind fun ds S2=>if ds.length=p.1 then p.2 ds S2 else .bad) (OkV X P α Q)):TabR X cm k P α Q fa env v H1
theorem PZ {cm:Bool}{k:Nat}{es:List Expr}{Fs:List (Nat × DF)}{ie e:Expr}{rest:List Expr}{lp sp pos:Pos}{fi:DE}{fa:DA}(T:TabL X cm k es Fs)(hr:RoomC cm k X.A)(hF:Fn1 X)(hl:Fs.length≤lim)(hi:PE X ie (tD X fi))(ha:PA X (e::rest) (tDA X fa))(hs:uY ie:=by intro _ _;rfl)
  (he:starEach (e::rest) X.env=(false,eval e X.env)::starEach rest X.env:=by rfl) (hpl:(backTo pos (starEach rest X.env)).any (·.1)=false:=by rfl):PE X (.Call (.Subscript (.List es lp) ie sp) (e::rest) [] pos) (tD X (mR Fs fi fa)):=by
 obtain⟨fs,hpa,hfl,hgood⟩:=MP T
 have key:PE X (.Subscript (.List es lp) ie sp) (tD X (d2 gIx (zM (flA fs)) fi)):=V3 BR (oJ hpa) hi hs
 intro pins s σ H Q I h
 obtain⟨P,α,env,S,r,re,af⟩:=h
 refine Call_ (thn (key pins s σ H (TabR X cm k P α Q fa env) I ⟨P,α,env,S,r,re,?_⟩) fun vv s1 ⟨v,H1,I1,rv,P1,α1,S1,f,p,r1,e1,e2,hv,⟨fd,ps,kp,hb,G⟩,af1⟩=>?_)
 ·have hll:(fs.map D.obj).length≤lim:=by rw[List.length_map,hfl];exact hl
  have ev:d2 gIx (zM (flA fs)) fi env S=(fi env S).bind fun y S2=>gIx (.lst (fs.map D.obj)) y S2:=by
   simp only[d2,zM,BL,Res.bind,hll,if_true]
  rw[ev]
  unfold mR at af
  cases q:fi env S with
  |bad=>rw[q] at af;exact af
  |ex c x S'=>rw[q] at af;exact af
  |ok d S1 =>
   rw[q] at af
   simp only[Res.bind] at af ⊢
   cases d with
   |int kk =>
    simp only at af
    cases hp:atI Fs kk with
    |none=>rw[hp] at af;exact False.elim af
    |some p =>
     rw[hp] at af
     unfold atI at hp
     cases hj:ixN Fs.length kk with
     |none=>rw[hj] at hp;cases hp
     |some j =>
      rw[hj] at hp
      obtain⟨f,ef,gf⟩:=hgood j p hp
      have ea:atI (fs.map D.obj) kk=some (.obj f):=by
       unfold atI
       rw[List.length_map,hfl,hj]
       simp[ef]
      simp only[gIx,ea,v7]
      intro v H' P' α' r' e1 e2 rp
      simp only[Rep] at rp
      exact⟨P',α',S1,f,p,r',e1,e2,rp.1,gf,af⟩
   |_=>exact False.elim af
 ·subst hv
  cases (show vv=Value.ref f from rv)
  refine PySem.W.callWith_K (h₀:=X.base) I.ok.mod.kin kp (thn (yQ ha I1 r1 (re.mono e1 e2) (qI.base' e1 e2 (fun d S ok v H' P' α' r' q1 q2 q3=>ok v H' P' α' r' (e1.trans q1) (e2.trans q2) q3) af1) pos) fun us s2 ⟨vs,H2,P2,α2,ds,S2,I2,rv2,r2,re2,rp,e3,e4,af2⟩=>⟨I2.kIn,?_⟩) he hpl
  have af3:qI X P1 α1 (if ds.length=p.1 then p.2 ds S2 else .bad) (OkV X P1 α1 Q):=af2
  by_cases hn:ds.length=p.1
  ·rw[if_pos hn] at af3
   exact cI G hr hb hF I2 r2 rv2 rp hn (zB.base e3 e4 af3)
  ·rw[if_neg hn] at af3;exact False.elim af3
theorem XT:bootBuiltins "set" = some (.type "set"):=by decide +kernel
variable {e:Expr}{fa:DE}{p1 p2 pos1 pos2:Pos}
end
end _D
end
section
namespace _D
open PySem PySem.Spec PyProof.Rows _L
def v9 (H:Hp):List (Addr × HO)→Hp
 |[]=>H
 |p::ps=>v9 (upd H p.1 p.2) ps
theorem b7 {b:Addr}:∀ {L:List (Addr × HO)} {H:Hp},b ∉ L.map (·.1)→v9 H L b=H b
 |[],_,_=>rfl
 |p::ps,H,h=>by
  simp only[List.map_cons,List.mem_cons,not_or] at h
  show v9 (upd H p.1 p.2) ps b=H b
  rw[b7 h.2,qP h.1]
theorem f8 {a:Addr}{o:HO}:∀ {L:List (Addr × HO)} {H:Hp},(L.map (·.1)).Nodup→(a,o)∈L→v9 H L a=some o
 |p::ps,H,nd,h=>by
  simp only[List.map_cons,List.nodup_cons] at nd
  show v9 (upd H p.1 p.2) ps a=some o
  rcases List.mem_cons.mp h with rfl|h
  ·rw[b7 nd.1,zN]
  ·exact f8 nd.2 h
theorem rG {b:Addr}{u:HO}:∀ {L:List (Addr × HO)} {H:Hp},v9 H L b=some u→(b,u)∈L∨H b=some u
 |[],_,h=>.inr h
 |p::ps,H,h=>by
  rcases rG (L:=ps) (H:=upd H p.1 p.2) h with h|h
  ·exact .inl (List.mem_cons_of_mem _ h)
  ·by_cases hb:b=p.1
   ·subst hb
    rw[zN] at h
    cases h
    exact .inl (List.mem_cons_self ..)
   ·rw[qP hb] at h
    exact .inr h
section
variable {K:PySem.W.Frag}
theorem Rel.pureL {α : List Addr}{S:Sto}:∀ {L:List (Addr × HO)} {H P:Hp},(∀ p∈L,H p.1=none)→(L.map (·.1)).Nodup→Rel K H P α S→Rel K (v9 H L) (v9 P L) α S∧qH P (v9 P L)
 |[],_,_,_,_,r=>⟨r,qH.refl _⟩
 |p::ps,H,P,hn,nd,r=>by
  simp only[List.map_cons,List.nodup_cons] at nd
  obtain⟨r1,e1⟩:=r.pure (o:=p.2) (hn p (List.mem_cons_self ..))
  obtain⟨r2,e2⟩:=Rel.pureL (L:=ps) (fun q hq=>by
   have:q.1≠p.1:=fun e=>nd.1 (e▸List.mem_map.mpr ⟨q,hq,rfl⟩)
   rw[qP this]
   exact hn q (List.mem_cons_of_mem _ hq)) nd.2 r1
  exact⟨r2,e1.trans e2⟩
end
section
variable {X:Cx}{pins:List (Addr × Obj)}{σ : _L.St}{H:Hp}{s:Shared}
theorem Inv.laidL {L:List (Addr × HO)}{h':Heap}{t':Nat}(I:Inv X pins σ H s)(k:∀ b u,s.heap.get? b=some u→h'.get? b=some u)(hp:∀ p∈L,s.heap.objs.size≤p.1)(new:∀ p∈L,zO X.prog X.w (v9 H L) h' p.1 p.2) :
  Inv X pins σ (v9 H L) { s with heap:=h',toks:=t' }:=by
 have old:∀ b u,H b=some u→v9 H L b=some u:=fun b u e=>by
  rw[b7 (L:=L)]
  ·exact e
  ·intro hb
   obtain⟨p,hp',rfl⟩:=List.mem_map.mp hb
   rw[I.hok.fresh (hp p hp')] at e
   cases e
 have low:∀ b,b<s.heap.objs.size→v9 H L b=H b:=fun b hb=>b7 fun hm=>by
  obtain⟨p,hp',rfl⟩:=List.mem_map.mp hm
  exact absurd (Nat.lt_of_lt_of_le hb (hp p hp')) (Nat.lt_irrefl _)
 refine I.un ⟨fun b u q _ _ _=>k b u q,fun b u q _ _ _=>⟨u.slots,k b u q⟩,fun b u q n _=>by rw[low b (Heap.lt_size q)];exact n,fun b u q _=>⟨u,k b u q⟩,fun b xs q=>old b _ q,fun b o xs q=>old b _ q,fun b ps q=>⟨#[],by rw[old b _ q];simp⟩⟩ fun b u e=>?_
 rcases rG e with hm|hb
 ·exact new (b,u) hm
 ·exact(I.hok b u hb).stay (fun c v _ q=>k c v q) (fun c q=>old c _ q) fun c xs q=>old c _ q
end
end _D
end
section
namespace _D
open PySem PySem.Spec PyProof.Rows _L
def wX:List D→Option (List (List Int))
 |[]=>some []
 |.tup ys::r=>(xF ys).bind fun k=>(wX r).map (k::·)
 |_::_=>none
def tpD (k:List Int):D:=.tup (k.map D.int)
theorem f7:∀ {ds:List D} {ks:List (List Int)},wX ds=some ks→ds=ks.map tpD
 |[],ks,h=>by cases h;rfl
 |d::r,ks,h=>by
  cases d with
  |tup ys =>
   obtain⟨k,h1,h2⟩:=Option.bind_eq_some_iff.mp (show (xF ys).bind (fun k=>(wX r).map (k::·))=some ks from h)
   obtain⟨m,h3,rfl⟩:=Option.map_eq_some_iff.mp h2
   rw[f7 h3,v4 h1];rfl
  |_=>cases h
theorem yG (ks:List (List Int)):wX (ks.map tpD)=some ks:=by
 induction ks with
 |nil=>rfl
 |cons k ks ih =>
  show (xF (k.map D.int)).bind (fun k=>(wX (ks.map tpD)).map (k::·))=_
  rw[jO,ih];rfl
def uF (xs:List D):Option (List D):=match xF xs with
 |some ns=>if (_S.srt _S.ltI ns).length<64 then some ((_S.srt _S.ltI ns).map D.int) else none
 |none=>match wX xs with
  |some ks=>if ((_S.srt _H.lexLt ks).length<64&&ks.all fun k=>!k.isEmpty) then some ((_S.srt _H.lexLt ks).map tpD) else none
  |none=>none
def bY:D→Option (List D)
 |.lst xs=>some xs
 |.tup xs=>some xs
 |_=>none
def yB (f:DE):DE:=fun env S=>(f env S).bind fun d S1=>match (bY d).bind uF with
 |some ys=>.ok (.lst ys) S1
 |none=>.bad
theorem YO {K:Type}{lt':K→K→Bool}(O:_S.Ord lt')(ks:List K)(d:K):_S.srt lt' (_S.yI (fun i=>ks.getD i d) ks.length)=_S.srt lt' ks:=
 _S.kQ O (_S.uP O _) (_S.uP O _) fun x=>by
  rw[_S.yL O,_S.yL O,_S.jQ]
  constructor
  ·rintro⟨i,hi,rfl⟩
   simp[List.getD,hi]
  ·intro hx
   obtain⟨i,hi,e⟩:=List.mem_iff_getElem.mp hx
   exact⟨i,hi,by simp[List.getD,hi,e]⟩
section
variable {X:Cx}{pins:List (Addr × Obj)}{σ : _L.St}{H P:Hp}{α : List Addr}{S:Sto}{s:Shared}
inductive NewL (X:Cx)(pins:List (Addr × Obj))(σ : _L.St)(P:Hp)(α : List Addr)(S:Sto)(ys:List D)(u:Value)(s':Shared):Prop
 |mk (v:V) (H' P':Hp) (I:Inv X pins σ H' s') (rv:qK v u) (r:Rel X.K H' P' α S) (e:qH P P') (rp:Rep X.K P' α (.lst ys) v):NewL X pins σ P α S ys u s'
theorem mJ {K:Type}{is:K→Value→Prop}{hash:K→Int}{lt':K→K→Bool}{d:K}{Fit:K→Prop}(kd:_S.Kind X.prog X.w is hash lt' d Fit s.heap)(ad:_S.AddS X.prog X.w is hash s.heap)(hc:X.calm=true)(hu:X.A.units+64<cLine)(I:Inv X pins σ H s)(r:Rel X.K H P α S){a:Addr}{its:List Value}
  (ha:s.heap.IsList a its.toArray∨s.heap.IsTuple a its.toArray) (ks:List K) (hl:ks.length=its.length) (hk:∀ i v,its[i]? = some v→is (ks.getD i d) v) (hn:(_S.srt lt' ks).length<64) (hf:∀ k∈ks,Fit k) (enc:K→D)
  (back:∀ k v,is k v→v∈its→∃ vv,qK vv v∧Rep X.K P α (enc k) vv) {E:Value→Shared→Prop} :
  wpAny (model X.prog X.w) X.A (call (.type "set") [.ref a]) (fun u s1=>wpAny (model X.prog X.w) X.A (call (.builtin "sorted") [u]) (NewL X pins σ P α S ((_S.srt lt' ks).map enc)) E s1) E s:=by
 have hsz:its.toArray.size=ks.length:=by rw[List.size_toArray,hl]
 have mem:∀ k,k∈_S.srt lt' ks↔k∈ks:=fun k=>_S.yL kd.ord k ks
 have inn:∀ i,i<ks.length→ks.getD i d∈ks:=fun i hi=>by simp[List.getD,hi]
 refine _S.aE (U:=_S.srt lt' ks) ad (I.ok.hd hc) (by omega) ha (fun i=>ks.getD i d) (fun i v hv=>hk i v (by simpa using hv)) (by omega) (fun i hi=>(mem _).mpr (inn i (by rw[← hsz];exact hi))) fun h1 tk1 Z kp=>?_
 have seen:∀ k∈_S.yI (fun i=>ks.getD i d) its.toArray.size,k∈ks:=fun k hk'=>by
  obtain⟨i,hi,rfl⟩:=_S.jQ.mp hk'
  exact inn i (by rw[← hsz];exact hi)
 have I1:Inv X pins σ H { s with heap:=h1,toks:=tk1 }:=I.kept kp
 refine _S.iQ (s:={ s with heap:=h1,toks:=tk1 }) kd (I.ok.hd hc) (by omega) kp Z (fun k hk'=>hf k (seen k hk')) (U:=_S.srt lt' ks) (by omega) (fun k hk'=>(mem k).mpr (seen k hk')) fun h2 tk2 D c ps kp2 hD hob hps hp hpl=>?_
 rw[hsz,YO kd.ord] at hps
 have vv:∀ (ps:List (K × Value)),(∀ p∈ps,is p.1 p.2∧p.2∈its)→∃ vs,qL vs (ps.map (·.2))∧qF X.K P α ((ps.map (·.1)).map enc) vs:=by
  intro ps
  induction ps with
  |nil=>exact fun _=>⟨[],.nil,.nil⟩
  |cons p ps ih =>
   intro h
   obtain⟨vs,a1,a2⟩:=ih fun q hq=>h q (by simp[hq])
   obtain⟨v,b1,b2⟩:=back p.1 p.2 (h p (by simp)).1 (h p (by simp)).2
   exact⟨v::vs,.cons b1 a1,.cons b2 a2⟩
 obtain⟨vs,a1,a2⟩:=vv ps fun p hpm=>by simpa using hp p hpm
 rw[hps] at a2
 have nd:([(D,HO.lst vs)].map (·.1)).Nodup:=by simp
 have I2:Inv X pins σ (v9 H [(D,HO.lst vs)]) { s with heap:=h2,toks:=tk2 }:=Inv.laidL (s:={ s with heap:=h1,toks:=tk1 }) (L:=[(D,HO.lst vs)]) (t':=tk2) I1 kp2 (fun p hpm=>by
  have:p=(D,HO.lst vs):=by simpa using hpm
  subst this;exact hD) fun p hpm=>by
  have:p=(D,HO.lst vs):=by simpa using hpm
  subst this
  refine⟨?_,ps.map (·.2),c,a1,hob⟩
  have:=a1.length
  rw[List.length_map] at this
  rw[this,sizeLine_eq]
  omega
 obtain⟨r2,e2⟩:=r.pureL (L:=[(D,HO.lst vs)]) (fun p hpm=>I1.hok.fresh (by
  have:p=(D,HO.lst vs):=by simpa using hpm
  subst this;exact hD)) nd
 exact⟨.ref D,_,_,I2,rfl,r2,e2,kL (.inl (.inl (f8 nd (by simp)))) (qF.mono e2 (List.prefix_refl _) _ _ a2)⟩
end
section
variable {X:Cx}{e:Expr}{fa:DE}{p1 p2 pos1 pos2:Pos}
theorem o4:bootBuiltins "sorted" = some (.builtin "sorted"):=by decide +kernel
theorem t7 {prog:Program}{w:World}:∀ {k:List Int} {us:List Value},qL (k.map V.int) us→ItemsAre (intKind prog w) k us
 |[],us,h=>by cases h;exact .nil
 |i::k,us,h=>by
  cases h with
  |cons q t =>
   obtain⟨tk,rfl⟩:=q
   exact .cons (intKind_is _ _ _ _) (t7 t)
theorem X7 {pins:List (Addr × Obj)}{σ : _L.St}{H P:Hp}{α : List Addr}{S:Sto}{s:Shared}{d:D}{xs:List D}{v:V}{vv:Value}(I:Inv X pins σ H s)(r:Rel X.K H P α S)(p:Rep X.K P α d v)(q:qK v vv)(h:bY d=some xs) :
  ∃ a vs its,vv=.ref a∧qF X.K P α xs vs∧qL vs its∧(s.heap.IsList a its.toArray∨s.heap.IsTuple a its.toArray)∧xs.length=its.length:=by
 cases d with
 |lst ys =>
  cases h
  obtain⟨a,vs,its,n,rfl,_,t,rv,e,l,_⟩:=yR I r p
  exact⟨a,vs,its,q,t,rv,.inl ⟨_,e,rfl,n,rfl⟩,l⟩
 |tup ys =>
  cases h
  obtain⟨a,vs,its,rfl,_,t,rv,⟨o,e,hc,n,hd⟩,l,_⟩:=vZ I r p
  exact⟨a,vs,its,q,t,rv,.inr ⟨o,e,hc,n,hd⟩,l⟩
 |_=>cases h
set_option tactic.hygienic true in
theorem aK (hc:X.calm=true)(hu:X.A.units+64<cLine)(hg:Gl X "sorted")(hm:X.mg "sorted" = none)(hg2:Gl X "set")(hm2:X.mg "set" = none)(ha:PE X e (tD X fa))(he:starEach [e] X.env=(false,eval e X.env)::starEach [] X.env:=by rfl) :
  PE X (.Call (.Name "sorted" p1) [.Call (.Name "set" p2) [e] [] pos2] [] pos1) (tD X (yB fa)):=by
 intro pins s σ H Q I h
 obtain⟨P,α,env,S,r,re,af⟩:=h
 refine wpAny_Call_Name_kw (j9 I hg hm o4 ?_)
 refine PyProof.Rows.callWith_builtin1 ?_ rfl rfl
 refine Calls.spliced_cons ?_
 refine Call_ (j9 I hg2 hm2 XT (PyProof.Rows.callWith_type1 ?_ he rfl))
 rw[he]
 refine Calls.spliced_cons (thn (xA ha I r re af) fun vv s1 ⟨v,H1,P1,α1,d,S1,G1,af1⟩=>Calls.spliced_nil ?_)
 cases hq:(bY d).bind uF with
 |none=>simp only[hq] at af1;exact False.elim af1
 |some ys =>
   simp only[hq] at af1
   obtain⟨xs,hd,hs⟩:=Option.bind_eq_some_iff.mp hq
   obtain⟨a,vs,its,rfl,t1,rv1,e1,l1⟩:=X7 G1.inv G1.rel G1.rep G1.val hd
   have main:wpAny (model X.prog X.w) X.A (call (.type "set") [.ref a]) (fun u s1=>wpAny (model X.prog X.w) X.A (call (.builtin "sorted") [u]) (NewL X pins σ P1 α1 S1 ys) X.xe s1) X.xe s1:=by
    unfold uF at hs
    cases hi:xF xs with
    |some ns =>
     rw[hi] at hs
     dsimp only at hs
     split at hs
     ·rename_i hlt
      cases hs
      have:=v4 hi
      subst this
      have:=wO t1
      subst this
      refine mJ (d:=0) (_S.VB X.prog X.w s1.heap) (_S.GV s1.heap) hc hu G1.inv G1.rel e1 ns (by simpa using l1) (fun i u hu'=>?_) hlt (fun _ _=>trivial) D.int fun k u hk _=>?_
      ·have hi:IntsAre its ns:=by simpa using vL rv1
       obtain⟨t,rfl⟩:=PyProof.Rows.IntsAre.int_at hi i u hu'
       exact intKind_is _ _ _ _
      ·obtain⟨t,rfl⟩:=_S.y8 hk
       exact⟨.int k,⟨t,rfl⟩,by simp only[Rep]⟩
     ·cases hs
    |none =>
     rw[hi] at hs
     dsimp only at hs
     cases ht:wX xs with
     |none=>rw[ht] at hs;cases hs
     |some ks =>
      rw[ht] at hs
      dsimp only at hs
      split at hs
      ·rename_i hlt
       cases hs
       have hlt':=Bool.and_eq_true_iff.mp hlt
       have:=f7 ht
       subst this
       have at':∀ (i:Nat) (u:Value),its[i]? = some u→∃ b,u=.ref b∧IsTupleKey (intKind X.prog X.w) s1.heap (ks.getD i []) b∧∃ vv,qK vv u∧Rep X.K P1 α1 (tpD (ks.getD i [])) vv:=fun i u hu'=>by
        have hii:i<its.length:=(List.getElem?_eq_some_iff.mp hu').1
        have hik:i<ks.length:=by rw[List.length_map] at l1;omega
        obtain⟨v,p,q,_⟩:=uB t1 rv1 (j:=i) (by rw[List.size_toArray];exact hii)
        have hd:(ks.map tpD).getD i D.non=tpD (ks.getD i []):=by simp[List.getD,hik]
        rw[hd] at p
        have hu2:its.toArray[i]'(by rw[List.size_toArray];exact hii)=u:=by
         rw[List.getElem?_eq_getElem hii] at hu'
         simpa using hu'
        rw[hu2] at q
        obtain⟨b,ws,us,rfl,sq,t,rv,⟨o,ho,hcl,m,hd⟩,_,_⟩:=vZ G1.inv G1.rel (show Rep X.K P1 α1 (.tup ((ks.getD i []).map D.int)) v from p)
        cases (show u=Value.ref b from q)
        have:=wO t
        subst this
        exact⟨b,rfl,⟨o,us.toArray,m,ho,hcl,hd,by simpa using t7 rv⟩,.ref b,rfl,p⟩
       refine mJ (d:=[]) (_S.VC X.prog X.w s1.heap) (_S.GW s1.heap) hc hu G1.inv G1.rel e1 ks (by simpa using l1) (fun i u hu'=>?_) (of_decide_eq_true hlt'.1) (fun k hk=>?_) tpD fun k u hk hm'=>?_
       ·obtain⟨b,rfl,q,_⟩:=at' i u hu'
        exact⟨b,rfl,q⟩
       ·have:=List.all_eq_true.mp hlt'.2 k hk
        intro z
        subst z
        cases this
       ·obtain⟨i,hi',rfl⟩:=List.mem_iff_getElem.mp hm'
        obtain⟨b,eb,q,w,rw',pw⟩:=at' i _ (List.getElem?_eq_getElem hi')
        have:k=ks.getD i []:=_S.isT.inj hk ⟨b,eb,q⟩
        rw[this]
        exact⟨w,rw',pw⟩
      ·cases hs
   refine thn main fun u s2 h2=>Calls.spliced_nil (thn h2 fun u' s3 ⟨v,H',P',I',rv,r',e',rp⟩=>?_)
   exact⟨v,H',I',rv,af1 v H' P' α1 r' (G1.same.trans e') G1.pre rp⟩
end
end _D
end
section
namespace _D
open PySem PySem.Spec PyProof.Rows _L
mutual
def pyD:D→Option PyData
 |.non=>some .none
 |.bl b=>some (.bool b)
 |.int i=>some (.int i)
 |.str x=>some (.str x)
 |.tup xs=>(jB xs).map .tuple
 |.lst xs=>(jB xs).map .list
 |.dct0=>some (.dict [])
 |_=>none
def jB:List D→Option (List PyData)
 |[]=>some []
 |d::ds=>(pyD d).bind fun x=>(jB ds).map (x::·)
end
mutual
def uW:D→Bool
 |.lst _=>false
 |.tup xs=>kG xs
 |_=>true
def kG:List D→Bool
 |[]=>true
 |d::ds=>uW d&&kG ds
end
def pF (d:D)(p:PyData):Bool:=p.showable&&p.leavesShort 40&&decide (p.bulk≤2 ^ 16)&&decide (p.depth≤60)&&(!p.hasDict||uW d)
def vU (d:D):Option Str:=(pyD d).bind fun p=>if pF d p then some p.shown else none
def jN:DF:=fun ds S=>match ds with
 |[d]=>match vU d with
  |some x=>.ok (.str x) S
  |none=>.bad
 |_=>.bad
section
variable {X:Cx}{pins:List (Addr × Obj)}{σ : _L.St}{H P:Hp}{α : List Addr}{S:Sto}{s:Shared}
mutual
theorem sY (I:Inv X pins σ H s)(r:Rel X.K H P α S):∀ (d:D) (p:PyData) (v:V) (u:Value),pyD d=some p→Rep X.K P α d v→qK v u→∃ as,Reads s.heap u p as∧(uW d=true→sysModules ∉ as)
 |.non,p,v,u,h,q,rv=>by
  cases h;simp only[Rep] at q;subst q;cases (show u=Value.none from rv);exact⟨_,.none,by simp⟩
 |.bl b,p,v,u,h,q,rv=>by
  cases h;simp only[Rep] at q;subst q;cases (show u=Value.bool b from rv);exact⟨_,.bool b,by simp⟩
 |.int i,p,v,u,h,q,rv=>by
  cases h;simp only[Rep] at q;subst q;obtain⟨t,rfl⟩:=rv;exact⟨_,.int i t,by simp⟩
 |.str x,p,v,u,h,q,rv=>by
  cases h;simp only[Rep] at q;subst q;obtain⟨t,rfl⟩:=rv;exact⟨_,.str x t,by simp⟩
 |.tup xs,p,v,u,h,q,rv=>by
  simp only[pyD] at h
  obtain⟨ps,h1,rfl⟩:=Option.map_eq_some_iff.mp h
  obtain⟨a,vs,its,rfl,_,t,rvs,⟨o,e,hc,n,hd⟩,_,_⟩:=vZ I r q
  cases (show u=Value.ref a from rv)
  obtain⟨as,ra,ha⟩:=pE I r xs ps vs its h1 t rvs
  exact⟨as,.tuple e hc hd (by simpa using ra),fun z=>ha (by simpa only [uW] using z)⟩
 |.lst xs,p,v,u,h,q,rv=>by
  simp only[pyD] at h
  obtain⟨ps,h1,rfl⟩:=Option.map_eq_some_iff.mp h
  obtain⟨a,vs,its,n,rfl,_,t,rvs,e,_,_⟩:=yR I r q
  cases (show u=Value.ref a from rv)
  obtain⟨as,ra,_⟩:=pE I r xs ps vs its h1 t rvs
  exact⟨a::as,.list e rfl rfl (by simpa using ra),fun z=>by simp[uW] at z⟩
 |.dct0,p,v,u,h,q,rv=>by
  cases h
  simp only[Rep] at q
  obtain⟨a,rfl,q⟩:=q
  cases (show u=Value.ref a from rv)
  obtain⟨_,ne,vs,kv,o,es,ep,e,hx,hd,_,hp,_⟩:=I.hok _ _ (r.sub _ _ q)
  cases kv
  have he:es.toList=[]:=by
   generalize es.toList=l at hp
   cases hp;rfl
  refine⟨[a]++[],.dict (kvs:=[]) e hx.1 hd ?_ ?_,fun _=>by simpa using (fun z=>(beq_eq_false_iff_ne.mp ne) z.symm)⟩
  ·rw[he];exact .nil
  ·rw[he];exact .nil
 |.ty _,p,v,u,h,_,_=>by simp[pyD] at h
 |.obj _,p,v,u,h,_,_=>by simp[pyD] at h
 |.loc _,p,v,u,h,_,_=>by simp[pyD] at h
 |.exn _,p,v,u,h,_,_=>by simp[pyD] at h
 |.fd _ _,p,v,u,h,_,_=>by simp[pyD] at h
theorem pE (I:Inv X pins σ H s)(r:Rel X.K H P α S):∀ (ds:List D) (ps:List PyData) (vs:List V) (us:List Value),jB ds=some ps→qF X.K P α ds vs→qL vs us→∃ as,ReadsAll s.heap us ps as∧(kG ds=true→sysModules ∉ as)
 |[],ps,vs,us,h,q,rv=>by
  cases h;cases q.nil_inv;cases rv;exact⟨[],.nil,by simp⟩
 |d::ds,ps,vs,us,h,q,rv=>by
  simp only[jB] at h
  obtain⟨p,h1,h2⟩:=Option.bind_eq_some_iff.mp h
  obtain⟨ps',h3,rfl⟩:=Option.map_eq_some_iff.mp h2
  obtain⟨w,ws,rfl,q1,q2⟩:=q.cons_inv
  cases rv with
  |cons r1 r2 =>
   obtain⟨as,a1,a2⟩:=sY I r d p w _ h1 q1 r1
   obtain⟨bs,b1,b2⟩:=pE I r ds ps' ws _ h3 q2 r2
   refine⟨as++bs,.cons a1 b1,fun z=>?_⟩
   simp only[kG,Bool.and_eq_true] at z
   simp only[List.mem_append,not_or]
   exact⟨a2 z.1,b2 z.2⟩
end
set_option tactic.hygienic true in
theorem nY {d:D}{x:Str}(h:vU d=some x):∃ p,pyD d=some p∧p.shown=x∧p.showable=true∧p.shown.length≤sizeLine∧p.depth≤60∧(p.hasDict=true→uW d=true):=by
 unfold vU at h
 obtain⟨p,h1,h2⟩:=Option.bind_eq_some_iff.mp h
 split at h2
 ·rename_i hk
  cases h2
  simp only[pF,Bool.and_eq_true,decide_eq_true_eq,Bool.or_eq_true,Bool.not_eq_true'] at hk
  obtain⟨⟨⟨⟨k1,k2⟩,k3⟩,k4⟩,k5⟩:=hk
  refine⟨p,h1,rfl,k1,?_,k4,fun z=>k5.resolve_left (by rw[z];simp)⟩
  have:=PyData.shown_le_bulk 40 (by omega) p k2
  rw[sizeLine_eq]
  omega
 ·cases h2
theorem UQ (hg:X.A.guards=some [])(hu:X.A.units+64<cLine):wG X (.builtin "repr") jN:=by
 intro pins σ H s P α S vs us ds Q I r rv rp af
 match ds,af,rp with
 |[],af,_=>exact False.elim af
 |_::_::_,af,_=>exact False.elim af
 |[d],af,rp =>
  simp only[jN] at af
  cases hd:vU d with
  |none=>rw[hd] at af;exact False.elim af
  |some x =>
   rw[hd] at af
   obtain⟨p,h1,rfl,hs,hz,hp,hn⟩:=nY hd
   obtain⟨v,u,rfl,rfl,q,rv1⟩:=yV rp rv
   obtain⟨as,ra,ha⟩:=sY I r d p v u h1 q rv1
   have fin:∀ (h':Heap) (u tk:Tok),(∀ b o,s.heap.get? b=some o→h'.get? b=some o)→EP X pins σ Q (.str p.shown u) { s with heap:=h',toks:=tk }:=fun h' u tk hk =>
    ⟨.str p.shown,H,I.kept hk,⟨u,rfl⟩,xr af r (by simp only[Rep])⟩
   cases ra with
   |none=>exact PySem.P.repr_of_none (fin s.heap _ _ fun _ _ e=>e)
   |bool b=>exact PySem.P.repr_of_bool (fin s.heap _ _ fun _ _ e=>e)
   |int i t=>exact PySem.P.repr_of_int (by simpa [PyData.showable] using hs) (fin s.heap _ _ fun _ _ e=>e)
   |str y t=>exact PySem.P.repr_of_str (fin s.heap _ _ fun _ _ e=>e) hz
   |list a1 a2 a3 a4=>exact repr_of_reads' (.list a1 a2 a3 a4) hs (fun z=>ha (hn z)) hg (by omega) (fun _ _ e=>e) fin hz
   |tuple a1 a2 a3 a4=>exact repr_of_reads' (.tuple a1 a2 a3 a4) hs (fun z=>ha (hn z)) hg (by omega) (fun _ _ e=>e) fin hz
   |dict a1 a2 a3 a4 a5=>exact repr_of_reads' (.dict a1 a2 a3 a4 a5) hs (fun z=>ha (hn z)) hg (by omega) (fun _ _ e=>e) fin hz
end
end _D
end
section
namespace _H
open PySem PyProof.Rows
def stepLo (n:Nat)(k:Int):Int:=(Builtin.Slice.sliceAdjust none none k (n:Int)).1
def stepHi (n:Nat)(k:Int):Int:=(Builtin.Slice.sliceAdjust none none k (n:Int)).2
def stepN (n:Nat)(k:Int):Nat:=Builtin.Slice.slicePlaces (stepLo n k) (stepHi n k) k
def stepL {α : Type}(xs:List α)(k:Int):List α:=(List.range (stepN xs.length k)).filterMap fun (m:Nat)=>xs[(stepLo xs.length k+(m:Int)*k).toNat]?
section
variable {prog:Program}{w:World}{A:Around}{E:Value→Shared→Prop}{s:Shared}
theorem b8 {sl:Addr}{k:Int}{t:Tok}{n:Nat}{Q:Int × Int × Nat→Shared→Prop}(hs:s.heap.IsSliceOf sl .none .none (.int k t))(hk:k≠0)
  (h:Q (stepLo n k,k,stepN n k) s):wpAny (model prog w) A (Builtin.Slice.sliceApplied (.ref sl) (pure (n:Int))) Q E s:=by
 obtain⟨os,hos,hcs,hds⟩:=id hs
 unfold Builtin.Slice.sliceApplied Builtin.Slice.sliceFields
 refine wpAny_bind (wpAny_bind (wpAny_field hos hds (x:=.none) rfl (wpAny_bind (wpAny_field hos hds (x:=.none) rfl (wpAny_bind (wpAny_field hos hds (x:=.int k t) rfl (wpAny_pure ?_)))))))
 refine wpAny_bind (slicePart_int ?_)
 show wpAny _ _ (if (k == 0)=true then _ else _) _ _ s
 rw[if_neg (by simpa using hk)]
 refine wpAny_bind (slicePart_none (wpAny_bind (slicePart_none (wpAny_bind (wpAny_pure ?_)))))
 exact wpAny_pure h
theorem stepL_length {α : Type}(xs:List α)(k:Int):(stepL xs k).length≤stepN xs.length k:=by
 unfold stepL
 exact Nat.le_trans (List.length_filterMap_le _ _) (by rw[List.length_range];exact Nat.le_refl _)
theorem getItem_tuple_step {t sl:Addr}{items:Array Value}{k:Int}{u:Tok}{Q:Value→Shared→Prop}(ht:IsTup s.heap t items)(hs:s.heap.IsSliceOf sl .none .none (.int k u))(h0:k≠0)(h1:k≠1)
  (h:Q (.ref s.heap.objs.size) { s with heap:=s.heap.push { cls:=.type "tuple",data:=.seq (stepL items.toList k).toArray } })
  (hsz:stepN items.size k≤sizeLine):wpAny (model prog w) A (getItem (.ref t) (.ref sl)) Q E s:=by
 have htake:sizeOk (.seq (stepL items.toList k).toArray):=by
  show (stepL items.toList k).toArray.size≤sizeLine
  rw[List.size_toArray]
  exact Nat.le_trans (stepL_length _ _) (by simpa using hsz)
 obtain⟨os,hos,hcs,hds⟩:=id hs
 have hTs:s.TypeIs (.ref sl) "slice":=⟨os,hos,hcs⟩
 unfold getItem
 try with_reducible refine wpAny_holding ?_
 first|refine wpAny_bind (wpAny_pure ?_)|skip
 refine wpAny_bind (wpAny_sequenceKey ht.typeIs (by decide) ?_)
 refine wpAny_bind (wpAny_callSpecial?_slot (name:=Str.ofString "__getitem__") ht.typeIs PyProof.Rows.slot_tuple_getitem
  (wpAny_call_entry PyProof.Rows.slot_tuple_getitem ht.typeIs entry_tuple_getitem ?_ (args_tuple_getitem _ _)))
 show wpAny _ _ (Builtin.Tuple.tupleItemsOf (.ref t) >>= _) _ _ s
 refine wpAny_bind (tupleItemsOf_ ht ?_)
 refine wpAny_bind (wpAny_typeOf hTs ?_)
 rw[if_pos (by decide)]
 refine wpAny_bind (b8 hs h0 ?_)
 have hno:¬ ((stepLo items.size k == 0&&k == 1&&stepN items.size k == items.size)=true):=by
  intro q
  rw[Bool.and_eq_true,Bool.and_eq_true] at q
  exact h1 (eq_of_beq q.1.2)
 show wpAny _ _ (if (stepLo items.size k == 0&&k == 1&&stepN items.size k == items.size)=true then _ else _) _ _ s
 rw[if_neg hno]
 have e:((List.range (stepN items.size k)).filterMap fun (m:Nat)=>items[(stepLo items.size k+(m:Int)*k).toNat]?)=stepL items.toList k:=by
  unfold stepL
  simp
 rw[e]
 first
  |exact wpAny_bind (m:=Builtin.Tuple.tupleExact _) (wpAny_newObj_type (wpAny_pure ⟨_,rfl,wpAny_pure h⟩) htake)
  |exact wpAny_bind (m:=Builtin.Tuple.tupleExact _) (wpAny_newObj_type (wpAny_bind (wpAny_pure (wpAny_pure ⟨_,rfl,wpAny_pure h⟩))) htake)
  |exact wpAny_bind (wpAny_bind (m:=Builtin.Tuple.tupleExact _) (wpAny_newObj_type (wpAny_pure (wpAny_pure ⟨_,rfl,wpAny_pure h⟩)) htake))
  |exact wpAny_bind (wpAny_bind (m:=Builtin.Tuple.tupleExact _) (wpAny_newObj_type (wpAny_pure ⟨_,rfl,wpAny_pure h⟩) htake))
end
end _H
namespace _D
open PySem PySem.Spec PyProof.Rows _L
def aP:G2:=fun d k S=>match d,k with
 |.tup xs,.int k=>if k≠0∧k≠1∧_H.stepN xs.length k≤lim then .ok (.tup (_H.stepL xs k)) S else .bad
 |_,_=>.bad
def pQ (fe fk:DE):DE:=d2 aP fe fk
section
variable {X:Cx}{e ek:Expr}{fe fk:DE}{p2 pos:Pos}
theorem XC {vs:List V}{us:List Value}(rv:qL vs us)(l:List Nat)(f:Nat→Nat):qL (l.filterMap fun m=>vs[f m]?) (l.filterMap fun m=>us[f m]?):=by
 induction l with
 |nil=>exact .nil
 |cons m l ih =>
  simp only[List.filterMap_cons]
  cases h:vs[f m]? with
  |none =>
   have:us[f m]? = none:=by
    rw[List.getElem?_eq_none_iff] at h ⊢
    rw[← rv.length];exact h
   rw[this];exact ih
  |some v =>
   obtain⟨u,hu,r⟩:=rv.get h
   rw[hu];exact .cons r ih
theorem X0 {K:PySem.W.Frag}{P:Hp}{α : List Addr}{ds:List D}{vs:List V}(rp:qF K P α ds vs)(l:List Nat)(f:Nat→Nat):qF K P α (l.filterMap fun m=>ds[f m]?) (l.filterMap fun m=>vs[f m]?):=by
 induction l with
 |nil=>exact .nil
 |cons m l ih =>
  simp only[List.filterMap_cons]
  cases h:ds[f m]? with
  |none =>
   have:vs[f m]? = none:=by
    rw[List.getElem?_eq_none_iff] at h ⊢
    rw[← rp.length];exact h
   rw[this];exact ih
  |some d =>
   obtain⟨u,hu,r⟩:=rp.get h
   rw[hu];exact .cons r ih
set_option tactic.hygienic true in
theorem UY (he:PE X e (tD X fe))(hk:PE X ek (tD X fk)):PE X (.Subscript e (.Slice none none (some ek) p2) pos) (tD X (pQ fe fk)):=by
 intro pins s σ H Q I h
 obtain⟨P,α,env,S,r,re,af⟩:=h
 have af':qI X P α ((fe env S).bind fun d S1=>(fk env S1).bind fun k S2=>aP d k S2) (OkV X P α Q):=af
 refine Subscript_ (thn (xA he I r re af') fun v s1 ⟨x,H1,P1,α1,d,S1,G1,af1⟩=>?_)
 refine wpAny_Slice ?_
 rw[evalPart_none]
 refine wpAny_pure (wpAny_pure ?_)
 rw[evalPart_some]
 refine thn (xA hk G1.inv G1.rel G1.env (zB.base G1.same G1.pre af1)) fun vk s2 ⟨y,H2,P2,α2,k,S2,G2,af2⟩=>?_
 have af2:=zB.base G2.same G2.pre af2
 cases d with
 |tup xs =>
  cases k with
  |int k =>
   simp only[aP] at af2
   split at af2
   ·rename_i hk'
    have rp:=Rep.mono G2.same G2.pre _ _ G1.rep
    obtain⟨a,vs,its,rfl,q,t,rvs,ht,hl,_⟩:=vZ G2.inv G2.rel rp
    cases (show v=Value.ref a from G1.val)
    have gr:=G2.rep
    simp only[Rep] at gr
    subst gr
    obtain⟨tk,rfl⟩:=G2.val
    have I4:Inv X pins σ H2 { s2 with heap:=s2.heap.push { cls:=.type "slice",data:=.fields #[.none,.none,.int k tk] } }:=G2.inv.kept (t':=s2.toks) fun b ob q=>Heap.get?_push_of_some _ q
    have ht':IsTup (s2.heap.push { cls:=.type "slice",data:=.fields #[.none,.none,.int k tk] }) a its.toArray:=ht.keeps fun b ob q=>Heap.get?_push_of_some _ q
    refine tail_any (ops:=[.ref a,.ref s2.heap.objs.size]) (s:={ s2 with heap:=s2.heap.push { cls:=.type "slice",data:=.fields #[.none,.none,.int k tk] } }) ht'.typeIs PyProof.Rows.slot_tuple_getitem.lookup ?_ (by with_unfolding_all rfl)
    refine _H.getItem_tuple_step (s:={ s2 with heap:=s2.heap.push { cls:=.type "slice",data:=.fields #[.none,.none,.int k tk] } }) ht' (Heap.IsSliceOf.new ..) hk'.1 hk'.2.1 ?_ ?_
    ·have lv:vs.length=its.length:=rvs.length
     have ld:xs.length=vs.length:=t.length
     have t':qF X.K P2 α2 (_H.stepL xs k) (_H.stepL vs k):=by
      unfold _H.stepL
      rw[ld]
      exact X0 t _ fun m=>(_H.stepLo vs.length k+(m:Int)*k).toNat
     have rv':qL (_H.stepL vs k) (_H.stepL its k):=by
      unfold _H.stepL
      rw[lv]
      exact XC rvs _ fun m=>(_H.stepLo its.length k+(m:Int)*k).toNat
     exact dS I4 G2.rel t' rv' (Nat.le_trans (_H.stepL_length _ _) hk'.2.2) af2
    ·rw[List.size_toArray,← hl,← xN];exact hk'.2.2
   ·exact False.elim af2
  |_=>exact False.elim af2
 |_=>exact False.elim af2
end
end _D
end
section
namespace _D
open PySem PySem.Spec PyProof.Rows _L
def uL (xs:List D):Option (List D):=match xF xs with
 |some ns=>if (decide (ns.length<64)&&decide ns.Nodup) then some ((_S.srt _S.ltI ns).map D.int) else none
 |none=>match wX xs with
  |some ks=>if (decide (ks.length<64)&&decide ks.Nodup&&ks.all fun k=>!k.isEmpty) then some ((_S.srt _H.lexLt ks).map tpD) else none
  |none=>none
def wL:DF:=fun ds S=>match ds with
 |[d]=>match (bY d).bind uL with
  |some ys=>.ok (.lst ys) S
  |none=>.bad
 |_=>.bad
section
variable {X:Cx}{pins:List (Addr × Obj)}{σ : _L.St}{H P:Hp}{α : List Addr}{S:Sto}{s:Shared}
theorem lA {K:Type}{is:K→Value→Prop}{hash:K→Int}{lt':K→K→Bool}{d:K}{Fit:K→Prop}(kd:_S.Kind X.prog X.w is hash lt' d Fit s.heap)(hu:X.A.units+64<cLine)(I:Inv X pins σ H s)(r:Rel X.K H P α S){a:Addr}{its:List Value}
  (ha:s.heap.IsList a its.toArray∨s.heap.IsTuple a its.toArray) (ks:List K) (hl:ks.length=its.length) (hk:∀ i v,its[i]? = some v→is (ks.getD i d) v) (nd:ks.Nodup) (hn:ks.length<64) (hf:∀ k∈ks,Fit k) (enc:K→D)
  (back:∀ k v,is k v→v∈its→∃ vv,qK vv v∧Rep X.K P α (enc k) vv) {E:Value→Shared→Prop} :
  wpAny (model X.prog X.w) X.A (call (.builtin "sorted") [.ref a]) (NewL X pins σ P α S ((_S.srt lt' ks).map enc)) E s:=by
 refine _S.iP kd (by omega) (fun _ _ e=>e) ha ks hl.symm hk nd hf (by omega) fun h1 h2 tk2 D c ps kp1 kp2 hD hob hps hp hpl=>?_
 have I1:Inv X pins σ H { s with heap:=h1,toks:=s.toks }:=I.kept kp1
 have vv:∀ (ps:List (K × Value)),(∀ p∈ps,is p.1 p.2∧p.2∈its)→∃ vs,qL vs (ps.map (·.2))∧qF X.K P α ((ps.map (·.1)).map enc) vs:=by
  intro ps
  induction ps with
  |nil=>exact fun _=>⟨[],.nil,.nil⟩
  |cons p ps ih =>
   intro h
   obtain⟨vs,a1,a2⟩:=ih fun q hq=>h q (by simp[hq])
   obtain⟨v,b1,b2⟩:=back p.1 p.2 (h p (by simp)).1 (h p (by simp)).2
   exact⟨v::vs,.cons b1 a1,.cons b2 a2⟩
 obtain⟨vs,a1,a2⟩:=vv ps hp
 rw[hps] at a2
 have nd:([(D,HO.lst vs)].map (·.1)).Nodup:=by simp
 have I2:Inv X pins σ (v9 H [(D,HO.lst vs)]) { s with heap:=h2,toks:=tk2 }:=Inv.laidL (s:={ s with heap:=h1,toks:=s.toks }) (L:=[(D,HO.lst vs)]) (t':=tk2) I1 kp2 (fun p hpm=>by
  have:p=(D,HO.lst vs):=by simpa using hpm
  subst this;exact hD) fun p hpm=>by
  have:p=(D,HO.lst vs):=by simpa using hpm
  subst this
  refine⟨?_,ps.map (·.2),c,a1,hob⟩
  have:=a1.length
  rw[List.length_map] at this
  rw[this,sizeLine_eq]
  omega
 obtain⟨r2,e2⟩:=r.pureL (L:=[(D,HO.lst vs)]) (fun p hpm=>I1.hok.fresh (by
  have:p=(D,HO.lst vs):=by simpa using hpm
  subst this;exact hD)) nd
 exact⟨.ref D,_,_,I2,rfl,r2,e2,kL (.inl (.inl (f8 nd (by simp)))) (qF.mono e2 (List.prefix_refl _) _ _ a2)⟩
set_option tactic.hygienic true in
theorem o9 (hu:X.A.units+64<cLine):wG X (.builtin "sorted") wL:=by
 intro pins σ H s P α S vs us ds Q I r rv rp af
 match ds,af,rp with
 |[],af,_=>exact False.elim af
 |_::_::_,af,_=>exact False.elim af
 |[d],af,rp =>
  simp only[wL] at af
  cases hq:(bY d).bind uL with
  |none=>rw[hq] at af;exact False.elim af
  |some ys =>
   rw[hq] at af
   obtain⟨xs,hd,hs⟩:=Option.bind_eq_some_iff.mp hq
   obtain⟨v,u,rfl,rfl,p,q⟩:=yV rp rv
   obtain⟨a,vs,its,rfl,t1,rv1,e1,l1⟩:=X7 I r p q hd
   have main:wpAny (model X.prog X.w) X.A (call (.builtin "sorted") [.ref a]) (NewL X pins σ P α S ys) X.xe s:=by
    unfold uL at hs
    cases hi:xF xs with
    |some ns =>
     rw[hi] at hs
     dsimp only at hs
     split at hs
     ·rename_i hlt
      cases hs
      rw[Bool.and_eq_true,decide_eq_true_eq,decide_eq_true_eq] at hlt
      have:=v4 hi
      subst this
      have:=wO t1
      subst this
      refine lA (d:=0) (_S.VB X.prog X.w s.heap) hu I r e1 ns (by simpa using l1) (fun i u hu'=>?_) hlt.2 hlt.1 (fun _ _=>trivial) D.int fun k u hk _=>?_
      ·have hi:IntsAre its ns:=by simpa using vL rv1
       obtain⟨t,rfl⟩:=PyProof.Rows.IntsAre.int_at hi i u hu'
       exact intKind_is _ _ _ _
      ·obtain⟨t,rfl⟩:=_S.y8 hk
       exact⟨.int k,⟨t,rfl⟩,by simp only[Rep]⟩
     ·cases hs
    |none =>
     rw[hi] at hs
     dsimp only at hs
     cases ht:wX xs with
     |none=>rw[ht] at hs;cases hs
     |some ks =>
      rw[ht] at hs
      dsimp only at hs
      split at hs
      ·rename_i hlt
       cases hs
       rw[Bool.and_eq_true,Bool.and_eq_true,decide_eq_true_eq,decide_eq_true_eq] at hlt
       have:=f7 ht
       subst this
       have at':∀ (i:Nat) (u:Value),its[i]? = some u→∃ b,u=.ref b∧IsTupleKey (intKind X.prog X.w) s.heap (ks.getD i []) b∧∃ vv,qK vv u∧Rep X.K P α (tpD (ks.getD i [])) vv:=fun i u hu'=>by
        have hii:i<its.length:=(List.getElem?_eq_some_iff.mp hu').1
        have hik:i<ks.length:=by rw[List.length_map] at l1;omega
        obtain⟨v,p,q,_⟩:=uB t1 rv1 (j:=i) (by rw[List.size_toArray];exact hii)
        have hd:(ks.map tpD).getD i D.non=tpD (ks.getD i []):=by simp[List.getD,hik]
        rw[hd] at p
        have hu2:its.toArray[i]'(by rw[List.size_toArray];exact hii)=u:=by
         rw[List.getElem?_eq_getElem hii] at hu'
         simpa using hu'
        rw[hu2] at q
        obtain⟨b,ws,us,rfl,sq,t,rv,⟨o,ho,hcl,m,hd⟩,_,_⟩:=vZ I r (show Rep X.K P α (.tup ((ks.getD i []).map D.int)) v from p)
        cases (show u=Value.ref b from q)
        have:=wO t
        subst this
        exact⟨b,rfl,⟨o,us.toArray,m,ho,hcl,hd,by simpa using t7 rv⟩,.ref b,rfl,p⟩
       refine lA (d:=[]) (_S.VC X.prog X.w s.heap) hu I r e1 ks (by simpa using l1) (fun i u hu'=>?_) hlt.1.2 hlt.1.1 (fun k hk=>?_) tpD fun k u hk hm'=>?_
       ·obtain⟨b,rfl,q,_⟩:=at' i u hu'
        exact⟨b,rfl,q⟩
       ·have:=List.all_eq_true.mp hlt.2 k hk
        intro z
        subst z
        cases this
       ·obtain⟨i,hi',rfl⟩:=List.mem_iff_getElem.mp hm'
        obtain⟨b,eb,q,w,rw',pw⟩:=at' i _ (List.getElem?_eq_getElem hi')
        have:k=ks.getD i []:=_S.isT.inj hk ⟨b,eb,q⟩
        rw[this]
        exact⟨w,rw',pw⟩
      ·cases hs
   refine thn main fun u' s3 ⟨v,H',P',I',rv,r',e',rp⟩=>?_
   exact⟨v,H',I',rv,af v H' P' α r' e' (List.prefix_refl _) rp⟩
end
def fG:DF:=fun ds S=>match ds with
 |[.lst (.int i::xs)]=>match xF xs with
  |some ns=>.ok (.int (ns.foldl max i)) S
  |none=>.bad
 |_=>.bad
def fH:DF:=fun ds S=>match ds with
 |[.lst (.int i::xs)]=>match xF xs with
  |some ns=>.ok (.int (ns.foldl min i)) S
  |none=>.bad
 |_=>.bad
theorem fO {its:List Value}{ns:List Int}(h:IntsAre its ns):∃ xs:List (Int × Tok),its=xs.map (fun p=>Value.int p.1 p.2)∧ns=xs.map (·.1):=by
 induction h with
 |nil=>exact⟨[],rfl,rfl⟩
 |cons n t h ih =>
  obtain⟨xs,rfl,rfl⟩:=ih
  exact⟨(n,t)::xs,rfl,rfl⟩
theorem oQ:∀ (ns:List Int) (i:Int),ns.foldl max i∈i::ns∧∀ a∈i::ns,a≤ns.foldl max i
 |[],i=>⟨by simp,fun a ha=>by simp at ha;subst ha;exact Int.le_refl _⟩
 |n::ns,i=>by
  obtain⟨h1,h2⟩:=oQ ns (max i n)
  refine⟨?_,fun a ha=>?_⟩
  ·rcases List.mem_cons.mp h1 with h|h
   ·rcases Int.le_total i n with z|z
    ·rw[List.foldl_cons,h,Int.max_eq_right z];simp
    ·rw[List.foldl_cons,h,Int.max_eq_left z];simp
   ·exact List.mem_cons_of_mem _ (List.mem_cons_of_mem _ h)
  ·have h3:=h2 (max i n) (by simp)
   rcases List.mem_cons.mp ha with rfl|ha
   ·exact Int.le_trans (Int.le_max_left _ _) h3
   ·rcases List.mem_cons.mp ha with rfl|ha
    ·exact Int.le_trans (Int.le_max_right _ _) h3
    ·exact h2 a (List.mem_cons_of_mem _ ha)
theorem oR:∀ (ns:List Int) (i:Int),ns.foldl min i∈i::ns∧∀ a∈i::ns,ns.foldl min i≤a
 |[],i=>⟨by simp,fun a ha=>by simp at ha;subst ha;exact Int.le_refl _⟩
 |n::ns,i=>by
  obtain⟨h1,h2⟩:=oR ns (min i n)
  refine⟨?_,fun a ha=>?_⟩
  ·rcases List.mem_cons.mp h1 with h|h
   ·rcases Int.le_total i n with z|z
    ·rw[List.foldl_cons,h,Int.min_eq_left z];simp
    ·rw[List.foldl_cons,h,Int.min_eq_right z];simp
   ·exact List.mem_cons_of_mem _ (List.mem_cons_of_mem _ h)
  ·have h3:=h2 (min i n) (by simp)
   rcases List.mem_cons.mp ha with rfl|ha
   ·exact Int.le_trans h3 (Int.min_le_left _ _)
   ·rcases List.mem_cons.mp ha with rfl|ha
    ·exact Int.le_trans h3 (Int.min_le_right _ _)
    ·exact h2 a (List.mem_cons_of_mem _ ha)
theorem pW (xs:List (Int × Tok))(i:Nat)(hi:i<xs.length):numAt xs.toArray i=(xs.map (·.1))[i]'(by simpa using hi):=by
 simp[numAt,hi]
section
variable {X:Cx}
set_option tactic.hygienic true in
theorem UO (hc:X.calm=true):wG X (.builtin "max") fG:=by
 intro pins σ H s P α S vs us ds Q I r rv rp af
 unfold fG at af
 split at af
 ·rename_i i xs
  cases hi:xF xs with
  |none=>rw[hi] at af;exact False.elim af
  |some ns =>
   rw[hi] at af
   have:=v4 hi
   subst this
   obtain⟨v,u,rfl,rfl,p,q⟩:=yV rp rv
   obtain⟨a,ws,its,n,rfl,_,t,rvi,e,l,_⟩:=yR I r p
   cases (show u=Value.ref a from q)
   have t':qF X.K P α ((i::ns).map D.int) ws:=t
   cases wO t'
   obtain⟨ps,rfl,hps⟩:=fO (show IntsAre its (i::ns) by simpa using vL rvi)
   have hpl:0<ps.length:=by
    have:=congrArg List.length hps
    simp at this
    omega
   have hL:s.heap.IsList a (intItems ps.toArray):=⟨_,e,rfl,n,by simp[intItems]⟩
   refine max_intList (I.ok.hd hc) hL (by simpa using hpl) fun v h' tk hv hk=>?_
   obtain⟨tk',rfl⟩:=intItems_at hv
   obtain⟨b1,b2⟩:=argBest_gt (numAt ps.toArray) (ps.toArray.size-1)
   have hz:ps.toArray.size=ps.length:=by simp
   generalize argBest (fun i j=>decide (numAt ps.toArray i>numAt ps.toArray j)) (ps.toArray.size-1)=m at b1 b2 hv
   have hm:m<ps.length:=by omega
   obtain⟨f1,f2⟩:=oQ ns i
   have hM:numAt ps.toArray m=ns.foldl max i:=by
    have h1:numAt ps.toArray m∈i::ns:=by rw[pW ps m hm,hps];exact List.getElem_mem _
    refine Int.le_antisymm (f2 _ h1) ?_
    rw[hps] at f1
    obtain⟨j,hj,ej⟩:=List.mem_iff_getElem.mp f1
    have hj':j<ps.length:=by simpa using hj
    have:=b2 j (by omega)
    rw[pW ps j hj',ej] at this
    exact this
   exact⟨.int _,H,I.kept (t':=tk) hk,⟨tk',rfl⟩,xr af r (by simp only[Rep];rw[hM])⟩
 ·exact False.elim af
set_option tactic.hygienic true in
theorem UP (hc:X.calm=true):wG X (.builtin "min") fH:=by
 intro pins σ H s P α S vs us ds Q I r rv rp af
 unfold fH at af
 split at af
 ·rename_i i xs
  cases hi:xF xs with
  |none=>rw[hi] at af;exact False.elim af
  |some ns =>
   rw[hi] at af
   have:=v4 hi
   subst this
   obtain⟨v,u,rfl,rfl,p,q⟩:=yV rp rv
   obtain⟨a,ws,its,n,rfl,_,t,rvi,e,l,_⟩:=yR I r p
   cases (show u=Value.ref a from q)
   have t':qF X.K P α ((i::ns).map D.int) ws:=t
   cases wO t'
   obtain⟨ps,rfl,hps⟩:=fO (show IntsAre its (i::ns) by simpa using vL rvi)
   have hpl:0<ps.length:=by
    have:=congrArg List.length hps
    simp at this
    omega
   have hL:s.heap.IsList a (intItems ps.toArray):=⟨_,e,rfl,n,by simp[intItems]⟩
   refine min_intList (I.ok.hd hc) hL (by simpa using hpl) fun v h' tk hv hk=>?_
   obtain⟨tk',rfl⟩:=intItems_at hv
   obtain⟨b1,b2⟩:=argBest_lt (numAt ps.toArray) (ps.toArray.size-1)
   have hz:ps.toArray.size=ps.length:=by simp
   generalize argBest (fun i j=>decide (numAt ps.toArray i<numAt ps.toArray j)) (ps.toArray.size-1)=m at b1 b2 hv
   have hm:m<ps.length:=by omega
   obtain⟨f1,f2⟩:=oR ns i
   have hM:numAt ps.toArray m=ns.foldl min i:=by
    have h1:numAt ps.toArray m∈i::ns:=by rw[pW ps m hm,hps];exact List.getElem_mem _
    refine Int.le_antisymm ?_ (f2 _ h1)
    rw[hps] at f1
    obtain⟨j,hj,ej⟩:=List.mem_iff_getElem.mp f1
    have hj':j<ps.length:=by simpa using hj
    have:=b2 j (by omega)
    rw[pW ps j hj',ej] at this
    exact this
   exact⟨.int _,H,I.kept (t':=tk) hk,⟨tk',rfl⟩,xr af r (by simp only[Rep];rw[hM])⟩
 ·exact False.elim af
end
end _D
end
section
namespace _D
open PySem PySem.Spec PyProof.Rows _L
structure QI2 (X:Cx)(tg it:Expr)(f:DI2):Prop where
 get:PI X tg it (tDI2 X f)
structure QK (Y:Cx)(step:Value→Sem Unit)(k:DK):Prop where
 get:PK Y step k
structure ZTab (X:Cx)(cm:Bool)(k:Nat)(es:List Expr)(Fs:List (Nat × DF)):Prop where
 get:TabL X cm k es Fs
section
variable {X Y:Cx}{tg it e o elt iter ie:Expr}{es ifs rest:List Expr}{fa fo fe fi:DE}{fA:DA}{fI:DI}{f2:DI2}{g:DG}{t:DT}{kk:DK}{p pos:Pos}{n k:Nat}{x:Str}{cm:Bool}{F:DF}{f:DS}{gens grest:List Comprehension}{scope:Scope}{N':List Str}{cap:List (Option Nat)}{mm:Bool}
theorem ZO (h:QI X tg it fI):QI2 X tg it (wJ fI):=⟨J7 h.1⟩
theorem ZN (h:QE X e fa):QI2 X tg e (dIt fa):=⟨TW h.1⟩
theorem cB (hx:Y.xe=fun _ _=>False)(hlast:gens[k+1]? = none)(he:QE Y elt fe):QK Y (fun acc=>xU elt gens scope pos k acc Y.env) (qX fe):=⟨KR hx hlast he.1⟩
theorem YA (hc:X.calm=true)(S:CompSc X.env.scope X.N scope N' cap)(hi:QI2 X tg iter f2)(hg:∀ cl C ex s₀ H₀,QG (zA X N' scope cl C ex s₀ H₀) tg g)(ht:∀ cl C ex s₀ H₀,QTs (zA X N' scope cl C ex s₀ H₀) ifs t)
  (has:∀ g',(⟨tg,iter,ifs,0⟩::grest:List Comprehension)[0+1]? = some g'→g'.is_async=0)
  (he:∀ cl C ex s₀ H₀,QK (zA X N' scope cl C ex s₀ H₀) (fun acc=>xU elt (⟨tg,iter,ifs,0⟩::grest) scope pos 0 acc (zA X N' scope cl C ex s₀ H₀).env) kk) (hs:∀ x,foldedSetIterable iter X.env x=pure x) :
  QE X (.ListComp elt (⟨tg,iter,ifs,0⟩::grest) scope pos) (qS mm cap f2 g t kk):=
 ⟨W9 hc S hi.1 (fun cl C ex s H=>(hg cl C ex s H).1) (fun cl C ex s H=>(ht cl C ex s H).1) has (fun cl C ex s H=>(he cl C ex s H).1) hs⟩
theorem YB {m:Nat}{y:Str}{py spos:Pos}(hc:X.calm=true)(hN:X.N.Nodup)(S:CompSc X.env.scope X.N scope N' cap)(hi:QI2 X tg iter f2)(hg:∀ cl C ex s₀ H₀,QG (zA X N' scope cl C ex s₀ H₀) tg g)(ht:∀ cl C ex s₀ H₀,QTs (zA X N' scope cl C ex s₀ H₀) ifs t)
  (has:∀ g',(⟨tg,iter,ifs,0⟩::grest:List Comprehension)[0+1]? = some g'→g'.is_async=0)
  (he:∀ cl C ex s₀ H₀,QK (zA X N' scope cl C ex s₀ H₀) (fun acc=>xU elt (⟨tg,iter,ifs,0⟩::grest) scope pos 0 acc (zA X N' scope cl C ex s₀ H₀).env) kk) (hy:X.N[m]? = some y) (hyl:Loc X.env.scope y) (hf:X.fn y=true∨X.env.scope.names.lookup y=some .local)
  (hsw:swapsWith (.ListComp elt (⟨tg,iter,ifs,0⟩::grest) scope pos) (some (.Name y py)) spos.line X.env=pure true) (hs:∀ x,foldedSetIterable iter X.env x=pure x):QS X (.Assign [.Name y py] (.ListComp elt (⟨tg,iter,ifs,0⟩::grest) scope pos) spos) (zG (qS mm cap f2 g t kk) (gNm m)):=
 ⟨WF hc hN S hi.1 (fun cl C ex s H=>(hg cl C ex s H).1) (fun cl C ex s H=>(ht cl C ex s H).1) has (fun cl C ex s H=>(he cl C ex s H).1) hy hyl hf hsw hs⟩
theorem rM:ZTab X cm k [] []:=⟨.nil⟩
theorem XM {Fs:List (Nat × DF)}(G:Def X.prog X.w X.K X.mg X.base cm k x n F)(hg:Gl X x)(hd:(x == ("__debug__" : Str))=false)(h:ZTab X cm k es Fs):ZTab X cm k (.Name x p::es) ((n,F)::Fs):=⟨.cons G hg hd h.1⟩
theorem M9 {Fs:List (Nat × DF)}{lp sp:Pos}(T:ZTab X cm k es Fs)(hr:RoomC cm k X.A)(hF:Fn1 X)(hl:Fs.length≤lim)(hi:QE X ie fi)(ha:QA X (e::rest) fA)(hs:uY ie:=by intro _ _;rfl)
  (he:starEach (e::rest) X.env=(false,eval e X.env)::starEach rest X.env:=by rfl) (hpl:(backTo pos (starEach rest X.env)).any (·.1)=false:=by rfl):QE X (.Call (.Subscript (.List es lp) ie sp) (e::rest) [] pos) (mR Fs fi fA):=⟨PZ T.1 hr hF hl hi.1 ha.1 hs he hpl⟩
theorem UA (hr:RoomC cm k X.A):ZOp X (compareOp .Lt) bL:=⟨FF (by have:=hu1 hr;omega)⟩
theorem XI:ZOp X (binaryOp .Mult) kW:=⟨KD⟩
end
end _D
end
section
namespace _D
open PySem PySem.Spec PyProof.Rows _L
section
variable {X:Cx}{cm:Bool}{k:Nat}{e:Expr}{fa:DE}{p1 p2 pos1 pos2:Pos}
theorem mD (hc:X.calm=true)(hr:RoomC cm k X.A)(hg:Gl X "sorted")(hm:X.mg "sorted" = none)(hg2:Gl X "set")(hm2:X.mg "set" = none)(ha:QE X e fa)(he:starEach [e] X.env=(false,eval e X.env)::starEach [] X.env:=by rfl) :
  QE X (.Call (.Name "sorted" p1) [.Call (.Name "set" p2) [e] [] pos2] [] pos1) (yB fa):=⟨aK hc hr.units hg hm hg2 hm2 ha.1 he⟩
end
end _D
end
section
namespace _D
open PySem PySem.Spec PyProof.Rows _L
section
variable {X:Cx}{cm:Bool}{k:Nat}{e ek:Expr}{fe fk:DE}{p2 pos:Pos}
theorem XJ (hr:RoomC cm k X.A):ZCall X (.builtin "repr") jN:=⟨UQ hr.gd hr.units⟩
theorem c9 (he:QE X e fe)(hk:QE X ek fk):QE X (.Subscript e (.Slice none none (some ek) p2) pos) (pQ fe fk):=⟨UY he.1 hk.1⟩
end
end _D
end
section
namespace _D
open PySem PySem.Spec PyProof.Rows _L
section
variable {X:Cx}{cm:Bool}{k:Nat}
theorem rL (hr:RoomC cm k X.A):ZCall X (.builtin "sorted") wL:=⟨o9 hr.units⟩
theorem XG (hc:X.calm=true):ZCall X (.builtin "max") fG:=⟨UO hc⟩
theorem XH (hc:X.calm=true):ZCall X (.builtin "min") fH:=⟨UP hc⟩
end
end _D
end
section
namespace _D
open PySem PySem.Spec PyProof.Rows _L
theorem VY (F:DF):∃ G:DF,G=F:=⟨F,rfl⟩
noncomputable def sh (F:DF):DF:=Classical.choose (VY F)
theorem x0 (F:DF):sh F=F:=Classical.choose_spec (VY F)
def isV:Option NameKind→Bool
 |some .local => true
 |some .cell=>true
 |some .free=>true
 |_=>false
def isL:Option NameKind→Bool
 |some .local => true
 |some .cell=>true
 |_=>false
def isG:Option NameKind→Bool
 |some .globalImplicit=>true
 |_=>false
def okN (x:Str):Bool:=!(x == ("__debug__" : Str))&&(!(x == ("__classdict__" : Str))&&!decide (x = "__name__"))
def okG (X:Cx)(x:Str):Bool:=isG (X.env.kindOf x)&&okN x
def okB (v:Value)(x:Str):Bool:=decide (bootBuiltins x=some v)
def tF (sc:Scope):List Str:=sc.names.filterMap fun y=>if isL (some y.2) then some y.1 else none
def yU (sc:Scope):List Str:=(sc.names.filterMap fun y=>if isL (some y.2)&&!(y.1 == (".0" : Str)) then some y.1 else none)++sc.names.filterMap fun y=>if y.2 == .free then some y.1 else none
def Ck (b:Bool):Prop:=b=true
theorem ck {b:Bool}(h:b=true:=by kernel_rfl):Ck b:=h
structure DfS (F:DF)(P:Program)(w:World)(K:PySem.W.Frag)(mg:Str→Option Value)(base:Heap)(cm:Bool)(k:Nat)(x:Str)(n:Nat):Prop where
 get:Def P w K mg base cm k x n F
def okT (X:Cx)(m:Nat)(x:Str):Bool:=decide (X.N[m]? = some x)&&(isL (X.env.scope.names.lookup x)&&(decide X.N.Nodup&&(X.fn x||decide (X.env.scope.names.lookup x=some .local))))
def okP (X:Cx)(m:Nat)(x:Str):Bool:=decide (X.N[m]? = some x)&&decide (X.env.scope.names.lookup x=some .local)
def lK (scX:Scope)(NX:List Str)(scope:Scope)(cap:List (Option Nat)):Bool:=
 decide (scope.kind=.function)&&(decide (∀ y∈scope.names,y.2=.local → scope.names.lookup y.1=some .local)&&(decide (∀ y∈scope.names,y.2≠.cell)&&(decide (∀ y∈scope.names,y.2=.free→scX.names.lookup y.1=some .cell∨scX.names.lookup y.1=some .free)
 && (decide (∀ y∈scope.names,y.2=.free→scope.names.lookup y.1=some .free)&&(decide (cap.length=(yU scope).length)&&(((cap.zip (yU scope)).all fun p=>match p.1 with|none=>true|some i=>NX[i]? == some p.2&&scope.names.lookup p.2 == some .free)&&decide (yU scope).Nodup))))))
def fnB (N P:List Str)(sc:Scope):Bool:=
 decide (sc.kind=.function)&&(decide (sc.isCoroutine=false)&&(decide (sc.isGenerator=false)&&(decide N.Nodup&&(decide (N.take P.length=P)&&(decide (∀ x∈P,sc.names.lookup x=some .local ∨ sc.names.lookup x=some .cell)&&decide (∀ y∈sc.names,y.2≠.free))))))
theorem d9 {scX:Scope}{NX:List Str}{scope:Scope}{cap:List (Option Nat)}(h:lK scX NX scope cap=true):CompSc scX NX scope (yU scope) cap:=by
 simp only[lK,Bool.and_eq_true,decide_eq_true_eq] at h
 obtain⟨a,b,c,d,e,f,g,k⟩:=h
 exact⟨a,b,c,d,e,f,g,k⟩
theorem oS {N P:List Str}{sc:Scope}(h:fnB N P sc=true):FnScope N P sc:=by
 simp only[fnB,Bool.and_eq_true,decide_eq_true_eq] at h
 obtain⟨a,b,c,d,e,f,g⟩:=h
 exact⟨a,b,c,d,e,f,g⟩
section
variable {X:Cx}{a b c e o elt tg iter:Expr}{ifs rest:List Expr}{f g:DS}{fa:DE}{f2:DI2}{dg:DG}{t:DT}{kk:DK}{gens grest:List Comprehension}{scope:Scope}{cap:List (Option Nat)}{mm:Bool}{l q:Nat}{y z:Str}{G2':G2}{es:List Expr}{fA:DA}{x:Str}{p pos:Pos}{cm:Bool}{k n m:Nat}{F:DF}
theorem JS {sc:Scope}(h:isV (sc.names.lookup x)=true):Vis sc x:=by
 unfold Vis
 revert h
 cases sc.names.lookup x with
 |none=>intro h;cases h
 |some y=>cases y <;> intro h <;> first|cases h;done|exact .inl rfl|exact .inr (.inl rfl)|exact .inr (.inr rfl)
theorem JQ {sc:Scope}(h:isL (sc.names.lookup x)=true):_L.Loc sc x:=by
 unfold _L.Loc
 revert h
 cases sc.names.lookup x with
 |none=>intro h;cases h
 |some y=>cases y <;> intro h <;> first|cases h;done|exact .inl rfl|exact .inr rfl
theorem m4 (h:okN x=true):(x == ("__debug__" : Str))=false∧(x == ("__classdict__" : Str))=false∧x ≠ "__name__":=by
 unfold okN at h
 rw[Bool.and_eq_true,Bool.and_eq_true] at h
 exact⟨by simpa using h.1,by simpa using h.2.1,by simpa using h.2.2⟩
theorem y0 (h:okG X x=true):Gl X x∧(x == ("__debug__" : Str))=false∧x ≠ "__name__":=by
 have h:=(Bool.and_eq_true _ _).mp h
 refine⟨?_,(m4 h.2).1,(m4 h.2).2.2⟩
 have z:=h.1
 unfold Gl
 revert z
 cases X.env.kindOf x with
 |none=>intro z;cases z
 |some y=>cases y <;> intro z <;> first|cases z;done|rfl
theorem sH (h:okT X m x=true):X.N[m]? = some x∧_L.Loc X.env.scope x∧X.N.Nodup∧(X.fn x=true∨X.env.scope.names.lookup x=some .local):=by
 simp only[okT,Bool.and_eq_true,decide_eq_true_eq,Bool.or_eq_true] at h
 exact⟨h.1,JQ h.2.1,h.2.2⟩
theorem y7 (h:okP X m x=true):X.N[m]? = some x∧X.env.scope.names.lookup x=some .local:=by
 simp only[okP,Bool.and_eq_true,decide_eq_true_eq] at h
 exact h
theorem V6 (h:Ck (okG X x)):Gl X x:=(y0 h).1
theorem aV (h:Ck (decide (X.N[m]? = some x)&&(isV (X.env.scope.names.lookup x)&&okN x))):QE X (.Name x pos) (qB m):=by
 unfold Ck at h
 simp only[Bool.and_eq_true,decide_eq_true_eq] at h
 exact MA m h.1 (JS h.2.1) (m4 h.2.2).1 (m4 h.2.2).2.1
theorem aBt {nm:String}(h:Ck (okG X x))(hm:X.mg x=none)(hb:Ck (okB (.type nm) x)):QE X (.Name x pos) (dC (.ty nm)):=
 have h:=y0 h
 G0 h.1 hm (of_decide_eq_true hb) h.2.2 h.2.1
theorem aCl {C:Addr}(h:Ck (okG X x))(hm:X.mg x=some (.ref C)∧PySem.W.keepIn X.K (.ref C)=true):QE X (.Name x pos) (dC (.obj C)):=
 have h:=y0 h
 M8 h.1 hm.1 hm.2 h.2.1
theorem aGi {v:Int}(h:Ck (okG X x))(hm:∃ t,X.mg x=some (.int v t)):QE X (.Name x pos) (dC (.int v)):=
 have h:=y0 h
 G4 h.1 hm h.2.1
abbrev St1 (X:Cx)(e:Expr)(es:List Expr)(pos:Pos):Prop:=starEach (e::es) X.env=(false,eval e X.env)::starEach es X.env∧(backTo pos (starEach es X.env)).any (·.1)=false
theorem aN (G:DfS F X.prog X.w X.K X.mg X.base cm k x n)(hr:RoomC cm k X.A)(hF:Fn1 X)(h:Ck (okG X x))(ha:QA X (e::es) fA)(s:St1 X e es pos):QE X (.Call (.Name x p) (e::es) [] pos) (qG n F fA):=
 have h:=y0 h
 qcN G.1 hr hF h.1 ha h.2.1 s.1 s.2
theorem aO (G:DfS F X.prog X.w X.K X.mg X.base cm k x n)(hr:RoomC cm k X.A)(h:Ck (okG X x))(ha:QA X (e::es) fA)(s:St1 X e es pos):QE X (.Call (.Name x p) (e::es) [] pos) (qG n (okO F) fA):=
 have h:=y0 h
 qcO G.1 hr h.1 ha h.2.1 s.1 s.2
theorem aB {id:String}(hc:ZCall X (.builtin id) F)(h:Ck (okG X x))(hm:X.mg x=none)(hb:Ck (okB (.builtin id) x))(ha:QA X (e::es) fA)(s:St1 X e es pos):QE X (.Call (.Name x p) (e::es) [] pos) (qD F fA):=
 have h:=y0 h
 Y9 hc h.1 hm (of_decide_eq_true hb) ha h.2.2 h.2.1 s.1 s.2
theorem aT {T:String}(hc:ZCall X (.type T) F)(h:Ck (okG X x))(hm:X.mg x=none)(hb:Ck (okB (.type T) x))(ha:QA X (e::es) fA)(s:St1 X e es pos):QE X (.Call (.Name x p) (e::es) [] pos) (qD F fA):=
 have h:=y0 h
 ZC hc h.1 hm (of_decide_eq_true hb) ha h.2.2 h.2.1 s.1 s.2
theorem aC (S:Ck (lK X.env.scope X.N scope cap))(hc:X.calm=true)(hi:QI2 X tg iter f2)(hg:∀ cl C ex s₀ H₀,QG (zA X (yU scope) scope cl C ex s₀ H₀) tg dg)(ht:∀ cl C ex s₀ H₀,QTs (zA X (yU scope) scope cl C ex s₀ H₀) ifs t)
  (has:∀ g',(⟨tg,iter,ifs,0⟩::grest:List Comprehension)[0+1]? = some g'→g'.is_async=0)
  (he:∀ cl C ex s₀ H₀,QK (zA X (yU scope) scope cl C ex s₀ H₀) (fun acc=>xU elt (⟨tg,iter,ifs,0⟩::grest) scope pos 0 acc (zA X (yU scope) scope cl C ex s₀ H₀).env) kk) (hs:∀ x,foldedSetIterable iter X.env x=pure x) :
  QE X (.ListComp elt (⟨tg,iter,ifs,0⟩::grest) scope pos) (qS mm cap f2 dg t kk):=YA hc (d9 S) hi hg ht has he hs
theorem aCs {py spos:Pos}(hsw:swapsWith (.ListComp elt (⟨tg,iter,ifs,0⟩::grest) scope pos) (some (.Name y py)) spos.line X.env=pure true)(S:Ck (lK X.env.scope X.N scope cap))(hN:Ck (okT X m y))(hc:X.calm=true)(hi:QI2 X tg iter f2)(hg:∀ cl C ex s₀ H₀,QG (zA X (yU scope) scope cl C ex s₀ H₀) tg dg)(ht:∀ cl C ex s₀ H₀,QTs (zA X (yU scope) scope cl C ex s₀ H₀) ifs t)
  (has:∀ g',(⟨tg,iter,ifs,0⟩::grest:List Comprehension)[0+1]? = some g'→g'.is_async=0)
  (he:∀ cl C ex s₀ H₀,QK (zA X (yU scope) scope cl C ex s₀ H₀) (fun acc=>xU elt (⟨tg,iter,ifs,0⟩::grest) scope pos 0 acc (zA X (yU scope) scope cl C ex s₀ H₀).env) kk) (hs:∀ x,foldedSetIterable iter X.env x=pure x) :
  QS X (.Assign [.Name y py] (.ListComp elt (⟨tg,iter,ifs,0⟩::grest) scope pos) spos) (zG (qS mm cap f2 dg t kk) (gNm m)):=
 have h:=sH hN
 YB hc h.2.2.1 (d9 S) hi hg ht has he h.1 h.2.1 h.2.2.2 hsw hs
theorem aNm (h:Ck (okT X m x)):QG X (.Name x pos) (gNm m):=
 have h:=sH h
 G6 h.2.2.1 h.1 h.2.1 h.2.2.2
theorem aSt {pos':Pos}(hs:swapsWith e (some (.Name x pos')) pos.line X.env=pure false)(he:QE X e fa)(h:Ck (okT X m x)):QS X (.Assign [.Name x pos'] e pos) (zG fa (gNm m)):=
 have h:=sH h
 MC h.2.2.1 he h.1 h.2.1 hs h.2.2.2
theorem aP2 {px py pt:Pos} {kt k2 pt2} (h:Ck (decide X.N.Nodup&&(okP X m x&&(okP X l y&&!decide (m=l))))) (hc:X.calm=true) (ha:QA X [a,b] fA)
  (hw:swappedStores [.Tuple [.Name x px,.Name y py] kt pt] (.Tuple [a,b] k2 pt2) X.env=pure (some [x,y])) (hs:swapsWithSole [.Tuple [.Name x px,.Name y py] kt pt] (.Tuple [a,b] k2 pt2) pos.line X.env=pure false) :
  QS X (.Assign [.Tuple [.Name x px,.Name y py] kt pt] (.Tuple [a,b] k2 pt2) pos) (pI m l fA):=by
 unfold Ck at h
 simp only[Bool.and_eq_true,decide_eq_true_eq,Bool.not_eq_true',decide_eq_false_iff_not] at h
 exact MB hc h.1 ha (y7 h.2.1).1 (y7 h.2.2.1).1 h.2.2.2 (y7 h.2.1).2 (y7 h.2.2.1).2 hw hs
theorem aP3 {px py pz pt:Pos} {kt k2 pt2} (h:Ck (decide X.N.Nodup&&(okP X m x&&(okP X l y&&(okP X q z&&(!decide (m=l)&&(!decide (m=q)&&!decide (l=q)))))))) (hc:X.calm=true) (ha:QA X [a,b,c] fA)
  (hw:swappedStores [.Tuple [.Name x px,.Name y py,.Name z pz] kt pt] (.Tuple [a,b,c] k2 pt2) X.env=pure (some [x,y,z])) (hs:swapsWithSole [.Tuple [.Name x px,.Name y py,.Name z pz] kt pt] (.Tuple [a,b,c] k2 pt2) pos.line X.env=pure false) :
  QS X (.Assign [.Tuple [.Name x px,.Name y py,.Name z pz] kt pt] (.Tuple [a,b,c] k2 pt2) pos) (mH m l q fA):=by
 unfold Ck at h
 simp only[Bool.and_eq_true,decide_eq_true_eq,Bool.not_eq_true',decide_eq_false_iff_not] at h
 obtain⟨h1,h2,h3,h4,h5,h6,h7⟩:=h
 exact G7 hc h1 ha (y7 h2).1 (y7 h3).1 (y7 h4).1 h5 h6 h7 (y7 h2).2 (y7 h3).2 (y7 h4).2 hw hs
theorem aRs {C:Addr}{np cpos:Pos}(h:Ck (okG X x))(hc:X.calm=true)(hF:Fn1 X)(hm:∃ Ae,X.mg x=some (.ref C)∧bK X.K C Ae=true)(ha:QA X (e::rest) fA)(s:St1 X e rest cpos) :
  QS X (.Raise (some (.Call (.Name x np) (e::rest) [] cpos)) none pos) (yS (.ref C) fA):=
 have h:=y0 h
 let ⟨_,hm,hx⟩:=hm
 YC hc hF h.1 hm hx ha h.2.1 s.1 s.2
theorem aTr {nm:Str}{body:List Stmt}{b₀:Stmt}{suite:List Stmt}{np hpos:Pos}{cs:List Value}(h:Ck (okG X x&&(okP X m nm&&(decide X.N.Nodup&&decide (X.N.length=n)))))(hF:Fn1 X)(hm:∃ C0,X.mg x=some (.ref C0)∧∀ c∈cs,PySem.W.exmOne X.K c (.ref C0)=some true)(hb:∀ E pn,ZPass (Cx.tryIn X E pn)→QB (Cx.tryIn X E pn) body f)(hs:∀ e,QB (Cx.suite X e) (b₀::suite) g) :
  QS X (.Try body [.ExceptHandler (some (.Name x np)) (some nm) (b₀::suite) hpos] [] [] pos) (bW n m cs f g):=by
 unfold Ck at h
 simp only[Bool.and_eq_true,decide_eq_true_eq] at h
 obtain⟨C0,hm,hcs⟩:=hm
 exact MD hF hb hs (y0 h.1).1 hm hcs h.2.2.1 (y7 h.2.1).1 (y7 h.2.1).2 (y0 h.1).2.1 h.2.2.2
theorem aTb {ie:Expr}{fi:DE}{Fs:List (Nat × DF)}{lp sp:Pos}(hr:RoomC cm k X.A)(T:ZTab X cm k es Fs)(hF:Fn1 X)(hl:Ck (decide (Fs.length≤lim)))(hi:QE X ie fi)(ha:QA X (e::rest) fA)(hs:uY ie)(s:St1 X e rest pos) :
  QE X (.Call (.Subscript (.List es lp) ie sp) (e::rest) [] pos) (mR Fs fi fA):=M9 T hr hF (of_decide_eq_true hl) hi ha hs s.1 s.2
theorem aZt {j:Nat}{Fs:List (Nat × DF)}(G:DfS F X.prog X.w X.K X.mg X.base cm j x n)(hj:j≤k)(h:Ck (okG X x))(t:ZTab X cm k es Fs):ZTab X cm k (.Name x p::es) ((n,F)::Fs):=
 have h:=y0 h
 XM (G.1.mono hj) h.1 h.2.1 t
end
structure TxS (K:PySem.W.Frag)(mg:Str→Option Value)(tp:Nat→Stmt)(tab:List (Str × Nat × List Str))(bl:List Str)(clt plt:List (Str × Addr))(cs:List Value)(exl:List Addr)(cst:List (Str × Int)):Prop where
 src:∀ (j:Nat) {x:Str} {i:Nat} {ps:List Str},tab[j]? = some (x,i,ps)→Src K mg x (tp i) ps
 nb:∀ {x:Str},Ck (bl.contains x)→mg x=none
 cl:∀ {x:Str} {C:Addr},clt.lookup x=some C→mg x=some (.ref C)∧PySem.W.keepIn K (.ref C)=true
 rz:∀ {x:Str} {C:Addr},plt.lookup x=some C→∃ Ae,mg x=some (.ref C)∧bK K C Ae=true
 ct:∃ C0,mg "FarError" = some (.ref C0)∧∀ c∈cs,PySem.W.exmOne K c (.ref C0)=some true
 cls:ClsK K exl
 gi:∀ {x:Str} {v:Int},cst.lookup x=some v→∃ t,mg x=some (.int v t)
end _D
end
section
namespace _D
open PySem PySem.Spec PyProof.Rows _L
section
variable {K:PySem.W.Frag}{mg:Str→Option Value}{cm:Bool}{tp:Nat→Stmt}{tab:List (Str × Nat × List Str)}{bl:List Str}{clt plt:List (Str × Addr)}{cs:List Value}{exl:List Addr}{cst:List (Str × Int)}{x:Str}{i m:Nat}{ps:List Str}{F:DF}{g:DS}
theorem dq (P:Program)(w:World)(base:Heap)(k j:Nat)(T:TxS K mg tp tab bl clt plt cs exl cst)(hj:tab[j]? = some (x,i,ps))(h:Ck (fnB (tF (qJ (tp i))) ps (qJ (tp i))&&decide ((tF (qJ (tp i))).length=m)))(hF:F=qQ m g)
  (hb:∀ (f:Addr) (cdv:Value) (A:Around) (outer:List Env) (s:Shared) (H:Hp) (E:XK),RoomC cm k (A.deeper (envOfC x (qJ (tp i)) s.heap.objs.size f cdv)) →
   QB (cxC cm P w K mg base (tF (qJ (tp i))) x (qJ (tp i)) f cdv A outer s H E) (x5 (tp i)) g):DfS F P w K mg base cm (k+1) x ps.length:=by
 unfold Ck at h
 simp only[Bool.and_eq_true,decide_eq_true_eq] at h
 obtain⟨h,rfl⟩:=h
 exact⟨hF▸LY (T.src j hj) (oS h) rfl hb⟩
theorem dqP {P:Program}{w:World}{base:Heap}(k j:Nat)(T:TxS K mg tp tab bl clt plt cs exl cst)(hj:tab[j]? = some (x,i,ps))(h:Ck (fnB (tF (qJ (tp i))) ps (qJ (tp i))&&decide ((tF (qJ (tp i))).length=m)))
  (hb:∀ (f:Addr) (cdv:Value) (A:Around) (outer:List Env) (s:Shared) (H:Hp) (E:XK),RoomC cm k (A.deeper (envOfC x (qJ (tp i)) s.heap.objs.size f cdv)) →
   QB (cxC cm P w K mg base (tF (qJ (tp i))) x (qJ (tp i)) f cdv A outer s H E) (x5 (tp i)) g):lT P w K mg base cm (k+1) x ps (qQ m g):=by
 unfold Ck at h
 simp only[Bool.and_eq_true,decide_eq_true_eq] at h
 obtain⟨h,rfl⟩:=h
 exact TV (T.src j hj) (oS h) rfl hb
end
theorem hv {a b:Prop}(f:a→b)(h:a):b:=f h
end _D
end
section
namespace _D
open PySem PySem.Spec PyProof.Rows _L
inductive SrcF (K:PySem.W.Frag)(x:Str)(st:Stmt)(ps:List Str):Prop
 |mk {f:Addr} {oc:Value} {od an:Option Addr} {osl:Array (Option Value)} {kV doc pm cdv ct:Value} (a:PySem.W.nsIn K mainGlobals x=some (some (.ref f)))
  (l:K.lookup f=some ⟨oc,od,.func (PySem.W.fnOf x x (yH st) (x5 st) (qJ st) .none kV doc pm an cdv ct),osl⟩) (c:PySem.W.codeIn K cdv x=true) (k:PySem.W.keepIn K (.ref f)=true):SrcF K x st ps
def cY (K:PySem.W.Frag)(tp:Nat→Stmt):List (Str × Nat × List Str)→Prop
 |[]=>True
 |(x,i,ps)::t=>SrcF K x (tp i) ps∧cY K tp t
def BdF (tp:Nat→Stmt):List (Str × Nat × List Str)→Prop
 |[]=>True
 |(x,i,ps)::t=>(∀ (kV doc pm:Value) (an:Option Addr) (cdv ct:Value) (us:List Value),us.length=ps.length→bindArgs (PySem.W.fnOf x x (yH (tp i)) (x5 (tp i)) (qJ (tp i)) .none kV doc pm an cdv ct) ⟨us,[]⟩=pure (ps.zip us))∧BdF tp t
def cU (K:PySem.W.Frag):List (Str × Addr)→Prop
 |[]=>True
 |(x,C)::t=>PySem.W.nsIn K mainGlobals x=some (some (.ref C))∧cU K t
def cV (K:PySem.W.Frag):List (Str × Int)→Prop
 |[]=>True
 |(x,v)::t=>(∃ k,PySem.W.nsIn K mainGlobals x=some (some (.int v k)))∧cV K t
def D4:Option (Option Value)→Bool
 |some none=>true
 |_=>false
section
variable {K:PySem.W.Frag}{h:Heap}{mg:Str→Option Value}{tp:Nat→Stmt}
theorem cO (X:K.In h)(G:h.Ns mainGlobals mg):∀ (tab:List (Str × Nat × List Str)),cY K tp tab→BdF tp tab→∀ (j:Nat) {x:Str} {i:Nat} {ps:List Str},tab[j]? = some (x,i,ps)→Src K mg x (tp i) ps
 |[],_,_,_,_,_,_,e=>by cases e
 |(x,i,ps)::t,H,B,0,_,_,_,e=>by
  cases e
  obtain⟨a,l,c,k⟩:=H.1
  exact ML X G a l c k B.1
 |(x,i,ps)::t,H,B,j+1,_,_,_,e=>cO X G t H.2 B.2 j e
theorem yD {β : Type}{p:Str→β→Prop}{x:Str}{C:β}:∀ {l:List (Str × β)},(∀ y∈l,p y.1 y.2)→l.lookup x=some C→p x C
 |[],_,e=>by cases e
 |(y,b)::t,H,e=>by
  rw[List.lookup_cons] at e
  cases q:x == y with
  |true =>
   rw[q] at e
   cases e
   rw[eq_of_beq q]
   exact H (y,_) (.head _)
  |false =>
   rw[q] at e
   exact yD (fun z hz=>H z (.tail _ hz)) e
theorem pM (X:K.In h)(G:h.Ns mainGlobals mg):∀ {l:List (Str × Addr)},cU K l→∀ y∈l,mg y.1=some (.ref y.2)
 |(x,C)::t,H,y,hy=>by
  rcases List.mem_cons.mp hy with rfl|hy
  ·exact PySem.W.mg_of X G H.1
  ·exact pM X G H.2 y hy
theorem eC (X:K.In h)(G:h.Ns mainGlobals mg):∀ {l:List (Str × Int)},cV K l→∀ y∈l,∃ k,mg y.1=some (.int y.2 k)
 |(x,C)::t,H,y,hy=>by
  rcases List.mem_cons.mp hy with rfl|hy
  ·obtain⟨k,e⟩:=H.1
   exact⟨k,PySem.W.mg_of X G e⟩
  ·exact eC X G H.2 y hy
theorem LB {tab:List (Str × Nat × List Str)}{bl:List Str}{clt plt:List (Str × Addr)}{cs:List Value}{exl:List Addr}{cst:List (Str × Int)}{far:Addr}(B:BdF tp tab)(hp:∀ y∈plt,y∈clt)(hf:clt.lookup ("FarError" : Str)=some far)(X:K.In h)(G:h.Ns mainGlobals mg)
  (s:cY K tp tab) (z:(bl.all fun x=>D4 (PySem.W.nsIn K mainGlobals x))=true) (q:cU K clt) (g:cV K cst) (e1:exl.all (d8 K)=true) (e2:W2 K=true) (e3:PF K exl=true) (e4:LX K cs far=true) (e5:LV K (plt.map (·.2)) far=true) (e6:LW K (clt.map (·.2))=true):TxS K mg tp tab bl clt plt cs exl cst where
 src:=cO X G tab s B
 nb:=fun {x} hx=>by
  have e:=List.all_eq_true.mp z x (by simpa using List.contains_iff_mem.mp hx)
  refine PySem.W.mg_none_of X G ?_
  revert e
  cases PySem.W.nsIn K mainGlobals x with
  |none=>intro e;cases e
  |some y=>cases y with
   |none=>intro _;rfl
   |some y=>intro e;cases e
 cl:=fun h=>⟨yD (p:=fun x C=>mg x=some (.ref C)) (pM X G q) h,yD (p:=fun _ C=>PySem.W.keepIn K (.ref C)=true) (fun y hy=>List.all_eq_true.mp e6 y.2 (List.mem_map_of_mem hy)) h⟩
 rz:=fun h=>⟨far,yD (p:=fun x C=>mg x=some (.ref C)) (fun y hy=>pM X G q y (hp y hy)) h,yD (p:=fun _ C=>bK K C far=true) (fun y hy=>List.all_eq_true.mp e5 y.2 (List.mem_map_of_mem hy)) h⟩
 ct:=⟨far,yD (p:=fun x C=>mg x=some (.ref C)) (pM X G q) hf,fun v hv=>of_decide_eq_true (List.all_eq_true.mp e4 v hv)⟩
 cls:=PH e1 e2 e3
 gi:=fun h=>yD (p:=fun x v=>∃ k,mg x=some (.int v k)) (eC X G g) h
end
theorem LE {q:Program}{loose:List Str}{XP:(Str→Option Value)→Heap→Prop}{r:PySem.W.RowW}{d:DefRec}{kwd:List (Str × Expr)}{run:Value→List Value→Sem Value}{K:Params→PySem.W.Frag}{as:List Addr}{n t:Nat}(e:∀ P,as=(K P).map (·.1))
  (h:PySem.W.WalkO q loose XP (fun w h=>(K w.params).In h) r d kwd run):PySem.W.WalkX q loose XP (PySem.W.X.obsZ as) (PySem.W.X.valZ K n t) r d kwd run:=
 fun w s₀ s₁ mg mb G Y a o pm cd doc dV kV h1 h2 h3 h4 h5 h6 args vals as' L=>h w s₀ s₁ mg mb G (PySem.W.InK.keeps w _ _ (PySem.W.X.z_facts e Y).2.1 L.keeps) a o pm cd doc dV kV h1 h2 h3 h4 h5 h6 args vals as'
end _D
end
section
namespace _D
open PySem
def Nx (o:Out)(Q:qE→Sto→Prop):Prop:=∃ env S,o=.nx env S∧Q env S
def Rt (o:Out)(Q:D→Sto→Prop):Prop:=∃ d S,o=.rt d S∧Q d S
def Ok {β : Type}(r:Res β)(Q:β→Sto→Prop):Prop:=∃ d S,r=.ok d S∧Q d S
theorem zZ {o:Out}{Q:qE→Sto→Prop}{env:qE}{S:Sto}(h:o=.nx env S)(q:Q env S):Nx o Q:=⟨env,S,h,q⟩
theorem iK {o:Out}{Q:D→Sto→Prop}{d:D}{S:Sto}(h:o=.rt d S)(q:Q d S):Rt o Q:=⟨d,S,h,q⟩
theorem zV {β : Type}{r:Res β}{Q:β→Sto→Prop}{d:β}{S:Sto}(h:r=.ok d S)(q:Q d S):Ok r Q:=⟨d,S,h,q⟩
theorem wZ {f g:DS}{env:qE}{S:Sto}{Q:qE→Sto→Prop}(h:Nx (f env S) fun env1 S1=>Nx (g env1 S1) Q):Nx (qN f g env S) Q:=by
 obtain⟨env1,S1,e,env2,S2,e2,q⟩:=h
 exact⟨env2,S2,by unfold qN;rw[e];exact e2,q⟩
theorem qV {f g:DS}{env:qE}{S:Sto}{Q:D→Sto→Prop}(h:Nx (f env S) fun env1 S1=>Rt (g env1 S1) Q):Rt (qN f g env S) Q:=by
 obtain⟨env1,S1,e,env2,S2,e2,q⟩:=h
 exact⟨env2,S2,by unfold qN;rw[e];exact e2,q⟩
theorem xG {t:DT}{f g:DS}{env:qE}{S S1:Sto}{b:Bool}{Q:qE→Sto→Prop}(h:t env S=.ok b S1)(k:Nx ((if b then f else g) env S1) Q):Nx (sIf t f g env S) Q:=by
 obtain⟨env2,S2,e2,q⟩:=k
 refine⟨env2,S2,?_,q⟩
 unfold sIf
 rw[h]
 cases b <;> exact e2
theorem vN {f:DE}{i:Nat}{env:qE}{S:Sto}{Q:qE→Sto→Prop}(h:Ok (f env S) fun d S1=>Q (env.set i (some d)) S1):Nx (zG f (gNm i) env S) Q:=by
 obtain⟨d,S1,e,q⟩:=h
 exact⟨_,S1,by unfold zG gNm;rw[e];rfl,q⟩
theorem xI {f:DE}{env:qE}{S:Sto}{Q:D→Sto→Prop}(h:Ok (f env S) Q):Rt (qW f env S) Q:=by
 obtain⟨d,S1,e,q⟩:=h
 exact⟨_,S1,by unfold qW;rw[e];rfl,q⟩
theorem fZ {fi:DI}{g:DG}{f:DS}{env:qE}{S S1:Sto}{ds:List D}{Q:qE→Sto→Prop}(h:fi env S=.ok ds S1)(k:Nx (wD g f ds env S1) Q):Nx (jF fi g f env S) Q:=by
 obtain⟨env2,S2,e2,q⟩:=k
 exact⟨env2,S2,by unfold jF;rw[h];exact e2,q⟩
theorem pX {g:DG}{f:DS}{Q:qE→Sto→Prop}(I:List D→qE→Sto→Prop)(turn:∀ d ds env S,I (d::ds) env S→∃ env1 S1,g d env S=.ok env1 S1∧Nx (f env1 S1) (I ds))(last:∀ env S,I [] env S→Q env S) :
  ∀ {ds:List D} {env:qE} {S:Sto},I ds env S→Nx (wD g f ds env S) Q
 |[],env,S,h=>⟨env,S,rfl,last env S h⟩
 |d::ds,env,S,h=>by
  obtain⟨env1,S1,e1,env2,S2,e2,h2⟩:=turn d ds env S h
  obtain⟨env3,S3,e3,q⟩:=pX I turn last (ds:=ds) h2
  refine⟨env3,S3,?_,q⟩
  unfold wD
  simp only[e1,Res.toS,e2]
  exact e3
theorem mY {o:Option (Nat × MO)}{g:DG}{t:DT}{k:DK}(out:D→List D)(C:qE→Sto→Prop)(hC:∀ env S,C env S→stn o S) :
  ∀ (items:List D) (env:qE) (S:Sto) (acc:List D),C env S→acc.length+(items.flatMap out).length≤lim →
  (∀ d∈items,∀ env S acc,C env S→acc.length+(out d).length≤lim→∃ env1 S1 b S2,g d env S=.ok env1 S1∧t env1 S1=.ok b S2∧((b=false∧out d=[]∧C env1 S2)∨(b=true∧∃ env3 S3,k env1 S2 acc=.ok (env3,acc++out d) S3∧C env3 S3))) →
  ∃ env' S',goL o g t k items env S acc=.ok (env',acc++items.flatMap out) S'∧C env' S'
 |[],env,S,acc,h,hl,_=>⟨env,S,by simp[goL,wV.mpr (hC _ _ h)],h⟩
 |d::ds,env,S,acc,h,hl,step=>by
  rw[List.flatMap_cons,List.length_append] at hl
  obtain⟨env1,S1,b,S2,e1,e2,r⟩:=step d (List.mem_cons_self ..) env S acc h (by omega)
  have hst:=wV.mpr (hC _ _ h)
  rcases r with⟨rfl,h0,h2⟩|⟨rfl,env3,S3,e3,h3⟩
  ·obtain⟨env',S',e,q⟩:=mY out C hC ds env1 S2 acc h2 (by omega) fun d hd=>step d (List.mem_cons_of_mem _ hd)
   refine⟨env',S',?_,q⟩
   simp only[goL,hst,if_true,e1,e2,Res.bind,Bool.false_eq_true,if_false,List.flatMap_cons,h0,List.nil_append]
   exact e
  ·obtain⟨env',S',e,q⟩:=mY out C hC ds env3 S3 (acc++out d) h3 (by rw[List.length_append];omega) fun d hd=>step d (List.mem_cons_of_mem _ hd)
   refine⟨env',S',?_,q⟩
   simp only[goL,hst,if_true,e1,e2,Res.bind,e3,List.flatMap_cons]
   rw[e,List.append_assoc]
theorem bP {fe:DE}{env:qE}{S S1:Sto}{acc:List D}{x:D}(h:fe env S=.ok x S1)(hl:acc.length<lim):qX fe env S acc=.ok (env,acc++[x]) S1:=by
 unfold qX
 rw[h]
 simp[Res.bind,hl]
theorem gV {cap:List (Option Nat)}{fi:DI2}{g:DG}{t:DT}{k:DK}{env env':qE}{S S1 S':Sto}{o:Option (Nat × MO)}{items ds:List D}(h:fi env S=.ok (o,items) S1)(e:goL o g t k items (xS cap env) S1 [] = .ok (env',ds) S'):qS false cap fi g t k env S=.ok (.lst ds) S':=by
 unfold qS
 rw[h]
 simp only[Res.bind,e,mkM]
 rfl
end _D
end
section
namespace _D
open PySem
theorem tQ {n:Nat}{f:DE}{ds:List D}{S S':Sto}{d:D}{env:qE}(hs:vX n ds=env)(h:f env S=.ok d S'):qQ n (qW f) ds S=.ok d S':=by
 subst hs
 unfold qQ qW
 rw[h]
 rfl
theorem jE {n:Nat}{g:DS}{ds:List D}{S S':Sto}{d:D}{env:qE}(hs:vX n ds=env)(h:g env S=.rt d S'):qQ n g ds S=.ok d S':=by
 subst hs
 unfold qQ
 rw[h]
 rfl
theorem pS {α β:Type}(sel:α→Bool)(val:α→β)(l:List α) : (l.flatMap fun d=>if sel d then [val d] else []) = (l.filter sel).map val:=by
 induction l with
 |nil=>rfl
 |cons d l ih =>
  rw[List.flatMap_cons,ih]
  cases h:sel d <;> simp[h]
section
variable {cap:List (Option Nat)}{fi:DI2}{g:DG}{t:DT}{fe:DE}{env:qE}{S S0:Sto}{o:Option (Nat × MO)}{items:List D}
theorem D2 (hst:stn o S)(sel:D→Bool)(val:D→D)(C:qE→Prop)(h0:C env)(hl:items.length≤lim)
  (step:∀ d∈items,∀ env,C env→∃ env1,g d env S=.ok env1 S∧C env1∧t env1 S=.ok (sel d) S∧(sel d=true→fe env1 S=.ok (val d) S)) :
  ∃ env',goL o g t (qX fe) items env S [] = .ok (env',(items.filter sel).map val) S:=by
 have lf:(items.flatMap fun d=>if sel d then [val d] else []).length≤lim:=by
  rw[pS,List.length_map]
  exact Nat.le_trans (List.length_filter_le _ _) hl
 obtain⟨env',S',e,_,q⟩:=mY (o:=o) (g:=g) (t:=t) (k:=qX fe) (fun d=>if sel d then [val d] else []) (fun env S'=>C env∧S'=S) (fun _ _ h=>h.2▸hst) items env S [] ⟨h0,rfl⟩ (by simpa using lf) (fun d hd env S' acc hC hl=>by
  obtain⟨hc,rfl⟩:=hC
  obtain⟨env1,e1,c1,e2,k⟩:=step d hd env hc
  refine⟨env1,S',sel d,S',e1,e2,?_⟩
  cases hs:sel d with
  |false=>exact .inl ⟨rfl,by simp,c1,rfl⟩
  |true =>
   refine .inr ⟨rfl,env1,S',?_,c1,rfl⟩
   simp only[if_true]
   exact bP (k hs) (by simp only[hs,if_true,List.length_singleton] at hl;omega))
 subst q
 refine⟨env',?_⟩
 rw[e,List.nil_append,pS]
theorem oB (h:fi env S=.ok (o,items) S)(hst:stn o S)(sel:D→Bool)(val:D→D)(C:qE→Prop)(h0:C (xS cap env))(hl:items.length≤lim)
  (step:∀ d∈items,∀ env,C env→∃ env1,g d env S=.ok env1 S∧C env1∧t env1 S=.ok (sel d) S∧(sel d=true→fe env1 S=.ok (val d) S)) :
  qS false cap fi g t (qX fe) env S=.ok (.lst ((items.filter sel).map val)) S:=by
 obtain⟨env',e⟩:=D2 hst sel val C h0 hl step
 exact gV h e
end
end _D
end
section
namespace _D
open PySem
theorem goT {α : Type}{enc:α→D}{o:Option (Nat × MO)}{g:DG}{t:DT}{k:DK}(out:α→List D)(C:qE→Sto→Prop)(hC:∀ env S,C env S→stn o S) :
  ∀ (xs:List α) (env:qE) (S:Sto) (acc:List D),C env S→acc.length+(xs.flatMap out).length≤lim →
  (∀ x∈xs,∀ env S acc,C env S→acc.length+(out x).length≤lim→∃ env1 S1 b S2,g (enc x) env S=.ok env1 S1∧t env1 S1=.ok b S2∧((b=false∧out x=[]∧C env1 S2)∨(b=true∧∃ env3 S3,k env1 S2 acc=.ok (env3,acc++out x) S3∧C env3 S3))) →
  ∃ env' S',goL o g t k (xs.map enc) env S acc=.ok (env',acc++xs.flatMap out) S'∧C env' S'
 |[],env,S,acc,h,hl,_=>⟨env,S,by simp[goL,wV.mpr (hC _ _ h)],h⟩
 |x::xs,env,S,acc,h,hl,step=>by
  rw[List.flatMap_cons,List.length_append] at hl
  obtain⟨env1,S1,b,S2,e1,e2,r⟩:=step x (List.mem_cons_self ..) env S acc h (by omega)
  have hst:=wV.mpr (hC _ _ h)
  rcases r with⟨rfl,h0,h2⟩|⟨rfl,env3,S3,e3,h3⟩
  ·obtain⟨env',S',e,q⟩:=goT out C hC xs env1 S2 acc h2 (by omega) fun d hd=>step d (List.mem_cons_of_mem _ hd)
   refine⟨env',S',?_,q⟩
   simp only[List.map_cons,goL,hst,if_true,e1,e2,Res.bind,Bool.false_eq_true,if_false,List.flatMap_cons,h0,List.nil_append]
   exact e
  ·obtain⟨env',S',e,q⟩:=goT out C hC xs env3 S3 (acc++out x) h3 (by rw[List.length_append];omega) fun d hd=>step d (List.mem_cons_of_mem _ hd)
   refine⟨env',S',?_,q⟩
   simp only[List.map_cons,goL,hst,if_true,e1,e2,Res.bind,e3,List.flatMap_cons]
   rw[e,List.append_assoc]
section
variable {α β:Type}{enc:α→D}{enc2:β→D}{cap:List (Option Nat)}{fi:DI2}{g:DG}{t:DT}{fe:DE}{env:qE}{S S0:Sto}{o:Option (Nat × MO)}{xs:List α}
theorem N8 (hst:stn o S)(sel:α→Bool)(val:α→D)(C:qE→Prop)(h0:C env)(hl:xs.length≤lim)
  (step:∀ x∈xs,∀ env,C env→∃ env1,g (enc x) env S=.ok env1 S∧C env1∧t env1 S=.ok (sel x) S∧(sel x=true→fe env1 S=.ok (val x) S)) :
  ∃ env',goL o g t (qX fe) (xs.map enc) env S [] = .ok (env',(xs.filter sel).map val) S:=by
 have lf:(xs.flatMap fun d=>if sel d then [val d] else []).length≤lim:=by
  rw[pS,List.length_map]
  exact Nat.le_trans (List.length_filter_le _ _) hl
 obtain⟨env',S',e,_,q⟩:=goT (enc:=enc) (o:=o) (g:=g) (t:=t) (k:=qX fe) (fun d=>if sel d then [val d] else []) (fun env S'=>C env∧S'=S) (fun _ _ h=>h.2▸hst) xs env S [] ⟨h0,rfl⟩ (by simpa using lf) (fun d hd env S' acc hC hl=>by
  obtain⟨hc,rfl⟩:=hC
  obtain⟨env1,e1,c1,e2,k⟩:=step d hd env hc
  refine⟨env1,S',sel d,S',e1,e2,?_⟩
  cases hs:sel d with
  |false=>exact .inl ⟨rfl,by simp,c1,rfl⟩
  |true =>
   refine .inr ⟨rfl,env1,S',?_,c1,rfl⟩
   simp only[if_true]
   exact bP (k hs) (by simp only[hs,if_true,List.length_singleton] at hl;omega))
 subst q
 refine⟨env',?_⟩
 rw[e,List.nil_append,pS]
theorem pN (h:fi env S=.ok (o,xs.map enc) S)(hst:stn o S)(sel:α→Bool)(val:α→D)(C:qE→Prop)(h0:C (xS cap env))(hl:xs.length≤lim)
  (step:∀ x∈xs,∀ env,C env→∃ env1,g (enc x) env S=.ok env1 S∧C env1∧t env1 S=.ok (sel x) S∧(sel x=true→fe env1 S=.ok (val x) S)) :
  qS false cap fi g t (qX fe) env S=.ok (.lst ((xs.filter sel).map val)) S:=by
 obtain⟨env',e⟩:=N8 hst sel val C h0 hl step
 exact gV h e
end
end _D
end
section
namespace _D
open PySem
theorem qU {o:G2}{f g:DE}{env:qE}{S S1 S2:Sto}{a b:D}(h1:f env S=.ok a S1)(h2:g env S1=.ok b S2):d2 o f g env S=o a b S2:=by
 unfold d2
 rw[h1]
 simp only[Res.bind]
 rw[h2]
theorem vH {F:DF}{f1:DE}{env:qE}{S S1:Sto}{a:D}(h1:f1 env S=.ok a S1):qG 1 F (qA f1 (qC)) env S=F [a] S1:=by
 simp only[qG,qA,qC,h1,Res.bind,List.length_cons,List.length_nil,if_true]
theorem vI {F:DF}{f1 f2:DE}{env:qE}{S S1 S2:Sto}{a b:D}(h1:f1 env S=.ok a S1)(h2:f2 env S1=.ok b S2):qG 2 F (qA f1 (qA f2 (qC))) env S=F [a,b] S2:=by
 simp only[qG,qA,qC,h1,h2,Res.bind,List.length_cons,List.length_nil,if_true]
theorem V2 {F:DF}{f1 f2 f3:DE}{env:qE}{S S1 S2 S3:Sto}{a b c:D}(h1:f1 env S=.ok a S1)(h2:f2 env S1=.ok b S2)(h3:f3 env S2=.ok c S3):qG 3 F (qA f1 (qA f2 (qA f3 (qC)))) env S=F [a,b,c] S3:=by
 simp only[qG,qA,qC,h1,h2,h3,Res.bind,List.length_cons,List.length_nil,if_true]
theorem xW {F:DF}{f1:DE}{env:qE}{S S1:Sto}{a:D}(h1:f1 env S=.ok a S1):qD F (qA f1 (qC)) env S=F [a] S1:=by
 simp only[qD,qA,qC,h1,Res.bind]
theorem o6 {F:DF}{f1 f2:DE}{env:qE}{S S1 S2:Sto}{a b:D}(h1:f1 env S=.ok a S1)(h2:f2 env S1=.ok b S2):qD F (qA f1 (qA f2 (qC))) env S=F [a,b] S2:=by
 simp only[qD,qA,qC,h1,h2,Res.bind]
theorem wW {f:DE}{env:qE}{S S1:Sto}{b:Bool}(h:f env S=.ok (.bl b) S1):dTr f env S=.ok b S1:=by
 unfold dTr
 rw[h]
 rfl
theorem jA {f:DT}{env:qE}{S S1:Sto}{b:Bool}(h:f env S=.ok b S1):zQ f env S=.ok (!b) S1:=by
 unfold zQ
 rw[h]
 rfl
theorem vP {f g:DT}{env:qE}{S S1 S2:Sto}{a b:Bool}(h:f env S=.ok a S1)(k:a=false→g env S1=.ok b S2)(e:a=true→S1=S2):w8 f g env S=.ok (a||b) S2:=by
 unfold w8
 rw[h]
 cases a with
 |true=>cases e rfl;rfl
 |false=>exact k rfl
theorem lW {f g:DE}{env:qE}{S S1 S2:Sto}{a b:Bool}(h:f env S=.ok (.bl a) S1)(k:a=true→g env S1=.ok (.bl b) S2)(e:a=false→S1=S2):yN f g env S=.ok (.bl (a&&b)) S2:=by
 unfold yN
 rw[h]
 cases a with
 |false=>cases e rfl;rfl
 |true=>exact k rfl
theorem wK {f1:DE}{env:qE}{S S1:Sto}{a:D}(h1:f1 env S=.ok a S1):qA f1 (qC) env S=.ok [a] S1:=by
 simp only[qA,qC,h1,Res.bind]
theorem zS {f1 f2:DE}{env:qE}{S S1 S2:Sto}{a b:D}(h1:f1 env S=.ok a S1)(h2:f2 env S1=.ok b S2):qA f1 (qA f2 (qC)) env S=.ok [a,b] S2:=by
 simp only[qA,qC,h1,h2,Res.bind]
theorem qZ {f:DE}{g:DA}{env:qE}{S S1 S2:Sto}{a:D}{as:List D}(h:f env S=.ok a S1)(k:g env S1=.ok as S2):qA f g env S=.ok (a::as) S2:=by
 simp only[qA,h,k,Res.bind]
theorem xY {g:DA}{env:qE}{S S1:Sto}{as:List D}(k:g env S=.ok as S1)(h:as.length≤lim):zM g env S=.ok (.lst as) S1:=by
 simp only[zM,k,Res.bind,h,if_true]
theorem zU {g:DA}{env:qE}{S S1:Sto}{as:List D}(k:g env S=.ok as S1)(h:as.length≤lim):qY g env S=.ok (.tup as) S1:=by
 simp only[qY,k,Res.bind,h,if_true]
theorem xC {env:qE}{i:Nat}{d:D}{S:Sto}(h:env[i]? = some (some d)):qB i env S=.ok d S:=by simp only[qB,h]
theorem vA {α : Type}(l:List α) : l.filter (fun _=>true)=l:=by simp
theorem o3 {α : Type}(p:α→Bool)(l:List α) : xL (l.map fun x=>D.bl (p x))=some (l.map p):=by
 induction l with
 |nil=>rfl
 |cons x l ih =>
  show (xL (l.map fun x=>D.bl (p x))).map (p x::·)=_
  rw[ih];rfl
theorem lV {α : Type}{f:DE}{env:qE}{S S1:Sto}{l:List α}{p:α→Bool}(h:f env S=.ok (.lst (l.map fun x=>D.bl (p x))) S1):qD (u8 false) (qA f (qC)) env S=.ok (.bl (l.all p)) S1:=by
 rw[xW h]
 show (match (xB (.lst (l.map fun x=>D.bl (p x)))).bind xL with|some bs=>Res.ok (D.bl (bs.all id)) S1|none=>.bad)=_
 rw[show (xB (.lst (l.map fun x=>D.bl (p x)))).bind xL=some (l.map p) from o3 p l]
 simp only[List.all_map]
 rfl
theorem sF {i j:Nat}{f1 f2:DE}{env:qE}{S S1 S2:Sto}{a b:D}{Q:qE→Sto→Prop}(h1:f1 env S=.ok a S1)(h2:f2 env S1=.ok b S2)(q:Q ((env.set i (some a)).set j (some b)) S2):Nx (pI i j (qA f1 (qA f2 (qC))) env S) Q:=by
 unfold pI
 rw[zS h1 h2]
 exact zZ rfl q
theorem zP {f:DE}{g:DG}{env env1:qE}{S S1 S2:Sto}{d:D}{Q:qE→Sto→Prop}(h1:f env S=.ok d S1)(h2:g d env S1=.ok env1 S2)(q:Q env1 S2):Nx (zG f g env S) Q:=by
 unfold zG
 rw[h1]
 simp only[Res.toS]
 rw[h2]
 exact zZ rfl q
theorem jD {t:DT}{f g:DS}{env:qE}{S S1:Sto}{b:Bool}{Q:D→Sto→Prop}(h:t env S=.ok b S1)(k:Rt ((if b then f else g) env S1) Q):Rt (sIf t f g env S) Q:=by
 unfold sIf
 rw[h]
 cases b <;> exact k
end _D
end
section
namespace _K
open PySem _D
theorem SG (b:Bool)(S:Sto):xO (.bl b) S=some b:=rfl
theorem SC (i:Int)(S:Sto):xO (.int i) S=some (i != 0):=rfl
theorem MW (i:Int)(S:Sto):tyD (.int i) S=some "int":=rfl
theorem SN (b:Bool)(S:Sto):tyD (.bl b) S=some "bool":=rfl
theorem SI (S:Sto):tyD .non S=some "NoneType":=rfl
theorem SJ (x:Str)(S:Sto):tyD (.str x) S=some "str":=rfl
theorem SK (x:List D)(S:Sto):tyD (.tup x) S=some "tuple":=rfl
theorem SH (x:List D)(S:Sto):tyD (.lst x) S=some "list":=rfl
theorem S9 (x:List D):xB (.tup x)=some x:=rfl
theorem S8 (x:List D):xB (.lst x)=some x:=rfl
theorem KL (d:D)(S:Sto):vQ (.rt d S)=.ok d S:=rfl
theorem SB (e:qE)(S:Sto):vQ (.nx e S)=.ok .non S:=rfl
theorem SA (c:Value)(x:D)(e:qE)(S:Sto):vQ (.ex c x e S)=.ex c x S:=rfl
theorem DB (i j:Nat)(env:qE)(S:Sto)(x y:D):sN i j env S [x,y]=.nx ((env.set i (some x)).set j (some y)) S:=rfl
theorem LG (i j k:Nat)(env:qE)(S:Sto)(x y z:D):hX i j k env S [x,y,z]=.nx (((env.set i (some x)).set j (some y)).set k (some z)) S:=rfl
theorem SE (C:Int→Int→Bool)(f:Int→Int→D)(i j:Int)(S:Sto):i2 C f (.int i) (.int j) S=if C i j=true then .ok (f i j) S else .bad:=rfl
theorem JJ (b:Bool)(S:Sto):dI [.bl b] S=.ok (.int (b01 b)) S:=rfl
theorem kB {xs:List D}{k:Int}{d:D}(h:_L.atI xs k=some d)(S:Sto):gIx (.lst xs) (.int k) S=.ok d S:=by
 show _D.v7 (_L.atI xs k) S=_
 rw[h]
 rfl
end _K
end
open PySem _D _K
section
namespace _K
open PySem PySem.Spec PyProof.Rows _L _D
def top (i:Nat):Stmt:=PySem.Challenge.pw_fewdistances_k12_lots_moved_and_turned.main.body.getD i (.Pass ⟨0,0,0,0⟩)
structure Cl where
 (FarError NoPoint NoLot NoNumber NoCircle NoMarks NoFars NoText NoLine NoDeed Alike TooMany:Addr)
def xM (c:Cl):List Addr:=[c.NoPoint,c.NoLot,c.NoNumber,c.NoCircle,c.NoMarks,c.NoFars,c.NoText,c.NoLine,c.NoDeed,c.Alike,c.TooMany]
def vJ (c:Cl):List Value:=[.ref c.NoPoint,.ref c.NoLot,.ref c.NoNumber,.ref c.NoCircle,.ref c.NoMarks,.ref c.NoFars,.ref c.NoText,.ref c.NoLine,.ref c.NoDeed]
abbrev clt (c:Cl):List (Str × Addr):=[("FarError",c.FarError),("NoPoint",c.NoPoint),("NoLot",c.NoLot),("NoNumber",c.NoNumber),("NoCircle",c.NoCircle),("NoMarks",c.NoMarks),("NoFars",c.NoFars),("NoText",c.NoText),("NoLine",c.NoLine),("NoDeed",c.NoDeed),("Alike",c.Alike),("TooMany",c.TooMany)]
abbrev plt (c:Cl):List (Str × Addr):=[("NoPoint",c.NoPoint),("NoLot",c.NoLot),("NoNumber",c.NoNumber),("NoCircle",c.NoCircle),("NoMarks",c.NoMarks),("NoFars",c.NoFars),("NoText",c.NoText),("NoLine",c.NoLine),("NoDeed",c.NoDeed)]
abbrev cst:List (Str × Int):=[("LEAST_NUMBER",-1000),("MOST_NUMBER",1000),("MOST_POINTS",40)]
abbrev bl:List Str:=["ValueError","all","bool","int","isinstance","len","list","max","min","range","repr","set","sorted","str","tuple","zip"]
abbrev tab:List (Str × Nat × List Str):=[("is_whole",14,["thing"]),("is_within",15,["thing","least","most"]),("is_rising",16,["some"]),("need_number",17,["thing"]),("is_point",22,["thing"]),("is_lot",23,["thing"]),("need_point",24,["thing"]),("need_lot",25,["thing"]),("moved",27,["lot","across","up"]),("turned_about",28,["lot"]),("mirrored",29,["lot"]),("_law_cell",31,["_law_script","_law_k"]),("_law_pen",32,["_law_cell_here"]),("_law_draw",33,["_law_pen_here","_law_many"]),("_law_whole",34,["_law_thing"]),("_law_same",35,["_law_found","_law_due"]),("_law_kind_of",36,["_law_e"]),("_law_no_whole",37,["_law_pen_here"]),("_law_point",38,["_law_pen_here","_law_wide"]),("_law_lot",39,["_law_pen_here","_law_most"]),("_law_is_point",40,["_law_thing"]),("_law_is_lot",41,["_law_thing"]),("_law_no_point",42,["_law_pen_here","_law_point_here"]),("_law_no_lot",43,["_law_pen_here","_law_lot_here"]),("_law_came",44,["_law_way","_law_lot_here","_law_across","_law_up"]),("_law_moved",45,["_law_lot_here","_law_across","_law_up"]),("law",46,["_law_script"])]
abbrev Txt (K:PySem.W.Frag)(mg:Str→Option Value)(c:Cl):Prop:=TxS K mg top tab bl (clt c) (plt c) (vJ c) (xM c) cst
@[reducible] noncomputable def b_is_whole:DS:=qW (yN (qD zD (qA (qB 0) (qA (dC (.ty "int")) (qC)))) (aJ (qD zD (qA (qB 0) (qA (dC (.ty "bool")) (qC))))))
@[irreducible] noncomputable def S_is_whole:DF:=sh (qQ 1 b_is_whole)
theorem uS:S_is_whole=qQ 1 b_is_whole:=by delta S_is_whole;exact x0 _
@[reducible] noncomputable def b_is_within:DS:=qW (yN (qG 1 S_is_whole (qA (qB 0) (qC))) (xH gLe gLe (qB 1) (qB 0) (qB 2)))
@[irreducible] noncomputable def S_is_within:DF:=sh (qQ 3 b_is_within)
theorem u7:S_is_within=qQ 3 b_is_within:=by delta S_is_within;exact x0 _
@[reducible] noncomputable def b_is_rising:DS:=qW (qD (u8 false) (qA (qS false [none,none] (wJ (gW (qA (qB 0) (qA (dSl (qB 0) (z9 (dC (.int 1))) (zK)) (qC))))) (gTp 2 (qM (gNm 0) (qM (gNm 1) (zR)))) (zH) (qX (d2 bL (qB 0) (qB 1)))) (qC)))
@[irreducible] noncomputable def S_is_rising:DF:=sh (qQ 1 b_is_rising)
theorem jY:S_is_rising=qQ 1 b_is_rising:=by delta S_is_rising;exact x0 _
@[reducible] noncomputable def b_need_number (c:Cl):DS:=sIf (zQ (dTr (qG 1 S_is_whole (qA (qB 0) (qC))))) (yS (.ref c.NoNumber) (qA (dC (.str "a whole number is needed")) (qC))) (zI)
@[irreducible] noncomputable def S_need_number (c:Cl):DF:=sh (qQ 1 (b_need_number c))
theorem yW (c:Cl):S_need_number c=qQ 1 (b_need_number c):=by delta S_need_number;exact x0 _
@[reducible] noncomputable def b_is_point:DS:=qN (sIf (w8 (zQ (dTr (qD zD (qA (qB 0) (qA (dC (.ty "tuple")) (qC)))))) (dTr (d2 gNe (qD zT (qA (qB 0) (qC))) (dC (.int 2))))) (qW (dC (.bl false))) (zI)) (qW (qD (u8 false) (qA (qS false [none] (dIt (qB 0)) (gNm 0) (zH) (qX (qG 3 (okO S_is_within) (qA (qB 0) (qA (dC (.int (-1000))) (qA (dC (.int (1000))) (qC))))))) (qC))))
@[irreducible] noncomputable def S_is_point:DF:=sh (qQ 1 b_is_point)
theorem gJ:S_is_point=qQ 1 b_is_point:=by delta S_is_point;exact x0 _
@[reducible] noncomputable def b_is_lot:DS:=qN (sIf (w8 (zQ (dTr (qD zD (qA (qB 0) (qA (dC (.ty "tuple")) (qC)))))) (zQ (dTr (xH gLe gLe (dC (.int 1)) (qD zT (qA (qB 0) (qC))) (dC (.int (40))))))) (qW (dC (.bl false))) (zI)) (qW (yN (qD (u8 false) (qA (qS false [none] (dIt (qB 0)) (gNm 0) (zH) (qX (qG 1 (okO S_is_point) (qA (qB 0) (qC))))) (qC))) (qG 1 S_is_rising (qA (qB 0) (qC)))))
@[irreducible] noncomputable def S_is_lot:DF:=sh (qQ 1 b_is_lot)
theorem b9:S_is_lot=qQ 1 b_is_lot:=by delta S_is_lot;exact x0 _
@[reducible] noncomputable def b_need_point (c:Cl):DS:=sIf (zQ (dTr (qG 1 S_is_point (qA (qB 0) (qC))))) (yS (.ref c.NoPoint) (qA (dC (.str "a point is needed")) (qC))) (zI)
@[irreducible] noncomputable def S_need_point (c:Cl):DF:=sh (qQ 1 (b_need_point c))
theorem jL (c:Cl):S_need_point c=qQ 1 (b_need_point c):=by delta S_need_point;exact x0 _
@[reducible] noncomputable def b_need_lot (c:Cl):DS:=sIf (zQ (dTr (qG 1 S_is_lot (qA (qB 0) (qC))))) (yS (.ref c.NoLot) (qA (dC (.str "a lot is needed")) (qC))) (zI)
@[irreducible] noncomputable def S_need_lot (c:Cl):DF:=sh (qQ 1 (b_need_lot c))
theorem gK (c:Cl):S_need_lot c=qQ 1 (b_need_lot c):=by delta S_need_lot;exact x0 _
@[reducible] noncomputable def b_moved (c:Cl):DS:=qN (w6 (qG 1 (S_need_lot c) (qA (qB 0) (qC)))) (qN (w6 (qG 1 (S_need_number c) (qA (qB 1) (qC)))) (qN (w6 (qG 1 (S_need_number c) (qA (qB 2) (qC)))) (qN (zG (qD xX (qA (qS false [none,none,some 1,some 2] (dIt (qB 0)) (gTp 2 (qM (gNm 0) (qM (gNm 1) (zR)))) (zH) (qX (qY (qA (d2 qT (qB 0) (qB 2)) (qA (d2 qT (qB 1) (qB 3)) (qC)))))) (qC))) (gNm 3)) (qN (jF (yP (qB 3)) (gNm 4) (w6 (qG 1 (S_need_point c) (qA (qB 4) (qC))))) (qW (qB 3))))))
@[irreducible] noncomputable def S_moved (c:Cl):DF:=sh (qQ 5 (b_moved c))
theorem vF (c:Cl):S_moved c=qQ 5 (b_moved c):=by delta S_moved;exact x0 _
@[reducible] noncomputable def b_turned_about (c:Cl):DS:=qN (w6 (qG 1 (S_need_lot c) (qA (qB 0) (qC)))) (qW (qD xX (qA (qD wL (qA (qS false [none,none] (dIt (qB 0)) (gTp 2 (qM (gNm 0) (qM (gNm 1) (zR)))) (zH) (qX (qY (qA (d1 yZ (qB 1)) (qA (qB 0) (qC)))))) (qC))) (qC))))
@[irreducible] noncomputable def S_turned_about (c:Cl):DF:=sh (qQ 1 (b_turned_about c))
theorem yM (c:Cl):S_turned_about c=qQ 1 (b_turned_about c):=by delta S_turned_about;exact x0 _
@[reducible] noncomputable def b_mirrored (c:Cl):DS:=qN (w6 (qG 1 (S_need_lot c) (qA (qB 0) (qC)))) (qW (qD xX (qA (qD wL (qA (qS false [none,none] (dIt (qB 0)) (gTp 2 (qM (gNm 0) (qM (gNm 1) (zR)))) (zH) (qX (qY (qA (qB 1) (qA (qB 0) (qC)))))) (qC))) (qC))))
@[irreducible] noncomputable def S_mirrored (c:Cl):DF:=sh (qQ 1 (b_mirrored c))
theorem uT (c:Cl):S_mirrored c=qQ 1 (b_mirrored c):=by delta S_mirrored;exact x0 _
@[reducible] noncomputable def b__law_cell:DS:=qN (sIf (dTr (d2 gLt (qB 1) (qD zT (qA (qB 0) (qC))))) (qW (d2 gIx (qB 0) (qB 1))) (zI)) (qW (dC (.int 0)))
@[irreducible] noncomputable def S__law_cell:DF:=sh (qQ 2 b__law_cell)
theorem jW:S__law_cell=qQ 2 b__law_cell:=by delta S__law_cell;exact x0 _
@[reducible] noncomputable def b__law_pen:DS:=qW (aI (qA (qB 0) (qA (qD dI (qA (d2 gGe (qB 0) (d2 gX (dC (.int 10)) (dC (.int 18)))) (qC))) (qC))))
@[irreducible] noncomputable def S__law_pen:DF:=sh (qQ 1 b__law_pen)
theorem gI:S__law_pen=qQ 1 b__law_pen:=by delta S__law_pen;exact x0 _
@[reducible] noncomputable def b__law_draw:DS:=qN (sIf (dTr (d2 gEq (d2 gIx (qB 0) (dC (.int 1))) (dC (.int 1)))) (qN (zG (d2 yY (d2 gIx (qB 0) (dC (.int 0))) (qB 1)) (gNm 2)) (qN (zG (d2 yO (d2 gIx (qB 0) (dC (.int 0))) (qB 1)) (gSb (qB 0) (dC (.int 0)) uJ)) (qW (qB 2)))) (zI)) (qN (zG (d2 yY (d2 qT (d2 w5 (d2 yY (d2 gIx (qB 0) (dC (.int 0))) (dC (.int 2147483629))) (dC (.int 48271))) (dC (.int 11))) (dC (.int 2147483629))) (gSb (qB 0) (dC (.int 0)) uJ)) (qW (d2 yY (d2 yO (d2 yY (d2 qT (d2 w5 (d2 gIx (qB 0) (dC (.int 0))) (d2 gIx (qB 0) (dC (.int 0)))) (d2 w5 (dC (.int 40692)) (d2 gIx (qB 0) (dC (.int 0))))) (dC (.int 2147483647))) (dC (.int 8))) (qB 1))))
@[irreducible] noncomputable def S__law_draw:DF:=sh (qQ 3 b__law_draw)
theorem jX:S__law_draw=qQ 3 b__law_draw:=by delta S__law_draw;exact x0 _
@[reducible] noncomputable def b__law_whole:DS:=qW (yN (qD zD (qA (qB 0) (qA (dC (.ty "int")) (qC)))) (aJ (qD zD (qA (qB 0) (qA (dC (.ty "bool")) (qC))))))
@[irreducible] noncomputable def S__law_whole:DF:=sh (qQ 1 b__law_whole)
theorem vE:S__law_whole=qQ 1 b__law_whole:=by delta S__law_whole;exact x0 _
@[reducible] noncomputable def b__law_same (S__law_same:DF):DS:=qN (sIf (dTr (d2 gIs (qB 1) (dC .non))) (qW (d2 gIs (qB 0) (dC .non))) (zI)) (qN (sIf (w8 (dTr (qD zD (qA (qB 1) (qA (dC (.ty "tuple")) (qC))))) (dTr (qD zD (qA (qB 1) (qA (dC (.ty "list")) (qC)))))) (qN (sIf (w8 (dTr (d2 gNe (qD zD (qA (qB 0) (qA (dC (.ty "tuple")) (qC)))) (qD zD (qA (qB 1) (qA (dC (.ty "tuple")) (qC)))))) (dTr (d2 gNe (qD zD (qA (qB 0) (qA (dC (.ty "list")) (qC)))) (qD zD (qA (qB 1) (qA (dC (.ty "list")) (qC))))))) (qW (dC (.bl false))) (zI)) (qN (sIf (dTr (d2 gNe (qD zT (qA (qB 0) (qC))) (qD zT (qA (qB 1) (qC))))) (qW (dC (.bl false))) (zI)) (qN (jF (gW (qA (qB 0) (qA (qB 1) (qC)))) (gTp 2 (qM (gNm 2) (qM (gNm 3) (zR)))) (sIf (zQ (dTr (qG 2 S__law_same (qA (qB 2) (qA (qB 3) (qC)))))) (qW (dC (.bl false))) (zI))) (qW (dC (.bl true)))))) (zI)) (qN (sIf (dTr (qD zD (qA (qB 1) (qA (dC (.ty "str")) (qC))))) (qW (yN (qD zD (qA (qB 0) (qA (dC (.ty "str")) (qC)))) (d2 gEq (qB 0) (qB 1)))) (zI)) (qW (yN (d2 gEq (qD zD (qA (qB 0) (qA (dC (.ty "bool")) (qC)))) (qD zD (qA (qB 1) (qA (dC (.ty "bool")) (qC))))) (yN (qD zD (qA (qB 0) (qA (dC (.ty "int")) (qC)))) (d2 gEq (qB 0) (qB 1)))))))
noncomputable def gF:Nat→DF
 |0=>fun _ _=>.bad
 |n+1=>qQ 4 (b__law_same (gF n))
@[irreducible] noncomputable def S__law_same:DF:=sh (gF 4)
theorem u4:S__law_same=gF 4:=by delta S__law_same;exact x0 _
@[reducible] noncomputable def b__law_kind_of (c:Cl):DS:=qN (zG (zM (qA (qD (zY (xM c)) (qA (qB 0) (qA (dC (.obj c.NoPoint)) (qC)))) (qA (qD (zY (xM c)) (qA (qB 0) (qA (dC (.obj c.NoLot)) (qC)))) (qA (qD (zY (xM c)) (qA (qB 0) (qA (dC (.obj c.NoNumber)) (qC)))) (qA (qD (zY (xM c)) (qA (qB 0) (qA (dC (.obj c.NoCircle)) (qC)))) (qC)))))) (gNm 1)) (qN (zG (d2 qT (qB 1) (zM (qA (qD (zY (xM c)) (qA (qB 0) (qA (dC (.obj c.NoMarks)) (qC)))) (qA (qD (zY (xM c)) (qA (qB 0) (qA (dC (.obj c.NoFars)) (qC)))) (qA (qD (zY (xM c)) (qA (qB 0) (qA (dC (.obj c.NoText)) (qC)))) (qA (qD (zY (xM c)) (qA (qB 0) (qA (dC (.obj c.NoLine)) (qC)))) (qC))))))) (gNm 1)) (qN (zG (d2 qT (qB 1) (zM (qA (qD (zY (xM c)) (qA (qB 0) (qA (dC (.obj c.NoDeed)) (qC)))) (qA (qD (zY (xM c)) (qA (qB 0) (qA (dC (.obj c.Alike)) (qC)))) (qA (qD (zY (xM c)) (qA (qB 0) (qA (dC (.obj c.TooMany)) (qC)))) (qC)))))) (gNm 1)) (qN (sIf (w8 (zQ (dTr (qD (zY (xM c)) (qA (qB 0) (qA (dC (.ty "ValueError")) (qC)))))) (dTr (d2 gNe (dBm "list" fK (qB 1) (qA (dC (.bl true)) (qC))) (dC (.int 1))))) (qW (dC (.str "other"))) (zI)) (qN (sIf (dTr (qD (zY (xM c)) (qA (qB 0) (qA (dC (.obj c.Alike)) (qC))))) (qW (zM (qA (dC (.str "alike")) (qA (gU) (qA (gU) (qA (gU) (qA (gU) (qC)))))))) (zI)) (qN (sIf (dTr (qD (zY (xM c)) (qA (qB 0) (qA (dC (.obj c.TooMany)) (qC))))) (qW (zM (qA (dC (.str "many")) (qA (gU) (qA (gU) (qC)))))) (zI)) (qN (zG (zM (qA (dC (.str "point")) (qA (dC (.str "lot")) (qA (dC (.str "number")) (qA (dC (.str "circle")) (qA (dC (.str "marks")) (qA (dC (.str "fars")) (qA (dC (.str "text")) (qA (dC (.str "line")) (qA (dC (.str "deed")) (qC))))))))))) (gNm 2)) (qW (d2 gIx (qB 2) (dBm "list" fL (qB 1) (qA (dC (.bl true)) (qC)))))))))))
@[irreducible] noncomputable def S__law_kind_of (c:Cl):DF:=sh (qQ 3 (b__law_kind_of c))
theorem wH (c:Cl):S__law_kind_of c=qQ 3 (b__law_kind_of c):=by delta S__law_kind_of;exact x0 _
@[reducible] noncomputable def b__law_no_whole:DS:=qW (d2 gIx (zM (qA (dC .non) (qA (dC (.str "0")) (qA (dC (.bl true)) (qA (dC (.bl false)) (qA (qY (qA (dC (.int 0)) (qC))) (qA (zM (qA (dC (.int 0)) (qC))) (qA (uU) (qC))))))))) (qG 2 S__law_draw (qA (qB 0) (qA (dC (.int 7)) (qC)))))
@[irreducible] noncomputable def S__law_no_whole:DF:=sh (qQ 1 b__law_no_whole)
theorem uO:S__law_no_whole=qQ 1 b__law_no_whole:=by delta S__law_no_whole;exact x0 _
@[reducible] noncomputable def b__law_point:DS:=qW (qY (qA (d2 x9 (qG 2 S__law_draw (qA (qB 0) (qA (d2 qT (d2 w5 (dC (.int 2)) (qB 1)) (dC (.int 1))) (qC)))) (qB 1)) (qA (d2 x9 (qG 2 S__law_draw (qA (qB 0) (qA (d2 qT (d2 w5 (dC (.int 2)) (qB 1)) (dC (.int 1))) (qC)))) (qB 1)) (qC))))
@[irreducible] noncomputable def S__law_point:DF:=sh (qQ 2 b__law_point)
theorem jK:S__law_point=qQ 2 b__law_point:=by delta S__law_point;exact x0 _
@[reducible] noncomputable def b__law_lot:DS:=qN (pI 2 3 (qA (qG 2 S__law_draw (qA (qB 0) (qA (dC (.int 7)) (qC)))) (qA (d2 qT (dC (.int 1)) (qG 2 S__law_draw (qA (qB 0) (qA (qB 1) (qC))))) (qC)))) (qN (zG (qY (qA (d2 gIx (zM (qA (dC (.int 1)) (qA (dC (.int 2)) (qA (dC (.int 4)) (qA (dC (.int 12)) (qA (dC (.int 1000)) (qC))))))) (qG 2 S__law_draw (qA (qB 0) (qA (dC (.int 5)) (qC))))) (qA (qG 2 S__law_point (qA (qB 0) (qA (dC (.int 400)) (qC)))) (qC)))) (gTp 2 (qM (gNm 4) (qM (gNm 5) (zR))))) (qN (zG (d2 qT (dC (.int 1)) (qG 2 S__law_draw (qA (qB 0) (qA (dC (.int 9)) (qC))))) (gNm 6)) (qN (zG (qS false [none,some 0,some 4] (wJ (vK (qA (qB 3) (qC)))) (gNm 0) (zH) (qX (qG 2 (okO S__law_point) (qA (qB 1) (qA (qB 2) (qC)))))) (gNm 7)) (qN (sIf (dTr (d2 gEq (qB 2) (dC (.int 0)))) (zG (qS false [none,some 5] (wJ (vK (qA (qB 3) (qC)))) (gNm 0) (zH) (qX (qY (qA (d2 qT (d2 gIx (qB 1) (dC (.int 0))) (d2 yY (qB 0) (dC (.int 4)))) (qA (d2 qT (d2 gIx (qB 1) (dC (.int 1))) (d2 yO (qB 0) (dC (.int 4)))) (qC)))))) (gNm 7)) (zI)) (qN (sIf (dTr (d2 gEq (qB 2) (dC (.int 1)))) (zG (qS false [none,some 5,some 6] (wJ (vK (qA (qB 3) (qC)))) (gNm 0) (zH) (qX (qY (qA (d2 qT (d2 gIx (qB 1) (dC (.int 0))) (d2 w5 (qB 2) (qB 0))) (qA (d2 x9 (d2 gIx (qB 1) (dC (.int 1))) (qB 0)) (qC)))))) (gNm 7)) (zI)) (qN (sIf (dTr (d2 gEq (qB 2) (dC (.int 2)))) (qN (zG (dSl (qB 7) (zK) (z9 (d2 qT (dC (.int 1)) (d2 yO (qB 3) (dC (.int 4)))))) (gNm 8)) (qN (zG (d2 qT (d2 qT (qB 8) (qS false [none,none] (dIt (qB 8)) (gTp 2 (qM (gNm 0) (qM (gNm 1) (zR)))) (zH) (qX (qY (qA (d2 x9 (dC (.int 0)) (qB 1)) (qA (qB 0) (qC))))))) (qS false [none,none] (dIt (qB 8)) (gTp 2 (qM (gNm 0) (qM (gNm 1) (zR)))) (zH) (qX (qY (qA (d2 x9 (dC (.int 0)) (qB 0)) (qA (d2 x9 (dC (.int 0)) (qB 1)) (qC))))))) (gNm 7)) (zG (d2 qT (qB 7) (qS false [none,none] (dIt (qB 8)) (gTp 2 (qM (gNm 0) (qM (gNm 1) (zR)))) (zH) (qX (qY (qA (qB 1) (qA (d2 x9 (dC (.int 0)) (qB 0)) (qC))))))) (gNm 7)))) (zI)) (qW (qD xX (qA (yB (dSl (qB 7) (zK) (z9 (qB 3)))) (qC))))))))))
@[irreducible] noncomputable def S__law_lot:DF:=sh (qQ 9 b__law_lot)
theorem gH:S__law_lot=qQ 9 b__law_lot:=by delta S__law_lot;exact x0 _
@[reducible] noncomputable def b__law_is_point:DS:=qN (sIf (w8 (zQ (dTr (qD zD (qA (qB 0) (qA (dC (.ty "tuple")) (qC)))))) (dTr (d2 gNe (qD zT (qA (qB 0) (qC))) (dC (.int 2))))) (qW (dC (.bl false))) (zI)) (qW (qD (u8 false) (qA (qS false [none] (dIt (qB 0)) (gNm 0) (zH) (qX (yN (qG 1 (okO S__law_whole) (qA (qB 0) (qC))) (xH gLe gLe (d1 yZ (dC (.int 1000))) (qB 0) (dC (.int 1000)))))) (qC))))
@[irreducible] noncomputable def S__law_is_point:DF:=sh (qQ 1 b__law_is_point)
theorem uM:S__law_is_point=qQ 1 b__law_is_point:=by delta S__law_is_point;exact x0 _
@[reducible] noncomputable def b__law_is_lot:DS:=qN (sIf (w8 (zQ (dTr (qD zD (qA (qB 0) (qA (dC (.ty "tuple")) (qC)))))) (w8 (zQ (dTr (xH gLe gLe (dC (.int 1)) (qD zT (qA (qB 0) (qC))) (dC (.int 40))))) (zQ (dTr (qD (u8 false) (qA (qS false [none] (dIt (qB 0)) (gNm 0) (zH) (qX (qG 1 (okO S__law_is_point) (qA (qB 0) (qC))))) (qC))))))) (qW (dC (.bl false))) (zI)) (qW (d2 gEq (qD pR (qA (qB 0) (qC))) (yB (qB 0))))
@[irreducible] noncomputable def S__law_is_lot:DF:=sh (qQ 1 b__law_is_lot)
theorem j2:S__law_is_lot=qQ 1 b__law_is_lot:=by delta S__law_is_lot;exact x0 _
@[reducible] noncomputable def b__law_no_point:DS:=qN (pI 2 3 (qA (qG 2 S__law_draw (qA (qB 0) (qA (dC (.int 12)) (qC)))) (qA (qG 2 S__law_draw (qA (qB 0) (qA (dC (.int 2)) (qC)))) (qC)))) (qN (zG (d2 gIx (zM (qA (dC (.int 1001)) (qA (d1 yZ (dC (.int 1001))) (qA (dC (.bl true)) (qA (dC (.bl false)) (qA (dC .non) (qA (dC (.str "0")) (qA (qY (qA (dC (.int 0)) (qC))) (qA (d2 gX (dC (.int 10)) (dC (.int 29))) (qA (zM (qA (dC (.int 0)) (qC))) (qA (uU) (qC)))))))))))) (qG 2 S__law_draw (qA (qB 0) (qA (dC (.int 10)) (qC))))) (gNm 4)) (qN (zG (d2 qT (d2 qT (dSl (qB 1) (zK) (z9 (qB 3))) (qY (qA (qB 4) (qC)))) (dSl (qB 1) (z9 (d2 qT (qB 3) (dC (.int 1)))) (zK))) (gNm 5)) (qN (zG (zM (qA (qB 5) (qA (qB 5) (qA (qB 5) (qA (qB 5) (qA (dSl (qB 1) (zK) (z9 (dC (.int 1)))) (qA (d2 qT (qB 1) (qY (qA (dC (.int 0)) (qC)))) (qA (qD pR (qA (qB 1) (qC))) (qA (dC .non) (qA (dC (.int 7)) (qA (dC (.str "0,0")) (qC)))))))))))) (gNm 6)) (qW (d2 gIx (d2 qT (qB 6) (zM (qA (uU) (qA (qY (qA (qB 1) (qC))) (qC))))) (qB 2))))))
@[irreducible] noncomputable def S__law_no_point:DF:=sh (qQ 7 b__law_no_point)
theorem uN:S__law_no_point=qQ 7 b__law_no_point:=by delta S__law_no_point;exact x0 _
@[reducible] noncomputable def b__law_no_lot:DS:=qN (pI 2 3 (qA (qG 2 S__law_draw (qA (qB 0) (qA (dC (.int 14)) (qC)))) (qA (qG 2 S__law_draw (qA (qB 0) (qA (qD zT (qA (qB 1) (qC))) (qC)))) (qC)))) (qN (zG (d2 qT (d2 qT (dSl (qB 1) (zK) (z9 (qB 3))) (qY (qA (qG 2 S__law_no_point (qA (qB 0) (qA (d2 gIx (qB 1) (qB 3)) (qC)))) (qC)))) (dSl (qB 1) (z9 (d2 qT (qB 3) (dC (.int 1)))) (zK))) (gNm 4)) (qN (zG (zM (qA (qB 4) (qA (qB 4) (qA (qD pR (qA (qB 1) (qC))) (qA (pQ (qB 1) (d1 yZ (dC (.int 1)))) (qA (d2 qT (qB 1) (dSl (qB 1) (z9 (d1 yZ (dC (.int 1)))) (zK))) (qA (d2 qT (dSl (qB 1) (zK) (z9 (d2 qT (qB 3) (dC (.int 1))))) (dSl (qB 1) (z9 (qB 3)) (zK))) (qA (qY (qC)) (qA (dC .non) (qA (dC (.int 7)) (qA (dC (.str "0,0")) (qA (uU) (qC))))))))))))) (gNm 5)) (qN (zG (qD xX (qA (qS false [none] (wJ (vK (qA (dC (.int 41)) (qC)))) (gNm 0) (zH) (qX (qY (qA (d2 yO (qB 0) (dC (.int 8))) (qA (d2 yY (qB 0) (dC (.int 8))) (qC)))))) (qC))) (gNm 6)) (qN (zG (d2 gIx (d2 qT (qB 5) (zM (qA (qY (qA (qB 1) (qC))) (qA (qB 6) (qA (d2 gIx (qB 1) (dC (.int 0))) (qC)))))) (qB 2)) (gNm 7)) (qW (dIf (dTr (qG 1 S__law_is_lot (qA (qB 7) (qC)))) (qY (qC)) (qB 7)))))))
@[irreducible] noncomputable def S__law_no_lot:DF:=sh (qQ 8 b__law_no_lot)
theorem j3:S__law_no_lot=qQ 8 b__law_no_lot:=by delta S__law_no_lot;exact x0 _
@[reducible] noncomputable def b__law_came (c:Cl):DS:=bW 5 4 (vJ c) (qW (dIf (dTr (d2 gEq (qB 0) (dC (.int 0)))) (qG 3 (S_moved c) (qA (qB 1) (qA (qB 2) (qA (qB 3) (qC))))) (mR [(1,(S_turned_about c)),(1,(S_mirrored c))] (d2 x9 (qB 0) (dC (.int 1))) (qA (qB 1) (qC))))) (qW (qG 1 (S__law_kind_of c) (qA (qB 4) (qC))))
@[irreducible] noncomputable def S__law_came (c:Cl):DF:=sh (qQ 5 (b__law_came c))
theorem u0 (c:Cl):S__law_came c=qQ 5 (b__law_came c):=by delta S__law_came;exact x0 _
@[reducible] noncomputable def b__law_moved:DS:=qN (zG (qD xX (qA (qD wL (qA (qS false [none,none,some 1,some 2] (dIt (qB 0)) (gTp 2 (qM (gNm 0) (qM (gNm 1) (zR)))) (zH) (qX (qY (qA (d2 qT (qB 0) (qB 2)) (qA (d2 qT (qB 1) (qB 3)) (qC)))))) (qC))) (qC))) (gNm 3)) (qW (dIf (dTr (qG 1 S__law_is_lot (qA (qB 3) (qC)))) (qB 3) (dC (.str "point"))))
@[irreducible] noncomputable def S__law_moved:DF:=sh (qQ 4 b__law_moved)
theorem jJ:S__law_moved=qQ 4 b__law_moved:=by delta S__law_moved;exact x0 _
@[reducible] noncomputable def b_law (c:Cl):DS:=qN (jF (yP (d2 qT (zM (qA (qG 2 S__law_cell (qA (qB 0) (qA (dC (.int 0)) (qC)))) (qC))) (dSl (qB 0) (z9 (dC (.int 1))) (z9 (dC (.int 6)))))) (gNm 1) (qN (zG (qG 1 S__law_pen (qA (qB 1) (qC))) (gNm 2)) (qN (zG (qG 2 S__law_lot (qA (qB 2) (qA (dC (.int 40)) (qC)))) (gNm 3)) (qN (mH 4 5 6 (qA (qD jN (qA (qB 3) (qC))) (qA (qD fG (qA (qS false [none,none] (dIt (qB 3)) (gTp 2 (qM (gNm 0) (qM (gNm 1) (zR)))) (zH) (qX (qB 0))) (qC))) (qA (qD fH (qA (qS false [none,none] (dIt (qB 3)) (gTp 2 (qM (gNm 0) (qM (gNm 1) (zR)))) (zH) (qX (qB 1))) (qC))) (qC))))) (qN (zG (zM (qA (qY (qA (dC (.int 0)) (qA (dC (.int 0)) (qC)))) (qA (qY (qA (d2 x9 (dC (.int 1000)) (qB 5)) (qA (d2 x9 (d1 yZ (dC (.int 1000))) (qB 6)) (qC)))) (qA (qY (qA (d2 x9 (dC (.int 1001)) (qB 5)) (qA (dC (.int 0)) (qC)))) (qA (qY (qA (dC (.int 0)) (qA (d2 x9 (d1 yZ (dC (.int 1001))) (qB 6)) (qC)))) (qA (qY (qA (d2 gX (dC (.int 10)) (dC (.int 29))) (qA (dC (.int 0)) (qC)))) (qC))))))) (gNm 7)) (qN (jF (yP (d2 qT (qB 7) (zM (qA (qG 2 S__law_point (qA (qB 2) (qA (dC (.int 9)) (qC)))) (qA (qG 2 S__law_point (qA (qB 2) (qA (dC (.int 1500)) (qC)))) (qC)))))) (gTp 2 (qM (gNm 8) (qM (gNm 9) (zR)))) (jF (vK (qA (dC (.int 2)) (qC))) (gNm 10) (qN (zG (qG 3 S__law_moved (qA (qB 3) (qA (qB 8) (qA (qB 9) (qC))))) (gNm 11)) (sIf (w8 (zQ (dTr (qG 2 S__law_same (qA (qG 4 (S__law_came c) (qA (dC (.int 0)) (qA (qB 3) (qA (qB 8) (qA (qB 9) (qC)))))) (qA (qB 11) (qC)))))) (dTr (d2 gNe (qD jN (qA (qB 3) (qC))) (qB 4)))) (qW (dC (.bl false))) (zI))))) (qN (zG (zM (qA (qD xX (qA (qD wL (qA (qS false [none,none] (dIt (qB 3)) (gTp 2 (qM (gNm 0) (qM (gNm 1) (zR)))) (zH) (qX (qY (qA (d2 x9 (dC (.int 0)) (qB 1)) (qA (qB 0) (qC)))))) (qC))) (qC))) (qA (qD xX (qA (qD wL (qA (qS false [none,none] (dIt (qB 3)) (gTp 2 (qM (gNm 0) (qM (gNm 1) (zR)))) (zH) (qX (qY (qA (qB 1) (qA (qB 0) (qC)))))) (qC))) (qC))) (qC)))) (gNm 11)) (qN (sIf (w8 (zQ (dTr (qG 2 S__law_same (qA (zM (qA (qG 4 (S__law_came c) (qA (dC (.int 1)) (qA (qB 3) (qA (dC (.int 0)) (qA (dC (.int 0)) (qC)))))) (qA (qG 4 (S__law_came c) (qA (dC (.int 2)) (qA (qB 3) (qA (dC (.int 0)) (qA (dC (.int 0)) (qC)))))) (qC)))) (qA (qB 11) (qC)))))) (dTr (d2 gNe (qD jN (qA (qB 3) (qC))) (qB 4)))) (qW (dC (.bl false))) (zI)) (qN (zG (qY (qA (qG 2 S__law_no_lot (qA (qB 2) (qA (qB 3) (qC)))) (qA (qG 1 S__law_no_whole (qA (qB 2) (qC))) (qC)))) (gTp 2 (qM (gNm 12) (qM (gNm 13) (zR))))) (qN (sIf (dTr (d2 gNe (qS false [none,some 12,some 13] (wJ (vK (qA (dC (.int 3)) (qC)))) (gNm 0) (zH) (qX (qG 4 (okO (S__law_came c)) (qA (qB 0) (qA (qB 1) (qA (qB 2) (qA (qB 2) (qC)))))))) (d2 kW (zM (qA (dC (.str "lot")) (qC))) (dC (.int 3))))) (qW (dC (.bl false))) (zI)) (sIf (dTr (d2 gNe (zM (qA (qG 4 (S__law_came c) (qA (dC (.int 0)) (qA (qB 3) (qA (qB 13) (qA (dC (.int 0)) (qC)))))) (qA (qG 4 (S__law_came c) (qA (dC (.int 0)) (qA (qB 3) (qA (dC (.int 5000)) (qA (qB 13) (qC)))))) (qA (qG 4 (S__law_came c) (qA (dC (.int 0)) (qA (qB 3) (qA (qB 13) (qA (qB 13) (qC)))))) (qC))))) (d2 kW (zM (qA (dC (.str "number")) (qC))) (dC (.int 3))))) (qW (dC (.bl false))) (zI)))))))))))) (qW (dC (.bl true)))
end _K
end
section
namespace _K
open PySem _D
theorem pT (i j:Int)(S:Sto):gEq (.int i) (.int j) S=.ok (.bl (decide (i=j))) S:=by kernel_rfl!
theorem eM (i j:Int)(S:Sto):gNe (.int i) (.int j) S=.ok (.bl (decide (i≠j))) S:=by
 have h:gNe (.int i) (.int j) S=.ok (.bl (!decide (i=j))) S:=by kernel_rfl!
 rw[h,← decide_not]
theorem kD (i j:Int)(S:Sto)(h : -(2 ^ 64)<i∧i<2 ^ 64):w5 (.int i) (.int j) S=.ok (.int (i*j)) S:=by
 unfold w5 i2
 rw[d0]
 unfold lZ
 simp only[h,and_self,decide_true,Bool.true_or,if_true]
theorem wF (i j:Int)(S:Sto):qT (.int i) (.int j) S=.ok (.int (i+j)) S:=rfl
theorem yX {xs ys:List D}(h:xs.length+ys.length≤lim)(S:Sto):qT (.lst xs) (.lst ys) S=.ok (.lst (xs++ys)) S:=if_pos h
theorem SM {S:Sto}{j:Nat}{xs:List D}(h:S[j]? = some (.lst xs)):tyD (.loc j) S=some "list":=by
 show (match S[j]? with|some (.lst _)=>some "list" | some (.dct _)=>some "dict" | _=>none)=_
 rw[h]
theorem SD {S:Sto}{j:Nat}{xs:List D}(h:S[j]? = some (.lst xs))(hl:xs.length<lim)(d:D):JL (.loc j) [d] S=.ok .non (S.set j (.lst (xs++[d]))):=by
 show (match S[j]? with|some (.lst xs)=>(if xs.length<lim then Res.ok D.non (S.set j (.lst (xs++[d]))) else .bad)|_=>.bad)=_
 rw[h]
 exact if_pos hl
theorem kE (d:D)(b a:String)(S:Sto)(ho:uC b=true)(h:tyD d S=some a):zD [d,.ty b] S=.ok (.bl (xP a b)) S:=by
 unfold zD
 simp[ho,h]
theorem dU (xs:List D)(S:Sto):zT [.lst xs] S=.ok (.int xs.length) S:=rfl
theorem bR (xs:List D)(S:Sto):zT [.tup xs] S=.ok (.int xs.length) S:=rfl
theorem uZ:uC "int" = true∧uC "bool" = true∧uC "tuple" = true∧uC "list" = true∧uC "str" = true:=kd
theorem GG:xP "int" "tuple" = false∧xP "int" "list" = false∧xP "int" "str" = false∧xP "int" "bool" = false∧xP "int" "int" = true∧xP "tuple" "tuple" = true∧xP "tuple" "list" = false∧xP "list" "tuple" = false∧xP "list" "list" = true:=kd
theorem u9 (i j:Int)(S:Sto)(h:0<j):yY (.int i) (.int j) S=.ok (.int (i % j)) S:=by
 unfold yY i2
 simp[h]
theorem kA (i j:Int)(S:Sto)(h:0<j∧j<1073741824):yO (.int i) (.int j) S=.ok (.int (i/j)) S:=by
 unfold yO i2 P8
 simp[h]
def xR (d:D):Prop:=∀ S,tyD d S=some "NoneType" ∨ tyD d S=some "bool" ∨ tyD d S=some "str" ∨ tyD d S=some "tuple" ∨ tyD d S=some "list" ∨ tyD d S=some "dict"
theorem kK (i:Int)(S:Sto):S_is_whole [.int i] S=.ok (.bl true) S:=by
 rw[uS]
 kernel_rfl!
theorem gN (d:D)(S:Sto)(h:xR d):S_is_whole [d] S=.ok (.bl false) S:=by
 rw[uS]
 unfold b_is_whole
 rcases h S with h|h|h|h|h|h <;> simp[qQ,vX,KL,SB,SA,qN,sIf,qW,zI,w6,zG,gNm,gSb,gTp,qM,zR,pI,DB,mH,LG,dC,qB,d1,d2,qA,qC,qD,qG,dTr,zQ,w8,zH,yN,aJ,dIf,xH,qY,zM,aI,dBm,dSl,z9,zK,yP,vK,Res.bind,Res.toS,_D.vV,_D.v7,SG,SC,MW,SN,SI,SJ,SK,SH,S9,S8,SE,gLt,gLe,gGt,gGe,_D.x9,SL,kE _ _ _ _ uZ.1 h,kE _ _ _ _ uZ.2.1 h,xP]
theorem YI (i a b:Int)(S:Sto):S_is_within [.int i,.int a,.int b] S=.ok (.bl (decide (a≤i∧i≤b))) S:=by
 rw[u7]
 unfold b_is_within
 simp[qQ,vX,KL,SB,SA,qN,sIf,qW,zI,w6,zG,gNm,gSb,gTp,qM,zR,pI,DB,mH,LG,dC,qB,d1,d2,qA,qC,qD,qG,dTr,zQ,w8,zH,yN,aJ,dIf,xH,qY,zM,aI,dBm,dSl,z9,zK,yP,vK,Res.bind,Res.toS,_D.vV,_D.v7,SG,SC,MW,SN,SI,SJ,SK,SH,S9,S8,SE,gLt,gLe,gGt,gGe,_D.x9,SL,kK]
 by_cases h:a≤i <;> simp[h,KL]
theorem rX (d:D)(a b:Int)(S:Sto)(h:xR d):S_is_within [d,.int a,.int b] S=.ok (.bl false) S:=by
 rw[u7]
 unfold b_is_within
 simp[qQ,vX,KL,SB,SA,qN,sIf,qW,zI,w6,zG,gNm,gSb,gTp,qM,zR,pI,DB,mH,LG,dC,qB,d1,d2,qA,qC,qD,qG,dTr,zQ,w8,zH,yN,aJ,dIf,xH,qY,zM,aI,dBm,dSl,z9,zK,yP,vK,Res.bind,Res.toS,_D.vV,_D.v7,SG,SC,MW,SN,SI,SJ,SK,SH,S9,S8,SE,gLt,gLe,gGt,gGe,_D.x9,SL,gN d S h]
theorem QP:xR .non:=fun _=>.inl rfl
theorem i3 (b:Bool):xR (.bl b):=fun _=>.inr (.inl rfl)
theorem QQ (x:Str):xR (.str x):=fun _=>.inr (.inr (.inl rfl))
theorem QR (x:List D):xR (.tup x):=fun _=>.inr (.inr (.inr (.inl rfl)))
theorem QN (x:List D):xR (.lst x):=fun _=>.inr (.inr (.inr (.inr (.inl rfl))))
theorem QM:xR .dct0:=fun _=>.inr (.inr (.inr (.inr (.inr rfl))))
def xE (S:Sto)(p:Nat):Prop:=∃ v f:Int,S[p]? = some (.lst [.int v,.int f])
theorem dP (p:Nat)(k:Int)(xs:List D)(d:D)(S:Sto)(h:S[p]? = some (.lst xs))(hk:_L.atI xs k=some d):gIx (.loc p) (.int k) S=.ok d S:=by
 show (match S[p]? with|some (.lst xs)=>_D.v7 (_L.atI xs k) S|_=>.bad)=_
 rw[h]
 show _D.v7 (_L.atI xs k) S=_
 rw[hk]
 rfl
theorem VM (v f:Int):_L.atI [D.int v,D.int f] 0=some (.int v):=rfl
theorem NQ (v f:Int):_L.atI [D.int v,D.int f] 1=some (.int f):=rfl
theorem hZ (p:Nat)(v f w:Int)(S:Sto)(h:S[p]? = some (.lst [.int v,.int f])):uJ (.loc p) (.int 0) (.int w) S=.ok () (S.set p (.lst [.int w,.int f])):=by
 simp[uJ,mX,h,_L.ixN]
theorem MF (S:Sto)(p:Nat)(m:Int)(h:xE S p)(hm:0<m∧m<1073741824):∃ r v f:Int,S__law_draw [.loc p,.int m] S=.ok (.int r) (S.set p (.lst [.int v,.int f]))∧0≤r∧r<m:=by
 obtain⟨v,f,hp⟩:=h
 have hpl:=(List.getElem?_eq_some_iff.mp hp).1
 have g0:=dP p 0 _ _ S hp (VM v f)
 have g1:=dP p 1 _ _ S hp (NQ v f)
 rw[jX]
 unfold b__law_draw
 by_cases hf:f=1
 ·refine⟨v % m,v/m,f,?_,Int.emod_nonneg _ (by omega),Int.emod_lt_of_pos _ hm.1⟩
  subst hf
  simp[qQ,vX,KL,SB,SA,qN,sIf,qW,zI,w6,zG,gNm,gSb,gTp,qM,zR,pI,DB,mH,LG,dC,qB,d1,d2,qA,qC,qD,qG,dTr,zQ,w8,zH,yN,aJ,dIf,xH,qY,zM,aI,dBm,dSl,z9,zK,yP,vK,Res.bind,Res.toS,_D.vV,_D.v7,SG,SC,MW,SN,SI,SJ,SK,SH,S9,S8,SE,gLt,gLe,gGt,gGe,_D.x9,SL,g0,g1,pT,u9 v m S hm.1,kA v m S hm,hZ p v 1 (v/m) S hp]
 ·obtain⟨w,hw⟩:∃ w:Int,w=(v % 2147483629*48271+11) % 2147483629:=⟨_,rfl⟩
  have hw1:0≤w∧w<2147483629:=by rw[hw];exact⟨Int.emod_nonneg _ (by omega),Int.emod_lt_of_pos _ (by omega)⟩
  have hv1:0≤v % 2147483629∧v % 2147483629<2147483629:=⟨Int.emod_nonneg _ (by omega),Int.emod_lt_of_pos _ (by omega)⟩
  have hp':(S.set p (MO.lst [.int w,.int f]))[p]? = some (.lst [.int w,.int f]):=by simp[hpl]
  have k0:=dP p 0 _ _ (S.set p (MO.lst [.int w,.int f])) hp' (VM w f)
  have m1:=kD (v % 2147483629) 48271 S ⟨by omega,by omega⟩
  have m2:=kD w w (S.set p (MO.lst [.int w,.int f])) ⟨by omega,by omega⟩
  have m3:=kD 40692 w (S.set p (MO.lst [.int w,.int f])) ⟨by omega,by omega⟩
  have d1:=u9 v 2147483629 S (by omega)
  have d2':=u9 (v % 2147483629*48271+11) 2147483629 S (by omega)
  rw[← hw] at d2'
  have d3:=u9 (w*w+40692*w) 2147483647 (S.set p (MO.lst [.int w,.int f])) (by omega)
  have d4:=kA ((w*w+40692*w) % 2147483647) 8 (S.set p (MO.lst [.int w,.int f])) (by omega)
  have d5:=u9 ((w*w+40692*w) % 2147483647/8) m (S.set p (MO.lst [.int w,.int f])) hm.1
  refine⟨(w*w+40692*w) % 2147483647/8 % m,w,f,?_,Int.emod_nonneg _ (by omega),Int.emod_lt_of_pos _ hm.1⟩
  simp[qQ,vX,KL,SB,SA,qN,sIf,qW,zI,w6,zG,gNm,gSb,gTp,qM,zR,pI,DB,mH,LG,dC,qB,d1,d2,qA,qC,qD,qG,dTr,zQ,w8,zH,yN,aJ,dIf,xH,qY,zM,aI,dBm,dSl,z9,zK,yP,vK,Res.bind,Res.toS,_D.vV,_D.v7,SG,SC,MW,SN,SI,SJ,SK,SH,S9,S8,SE,gLt,gLe,gGt,gGe,_D.x9,SL,g0,g1,pT,hf,d1,m1,wF,d2',hZ p v f w S hp,k0,m2,m3,d3,d4,d5]
theorem Y5 {S:Sto}{p:Nat}(h:xE S p)(v f:Int):xE (S.set p (.lst [.int v,.int f])) p:=by
 obtain⟨v0,f0,hp⟩:=h
 have hpl:=(List.getElem?_eq_some_iff.mp hp).1
 exact⟨v,f,by simp[hpl]⟩
theorem M2 (S:Sto):gX (.int 10) (.int 18) S=.ok (.int 1000000000000000000) S:=rfl
theorem Z5 (S:Sto):gX (.int 10) (.int 29) S=.ok (.int 100000000000000000000000000000) S:=rfl
theorem NW (x:Int)(S:Sto):∃ f:Int,S__law_pen [.int x] S=.ok (.loc S.length) (S++[.lst [.int x,.int f]]):=by
 refine⟨b01 (decide (1000000000000000000≤x)),?_⟩
 have l2:2≤lim:=by decide
 rw[gI]
 unfold b__law_pen
 simp[qQ,vX,KL,SB,SA,qN,sIf,qW,zI,w6,zG,gNm,gSb,gTp,qM,zR,pI,DB,mH,LG,dC,qB,d1,d2,qA,qC,qD,qG,dTr,zQ,w8,zH,yN,aJ,dIf,xH,qY,zM,aI,dBm,dSl,z9,zK,yP,vK,Res.bind,Res.toS,_D.vV,_D.v7,SG,SC,MW,SN,SI,SJ,SK,SH,S9,S8,SE,gLt,gLe,gGt,gGe,_D.x9,SL,M2,JJ,l2]
theorem ME (ns:List Int)(S:Sto):∃ x:Int,S__law_cell [.lst (ns.map D.int),.int 0] S=.ok (.int x) S:=by
 rw[jW]
 unfold b__law_cell
 cases ns with
 |nil=>exact⟨0,by simp[qQ,vX,KL,SB,SA,qN,sIf,qW,zI,w6,zG,gNm,gSb,gTp,qM,zR,pI,DB,mH,LG,dC,qB,d1,d2,qA,qC,qD,qG,dTr,zQ,w8,zH,yN,aJ,dIf,xH,qY,zM,aI,dBm,dSl,z9,zK,yP,vK,Res.bind,Res.toS,_D.vV,_D.v7,SG,SC,MW,SN,SI,SJ,SK,SH,S9,S8,SE,gLt,gLe,gGt,gGe,_D.x9,SL,dU]⟩
 |cons n ns =>
  refine⟨n,?_⟩
  have h:(0:Int)<(ns.length:Int)+1:=by omega
  have a:_L.atI (D.int n::ns.map D.int) 0=some (.int n):=by simp[_L.atI,_L.ixN,h]
  simp[qQ,vX,KL,SB,SA,qN,sIf,qW,zI,w6,zG,gNm,gSb,gTp,qM,zR,pI,DB,mH,LG,dC,qB,d1,d2,qA,qC,qD,qG,dTr,zQ,w8,zH,yN,aJ,dIf,xH,qY,zM,aI,dBm,dSl,z9,zK,yP,vK,Res.bind,Res.toS,_D.vV,_D.v7,SG,SC,MW,SN,SI,SJ,SK,SH,S9,S8,SE,gLt,gLe,gGt,gGe,_D.x9,SL,dU,kB a,h]
theorem k7 (xs:List D)(r:Int)(h:0≤r∧r<xs.length):∃ d,_L.atI xs r=some d∧d∈xs:=by
 have e:_L.ixN xs.length r=some r.toNat:=by simp[_L.ixN,h]
 have hl:r.toNat<xs.length:=by omega
 exact⟨xs[r.toNat],by simp[_L.atI,e,hl],List.getElem_mem hl⟩
theorem US (ns:List Int)(lo hi:Option Int):∃ ms:List Int,x8 (ns.map D.int) lo hi=ms.map D.int∧ms.length≤ns.length:=by
 unfold x8
 rw[← List.map_drop,← List.map_take]
 exact⟨_,rfl,by simp;omega⟩
def dL:DG:=gTp 2 (qM (gNm 2) (qM (gNm 3) (zR)))
noncomputable def fJ (S:DF):DS:=sIf (zQ (dTr (qG 2 S (qA (qB 2) (qA (qB 3) (qC)))))) (qW (dC (.bl false))) (zI)
theorem P7 (S:DF):b__law_same S=qN (sIf (dTr (d2 gIs (qB 1) (dC .non))) (qW (d2 gIs (qB 0) (dC .non))) (zI)) (qN (sIf (w8 (dTr (qD zD (qA (qB 1) (qA (dC (.ty "tuple")) (qC))))) (dTr (qD zD (qA (qB 1) (qA (dC (.ty "list")) (qC)))))) (qN (sIf (w8 (dTr (d2 gNe (qD zD (qA (qB 0) (qA (dC (.ty "tuple")) (qC)))) (qD zD (qA (qB 1) (qA (dC (.ty "tuple")) (qC)))))) (dTr (d2 gNe (qD zD (qA (qB 0) (qA (dC (.ty "list")) (qC)))) (qD zD (qA (qB 1) (qA (dC (.ty "list")) (qC))))))) (qW (dC (.bl false))) (zI)) (qN (sIf (dTr (d2 gNe (qD zT (qA (qB 0) (qC))) (qD zT (qA (qB 1) (qC))))) (qW (dC (.bl false))) (zI)) (qN (jF (gW (qA (qB 0) (qA (qB 1) (qC)))) dL (fJ S)) (qW (dC (.bl true)))))) (zI)) (qN (sIf (dTr (qD zD (qA (qB 1) (qA (dC (.ty "str")) (qC))))) (qW (yN (qD zD (qA (qB 0) (qA (dC (.ty "str")) (qC)))) (d2 gEq (qB 0) (qB 1)))) (zI)) (qW (yN (d2 gEq (qD zD (qA (qB 0) (qA (dC (.ty "bool")) (qC)))) (qD zD (qA (qB 1) (qA (dC (.ty "bool")) (qC))))) (yN (qD zD (qA (qB 0) (qA (dC (.ty "int")) (qC)))) (d2 gEq (qB 0) (qB 1))))))):=rfl
theorem Q8 (F:DF)(x y:Option D)(S:Sto):∀ (ws:List D),(∀ d∈ws,F [d,d] S=.ok (.bl true) S)→∀ u v,∃ u' v',wD dL (fJ F) (yA ws ws) [x,y,u,v] S=.nx [x,y,u',v'] S:=by
 intro ws
 induction ws with
 |nil=>exact fun _ u v=>⟨u,v,rfl⟩
 |cons w ws ih =>
  intro h u v
  obtain⟨u',v',e⟩:=ih (fun d hd=>h d (List.mem_cons_of_mem _ hd)) (some w) (some w)
  refine⟨u',v',?_⟩
  have hw:=h w (List.mem_cons_self ..)
  have hg:dL (.tup [w,w]) [x,y,u,v] S=.ok [x,y,some w,some w] S:=rfl
  have hf:fJ F [x,y,some w,some w] S=.nx [x,y,some w,some w] S:=by
   unfold fJ
   simp[qQ,vX,KL,SB,SA,qN,sIf,qW,zI,w6,zG,gNm,gSb,gTp,qM,zR,pI,DB,mH,LG,dC,qB,d1,d2,qA,qC,qD,qG,dTr,zQ,w8,zH,yN,aJ,dIf,xH,qY,zM,aI,dBm,dSl,z9,zK,yP,vK,Res.bind,Res.toS,_D.vV,_D.v7,SG,SC,MW,SN,SI,SJ,SK,SH,S9,S8,SE,gLt,gLe,gGt,gGe,_D.x9,SL,hw]
  have hz:yA (w::ws) (w::ws)=D.tup [w,w]::yA ws ws:=rfl
  rw[hz]
  unfold wD
  simp only[hg,Res.toS,hf]
  exact e
def okD:Nat→D→Prop
 |n+1,.tup xs=>∀ x∈xs,okD n x
 |n+1,.lst xs=>∀ x∈xs,okD n x
 |_,.int _=>True
 |_,.bl _=>True
 |_,.non=>True
 |_,_=>False
theorem MG {t:DT}{f g:DS}{env:qE}{S S1:Sto}{b:Bool}{Q:D→Sto→Prop}(h:t env S=.ok b S1)(k:Rt ((if b then f else g) env S1) Q):Rt (sIf t f g env S) Q:=by
 obtain⟨d,S2,e2,q⟩:=k
 refine⟨d,S2,?_,q⟩
 unfold sIf
 rw[h]
 cases b <;> exact e2
theorem vB {f g:DS}{env:qE}{S:Sto}{Q:D→Sto→Prop}(h:Rt (f env S) Q):Rt (qN f g env S) Q:=by
 obtain⟨d,S2,e2,q⟩:=h
 exact⟨d,S2,by unfold qN;rw[e2],q⟩
theorem vW {n:Nat}{g:DS}{ds:List D}{S S':Sto}{d:D}{env:qE}(hs:vX n ds=env)(h:Rt (g env S) fun d' S1=>d'=d∧S1=S'):qQ n g ds S=.ok d S':=by
 obtain⟨d',S1,e,rfl,rfl⟩:=h
 exact jE hs e
theorem r8 (F:DF)(d:D)(ws:List D)(S:Sto)(h1:gIs d .non S=.ok (.bl false) S)(h2:w8 (dTr (qD zD (qA (qB 1) (qA (dC (.ty "tuple")) (qC))))) (dTr (qD zD (qA (qB 1) (qA (dC (.ty "list")) (qC))))) [some d,some d,none,none] S=.ok true S)
  (h3:w8 (dTr (d2 gNe (qD zD (qA (qB 0) (qA (dC (.ty "tuple")) (qC)))) (qD zD (qA (qB 1) (qA (dC (.ty "tuple")) (qC)))))) (dTr (d2 gNe (qD zD (qA (qB 0) (qA (dC (.ty "list")) (qC)))) (qD zD (qA (qB 1) (qA (dC (.ty "list")) (qC)))))) [some d,some d,none,none] S=.ok false S)
  (h4:zT [d] S=.ok (.int ws.length) S) (h5:iW [d,d]=some (yA ws ws)) (ih:∀ x∈ws,F [x,x] S=.ok (.bl true) S):qQ 4 (b__law_same F) [d,d] S=.ok (.bl true) S:=by
 rw[P7]
 obtain⟨u',v',e⟩:=Q8 F (some d) (some d) S ws ih none none
 have h1':dTr (d2 gIs (qB 1) (dC .non)) [some d,some d,none,none] S=.ok false S:=by
  show (Res.bind (gIs d .non S) fun d S1=>vV (xO d S1) S1)=_
  rw[h1]
  rfl
 have h4':dTr (d2 gNe (qD zT (qA (qB 0) (qC))) (qD zT (qA (qB 1) (qC)))) [some d,some d,none,none] S=.ok false S:=by
  show (Res.bind (Res.bind (zT [d] S) fun a S1=>Res.bind (zT [d] S1) fun b S2=>gNe a b S2) fun d S1=>vV (xO d S1) S1)=_
  rw[h4]
  show (Res.bind (Res.bind (zT [d] S) fun b S2=>gNe (.int ws.length) b S2) fun d S1=>vV (xO d S1) S1)=_
  rw[h4]
  show (Res.bind (gNe (.int ws.length) (.int ws.length) S) fun d S1=>vV (xO d S1) S1)=_
  rw[eM,decide_eq_false (fun h=>h rfl)]
  rfl
 have h5':gW (qA (qB 0) (qA (qB 1) (qC))) [some d,some d,none,none] S=.ok (yA ws ws) S:=by
  show _D.v7 (iW [d,d]) S=_
  rw[h5]
  rfl
 exact vW rfl (qV (xG h1' (zZ rfl (vB (MG h2 (qV (xG h3 (zZ rfl (qV (xG h4' (zZ rfl (qV (fZ h5' (zZ e (xI (zV rfl ⟨rfl,rfl⟩))))))))))))))))
theorem r9 (F:DF)(i:Int)(S:Sto):qQ 4 (b__law_same F) [.int i,.int i] S=.ok (.bl true) S:=by
 have h:qQ 4 (b__law_same F) [.int i,.int i] S=.ok (.bl (i == i)) S:=by kernel_rfl!
 rw[h,beq_self_eq_true]
theorem cJ (F:DF)(b:Bool)(S:Sto):qQ 4 (b__law_same F) [.bl b,.bl b] S=.ok (.bl true) S:=by
 cases b <;> kernel_rfl!
theorem rA (F:DF)(S:Sto):qQ 4 (b__law_same F) [.non,.non] S=.ok (.bl true) S:=by kernel_rfl!
theorem X5:∀ (n:Nat) (d:D) (S:Sto),okD n d→gF (n+1) [d,d] S=.ok (.bl true) S:=by
 intro n
 induction n with
 |zero =>
  intro d S h
  cases d with
  |int i=>exact r9 _ i S
  |bl b=>exact cJ _ b S
  |non=>exact rA _ S
  |_=>exact False.elim h
 |succ n ih =>
  intro d S h
  cases d with
  |tup ws=>exact r8 (gF (n+1)) (.tup ws) ws S rfl (by kernel_rfl!) (by kernel_rfl!) rfl rfl fun x hx=>ih x S (h x hx)
  |lst ws=>exact r8 (gF (n+1)) (.lst ws) ws S rfl (by kernel_rfl!) (by kernel_rfl!) rfl rfl fun x hx=>ih x S (h x hx)
  |int i=>exact r9 _ i S
  |bl b=>exact cJ _ b S
  |non=>exact rA _ S
  |_=>exact False.elim h
theorem WQ {cl:List Addr}{C B:Addr}(hC:C∈cl)(hB:B∈cl)(S:Sto):zY cl [.exn (.ref C),.obj B] S=.ok (.bl (C == B)) S:=by
 show (if (cl.contains C&&cl.contains B)=true then Res.ok (D.bl (C == B)) S else .bad)=_
 rw[List.contains_iff_mem.mpr hC,List.contains_iff_mem.mpr hB]
 rfl
theorem JT {cl:List Addr}{C:Addr}(hC:C∈cl)(S:Sto):zY cl [.exn (.ref C),.ty "ValueError"] S=.ok (.bl true) S:=by
 show (if (cl.contains C&&(("ValueError" : String) == "ValueError"))=true then Res.ok (D.bl true) S else .bad)=_
 rw[List.contains_iff_mem.mpr hC]
 rfl
theorem zL {cl:List Addr}(nd:cl.Nodup){i j:Nat}{a b:Addr}(ha:cl[i]? = some a)(hb:cl[j]? = some b)(h:i≠j):(a == b)=false:=by
 rw[beq_eq_false_iff_ne]
 rintro rfl
 obtain⟨h1,e1⟩:=List.getElem?_eq_some_iff.mp ha
 obtain⟨h2,e2⟩:=List.getElem?_eq_some_iff.mp hb
 exact h ((List.getElem_inj nd).mp (e1.trans e2.symm))
theorem zE {cl:List Addr}{env:qE}{S:Sto}{C B:Addr}{b:Bool}(h0:env[0]? = some (some (.exn (.ref C))))(hC:C∈cl)(hB:B∈cl)(e:(C == B)=b):qD (zY cl) (qA (qB 0) (qA (dC (.obj B)) (qC))) env S=.ok (.bl b) S:=by
 unfold qD qA qB
 rw[h0]
 exact(WQ hC hB S).trans (e▸rfl)
theorem aU {cl:List Addr}{env:qE}{S:Sto}{C:Addr}(h0:env[0]? = some (some (.exn (.ref C))))(hC:C∈cl):qD (zY cl) (qA (qB 0) (qA (dC (.ty "ValueError")) (qC))) env S=.ok (.bl true) S:=by
 unfold qD qA qB
 rw[h0]
 exact JT hC S
theorem zX {f:DE}{g:DA}{env:qE}{S:Sto}{a:D}{as:List D}(h:f env S=.ok a S)(k:g env S=.ok as S):qA f g env S=.ok (a::as) S:=by
 unfold qA
 rw[h,Res.bind_ok,k]
 rfl
theorem kU {g:DA}{env:qE}{S:Sto}{as:List D}(k:g env S=.ok as S)(h:as.length≤lim):zM g env S=.ok (.lst as) S:=by
 unfold zM
 rw[k,Res.bind_ok,if_pos h]
theorem t8 {o:G2}{f g:DE}{env:qE}{S:Sto}{a b:D}(h1:f env S=.ok a S)(h2:g env S=.ok b S):d2 o f g env S=o a b S:=by
 unfold d2
 rw[h1,Res.bind_ok,h2]
 rfl
theorem gG {f:DE}{env:qE}{S:Sto}{b:Bool}(h:f env S=.ok (.bl b) S):dTr f env S=.ok b S:=by
 unfold dTr
 rw[h]
 rfl
theorem i8 {f:DT}{env:qE}{S:Sto}{b:Bool}(h:f env S=.ok b S):zQ f env S=.ok (!b) S:=by
 unfold zQ
 rw[h]
 rfl
theorem iA {f g:DT}{env:qE}{S:Sto}(h:f env S=.ok false S)(k:g env S=.ok false S):w8 f g env S=.ok false S:=by
 unfold w8
 rw[h]
 exact k
theorem tJ (c:Cl)(nd:(xM c).Nodup)(S:Sto):S__law_kind_of c [.exn (.ref c.NoPoint)] S=.ok (.str "point") S:=by
 have mN:c.NoPoint∈xM c:=.head _
 rw[wH]
 refine vW (env:=[some (.exn (.ref c.NoPoint)),none,none]) rfl ?_
 refine qV (vN (zV (kU (zX (zE (env:=[some (.exn (.ref c.NoPoint)),none,none]) rfl mN (.head _) (beq_self_eq_true _)) (zX (zE (env:=[some (.exn (.ref c.NoPoint)),none,none]) rfl mN (.tail _ (.head _)) (zL (i:=0) (j:=1) nd rfl rfl (by decide))) (zX (zE (env:=[some (.exn (.ref c.NoPoint)),none,none]) rfl mN (.tail _ (.tail _ (.head _))) (zL (i:=0) (j:=2) nd rfl rfl (by decide))) (zX (zE (env:=[some (.exn (.ref c.NoPoint)),none,none]) rfl mN (.tail _ (.tail _ (.tail _ (.head _)))) (zL (i:=0) (j:=3) nd rfl rfl (by decide))) rfl)))) (by decide)) ?_))
 refine qV (vN (zV ((t8 (a:=.lst [.bl true,.bl false,.bl false,.bl false]) rfl (kU (zX (zE (env:=[some (.exn (.ref c.NoPoint)),some (.lst [.bl true,.bl false,.bl false,.bl false]),none]) rfl mN (.tail _ (.tail _ (.tail _ (.tail _ (.head _))))) (zL (i:=0) (j:=4) nd rfl rfl (by decide))) (zX (zE (env:=[some (.exn (.ref c.NoPoint)),some (.lst [.bl true,.bl false,.bl false,.bl false]),none]) rfl mN (.tail _ (.tail _ (.tail _ (.tail _ (.tail _ (.head _)))))) (zL (i:=0) (j:=5) nd rfl rfl (by decide))) (zX (zE (env:=[some (.exn (.ref c.NoPoint)),some (.lst [.bl true,.bl false,.bl false,.bl false]),none]) rfl mN (.tail _ (.tail _ (.tail _ (.tail _ (.tail _ (.tail _ (.head _))))))) (zL (i:=0) (j:=6) nd rfl rfl (by decide))) (zX (zE (env:=[some (.exn (.ref c.NoPoint)),some (.lst [.bl true,.bl false,.bl false,.bl false]),none]) rfl mN (.tail _ (.tail _ (.tail _ (.tail _ (.tail _ (.tail _ (.tail _ (.head _)))))))) (zL (i:=0) (j:=7) nd rfl rfl (by decide))) rfl)))) (by decide))).trans (c:=.ok (.lst [.bl true,.bl false,.bl false,.bl false,.bl false,.bl false,.bl false,.bl false]) S) (by kernel_rfl!)) ?_))
 refine qV (vN (zV ((t8 (a:=.lst [.bl true,.bl false,.bl false,.bl false,.bl false,.bl false,.bl false,.bl false]) rfl (kU (zX (zE (env:=[some (.exn (.ref c.NoPoint)),some (.lst [.bl true,.bl false,.bl false,.bl false,.bl false,.bl false,.bl false,.bl false]),none]) rfl mN (.tail _ (.tail _ (.tail _ (.tail _ (.tail _ (.tail _ (.tail _ (.tail _ (.head _))))))))) (zL (i:=0) (j:=8) nd rfl rfl (by decide))) (zX (zE (env:=[some (.exn (.ref c.NoPoint)),some (.lst [.bl true,.bl false,.bl false,.bl false,.bl false,.bl false,.bl false,.bl false]),none]) rfl mN (.tail _ (.tail _ (.tail _ (.tail _ (.tail _ (.tail _ (.tail _ (.tail _ (.tail _ (.head _)))))))))) (zL (i:=0) (j:=9) nd rfl rfl (by decide))) (zX (zE (env:=[some (.exn (.ref c.NoPoint)),some (.lst [.bl true,.bl false,.bl false,.bl false,.bl false,.bl false,.bl false,.bl false]),none]) rfl mN (.tail _ (.tail _ (.tail _ (.tail _ (.tail _ (.tail _ (.tail _ (.tail _ (.tail _ (.tail _ (.head _))))))))))) (zL (i:=0) (j:=10) nd rfl rfl (by decide))) rfl))) (by decide))).trans (c:=.ok (.lst [.bl true,.bl false,.bl false,.bl false,.bl false,.bl false,.bl false,.bl false,.bl false,.bl false,.bl false]) S) (by kernel_rfl!)) ?_))
 refine qV (xG (b:=false) (S1:=S) (iA (i8 (gG (aU (env:=[some (.exn (.ref c.NoPoint)),some (.lst [.bl true,.bl false,.bl false,.bl false,.bl false,.bl false,.bl false,.bl false,.bl false,.bl false,.bl false]),none]) rfl mN))) (by kernel_rfl!)) (zZ (env:=[some (.exn (.ref c.NoPoint)),some (.lst [.bl true,.bl false,.bl false,.bl false,.bl false,.bl false,.bl false,.bl false,.bl false,.bl false,.bl false]),none]) (S:=S) rfl ?_))
 refine qV (xG (gG (zE (env:=[some (.exn (.ref c.NoPoint)),some (.lst [.bl true,.bl false,.bl false,.bl false,.bl false,.bl false,.bl false,.bl false,.bl false,.bl false,.bl false]),none]) rfl mN (.tail _ (.tail _ (.tail _ (.tail _ (.tail _ (.tail _ (.tail _ (.tail _ (.tail _ (.head _)))))))))) (zL (i:=0) (j:=9) nd rfl rfl (by decide)))) (zZ (env:=[some (.exn (.ref c.NoPoint)),some (.lst [.bl true,.bl false,.bl false,.bl false,.bl false,.bl false,.bl false,.bl false,.bl false,.bl false,.bl false]),none]) (S:=S) rfl ?_))
 refine qV (xG (gG (zE (env:=[some (.exn (.ref c.NoPoint)),some (.lst [.bl true,.bl false,.bl false,.bl false,.bl false,.bl false,.bl false,.bl false,.bl false,.bl false,.bl false]),none]) rfl mN (.tail _ (.tail _ (.tail _ (.tail _ (.tail _ (.tail _ (.tail _ (.tail _ (.tail _ (.tail _ (.head _))))))))))) (zL (i:=0) (j:=10) nd rfl rfl (by decide)))) (zZ (env:=[some (.exn (.ref c.NoPoint)),some (.lst [.bl true,.bl false,.bl false,.bl false,.bl false,.bl false,.bl false,.bl false,.bl false,.bl false,.bl false]),none]) (S:=S) rfl ?_))
 exact iK (d:=.str "point") (S:=S) (by kernel_rfl!) ⟨rfl,rfl⟩
theorem sV (c:Cl)(nd:(xM c).Nodup)(S:Sto):S__law_kind_of c [.exn (.ref c.NoLot)] S=.ok (.str "lot") S:=by
 have mN:c.NoLot∈xM c:=.tail _ (.head _)
 rw[wH]
 refine vW (env:=[some (.exn (.ref c.NoLot)),none,none]) rfl ?_
 refine qV (vN (zV (kU (zX (zE (env:=[some (.exn (.ref c.NoLot)),none,none]) rfl mN (.head _) (zL (i:=1) (j:=0) nd rfl rfl (by decide))) (zX (zE (env:=[some (.exn (.ref c.NoLot)),none,none]) rfl mN (.tail _ (.head _)) (beq_self_eq_true _)) (zX (zE (env:=[some (.exn (.ref c.NoLot)),none,none]) rfl mN (.tail _ (.tail _ (.head _))) (zL (i:=1) (j:=2) nd rfl rfl (by decide))) (zX (zE (env:=[some (.exn (.ref c.NoLot)),none,none]) rfl mN (.tail _ (.tail _ (.tail _ (.head _)))) (zL (i:=1) (j:=3) nd rfl rfl (by decide))) rfl)))) (by decide)) ?_))
 refine qV (vN (zV ((t8 (a:=.lst [.bl false,.bl true,.bl false,.bl false]) rfl (kU (zX (zE (env:=[some (.exn (.ref c.NoLot)),some (.lst [.bl false,.bl true,.bl false,.bl false]),none]) rfl mN (.tail _ (.tail _ (.tail _ (.tail _ (.head _))))) (zL (i:=1) (j:=4) nd rfl rfl (by decide))) (zX (zE (env:=[some (.exn (.ref c.NoLot)),some (.lst [.bl false,.bl true,.bl false,.bl false]),none]) rfl mN (.tail _ (.tail _ (.tail _ (.tail _ (.tail _ (.head _)))))) (zL (i:=1) (j:=5) nd rfl rfl (by decide))) (zX (zE (env:=[some (.exn (.ref c.NoLot)),some (.lst [.bl false,.bl true,.bl false,.bl false]),none]) rfl mN (.tail _ (.tail _ (.tail _ (.tail _ (.tail _ (.tail _ (.head _))))))) (zL (i:=1) (j:=6) nd rfl rfl (by decide))) (zX (zE (env:=[some (.exn (.ref c.NoLot)),some (.lst [.bl false,.bl true,.bl false,.bl false]),none]) rfl mN (.tail _ (.tail _ (.tail _ (.tail _ (.tail _ (.tail _ (.tail _ (.head _)))))))) (zL (i:=1) (j:=7) nd rfl rfl (by decide))) rfl)))) (by decide))).trans (c:=.ok (.lst [.bl false,.bl true,.bl false,.bl false,.bl false,.bl false,.bl false,.bl false]) S) (by kernel_rfl!)) ?_))
 refine qV (vN (zV ((t8 (a:=.lst [.bl false,.bl true,.bl false,.bl false,.bl false,.bl false,.bl false,.bl false]) rfl (kU (zX (zE (env:=[some (.exn (.ref c.NoLot)),some (.lst [.bl false,.bl true,.bl false,.bl false,.bl false,.bl false,.bl false,.bl false]),none]) rfl mN (.tail _ (.tail _ (.tail _ (.tail _ (.tail _ (.tail _ (.tail _ (.tail _ (.head _))))))))) (zL (i:=1) (j:=8) nd rfl rfl (by decide))) (zX (zE (env:=[some (.exn (.ref c.NoLot)),some (.lst [.bl false,.bl true,.bl false,.bl false,.bl false,.bl false,.bl false,.bl false]),none]) rfl mN (.tail _ (.tail _ (.tail _ (.tail _ (.tail _ (.tail _ (.tail _ (.tail _ (.tail _ (.head _)))))))))) (zL (i:=1) (j:=9) nd rfl rfl (by decide))) (zX (zE (env:=[some (.exn (.ref c.NoLot)),some (.lst [.bl false,.bl true,.bl false,.bl false,.bl false,.bl false,.bl false,.bl false]),none]) rfl mN (.tail _ (.tail _ (.tail _ (.tail _ (.tail _ (.tail _ (.tail _ (.tail _ (.tail _ (.tail _ (.head _))))))))))) (zL (i:=1) (j:=10) nd rfl rfl (by decide))) rfl))) (by decide))).trans (c:=.ok (.lst [.bl false,.bl true,.bl false,.bl false,.bl false,.bl false,.bl false,.bl false,.bl false,.bl false,.bl false]) S) (by kernel_rfl!)) ?_))
 refine qV (xG (b:=false) (S1:=S) (iA (i8 (gG (aU (env:=[some (.exn (.ref c.NoLot)),some (.lst [.bl false,.bl true,.bl false,.bl false,.bl false,.bl false,.bl false,.bl false,.bl false,.bl false,.bl false]),none]) rfl mN))) (by kernel_rfl!)) (zZ (env:=[some (.exn (.ref c.NoLot)),some (.lst [.bl false,.bl true,.bl false,.bl false,.bl false,.bl false,.bl false,.bl false,.bl false,.bl false,.bl false]),none]) (S:=S) rfl ?_))
 refine qV (xG (gG (zE (env:=[some (.exn (.ref c.NoLot)),some (.lst [.bl false,.bl true,.bl false,.bl false,.bl false,.bl false,.bl false,.bl false,.bl false,.bl false,.bl false]),none]) rfl mN (.tail _ (.tail _ (.tail _ (.tail _ (.tail _ (.tail _ (.tail _ (.tail _ (.tail _ (.head _)))))))))) (zL (i:=1) (j:=9) nd rfl rfl (by decide)))) (zZ (env:=[some (.exn (.ref c.NoLot)),some (.lst [.bl false,.bl true,.bl false,.bl false,.bl false,.bl false,.bl false,.bl false,.bl false,.bl false,.bl false]),none]) (S:=S) rfl ?_))
 refine qV (xG (gG (zE (env:=[some (.exn (.ref c.NoLot)),some (.lst [.bl false,.bl true,.bl false,.bl false,.bl false,.bl false,.bl false,.bl false,.bl false,.bl false,.bl false]),none]) rfl mN (.tail _ (.tail _ (.tail _ (.tail _ (.tail _ (.tail _ (.tail _ (.tail _ (.tail _ (.tail _ (.head _))))))))))) (zL (i:=1) (j:=10) nd rfl rfl (by decide)))) (zZ (env:=[some (.exn (.ref c.NoLot)),some (.lst [.bl false,.bl true,.bl false,.bl false,.bl false,.bl false,.bl false,.bl false,.bl false,.bl false,.bl false]),none]) (S:=S) rfl ?_))
 exact iK (d:=.str "lot") (S:=S) (by kernel_rfl!) ⟨rfl,rfl⟩
theorem vT (c:Cl)(nd:(xM c).Nodup)(S:Sto):S__law_kind_of c [.exn (.ref c.NoNumber)] S=.ok (.str "number") S:=by
 have mN:c.NoNumber∈xM c:=.tail _ (.tail _ (.head _))
 rw[wH]
 refine vW (env:=[some (.exn (.ref c.NoNumber)),none,none]) rfl ?_
 refine qV (vN (zV (kU (zX (zE (env:=[some (.exn (.ref c.NoNumber)),none,none]) rfl mN (.head _) (zL (i:=2) (j:=0) nd rfl rfl (by decide))) (zX (zE (env:=[some (.exn (.ref c.NoNumber)),none,none]) rfl mN (.tail _ (.head _)) (zL (i:=2) (j:=1) nd rfl rfl (by decide))) (zX (zE (env:=[some (.exn (.ref c.NoNumber)),none,none]) rfl mN (.tail _ (.tail _ (.head _))) (beq_self_eq_true _)) (zX (zE (env:=[some (.exn (.ref c.NoNumber)),none,none]) rfl mN (.tail _ (.tail _ (.tail _ (.head _)))) (zL (i:=2) (j:=3) nd rfl rfl (by decide))) rfl)))) (by decide)) ?_))
 refine qV (vN (zV ((t8 (a:=.lst [.bl false,.bl false,.bl true,.bl false]) rfl (kU (zX (zE (env:=[some (.exn (.ref c.NoNumber)),some (.lst [.bl false,.bl false,.bl true,.bl false]),none]) rfl mN (.tail _ (.tail _ (.tail _ (.tail _ (.head _))))) (zL (i:=2) (j:=4) nd rfl rfl (by decide))) (zX (zE (env:=[some (.exn (.ref c.NoNumber)),some (.lst [.bl false,.bl false,.bl true,.bl false]),none]) rfl mN (.tail _ (.tail _ (.tail _ (.tail _ (.tail _ (.head _)))))) (zL (i:=2) (j:=5) nd rfl rfl (by decide))) (zX (zE (env:=[some (.exn (.ref c.NoNumber)),some (.lst [.bl false,.bl false,.bl true,.bl false]),none]) rfl mN (.tail _ (.tail _ (.tail _ (.tail _ (.tail _ (.tail _ (.head _))))))) (zL (i:=2) (j:=6) nd rfl rfl (by decide))) (zX (zE (env:=[some (.exn (.ref c.NoNumber)),some (.lst [.bl false,.bl false,.bl true,.bl false]),none]) rfl mN (.tail _ (.tail _ (.tail _ (.tail _ (.tail _ (.tail _ (.tail _ (.head _)))))))) (zL (i:=2) (j:=7) nd rfl rfl (by decide))) rfl)))) (by decide))).trans (c:=.ok (.lst [.bl false,.bl false,.bl true,.bl false,.bl false,.bl false,.bl false,.bl false]) S) (by kernel_rfl!)) ?_))
 refine qV (vN (zV ((t8 (a:=.lst [.bl false,.bl false,.bl true,.bl false,.bl false,.bl false,.bl false,.bl false]) rfl (kU (zX (zE (env:=[some (.exn (.ref c.NoNumber)),some (.lst [.bl false,.bl false,.bl true,.bl false,.bl false,.bl false,.bl false,.bl false]),none]) rfl mN (.tail _ (.tail _ (.tail _ (.tail _ (.tail _ (.tail _ (.tail _ (.tail _ (.head _))))))))) (zL (i:=2) (j:=8) nd rfl rfl (by decide))) (zX (zE (env:=[some (.exn (.ref c.NoNumber)),some (.lst [.bl false,.bl false,.bl true,.bl false,.bl false,.bl false,.bl false,.bl false]),none]) rfl mN (.tail _ (.tail _ (.tail _ (.tail _ (.tail _ (.tail _ (.tail _ (.tail _ (.tail _ (.head _)))))))))) (zL (i:=2) (j:=9) nd rfl rfl (by decide))) (zX (zE (env:=[some (.exn (.ref c.NoNumber)),some (.lst [.bl false,.bl false,.bl true,.bl false,.bl false,.bl false,.bl false,.bl false]),none]) rfl mN (.tail _ (.tail _ (.tail _ (.tail _ (.tail _ (.tail _ (.tail _ (.tail _ (.tail _ (.tail _ (.head _))))))))))) (zL (i:=2) (j:=10) nd rfl rfl (by decide))) rfl))) (by decide))).trans (c:=.ok (.lst [.bl false,.bl false,.bl true,.bl false,.bl false,.bl false,.bl false,.bl false,.bl false,.bl false,.bl false]) S) (by kernel_rfl!)) ?_))
 refine qV (xG (b:=false) (S1:=S) (iA (i8 (gG (aU (env:=[some (.exn (.ref c.NoNumber)),some (.lst [.bl false,.bl false,.bl true,.bl false,.bl false,.bl false,.bl false,.bl false,.bl false,.bl false,.bl false]),none]) rfl mN))) (by kernel_rfl!)) (zZ (env:=[some (.exn (.ref c.NoNumber)),some (.lst [.bl false,.bl false,.bl true,.bl false,.bl false,.bl false,.bl false,.bl false,.bl false,.bl false,.bl false]),none]) (S:=S) rfl ?_))
 refine qV (xG (gG (zE (env:=[some (.exn (.ref c.NoNumber)),some (.lst [.bl false,.bl false,.bl true,.bl false,.bl false,.bl false,.bl false,.bl false,.bl false,.bl false,.bl false]),none]) rfl mN (.tail _ (.tail _ (.tail _ (.tail _ (.tail _ (.tail _ (.tail _ (.tail _ (.tail _ (.head _)))))))))) (zL (i:=2) (j:=9) nd rfl rfl (by decide)))) (zZ (env:=[some (.exn (.ref c.NoNumber)),some (.lst [.bl false,.bl false,.bl true,.bl false,.bl false,.bl false,.bl false,.bl false,.bl false,.bl false,.bl false]),none]) (S:=S) rfl ?_))
 refine qV (xG (gG (zE (env:=[some (.exn (.ref c.NoNumber)),some (.lst [.bl false,.bl false,.bl true,.bl false,.bl false,.bl false,.bl false,.bl false,.bl false,.bl false,.bl false]),none]) rfl mN (.tail _ (.tail _ (.tail _ (.tail _ (.tail _ (.tail _ (.tail _ (.tail _ (.tail _ (.tail _ (.head _))))))))))) (zL (i:=2) (j:=10) nd rfl rfl (by decide)))) (zZ (env:=[some (.exn (.ref c.NoNumber)),some (.lst [.bl false,.bl false,.bl true,.bl false,.bl false,.bl false,.bl false,.bl false,.bl false,.bl false,.bl false]),none]) (S:=S) rfl ?_))
 exact iK (d:=.str "number") (S:=S) (by kernel_rfl!) ⟨rfl,rfl⟩
end _K
end
section
namespace _K
open PySem _D
def Pn (d:D):Prop:=∃ p,pyD d=some p
theorem Z2 {d:D}(h:Pn d):(∃ i,d=.int i)∨xR d:=by
 obtain⟨p,h⟩:=h
 cases d with
 |int i=>exact .inl ⟨i,rfl⟩
 |non=>exact .inr QP
 |bl b=>exact .inr (i3 b)
 |str x=>exact .inr (QQ x)
 |tup x=>exact .inr (QR x)
 |lst x=>exact .inr (QN x)
 |dct0=>exact .inr QM
 |_=>simp[pyD] at h
theorem pns {xs:List D}:∀ {ps:List PyData},jB xs=some ps→∀ x∈xs,Pn x:=by
 induction xs with
 |nil=>intro ps _ x hx;cases hx
 |cons d ds ih =>
  intro ps h x hx
  simp only[jB] at h
  obtain⟨p,h1,h2⟩:=Option.bind_eq_some_iff.mp h
  obtain⟨ps',h3,_⟩:=Option.map_eq_some_iff.mp h2
  rcases List.mem_cons.mp hx with rfl|hx
  ·exact⟨p,h1⟩
  ·exact ih h3 x hx
theorem Z3 {xs:List D}(h:Pn (.tup xs)):∀ x∈xs,Pn x:=by
 obtain⟨p,h⟩:=h
 simp only[pyD] at h
 obtain⟨ps,h1,_⟩:=Option.map_eq_some_iff.mp h
 exact pns h1
theorem iE {d:D}(h:Pn d):(∃ xs,d=.tup xs)∨∀ S,zQ (dTr (qD zD (qA (qB 0) (qA (dC (.ty "tuple")) (qC))))) [some d] S=.ok true S:=by
 have one:∀ (a:String),(∀ S,tyD d S=some a)→xP a "tuple" = false→∀ S,zQ (dTr (qD zD (qA (qB 0) (qA (dC (.ty "tuple")) (qC))))) [some d] S=.ok true S:=fun a h1 h2 S=>by
  have:=jA (wW ((o6 (f1:=qB 0) (f2:=dC (.ty "tuple")) (env:=[some d]) (S:=S) rfl rfl).trans (kE d "tuple" a S uZ.2.2.1 (h1 S))))
  rw[h2] at this
  exact this
 obtain⟨p,h⟩:=h
 cases d with
 |tup xs=>exact .inl ⟨xs,rfl⟩
 |int i=>exact .inr (one "int" (fun _=>rfl) (kd))
 |non=>exact .inr (one "NoneType" (fun _=>rfl) (kd))
 |bl b=>exact .inr (one "bool" (fun _=>rfl) (kd))
 |str x=>exact .inr (one "str" (fun _=>rfl) (kd))
 |lst x=>exact .inr (one "list" (fun _=>rfl) (kd))
 |dct0=>exact .inr (one "dict" (fun _=>rfl) (kd))
 |_=>simp[pyD] at h
theorem uA (xs:List D)(S:Sto):zQ (dTr (qD zD (qA (qB 0) (qA (dC (.ty "tuple")) (qC))))) [some (.tup xs)] S=.ok false S:=by
 have:=jA (wW ((o6 (f1:=qB 0) (f2:=dC (.ty "tuple")) (env:=[some (.tup xs)]) (S:=S) rfl rfl).trans (kE (.tup xs) "tuple" "tuple" S uZ.2.2.1 rfl)))
 rw[GG.2.2.2.2.2.1] at this
 exact this
def isI:D→Bool
 |.int i=>decide (-1000≤i∧i≤1000)
 |_=>false
def qO:D→Bool
 |.tup [a,b]=>isI a&&isI b
 |_=>false
theorem oY {d:D}(h:xR d):isI d=false:=by
 cases d with
 |int i =>
  rcases h [] with h|h|h|h|h|h <;> (rw[MW] at h;exact absurd (Option.some.inj h) (by decide))
 |_=>rfl
theorem DQ (x:D)(S:Sto)(h:Pn x):S_is_within [x,.int (-1000),.int 1000] S=.ok (.bl (isI x)) S:=by
 rcases Z2 h with⟨i,rfl⟩|h
 ·exact YI i _ _ S
 ·rw[oY h];exact rX x _ _ S h
theorem rW (i:Int)(S:Sto):S__law_whole [.int i] S=.ok (.bl true) S:=by
 rw[vE]
 kernel_rfl!
theorem iI (d:D)(S:Sto)(h:xR d):S__law_whole [d] S=.ok (.bl false) S:=by
 rw[vE]
 unfold b__law_whole
 rcases h S with h|h|h|h|h|h <;> simp[qQ,vX,KL,SB,SA,qN,sIf,qW,zI,w6,zG,gNm,gSb,gTp,qM,zR,pI,DB,mH,LG,dC,qB,d1,d2,qA,qC,qD,qG,dTr,zQ,w8,zH,yN,aJ,dIf,xH,qY,zM,aI,dBm,dSl,z9,zK,yP,vK,Res.bind,Res.toS,_D.vV,_D.v7,SG,SC,MW,SN,SI,SJ,SK,SH,S9,S8,SE,gLt,gLe,gGt,gGe,_D.x9,SL,kE _ _ _ _ uZ.1 h,kE _ _ _ _ uZ.2.1 h,xP]
theorem W1 (i:Int)(S:Sto):xH gLe gLe (d1 yZ (dC (.int 1000))) (qB 0) (dC (.int 1000)) [some (.int i)] S=.ok (.bl (decide (-1000≤i∧i≤1000))) S:=by
 have e:d1 yZ (dC (.int 1000)) [some (.int i)] S=.ok (.int (-1000)) S:=rfl
 unfold xH
 rw[e]
 simp[qQ,vX,KL,SB,SA,qN,sIf,qW,zI,w6,zG,gNm,gSb,gTp,qM,zR,pI,DB,mH,LG,dC,qB,d1,d2,qA,qC,qD,qG,dTr,zQ,w8,zH,yN,aJ,dIf,xH,qY,zM,aI,dBm,dSl,z9,zK,yP,vK,Res.bind,Res.toS,_D.vV,_D.v7,SG,SC,MW,SN,SI,SJ,SK,SH,S9,S8,SE,gLt,gLe,gGt,gGe,_D.x9,SL,Res.bind]
 by_cases h:(-1000:Int)≤i <;> simp[h]
theorem NU (x:D)(S:Sto)(h:Pn x):yN (qG 1 (okO S__law_whole) (qA (qB 0) (qC))) (xH gLe gLe (d1 yZ (dC (.int 1000))) (qB 0) (dC (.int 1000))) [some x] S=.ok (.bl (isI x)) S:=by
 rcases Z2 h with⟨i,rfl⟩|h
 ·exact lW (a:=true) ((vH (f1:=qB 0) rfl).trans (kI (rW i S))) (fun _=>W1 i S) (by intro z;cases z)
 ·rw[oY h]
  exact lW (a:=false) (b:=false) ((vH (f1:=qB 0) rfl).trans (kI (iI x S h))) (by intro z;cases z) (fun _=>rfl)
theorem nT (fe:DE)(S:Sto)(hfe:∀ x,Pn x→fe [some x] S=.ok (.bl (isI x)) S)(d:D)(h:Pn d) :
  Rt (qN (sIf (w8 (zQ (dTr (qD zD (qA (qB 0) (qA (dC (.ty "tuple")) (qC)))))) (dTr (d2 gNe (qD zT (qA (qB 0) (qC))) (dC (.int 2))))) (qW (dC (.bl false))) (zI)) (qW (qD (u8 false) (qA (qS false [none] (dIt (qB 0)) (gNm 0) (zH) (qX fe)) (qC)))) [some d] S) fun d' S1=>d'=.bl (qO d)∧S1=S:=by
 rcases iE h with⟨xs,rfl⟩|hn
 ·have hl:dTr (d2 gNe (qD zT (qA (qB 0) (qC))) (dC (.int 2))) [some (.tup xs)] S=.ok (decide ((xs.length:Int)≠2)) S:=wW ((qU ((xW (f1:=qB 0) rfl).trans (bR xs S)) rfl).trans (eM _ _ _))
  have ht:=vP (uA xs S) (fun _=>hl) (by intro z;cases z)
  rw[Bool.false_or] at ht
  by_cases h2:xs.length=2
  ·rw[decide_eq_false (by omega)] at ht
   refine qV (xG ht (zZ (S:=S) rfl (xI (zV ?_ (d:=.bl (qO (.tup xs))) (S:=S) ⟨rfl,rfl⟩))))
   have hc:=oB (cap:=[none]) (g:=gNm 0) (t:=zH) (fe:=fe) (fi:=dIt (qB 0)) (env:=[some (.tup xs)]) (S:=S) (o:=none) (items:=xs) rfl trivial (fun _=>true) (fun x=>.bl (isI x)) (fun env=>∃ a,env=[a]) ⟨none,rfl⟩ (by rw[h2];decide)
    (fun x hx env ⟨a,q⟩=>by subst q;exact⟨[some x],rfl,⟨_,rfl⟩,rfl,fun _=>hfe x (Z3 h x hx)⟩)
   rw[vA] at hc
   rw[lV (p:=isI) hc]
   match xs,h2 with
   |[a,b],_=>simp[qO]
  ·rw[decide_eq_true (by omega)] at ht
   refine vB (jD ht (xI (zV (d:=.bl false) (S:=S) rfl ⟨?_,rfl⟩)))
   match xs,h2 with
   |[],_=>rfl
   |[a],_=>rfl
   |[a,b],h=>exact absurd rfl h
   |a::b::c::r,_=>rfl
 ·have ht:=vP (b:=false) (g:=dTr (d2 gNe (qD zT (qA (qB 0) (qC))) (dC (.int 2)))) (hn S) (by intro z;cases z) (fun _=>rfl)
  refine vB (jD ht (xI (zV (d:=.bl false) (S:=S) rfl ⟨?_,rfl⟩)))
  congr 1
  unfold qO
  split
  ·have:=hn S
   rw[uA] at this
   cases this
  ·rfl
theorem mF (d:D)(S:Sto)(h:Pn d):S_is_point [d] S=.ok (.bl (qO d)) S:=by
 rw[gJ]
 exact vW (env:=[some d]) rfl (nT _ S (fun x hx=>(V2 (f1:=qB 0) rfl rfl rfl).trans (kI (DQ x S hx))) d h)
theorem rV (d:D)(S:Sto)(h:Pn d):S__law_is_point [d] S=.ok (.bl (qO d)) S:=by
 rw[uM]
 exact vW (env:=[some d]) rfl (nT _ S (fun x hx=>NU x S hx) d h)
end _K
end
section
namespace _K
open PySem _D
def upB (ks:List (List Int)):Bool:=(ks.zip (ks.drop 1)).all fun p=>_H.lexLt p.1 p.2
def xJ:D→Bool
 |.tup xs=>decide (1≤xs.length∧xs.length≤40)&&xs.all qO&&(match wX xs with|some ks=>upB ks|none=>false)
 |_=>false
set_option tactic.hygienic true in
theorem mB:∀ (xs:List D),xs.all qO=true→∃ ks:List (List Int),xs=ks.map tpD
 |[],_=>⟨[],rfl⟩
 |d::ds,h=>by
  rw[List.all_cons,Bool.and_eq_true] at h
  obtain⟨ks,rfl⟩:=mB ds h.2
  have h1:=h.1
  unfold qO at h1
  split at h1
  ·rename_i a b
   rw[Bool.and_eq_true] at h1
   cases a with
   |int x =>
    cases b with
    |int y=>exact⟨[x,y]::ks,rfl⟩
    |_=>simp[isI] at h1
   |_=>simp[isI] at h1
  ·cases h1
theorem ND (a b:List Int)(S:Sto):bL (tpD a) (tpD b) S=.ok (.bl (_H.lexLt a b)) S:=by
 unfold bL tpD
 simp only[jO]
theorem kO:∀ (ks:List (List Int)),upB ks=true↔ks.Pairwise (fun a b=>_H.lexLt a b=true)
 |[]=>by simp[upB]
 |[a]=>by simp[upB]
 |a::b::r=>by
  have ih:=kO (b::r)
  have e:upB (a::b::r)=(_H.lexLt a b&&upB (b::r)):=by simp[upB]
  rw[e,Bool.and_eq_true,ih,List.pairwise_cons (a:=a)]
  constructor
  ·rintro⟨h1,h2⟩
   refine⟨fun x hx=>?_,h2⟩
   rcases List.mem_cons.mp hx with rfl|hx
   ·exact h1
   ·exact _S.uD.tr h1 ((List.pairwise_cons.mp h2).1 x hx)
  ·rintro⟨h1,h2⟩
   exact⟨h1 b (by simp),h2⟩
theorem TH (ks ms:List (List Int)):yA (ks.map tpD) (ms.map tpD)=(ks.zip ms).map fun p=>D.tup [tpD p.1,tpD p.2]:=by
 unfold yA
 induction ks generalizing ms with
 |nil=>rfl
 |cons k ks ih =>
  cases ms with
  |nil=>rfl
  |cons m ms=>exact congrArg (_::·) (ih ms)
theorem TL (xs:List D):x8 xs (some 1) none=xs.drop 1:=by
 unfold x8
 have h1:_H.sIx xs.length 0 (some 1)=min 1 xs.length:=rfl
 have h2:_H.sIx xs.length xs.length none=xs.length:=rfl
 rw[h1,h2]
 cases xs with
 |nil=>rfl
 |cons x r=>simp
theorem rT (ks:List (List Int))(S:Sto)(hl:ks.length≤lim):S_is_rising [.tup (ks.map tpD)] S=.ok (.bl (upB ks)) S:=by
 rw[jY]
 refine tQ (env:=[some (.tup (ks.map tpD))]) rfl ?_
 have hz:wJ (gW (qA (qB 0) (qA (dSl (qB 0) (z9 (dC (.int 1))) (zK)) (qC)))) [some (.tup (ks.map tpD))] S=.ok (none,(ks.zip (ks.drop 1)).map fun p=>D.tup [tpD p.1,tpD p.2]) S:=by
  have hs:dSl (qB 0) (z9 (dC (.int 1))) (zK) [some (.tup (ks.map tpD))] S=.ok (.tup ((ks.drop 1).map tpD)) S:=by
   have:gSl (.tup (ks.map tpD)) (some 1) none S=.ok (.tup ((ks.drop 1).map tpD)) S:=by
    show Res.ok (D.tup (x8 (ks.map tpD) (some 1) none)) S=_
    rw[TL,List.map_drop]
   exact this
  unfold wJ gW
  rw[zS (f1:=qB 0) rfl hs]
  show Res.ok (none,yA (ks.map tpD) ((ks.drop 1).map tpD)) S=_
  rw[TH]
 have hc:=pN (enc:=fun p:List Int × List Int=>D.tup [tpD p.1,tpD p.2]) (cap:=[none,none]) (g:=gTp 2 (qM (gNm 0) (qM (gNm 1) (zR)))) (t:=zH) (fe:=d2 bL (qB 0) (qB 1)) hz trivial (fun _=>true) (fun p=>.bl (_H.lexLt p.1 p.2)) (fun env=>∃ a b,env=[a,b]) ⟨none,none,rfl⟩ (by simp;omega)
  (fun p _ env ⟨a,b,q⟩=>by
   subst q
   exact⟨[some (tpD p.1),some (tpD p.2)],rfl,⟨_,_,rfl⟩,rfl,fun _=>(qU (a:=tpD p.1) (b:=tpD p.2) rfl rfl).trans (ND _ _ _)⟩)
 rw[vA] at hc
 exact lV (p:=fun p:List Int × List Int=>_H.lexLt p.1 p.2) hc
theorem dW (xs:List D)(S:Sto)(f:DE)(hf:f [some (.tup xs)] S=.ok (.int 40) S):zQ (dTr (xH gLe gLe (dC (.int 1)) (qD zT (qA (qB 0) (qC))) f)) [some (.tup xs)] S=.ok (!decide (1≤xs.length∧xs.length≤40)) S:=by
 have hl:qD zT (qA (qB 0) (qC)) [some (.tup xs)] S=.ok (.int xs.length) S:=(xW (f1:=qB 0) rfl).trans (bR xs S)
 refine jA (wW ?_)
 unfold xH
 rw[show dC (.int 1) [some (.tup xs)] S=.ok (.int 1) S from rfl]
 simp only[Res.bind]
 rw[hl]
 simp[qQ,vX,KL,SB,SA,qN,sIf,qW,zI,w6,zG,gNm,gSb,gTp,qM,zR,pI,DB,mH,LG,dC,qB,d1,d2,qA,qC,qD,qG,dTr,zQ,w8,zH,yN,aJ,dIf,xH,qY,zM,aI,dBm,dSl,z9,zK,yP,vK,Res.bind,Res.toS,_D.vV,_D.v7,SG,SC,MW,SN,SI,SJ,SK,SH,S9,S8,SE,gLt,gLe,gGt,gGe,_D.x9,SL,hf]
 by_cases h:1≤xs.length
 ·have h':(1:Int)≤(xs.length:Int):=by omega
  simp[h,h']
  omega
 ·have h':¬ (1:Int)≤(xs.length:Int):=by omega
  simp[h,h']
theorem sO (F:DF)(xs:List D)(S:Sto)(hF:∀ x,Pn x→F [x] S=.ok (.bl (qO x)) S)(h:Pn (.tup xs))(hl:xs.length≤40):qD (u8 false) (qA (qS false [none] (dIt (qB 0)) (gNm 0) (zH) (qX (qG 1 (okO F) (qA (qB 0) (qC))))) (qC)) [some (.tup xs)] S=.ok (.bl (xs.all qO)) S:=by
 have hc:=oB (cap:=[none]) (g:=gNm 0) (t:=zH) (fe:=qG 1 (okO F) (qA (qB 0) (qC))) (fi:=dIt (qB 0)) (env:=[some (.tup xs)]) (S:=S) (o:=none) (items:=xs) rfl trivial (fun _=>true) (fun x=>.bl (qO x)) (fun env=>∃ a,env=[a]) ⟨none,rfl⟩ (by unfold lim;omega)
  (fun x hx env ⟨a,q⟩=>by subst q;exact⟨[some x],rfl,⟨_,rfl⟩,rfl,fun _=>(vH (f1:=qB 0) rfl).trans (kI (hF x (Z3 h x hx)))⟩)
 rw[vA] at hc
 exact lV (p:=qO) hc
theorem YD (d:D)(S:Sto)(h:Pn d):S_is_lot [d] S=.ok (.bl (xJ d)) S:=by
 rw[b9]
 refine vW (env:=[some d]) rfl ?_
 unfold b_is_lot
 rcases iE h with⟨xs,rfl⟩|hn
 ·have ht:=vP (uA xs S) (fun _=>dW xs S (dC (.int (40))) rfl) (by intro z;cases z)
  rw[Bool.false_or] at ht
  by_cases hl:1≤xs.length∧xs.length≤40
  ·rw[decide_eq_true hl] at ht
   refine qV (xG ht (zZ (S:=S) rfl (xI (zV ?_ (d:=.bl (xJ (.tup xs))) (S:=S) ⟨rfl,rfl⟩))))
   have hp:=sO S_is_point xs S (fun x hx=>mF x S hx) h hl.2
   have e:xJ (.tup xs)=(xs.all qO&&(match wX xs with|some ks=>upB ks|none=>false)):=by
    show (decide (1≤xs.length∧xs.length≤40)&&xs.all qO&&_)=_
    rw[decide_eq_true hl,Bool.true_and]
   rw[e]
   refine lW hp (fun ha=>?_) (fun _=>rfl)
   obtain⟨ks,rfl⟩:=mB xs ha
   rw[yG]
   exact(vH (f1:=qB 0) rfl).trans (rT ks S (by rw[List.length_map] at hl;unfold lim;omega))
  ·rw[decide_eq_false hl] at ht
   refine vB (jD ht (xI (zV (d:=.bl false) (S:=S) rfl ⟨?_,rfl⟩)))
   show _=D.bl (decide (1≤xs.length∧xs.length≤40)&&xs.all qO&&_)
   rw[decide_eq_false hl]
   rfl
 ·have ht:=vP (b:=false) (g:=zQ (dTr (xH gLe gLe (dC (.int 1)) (qD zT (qA (qB 0) (qC))) (dC (.int (40)))))) (hn S) (by intro z;cases z) (fun _=>rfl)
  refine vB (jD ht (xI (zV (d:=.bl false) (S:=S) rfl ⟨?_,rfl⟩)))
  congr 1
  unfold xJ
  split
  ·have:=hn S
   rw[uA] at this
   cases this
  ·rfl
theorem dM {K:Type}(lt':K→K→Bool)(x:K):∀ l:List K,(_S.j8 lt' x l).length≤l.length+1
 |[]=>by simp[_S.j8]
 |y::l=>by
  have:=dM lt' x l
  unfold _S.j8
  split
  ·simp
  ·split
   ·simp
    omega
   ·simp
theorem tR {K:Type}(lt':K→K→Bool):∀ l:List K,(_S.srt lt' l).length≤l.length
 |[]=>by simp[_S.srt]
 |x::l=>by
  have h1:=dM lt' x (_S.srt lt' l)
  have h2:=tR lt' l
  rw[_S.srt,List.length_cons]
  omega
theorem cN (ks:List (List Int))(h:ks≠[])(hl:ks.length<64)(he:∀ k∈ks,k≠[]):uF (ks.map tpD)=some ((_S.srt _H.lexLt ks).map tpD):=by
 unfold uF
 have h0:xF (ks.map tpD)=none:=by
  cases ks with
  |nil=>exact absurd rfl h
  |cons k r=>rfl
 rw[h0,yG]
 have h1:=tR _H.lexLt ks
 have h2:(ks.all fun k=>!k.isEmpty)=true:=by
  rw[List.all_eq_true]
  intro k hk
  have:=he k hk
  cases k with
  |nil=>exact absurd rfl this
  |cons _ _=>rfl
 have h3:(decide ((_S.srt _H.lexLt ks).length<64)&&ks.all fun k=>!k.isEmpty)=true:=by
  rw[h2,decide_eq_true (by omega)];rfl
 show (if (decide ((_S.srt _H.lexLt ks).length<64)&&ks.all fun k=>!k.isEmpty)=true then _ else _)=_
 rw[if_pos h3]
theorem T0 (ks:List (List Int)):upB ks=decide (ks=_S.srt _H.lexLt ks):=by
 by_cases h:upB ks=true
 ·rw[h]
  symm
  rw[decide_eq_true_eq]
  exact _S.kQ _S.uD ((kO ks).mp h) (_S.uP _S.uD ks) fun x=>(_S.yL _S.uD x ks).symm
 ·have h':upB ks=false:=by simpa using h
  rw[h']
  symm
  rw[decide_eq_false_iff_not]
  intro e
  apply h
  rw[kO,e]
  exact _S.uP _S.uD ks
theorem eI:∀ (a b:List Int),xT (a.map D.int) (b.map D.int)=decide (a=b)
 |[],[]=>rfl
 |[],_::_=>rfl
 |_::_,[]=>rfl
 |x::a,y::b=>by
  show ((x == y)&&xT (a.map D.int) (b.map D.int))=_
  rw[eI a b]
  by_cases h1:x=y <;> by_cases h2:a=b <;> simp[h1,h2]
theorem oN:∀ (a b:List (List Int)),xT (a.map tpD) (b.map tpD)=decide (a=b)
 |[],[]=>rfl
 |[],_::_=>rfl
 |_::_,[]=>rfl
 |x::a,y::b=>by
  show (xT (x.map D.int) (y.map D.int)&&xT (a.map tpD) (b.map tpD))=_
  rw[eI,oN a b]
  by_cases h1:x=y <;> by_cases h2:a=b <;> simp[h1,h2]
theorem QZ (ks:List (List Int)):pl yC (.lst (ks.map tpD))=true:=by
 show (ks.map tpD).all (pl 29)=true
 rw[List.all_map,List.all_eq_true]
 intro k _
 show (k.map D.int).all (pl 28)=true
 rw[List.all_map,List.all_eq_true]
 intro i _
 rfl
theorem nU (d:D)(S:Sto)(h:Pn d):S__law_is_lot [d] S=.ok (.bl (xJ d)) S:=by
 rw[j2]
 refine vW (env:=[some d]) rfl ?_
 unfold b__law_is_lot
 rcases iE h with⟨xs,rfl⟩|hn
 ·by_cases hl:1≤xs.length∧xs.length≤40
  ·have hp:=jA (wW (sO S__law_is_point xs S (fun x hx=>rV x S hx) h hl.2))
   have ht:=vP (uA xs S) (fun _=>vP (dW xs S (dC (.int 40)) rfl) (fun _=>hp) (fun _=>rfl)) (by intro z;cases z)
   have e:xJ (.tup xs)=(xs.all qO&&(match wX xs with|some ks=>upB ks|none=>false)):=by
    show (decide (1≤xs.length∧xs.length≤40)&&xs.all qO&&_)=_
    rw[decide_eq_true hl,Bool.true_and]
   rw[e]
   rw[decide_eq_true hl,Bool.false_or,Bool.not_true,Bool.false_or] at ht
   cases ha:xs.all qO with
   |true =>
    rw[ha] at ht
    obtain⟨ks,rfl⟩:=mB xs ha
    rw[List.length_map] at hl
    have hne:∀ k∈ks,k≠[]:=fun k hk z=>by
     subst z
     have:=List.all_eq_true.mp ha (tpD []) (List.mem_map_of_mem hk)
     cases this
    have hs:yB (qB 0) [some (.tup (ks.map tpD))] S=.ok (.lst ((_S.srt _H.lexLt ks).map tpD)) S:=by
     unfold yB
     rw[show qB 0 [some (D.tup (ks.map tpD))] S=.ok (.tup (ks.map tpD)) S from rfl]
     simp only[Res.bind,bY,Option.bind_some,cN ks (by intro z;subst z;simp at hl) (by omega) hne]
    have hli:qD pR (qA (qB 0) (qC)) [some (.tup (ks.map tpD))] S=.ok (.lst (ks.map tpD)) S:=(xW (f1:=qB 0) rfl).trans rfl
    refine qV (xG ht (zZ (S:=S) rfl (xI (zV ((qU hli hs).trans ?_) (d:=.bl _) (S:=S) ⟨rfl,rfl⟩))))
    rw[yG]
    show _=Res.ok (D.bl (upB ks)) S
    rw[T0]
    unfold gEq
    rw[QZ,QZ]
    show Res.ok (D.bl (xT (ks.map tpD) ((_S.srt _H.lexLt ks).map tpD))) S=_
    rw[oN]
   |false =>
    rw[ha] at ht
    exact vB (jD ht (xI (zV (d:=.bl false) (S:=S) rfl ⟨rfl,rfl⟩)))
  ·have ht:=vP (uA xs S) (fun _=>vP (b:=false) (g:=zQ (dTr (qD (u8 false) (qA (qS false [none] (dIt (qB 0)) (gNm 0) (zH) (qX (qG 1 (okO S__law_is_point) (qA (qB 0) (qC))))) (qC))))) (dW xs S (dC (.int 40)) rfl) (fun z=>by rw[decide_eq_false hl] at z;cases z) (fun _=>rfl)) (by intro z;cases z)
   rw[decide_eq_false hl] at ht
   refine vB (jD ht (xI (zV (d:=.bl false) (S:=S) rfl ⟨?_,rfl⟩)))
   show _=D.bl (decide (1≤xs.length∧xs.length≤40)&&xs.all qO&&_)
   rw[decide_eq_false hl]
   rfl
 ·have ht:=vP (b:=false) (g:=w8 (zQ (dTr (xH gLe gLe (dC (.int 1)) (qD zT (qA (qB 0) (qC))) (dC (.int 40))))) (zQ (dTr (qD (u8 false) (qA (qS false [none] (dIt (qB 0)) (gNm 0) (zH) (qX (qG 1 (okO S__law_is_point) (qA (qB 0) (qC))))) (qC)))))) (hn S) (by intro z;cases z) (fun _=>rfl)
  refine vB (jD ht (xI (zV (d:=.bl false) (S:=S) rfl ⟨?_,rfl⟩)))
  congr 1
  unfold xJ
  split
  ·have:=hn S
   rw[uA] at this
   cases this
  ·rfl
end _K
end
section
namespace _K
open PySem _D
theorem KS {d:D}{x:Str}(h:vU d=some x):Pn d:=by
 obtain⟨p,h,_⟩:=nY h
 exact⟨p,h⟩
structure Nc (k b:Nat)(hl hd:Bool)(d:D)(p:PyData):Prop where
 py:pyD d=some p
 sh:p.showable=true
 lv:p.leavesShort 40=true
 bu:p.bulk≤b
 de:p.depth≤k
 di:p.hasDict=true→hd=true
 li:uW d=false→hl=true
def xD (k b:Nat)(hl hd:Bool)(d:D):Prop:=∃ p,Nc k b hl hd d p
theorem xD.mono {k b k' b':Nat}{hl hd hl' hd':Bool}{d:D}(h:xD k b hl hd d)(h1:k≤k')(h2:b≤b')(h3:hl=true→hl'=true)(h4:hd=true→hd'=true):xD k' b' hl' hd' d:=by
 obtain⟨p,h⟩:=h
 exact⟨p,h.py,h.sh,h.lv,Nat.le_trans h.bu h2,Nat.le_trans h.de h1,fun z=>h4 (h.di z),fun z=>h3 (h.li z)⟩
theorem xD.repr {k b:Nat}{hl hd:Bool}{d:D}(h:xD k b hl hd d)(h1:k≤60)(h2:b≤65536)(h3:(hl&&hd)=false):∃ x,vU d=some x:=by
 obtain⟨p,h⟩:=h
 refine⟨p.shown,?_⟩
 unfold vU
 rw[h.py]
 have hk:pF d p=true:=by
  unfold pF
  rw[h.sh,h.lv,decide_eq_true (show p.bulk≤2 ^ 16 by have:=h.bu;omega),decide_eq_true (show p.depth≤60 by have:=h.de;omega)]
  cases hh:p.hasDict with
  |false=>rfl
  |true =>
   have:=h.di hh
   subst this
   cases hn:uW d with
   |true=>rfl
   |false =>
    have:=h.li hn
    subst this
    cases h3
 show (if pF d p=true then some p.shown else none)=_
 rw[if_pos hk]
theorem QJ {i:Int}(h:(PyData.shown (.int i)).length≤40)(h2:i.natAbs.log2<1920):xD 0 0 false false (.int i):=
 ⟨.int i,rfl,decide_eq_true h2,decide_eq_true h,Nat.le_refl _,Nat.le_refl _,(fun z=>by cases z),(fun z=>by cases z)⟩
theorem xZ {i:Int}(h:i.natAbs<10 ^ 12):xD 0 0 false false (.int i):=by
 refine QJ (Nat.le_trans (PyData.shown_int_le h) (by omega)) ?_
 have:i.natAbs<2 ^ 1920:=Nat.lt_of_lt_of_le h (kd)
 by_cases hm:i.natAbs=0
 ·rw[hm];decide
 ·exact(Nat.log2_lt hm).mpr this
theorem sB:xD 0 0 false false .non:=⟨.none,rfl,rfl,rfl,Nat.le_refl _,Nat.le_refl _,(fun z=>by cases z),(fun z=>by cases z)⟩
theorem VF (b:Bool):xD 0 0 false false (.bl b):=⟨.bool b,rfl,rfl,rfl,Nat.le_refl _,Nat.le_refl _,(fun z=>by cases z),(fun z=>by cases z)⟩
theorem sC (x:Str)(h:(x.cps.toList.all fun c=>decide (c<16 ^ 8))=true)(hb:x.cps.size≤3):xD 0 3 false false (.str x):=⟨.str x,rfl,rfl,h,hb,Nat.le_refl _,(fun z=>by cases z),(fun z=>by cases z)⟩
theorem dZ:xD 1 0 false true .dct0:=⟨.dict [],rfl,rfl,rfl,Nat.le_refl _,Nat.le_refl _,fun _=>rfl,(fun z=>by cases z)⟩
theorem ncs {k b:Nat}{hl hd:Bool}:∀ (xs:List D),(∀ x∈xs,xD k b hl hd x)→∃ ps,jB xs=some ps∧PyData.showableAll ps=true∧PyData.leavesShortAll 40 ps=true∧PyData.bulkAll ps≤xs.length*(b+1)∧PyData.depthAll ps≤k∧(PyData.hasDictAll ps=true→hd=true)∧(kG xs=false→hl=true)
 |[],_=>⟨[],rfl,rfl,rfl,Nat.zero_le _,Nat.zero_le _,(fun z=>by cases z),(fun z=>by cases z)⟩
 |d::ds,h=>by
  obtain⟨p,n⟩:=h d (by simp)
  obtain⟨ps,a1,a2,a3,a4,a5,a6,a7⟩:=ncs ds fun x hx=>h x (by simp[hx])
  refine⟨p::ps,?_,?_,?_,?_,?_,?_,?_⟩
  ·simp only[jB,n.py,a1,Option.bind_some,Option.map_some]
  ·simp only[PyData.showableAll,n.sh,a2,Bool.and_self]
  ·simp only[PyData.leavesShortAll,n.lv,a3,Bool.and_self]
  ·have:=n.bu
   rw[List.length_cons,Nat.succ_mul]
   simp only[PyData.bulkAll]
   omega
  ·simp only[PyData.depthAll]
   exact Nat.max_le.mpr ⟨n.de,a5⟩
  ·intro z
   simp only[PyData.hasDictAll,Bool.or_eq_true] at z
   rcases z with z|z
   ·exact n.di z
   ·exact a6 z
  ·intro z
   simp only[kG,Bool.and_eq_false_iff] at z
   rcases z with z|z
   ·exact n.li z
   ·exact a7 z
theorem vM {k b m:Nat}{hl hd:Bool}{xs:List D}(h:∀ x∈xs,xD k b hl hd x)(hm:xs.length≤m):xD (k+1) (m*(b+1)) hl hd (.tup xs):=by
 obtain⟨ps,a1,a2,a3,a4,a5,a6,a7⟩:=ncs xs h
 refine⟨.tuple ps,by simp only[pyD,a1,Option.map_some],by simpa only [PyData.showable] using a2,by simpa only [PyData.leavesShort] using a3,?_,?_,by simpa only [PyData.hasDict] using a6,by simpa only [uW] using a7⟩
 ·simp only[PyData.bulk]
  exact Nat.le_trans a4 (Nat.mul_le_mul_right _ hm)
 ·simp only[PyData.depth]
  omega
theorem sA {k b m:Nat}{hl hd:Bool}{xs:List D}(h:∀ x∈xs,xD k b hl hd x)(hm:xs.length≤m):xD (k+1) (m*(b+1)) true hd (.lst xs):=by
 obtain⟨ps,a1,a2,a3,a4,a5,a6,a7⟩:=ncs xs h
 refine⟨.list ps,by simp only[pyD,a1,Option.map_some],by simpa only [PyData.showable] using a2,by simpa only [PyData.leavesShort] using a3,?_,?_,by simpa only [PyData.hasDict] using a6,fun _=>rfl⟩
 ·simp only[PyData.bulk]
  exact Nat.le_trans a4 (Nat.mul_le_mul_right _ hm)
 ·simp only[PyData.depth]
  omega
set_option tactic.hygienic true in
theorem m8 {d:D}(h:qO d=true):∃ x y:Int,d=.tup [.int x,.int y]∧(-1000≤x∧x≤1000)∧(-1000≤y∧y≤1000):=by
 unfold qO at h
 split at h
 ·rename_i a b
  rw[Bool.and_eq_true] at h
  cases a with
  |int x =>
   cases b with
   |int y=>exact⟨x,y,rfl,of_decide_eq_true h.1,of_decide_eq_true h.2⟩
   |_=>simp[isI] at h
  |_=>simp[isI] at h
 ·cases h
theorem m9 {d:D}(h:qO d=true):xD 1 2 false false d:=by
 obtain⟨x,y,rfl,hx,hy⟩:=m8 h
 refine vM (k:=0) (b:=0) (m:=2) (fun z hz=>?_) (by simp)
 simp only[List.mem_cons,List.not_mem_nil,or_false] at hz
 rcases hz with rfl|rfl
 ·exact xZ (by omega)
 ·exact xZ (by omega)
theorem Z6 {xs:List D}(h:xs.all qO=true)(hl:xs.length≤41):xD 2 123 false false (.tup xs):=
 vM (k:=1) (b:=2) (m:=41) (fun z hz=>m9 (List.all_eq_true.mp h z hz)) hl
def Th (d:D):Prop:=∃ hl hd,(hl&&hd)=false∧xD 5 2000 hl hd d
theorem Th.repr {d:D}(h:Th d):∃ x,vU d=some x:=by
 obtain⟨hl,hd,h1,h2⟩:=h
 exact h2.repr (by omega) (by omega) h1
theorem uQ {xs:List D}(h:xs.all qO=true)(hl:xs.length≤41):Th (.tup xs):=⟨false,false,rfl,(Z6 h hl).mono (by omega) (by omega) id id⟩
end _K
end
section
namespace _K
open PySem _D
theorem w9 {S S1:Sto}{p i:Nat}{m:Int}{f2:DE}{env:qE}(h:xE S1 p)(hm:0<m∧m<1073741824)(he:env[i]? = some (some (.loc p)))(h2:f2 env S=.ok (.int m) S1):∃ (r:Nat) (S':Sto),qG 2 S__law_draw (qA (qB i) (qA f2 (qC))) env S=.ok (.int (r:Int)) S'∧(r:Int)<m∧xE S' p:=by
 obtain⟨r,v,f,e,a1,a2⟩:=MF S1 p m h hm
 obtain⟨n,rfl⟩:=Int.eq_ofNat_of_zero_le a1
 exact⟨n,_,(vI (a:=.loc p) (S1:=S) (by simp only[qB,he]) h2).trans e,a2,Y5 h v f⟩
theorem VN {f:DE}{env:qE}{S S':Sto}{r:Nat}(h:f env S=.ok (.int (r:Int)) S'):d2 qT (dC (.int 1)) f env S=.ok (.int ((r+1:Nat):Int)) S':=by
 refine(qU (a:=.int 1) (S1:=S) rfl h).trans ?_
 rw[wF]
 congr 2
 omega
theorem goE {g:DG}{t:DT}{fe:DE}(C:qE→Sto→Prop)(R:D→Prop):∀ (items:List D) (env:qE) (S:Sto) (acc:List D),
  C env S→acc.length+items.length≤lim→(∀ d env S,d∈items→C env S→∃ env1 x S1,g d env S=.ok env1 S∧t env1 S=.ok true S∧fe env1 S=.ok x S1∧C env1 S1∧R x) →
  ∃ ys env' S',goL none g t (qX fe) items env S acc=.ok (env',acc++ys) S'∧ys.length=items.length∧(∀ y∈ys,R y)∧C env' S'
 |[],env,S,acc,c,_,_=>by
  have hs:tS none S=true:=wV.mpr trivial
  exact⟨[],env,S,by simp only[goL,hs,if_true,List.append_nil],rfl,(fun y hy=>by cases hy),c⟩
 |d::ds,env,S,acc,c,hl,step=>by
  have hs:tS none S=true:=wV.mpr trivial
  obtain⟨env1,x,S1,h1,h2,h3,c1,hx⟩:=step d env S (by simp) c
  rw[List.length_cons] at hl
  obtain⟨ys,env',S',e,l,hy,c'⟩:=goE C R ds env1 S1 (acc++[x]) c1 (by rw[List.length_append];simp;omega) fun d' env S hd=>step d' env S (by simp[hd])
  refine⟨x::ys,env',S',?_,by simp[l],?_,c'⟩
  ·have hk:=bP h3 (show acc.length<lim by omega)
   simp only[goL,hs,if_true,h1,h2,hk,Res.bind]
   rw[e,List.append_assoc]
   rfl
  ·intro y hy'
   rcases List.mem_cons.mp hy' with rfl|hy'
   ·exact hx
   ·exact hy y hy'
theorem lL {cap:List (Option Nat)}{fi:DI2}{g:DG}{t:DT}{fe:DE}{env:qE}{S S0:Sto}{items:List D}(C:qE→Sto→Prop)(R:D→Prop)(h:fi env S0=.ok (none,items) S)(h0:C (xS cap env) S)(hl:items.length≤lim)
  (step:∀ d env S,d∈items→C env S→∃ env1 x S1,g d env S=.ok env1 S∧t env1 S=.ok true S∧fe env1 S=.ok x S1∧C env1 S1∧R x) :
  ∃ ys env' S',qS false cap fi g t (qX fe) env S0=.ok (.lst ys) S'∧ys.length=items.length∧(∀ y∈ys,R y)∧C env' S':=by
 obtain⟨ys,env',S',e,l,hy,c⟩:=goE C R items (xS cap env) S [] h0 (by simpa using hl) step
 exact⟨ys,env',S',gV h e,l,hy,c⟩
theorem XA (w:Int)(env:qE)(S:Sto)(h1:env[1]? = some (some (.int w))):d2 qT (d2 w5 (dC (.int 2)) (qB 1)) (dC (.int 1)) env S=.ok (.int (2*w+1)) S:=
 (qU ((qU (a:=.int 2) rfl (xC h1)).trans (kD 2 w S (by omega))) rfl).trans (wF _ _ _)
theorem b6 (S:Sto)(p:Nat)(w:Int)(h:xE S p)(hw:0≤w∧w≤2000):∃ (x y:Int) (S':Sto),S__law_point [.loc p,.int w] S=.ok (.tup [.int x,.int y]) S'∧(-w≤x∧x≤w)∧(-w≤y∧y≤w)∧xE S' p:=by
 obtain⟨a,S1,e1,ha,p1⟩:=w9 (S:=S) (i:=0) (env:=[some (.loc p),some (.int w)]) (m:=2*w+1) h (by omega) rfl (XA w _ S rfl)
 obtain⟨b,S2,e2,hb,p2⟩:=w9 (S:=S1) (i:=0) (env:=[some (.loc p),some (.int w)]) (m:=2*w+1) p1 (by omega) rfl (XA w _ S1 rfl)
 refine⟨a-w,b-w,S2,?_,by omega,by omega,p2⟩
 rw[jK]
 refine tQ (env:=[some (.loc p),some (.int w)]) rfl ?_
 have d1:d2 x9 (qG 2 S__law_draw (qA (qB 0) (qA (d2 qT (d2 w5 (dC (.int 2)) (qB 1)) (dC (.int 1))) (qC)))) (qB 1) [some (.loc p),some (.int w)] S=.ok (.int (a-w)) S1:=(qU e1 rfl).trans rfl
 have d2':d2 x9 (qG 2 S__law_draw (qA (qB 0) (qA (d2 qT (d2 w5 (dC (.int 2)) (qB 1)) (dC (.int 1))) (qC)))) (qB 1) [some (.loc p),some (.int w)] S1=.ok (.int (b-w)) S2:=(qU e2 rfl).trans rfl
 exact zU (zS d1 d2') (by show 2≤lim;decide)
theorem pZ {x y:Int}(hx : -1000≤x∧x≤1000)(hy : -1000≤y∧y≤1000):qO (.tup [.int x,.int y])=true:=by
 show (decide (-1000≤x∧x≤1000)&&decide (-1000≤y∧y≤1000))=true
 rw[decide_eq_true hx,decide_eq_true hy]
 rfl
def iD (n:Nat):D:=.int (n:Int)
theorem L0 (n:Nat)(h:n≤1000000):pG [.int (n:Int)]=some (wN 0 (n:Int).toNat):=by
 unfold pG
 have : -(2 ^ 62)≤(n:Int)∧(n:Int)<2 ^ 62:=⟨by omega,by omega⟩
 exact if_pos this
theorem YK (n:Nat):wN 0 (n:Int).toNat=(List.range n).map iD:=by
 unfold wN
 rw[Int.toNat_natCast]
 congr 1
 funext i
 unfold iD
 rw[Int.zero_add]
theorem GA (n:Nat)(h:n≤1000000):pG [.int (n:Int)]=some ((List.range n).map iD):=by
 rw[L0 n h,YK]
theorem X1 {β : Type}(b:β)(S:Sto):_D.v7 (some b) S=.ok b S:=rfl
theorem p7 (f:DE)(n:Nat)(env:qE)(S:Sto)(h:n≤1000)(e:f env S=.ok (.int (n:Int)) S):wJ (vK (qA f qC)) env S=.ok (none,(List.range n).map iD) S:=by
 have e1:qA f qC env S=.ok [.int (n:Int)] S:=wK e
 unfold wJ vK
 rw[e1,Res.bind_ok,GA n (by omega),X1,Res.bind_ok]
end _K
end
section
namespace _K
open PySem _D
inductive IvL (p w m:Nat)(e1:Option D)(ax ay st:Int)(env:qE)(S:Sto):Prop
 |mk (wi:Int) (ys:List D) (e8:Option D) (h_0:env=[some (.loc p),e1,some (.int (w:Int)),some (.int (m:Int)),some (.int wi),some (.tup [.int ax,.int ay]),some (.int st),some (.lst ys),e8]) (h_1:ys.all qO=true) (h_2:1≤ys.length∧ys.length≤200) (h_3:xE S p):IvL p w m e1 ax ay st env S
theorem lJ {ys:List D}(h:∀ y∈ys,qO y=true):ys.all qO=true:=List.all_eq_true.mpr h
theorem iV (w:Nat)(k:Int)(env:qE)(S:Sto)(h:env[2]? = some (some (.int (w:Int)))):dTr (d2 gEq (qB 2) (dC (.int k))) env S=.ok (decide ((w:Int)=k)) S:=wW ((qU (xC h) rfl).trans (pT _ _ _))
section
variable {p w m:Nat}{e1:Option D}{ax ay st:Int}{env:qE}{S:Sto}
theorem GO (hm:1≤m∧m≤40)(ha : -400≤ax∧ax≤400)(hb : -400≤ay∧ay≤400)(h:IvL p w m e1 ax ay st env S) :
  Nx (sIf (dTr (d2 gEq (qB 2) (dC (.int 0)))) (zG (qS false [none,some 5] (wJ (vK (qA (qB 3) (qC)))) (gNm 0) (zH) (qX (qY (qA (d2 qT (d2 gIx (qB 1) (dC (.int 0))) (d2 yY (qB 0) (dC (.int 4)))) (qA (d2 qT (d2 gIx (qB 1) (dC (.int 1))) (d2 yO (qB 0) (dC (.int 4)))) (qC)))))) (gNm 7)) (zI) env S) (IvL p w m e1 ax ay st):=by
 obtain⟨wi,ys,e8,rfl,h1,h2,h3⟩:=h
 refine xG (iV w 0 _ S rfl) ?_
 by_cases hw:(w:Int)=0
 ·rw[decide_eq_true hw]
  have hr:=p7 (qB 3) m [some (.loc p),e1,some (.int (w:Int)),some (.int (m:Int)),some (.int wi),some (.tup [.int ax,.int ay]),some (.int st),some (.lst ys),e8] S (by omega) rfl
  obtain⟨zs,env',S',e,l,hz,_,_,rfl⟩:=lL (cap:=[none,some 5]) (g:=gNm 0) (t:=zH) (fe:=qY (qA (d2 qT (d2 gIx (qB 1) (dC (.int 0))) (d2 yY (qB 0) (dC (.int 4)))) (qA (d2 qT (d2 gIx (qB 1) (dC (.int 1))) (d2 yO (qB 0) (dC (.int 4)))) (qC)))) (fun env S'=>∃ a,env=[a,some (.tup [.int ax,.int ay])]∧S'=S) (fun d=>qO d=true) hr ⟨none,rfl,rfl⟩ (by rw[List.length_map,List.length_range];unfold lim;omega)
   (fun d env S' hd ⟨a,q1,q2⟩=>by
    subst q1 q2
    obtain⟨i,hi,rfl⟩:=List.mem_map.mp hd
    have hi:=List.mem_range.mp hi
    refine⟨[some (iD i),some (.tup [.int ax,.int ay])],.tup [.int (ax+(i:Int) % 4),.int (ay+(i:Int)/4)],S',rfl,rfl,?_,⟨_,rfl,rfl⟩,pZ (by omega) (by omega)⟩
    refine zU (zS (a:=.int (ax+(i:Int) % 4)) (b:=.int (ay+(i:Int)/4)) (S1:=S') ?_ ?_) (by show 2≤lim;decide)
    ·exact(qU (a:=.int ax) (b:=.int ((i:Int) % 4)) rfl ((qU (a:=.int (i:Int)) rfl rfl).trans (u9 _ _ _ (by omega)))).trans (wF _ _ _)
    ·exact(qU (a:=.int ay) (b:=.int ((i:Int)/4)) rfl ((qU (a:=.int (i:Int)) rfl rfl).trans (kA _ _ _ (by omega)))).trans (wF _ _ _))
  rw[List.length_map,List.length_range] at l
  exact zP e rfl ⟨wi,zs,e8,rfl,lJ hz,by omega,h3⟩
 ·rw[decide_eq_false hw]
  exact zZ rfl ⟨wi,ys,e8,rfl,h1,h2,h3⟩
theorem GP (hm:1≤m∧m≤40)(ha : -400≤ax∧ax≤400)(hb : -400≤ay∧ay≤400)(hst:1≤st∧st≤9)(h:IvL p w m e1 ax ay st env S) :
  Nx (sIf (dTr (d2 gEq (qB 2) (dC (.int 1)))) (zG (qS false [none,some 5,some 6] (wJ (vK (qA (qB 3) (qC)))) (gNm 0) (zH) (qX (qY (qA (d2 qT (d2 gIx (qB 1) (dC (.int 0))) (d2 w5 (qB 2) (qB 0))) (qA (d2 x9 (d2 gIx (qB 1) (dC (.int 1))) (qB 0)) (qC)))))) (gNm 7)) (zI) env S) (IvL p w m e1 ax ay st):=by
 obtain⟨wi,ys,e8,rfl,h1,h2,h3⟩:=h
 refine xG (iV w 1 _ S rfl) ?_
 by_cases hw:(w:Int)=1
 ·rw[decide_eq_true hw]
  have hr:=p7 (qB 3) m [some (.loc p),e1,some (.int (w:Int)),some (.int (m:Int)),some (.int wi),some (.tup [.int ax,.int ay]),some (.int st),some (.lst ys),e8] S (by omega) rfl
  obtain⟨zs,env',S',e,l,hz,_,_,rfl⟩:=lL (cap:=[none,some 5,some 6]) (g:=gNm 0) (t:=zH) (fe:=qY (qA (d2 qT (d2 gIx (qB 1) (dC (.int 0))) (d2 w5 (qB 2) (qB 0))) (qA (d2 x9 (d2 gIx (qB 1) (dC (.int 1))) (qB 0)) (qC)))) (fun env S'=>∃ a,env=[a,some (.tup [.int ax,.int ay]),some (.int st)]∧S'=S) (fun d=>qO d=true) hr ⟨none,rfl,rfl⟩ (by rw[List.length_map,List.length_range];unfold lim;omega)
   (fun d env S' hd ⟨a,q1,q2⟩=>by
    subst q1 q2
    obtain⟨i,hi,rfl⟩:=List.mem_map.mp hd
    have hi:=List.mem_range.mp hi
    have hmul:0≤st*(i:Int)∧st*(i:Int)≤9*39:=⟨Int.mul_nonneg (by omega) (by omega),Int.mul_le_mul (by omega) (by omega) (by omega) (by omega)⟩
    refine⟨[some (iD i),some (.tup [.int ax,.int ay]),some (.int st)],.tup [.int (ax+st*(i:Int)),.int (ay-(i:Int))],S',rfl,rfl,?_,⟨_,rfl,rfl⟩,pZ (by omega) (by omega)⟩
    refine zU (zS (a:=.int (ax+st*(i:Int))) (b:=.int (ay-(i:Int))) (S1:=S') ?_ ?_) (by show 2≤lim;decide)
    ·exact(qU (a:=.int ax) (b:=.int (st*(i:Int))) rfl ((qU (a:=.int st) (b:=.int (i:Int)) rfl rfl).trans (kD _ _ _ (by omega)))).trans (wF _ _ _)
    ·exact(qU (a:=.int ay) (b:=.int (i:Int)) rfl rfl).trans rfl)
  rw[List.length_map,List.length_range] at l
  exact zP e rfl ⟨wi,zs,e8,rfl,lJ hz,by omega,h3⟩
 ·rw[decide_eq_false hw]
  exact zZ rfl ⟨wi,ys,e8,rfl,h1,h2,h3⟩
theorem tT (fe:DE)(hfe:∀ (x y:Int) (S:Sto),∃ x' y':Int,fe [some (.int x),some (.int y)] S=.ok (.tup [.int x',.int y']) S∧((x'=x∨x' = -x)∧(y'=y∨y' = -y)∨(x'=y∨x' = -y)∧(y'=x∨y' = -x)))(ys:List D)(hy:ys.all qO=true)(hl:ys.length≤200)(env:qE)(S:Sto)(h8:env[8]? = some (some (.lst ys))) :
  ∃ zs,qS false [none,none] (dIt (qB 8)) (gTp 2 (qM (gNm 0) (qM (gNm 1) (zR)))) (zH) (qX fe) env S=.ok (.lst zs) S∧zs.all qO=true∧zs.length=ys.length:=by
 have hit:dIt (qB 8) env S=.ok (none,ys) S:=by
  unfold dIt
  rw[xC h8]
  rfl
 obtain⟨zs,env',S',e,l,hz,_,_,_,rfl⟩:=lL (cap:=[none,none]) (g:=gTp 2 (qM (gNm 0) (qM (gNm 1) (zR)))) (t:=zH) (fe:=fe) (fun env S'=>∃ a b,env=[a,b]∧S'=S) (fun d=>qO d=true) hit ⟨none,none,rfl,rfl⟩ (by unfold lim;omega)
  (fun d env S' hd ⟨a,b,q1,q2⟩=>by
   subst q1 q2
   obtain⟨x,y,rfl,hx,hy'⟩:=m8 (List.all_eq_true.mp hy d hd)
   obtain⟨x',y',e,hc⟩:=hfe x y S'
   exact⟨[some (.int x),some (.int y)],_,S',rfl,rfl,e,⟨_,_,rfl,rfl⟩,pZ (by omega) (by omega)⟩)
 exact⟨zs,e,lJ hz,l⟩
theorem jZ {a b:List D}(ha:a.all qO=true)(hb:b.all qO=true):(a++b).all qO=true:=by rw[List.all_append,ha,hb];rfl
theorem UT (ys:List D)(lo hi:Option Int)(h:ys.all qO=true):(x8 ys lo hi).all qO=true:=by
 rw[List.all_eq_true]
 intro y hy
 exact List.all_eq_true.mp h y (List.mem_of_mem_drop (List.mem_of_mem_take hy))
theorem pO (ys:List D)(n:Nat):x8 ys none (some (n:Int))=ys.take n:=by
 unfold x8
 have h1:_H.sIx ys.length 0 none=0:=rfl
 have h2:_H.sIx ys.length ys.length (some (n:Int))=min n ys.length:=by
  show (if (n:Int)<0 then ((n:Int)+(ys.length:Int)).toNat else min (n:Int).toNat ys.length)=_
  rw[if_neg (by omega),Int.toNat_natCast]
 rw[h1,h2,List.drop_zero,Nat.sub_zero]
 rcases Nat.le_total n ys.length with h|h
 ·rw[Nat.min_eq_left h]
 ·rw[Nat.min_eq_right h,List.take_of_length_le h,List.take_of_length_le (Nat.le_refl _)]
theorem GQ (hm:1≤m∧m≤40)(h:IvL p w m e1 ax ay st env S) :
  Nx (sIf (dTr (d2 gEq (qB 2) (dC (.int 2)))) (qN (zG (dSl (qB 7) (zK) (z9 (d2 qT (dC (.int 1)) (d2 yO (qB 3) (dC (.int 4)))))) (gNm 8)) (qN (zG (d2 qT (d2 qT (qB 8) (qS false [none,none] (dIt (qB 8)) (gTp 2 (qM (gNm 0) (qM (gNm 1) (zR)))) (zH) (qX (qY (qA (d2 x9 (dC (.int 0)) (qB 1)) (qA (qB 0) (qC))))))) (qS false [none,none] (dIt (qB 8)) (gTp 2 (qM (gNm 0) (qM (gNm 1) (zR)))) (zH) (qX (qY (qA (d2 x9 (dC (.int 0)) (qB 0)) (qA (d2 x9 (dC (.int 0)) (qB 1)) (qC))))))) (gNm 7)) (zG (d2 qT (qB 7) (qS false [none,none] (dIt (qB 8)) (gTp 2 (qM (gNm 0) (qM (gNm 1) (zR)))) (zH) (qX (qY (qA (qB 1) (qA (d2 x9 (dC (.int 0)) (qB 0)) (qC))))))) (gNm 7)))) (zI) env S) (IvL p w m e1 ax ay st):=by
 obtain⟨wi,ys,e8,rfl,h1,h2,h3⟩:=h
 refine xG (iV w 2 _ S rfl) ?_
 by_cases hw:(w:Int)=2
 ·rw[decide_eq_true hw,if_pos rfl]
  have hs:dSl (qB 7) (zK) (z9 (d2 qT (dC (.int 1)) (d2 yO (qB 3) (dC (.int 4))))) [some (.loc p),e1,some (.int (w:Int)),some (.int (m:Int)),some (.int wi),some (.tup [.int ax,.int ay]),some (.int st),some (.lst ys),e8] S=.ok (.lst (ys.take (1+m/4))) S:=by
   have hd:d2 qT (dC (.int 1)) (d2 yO (qB 3) (dC (.int 4))) [some (.loc p),e1,some (.int (w:Int)),some (.int (m:Int)),some (.int wi),some (.tup [.int ax,.int ay]),some (.int st),some (.lst ys),e8] S=.ok (.int ((1+m/4:Nat):Int)) S:=by
    refine(qU (a:=.int 1) (b:=.int ((m:Int)/4)) rfl ((qU (a:=.int (m:Int)) rfl rfl).trans (kA _ _ _ (by omega)))).trans ?_
    rw[wF,show (1:Int)+(m:Int)/4=((1+m/4:Nat):Int) by omega]
   unfold dSl
   rw[xC (env:=[some (.loc p),e1,some (.int (w:Int)),some (.int (m:Int)),some (.int wi),some (.tup [.int ax,.int ay]),some (.int st),some (.lst ys),e8]) (i:=7) rfl]
   simp only[Res.bind,zK,z9,hd]
   show Res.ok (D.lst (x8 ys none (some ((1+m/4:Nat):Int)))) S=_
   rw[pO]
  have l1:(ys.take (1+m/4)).length≤11:=by rw[List.length_take];omega
  have l0:1≤(ys.take (1+m/4)).length:=by rw[List.length_take];omega
  have ps:(ys.take (1+m/4)).all qO=true:=List.all_eq_true.mpr fun y hy=>List.all_eq_true.mp h1 y (List.mem_of_mem_take hy)
  generalize ys.take (1+m/4)=zs at hs l1 l0 ps
  have l2:2≤lim:=by decide
  refine wZ (zP hs rfl ?_)
  obtain⟨a1,c1,q1,n1⟩:=tT (qY (qA (d2 x9 (dC (.int 0)) (qB 1)) (qA (qB 0) (qC)))) (fun x y S=>⟨0-y,x,zU (zS rfl rfl) l2,by omega⟩) zs ps (by omega) [some (.loc p),e1,some (.int (w:Int)),some (.int (m:Int)),some (.int wi),some (.tup [.int ax,.int ay]),some (.int st),some (.lst ys),some (.lst zs)] S rfl
  obtain⟨a2,c2,q2,n2⟩:=tT (qY (qA (d2 x9 (dC (.int 0)) (qB 0)) (qA (d2 x9 (dC (.int 0)) (qB 1)) (qC)))) (fun x y S=>⟨0-x,0-y,zU (zS rfl rfl) l2,by omega⟩) zs ps (by omega) [some (.loc p),e1,some (.int (w:Int)),some (.int (m:Int)),some (.int wi),some (.tup [.int ax,.int ay]),some (.int st),some (.lst ys),some (.lst zs)] S rfl
  refine wZ (zP (d:=.lst (zs++a1++a2)) (S1:=S) ((qU ((qU rfl c1).trans (yX (by unfold lim;omega) S)) c2).trans (yX (by rw[List.length_append];unfold lim;omega) S)) rfl ?_)
  obtain⟨a3,c3,q3,n3⟩:=tT (qY (qA (qB 1) (qA (d2 x9 (dC (.int 0)) (qB 0)) (qC)))) (fun x y S=>⟨y,0-x,zU (zS rfl rfl) l2,by omega⟩) zs ps (by omega) [some (.loc p),e1,some (.int (w:Int)),some (.int (m:Int)),some (.int wi),some (.tup [.int ax,.int ay]),some (.int st),some (.lst (zs++a1++a2)),some (.lst zs)] S rfl
  refine zP (d:=.lst (zs++a1++a2++a3)) (S1:=S) ((qU rfl c3).trans (yX (by simp only[List.length_append];unfold lim;omega) S)) rfl ⟨wi,_,_,rfl,jZ (jZ (jZ ps q1) q2) q3,?_,h3⟩
  simp only[List.length_append]
  omega
 ·rw[decide_eq_false hw]
  exact zZ rfl ⟨wi,ys,e8,rfl,h1,h2,h3⟩
end
end _K
end
section
namespace _K
open PySem _D
theorem ix5 (r:Nat)(h:r<5)(S:Sto):∃ m:Int,gIx (.lst [.int 1,.int 2,.int 4,.int 12,.int 1000]) (.int (r:Int)) S=.ok (.int m) S∧1≤m∧m≤1000:=by
 match r,h with
 |0,_=>exact⟨1,rfl,by omega⟩
 |1,_=>exact⟨2,rfl,by omega⟩
 |2,_=>exact⟨4,rfl,by omega⟩
 |3,_=>exact⟨12,rfl,by omega⟩
 |4,_=>exact⟨1000,rfl,by omega⟩
theorem LZ (env:qE)(S:Sto):zM (qA (dC (.int 1)) (qA (dC (.int 2)) (qA (dC (.int 4)) (qA (dC (.int 12)) (qA (dC (.int 1000)) (qC)))))) env S=.ok (.lst [.int 1,.int 2,.int 4,.int 12,.int 1000]) S:=by
 have l5:5≤lim:=by decide
 simp[qQ,vX,KL,SB,SA,qN,sIf,qW,zI,w6,zG,gNm,gSb,gTp,qM,zR,pI,DB,mH,LG,dC,qB,d1,d2,qA,qC,qD,qG,dTr,zQ,w8,zH,yN,aJ,dIf,xH,qY,zM,aI,dBm,dSl,z9,zK,yP,vK,Res.bind,Res.toS,_D.vV,_D.v7,SG,SC,MW,SN,SI,SJ,SK,SH,S9,S8,SE,gLt,gLe,gGt,gGe,_D.x9,SL,l5]
theorem iO (zs:List D)(h:zs.all qO=true)(hl:1≤zs.length∧zs.length≤40):∃ xs:List D,uF zs=some xs∧xs.all qO=true∧(1≤xs.length∧xs.length≤40)∧xJ (.tup xs)=true:=by
 obtain⟨ks,rfl⟩:=mB zs h
 rw[List.length_map] at hl
 have pk:∀ k∈ks,qO (tpD k)=true:=fun k hk=>List.all_eq_true.mp h _ (List.mem_map_of_mem hk)
 have hne:∀ k∈ks,k≠[]:=fun k hk z=>by
  subst z
  have:=pk [] hk
  cases this
 have c1:((_S.srt _H.lexLt ks).map tpD).all qO=true:=by
  rw[List.all_map,List.all_eq_true]
  intro k hk
  exact pk k ((_S.yL _S.uD k ks).mp hk)
 have c2:1≤((_S.srt _H.lexLt ks).map tpD).length∧((_S.srt _H.lexLt ks).map tpD).length≤40:=by
  rw[List.length_map]
  refine⟨?_,?_⟩
  ·cases ks with
   |nil=>simp at hl
   |cons k r=>exact List.length_pos_of_mem ((_S.yL _S.uD k (k::r)).mpr (by simp))
  ·have:=tR _H.lexLt ks
   omega
 refine⟨(_S.srt _H.lexLt ks).map tpD,cN ks (by intro z;subst z;simp at hl) (by omega) hne,c1,c2,?_⟩
 show (decide (1≤((_S.srt _H.lexLt ks).map tpD).length∧((_S.srt _H.lexLt ks).map tpD).length≤40)&&((_S.srt _H.lexLt ks).map tpD).all qO&&(match wX ((_S.srt _H.lexLt ks).map tpD) with|some ks=>upB ks|none=>false))=true
 rw[decide_eq_true c2,c1,yG]
 exact(kO _).mpr (_S.uP _S.uD ks)
theorem NV (S:Sto)(p:Nat)(h:xE S p):∃ (xs:List D) (S':Sto),S__law_lot [.loc p,.int 40] S=.ok (.tup xs) S'∧xs.all qO=true∧(1≤xs.length∧xs.length≤40)∧xJ (.tup xs)=true∧xE S' p:=by
 have key:Rt (b__law_lot [some (.loc p),some (.int 40),none,none,none,none,none,none,none] S) fun d S'=>∃ xs,d=.tup xs∧xs.all qO=true∧(1≤xs.length∧xs.length≤40)∧xJ (.tup xs)=true∧xE S' p:=by
  unfold b__law_lot
  obtain⟨w,S1,c1,hw,p1⟩:=w9 (S:=S) (i:=0) (f2:=dC (.int 7)) (env:=[some (.loc p),some (.int 40),none,none,none,none,none,none,none]) (m:=7) h (by omega) rfl rfl
  obtain⟨m0,S2,c2,hm0,p2⟩:=w9 (S:=S1) (i:=0) (f2:=qB 1) (env:=[some (.loc p),some (.int 40),none,none,none,none,none,none,none]) (m:=40) p1 (by omega) rfl rfl
  refine qV (sF c1 (VN c2) ?_)
  clear c1 c2
  have hm:1≤m0+1∧m0+1≤40:=by omega
  generalize m0+1=m at hm
  simp only[List.set_cons_succ,List.set_cons_zero]
  obtain⟨k,S3,c3,hk,p3⟩:=w9 (S:=S2) (i:=0) (f2:=dC (.int 5)) (env:=[some (.loc p),some (.int 40),some (.int (w:Int)),some (.int (m:Int)),none,none,none,none,none]) (m:=5) p2 (by omega) rfl rfl
  obtain⟨wi,hwi,w1,w2⟩:=ix5 k (by omega) S3
  obtain⟨ax,ay,S4,c4,ha,hb,p4⟩:=b6 S3 p 400 p3 (by omega)
  have l2:2≤lim:=by decide
  refine qV (zP (zU (zS ((qU (LZ _ _) c3).trans hwi) ((vI (a:=.loc p) (b:=.int 400) rfl rfl).trans c4)) l2) (env1:=[some (.loc p),some (.int 40),some (.int (w:Int)),some (.int (m:Int)),some (.int wi),some (.tup [.int ax,.int ay]),none,none,none]) (S2:=S4) rfl ?_)
  clear c3 c4 hwi
  obtain⟨s0,S5,c5,hs0,p5⟩:=w9 (S:=S4) (i:=0) (f2:=dC (.int 9)) (env:=[some (.loc p),some (.int 40),some (.int (w:Int)),some (.int (m:Int)),some (.int wi),some (.tup [.int ax,.int ay]),none,none,none]) (m:=9) p4 (by omega) rfl rfl
  refine qV (zP (VN c5) rfl ?_)
  clear c5
  have hst:(1:Int)≤((s0+1:Nat):Int)∧((s0+1:Nat):Int)≤9:=by omega
  generalize ((s0+1:Nat):Int)=st at hst
  simp only[List.set_cons_succ,List.set_cons_zero]
  have hr:=p7 (qB 3) m [some (.loc p),some (.int 40),some (.int (w:Int)),some (.int (m:Int)),some (.int wi),some (.tup [.int ax,.int ay]),some (.int st),none,none] S5 (by omega) rfl
  obtain⟨ys,env',S6,c6,l6,h6,_,_,p6⟩:=lL (cap:=[none,some 0,some 4]) (g:=gNm 0) (t:=zH) (fe:=qG 2 (okO S__law_point) (qA (qB 1) (qA (qB 2) (qC)))) (fun env S'=>∃ a,env=[a,some (.loc p),some (.int wi)]∧xE S' p) (fun d=>qO d=true) hr ⟨none,rfl,p5⟩ (by rw[List.length_map,List.length_range];unfold lim;omega)
   (fun d env S' hd ⟨a,q1,q2⟩=>by
    subst q1
    obtain⟨x,y,S'',e,hx,hy,p''⟩:=b6 S' p wi q2 (by omega)
    exact⟨[some d,some (.loc p),some (.int wi)],_,S'',rfl,rfl,(vI (a:=.loc p) (b:=.int wi) rfl rfl).trans (kI e),⟨_,rfl,p''⟩,pZ (by omega) (by omega)⟩)
  rw[List.length_map,List.length_range] at l6
  refine qV (zP c6 rfl ?_)
  clear c6 hr
  simp only[List.set_cons_succ,List.set_cons_zero]
  have I0:IvL p w m (some (.int 40)) ax ay st [some (.loc p),some (.int 40),some (.int (w:Int)),some (.int (m:Int)),some (.int wi),some (.tup [.int ax,.int ay]),some (.int st),some (.lst ys),none] S6:=⟨wi,ys,none,rfl,lJ h6,by omega,p6⟩
  obtain⟨env1,T1,e1,I1⟩:=GO hm ha hb I0
  refine qV ⟨env1,T1,e1,?_⟩
  obtain⟨env2,T2,e2,I2⟩:=GP hm ha hb hst I1
  refine qV ⟨env2,T2,e2,?_⟩
  obtain⟨env3,T3,e3,I3⟩:=GQ hm I2
  refine qV ⟨env3,T3,e3,?_⟩
  obtain⟨wi',zs,e8,rfl,z1,z2,z3⟩:=I3
  have ht:(zs.take m).all qO=true:=List.all_eq_true.mpr fun y hy=>List.all_eq_true.mp z1 y (List.mem_of_mem_take hy)
  have htl:1≤(zs.take m).length∧(zs.take m).length≤40:=by rw[List.length_take];omega
  obtain⟨xs,hs,x1,x2,x4⟩:=iO (zs.take m) ht htl
  have hc:dSl (qB 7) (zK) (z9 (qB 3)) [some (.loc p),some (.int 40),some (.int (w:Int)),some (.int (m:Int)),some (.int wi'),some (.tup [.int ax,.int ay]),some (.int st),some (.lst zs),e8] T3=.ok (.lst (zs.take m)) T3:=by
   show Res.ok (D.lst (x8 zs none (some (m:Int)))) T3=_
   rw[pO]
  have hd:yB (dSl (qB 7) (zK) (z9 (qB 3))) [some (.loc p),some (.int 40),some (.int (w:Int)),some (.int (m:Int)),some (.int wi'),some (.tup [.int ax,.int ay]),some (.int st),some (.lst zs),e8] T3=.ok (.lst xs) T3:=by
   unfold yB
   rw[hc]
   simp only[Res.bind,bY,Option.bind_some,hs]
  exact xI (zV ((xW hd).trans rfl) ⟨xs,rfl,x1,x2,x4,z3⟩)
 obtain⟨d,S',e,xs,rfl,x1,x2,x4,x3⟩:=key
 rw[gH]
 exact⟨xs,S',jE rfl e,x1,x2,x4,x3⟩
end _K
end
section
namespace _K
open PySem _D
theorem wR {xs ys:List D}(h:xs.length+ys.length≤lim)(S:Sto):qT (.tup xs) (.tup ys) S=.ok (.tup (xs++ys)) S:=if_pos h
theorem mS (env:qE)(S:Sto):qC env S=.ok [] S:=rfl
def sG:List D:=[.int 1001,.int (-1001),.bl true,.bl false,.non,.str "0",.tup [.int 0],.int 100000000000000000000000000000,.lst [.int 0],.dct0]
def NP (d:D):Prop:=∃ hl hd,(hl&&hd)=false∧xD 3 40 hl hd d
theorem F8:xD 0 0 false false (.int 0):=xZ (by decide)
theorem o2:(PyData.shown (.int 100000000000000000000000000000)).length≤40:=kd
theorem VL:∀ x∈[D.int 0],xD 0 0 false false x:=fun x hx=>by rw[List.mem_singleton.mp hx];exact F8
theorem KG:∀ d∈sG,∃ hl hd,(hl&&hd)=false∧xD 1 3 hl hd d:=by
 intro d hd
 simp only[sG,List.mem_cons,List.not_mem_nil,or_false] at hd
 rcases hd with rfl|rfl|rfl|rfl|rfl|rfl|rfl|rfl|rfl|rfl
 ·exact⟨false,false,rfl,(xZ (by decide)).mono (by omega) (by omega) id id⟩
 ·exact⟨false,false,rfl,(xZ (by decide)).mono (by omega) (by omega) id id⟩
 ·exact⟨false,false,rfl,(VF _).mono (by omega) (by omega) id id⟩
 ·exact⟨false,false,rfl,(VF _).mono (by omega) (by omega) id id⟩
 ·exact⟨false,false,rfl,sB.mono (by omega) (by omega) id id⟩
 ·exact⟨false,false,rfl,(sC _ (kd) (by decide)).mono (by omega) (by omega) id id⟩
 ·exact⟨false,false,rfl,(vM (m:=1) VL (by simp)).mono (by omega) (by omega) id id⟩
 ·exact⟨false,false,rfl,(QJ o2 (kd)).mono (by omega) (by omega) id id⟩
 ·exact⟨true,false,rfl,(sA (m:=1) VL (by simp)).mono (by omega) (by omega) id id⟩
 ·exact⟨false,true,rfl,dZ.mono (by omega) (by omega) id id⟩
theorem KE (env:qE)(S:Sto):zM (qA (dC (.int 1001)) (qA (d1 yZ (dC (.int 1001))) (qA (dC (.bl true)) (qA (dC (.bl false)) (qA (dC .non) (qA (dC (.str "0")) (qA (qY (qA (dC (.int 0)) (qC))) (qA (d2 gX (dC (.int 10)) (dC (.int 29))) (qA (zM (qA (dC (.int 0)) (qC))) (qA (uU) (qC))))))))))) env S=.ok (.lst sG) S:=by
 have l1:1≤lim:=by decide
 have l10:10≤lim:=by decide
 refine xY (qZ rfl (qZ rfl (qZ rfl (qZ rfl (qZ rfl (qZ rfl (qZ (zU (wK rfl) l1) (qZ (Z5 S) (qZ (xY (wK rfl) l1) (qZ rfl (mS _ _))))))))))) l10
def pt0 (x y:Int):D:=.tup [.int x,.int y]
def wP (x y:Int)(o:D):Nat→List D
 |0=>[o,.int y]
 |_=>[.int x,o]
theorem UI (x y:Int)(o:D)(a:Nat)(ha:a<2)(env:qE)(S:Sto)(h1:env[1]? = some (some (pt0 x y)))(h3:env[3]? = some (some (.int (a:Int))))(h4:env[4]? = some (some o)) :
  d2 qT (d2 qT (dSl (qB 1) (zK) (z9 (qB 3))) (qY (qA (qB 4) (qC)))) (dSl (qB 1) (z9 (d2 qT (qB 3) (dC (.int 1)))) (zK)) env S=.ok (.tup (wP x y o a)) S:=by
 have l1:1≤lim:=by decide
 have hs:dSl (qB 1) (zK) (z9 (qB 3)) env S=.ok (.tup (x8 [.int x,.int y] none (some (a:Int)))) S:=by
  simp only[dSl,xC h1,xC h3,Res.bind,zK,z9]
  rfl
 have ht:dSl (qB 1) (z9 (d2 qT (qB 3) (dC (.int 1)))) (zK) env S=.ok (.tup (x8 [.int x,.int y] (some ((a:Int)+1)) none)) S:=by
  simp only[dSl,xC h1,Res.bind,zK,z9,qU (o:=qT) (xC (S:=S) h3) (show dC (.int 1) env S=.ok (.int 1) S from rfl),wF]
  rfl
 have ho:=zU (wK (xC (S:=S) h4)) l1
 match a,ha with
 |0,_ =>
  rw[qU ((qU hs ho).trans (wR (by show 1≤lim;decide) S)) ht,wR (by show 2≤lim;decide)]
  rfl
 |1,_ =>
  rw[qU ((qU hs ho).trans (wR (by show 2≤lim;decide) S)) ht,wR (by show 2≤lim;decide)]
  rfl
def i7 (x y:Int)(b:D):List D:=[b,b,b,b,.tup [.int x],.tup [.int x,.int y,.int 0],.lst [.int x,.int y],.non,.int 7,.str "0,0",.dct0,.tup [pt0 x y]]
theorem WZ (x y:Int)(b:D)(hx : -1000≤x∧x≤1000)(hy : -1000≤y∧y≤1000)(hb:NP b):∀ d∈i7 x y b,NP d:=by
 have nx:xD 0 0 false false (.int x):=xZ (by omega)
 have ny:xD 0 0 false false (.int y):=xZ (by omega)
 intro d hd
 simp only[i7,List.mem_cons,List.not_mem_nil,or_false] at hd
 rcases hd with rfl|rfl|rfl|rfl|rfl|rfl|rfl|rfl|rfl|rfl|rfl|rfl
 ·exact hb
 ·exact hb
 ·exact hb
 ·exact hb
 ·refine⟨false,false,rfl,(vM (k:=0) (b:=0) (m:=1) (fun z hz=>?_) (by simp)).mono (by omega) (by omega) id id⟩
  rw[List.mem_singleton.mp hz];exact nx
 ·refine⟨false,false,rfl,(vM (k:=0) (b:=0) (m:=3) (fun z hz=>?_) (by simp)).mono (by omega) (by omega) id id⟩
  simp only[List.mem_cons,List.not_mem_nil,or_false] at hz
  rcases hz with rfl|rfl|rfl
  ·exact nx
  ·exact ny
  ·exact F8
 ·refine⟨true,false,rfl,(sA (k:=0) (b:=0) (hl:=false) (m:=2) (fun z hz=>?_) (by simp)).mono (by omega) (by omega) id id⟩
  simp only[List.mem_cons,List.not_mem_nil,or_false] at hz
  rcases hz with rfl|rfl
  ·exact nx
  ·exact ny
 ·exact⟨false,false,rfl,sB.mono (by omega) (by omega) id id⟩
 ·exact⟨false,false,rfl,(xZ (by decide)).mono (by omega) (by omega) id id⟩
 ·exact⟨false,false,rfl,(sC _ (kd) (by decide)).mono (by omega) (by omega) id id⟩
 ·exact⟨false,true,rfl,dZ.mono (by omega) (by omega) id id⟩
 ·refine⟨false,false,rfl,(vM (k:=1) (b:=2) (m:=1) (fun z hz=>?_) (by simp)).mono (by omega) (by omega) id id⟩
  rw[List.mem_singleton.mp hz];exact m9 (pZ hx hy)
theorem UJ (x y:Int)(o:D)(a:Nat)(hx : -1000≤x∧x≤1000)(hy : -1000≤y∧y≤1000)(ho:o∈sG):NP (.tup (wP x y o a)):=by
 obtain⟨hl,hd,h1,h2⟩:=KG o ho
 have nx:xD 1 3 hl hd (.int x):=(xZ (by omega)).mono (by omega) (by omega) (fun z=>by cases z) (fun z=>by cases z)
 have ny:xD 1 3 hl hd (.int y):=(xZ (by omega)).mono (by omega) (by omega) (fun z=>by cases z) (fun z=>by cases z)
 refine⟨hl,hd,h1,(vM (k:=1) (b:=3) (m:=2) (fun z hz=>?_) ?_).mono (by omega) (by omega) id id⟩
 ·cases a with
  |zero =>
   simp only[wP,List.mem_cons,List.not_mem_nil,or_false] at hz
   rcases hz with rfl|rfl
   ·exact h2
   ·exact ny
  |succ a =>
   simp only[wP,List.mem_cons,List.not_mem_nil,or_false] at hz
   rcases hz with rfl|rfl
   ·exact nx
   ·exact h2
 ·cases a <;> exact Nat.le_refl _
theorem iG (S:Sto)(p:Nat)(x y:Int)(h:xE S p)(hx : -1000≤x∧x≤1000)(hy : -1000≤y∧y≤1000):∃ (d:D) (S':Sto),S__law_no_point [.loc p,pt0 x y] S=.ok d S'∧NP d∧xE S' p:=by
 have key:Rt (b__law_no_point [some (.loc p),some (pt0 x y),none,none,none,none,none] S) fun d S'=>NP d∧xE S' p:=by
  unfold b__law_no_point
  obtain⟨w,S1,c1,hw,p1⟩:=w9 (S:=S) (i:=0) (f2:=dC (.int 12)) (env:=[some (.loc p),some (pt0 x y),none,none,none,none,none]) (m:=12) h (by omega) rfl rfl
  obtain⟨a,S2,c2,ha,p2⟩:=w9 (S:=S1) (i:=0) (f2:=dC (.int 2)) (env:=[some (.loc p),some (pt0 x y),none,none,none,none,none]) (m:=2) p1 (by omega) rfl rfl
  refine qV (sF c1 c2 ?_)
  clear c1 c2
  simp only[List.set_cons_succ,List.set_cons_zero]
  obtain⟨k,S3,c3,hk,p3⟩:=w9 (S:=S2) (i:=0) (f2:=dC (.int 10)) (env:=[some (.loc p),some (pt0 x y),some (.int (w:Int)),some (.int (a:Int)),none,none,none]) (m:=10) p2 (by omega) rfl rfl
  obtain⟨o,ho,ho'⟩:=k7 sG (k:Int) ⟨by omega,by show (k:Int)<10;omega⟩
  refine qV (zP ((qU (KE _ _) c3).trans (kB ho S3)) rfl ?_)
  clear c3
  simp only[List.set_cons_succ,List.set_cons_zero]
  refine qV (zP (UI x y o a (by omega) _ S3 rfl rfl rfl) rfl ?_)
  simp only[List.set_cons_succ,List.set_cons_zero]
  have l10:10≤lim:=by decide
  have l2:2≤lim:=by decide
  have l1:1≤lim:=by decide
  have h3:d2 qT (qB 1) (qY (qA (dC (.int 0)) (qC))) [some (.loc p),some (pt0 x y),some (.int (w:Int)),some (.int (a:Int)),some o,some (.tup (wP x y o a)),none] S3=.ok (.tup [.int x,.int y,.int 0]) S3:=
   (qU (a:=pt0 x y) (b:=.tup [.int 0]) rfl (zU (wK rfl) l1)).trans (wR (by show 3≤lim;decide) S3)
  refine qV (zP (xY (qZ (a:=.tup (wP x y o a)) rfl (qZ (a:=.tup (wP x y o a)) rfl (qZ (a:=.tup (wP x y o a)) rfl (qZ (a:=.tup (wP x y o a)) rfl (qZ (a:=.tup [.int x]) rfl (qZ h3 (qZ (a:=.lst [.int x,.int y]) rfl (qZ (a:=.non) rfl (qZ (a:=.int 7) rfl (qZ (a:=.str "0,0") rfl (mS _ _))))))))))) l10) rfl ?_)
  simp only[List.set_cons_succ,List.set_cons_zero]
  obtain⟨d,hd,hd'⟩:=k7 (i7 x y (.tup (wP x y o a))) (w:Int) ⟨by omega,by show (w:Int)<12;omega⟩
  have hl:zM (qA (uU) (qA (qY (qA (qB 1) (qC))) (qC))) [some (.loc p),some (pt0 x y),some (.int (w:Int)),some (.int (a:Int)),some o,some (.tup (wP x y o a)),some (.lst [.tup (wP x y o a),.tup (wP x y o a),.tup (wP x y o a),.tup (wP x y o a),.tup [.int x],.tup [.int x,.int y,.int 0],.lst [.int x,.int y],.non,.int 7,.str "0,0"])] S3=.ok (.lst [.dct0,.tup [pt0 x y]]) S3:=xY (zS rfl (zU (wK rfl) l1)) l2
  exact xI (zV ((qU ((qU rfl hl).trans (yX (by show 12≤lim;decide) S3)) rfl).trans (kB hd S3)) ⟨WZ x y _ hx hy (UJ x y o a hx hy ho') d hd',p3⟩)
 obtain⟨d,S',e,n,p'⟩:=key
 rw[uN]
 exact⟨d,S',jE rfl e,n,p'⟩
end _K
end
section
namespace _K
open PySem _D
theorem dA (ys:List D)(n:Nat)(h:n≤ys.length):x8 ys (some (n:Int)) none=ys.drop n:=by
 unfold x8
 have h1:_H.sIx ys.length ys.length none=ys.length:=rfl
 have h2:_H.sIx ys.length 0 (some (n:Int))=min n ys.length:=by
  show (if (n:Int)<0 then ((n:Int)+(ys.length:Int)).toNat else min (n:Int).toNat ys.length)=_
  rw[if_neg (by omega),Int.toNat_natCast]
 rw[h1,h2,Nat.min_eq_left h]
 exact List.take_of_length_le (by rw[List.length_drop];exact Nat.le_refl _)
theorem dB (ys:List D)(h:1≤ys.length):(x8 ys (some (-1)) none).length≤1:=by
 unfold x8
 have h1:_H.sIx ys.length ys.length none=ys.length:=rfl
 have h2:_H.sIx ys.length 0 (some (-1))=ys.length-1:=by
  show (if (-1:Int)<0 then ((-1:Int)+(ys.length:Int)).toNat else min (-1:Int).toNat ys.length)=_
  rw[if_pos (by omega)]
  omega
 rw[h1,h2,List.length_take]
 omega
theorem mK (n:Nat):_H.stepN n (-1)=n:=by
 unfold _H.stepN _H.stepLo _H.stepHi Builtin.Slice.sliceAdjust Builtin.Slice.slicePlaces
 simp
 split <;> omega
theorem YQ {xs:List D}{k:Int}{x:D}(h:x∈_H.stepL xs k):x∈xs:=by
 unfold _H.stepL at h
 obtain⟨m,_,e⟩:=List.mem_filterMap.mp h
 exact List.mem_of_getElem? e
theorem YR {xs:List D}{k:Int}(h:xs.all qO=true):(_H.stepL xs k).all qO=true:=List.all_eq_true.mpr fun x hx=>List.all_eq_true.mp h x (YQ hx)
theorem GF (xs:List D)(k:Int)(f:DE)(env:qE)(i:Nat)(S:Sto)(hi:env[i]? = some (some (.tup xs)))(hf:f env S=.ok (.int k) S)(h:k≠0∧k≠1∧_H.stepN xs.length k≤lim):pQ (qB i) f env S=.ok (.tup (_H.stepL xs k)) S:=by
 unfold pQ
 rw[qU (xC hi) hf]
 exact if_pos h
theorem JN (k n:Nat)(hk:1≤k∧k≤8)(hn:n≤41)(env:qE)(S:Sto):qD xX (qA (qS false [none] (wJ (vK (qA (dC (.int (n:Int))) (qC)))) (gNm 0) (zH) (qX (qY (qA (d2 yO (qB 0) (dC (.int (k:Int)))) (qA (d2 yY (qB 0) (dC (.int (k:Int)))) (qC)))))) (qC)) env S=.ok (.tup ((List.range n).map fun i:Nat=>D.tup [.int ((i:Int)/k),.int ((i:Int) % k)])) S:=by
 have hr:=p7 (dC (.int (n:Int))) n env S (by omega) rfl
 have l2:2≤lim:=by decide
 have hc:=pN (enc:=iD) (cap:=[none]) (g:=gNm 0) (t:=zH) (fe:=qY (qA (d2 yO (qB 0) (dC (.int (k:Int)))) (qA (d2 yY (qB 0) (dC (.int (k:Int)))) (qC)))) hr trivial (fun _=>true) (fun i:Nat=>.tup [.int ((i:Int)/k),.int ((i:Int) % k)]) (fun env=>∃ a,env=[a]) ⟨none,rfl⟩ (by rw[List.length_range];unfold lim;omega)
  (fun i _ env ⟨a,q⟩=>by
   subst q
   exact⟨[some (iD i)],rfl,⟨_,rfl⟩,rfl,fun _=>zU (zS ((qU (a:=.int (i:Int)) (b:=.int (k:Int)) rfl rfl).trans (kA _ _ _ (by omega))) ((qU (a:=.int (i:Int)) (b:=.int (k:Int)) rfl rfl).trans (u9 _ _ _ (by omega)))) l2⟩)
 rw[vA] at hc
 exact(xW hc).trans rfl
theorem WN (k n:Nat)(hk:1≤k∧k≤8)(hn:n≤41):((List.range n).map fun i:Nat=>D.tup [.int ((i:Int)/k),.int ((i:Int) % k)]).all qO=true:=by
 rw[List.all_map,List.all_eq_true]
 intro i hi
 have hi:=List.mem_range.mp hi
 have h0:(0:Int)<(k:Int):=by omega
 have h1:=Int.emod_nonneg (i:Int) (show (k:Int)≠0 by omega)
 have h2:=Int.emod_lt_of_pos (i:Int) h0
 have h3:(0:Int)≤(i:Int)/k:=Int.ediv_nonneg (by omega) (by omega)
 have h4:(i:Int)/k≤i:=Int.ediv_le_self _ (by omega)
 exact pZ (by omega) (by omega)
def pC (xs:List D)(b:D)(a:Nat):List D:=[b,b,.lst xs,.tup (_H.stepL xs (-1)),.tup (xs++x8 xs (some (-1)) none),.tup (xs.take (a+1)++xs.drop a),.tup [],.non,.int 7,.str "0,0",.dct0]
theorem YS {i:Int}(h:i.natAbs<10 ^ 12):Th (.int i):=⟨false,false,rfl,(xZ h).mono (by omega) (by omega) id id⟩
theorem LA {d:D}(h:qO d=true):Th d:=⟨false,false,rfl,(m9 h).mono (by omega) (by omega) id id⟩
theorem GJ:Th (.str "0,0"):=⟨false,false,rfl,(sC _ (kd) (by decide)).mono (by omega) (by omega) id id⟩
theorem MQ:Th .dct0:=⟨false,true,rfl,dZ.mono (by omega) (by omega) id id⟩
theorem MS:Th .non:=⟨false,false,rfl,sB.mono (by omega) (by omega) id id⟩
theorem MR {xs:List D}(h:xs.all qO=true)(hl:xs.length≤41):Th (.lst xs):=⟨true,false,rfl,(sA (k:=1) (b:=2) (hl:=false) (m:=41) (fun z hz=>m9 (List.all_eq_true.mp h z hz)) hl).mono (by omega) (by omega) id id⟩
theorem XS (xs:List D)(h:xs.all qO=true)(hl:xs.length≤40)(o:D)(ho:NP o)(a:Nat):Th (.tup (xs.take a++[o]++xs.drop (a+1))):=by
 obtain⟨hl',hd,h1,h2⟩:=ho
 refine⟨hl',hd,h1,(vM (k:=3) (b:=40) (m:=41) (fun z hz=>?_) ?_).mono (by omega) (by omega) id id⟩
 ·have pt:∀ z∈xs,xD 3 40 hl' hd z:=fun z hz=>(m9 (List.all_eq_true.mp h z hz)).mono (by omega) (by omega) (fun z=>by cases z) (fun z=>by cases z)
  rcases List.mem_append.mp hz with hz|hz
  ·rcases List.mem_append.mp hz with hz|hz
   ·exact pt z (List.mem_of_mem_take hz)
   ·rw[List.mem_singleton.mp hz];exact h2
  ·exact pt z (List.mem_of_mem_drop hz)
 ·simp only[List.length_append,List.length_take,List.length_drop,List.length_cons,List.length_nil]
  omega
theorem QU (xs:List D)(h:xs.all qO=true)(hl:1≤xs.length∧xs.length≤40)(b:D)(hb:Th b)(a:Nat)(ha:a<xs.length):∀ d∈pC xs b a,Th d:=by
 intro d hd
 simp only[pC,List.mem_cons,List.not_mem_nil,or_false] at hd
 rcases hd with rfl|rfl|rfl|rfl|rfl|rfl|rfl|rfl|rfl|rfl|rfl
 ·exact hb
 ·exact hb
 ·exact MR h (by omega)
 ·exact uQ (YR h) (Nat.le_trans (_H.stepL_length _ _) (by rw[mK];omega))
 ·refine uQ (jZ h (UT xs _ _ h)) ?_
  have:=dB xs hl.1
  rw[List.length_append]
  omega
 ·refine uQ (jZ (List.all_eq_true.mpr fun y hy=>List.all_eq_true.mp h y (List.mem_of_mem_take hy)) (List.all_eq_true.mpr fun y hy=>List.all_eq_true.mp h y (List.mem_of_mem_drop hy))) ?_
  simp only[List.length_append,List.length_take,List.length_drop]
  omega
 ·exact uQ rfl (by simp)
 ·exact MS
 ·exact YS (by decide)
 ·exact GJ
 ·exact MQ
theorem fV {xs:List D}{k:Int}{d:D}(h:_L.atI xs k=some d)(S:Sto):gIx (.tup xs) (.int k) S=.ok d S:=by
 show _D.v7 (_L.atI xs k) S=_
 rw[h]
 rfl
theorem iR {d:D}(h:Th d):Pn d:=by
 obtain⟨x,hx⟩:=h.repr
 exact KS hx
theorem YF (S:Sto)(p:Nat)(xs:List D)(h:xE S p)(hx:xs.all qO=true)(hl:1≤xs.length∧xs.length≤40):∃ (d:D) (S':Sto),S__law_no_lot [.loc p,.tup xs] S=.ok d S'∧Th d∧xJ d=false∧xE S' p:=by
 have key:Rt (b__law_no_lot [some (.loc p),some (.tup xs),none,none,none,none,none,none] S) fun d S'=>Th d∧xJ d=false∧xE S' p:=by
  unfold b__law_no_lot
  obtain⟨w,S1,c1,hw,p1⟩:=w9 (S:=S) (i:=0) (f2:=dC (.int 14)) (env:=[some (.loc p),some (.tup xs),none,none,none,none,none,none]) (m:=14) h (by omega) rfl rfl
  obtain⟨a,S2,c2,ha,p2⟩:=w9 (S:=S1) (i:=0) (f2:=qD zT (qA (qB 1) (qC))) (env:=[some (.loc p),some (.tup xs),none,none,none,none,none,none]) (m:=(xs.length:Int)) p1 (by omega) rfl ((xW (f1:=qB 1) rfl).trans (bR xs S1))
  refine qV (sF c1 c2 ?_)
  clear c1 c2
  simp only[List.set_cons_succ,List.set_cons_zero]
  have l1:1≤lim:=by decide
  have l3:3≤lim:=by decide
  have l11:11≤lim:=by decide
  have ha':a<xs.length:=by omega
  obtain⟨q,hq,hq'⟩:=k7 xs (a:Int) ⟨by omega,ha⟩
  obtain⟨x,y,rfl,bx,by'⟩:=m8 (List.all_eq_true.mp hx q hq')
  obtain⟨o,S3,c3,ho,p3⟩:=iG S2 p x y p2 bx by'
  have s1:dSl (qB 1) (zK) (z9 (qB 3)) [some (.loc p),some (.tup xs),some (.int (w:Int)),some (.int (a:Int)),none,none,none,none] S2=.ok (.tup (xs.take a)) S2:=by
   show Res.ok (D.tup (x8 xs none (some (a:Int)))) S2=_
   rw[pO]
  have s2:dSl (qB 1) (z9 (d2 qT (qB 3) (dC (.int 1)))) (zK) [some (.loc p),some (.tup xs),some (.int (w:Int)),some (.int (a:Int)),none,none,none,none] S3=.ok (.tup (xs.drop (a+1))) S3:=by
   show Res.ok (D.tup (x8 xs (some ((a:Int)+1)) none)) S3=_
   rw[show (a:Int)+1=((a+1:Nat):Int) by omega,dA xs (a+1) (by omega)]
  have s3:qY (qA (qG 2 S__law_no_point (qA (qB 0) (qA (d2 gIx (qB 1) (qB 3)) (qC)))) (qC)) [some (.loc p),some (.tup xs),some (.int (w:Int)),some (.int (a:Int)),none,none,none,none] S2=.ok (.tup [o]) S3:=
   zU (wK ((vI (a:=.loc p) (b:=pt0 x y) rfl ((qU (a:=.tup xs) (b:=.int (a:Int)) rfl rfl).trans (fV hq S2))).trans c3)) l1
  have b1:(xs.take a).length+[o].length≤lim:=by
   rw[List.length_take]
   show _+1≤lim
   unfold lim
   omega
  have b2:(xs.take a++[o]).length+(xs.drop (a+1)).length≤lim:=by
   simp only[List.length_append,List.length_take,List.length_drop,List.length_cons,List.length_nil]
   unfold lim
   omega
  refine qV (zP ((qU ((qU s1 s3).trans (wR b1 S3)) s2).trans (wR b2 S3)) rfl ?_)
  clear s1 s2 s3 c3
  have hb:=XS xs hx hl.2 o ho a
  generalize D.tup (xs.take a++[o]++xs.drop (a+1))=b at hb
  simp only[List.set_cons_succ,List.set_cons_zero]
  have i4:pQ (qB 1) (d1 yZ (dC (.int 1))) [some (.loc p),some (.tup xs),some (.int (w:Int)),some (.int (a:Int)),some b,none,none,none] S3=.ok (.tup (_H.stepL xs (-1))) S3:=
   GF xs (-1) _ _ 1 S3 rfl rfl ⟨by omega,by omega,by rw[mK];unfold lim;omega⟩
  have i5:d2 qT (qB 1) (dSl (qB 1) (z9 (d1 yZ (dC (.int 1)))) (zK)) [some (.loc p),some (.tup xs),some (.int (w:Int)),some (.int (a:Int)),some b,none,none,none] S3=.ok (.tup (xs++x8 xs (some (-1)) none)) S3:=
   (qU (a:=.tup xs) (b:=.tup (x8 xs (some (-1)) none)) rfl rfl).trans (wR (by have:=dB xs hl.1;unfold lim;omega) S3)
  have t1:dSl (qB 1) (zK) (z9 (d2 qT (qB 3) (dC (.int 1)))) [some (.loc p),some (.tup xs),some (.int (w:Int)),some (.int (a:Int)),some b,none,none,none] S3=.ok (.tup (xs.take (a+1))) S3:=by
   show Res.ok (D.tup (x8 xs none (some ((a:Int)+1)))) S3=_
   rw[show (a:Int)+1=((a+1:Nat):Int) by omega,pO]
  have t2:dSl (qB 1) (z9 (qB 3)) (zK) [some (.loc p),some (.tup xs),some (.int (w:Int)),some (.int (a:Int)),some b,none,none,none] S3=.ok (.tup (xs.drop a)) S3:=by
   show Res.ok (D.tup (x8 xs (some (a:Int)) none)) S3=_
   rw[dA xs a (by omega)]
  have i6:=(qU t1 t2).trans (wR (by simp only[List.length_take,List.length_drop];unfold lim;omega) S3)
  have z0:∀ env:qE,qY (qC) env S3=.ok (.tup []) S3:=fun env=>zU (mS _ _) (by show 0≤lim;decide)
  refine qV (zP (d:=.lst (pC xs b a)) (S1:=S3) (xY (qZ rfl (qZ rfl (qZ (a:=.lst xs) rfl (qZ i4 (qZ i5 (qZ i6 (qZ (z0 _) (qZ rfl (qZ rfl (qZ rfl (qZ rfl (mS _ _)))))))))))) l11) rfl ?_)
  clear i4 i5 i6 t1 t2
  have hno:=QU xs hx hl b hb a ha'
  have nl:(pC xs b a).length=11:=rfl
  generalize pC xs b a=L at hno nl
  simp only[List.set_cons_succ,List.set_cons_zero]
  refine qV (zP (JN 8 41 (by omega) (by omega) _ S3) rfl ?_)
  have gp:=WN 8 41 (by omega) (by omega)
  have gl:((List.range 41).map fun i:Nat=>D.tup [.int ((i:Int)/(8:Nat)),.int ((i:Int) % (8:Nat))]).length≤41:=by simp
  generalize ((List.range 41).map fun i:Nat=>D.tup [.int ((i:Int)/(8:Nat)),.int ((i:Int) % (8:Nat))])=G at gp gl
  simp only[List.set_cons_succ,List.set_cons_zero]
  obtain⟨q0,hq0,hq0'⟩:=k7 xs 0 ⟨by omega,by omega⟩
  have h3:zM (qA (qY (qA (qB 1) (qC))) (qA (qB 6) (qA (d2 gIx (qB 1) (dC (.int 0))) (qC)))) [some (.loc p),some (.tup xs),some (.int (w:Int)),some (.int (a:Int)),some b,some (.lst L),some (.tup G),none] S3=.ok (.lst [.tup [.tup xs],.tup G,q0]) S3:=
   xY (qZ (zU (wK rfl) l1) (zS rfl ((qU (a:=.tup xs) (b:=.int 0) rfl rfl).trans (fV hq0 S3)))) l3
  have hall:∀ d∈L++[.tup [.tup xs],.tup G,q0],Th d:=by
   intro d hd
   rcases List.mem_append.mp hd with hd|hd
   ·exact hno d hd
   ·simp only[List.mem_cons,List.not_mem_nil,or_false] at hd
    rcases hd with rfl|rfl|rfl
    ·refine⟨false,false,rfl,(vM (k:=2) (b:=123) (m:=1) (fun z hz=>?_) (by simp)).mono (by omega) (by omega) id id⟩
     rw[List.mem_singleton.mp hz]
     exact Z6 hx (by omega)
    ·exact uQ gp gl
    ·exact LA (List.all_eq_true.mp hx _ hq0')
  obtain⟨d,hd,hd'⟩:=k7 (L++[.tup [.tup xs],.tup G,q0]) (w:Int) ⟨by omega,by rw[List.length_append,nl];show (w:Int)<((11+3:Nat):Int);omega⟩
  have td:=hall d hd'
  refine qV (zP ((qU ((qU rfl h3).trans (yX (by rw[nl];show 14≤lim;decide) S3)) rfl).trans (kB hd S3)) rfl ?_)
  clear h3
  simp only[List.set_cons_succ,List.set_cons_zero]
  have hi:=wW ((vH (f1:=qB 7) (env:=[some (.loc p),some (.tup xs),some (.int (w:Int)),some (.int (a:Int)),some b,some (.lst L),some (.tup G),some d]) (S:=S3) rfl).trans (nU d S3 (iR td)))
  cases hb':xJ d with
  |true =>
   rw[hb'] at hi
   refine xI (zV (d:=.tup []) (S:=S3) ?_ ⟨uQ rfl (by simp),rfl,p3⟩)
   unfold dIf
   rw[hi]
   exact z0 [some (.loc p),some (.tup xs),some (.int (w:Int)),some (.int (a:Int)),some b,some (.lst L),some (.tup G),some d]
  |false =>
   rw[hb'] at hi
   refine xI (zV (d:=d) (S:=S3) ?_ ⟨td,hb',p3⟩)
   unfold dIf
   rw[hi]
   rfl
 obtain⟨d,S',e,n,n',p'⟩:=key
 rw[j3]
 exact⟨d,S',jE rfl e,n,n',p'⟩
end _K
end
section
namespace _K
open PySem _D
theorem YJ (v:Value)(x:Str)(env:qE)(S:Sto):yS v (qA (dC (.str x)) (qC)) env S=.ex v .non env S:=by
 have l1:1≤lim:=by decide
 unfold yS
 rw[wK (show dC (.str x) env S=.ok (.str x) S from rfl)]
 show (if ([D.str x]:List D).length≤lim then Out.ex v D.non env S else Out.bad)=_
 exact if_pos l1
theorem g9 (F:DF)(v:Value)(x:Str)(d:D)(b:Bool)(S:Sto)(h:F [d] S=.ok (.bl b) S):qQ 1 (sIf (zQ (dTr (qG 1 F (qA (qB 0) (qC))))) (yS v (qA (dC (.str x)) (qC))) (zI)) [d] S=if b then .ok .non S else .ex v .non S:=by
 have ht:=jA (wW ((vH (f1:=qB 0) (env:=[some d]) (S:=S) rfl).trans h))
 show vQ (sIf _ _ _ [some d] S)=_
 unfold sIf
 rw[ht]
 cases b with
 |true=>rfl
 |false =>
  show vQ (yS v (qA (dC (.str x)) (qC)) [some d] S)=_
  rw[YJ]
  rfl
theorem wE (c:Cl)(d:D)(S:Sto)(h:Pn d):S_need_lot c [d] S=if xJ d then .ok .non S else .ex (.ref c.NoLot) .non S:=by
 rw[gK]
 exact g9 _ _ _ _ _ S (YD d S h)
theorem sW (c:Cl)(d:D)(S:Sto)(h:Pn d):S_need_point c [d] S=if qO d then .ok .non S else .ex (.ref c.NoPoint) .non S:=by
 rw[jL]
 exact g9 _ _ _ _ _ S (mF d S h)
theorem gD (c:Cl)(i:Int)(S:Sto):S_need_number c [.int i] S=.ok .non S:=by
 rw[yW]
 exact(g9 _ _ _ _ _ S (kK i S)).trans rfl
theorem nV (c:Cl)(d:D)(S:Sto)(h:xR d):S_need_number c [d] S=.ex (.ref c.NoNumber) .non S:=by
 rw[yW]
 exact(g9 _ _ _ _ _ S (gN d S h)).trans rfl
theorem M1 {xs:List D}(h:xs.all qO=true)(hl:xs.length≤41):Pn (.tup xs):=iR (uQ h hl)
abbrev Pt:=Int × Int
def pD (q:Pt):D:=.tup [.int q.1,.int q.2]
def kP (q:Pt):List Int:=[q.1,q.2]
theorem eY:∀ {xs:List D},xs.all qO=true→∃ ps:List Pt,xs=ps.map pD
 |[],_=>⟨[],rfl⟩
 |d::ds,h=>by
  rw[List.all_cons,Bool.and_eq_true] at h
  obtain⟨ps,rfl⟩:=eY h.2
  obtain⟨x,y,rfl,_⟩:=m8 h.1
  exact⟨(x,y)::ps,rfl⟩
theorem fY (ps:List Pt):ps.map pD=(ps.map kP).map tpD:=by rw[List.map_map];rfl
theorem F3 {ps:List Pt}(h:xJ (.tup (ps.map pD))=true):(ps.map kP).Pairwise (fun a b=>_H.lexLt a b=true):=by
 have h':(decide (1≤(ps.map pD).length∧(ps.map pD).length≤40)&&(ps.map pD).all qO&&(match wX (ps.map pD) with|some ks=>upB ks|none=>false))=true:=h
 rw[Bool.and_eq_true] at h'
 have h2:=h'.2
 rw[fY,yG] at h2
 exact(kO _).mp h2
theorem K9 (a b c d:Int):_H.lexLt [a,b] [c,d]=(if a=c then decide (b<d) else decide (a<c)):=by
 rw[_H.lexLt_cons]
 by_cases h:a=c
 ·rw[if_pos h,if_pos h,_H.lexLt_cons]
  by_cases h2:b=d
  ·rw[if_pos h2,_H.lexLt_nil_nil];symm;rw[decide_eq_false_iff_not];omega
  ·rw[if_neg h2]
 ·rw[if_neg h,if_neg h]
def shP (a b:Int)(q:Pt):Pt:=(q.1+a,q.2+b)
theorem VZ (a b:Int){ps:List Pt}(h:(ps.map kP).Pairwise (fun a b=>_H.lexLt a b=true)):((ps.map (shP a b)).map kP).Pairwise (fun a b=>_H.lexLt a b=true):=by
 rw[List.pairwise_map] at h ⊢
 rw[List.pairwise_map]
 refine h.imp fun {p q} hpq=>?_
 have h1:_H.lexLt [p.1,p.2] [q.1,q.2]=true:=hpq
 show _H.lexLt [p.1+a,p.2+b] [q.1+a,q.2+b]=true
 rw[K9] at h1 ⊢
 by_cases e:p.1=q.1
 ·rw[if_pos e,decide_eq_true_eq] at h1
  rw[if_pos (by omega),decide_eq_true_eq]
  omega
 ·rw[if_neg e,decide_eq_true_eq] at h1
  rw[if_neg (by omega),decide_eq_true_eq]
  omega
theorem VG {ks:List (List Int)}(h:ks.Pairwise (fun a b=>_H.lexLt a b=true)):ks.Nodup:=h.imp fun {a b} hab e=>by
 subst e
 rw[_S.uD.irr] at hab
 cases hab
theorem rC (ps:List Pt)(hl:ps.length<64)(hne:ps≠[])(nd:(ps.map kP).Nodup):uL (ps.map pD)=some ((_S.srt _H.lexLt (ps.map kP)).map tpD):=by
 unfold uL
 have h0:xF (ps.map pD)=none:=by
  cases ps with
  |nil=>exact absurd rfl hne
  |cons k r=>rfl
 rw[h0,fY,yG]
 have h2:((ps.map kP).all fun k=>!k.isEmpty)=true:=by
  rw[List.all_map,List.all_eq_true]
  intro q _
  rfl
 have h3:(decide ((ps.map kP).length<64)&&decide (ps.map kP).Nodup&&(ps.map kP).all fun k=>!k.isEmpty)=true:=by
  rw[h2,decide_eq_true (by rw[List.length_map];exact hl),decide_eq_true nd];rfl
 show (if (decide ((ps.map kP).length<64)&&decide (ps.map kP).Nodup&&(ps.map kP).all fun k=>!k.isEmpty)=true then _ else _)=_
 rw[if_pos h3]
theorem GE (ps:List Pt)(hl:ps.length<64)(hne:ps≠[])(h:(ps.map kP).Pairwise (fun a b=>_H.lexLt a b=true)):uL (ps.map pD)=some (ps.map pD):=by
 rw[rC ps hl hne (VG h),← _S.kQ _S.uD h (_S.uP _S.uD _) (fun x=>(_S.yL _S.uD x _).symm),fY]
theorem kT {cap:List (Option Nat)}{fi:DI2}{fe:DE}{env:qE}{S:Sto}(ps:List Pt)(f:Pt→D)(rest:qE)(hi:fi env S=.ok (none,ps.map pD) S)(hl:ps.length≤lim)(h0:∃ a b,xS cap env=a::b::rest)(hfe:∀ q∈ps,fe (some (.int q.1)::some (.int q.2)::rest) S=.ok (f q) S) :
  qS false cap fi (gTp 2 (qM (gNm 0) (qM (gNm 1) (zR)))) (zH) (qX fe) env S=.ok (.lst (ps.map f)) S:=by
 have hc:=pN (enc:=pD) (cap:=cap) (g:=gTp 2 (qM (gNm 0) (qM (gNm 1) (zR)))) (t:=zH) (fe:=fe) hi trivial (fun _=>true) f (fun env=>∃ a b,env=a::b::rest) h0 hl
  (fun q hq env ⟨a,b,e⟩=>by
   subst e
   exact⟨some (.int q.1)::some (.int q.2)::rest,rfl,⟨_,_,rfl⟩,rfl,fun _=>hfe q hq⟩)
 rw[vA] at hc
 exact hc
end _K
end
section
namespace _K
open PySem _D
structure Lt (ps:List Pt):Prop where
 pt:(ps.map pD).all qO=true
 ne:1≤ps.length
 le:ps.length≤40
 lot:xJ (.tup (ps.map pD))=true
theorem Lt.pn {ps:List Pt}(h:Lt ps):Pn (.tup (ps.map pD)):=M1 h.pt (by rw[List.length_map];have:=h.le;omega)
theorem Lt.up {ps:List Pt}(h:Lt ps):(ps.map kP).Pairwise (fun a b=>_H.lexLt a b=true):=F3 h.lot
theorem fS (ps:List Pt)(env:qE)(i:Nat)(S:Sto)(h:env[i]? = some (some (.tup (ps.map pD)))):dIt (qB i) env S=.ok (none,ps.map pD) S:=by
 unfold dIt
 rw[xC h]
 rfl
theorem yJ {F:DF}{env:qE}{S:Sto}{i:Nat}{d:D}(h:env[i]? = some (some d))(hF:F [d] S=.ok .non S):w6 (qG 1 F (qA (qB i) (qC))) env S=.nx env S:=by
 unfold w6
 rw[(vH (xC h)).trans hF]
 rfl
theorem k9 {F:DF}{env:qE}{S:Sto}{i:Nat}{d:D}{v:Value}(h:env[i]? = some (some d))(hF:F [d] S=.ex v .non S):w6 (qG 1 F (qA (qB i) (qC))) env S=.ex v .non env S:=by
 unfold w6
 rw[(vH (xC h)).trans hF]
 rfl
theorem yT {f g:DS}{env env1:qE}{S S1:Sto}(h:f env S=.nx env1 S1):qN f g env S=g env1 S1:=by
 unfold qN
 rw[h]
theorem kM {f g:DS}{env env1:qE}{S S1:Sto}{v:Value}{x:D}(h:f env S=.ex v x env1 S1):qN f g env S=.ex v x env1 S1:=by
 unfold qN
 rw[h]
def mvD (a b:Int)(ps:List Pt):List D:=ps.map fun q=>pD (shP a b q)
theorem i0 (a b:Int)(ps:List Pt):mvD a b ps=(ps.map (shP a b)).map pD:=by
 unfold mvD
 rw[List.map_map]
 rfl
theorem NR (q:Pt):Pn (pD q):=⟨.tuple [.int q.1,.int q.2],rfl⟩
theorem dX (c:Cl)(S:Sto):∀ (ds:List D) (env:qE),(∀ d∈ds,Pn d)→∀ e0 e1 e2 e3 e4,env=[e0,e1,e2,e3,e4]→(ds.all qO=true→∃ e4',wD (gNm 4) (w6 (qG 1 (S_need_point c) (qA (qB 4) (qC)))) ds env S=.nx [e0,e1,e2,e3,e4'] S)∧(ds.all qO=false→∃ env',wD (gNm 4) (w6 (qG 1 (S_need_point c) (qA (qB 4) (qC)))) ds env S=.ex (.ref c.NoPoint) .non env' S)
 |[],env,_,e0,e1,e2,e3,e4,q=>by
  subst q
  exact⟨fun _=>⟨e4,rfl⟩,fun h=>by cases h⟩
 |d::ds,env,hp,e0,e1,e2,e3,e4,q=>by
  subst q
  have hn:=sW c d S (hp d (by simp))
  have ih:=dX c S ds [e0,e1,e2,e3,some d] (fun x hx=>hp x (by simp[hx])) e0 e1 e2 e3 (some d) rfl
  have e:(d::ds).all qO=(qO d&&ds.all qO):=rfl
  rw[e]
  cases hd:qO d with
  |true =>
   rw[hd,if_pos rfl] at hn
   have hx:=yJ (env:=[e0,e1,e2,e3,some d]) (i:=4) rfl hn
   have step:wD (gNm 4) (w6 (qG 1 (S_need_point c) (qA (qB 4) (qC)))) (d::ds) [e0,e1,e2,e3,e4] S=wD (gNm 4) (w6 (qG 1 (S_need_point c) (qA (qB 4) (qC)))) ds [e0,e1,e2,e3,some d] S:=by
    rw[wD,show gNm 4 d [e0,e1,e2,e3,e4] S=.ok [e0,e1,e2,e3,some d] S from rfl]
    simp only[Res.toS,hx]
   rw[step,Bool.true_and]
   exact ih
  |false =>
   rw[hd,if_neg (by simp)] at hn
   have hx:=k9 (env:=[e0,e1,e2,e3,some d]) (i:=4) rfl hn
   refine⟨fun h=>by simp at h,fun _=>⟨[e0,e1,e2,e3,some d],?_⟩⟩
   rw[wD,show gNm 4 d [e0,e1,e2,e3,e4] S=.ok [e0,e1,e2,e3,some d] S from rfl]
   simp only[Res.toS,hx]
theorem hJ (a b:Int)(ps:List Pt)(hl:ps.length≤40)(env:qE)(S:Sto)(h0:env[0]? = some (some (.tup (ps.map pD))))(h1:env[1]? = some (some (.int a)))(h2:env[2]? = some (some (.int b))):qS false [none,none,some 1,some 2] (dIt (qB 0)) (gTp 2 (qM (gNm 0) (qM (gNm 1) (zR)))) (zH) (qX (qY (qA (d2 qT (qB 0) (qB 2)) (qA (d2 qT (qB 1) (qB 3)) (qC))))) env S=.ok (.lst (mvD a b ps)) S:=
 kT ps (fun q=>pD (shP a b q)) [some (.int a),some (.int b)] (fS ps env 0 S h0) (by unfold lim;omega) ⟨none,none,by simp[xS,h1,h2]⟩ fun q _=>zU (zS ((qU (a:=.int q.1) (b:=.int a) rfl rfl).trans (wF _ _ _)) ((qU (a:=.int q.2) (b:=.int b) rfl rfl).trans (wF _ _ _))) (by show 2≤lim;decide)
theorem G8 (c:Cl)(ps:List Pt)(a b:Int)(S:Sto)(h:Lt ps):S_moved c [.tup (ps.map pD),.int a,.int b] S=if (mvD a b ps).all qO then .ok (.tup (mvD a b ps)) S else .ex (.ref c.NoPoint) .non S:=by
 rw[vF]
 show vQ (b_moved c [some (.tup (ps.map pD)),some (.int a),some (.int b),none,none] S)=_
 unfold b_moved
 have n1:=wE c _ S h.pn
 rw[h.lot,if_pos rfl] at n1
 rw[yT (yJ (i:=0) rfl n1),yT (yJ (i:=1) rfl (gD c a S)),yT (yJ (i:=2) rfl (gD c b S))]
 have hc:=hJ a b ps h.le [some (.tup (ps.map pD)),some (.int a),some (.int b),none,none] S rfl rfl rfl
 have ha:zG (qD xX (qA (qS false [none,none,some 1,some 2] (dIt (qB 0)) (gTp 2 (qM (gNm 0) (qM (gNm 1) (zR)))) (zH) (qX (qY (qA (d2 qT (qB 0) (qB 2)) (qA (d2 qT (qB 1) (qB 3)) (qC)))))) (qC))) (gNm 3) [some (.tup (ps.map pD)),some (.int a),some (.int b),none,none] S=.nx [some (.tup (ps.map pD)),some (.int a),some (.int b),some (.tup (mvD a b ps)),none] S:=by
  unfold zG
  rw[(xW hc).trans (show xX [.lst (mvD a b ps)] S=.ok (.tup (mvD a b ps)) S from rfl)]
  rfl
 rw[yT ha]
 obtain⟨l1,l2⟩:=dX c S (mvD a b ps) [some (.tup (ps.map pD)),some (.int a),some (.int b),some (.tup (mvD a b ps)),none] (fun d hd=>by
  obtain⟨q,_,rfl⟩:=List.mem_map.mp hd
  exact NR _) _ _ _ _ _ rfl
 have hf:jF (yP (qB 3)) (gNm 4) (w6 (qG 1 (S_need_point c) (qA (qB 4) (qC)))) [some (.tup (ps.map pD)),some (.int a),some (.int b),some (.tup (mvD a b ps)),none] S=wD (gNm 4) (w6 (qG 1 (S_need_point c) (qA (qB 4) (qC)))) (mvD a b ps) [some (.tup (ps.map pD)),some (.int a),some (.int b),some (.tup (mvD a b ps)),none] S:=rfl
 cases hb:(mvD a b ps).all qO with
 |true =>
  obtain⟨e4,e⟩:=l1 hb
  rw[yT (hf.trans e)]
  rfl
 |false =>
  obtain⟨env',e⟩:=l2 hb
  rw[kM (hf.trans e)]
  rfl
theorem F7 (a b:Int)(ps:List Pt)(h:Lt ps):xJ (.tup (mvD a b ps))=(mvD a b ps).all qO:=by
 have hl:(mvD a b ps).length=ps.length:=by unfold mvD;rw[List.length_map]
 show (decide (1≤(mvD a b ps).length∧(mvD a b ps).length≤40)&&(mvD a b ps).all qO&&(match wX (mvD a b ps) with|some ks=>upB ks|none=>false))=_
 have hu:upB ((ps.map (shP a b)).map kP)=true:=(kO _).mpr (VZ a b h.up)
 rw[hl,decide_eq_true ⟨h.ne,h.le⟩,i0,fY,yG,Bool.true_and]
 show (_&&upB ((ps.map (shP a b)).map kP))=_
 rw[hu,Bool.and_true]
theorem M0 (a b:Int)(ps:List Pt):Pn (.tup (mvD a b ps)):=by
 have:∀ qs:List Pt,∃ l,jB (qs.map pD)=some l:=by
  intro qs
  induction qs with
  |nil=>exact⟨[],rfl⟩
  |cons q qs ih =>
   obtain⟨l,e⟩:=ih
   refine⟨.tuple [.int q.1,.int q.2]::l,?_⟩
   show (pyD (pD q)).bind (fun x=>(jB (qs.map pD)).map (x::·))=_
   rw[e];rfl
 obtain⟨l,e⟩:=this (ps.map (shP a b))
 exact⟨.tuple l,by rw[i0];simp only[pyD,e,Option.map_some]⟩
theorem YE (ps:List Pt)(a b:Int)(S:Sto)(h:Lt ps):S__law_moved [.tup (ps.map pD),.int a,.int b] S=.ok (if (mvD a b ps).all qO then .tup (mvD a b ps) else .str "point") S:=by
 rw[jJ]
 refine vW (env:=[some (.tup (ps.map pD)),some (.int a),some (.int b),none]) rfl ?_
 unfold b__law_moved
 have hc:=hJ a b ps h.le [some (.tup (ps.map pD)),some (.int a),some (.int b),none] S rfl rfl rfl
 have hs:wL [.lst (mvD a b ps)] S=.ok (.lst (mvD a b ps)) S:=by
  have e:uL (mvD a b ps)=some (mvD a b ps):=by
   rw[i0]
   exact GE _ (by rw[List.length_map];have:=h.le;omega) (by intro z;have hn:=h.ne;rw[List.map_eq_nil_iff] at z;subst z;simp at hn) (VZ a b h.up)
  show (match (some (mvD a b ps)).bind uL with|some ys=>Res.ok (D.lst ys) S|none=>.bad)=_
  rw[Option.bind_some,e]
 refine qV (zP ((xW ((xW hc).trans hs)).trans (show xX [.lst (mvD a b ps)] S=.ok (.tup (mvD a b ps)) S from rfl)) rfl ?_)
 have hi:=wW ((vH (f1:=qB 3) (env:=[some (.tup (ps.map pD)),some (.int a),some (.int b),some (.tup (mvD a b ps))]) (S:=S) rfl).trans (nU _ S (M0 a b ps)))
 rw[F7 a b ps h] at hi
 cases hb:(mvD a b ps).all qO with
 |true =>
  rw[hb] at hi
  refine xI (zV ?_ ⟨rfl,rfl⟩)
  show dIf _ _ _ [some (.tup (ps.map pD)),some (.int a),some (.int b),some (.tup (mvD a b ps))] S=_
  unfold dIf
  rw[hi]
  rfl
 |false =>
  rw[hb] at hi
  refine xI (zV ?_ ⟨rfl,rfl⟩)
  show dIf _ _ _ [some (.tup (ps.map pD)),some (.int a),some (.int b),some (.tup (mvD a b ps))] S=_
  unfold dIf
  rw[hi]
  rfl
end _K
end
section
namespace _K
open PySem _D
def tuP (q:Pt):Pt:=(-q.2,q.1)
def miP (q:Pt):Pt:=(q.2,q.1)
def sD (f:Pt→Pt)(ps:List Pt):List D:=(_S.srt _H.lexLt ((ps.map f).map kP)).map tpD
theorem BT {a b:Pt}(h:kP a=kP b):a=b:=by
 have h1:a.1=b.1:=by injection h
 have h2:a.2=b.2:=by
  injection h with _ h
  injection h
 exact Prod.ext h1 h2
theorem F9 {f:Pt→Pt}(hf:∀ a b,f a=f b→a=b){ps:List Pt}(h:Lt ps):((ps.map f).map kP).Nodup:=by
 have nd:=VG h.up
 unfold List.Nodup at nd ⊢
 rw[List.pairwise_map] at nd ⊢
 rw[List.pairwise_map]
 exact nd.imp fun {a b} hab e=>hab (congrArg kP (hf a b (BT e)))
theorem X8 (a b:Pt)(h:tuP a=tuP b):a=b:=by
 have h1 : -a.2 = -b.2:=congrArg Prod.fst h
 have h2:a.1=b.1:=congrArg Prod.snd h
 exact Prod.ext h2 (by omega)
theorem QD (a b:Pt)(h:miP a=miP b):a=b:=by
 have h1:a.2=b.2:=congrArg Prod.fst h
 have h2:a.1=b.1:=congrArg Prod.snd h
 exact Prod.ext h2 h1
theorem YG (f:Pt→Pt)(hf:∀ a b,f a=f b→a=b)(ps:List Pt)(h:Lt ps)(S:Sto):wL [.lst ((ps.map f).map pD)] S=.ok (.lst (sD f ps)) S:=by
 have e:uL ((ps.map f).map pD)=some (sD f ps):=rC _ (by rw[List.length_map];have:=h.le;omega) (by intro z;have hn:=h.ne;rw[List.map_eq_nil_iff] at z;subst z;simp at hn) (F9 hf h)
 show (match (some ((ps.map f).map pD)).bind uL with|some ys=>Res.ok (D.lst ys) S|none=>.bad)=_
 rw[Option.bind_some,e]
theorem lQ (f:Pt→Pt)(hf:∀ a b,f a=f b→a=b)(ps:List Pt)(h:Lt ps)(fe:DE)(i:Nat)(env:qE)(S:Sto)(h0:env[i]? = some (some (.tup (ps.map pD))))(hfe:∀ q:Pt,fe [some (.int q.1),some (.int q.2)] S=.ok (pD (f q)) S) :
  qD xX (qA (qD wL (qA (qS false [none,none] (dIt (qB i)) (gTp 2 (qM (gNm 0) (qM (gNm 1) (zR)))) (zH) (qX fe)) (qC))) (qC)) env S=.ok (.tup (sD f ps)) S:=by
 have hc:=kT (cap:=[none,none]) (fe:=fe) ps (fun q=>pD (f q)) [] (fS ps env i S h0) (by have:=h.le;unfold lim;omega) ⟨none,none,rfl⟩ fun q _=>hfe q
 have e:(ps.map fun q=>pD (f q))=(ps.map f).map pD:=by rw[List.map_map];rfl
 rw[e] at hc
 exact(xW ((xW hc).trans (YG f hf ps h S))).trans rfl
theorem YH (c:Cl)(ps:List Pt)(S:Sto)(h:Lt ps):S_turned_about c [.tup (ps.map pD)] S=.ok (.tup (sD tuP ps)) S:=by
 rw[yM]
 show vQ (b_turned_about c [some (.tup (ps.map pD))] S)=_
 unfold b_turned_about
 have n1:=wE c _ S h.pn
 rw[h.lot,if_pos rfl] at n1
 rw[yT (yJ (i:=0) rfl n1)]
 unfold qW
 rw[lQ tuP X8 ps h _ 0 [some (.tup (ps.map pD))] S rfl fun q=>zU (zS (a:=.int (-q.2)) rfl rfl) (by show 2≤lim;decide)]
 rfl
theorem iF (c:Cl)(ps:List Pt)(S:Sto)(h:Lt ps):S_mirrored c [.tup (ps.map pD)] S=.ok (.tup (sD miP ps)) S:=by
 rw[uT]
 show vQ (b_mirrored c [some (.tup (ps.map pD))] S)=_
 unfold b_mirrored
 have n1:=wE c _ S h.pn
 rw[h.lot,if_pos rfl] at n1
 rw[yT (yJ (i:=0) rfl n1)]
 unfold qW
 rw[lQ miP QD ps h _ 0 [some (.tup (ps.map pD))] S rfl fun q=>zU (zS rfl rfl) (by show 2≤lim;decide)]
 rfl
theorem rS (c:Cl)(d a b:D)(S:Sto)(hp:Pn d)(h:xJ d=false):S_moved c [d,a,b] S=.ex (.ref c.NoLot) .non S:=by
 rw[vF]
 show vQ (b_moved c [some d,some a,some b,none,none] S)=_
 unfold b_moved
 have n1:=wE c d S hp
 rw[h,if_neg (by simp)] at n1
 rw[kM (k9 (i:=0) rfl n1)]
 rfl
theorem nO (c:Cl)(ps:List Pt)(a b:D)(S:Sto)(h:Lt ps)(ha:xR a):S_moved c [.tup (ps.map pD),a,b] S=.ex (.ref c.NoNumber) .non S:=by
 rw[vF]
 show vQ (b_moved c [some (.tup (ps.map pD)),some a,some b,none,none] S)=_
 unfold b_moved
 have n1:=wE c _ S h.pn
 rw[h.lot,if_pos rfl] at n1
 rw[yT (yJ (i:=0) rfl n1),kM (k9 (i:=1) rfl (nV c a S ha))]
 rfl
theorem QH (c:Cl)(ps:List Pt)(i:Int)(b:D)(S:Sto)(h:Lt ps)(hb:xR b):S_moved c [.tup (ps.map pD),.int i,b] S=.ex (.ref c.NoNumber) .non S:=by
 rw[vF]
 show vQ (b_moved c [some (.tup (ps.map pD)),some (.int i),some b,none,none] S)=_
 unfold b_moved
 have n1:=wE c _ S h.pn
 rw[h.lot,if_pos rfl] at n1
 rw[yT (yJ (i:=0) rfl n1),yT (yJ (i:=1) rfl (gD c i S)),kM (k9 (i:=2) rfl (nV c b S hb))]
 rfl
theorem X9 (c:Cl)(d:D)(S:Sto)(hp:Pn d)(h:xJ d=false):S_turned_about c [d] S=.ex (.ref c.NoLot) .non S:=by
 rw[yM]
 show vQ (b_turned_about c [some d] S)=_
 unfold b_turned_about
 have n1:=wE c d S hp
 rw[h,if_neg (by simp)] at n1
 rw[kM (k9 (i:=0) rfl n1)]
 rfl
theorem rP (c:Cl)(d:D)(S:Sto)(hp:Pn d)(h:xJ d=false):S_mirrored c [d] S=.ex (.ref c.NoLot) .non S:=by
 rw[uT]
 show vQ (b_mirrored c [some d] S)=_
 unfold b_mirrored
 have n1:=wE c d S hp
 rw[h,if_neg (by simp)] at n1
 rw[kM (k9 (i:=0) rfl n1)]
 rfl
theorem kR {F:DF}{f1 f2 f3 f4:DE}{env:qE}{S S1 S2 S3 S4:Sto}{a b c d:D}(h1:f1 env S=.ok a S1)(h2:f2 env S1=.ok b S2)(h3:f3 env S2=.ok c S3)(h4:f4 env S3=.ok d S4):qG 4 F (qA f1 (qA f2 (qA f3 (qA f4 (qC))))) env S=F [a,b,c,d] S4:=by
 simp only[qG,qA,qC,h1,h2,h3,h4,Res.bind,List.length_cons,List.length_nil,if_true]
noncomputable def ans (c:Cl)(w:Nat)(l a b:D)(S:Sto):Res D:=match w with
 |0=>S_moved c [l,a,b] S
 |1=>S_turned_about c [l] S
 |_=>S_mirrored c [l] S
theorem o0 (c:Cl)(w:Nat)(hw:w<3)(l a b:D)(S:Sto):dIf (dTr (d2 gEq (qB 0) (dC (.int 0)))) (qG 3 (S_moved c) (qA (qB 1) (qA (qB 2) (qA (qB 3) (qC))))) (mR [(1,(S_turned_about c)),(1,(S_mirrored c))] (d2 x9 (qB 0) (dC (.int 1))) (qA (qB 1) (qC))) [some (.int (w:Int)),some l,some a,some b,none] S=ans c w l a b S:=by
 have ht:=wW ((qU (a:=.int (w:Int)) (b:=.int 0) (env:=[some (.int (w:Int)),some l,some a,some b,none]) (S:=S) (f:=qB 0) (g:=dC (.int 0)) rfl rfl).trans (pT _ _ _))
 unfold dIf
 rw[ht]
 match w,hw with
 |0,_=>rfl
 |1,_=>rfl
 |2,_=>rfl
theorem mP (c:Cl)(w:Nat)(hw:w<3)(l a b x:D)(S S':Sto)(h:ans c w l a b S=.ok x S'):S__law_came c [.int (w:Int),l,a,b] S=.ok x S':=by
 rw[u0]
 unfold b__law_came
 refine jE (env:=[some (.int (w:Int)),some l,some a,some b,none]) rfl ?_
 unfold bW qW
 rw[o0 c w hw,h]
 rfl
theorem k8 (c:Cl)(w:Nat)(hw:w<3)(l a b:D)(v:Addr)(x:Str)(S S':Sto)(h:ans c w l a b S=.ex (.ref v) .non S')(hc:(vJ c).contains (.ref v)=true)(hk:S__law_kind_of c [.exn (.ref v)] S'=.ok (.str x) S'):S__law_came c [.int (w:Int),l,a,b] S=.ok (.str x) S':=by
 rw[u0]
 unfold b__law_came
 refine jE (env:=[some (.int (w:Int)),some l,some a,some b,none]) rfl ?_
 unfold bW qW
 rw[o0 c w hw,h]
 simp only[Res.toS,hc,if_true]
 simp[qQ,vX,KL,SB,SA,qN,sIf,qW,zI,w6,zG,gNm,gSb,gTp,qM,zR,pI,DB,mH,LG,dC,qB,d1,d2,qA,qC,qD,qG,dTr,zQ,w8,zH,yN,aJ,dIf,xH,qY,zM,aI,dBm,dSl,z9,zK,yP,vK,Res.bind,Res.toS,_D.vV,_D.v7,SG,SC,MW,SN,SI,SJ,SK,SH,S9,S8,SE,gLt,gLe,gGt,gGe,_D.x9,SL,hk]
theorem LU (c:Cl):(vJ c).contains (.ref c.NoPoint)=true:=by rw[List.contains_iff_mem];simp[vJ]
theorem LS (c:Cl):(vJ c).contains (.ref c.NoLot)=true:=by rw[List.contains_iff_mem];simp[vJ]
theorem XU (c:Cl):(vJ c).contains (.ref c.NoNumber)=true:=by rw[List.contains_iff_mem];simp[vJ]
theorem UK (c:Cl)(nd:(xM c).Nodup)(ps:List Pt)(a b:Int)(S:Sto)(h:Lt ps):S__law_came c [.int 0,.tup (ps.map pD),.int a,.int b] S=.ok (if (mvD a b ps).all qO then .tup (mvD a b ps) else .str "point") S:=by
 have hm:=G8 c ps a b S h
 cases hb:(mvD a b ps).all qO with
 |true =>
  rw[hb,if_pos rfl] at hm
  rw[if_pos rfl]
  exact mP c 0 (by omega) _ _ _ _ S S hm
 |false =>
  rw[hb,if_neg (by simp)] at hm
  rw[if_neg (by simp)]
  exact k8 c 0 (by omega) _ _ _ _ _ S S hm (LU c) (tJ c nd S)
theorem XY (c:Cl)(nd:(xM c).Nodup)(w:Nat)(hw:w<3)(d o:D)(S:Sto)(hp:Pn d)(h:xJ d=false):S__law_came c [.int (w:Int),d,o,o] S=.ok (.str "lot") S:=by
 refine k8 c w hw _ _ _ _ _ S S ?_ (LS c) (sV c nd S)
 match w,hw with
 |0,_=>exact rS c d o o S hp h
 |1,_=>exact X9 c d S hp h
 |2,_=>exact rP c d S hp h
theorem iL (S:Sto):S__law_same [.str "point",.str "point"] S=.ok (.bl true) S:=by
 rw[u4]
 kernel_rfl!
theorem X4 (d:D)(S:Sto)(h:okD 3 d):S__law_same [d,d] S=.ok (.bl true) S:=by
 rw[u4]
 exact X5 3 d S h
end _K
end
section
namespace _K
open PySem _D
theorem W0 (ns:List Int)(hl:ns.length≤63)(env:qE)(S:Sto)(h0:env[0]? = some (some (.lst (ns.map D.int)))):∃ ms:List Int,yP (d2 qT (zM (qA (qG 2 S__law_cell (qA (qB 0) (qA (dC (.int 0)) (qC)))) (qC))) (dSl (qB 0) (z9 (dC (.int 1))) (z9 (dC (.int 6))))) env S=.ok (ms.map D.int) S:=by
 obtain⟨x,hx⟩:=ME ns S
 obtain⟨ms,hm,hml⟩:=US ns (some 1) (some 6)
 refine⟨x::ms,?_⟩
 have l1:1≤lim:=by decide
 have hs:dSl (qB 0) (z9 (dC (.int 1))) (z9 (dC (.int 6))) env S=.ok (.lst (ms.map D.int)) S:=by
  simp only[dSl,xC h0,Res.bind,z9,dC]
  show Res.ok (D.lst (x8 (ns.map D.int) (some 1) (some 6))) S=_
  rw[hm]
 have hc:zM (qA (qG 2 S__law_cell (qA (qB 0) (qA (dC (.int 0)) (qC)))) (qC)) env S=.ok (.lst [.int x]) S:=xY (wK ((vI (xC h0) rfl).trans hx)) l1
 unfold yP
 rw[qU hc hs,yX (by rw[List.length_map];show 1+ms.length≤lim;unfold lim;omega)]
 rfl
theorem F4 (f:Pt→Int)(ps:List Pt)(h:1≤ps.length)(S:Sto):∃ M,fG [.lst (ps.map fun q=>D.int (f q))] S=.ok (.int M) S:=by
 cases ps with
 |nil=>simp at h
 |cons p r =>
  refine⟨(r.map f).foldl max (f p),?_⟩
  show (match xF (r.map fun q=>D.int (f q)) with|some ns=>Res.ok (D.int (ns.foldl max (f p))) S|none=>.bad)=_
  rw[show (r.map fun q=>D.int (f q))=(r.map f).map D.int by rw[List.map_map];rfl,jO]
theorem F5 (f:Pt→Int)(ps:List Pt)(h:1≤ps.length)(S:Sto):∃ M,fH [.lst (ps.map fun q=>D.int (f q))] S=.ok (.int M) S:=by
 cases ps with
 |nil=>simp at h
 |cons p r =>
  refine⟨(r.map f).foldl min (f p),?_⟩
  show (match xF (r.map fun q=>D.int (f q)) with|some ns=>Res.ok (D.int (ns.foldl min (f p))) S|none=>.bad)=_
  rw[show (r.map fun q=>D.int (f q))=(r.map f).map D.int by rw[List.map_map];rfl,jO]
theorem VW (d:D)(x:Str)(h:vU d=some x)(i:Nat)(env:qE)(S:Sto)(h0:env[i]? = some (some d)):qD jN (qA (qB i) (qC)) env S=.ok (.str x) S:=by
 rw[xW (xC h0)]
 show (match vU d with|some x=>Res.ok (D.str x) S|none=>.bad)=_
 rw[h]
theorem FA (x:Str)(S:Sto):gNe (.str x) (.str x) S=.ok (.bl false) S:=by
 unfold gNe
 rw[show (pl yC (.str x))=true from rfl]
 show Res.ok (D.bl (!(x == x))) S=_
 rw[beq_self_eq_true]
 rfl
theorem VX (d:D)(x:Str)(h:vU d=some x)(env:qE)(S:Sto)(h3:env[3]? = some (some d))(h4:env[4]? = some (some (.str x))):dTr (d2 gNe (qD jN (qA (qB 3) (qC))) (qB 4)) env S=.ok false S:=
 wW ((qU (VW d x h 3 env S h3) (xC h4)).trans (FA x S))
theorem GC (a b:Int)(ps:List Pt)(S:Sto):S__law_same [if (mvD a b ps).all qO then .tup (mvD a b ps) else .str "point",if (mvD a b ps).all qO then .tup (mvD a b ps) else .str "point"] S=.ok (.bl true) S:=by
 cases (mvD a b ps).all qO with
 |true =>
  refine X4 _ S ?_
  show ∀ x∈mvD a b ps,okD 2 x
  intro x hx
  obtain⟨q,_,rfl⟩:=List.mem_map.mp hx
  intro y hy
  simp only[List.mem_cons,List.not_mem_nil,or_false] at hy
  rcases hy with rfl|rfl <;> trivial
 |false=>exact iL S
theorem FJ (ks:List (List Int)):okD 2 (.tup (ks.map tpD)):=by
 intro x hx
 obtain⟨k,_,rfl⟩:=List.mem_map.mp hx
 intro y hy
 obtain⟨i,_,rfl⟩:=List.mem_map.mp hy
 trivial
def noW:List D:=[.non,.str "0",.bl true,.bl false,.tup [.int 0],.lst [.int 0],.dct0]
theorem FB:∀ d∈noW,xR d:=by
 intro d hd
 simp only[noW,List.mem_cons,List.not_mem_nil,or_false] at hd
 rcases hd with rfl|rfl|rfl|rfl|rfl|rfl|rfl
 ·exact QP
 ·exact QQ _
 ·exact i3 _
 ·exact i3 _
 ·exact QR _
 ·exact QN _
 ·exact QM
theorem iH (S:Sto)(p:Nat)(h:xE S p):∃ (d:D) (S':Sto),S__law_no_whole [.loc p] S=.ok d S'∧xR d:=by
 obtain⟨k,S1,c1,hk,p1⟩:=w9 (S:=S) (i:=0) (f2:=dC (.int 7)) (env:=[some (.loc p)]) (m:=7) h (by omega) rfl rfl
 obtain⟨o,ho,ho'⟩:=k7 noW (k:Int) ⟨by omega,by show (k:Int)<7;omega⟩
 have l1:1≤lim:=by decide
 have l7:7≤lim:=by decide
 have hl:zM (qA (dC .non) (qA (dC (.str "0")) (qA (dC (.bl true)) (qA (dC (.bl false)) (qA (qY (qA (dC (.int 0)) (qC))) (qA (zM (qA (dC (.int 0)) (qC))) (qA (uU) (qC)))))))) [some (.loc p)] S=.ok (.lst noW) S:=
  xY (qZ rfl (qZ rfl (qZ rfl (qZ rfl (qZ (zU (wK rfl) l1) (qZ (xY (wK rfl) l1) (qZ rfl (mS _ _)))))))) l7
 refine⟨o,S1,?_,FB o ho'⟩
 rw[uO]
 exact tQ (env:=[some (.loc p)]) rfl ((qU hl c1).trans (kB ho S1))
theorem rE (x:Str)(S:Sto):gNe (.lst [.str x,.str x,.str x]) (.lst [.str x,.str x,.str x]) S=.ok (.bl false) S:=by
 unfold gNe
 rw[show pl yC (.lst [.str x,.str x,.str x])=true from rfl]
 show Res.ok (D.bl (!((x == x)&&((x == x)&&((x == x)&&true))))) S=_
 rw[beq_self_eq_true]
 rfl
theorem U1 (x:Str)(env:qE)(S:Sto):d2 kW (zM (qA (dC (.str x)) (qC))) (dC (.int 3)) env S=.ok (.lst [.str x,.str x,.str x]) S:=by
 have l1:1≤lim:=by decide
 refine(qU (xY (wK rfl) l1) rfl).trans ?_
 have h:(0:Int)≤3∧(3:Int)<2 ^ 62∧[D.str x].length*(3:Int).toNat≤lim:=⟨by omega,by omega,by show 1*3≤lim;decide⟩
 simp only[kW]
 rw[if_pos h]
 rfl
inductive IvC (ns:List Int)(ds:List D)(env:qE)(S:Sto):Prop
 |mk (ms:List Int) (e1 e2 e3 e4 e5 e6 e7 e8 e9 e10 e11 e12 e13:Option D) (h_0:ds=ms.map D.int) (h_1:env=[some (.lst (ns.map D.int)),e1,e2,e3,e4,e5,e6,e7,e8,e9,e10,e11,e12,e13]):IvC ns ds env S
inductive IvM (ns:List Int)(e1:Option D)(p:Nat)(ps:List Pt)(x:Str)(e5 e6 e7 e12 e13:Option D)(ds:List D)(env:qE)(S:Sto):Prop
 |mk (qs:List Pt) (e8 e9 e10 e11:Option D) (h_0:ds=qs.map pD) (h_1:env=[some (.lst (ns.map D.int)),e1,some (.loc p),some (.tup (ps.map pD)),some (.str x),e5,e6,e7,e8,e9,e10,e11,e12,e13]) (h_2:xE S p):IvM ns e1 p ps x e5 e6 e7 e12 e13 ds env S
inductive IvN (ns:List Int)(e1:Option D)(p:Nat)(ps:List Pt)(x:Str)(e5 e6 e7 e12 e13:Option D)(q:Pt)(ds:List D)(env:qE)(S:Sto):Prop
 |mk (e10 e11:Option D) (h_1:env=[some (.lst (ns.map D.int)),e1,some (.loc p),some (.tup (ps.map pD)),some (.str x),e5,e6,e7,some (.int q.1),some (.int q.2),e10,e11,e12,e13]) (h_2:xE S p):IvN ns e1 p ps x e5 e6 e7 e12 e13 q ds env S
theorem WU (c:Cl)(nd:(xM c).Nodup)(ns:List Int)(hl:ns.length≤63):∃ S,qQ 14 (b_law c) [.lst (ns.map D.int)] [] = .ok (.bl true) S:=by
 have l1:1≤lim:=by decide
 have l2:2≤lim:=by decide
 have l3:3≤lim:=by decide
 have l5:5≤lim:=by decide
 have key:Rt (b_law c [some (.lst (ns.map D.int)),none,none,none,none,none,none,none,none,none,none,none,none,none] []) fun d _=>d=.bl true:=by
  unfold b_law
  obtain⟨ms,hms⟩:=W0 ns hl [some (.lst (ns.map D.int)),none,none,none,none,none,none,none,none,none,none,none,none,none] [] rfl
  refine qV (fZ hms ?_)
  refine pX (IvC ns) ?_ ?_ ⟨ms,_,_,_,_,_,_,_,_,_,_,_,_,_,rfl,rfl⟩
  ·rintro d ds env S ⟨ms,e1,e2,e3,e4,e5,e6,e7,e8,e9,e10,e11,e12,e13,hds,rfl⟩
   cases ms with
   |nil=>cases hds
   |cons y ms =>
    injection hds with h1 h2
    subst h1 h2
    refine⟨[some (.lst (ns.map D.int)),some (.int y),e2,e3,e4,e5,e6,e7,e8,e9,e10,e11,e12,e13],S,rfl,?_⟩
    obtain⟨f,hpen⟩:=NW y S
    refine wZ (zP ((vH (a:=.int y) rfl).trans hpen) rfl ?_)
    have p0:xE (S++[.lst [.int y,.int f]]) S.length:=⟨y,f,by simp⟩
    generalize S++[.lst [.int y,.int f]]=S0 at p0
    generalize S.length=p at p0
    simp only[List.set_cons_succ,List.set_cons_zero]
    obtain⟨xs,S1,c1,hx,hxl,hlot,p1⟩:=NV S0 p p0
    refine wZ (zP ((vI (a:=.loc p) (b:=.int 40) rfl rfl).trans c1) rfl ?_)
    clear c1 hpen
    simp only[List.set_cons_succ,List.set_cons_zero]
    obtain⟨ps,rfl⟩:=eY hx
    rw[List.length_map] at hxl
    have L:Lt ps:=⟨hx,hxl.1,hxl.2,hlot⟩
    obtain⟨x,hre⟩:=(uQ hx (by rw[List.length_map];omega)).repr
    obtain⟨M,hM⟩:=F4 (fun q=>q.1) ps L.ne S1
    obtain⟨m,hm⟩:=F5 (fun q=>q.2) ps L.ne S1
    have k1:=kT (cap:=[none,none]) (fe:=qB 0) ps (fun q=>D.int q.1) [] (fS ps [some (.lst (ns.map D.int)),some (.int y),some (.loc p),some (.tup (ps.map pD)),e4,e5,e6,e7,e8,e9,e10,e11,e12,e13] 3 S1 rfl) (by unfold lim;omega) ⟨none,none,rfl⟩ fun q _=>rfl
    have k2:=kT (cap:=[none,none]) (fe:=qB 1) ps (fun q=>D.int q.2) [] (fS ps [some (.lst (ns.map D.int)),some (.int y),some (.loc p),some (.tup (ps.map pD)),e4,e5,e6,e7,e8,e9,e10,e11,e12,e13] 3 S1 rfl) (by unfold lim;omega) ⟨none,none,rfl⟩ fun q _=>rfl
    have da:=qZ (VW _ x hre 3 [some (.lst (ns.map D.int)),some (.int y),some (.loc p),some (.tup (ps.map pD)),e4,e5,e6,e7,e8,e9,e10,e11,e12,e13] S1 rfl) (zS ((xW k1).trans hM) ((xW k2).trans hm))
    refine wZ (zZ (env:=[some (.lst (ns.map D.int)),some (.int y),some (.loc p),some (.tup (ps.map pD)),some (.str x),some (.int M),some (.int m),e7,e8,e9,e10,e11,e12,e13]) (S:=S1) (by
     unfold mH
     rw[da]
     rfl) ?_)
    clear da k1 k2 hM hm
    have two:∀ (f g:DE) (a b:D) (env:qE),f env S1=.ok a S1→g env S1=.ok b S1→qY (qA f (qA g (qC))) env S1=.ok (.tup [a,b]) S1:=fun f g a b env h1 h2=>zU (zS h1 h2) l2
    refine wZ (zP (d:=.lst ([((0:Int),(0:Int)),(1000-M,-1000-m),(1001-M,0),(0,-1001-m),(100000000000000000000000000000,0)].map pD)) (S1:=S1) (xY (qZ (two _ _ _ _ _ rfl rfl) (qZ (two _ _ _ _ _ rfl rfl) (qZ (two _ _ _ _ _ rfl rfl) (qZ (two _ _ _ _ _ rfl rfl) (qZ (two _ _ _ _ _ (Z5 S1) rfl) (mS _ _)))))) l5) rfl ?_)
    have hq5:([((0:Int),(0:Int)),(1000-M,-1000-m),(1001-M,0),(0,-1001-m),(100000000000000000000000000000,0)]:List Pt).length=5:=rfl
    generalize ([((0:Int),(0:Int)),(1000-M,-1000-m),(1001-M,0),(0,-1001-m),(100000000000000000000000000000,0)]:List Pt)=q5 at hq5
    simp only[List.set_cons_succ,List.set_cons_zero]
    generalize some (D.int M)=e5
    generalize some (D.int m)=e6
    obtain⟨a1,b1,S2,c2,_,_,p2⟩:=b6 S1 p 9 p1 (by omega)
    obtain⟨a2,b2,S3,c3,_,_,p3⟩:=b6 S2 p 1500 p2 (by omega)
    have hit:yP (d2 qT (qB 7) (zM (qA (qG 2 S__law_point (qA (qB 2) (qA (dC (.int 9)) (qC)))) (qA (qG 2 S__law_point (qA (qB 2) (qA (dC (.int 1500)) (qC)))) (qC))))) [some (.lst (ns.map D.int)),some (.int y),some (.loc p),some (.tup (ps.map pD)),some (.str x),e5,e6,some (.lst (q5.map pD)),e8,e9,e10,e11,e12,e13] S1=.ok ((q5++[(a1,b1),(a2,b2)]).map pD) S3:=by
     unfold yP
     rw[qU (a:=.lst (q5.map pD)) (S1:=S1) rfl (xY (zS ((vI (a:=.loc p) (b:=.int 9) rfl rfl).trans c2) ((vI (a:=.loc p) (b:=.int 1500) rfl rfl).trans c3)) l2),yX (by rw[List.length_map,hq5];show 7≤lim;decide),List.map_append]
     rfl
    refine wZ (fZ hit ?_)
    clear hit c2 c3
    refine pX (IvM ns (some (.int y)) p ps x e5 e6 (some (.lst (q5.map pD))) e12 e13) ?_ ?_ ⟨_,e8,e9,e10,e11,rfl,rfl,p3⟩
    ·rintro d ds env S ⟨qs,e8,e9,e10,e11,hds,rfl,hp⟩
     cases qs with
     |nil=>cases hds
     |cons q qs =>
      injection hds with h1 h2
      subst h1 h2
      refine⟨[some (.lst (ns.map D.int)),some (.int y),some (.loc p),some (.tup (ps.map pD)),some (.str x),e5,e6,some (.lst (q5.map pD)),some (.int q.1),some (.int q.2),e10,e11,e12,e13],S,rfl,?_⟩
      have hr:vK (qA (dC (.int 2)) (qC)) [some (.lst (ns.map D.int)),some (.int y),some (.loc p),some (.tup (ps.map pD)),some (.str x),e5,e6,some (.lst (q5.map pD)),some (.int q.1),some (.int q.2),e10,e11,e12,e13] S=.ok [.int 0,.int 1] S:=rfl
      refine fZ hr ?_
      refine pX (IvN ns (some (.int y)) p ps x e5 e6 (some (.lst (q5.map pD))) e12 e13 q) ?_ ?_ ⟨e10,e11,rfl,hp⟩
      ·rintro d ds env S ⟨e10,e11,rfl,hp⟩
       refine⟨[some (.lst (ns.map D.int)),some (.int y),some (.loc p),some (.tup (ps.map pD)),some (.str x),e5,e6,some (.lst (q5.map pD)),some (.int q.1),some (.int q.2),some d,e11,e12,e13],S,rfl,?_⟩
       refine wZ (zP ((V2 (a:=.tup (ps.map pD)) (b:=.int q.1) (c:=.int q.2) rfl rfl rfl).trans (YE ps q.1 q.2 S L)) rfl ?_)
       simp only[List.set_cons_succ,List.set_cons_zero]
       have hs:=jA (wW ((vI ((kR (a:=.int 0) (b:=.tup (ps.map pD)) (c:=.int q.1) (d:=.int q.2) (env:=[some (.lst (ns.map D.int)),some (.int y),some (.loc p),some (.tup (ps.map pD)),some (.str x),e5,e6,some (.lst (q5.map pD)),some (.int q.1),some (.int q.2),some d,some (if (mvD q.1 q.2 ps).all qO then .tup (mvD q.1 q.2 ps) else .str "point"),e12,e13]) (S:=S) (f1:=dC (.int 0)) (f2:=qB 3) (f3:=qB 8) (f4:=qB 9) rfl rfl rfl rfl).trans (UK c nd ps q.1 q.2 S L)) (xC (i:=11) rfl)).trans (GC q.1 q.2 ps S)))
       exact xG (vP hs (fun _=>VX _ x hre _ S rfl rfl) (fun _=>rfl)) (zZ rfl ⟨_,_,rfl,hp⟩)
      ·rintro env S ⟨e10,e11,rfl,hp⟩
       exact⟨qs,_,_,_,_,rfl,rfl,hp⟩
    ·rintro env S ⟨qs,e8,e9,e10,e11,_,rfl,hp⟩
     have t1:=lQ tuP X8 ps L (qY (qA (d2 x9 (dC (.int 0)) (qB 1)) (qA (qB 0) (qC)))) 3 [some (.lst (ns.map D.int)),some (.int y),some (.loc p),some (.tup (ps.map pD)),some (.str x),e5,e6,some (.lst (q5.map pD)),e8,e9,e10,e11,e12,e13] S rfl fun q=>zU (zS (a:=.int (-q.2)) (b:=.int q.1) ((qU (a:=.int 0) (b:=.int q.2) rfl rfl).trans (show Res.ok (D.int (0-q.2)) S=.ok (.int (-q.2)) S by rw[Int.zero_sub])) rfl) l2
     have t2:=lQ miP QD ps L (qY (qA (qB 1) (qA (qB 0) (qC)))) 3 [some (.lst (ns.map D.int)),some (.int y),some (.loc p),some (.tup (ps.map pD)),some (.str x),e5,e6,some (.lst (q5.map pD)),e8,e9,e10,e11,e12,e13] S rfl fun q=>zU (zS rfl rfl) l2
     refine wZ (zP (xY (zS t1 t2) l2) rfl ?_)
     clear t1 t2
     simp only[List.set_cons_succ,List.set_cons_zero]
     have u1:=(kR (a:=.int 1) (b:=.tup (ps.map pD)) (c:=.int 0) (d:=.int 0) (env:=[some (.lst (ns.map D.int)),some (.int y),some (.loc p),some (.tup (ps.map pD)),some (.str x),e5,e6,some (.lst (q5.map pD)),e8,e9,e10,some (.lst [.tup (sD tuP ps),.tup (sD miP ps)]),e12,e13]) (S:=S) (f1:=dC (.int 1)) (f2:=qB 3) (f3:=dC (.int 0)) (f4:=dC (.int 0)) rfl rfl rfl rfl).trans (mP c 1 (by omega) _ _ _ _ S S (YH c ps S L))
     have u2:=(kR (a:=.int 2) (b:=.tup (ps.map pD)) (c:=.int 0) (d:=.int 0) (env:=[some (.lst (ns.map D.int)),some (.int y),some (.loc p),some (.tup (ps.map pD)),some (.str x),e5,e6,some (.lst (q5.map pD)),e8,e9,e10,some (.lst [.tup (sD tuP ps),.tup (sD miP ps)]),e12,e13]) (S:=S) (f1:=dC (.int 2)) (f2:=qB 3) (f3:=dC (.int 0)) (f4:=dC (.int 0)) rfl rfl rfl rfl).trans (mP c 2 (by omega) _ _ _ _ S S (iF c ps S L))
     have hs:=jA (wW ((vI (xY (zS u1 u2) l2) (xC (i:=11) rfl)).trans (X4 (.lst [.tup (sD tuP ps),.tup (sD miP ps)]) S (by
      intro z hz
      simp only[List.mem_cons,List.not_mem_nil,or_false] at hz
      rcases hz with rfl|rfl <;> exact FJ _))))
     refine wZ (xG (vP hs (fun _=>VX _ x hre _ S rfl rfl) (fun _=>rfl)) (zZ rfl ?_))
     clear hs u1 u2
     obtain⟨d,S4,c4,td,hd,p4⟩:=YF S p (ps.map pD) hp hx (by rw[List.length_map];exact hxl)
     obtain⟨o,S5,c5,ho⟩:=iH S4 p p4
     refine wZ (zP (zU (zS ((vI (a:=.loc p) (b:=.tup (ps.map pD)) rfl rfl).trans c4) ((vH (a:=.loc p) rfl).trans c5)) l2) (env1:=[some (.lst (ns.map D.int)),some (.int y),some (.loc p),some (.tup (ps.map pD)),some (.str x),e5,e6,some (.lst (q5.map pD)),e8,e9,e10,some (.lst [.tup (sD tuP ps),.tup (sD miP ps)]),some d,some o]) (S2:=S5) rfl ?_)
     clear c4 c5
     have r3:=p7 (dC (.int 3)) 3 [some (.lst (ns.map D.int)),some (.int y),some (.loc p),some (.tup (ps.map pD)),some (.str x),e5,e6,some (.lst (q5.map pD)),e8,e9,e10,some (.lst [.tup (sD tuP ps),.tup (sD miP ps)]),some d,some o] S5 (by omega) rfl
     have hc:=pN (enc:=iD) (cap:=[none,some 12,some 13]) (g:=gNm 0) (t:=zH) (fe:=qG 4 (okO (S__law_came c)) (qA (qB 0) (qA (qB 1) (qA (qB 2) (qA (qB 2) (qC)))))) r3 trivial (fun _=>true) (fun _=>D.str "lot") (fun env=>∃ a,env=[a,some d,some o]) ⟨none,rfl⟩ (by show 3≤lim;decide)
      (fun w hw env ⟨a,q⟩=>by
       subst q
       have hw:=List.mem_range.mp hw
       exact⟨[some (iD w),some d,some o],rfl,⟨_,rfl⟩,rfl,fun _=>(kR (a:=.int (w:Int)) (b:=d) (c:=o) (d:=o) rfl rfl rfl rfl).trans (kI (XY c nd w hw d o S5 (iR td) hd))⟩)
     rw[vA] at hc
     refine wZ (xG (wW ((qU hc (U1 "lot" _ S5)).trans (rE "lot" S5))) (zZ rfl ?_))
     clear hc r3
     have v1:=(kR (a:=.int 0) (b:=.tup (ps.map pD)) (c:=o) (d:=.int 0) (env:=[some (.lst (ns.map D.int)),some (.int y),some (.loc p),some (.tup (ps.map pD)),some (.str x),e5,e6,some (.lst (q5.map pD)),e8,e9,e10,some (.lst [.tup (sD tuP ps),.tup (sD miP ps)]),some d,some o]) (S:=S5) (f1:=dC (.int 0)) (f2:=qB 3) (f3:=qB 13) (f4:=dC (.int 0)) rfl rfl rfl rfl).trans (k8 c 0 (by omega) _ _ _ _ _ S5 S5 (nO c ps o (.int 0) S5 L ho) (XU c) (vT c nd S5))
     have v2:=(kR (a:=.int 0) (b:=.tup (ps.map pD)) (c:=.int 5000) (d:=o) (env:=[some (.lst (ns.map D.int)),some (.int y),some (.loc p),some (.tup (ps.map pD)),some (.str x),e5,e6,some (.lst (q5.map pD)),e8,e9,e10,some (.lst [.tup (sD tuP ps),.tup (sD miP ps)]),some d,some o]) (S:=S5) (f1:=dC (.int 0)) (f2:=qB 3) (f3:=dC (.int 5000)) (f4:=qB 13) rfl rfl rfl rfl).trans (k8 c 0 (by omega) _ _ _ _ _ S5 S5 (QH c ps 5000 o S5 L ho) (XU c) (vT c nd S5))
     have v3:=(kR (a:=.int 0) (b:=.tup (ps.map pD)) (c:=o) (d:=o) (env:=[some (.lst (ns.map D.int)),some (.int y),some (.loc p),some (.tup (ps.map pD)),some (.str x),e5,e6,some (.lst (q5.map pD)),e8,e9,e10,some (.lst [.tup (sD tuP ps),.tup (sD miP ps)]),some d,some o]) (S:=S5) (f1:=dC (.int 0)) (f2:=qB 3) (f3:=qB 13) (f4:=qB 13) rfl rfl rfl rfl).trans (k8 c 0 (by omega) _ _ _ _ _ S5 S5 (nO c ps o o S5 L ho) (XU c) (vT c nd S5))
     exact xG (wW ((qU (xY (qZ v1 (zS v2 v3)) l3) (U1 "number" _ S5)).trans (rE "number" S5))) (zZ rfl ⟨ms,_,_,_,_,_,_,_,_,_,_,_,_,_,rfl,rfl⟩)
  ·rintro env S ⟨ms,e1,e2,e3,e4,e5,e6,e7,e8,e9,e10,e11,e12,e13,_,rfl⟩
   exact xI (zV (d:=.bl true) (S:=S) rfl rfl)
 obtain⟨d,S',e,rfl⟩:=key
 exact⟨S',jE rfl e⟩
end _K
end
section
namespace _K
open PySem PySem.Spec PyProof.Rows _L _D
theorem vO {P:Program}{w:World}{K:PySem.W.Frag}{mg:Str→Option Value}{base:Heap}{c:Cl}(T:Txt K mg c){k:Nat}{F:DF}(d:DfS F P w K mg base true k "_law_same" 2):DfS (qQ 4 (b__law_same F)) P w K mg base true (k+1) "_law_same" 2:=by
 refine dq P w base k 15 T rfl ck rfl ?_
 intro _ _ _ _ _ _ _ hr
 repeat' first
  |with_reducible first|apply Z8|apply mC|apply b5|apply c0|apply Z7|apply aV|apply ZE|apply VO|apply ZJ|apply ZG|apply aBt|apply aGi|apply aCl|apply aO|apply aN|(apply aB;first|apply U9|apply U8|apply U5|apply XG|apply XH|apply XJ|apply rL|apply XE)|(apply aT;first|apply cS|apply XF|apply U7)|apply aC|apply ZK|apply ZF|apply c8|apply VQ|apply sR|apply c9|apply VR|apply ZD|apply sQ|apply ZH|apply VS|apply ZI|apply Z9|apply VP|apply c7|apply mD|apply aTb|apply aZt|apply rM|(apply lO;(case slot=>apply PySem.F.slot_list_count);(case hm=>first|exact cQ))|(apply lO;(case slot=>apply PySem.F.slot_list_index);(case hm=>first|exact cR))|apply ZB|apply cC|apply cD|apply ZV|apply ZU|apply sU|(apply VU;first|apply mE|apply lP)|apply ZW|apply mE|apply lP|apply aNm|apply ZM|apply ZL|apply sS|apply cA|apply ZP|apply sT|apply ZQ|apply ZO|apply ZN|apply cF|apply cB|apply ZT|apply VT|apply cE|apply ZS|apply aP2|apply aP3|apply aRs|apply aTr|apply U4|apply UG|apply XI|apply UC|apply U6|apply UB|apply UE|apply TD|apply TC|apply T7|apply T6|apply TF|apply T9|apply UA|apply UD|apply TB|apply UF|exact ck|apply V6|apply PySem.F.plainAttrs_list|apply PySem.F.type_list_count|apply PySem.F.type_list_index
  |((with_reducible apply aCs);case hsw=>exact rfl)
  |((with_reducible apply aSt);case hs=>exact rfl)
  |with_reducible apply ZR
  |((with_reducible show DfS _ _ _ _ _ _ _ _ _ _);assumption)
  |((with_reducible show RoomC _ _ _);first|assumption|exact RoomC.mono (by assumption)|exact RoomC.mono (RoomC.any (by assumption))|exact RoomC.mark (by assumption) _|exact RoomC.mono (RoomC.mark (by assumption) _))
  |exact T.nb ck
  |exact T.cls
  |exact T.cl (by kernel_rfl)
  |exact T.rz (by kernel_rfl)
  |exact T.ct
  |exact T.gi (by kernel_rfl)
  |((with_reducible show ZPass _);first|assumption|exact cT)
  |exact⟨rfl,rfl⟩
  |exact⟨rfl,rfl,rfl⟩
  |exact kH _
  |exact rfl
  |with_unfolding_all rfl
  |apply mC
  |apply b5
  |decide
  |(intros;rfl)
  |(intro _ h;cases h <;> rfl)
  |intro _
theorem K4 {P:Program}{w:World}{K:PySem.W.Frag}{mg:Str→Option Value}{base:Heap}{c:Cl}(T:Txt K mg c)(nd:(xM c).Nodup):∃ F,lT P w K mg base true 8 "law" ["_law_script"] F∧∀ ns:List Int,ns.length≤63→∃ S,F [.lst (ns.map D.int)] [] = .ok (.bl true) S:=by
 refine hv (fun d_is_whole=>?_) (dq (cm:=true) P w base 0 0 T rfl ck (uS) ?_)
 refine hv (fun d_is_within=>?_) (dq (cm:=true) P w base 1 1 T rfl ck (u7) ?_)
 refine hv (fun d_is_rising=>?_) (dq (cm:=true) P w base 0 2 T rfl ck (jY) ?_)
 refine hv (fun d_need_number=>?_) (dq (cm:=true) P w base 1 3 T rfl ck (yW c) ?_)
 refine hv (fun d_is_point=>?_) (dq (cm:=true) P w base 2 4 T rfl ck (gJ) ?_)
 refine hv (fun d_is_lot=>?_) (dq (cm:=true) P w base 3 5 T rfl ck (b9) ?_)
 refine hv (fun d_need_point=>?_) (dq (cm:=true) P w base 3 6 T rfl ck (jL c) ?_)
 refine hv (fun d_need_lot=>?_) (dq (cm:=true) P w base 4 7 T rfl ck (gK c) ?_)
 refine hv (fun d_moved=>?_) (dq (cm:=true) P w base 5 8 T rfl ck (vF c) ?_)
 refine hv (fun d_turned_about=>?_) (dq (cm:=true) P w base 5 9 T rfl ck (yM c) ?_)
 refine hv (fun d_mirrored=>?_) (dq (cm:=true) P w base 5 10 T rfl ck (uT c) ?_)
 refine hv (fun d__law_cell=>?_) (dq (cm:=true) P w base 0 11 T rfl ck (jW) ?_)
 refine hv (fun d__law_pen=>?_) (dq (cm:=true) P w base 0 12 T rfl ck (gI) ?_)
 refine hv (fun d__law_draw=>?_) (dq (cm:=true) P w base 0 13 T rfl ck (jX) ?_)
 refine hv (fun d__law_whole=>?_) (dq (cm:=true) P w base 0 14 T rfl ck (vE) ?_)
 have s0:DfS (gF 0) P w K mg base true 0 "_law_same" 2:=⟨UZ (T.src 15 rfl)⟩
 have d__law_same:DfS S__law_same P w K mg base true 4 "_law_same" 2:=u4▸vO T (vO T (vO T (vO T s0)))
 refine hv (fun d__law_kind_of=>?_) (dq (cm:=false) P w base 0 16 T rfl ck (wH c) ?_)
 refine hv (fun d__law_no_whole=>?_) (dq (cm:=true) P w base 1 17 T rfl ck (uO) ?_)
 refine hv (fun d__law_point=>?_) (dq (cm:=true) P w base 1 18 T rfl ck (jK) ?_)
 refine hv (fun d__law_lot=>?_) (dq (cm:=true) P w base 2 19 T rfl ck (gH) ?_)
 refine hv (fun d__law_is_point=>?_) (dq (cm:=true) P w base 1 20 T rfl ck (uM) ?_)
 refine hv (fun d__law_is_lot=>?_) (dq (cm:=true) P w base 2 21 T rfl ck (j2) ?_)
 refine hv (fun d__law_no_point=>?_) (dq (cm:=true) P w base 1 22 T rfl ck (uN) ?_)
 refine hv (fun d__law_no_lot=>?_) (dq (cm:=true) P w base 3 23 T rfl ck (j3) ?_)
 refine hv (fun d__law_came=>?_) (dq (cm:=true) P w base 6 24 T rfl ck (u0 c) ?_)
 refine hv (fun d__law_moved=>?_) (dq (cm:=true) P w base 3 25 T rfl ck (jJ) ?_)
 refine⟨_,dqP 7 26 T rfl ck ?_,WU c nd⟩
 all_goals
  intro _ _ _ _ _ _ _ hr
  repeat' first
   |with_reducible first|apply Z8|apply mC|apply b5|apply c0|apply Z7|apply aV|apply ZE|apply VO|apply ZJ|apply ZG|apply aBt|apply aGi|apply aCl|apply aO|apply aN|(apply aB;first|apply U9|apply U8|apply U5|apply XG|apply XH|apply XJ|apply rL|apply XE)|(apply aT;first|apply cS|apply XF|apply U7)|apply aC|apply ZK|apply ZF|apply c8|apply VQ|apply sR|apply c9|apply VR|apply ZD|apply sQ|apply ZH|apply VS|apply ZI|apply Z9|apply VP|apply c7|apply mD|apply aTb|apply aZt|apply rM|(apply lO;(case slot=>apply PySem.F.slot_list_count);(case hm=>first|exact cQ))|(apply lO;(case slot=>apply PySem.F.slot_list_index);(case hm=>first|exact cR))|apply ZB|apply cC|apply cD|apply ZV|apply ZU|apply sU|(apply VU;first|apply mE|apply lP)|apply ZW|apply mE|apply lP|apply aNm|apply ZM|apply ZL|apply sS|apply cA|apply ZP|apply sT|apply ZQ|apply ZO|apply ZN|apply cF|apply cB|apply ZT|apply VT|apply cE|apply ZS|apply aP2|apply aP3|apply aRs|apply aTr|apply U4|apply UG|apply XI|apply UC|apply U6|apply UB|apply UE|apply TD|apply TC|apply T7|apply T6|apply TF|apply T9|apply UA|apply UD|apply TB|apply UF|exact ck|apply V6|apply PySem.F.plainAttrs_list|apply PySem.F.type_list_count|apply PySem.F.type_list_index
   |((with_reducible apply aCs);case hsw=>exact rfl)
   |((with_reducible apply aSt);case hs=>exact rfl)
   |with_reducible apply ZR
   |((with_reducible show DfS _ _ _ _ _ _ _ _ _ _);assumption)
   |((with_reducible show RoomC _ _ _);first|assumption|exact RoomC.mono (by assumption)|exact RoomC.mono (RoomC.any (by assumption))|exact RoomC.mark (by assumption) _|exact RoomC.mono (RoomC.mark (by assumption) _))
   |exact T.nb ck
   |exact T.cls
   |exact T.cl (by kernel_rfl)
   |exact T.rz (by kernel_rfl)
   |exact T.ct
   |exact T.gi (by kernel_rfl)
   |((with_reducible show ZPass _);first|assumption|exact cT)
   |exact⟨rfl,rfl⟩
   |exact⟨rfl,rfl,rfl⟩
   |exact kH _
   |exact rfl
   |with_unfolding_all rfl
   |apply mC
   |apply b5
   |decide
   |(intros;rfl)
   |(intro _ h;cases h <;> rfl)
   |intro _
end _K
end
namespace _K
open PySem PySem.Spec PyProof.Rows _L _D
theorem bdf:BdF top tab:=by
 repeat (refine⟨?_,?_⟩;(intro _ _ _ _ _ _ us h;first|(obtain⟨_,rfl⟩:=us1 h;rfl)|(obtain⟨_,_,rfl⟩:=us2 h;rfl)|(obtain⟨_,_,_,rfl⟩:=us3 h;rfl)|(obtain⟨_,_,_,_,rfl⟩:=us4 h;rfl)))
 exact trivial
theorem TJ {K:PySem.W.Frag}{C0 C1 C2 C3 C4 C5 C6 C7 C8 C9 C10 C11:Addr}(q0:PySem.W.nsIn K mainGlobals "FarError" = some (some (.ref C0)))(q1:PySem.W.nsIn K mainGlobals "NoPoint" = some (some (.ref C1)))(q2:PySem.W.nsIn K mainGlobals "NoLot" = some (some (.ref C2)))(q3:PySem.W.nsIn K mainGlobals "NoNumber" = some (some (.ref C3)))(q4:PySem.W.nsIn K mainGlobals "NoCircle" = some (some (.ref C4)))(q5:PySem.W.nsIn K mainGlobals "NoMarks" = some (some (.ref C5)))(q6:PySem.W.nsIn K mainGlobals "NoFars" = some (some (.ref C6)))(q7:PySem.W.nsIn K mainGlobals "NoText" = some (some (.ref C7)))(q8:PySem.W.nsIn K mainGlobals "NoLine" = some (some (.ref C8)))(q9:PySem.W.nsIn K mainGlobals "NoDeed" = some (some (.ref C9)))(q10:PySem.W.nsIn K mainGlobals "Alike" = some (some (.ref C10)))(q11:PySem.W.nsIn K mainGlobals "TooMany" = some (some (.ref C11))):cU K (clt ⟨C0,C1,C2,C3,C4,C5,C6,C7,C8,C9,C10,C11⟩):=⟨q0,q1,q2,q3,q4,q5,q6,q7,q8,q9,q10,q11,trivial⟩
theorem TK {K:PySem.W.Frag}{k0 k1 k2:Tok}(g0:PySem.W.nsIn K mainGlobals "LEAST_NUMBER" = some (some (.int (-1000) k0)))(g1:PySem.W.nsIn K mainGlobals "MOST_NUMBER" = some (some (.int (1000) k1)))(g2:PySem.W.nsIn K mainGlobals "MOST_POINTS" = some (some (.int (40) k2))):cV K cst:=⟨⟨_,g0⟩,⟨_,g1⟩,⟨_,g2⟩,trivial⟩
theorem F0 {P:Program}{w:World}{K:PySem.W.Frag}{mg:Str→Option Value}{c:Cl}{fa:Addr}(T:Txt K mg c)(nd:(xM c).Nodup)(hfa:mg "law" = some (.ref fa)) :
  ∃ fd:FuncData,(∀ (s:Shared) (v:Value),BindsTo s fd ⟨[v],[]⟩ [("_law_script",v)])∧∀ base:Heap,K.In base→base.Ns mainGlobals mg→FnOk P w K mg base (CXd P w) 8 fa fd ["_law_script"] (lR K):=
 K5 (T.src 26 rfl) hfa (fun kV doc pm an cdv ct s v=>.of_eq rfl) fun base=>K4 T nd
end _K
theorem PySem.W.Fast.tw3353055116636478936 : True := trivial
theorem PySem.W.Fast.tw17116086263525113548 : True := trivial
theorem PySem.W.Fast.tw14547954906472831122 : True := trivial
theorem PySem.W.Fast.tw1175105730384300316 : True := trivial
theorem PySem.W.Fast.tw7510793193887724392 : True := trivial
theorem PySem.W.Fast.tw13127354253975084660 : True := trivial
theorem PySem.W.Fast.tw14344582358489401363 : True := trivial
theorem PySem.W.Fast.tw10951630645250593705 : True := trivial
theorem PySem.W.Fast.tw6578719234950096667 : True := trivial
theorem PySem.W.Fast.tw11055640400688750381 : True := trivial
theorem PySem.W.Fast.tw3261909168156389030 : True := trivial
theorem PySem.W.Fast.tw7894206453816286256 : True := trivial
theorem PySem.W.Fast.tw3771616531788668540 : True := trivial
theorem PySem.W.Fast.tw2667219711027774607 : True := trivial
theorem PySem.W.Fast.tw2464242128911003348 : True := trivial
theorem PySem.W.Fast.tw5339536089379996092 : True := trivial
theorem PySem.W.Fast.tw4110481518257641303 : True := trivial
theorem PySem.W.Fast.tw2820510100523403233 : True := trivial
theorem PySem.W.Fast.tw11189597509060574705 : True := trivial
theorem PySem.W.Fast.tw15249693352000595189 : True := trivial
theorem PySem.W.Fast.tw1983079706035891138 : True := trivial
theorem PySem.W.Fast.tw1704072428287070586 : True := trivial
theorem PySem.W.Fast.tw9569153463167525154 : True := trivial
theorem PySem.W.Fast.tw12843560913581164162 : True := trivial
theorem PySem.W.Fast.tw6381190084419371014 : True := trivial
theorem PySem.W.Fast.tw12658892383489814237 : True := trivial
theorem PySem.W.Fast.tw8464603362661040650 : True := trivial
theorem PySem.W.Fast.tw4441963122320985811 : True := trivial
theorem PySem.W.Fast.tw13888770948549108593 : True := trivial
theorem PySem.W.Fast.tw16712368337475103791 : True := trivial
theorem PySem.W.Fast.tw2819612045889916796 : True := trivial
theorem PySem.W.Fast.tw3353640815536512561 : True := trivial
theorem PySem.W.Fast.tw10179955757297560584 : True := trivial
theorem PySem.W.Fast.tw15738200226078067053 : True := trivial
theorem PySem.W.Fast.tw4326055730287374019 : True := trivial
theorem PySem.W.Fast.tw3094818308435265607 : True := trivial
theorem PySem.W.Fast.tw3057370853158305434 : True := trivial
open PySem PySem.W PyProof.Rows
set_option maxRecDepth 100000 in
set_option maxHeartbeats 0 in
theorem PySem.Challenge.cw_fewdistances_k12_lots_moved_and_turned_holds : PySem.Challenge.rw_fewdistances_k12_lots_moved_and_turned.Holds := by
 w_on;o_law;z_head;(case hw=>w_witness2)
 refine _D.LE (fun _=>by kernel_rfl) ?_
 refine _D.LD (l:=PySem.Challenge.rw_fewdistances_k12_lots_moved_and_turned) (k:=8) (x:="_law_script") rfl rfl ⟨rfl,by decide,by decide,rfl⟩ (fun w h Y=>Y) ?F
 case F =>
  intro w mg fa h KX G hmg
  refine' _K.F0 (_D.LB _K.bdf ?hp rfl KX G ?s ?z (_K.TJ ?q0 ?q1 ?q2 ?q3 ?q4 ?q5 ?q6 ?q7 ?q8 ?q9 ?q10 ?q11) (_K.TK ?gi0 ?gi1 ?gi2) ?e1 ?e2 ?e3 ?e4 ?e5 ?e6) ?nd hmg
  (case s=>(repeat (refine' ⟨_D.SrcF.mk ?a ?l ?c ?k,?_⟩;(case a=>k_is);(case l=>k_is);(case c=>k_is);(case k=>k_is)));exact trivial)
  (case z=>rfl)
  (case q0=>k_is)
  (case q1=>k_is)
  (case q2=>k_is)
  (case q3=>k_is)
  (case q4=>k_is)
  (case q5=>k_is)
  (case q6=>k_is)
  (case q7=>k_is)
  (case q8=>k_is)
  (case q9=>k_is)
  (case q10=>k_is)
  (case q11=>k_is)
  (case gi0=>k_is)
  (case gi1=>k_is)
  (case gi2=>k_is)
  (case hp=>intro y hy;revert hy;simp;grind)
  (case e1=>rfl)
  (case e2=>rfl)
  (case e3=>rfl)
  (case e4=>rfl)
  (case e5=>rfl)
  (case e6=>rfl)
  (case nd=>decide)
