import PyProof.Rows.All
import Wide.All
import OpenK.AllK
import Wide.FinOn
import Lean
import PyProof.EqAt
import PyProof.EqKinds
import PyProof.TupleCall
import KE.KTryMore
import KE.KIsAll
import PyProof.NeKinds
import PyProof.Rows.CountFlat
import PyProof.Rows.FStr
import PyProof.ZipIter
import PyProof.EnumMake
import PyProof.EnumStmt
import KE.KDictLaws
import PyProof.DictWalks
import PyProof.Rows.SetFrom
import PyProof.SumWalkG
import PyProof.Rows.SumGenD
import PyProof.SeqI2
import KE.KItemsList
import PyProof.SetKind
import PyProof.TupleKey
import KE.KSortTup
import PyProof.ReprRoads
import PyProof.ReprBulk
import PyProof.TupleOfSeq
import PyProof.WalkInts
import PyProof.SeqI3
import KE.KPairComp
import PySem.Challenge.RW_fewdistances_k03_whole_tables_and_moves
set_option Elab.async false
set_option linter.all false
set_option maxRecDepth 100000
set_option maxHeartbeats 0
set_option tactic.hygienic false
set_option bootstrap.genMatcherCode false
set_option genSizeOf false
set_option compiler.extract_closed false
theorem kd {p:Prop}[Decidable p](h:p:=by decide +kernel):p:=h
section
namespace _L
open PySem PySem.Spec PyProof.Rows
abbrev Key:=Sum Int Str
def gG:Key→Value→Bool
 |.inl k,v=>Value.isInt k v
 |.inr x,v=>Value.isStrOf x v
def SH (w:World):Key→Int
 |.inl k=>hashInt k
 |.inr x=>hashStr w x
theorem xA:∀ {k:Key} {v:Value},gG k v=true→(∃ i t,k=Sum.inl i∧v=Value.int i t)∨(∃ x t,k=Sum.inr x∧v=Value.str x t)
 |.inl i,v,h=>by
  obtain⟨t,e⟩:=Value.isInt_shape (k:=i) (v:=v) h
  exact .inl ⟨i,t,rfl,e⟩
 |.inr x,v,h=>by
  obtain⟨t,e⟩:=Value.isStrOf_shape (x:=x) (v:=v) h
  exact .inr ⟨x,t,rfl,e⟩
theorem oX (i:Int)(t:Tok):gG (.inl i) (.int i t)=true:=by simp[gG,Value.isInt]
theorem oY (x:Str)(t:Tok):gG (.inr x) (.str x t)=true:=by simp[gG,Value.isStrOf]
theorem BA (a b:Int):decide ((Sum.inl a:Key)=Sum.inl b)=(a == b):=by
 by_cases e:a=b
 ·subst e;simp
 ·have h:¬ (Sum.inl a:Key)=Sum.inl b:=fun q=>e (Sum.inl.inj q)
  rw[decide_eq_false h]
  exact(beq_eq_false_iff_ne.mpr e).symm
theorem BD (a b:Str):decide ((Sum.inr a:Key)=Sum.inr b)=decide (a=b):=by
 by_cases e:a=b
 ·subst e;simp
 ·have h:¬ (Sum.inr a:Key)=Sum.inr b:=fun q=>e (Sum.inr.inj q)
  rw[decide_eq_false h,decide_eq_false e]
theorem BB (a:Int)(b:Str):decide ((Sum.inl a:Key)=Sum.inr b)=false:=decide_eq_false (fun q=>nomatch q)
theorem BC (a:Str)(b:Int):decide ((Sum.inr a:Key)=Sum.inl b)=false:=decide_eq_false (fun q=>nomatch q)
def zS (prog:Program)(w:World):PySem.KeyKind prog w Key where
 is:=gG
 hash:=SH w
 inj:=fun v a b ha hb=>by
  rcases xA ha with⟨i,t,rfl,rfl⟩|⟨x,t,rfl,rfl⟩
  ·rcases xA hb with⟨j,u,rfl,e⟩|⟨y,u,rfl,e⟩
   ·injection e with e1 _;rw[e1]
   ·exact nomatch e
  ·rcases xA hb with⟨j,u,rfl,e⟩|⟨y,u,rfl,e⟩
   ·exact nomatch e
   ·injection e with e1 _;rw[e1]
 byValue:=fun k v h=>by
  rcases xA h with⟨i,t,rfl,rfl⟩|⟨x,t,rfl,rfl⟩ <;> rfl
 pyHash:=fun hv h=>by
  rcases xA hv with⟨i,t,rfl,rfl⟩|⟨x,t,rfl,rfl⟩
  ·exact wpAny_pyHash_int h
  ·exact wpAny_pyHash_str h
 eqBool:=fun hu hv h=>by
  rcases xA hu with⟨i,t,rfl,rfl⟩|⟨x,t,rfl,rfl⟩
  ·rcases xA hv with⟨j,u,rfl,rfl⟩|⟨y,u,rfl,rfl⟩
   ·rw[BA] at h;exact wpAny_eqBool_int h
   ·rw[BB] at h;exact SeqAt.EqAt.int_str i t y u _ _ _ _ h
  ·rcases xA hv with⟨j,u,rfl,rfl⟩|⟨y,u,rfl,rfl⟩
   ·rw[BC] at h;exact SeqAt.EqAt.str_int x t j u _ _ _ _ h
   ·rw[BD] at h;exact wpAny_eqBool_str h
 «strs»:=fun k x t v h=>by
  rcases xA h with⟨i,u,rfl,e⟩|⟨y,u,rfl,e⟩
  ·exact nomatch e
  ·injection e with e1 _
   subst e1
   cases v <;> rfl
theorem rY (prog:Program)(w:World)(i:Int)(t:Tok):(zS prog w).is (.inl i) (.int i t)=true:=oX i t
theorem rZ (prog:Program)(w:World)(x:Str)(t:Tok):(zS prog w).is (.inr x) (.str x t)=true:=oY x t
end _L
namespace _L
open PySem PySem.Spec PyProof.Rows
inductive V where
 |non|bl (b:Bool)|int (i:Int)|str (x:Str)|byt (b:Array UInt8)|flt (b:UInt64)|ref (a:Addr)|ty (n:String)
 deriving DecidableEq
def qJ:V→Value→Prop
 |.non,u=>u=Value.none
 |.bl b,u=>u=Value.bool b
 |.int i,u=>∃ t,u=Value.int i t
 |.str x,u=>∃ t,u=Value.str x t
 |.byt b,u=>∃ t,u=Value.bytes b t
 |.flt b,u=>∃ t,u=Value.float b t
 |.ref a,u=>u=Value.ref a
 |.ty n,u=>u=Value.type n
abbrev qN:List V→List Value→Prop:=Paired qJ
theorem qN.length {xs:List V}{us:List Value}(r:qN xs us):xs.length=us.length:=Paired.length r
theorem qN.get:∀ {xs:List V} {us:List Value} {i:Nat} {x:V},qN xs us→xs[i]? = some x→∃ u,us[i]? = some u∧qJ x u
 |_,_,_,_,.nil,e=>by simp at e
 |_,_,0,_,.cons r _,e=>by simp at e;subst e;exact⟨_,rfl,r⟩
 |_,_,i+1,x,.cons _ t,e=>by
  obtain⟨u,h1,h2⟩:=qN.get (i:=i) (x:=x) t (by simpa using e)
  exact⟨u,by simpa using h1,h2⟩
theorem qN.set {x:V}{u:Value}(r:qJ x u):∀ {xs:List V} {us:List Value} (i:Nat),qN xs us→qN (xs.set i x) (us.set i u)
 |_,_,_,.nil=>.nil
 |_,_,0,.cons _ t=>.cons r t
 |_,_,i+1,.cons q t=>.cons q (qN.set r i t)
theorem qN.append {xs ys:List V}{us ws:List Value}(h:qN xs us)(s:qN ys ws):qN (xs++ys) (us++ws):=by
 induction h with
 |nil=>exact s
 |cons r t ih=>exact .cons r ih
theorem qN.take:∀ {xs:List V} {us:List Value} (n:Nat),qN xs us→qN (xs.take n) (us.take n)
 |_,_,0,_=>.nil
 |_,_,_+1,.nil=>.nil
 |_,_,n+1,.cons r t=>.cons r (qN.take n t)
theorem qN.drop:∀ {xs:List V} {us:List Value} (n:Nat),qN xs us→qN (xs.drop n) (us.drop n)
 |_,_,0,r=>r
 |_,_,_+1,.nil=>.nil
 |_,_,n+1,.cons _ t=>qN.drop n t
def bY:Option V→Option Value→Prop
 |some v,some u=>qJ v u
 |none,none=>True
 |_,_=>False
def KV {κ : Type}:List (κ × V)→List (κ × Value)→Prop:=Paired fun (p:κ × V) (q:κ × Value)=>p.1=q.1∧qJ p.2 q.2
def kV:Key→V
 |.inl i=>.int i
 |.inr x=>.str x
inductive HO where
  |lst (xs:List V)
  |tup (xs:List V)
  |dK (kvs:List (Key × V))|dT (kvs:List (List Key × V))
  |set (S:Int→Bool) (n:Nat)
  |ins (C dx:Addr) (fs:List (Str × V))
  |own (x:Addr)
  |xd (fs:List (Str × V))
  |met (f x:Addr)
  |rng (lo hi:Int)
  |frz (o:Obj) (u:HO)
  |tbl (ps:Array Value)
  |ext (φ : Heap→Prop)
abbrev Hp:=Addr→Option HO
def upd (H:Hp)(a:Addr)(o:HO):Hp:=fun b=>if b=a then some o else H b
theorem z0 {H:Hp}{a:Addr}{o:HO}:upd H a o a=some o:=by unfold upd;rw[if_pos rfl]
theorem qS {H:Hp}{a b:Addr}{o:HO}(h:b≠a):upd H a o b=H b:=by unfold upd;rw[if_neg h]
theorem NN {H:Hp}{a b:Addr}{o u:HO}(h:H a=some o)(h':H b=some u)(d:o≠u):a≠b:=by
 intro e;subst e;rw[h] at h';exact d (Option.some.inj h')
theorem zM {H:Hp}{a b:Addr}{o:HO}(h:H a=some o)(h':H b=none):a≠b:=by
 intro e;subst e;rw[h] at h';cases h'
section
variable (P:Program)(w:World)
def zI (H:Hp)(h:Heap)(a:Addr):HO→Prop
 |.lst xs=>xs.length≤sizeLine∧∃ (its:List Value) (n:Nat),qN xs its∧h.get? a=some { cls:=.type "list",data:=.seq its.toArray n }
 |.tup xs=>xs.length≤sizeLine∧∃ its:List Value,qN xs its∧IsTup h a its.toArray
 |.dK kvs=>kvs.length≤sizeLine∧(a == sysModules)=false∧∃ vs,KV kvs vs∧h.DictOf (zS P w) a vs
 |.dT kvs=>kvs.length≤sizeLine∧(a == sysModules)=false∧∃ xs:List (List Key × Addr × Value),
   Paired (fun (p:List Key × V) (q:List Key × Addr × Value)=>p.1=q.1∧H q.2.1=some (.tup (p.1.map kV))∧qJ p.2 q.2.2) kvs xs ∧
   ∃ o es ep,h.get? a=some o∧o.ExactDict∧o.data=.dict es ep∧es.toList=xs.map (entryOfKey (tupleKind (zS P w)))∧(xs.map (·.1)).Nodup
 |.set S n=>h.SetOf (intKind P w) a S n
 |.ins C dx fs=>H dx=some (.own a)∧fs.length≤1000∧dx≠a∧h.get? a=some (PySem.W.instObj C dx) ∧
   ∃ mA,h.Ns1 dx mA∧(∀ f,bY (fs.lookup f) (mA f))∧PySem.Within mA (fs.map (·.1))
 |.own _=>∃ o,h.get? a=some o
 |.xd fs=>∃ mA,h.Ns1 a mA∧∀ f,bY (fs.lookup f) (mA f)
 |.rng lo hi=>∃ t u v,h.get? a=some { cls:=.type "range",data:=.fields #[.int lo t,.int hi u,.int 1 v] }
 |.frz o u=>h.get? a=some o∧zI H h a u
 |.tbl ps=>h.get? a=some { cls:=.none,data:=.fields ps }
 |.met f x=>h.get? a=some (PySem.W.methodObj (.ref f) (.ref x))
 |.ext φ => φ h∧(∃ o,h.get? a=some o)∧∀ h1 h2:Heap,φ h1→(∀ o,h1.get? a=some o→h2.get? a=some o)→φ h2
def HOk (H:Hp)(h:Heap):Prop:=∀ a o,H a=some o→zI P w H h a o
end
section
variable {P:Program}{w:World}{H H':Hp}{h h':Heap}{a:Addr}{o:HO}
theorem zI.lt (x:zI P w H h a o):a<h.objs.size:=by
 cases o with
 |lst xs=>obtain⟨_,_,_,_,e⟩:=x;exact Heap.lt_size e
 |tup xs=>obtain⟨_,_,_,p⟩:=x;exact p.lt
 |dK kvs=>obtain⟨_,_,_,_,o,_,_,e,_⟩:=x;exact Heap.lt_size e
 |dT kvs=>obtain⟨_,_,_,_,o,_,_,e,_⟩:=x;exact Heap.lt_size e
 |set S n=>obtain⟨o,_,_,_,e,_⟩:=x;exact Heap.lt_size e
 |ins C dx fs=>obtain⟨_,_,_,e,_⟩:=x;exact Heap.lt_size e
 |own y=>obtain⟨_,e⟩:=x;exact Heap.lt_size e
 |xd fs=>obtain⟨_,⟨_,_,_,e,_⟩,_⟩:=x;exact Heap.lt_size e
 |rng lo hi=>obtain⟨_,_,_,e⟩:=x;exact Heap.lt_size e
 |frz ob u=>obtain⟨e,_⟩:=x;exact Heap.lt_size e
 |tbl ps=>exact Heap.lt_size (show h.get? a=some _ from x)
 |met f y=>exact Heap.lt_size (show h.get? a=some _ from x)
 |ext φ => obtain⟨_,⟨_,e⟩,_⟩:=x;exact Heap.lt_size e
theorem Paired.mapP {α β:Type}{F G:α→β→Prop}{l₁:List α}{l₂:List β}(h:Paired F l₁ l₂)(f:∀ a b,F a b→G a b):Paired G l₁ l₂:=by
 induction h with
 |nil=>exact .nil
 |cons r t ih=>exact .cons (f _ _ r) ih
theorem zI.stay (x:zI P w H h a o)(k:∀ b u,(b=a∨H b=some (.own a))→h.get? b=some u→h'.get? b=some u)
  (ho:∀ b,H b=some (.own a)→H' b=some (.own a)) (ht:∀ b xs,H b=some (.tup xs)→H' b=some (.tup xs)):zI P w H' h' a o:=by
 induction o with
 |lst xs=>obtain⟨z,its,n,r,e⟩:=x;exact⟨z,its,n,r,k _ _ (.inl rfl) e⟩
 |tup xs=>obtain⟨z,its,r,ob,e,c⟩:=x;exact⟨z,its,r,ob,k _ _ (.inl rfl) e,c⟩
 |dK kvs=>obtain⟨z,y,vs,r,ob,es,ep,e,c⟩:=x;exact⟨z,y,vs,r,ob,es,ep,k _ _ (.inl rfl) e,c⟩
 |dT kvs =>
  obtain⟨z,y,xs,r,ob,es,ep,e,c⟩:=x
  exact⟨z,y,xs,Paired.mapP r fun p q z=>⟨z.1,ht _ _ z.2.1,z.2.2⟩,ob,es,ep,k _ _ (.inl rfl) e,c⟩
 |set S n=>obtain⟨ob,es,ep,t,e,c⟩:=x;exact⟨ob,es,ep,t,k _ _ (.inl rfl) e,c⟩
 |ins C dx fs =>
  obtain⟨d,z,ne,e,mA,⟨od,es,ep,e2,c⟩,r⟩:=x
  exact⟨ho _ d,z,ne,k _ _ (.inl rfl) e,mA,⟨od,es,ep,k _ _ (.inr d) e2,c⟩,r⟩
 |own y=>obtain⟨ob,e⟩:=x;exact⟨ob,k _ _ (.inl rfl) e⟩
 |xd fs=>obtain⟨mA,⟨od,es,ep,e,c⟩,r⟩:=x;exact⟨mA,⟨od,es,ep,k _ _ (.inl rfl) e,c⟩,r⟩
 |rng lo hi=>obtain⟨t,u,v,e⟩:=x;exact⟨t,u,v,k _ _ (.inl rfl) e⟩
 |frz ob u ih=>obtain⟨e,q⟩:=x;exact⟨k _ _ (.inl rfl) e,ih q⟩
 |tbl ps =>
  have e:h.get? a=some { cls:=.none,data:=.fields ps }:=x
  show h'.get? a=some { cls:=.none,data:=.fields ps }
  exact k a _ (.inl rfl) e
 |met f y =>
  have e:h.get? a=some (PySem.W.methodObj (.ref f) (.ref y)):=x
  show h'.get? a=some (PySem.W.methodObj (.ref f) (.ref y))
  exact k a _ (.inl rfl) e
 |ext φ => obtain⟨p,⟨o,e⟩,st⟩:=x;exact⟨st _ _ p fun o q=>k _ _ (.inl rfl) q,⟨o,k _ _ (.inl rfl) e⟩,st⟩
theorem HOk.lt (x:HOk P w H h)(e:H a=some o):a<h.objs.size:=(x a o e).lt
theorem HOk.fresh (x:HOk P w H h)(e:h.objs.size≤a):H a=none:=by
 cases q:H a with
 |none=>rfl
 |some u=>exact absurd (Nat.lt_of_lt_of_le (x.lt q) e) (Nat.lt_irrefl _)
theorem HOk.kept (x:HOk P w H h)(k:∀ b u,h.get? b=some u→h'.get? b=some u):HOk P w H h':=fun a o e =>
 (x a o e).stay (fun b u _ q=>k b u q) (fun _ q=>q) fun _ _ q=>q
theorem HOk.laid (x:HOk P w H h)(k:∀ b u,h.get? b=some u→h'.get? b=some u)(hp:h.objs.size≤a)(new:zI P w (upd H a o) h' a o):HOk P w (upd H a o) h':=fun b u e=>by
 have hn:=x.fresh hp
 by_cases hb:b=a
 ·subst hb;rw[z0] at e;cases e;exact new
 ·rw[qS hb] at e
  exact(x b u e).stay (fun c v _ q=>k c v q) (fun c q=>by rw[qS (zM q hn)];exact q) fun c xs q=>by rw[qS (zM q hn)];exact q
end
def Rd (H:Hp)(a:Addr)(u:HO):Prop:=H a=some u∨∃ o,H a=some (.frz o u)
theorem Rd.of {H:Hp}{a:Addr}{u:HO}(h:H a=some u):Rd H a u:=.inl h
theorem Rd.ok {P:Program}{w:World}{H:Hp}{h:Heap}{a:Addr}{u:HO}(r:Rd H a u)(x:HOk P w H h):zI P w H h a u:=by
 rcases r with r|⟨o,r⟩
 ·exact x a u r
 ·obtain⟨_,q⟩:=x a _ r
  exact q
def Mut:Option HO→Prop
 |some (.lst _)=>True
 |some (.dK _)=>True
 |some (.dT _)=>True
 |some (.set _ _)=>True
 |some (.ins _ _ _)=>True
 |some (.ext _)=>True
 |_=>False
section
variable {P:Program}{w:World}{H:Hp}{h h':Heap}{x e:Addr}{o':HO}
theorem HOk.write (ok:HOk P w H h)(mu:Mut (H x))(he:e=x∨H e=some (.own x))(k:∀ b u,b≠e→h.get? b=some u→h'.get? b=some u)(heo:∃ u,h'.get? e=some u)
  (new:zI P w (upd H x o') h' x o'):HOk P w (upd H x o') h':=fun b u q=>by
 have nown:∀ c y,H c=some (.own y)→c≠x:=fun c y r z=>by subst z;rw[r] at mu;exact mu
 have ntup:∀ c xs,H c=some (.tup xs)→c≠x:=fun c xs r z=>by subst z;rw[r] at mu;exact mu
 by_cases hb:b=x
 ·subst hb;rw[z0] at q;cases q;exact new
 ·rw[qS hb] at q
  by_cases hbe:b=e
  ·have q':H b=some (.own x):=by
    rcases he with z|z
    ·exact absurd (hbe.trans z) hb
    ·rw[hbe];exact z
   rw[q] at q';cases q'
   obtain⟨v,hv⟩:=heo
   exact⟨v,by rw[hbe];exact hv⟩
  ·refine(ok b u q).stay (fun c v hc r=>k c v ?_ r) (fun c r=>by rw[qS (nown c b r)];exact r) fun c xs r=>by rw[qS (ntup c xs r)];exact r
   rcases hc with rfl|hc
   ·exact hbe
   ·rintro rfl
    rcases he with z|z
    ·exact nown c b hc z
    ·rw[hc] at z;cases z;exact hb rfl
end
structure Un (fs ex:List Addr)(H H':Hp)(h h':Heap):Prop where
 keep:∀ b o,h.get? b=some o→H b=none→b ∉ fs→b ∉ ex→h'.get? b=some o
 slot:∀ b o,h.get? b=some o→H b=none→b∈fs→b ∉ ex→∃ sl,h'.get? b=some { o with slots:=sl }
 free:∀ b o,h.get? b=some o→H b=none→b ∉ ex→H' b=none
 there:∀ b o,h.get? b=some o→b ∉ ex→∃ o',h'.get? b=some o'
 tups:∀ b xs,H b=some (.tup xs)→H' b=some (.tup xs)
 frzs:∀ b o u,H b=some (.frz o u)→H' b=some (.frz o u)
 tbls:∀ b ps,H b=some (.tbl ps)→∃ more,H' b=some (.tbl (ps++more))
section
variable {fs fs' ex ex':List Addr}{H H1 H2:Hp}{h h1 h2 h':Heap}{a x e:Addr}{o:HO}
theorem Un.any (u:Un fs ex H H1 h h1){b:Addr}{ob:Obj}(q:h.get? b=some ob)(n:H b=none)(hx:b ∉ ex):∃ sl,h1.get? b=some { ob with slots:=sl }:=by
 by_cases hb:b∈fs
 ·exact u.slot b ob q n hb hx
 ·exact⟨ob.slots,u.keep b ob q n hb hx⟩
theorem Un.kept (k:∀ b u,h.get? b=some u→h'.get? b=some u):Un fs ex H H h h':=
 ⟨fun b ob q _ _ _=>k b ob q,fun b ob q _ _ _=>⟨ob.slots,k b ob q⟩,fun _ _ _ n _=>n,fun b ob q _=>⟨ob,k b ob q⟩,fun _ _ q=>q,fun _ _ _ q=>q,fun _ ps q=>⟨#[],by rw[q];simp⟩⟩
theorem Un.refl:Un fs ex H H h h:=Un.kept fun _ _ q=>q
theorem Un.laid (k:∀ b u,h.get? b=some u→h'.get? b=some u)(hp:h.objs.size≤a)(hn:H a=none):Un fs ex H (upd H a o) h h' where
 keep:=fun b u q _ _ _=>k b u q
 slot:=fun b u q _ _ _=>⟨u.slots,k b u q⟩
 free:=fun b u q n _=>by rw[qS (Nat.ne_of_lt (Nat.lt_of_lt_of_le (Heap.lt_size q) hp))];exact n
 there:=fun b u q _=>⟨u,k b u q⟩
 tups:=fun b xs q=>by rw[qS (zM q hn)];exact q
 frzs:=fun b u xs q=>by rw[qS (zM q hn)];exact q
 tbls:=fun b ps q=>⟨#[],by rw[qS (zM q hn),q];simp⟩
theorem Un.write (mu:Mut (H x))(he:e=x∨H e=some (.own x))(k:∀ b u,b≠e→h.get? b=some u→h'.get? b=some u)(heo:∃ u,h'.get? e=some u):Un fs ex H (upd H x o) h h':=by
 have hx:∀ b,H b=none→b≠x:=fun b n z=>by subst z;rw[n] at mu;exact mu
 have hb:∀ b,H b=none→b≠e:=fun b n z=>by
  subst z
  rcases he with r|r
  ·exact hx b n r
  ·rw[n] at r;cases r
 have hm:∀ b u,H b=some u→¬ Mut (some u)→b≠x:=fun b u q nm z=>by subst z;rw[q] at mu;exact nm mu
 refine⟨fun b u q n _ _=>k b u (hb b n) q,fun b u q n _ _=>⟨u.slots,k b u (hb b n) q⟩,fun b u q n _=>by rw[qS (hx b n)];exact n,fun b u q _=>?_,
  fun b xs q=>by rw[qS (hm b _ q fun z=>z)];exact q,fun b u xs q=>by rw[qS (hm b _ q fun z=>z)];exact q,fun b ps q=>⟨#[],by rw[qS (hm b _ q fun z=>z),q];simp⟩⟩
 by_cases hbe:b=e
 ·subst hbe;exact heo
 ·exact⟨u,k b u hbe q⟩
end
def trk (h:Heap)(H:Hp):List Addr:=(List.range h.objs.size).filter fun a=>(H a).isSome
def gC (h:Heap)(H:Hp):Heap:=PySem.W.hideAll h (trk h H)
theorem oP (h:Heap)(H:Hp):(gC h H).objs.size=h.objs.size:=PySem.W.hideAll_size _ _
theorem XT {h:Heap}{H:Hp}{b:Addr}{o:Obj}(e:h.get? b=some o)(n:H b=none):(gC h H).get? b=some o:=
 PySem.W.hideAll_get _ e fun hm=>by
  have q:(H b).isSome=true:=(List.mem_filter.mp hm).2
  rw[n] at q;simp at q
theorem JB {h:Heap}{H:Hp}{b:Addr}{o:Obj}(e:(gC h H).get? b=some o):h.get? b=some o∧H b=none:=by
 have e':h.get? b=some o:=PySem.W.of_hideAll (trk h H) e
 refine⟨e',?_⟩
 cases q:H b with
 |none=>rfl
 |some x =>
  have hm:b∈trk h H:=List.mem_filter.mpr ⟨List.mem_range.mpr (Heap.lt_size e'),by simp[q]⟩
  have z:(gC h H).get? b=none:=PySem.W.hideAll_none (trk h H) hm
  rw[z] at e;cases e
end _L
namespace _L
open PySem PySem.Spec PyProof.Rows
structure Mod (K:PySem.W.Frag)(mg:Str→Option Value)(base:Heap):Prop where
 kin:K.In base
 glob:base.Ns mainGlobals mg
 blt:∃ mb,base.Ns builtinsNs mb∧∀ x:Str,x ≠ "__name__" → mb x=bootBuiltins x
 nolimit:base.NoLimit
structure Cx where
 prog:Program
 w:World
 K:PySem.W.Frag
 mg:Str→Option Value
 base:Heap
 A:Around
 N:List Str
 s₀:Shared
 H₀:Hp
 env:Env
 outer:List Env
 stack:List Env
 ex:List Addr
 fn:Str→Bool
 calm:Bool
 pn:List (Addr × Obj)
 xe:Value→Shared→Prop
def frs (l:List Env):List Addr:=l.filterMap (·.frame)
abbrev Cx.fs (X:Cx):List Addr:=frs X.outer
def Vis (sc:Scope)(x:Str):Prop:=sc.names.lookup x=some .local ∨ sc.names.lookup x=some .cell∨sc.names.lookup x=some .free
def Loc (sc:Scope)(x:Str):Prop:=sc.names.lookup x=some .local ∨ sc.names.lookup x=some .cell
def DC (env:Env)(h:Heap)(m:Str→Option Value)(x:Str)(u:Value):Prop:=
 (env.kindOf x=some .local ∧ m x=some u)∨((env.kindOf x=some .cell∨env.kindOf x=some .free)∧∃ c,env.cells.lookup x=some c∧h.IsCell c (some u))
structure Cx.Ok (X:Cx):Prop where
 mod:Mod X.K X.mg X.base
 kind:X.env.scope.kind=.function
 glob:X.env.globals=mainGlobals
 blt:X.env.builtins=builtinsNs
 above:X.s₀.heap.objs.size≤X.env.locals
 inj:∀ x y c,X.env.cells.lookup x=some c→X.env.cells.lookup y=some c→x=y
 has:∀ x,(X.env.kindOf x=some .cell∨X.env.kindOf x=some .free)→∃ c,X.env.cells.lookup x=some c
 cab:∀ x c,X.fn x=true→X.env.cells.lookup x=some c→X.s₀.heap.objs.size≤c
 hd:X.calm=true→X.A.handled=none
 frames:X.A.frames=some X.stack
 stk:X.stack=X.outer∨(X.stack=X.env::X.outer∧X.env.frame=some X.env.locals)
 exf:∀ b∈X.ex,b≠X.env.locals∧∀ x c,X.env.cells.lookup x=some c→c≠b
 bs:∀ b o,X.base.get? b=some o→X.s₀.heap.get? b=some o∧X.H₀ b=none
 bsz:X.base.objs.size≤X.s₀.heap.objs.size
 noex:∀ b o,X.base.get? b=some o→b ∉ X.ex
 exfs:∀ b∈X.ex,b ∉ X.fs
 funs:X.s₀.heap.FunFrames X.base X.outer
 frf:∀ b∈X.fs,X.H₀ b=none
structure Inv (X:Cx)(pins:List (Addr × Obj))(σ : List (Option V))(H:Hp)(s:Shared):Prop where
 ok:X.Ok
 os:s.os=X.s₀.os
 bare:AllBare s.gens
 base:Un X.fs X.ex X.H₀ H X.s₀.heap s.heap
 loc:∃ m,s.heap.Ns X.env.locals m∧∀ (i:Nat) (x:Str) (v:V),X.N[i]? = some x→σ[i]? = some (some v)→Vis X.env.scope x→∃ u,qJ v u∧DC X.env s.heap m x u
 cell:∀ x c,X.env.cells.lookup x=some c→∃ v,s.heap.IsCell c v
 free:H X.env.locals=none
 freeC:∀ x c,X.env.cells.lookup x=some c→H c=none
 pin:∀ p∈X.pn++pins,s.heap.get? p.1=some p.2∧H p.1=none∧p.1≠X.env.locals∧p.1 ∉ X.fs∧∀ v,p.2.data≠.cell v
 hok:HOk X.prog X.w H s.heap
 len:σ.length=X.N.length
section
variable {X:Cx}{pins:List (Addr × Obj)}{σ : List (Option V)}{H H':Hp}{s:Shared}{h':Heap}
theorem Cx.Ok.nofr (ok:X.Ok){b:Addr}{o:Obj}(e:X.base.get? b=some o):b ∉ X.fs:=fun hb=>by
 have:=(ok.funs.mem hb).1
 rw[e] at this;cases this
theorem Inv.bs (I:Inv X pins σ H s):∀ b o,X.base.get? b=some o→s.heap.get? b=some o∧H b=none:=fun b o e =>
 ⟨I.base.keep b o (I.ok.bs b o e).1 (I.ok.bs b o e).2 (I.ok.nofr e) (I.ok.noex b o e),I.base.free b o (I.ok.bs b o e).1 (I.ok.bs b o e).2 (I.ok.noex b o e)⟩
theorem Inv.bk (I:Inv X pins σ H s):∀ b o,X.base.get? b=some o→s.heap.get? b=some o:=fun b o e=>(I.bs b o e).1
theorem Inv.mod (I:Inv X pins σ H s):Mod X.K X.mg X.base:=I.ok.mod
theorem Inv.kIn (I:Inv X pins σ H s):X.K.In s.heap:=I.ok.mod.kin.keeps I.bk
theorem Inv.nolimit (I:Inv X pins σ H s):s.heap.NoLimit:=I.ok.mod.nolimit.keeps I.bk
theorem Inv.lt (I:Inv X pins σ H s):X.env.locals<s.heap.objs.size:=let ⟨_,hn,_⟩:=I.loc;hn.lt
theorem Inv.sz (I:Inv X pins σ H s):X.s₀.heap.objs.size≤s.heap.objs.size:=Nat.le_trans I.ok.above (Nat.le_of_lt I.lt)
theorem Inv.nofs (I:Inv X pins σ H s){a:Addr}(h:s.heap.objs.size≤a):a ∉ X.fs:=fun hb=>by
 obtain⟨_,o,ho,_⟩:=I.ok.funs.mem hb
 exact absurd (Nat.lt_of_lt_of_le (Heap.lt_size ho) (Nat.le_trans I.sz h)) (Nat.lt_irrefl _)
theorem Inv.cne (I:Inv X pins σ H s):∀ x c,X.env.cells.lookup x=some c→c≠X.env.locals:=fun x c e z=>by
 obtain⟨v,o,ho,hd⟩:=I.cell x c e
 obtain⟨m,⟨o',es,ep,ho',hd',_⟩,_⟩:=I.loc
 rw[z,ho'] at ho;cases ho;rw[hd'] at hd;cases hd
theorem Inv.funs (I:Inv X pins σ H s):s.heap.FunFrames X.base X.outer:=by
 have all:∀ (l:List Env),(∀ b∈frs l,b∈X.fs)→X.s₀.heap.FunFrames X.base l→s.heap.FunFrames X.base l:=by
  intro l
  induction l with
  |nil=>intro _ _;trivial
  |cons env r ih =>
   intro hs hl
   obtain⟨hk,⟨L,o,hf,hn,ho,hd⟩,hr⟩:=hl
   have hL:L∈X.fs:=hs L (by unfold frs;rw[List.filterMap_cons,hf];exact List.mem_cons_self)
   obtain⟨sl,e⟩:=I.base.slot L o ho (I.ok.frf L hL) hL fun z=>I.ok.exfs L z hL
   exact⟨hk,⟨L,_,hf,hn,e,hd⟩,ih (fun b hb=>hs b (by unfold frs;rw[List.filterMap_cons,hf];exact List.mem_cons_of_mem _ hb)) hr⟩
 exact all X.outer (fun _ hb=>hb) I.ok.funs
theorem Inv.stack (I:Inv X pins σ H s):s.heap.FunFrames X.base X.stack:=by
 rcases I.ok.stk with e|⟨e,hf⟩
 ·rw[e];exact I.funs
 ·rw[e]
  obtain⟨m,hn,_⟩:=I.loc
  refine .cons (by rw[I.ok.kind];decide) hf hn ?_ I.funs
  exact Heap.get?_none_of_le (Nat.le_trans I.ok.bsz I.ok.above)
theorem Inv.stkSub (I:Inv X pins σ H s):∀ b∈frs X.stack,b∈X.env.locals::X.fs:=fun b hb=>by
 rcases I.ok.stk with e|⟨e,hf⟩
 ·rw[e] at hb;exact List.mem_cons_of_mem _ hb
 ·rw[e] at hb
  unfold frs at hb
  rw[List.filterMap_cons,hf] at hb
  exact hb
theorem Inv.stkFree (I:Inv X pins σ H s):∀ b∈frs X.stack,H b=none:=fun b hb=>by
 rcases List.mem_cons.mp (I.stkSub b hb) with e|hb
 ·rw[e];exact I.free
 ·obtain⟨_,o,ho,_⟩:=I.ok.funs.mem hb
  exact I.base.free b o ho (I.ok.frf b hb) fun z=>I.ok.exfs b z hb
theorem Inv.step {g':Array GenState}{t':Nat}{d':Drawn}{ch:List Addr}(I:Inv X pins σ H s)
  (hch:∀ b∈ch,(b∈X.ex∨X.s₀.heap.objs.size≤b)∧b≠X.env.locals∧(∀ x c,X.env.cells.lookup x=some c→c≠b)∧∀ p∈X.pn++pins,p.1≠b)
  (keep:∀ b o,b≠X.env.locals→b ∉ X.fs→b ∉ ch→s.heap.get? b=some o→H b=none→h'.get? b=some o)
  (slot:∀ b o,b≠X.env.locals→b∈X.fs→b ∉ ch→s.heap.get? b=some o→H b=none→∃ sl,h'.get? b=some { o with slots:=sl }) (free:∀ b o,b ∉ ch→s.heap.get? b=some o→H b=none→H' b=none)
  (there:∀ b o,b ∉ ch→s.heap.get? b=some o→∃ o',h'.get? b=some o')
  (tups:∀ b xs,H b=some (.tup xs)→H' b=some (.tup xs)) (frzs:∀ b o u,H b=some (.frz o u)→H' b=some (.frz o u)) (tbls:∀ b ps,H b=some (.tbl ps)→∃ more,H' b=some (.tbl (ps++more)))
  (ns:∀ m,s.heap.Ns X.env.locals m→h'.Ns X.env.locals m) (hok:HOk X.prog X.w H' h') (hg:AllBare g') :
  Inv X pins σ H' { s with heap:=h',gens:=g',drawn:=d',toks:=t' }:=by
 have neL:∀ b o,X.s₀.heap.get? b=some o→b≠X.env.locals:=fun b o e=>Nat.ne_of_lt (Nat.lt_of_lt_of_le (Heap.lt_size e) I.ok.above)
 have neC:∀ b o,X.s₀.heap.get? b=some o→b ∉ X.ex→b ∉ ch:=fun b o e hx hb=>by
  rcases (hch b hb).1 with z|z
  ·exact hx z
  ·exact absurd (Nat.lt_of_lt_of_le (Heap.lt_size e) z) (Nat.lt_irrefl _)
 have cellK:∀ x c,X.env.cells.lookup x=some c→∀ v,s.heap.IsCell c v→h'.IsCell c v:=fun x c e v ⟨o,ho,hd⟩=>by
  have nch:c ∉ ch:=fun z=>(hch c z).2.2.1 x c e rfl
  by_cases hc:c∈X.fs
  ·obtain⟨sl,q⟩:=slot c o (I.cne x c e) hc nch ho (I.freeC x c e)
   exact⟨_,q,hd⟩
  ·exact⟨o,keep c o (I.cne x c e) hc nch ho (I.freeC x c e),hd⟩
 refine⟨I.ok,I.os,hg,⟨fun b o e n hb hx=>?_,fun b o e n hb hx=>?_,fun b o e n hx=>?_,fun b o e hx=>?_,fun b xs e=>tups b xs (I.base.tups b xs e),fun b o xs e=>frzs b o xs (I.base.frzs b o xs e),fun b ps e=>?_⟩,?_,fun x c e=>?_,?_,fun x c e=>?_,fun p hp=>?_,hok,I.len⟩
 ·exact keep b o (neL b o e) hb (neC b o e hx) (I.base.keep b o e n hb hx) (I.base.free b o e n hx)
 ·obtain⟨sl,e1⟩:=I.base.slot b o e n hb hx
  obtain⟨sl',e2⟩:=slot b _ (neL b o e) hb (neC b o e hx) e1 (I.base.free b o e n hx)
  exact⟨sl',e2⟩
 ·obtain⟨o',e1⟩:=I.base.there b o e hx
  exact free b o' (neC b o e hx) e1 (I.base.free b o e n hx)
 ·obtain⟨o',e1⟩:=I.base.there b o e hx
  exact there b o' (neC b o e hx) e1
 ·obtain⟨m1,e1⟩:=I.base.tbls b ps e
  obtain⟨m2,e2⟩:=tbls b _ e1
  exact⟨m1++m2,by rw[e2,Array.append_assoc]⟩
 ·obtain⟨m,hn,hl⟩:=I.loc
  refine⟨m,ns m hn,fun i x v e1 e2 e3=>?_⟩
  obtain⟨u,r,l⟩:=hl i x v e1 e2 e3
  refine⟨u,r,?_⟩
  rcases l with l|⟨k,c,e,z⟩
  ·exact .inl l
  ·exact .inr ⟨k,c,e,cellK x c e _ z⟩
 ·obtain⟨v,z⟩:=I.cell x c e
  exact⟨v,cellK x c e v z⟩
 ·obtain⟨m,⟨o,_,_,ho,_⟩,_⟩:=I.loc
  exact free _ o (fun z=>(hch _ z).2.1 rfl) ho I.free
 ·obtain⟨v,o,ho,hd⟩:=I.cell x c e
  exact free c o (fun z=>(hch c z).2.2.1 x c e rfl) ho (I.freeC x c e)
 ·obtain⟨e,n,ne,nf,d⟩:=I.pin p hp
  have nch:p.1 ∉ ch:=fun z=>(hch p.1 z).2.2.2 p hp rfl
  exact⟨keep p.1 p.2 ne nf nch e n,free p.1 p.2 nch e n,ne,nf,d⟩
theorem Inv.un {t':Nat}(I:Inv X pins σ H s)(u:Un X.fs [] H H' s.heap h')(hok:HOk X.prog X.w H' h'):Inv X pins σ H' { s with heap:=h',toks:=t' }:=by
 obtain⟨m,⟨o,es,ep,ho,r⟩,_⟩:=id I.loc
 obtain⟨sl,hL⟩:=u.any ho I.free (by simp)
 exact I.step (g':=s.gens) (d':=s.drawn) (ch:=[]) (fun _ z=>nomatch z) (fun b o _ hb _ e n=>u.keep b o e n hb (by simp)) (fun b o _ hb _ e n=>u.slot b o e n hb (by simp)) (fun b o _ e n=>u.free b o e n (by simp)) (fun b o _ e=>u.there b o e (by simp)) u.tups u.frzs u.tbls (fun m' hm=>by
  obtain⟨o',es',ep',ho',r'⟩:=hm
  rw[ho] at ho';cases ho'
  exact⟨_,es',ep',hL,r'⟩) hok I.bare
theorem Inv.call {g':Array GenState}{t':Nat}{d':Drawn}{ch:List Addr}(I:Inv X pins σ H s)(u:Un (frs X.stack) ch H H' s.heap h')(hok:HOk X.prog X.w H' h')(hg:AllBare g')
  (hch:∀ b∈ch,(b∈X.ex∨X.s₀.heap.objs.size≤b)∧b≠X.env.locals∧(∀ x c,X.env.cells.lookup x=some c→c≠b)∧∀ p∈X.pn++pins,p.1≠b) :
  Inv X pins σ H' { s with heap:=h',gens:=g',drawn:=d',toks:=t' }:=by
 obtain⟨m,⟨o,es,ep,ho,r⟩,_⟩:=id I.loc
 obtain⟨sl,hL⟩:=u.any ho I.free fun z=>(hch _ z).2.1 rfl
 exact I.step (ch:=ch) hch (fun b o hL hb hc e n=>u.keep b o e n (fun z=>(List.mem_cons.mp (I.stkSub b z)).elim hL hb) hc) (fun b o _ _ hc e n=>u.any e n hc) (fun b o hc e n=>u.free b o e n hc) (fun b o hc e=>u.there b o e hc) u.tups u.frzs u.tbls (fun m' hm=>by
  obtain⟨o',es',ep',ho',r'⟩:=hm
  rw[ho] at ho';cases ho'
  exact⟨_,es',ep',hL,r'⟩) hok hg
theorem Inv.turned {t':Nat}{it:Addr}(I:Inv X pins σ H s)(k:∀ b o,b≠it→s.heap.get? b=some o→h'.get? b=some o)(hn:H it=none)(hL:it≠X.env.locals)
  (h1:it∈X.ex∨X.s₀.heap.objs.size≤it) (h2:∀ x c,X.env.cells.lookup x=some c→c≠it) (h3:∀ p∈X.pn++pins,p.1≠it):Inv X pins σ H { s with heap:=h',toks:=t' }:=by
 have nit:∀ b u,H b=some u→b≠it:=fun b u e z=>by rw[z,hn] at e;cases e
 refine I.step (g':=s.gens) (d':=s.drawn) (ch:=[it]) (fun b hb=>?_) (fun b o _ _ hc e _=>k b o (fun z=>hc (by simp[z])) e) (fun b o _ _ hc e _=>⟨o.slots,k b o (fun z=>hc (by simp[z])) e⟩) (fun _ _ _ _ n=>n)
  (fun b o hc e=>⟨o,k b o (fun z=>hc (by simp[z])) e⟩) (fun _ _ e=>e) (fun _ _ _ e=>e) (fun b ps e=>⟨#[],by rw[e];simp⟩) (fun m hm=>?_) (fun b u e=>?_) I.bare
 ·have e:b=it:=by simpa using hb
  subst e
  exact⟨h1,hL,h2,h3⟩
 ·obtain⟨o,es,ep,ho,r⟩:=hm
  exact⟨o,es,ep,k _ o (Ne.symm hL) ho,r⟩
 ·refine(I.hok b u e).stay (fun c v hc q=>k c v ?_ q) (fun _ q=>q) fun _ _ q=>q
  rcases hc with z|z
  ·rw[z];exact nit b u e
  ·exact nit c _ z
theorem Inv.tok (I:Inv X pins σ H s)(t:Nat):Inv X pins σ H { s with toks:=t }:=I.un (h':=s.heap) (t':=t) Un.refl I.hok
theorem Inv.kept {t':Nat}(I:Inv X pins σ H s)(k:∀ b u,s.heap.get? b=some u→h'.get? b=some u):Inv X pins σ H { s with heap:=h',toks:=t' }:=I.un (Un.kept k) (I.hok.kept k)
theorem Inv.laid {a:Addr}{o:HO}{t':Nat}(I:Inv X pins σ H s)(k:∀ b u,s.heap.get? b=some u→h'.get? b=some u)(hp:s.heap.objs.size≤a)(new:zI X.prog X.w (upd H a o) h' a o) :
  Inv X pins σ (upd H a o) { s with heap:=h',toks:=t' }:=I.un (Un.laid k hp (I.hok.fresh hp)) (I.hok.laid k hp new)
theorem Inv.write {x e:Addr}{o:HO}{t':Nat}(I:Inv X pins σ H s)(mu:Mut (H x))(he:e=x∨H e=some (.own x))(k:∀ b u,b≠e→s.heap.get? b=some u→h'.get? b=some u)(heo:∃ u,h'.get? e=some u)
  (new:zI X.prog X.w (upd H x o) h' x o):Inv X pins σ (upd H x o) { s with heap:=h',toks:=t' }:=I.un (Un.write mu he k heo) (I.hok.write mu he k heo new)
theorem Inv.pins_of {pins':List (Addr × Obj)}(I:Inv X pins σ H s)(h:∀ p∈pins',s.heap.get? p.1=some p.2∧H p.1=none∧p.1≠X.env.locals∧p.1 ∉ X.fs∧∀ v,p.2.data≠.cell v):Inv X pins' σ H s:=
 ⟨I.ok,I.os,I.bare,I.base,I.loc,I.cell,I.free,I.freeC,fun p hp=>(List.mem_append.mp hp).elim (fun z=>I.pin p (List.mem_append_left _ z)) (h p),I.hok,I.len⟩
theorem r0 {N:List Str}(hN:N.Nodup){i j:Nat}{x:Str}(a:N[i]? = some x)(b:N[j]? = some x):i=j:=by
 obtain⟨h1,e1⟩:=List.getElem?_eq_some_iff.mp a
 obtain⟨h2,e2⟩:=List.getElem?_eq_some_iff.mp b
 exact(List.getElem_inj hN).mp (e1.trans e2.symm)
theorem lR {M:Model}{A:Around}{E:Value→Shared→Prop}{i:Nat}{x:Str}{v:V}{u:Value}{Q:Unit→Shared→Prop}(I:Inv X pins σ H s)(hN:X.N.Nodup)(hi:X.N[i]? = some x)(hx:Loc X.env.scope x)(r:qJ v u)
  (h:∀ s',Inv X pins (σ.set i (some v)) H s'→(∃ a,Heap.SameBut a s.heap s'.heap∧(a=X.env.locals∨X.env.cells.lookup x=some a))→Q () s') (hf:X.fn x=true∨X.env.scope.names.lookup x=some .local:=by first|exact .inl rfl|exact .inr rfl|assumption):wpAny M A (storeName X.env x u) Q E s:=by
 obtain⟨m,hn,hl⟩:=id I.loc
 have hcls:(X.env.scope.kind == .class||(X.env.scope.kind == .module&&X.env.locals != X.env.globals))=false:=by rw[I.ok.kind];rfl
 have hiσ:i<σ.length:=by rw[I.len];exact(List.getElem?_eq_some_iff.mp hi).1
 have cne:=I.cne
 have tracked:∀ {a:Addr} {h':Heap},(∃ o,s.heap.get? a=some o∧H a=none)→Heap.SameBut a s.heap h'→HOk X.prog X.w H h':=fun {a h'} ha hs b ob e=>by
  obtain⟨_,_,hfree⟩:=ha
  refine(I.hok b ob e).stay (fun c w' hc q=>(hs.2 c ?_).trans q) (fun _ q=>q) fun _ _ q=>q
  rintro rfl
  rcases hc with rfl|hc
  ·rw[hfree] at e;cases e
  ·rw[hfree] at hc;cases hc
 rcases hx with hk|hk
 ·refine wpAny_storeName_local hk hn (fun h' hn' hs=>?_) hcls
  obtain⟨oL,_,_,hoL,_⟩:=id hn
  refine h _ ⟨I.ok,I.os,I.bare,⟨fun b o e n hb hx=>?_,fun b o e n hb hx=>?_,I.base.free,fun b o e hx=>?_,I.base.tups,I.base.frzs,I.base.tbls⟩,⟨_,hn',fun j y v' e1 e2 e3=>?_⟩,fun y c e=>?_,I.free,I.freeC,fun p hp=>?_,tracked ⟨oL,hoL,I.free⟩ hs,by simpa using I.len⟩ ⟨_,hs,.inl rfl⟩
  ·exact(hs.2 b (Nat.ne_of_lt (Nat.lt_of_lt_of_le (Heap.lt_size e) I.ok.above))).trans (I.base.keep b o e n hb hx)
  ·obtain⟨sl,e1⟩:=I.base.slot b o e n hb hx
   exact⟨sl,(hs.2 b (Nat.ne_of_lt (Nat.lt_of_lt_of_le (Heap.lt_size e) I.ok.above))).trans e1⟩
  ·obtain⟨o',e1⟩:=I.base.there b o e hx
   exact⟨o',(hs.2 b (Nat.ne_of_lt (Nat.lt_of_lt_of_le (Heap.lt_size e) I.ok.above))).trans e1⟩
  ·by_cases hj:j=i
   ·subst hj
    rw[hi] at e1;cases e1
    rw[List.getElem?_set_self hiσ] at e2
    cases e2
    exact⟨u,r,.inl ⟨hk,by simp⟩⟩
   ·rw[List.getElem?_set_ne (Ne.symm hj)] at e2
    obtain⟨u',r',q⟩:=hl j y v' e1 e2 e3
    refine⟨u',r',?_⟩
    rcases q with⟨k,e⟩|⟨k,c,e,z⟩
    ·refine .inl ⟨k,?_⟩
     have:y≠x:=fun e=>hj (r0 hN e1 (e▸hi))
     simp[this,e]
    ·exact .inr ⟨k,c,e,z.sameBut hs (cne y c e)⟩
  ·obtain⟨w',z⟩:=I.cell y c e
   exact⟨w',z.sameBut hs (cne y c e)⟩
  ·obtain⟨e,n,ne,nf,d⟩:=I.pin p hp
   exact⟨(hs.2 p.1 ne).trans e,n,ne,nf,d⟩
 ·have hfn:X.fn x=true:=by
   rcases hf with z|z
   ·exact z
   ·rw[z] at hk;cases hk
  obtain⟨c,hc⟩:=I.ok.has x (.inl hk)
  obtain⟨w',z⟩:=I.cell x c hc
  refine wpAny_storeName_cell I.ok.kind hk hc z (fun h' hc' hs=>?_)
  obtain⟨oc,hoc,hocd⟩:=id z
  refine h { s with heap:=h' } ⟨I.ok,I.os,I.bare,⟨fun b o e n hb hx=>?_,fun b o e n hb hx=>?_,I.base.free,fun b o e hx=>?_,I.base.tups,I.base.frzs,I.base.tbls⟩,⟨m,hn.sameBut hs (Ne.symm (cne x c hc)),fun j y v' e1 e2 e3=>?_⟩,fun y c' e=>?_,I.free,I.freeC,fun p hp=>?_,tracked ⟨oc,hoc,I.freeC x c hc⟩ hs,by simpa using I.len⟩ ⟨c,hs,.inr hc⟩
  ·exact(hs.2 b (Nat.ne_of_lt (Nat.lt_of_lt_of_le (Heap.lt_size e) (I.ok.cab x c hfn hc)))).trans (I.base.keep b o e n hb hx)
  ·obtain⟨sl,e1⟩:=I.base.slot b o e n hb hx
   exact⟨sl,(hs.2 b (Nat.ne_of_lt (Nat.lt_of_lt_of_le (Heap.lt_size e) (I.ok.cab x c hfn hc)))).trans e1⟩
  ·obtain⟨o',e1⟩:=I.base.there b o e hx
   exact⟨o',(hs.2 b (Nat.ne_of_lt (Nat.lt_of_lt_of_le (Heap.lt_size e) (I.ok.cab x c hfn hc)))).trans e1⟩
  ·by_cases hj:j=i
   ·subst hj
    rw[hi] at e1;cases e1
    rw[List.getElem?_set_self hiσ] at e2
    cases e2
    exact⟨u,r,.inr ⟨.inl hk,c,hc,hc'⟩⟩
   ·rw[List.getElem?_set_ne (Ne.symm hj)] at e2
    obtain⟨u',r',q⟩:=hl j y v' e1 e2 e3
    refine⟨u',r',?_⟩
    rcases q with q|⟨k,c',e,z'⟩
    ·exact .inl q
    ·refine .inr ⟨k,c',e,z'.sameBut hs ?_⟩
     rintro rfl
     exact hj (r0 hN e1 (I.ok.inj _ _ _ e hc▸hi))
  ·by_cases hcc:c'=c
   ·subst hcc;exact⟨_,hc'⟩
   ·obtain⟨w2,z2⟩:=I.cell y c' e
    exact⟨w2,z2.sameBut hs hcc⟩
  ·obtain⟨e,n,ne,nf,d⟩:=I.pin p hp
   refine⟨(hs.2 p.1 ?_).trans e,n,ne,nf,d⟩
   intro q
   rw[q,hoc] at e
   have q':oc=p.2:=Option.some.inj e
   exact d w' (by rw[← q'];exact hocd)
theorem gR {M:Model}{A:Around}{E:Value→Shared→Prop}{i:Nat}{x:Str}{v:V}{u:Value}{Q:Unit→Shared→Prop}(I:Inv X pins σ H s)(hN:X.N.Nodup)(hi:X.N[i]? = some x)(hx:Loc X.env.scope x)(r:qJ v u)
  (h:∀ s',Inv X pins (σ.set i (some v)) H s'→Q () s') (hf:X.fn x=true∨X.env.scope.names.lookup x=some .local:=by first|exact .inl rfl|exact .inr rfl|assumption):wpAny M A (storeName X.env x u) Q E s:=
 lR I hN hi hx r (fun s' I' _=>h s' I') hf
theorem Inv.call' {s':Shared}{ch:List Addr}(I:Inv X pins σ H s)(ho:s'.os=s.os)(u:Un (frs X.stack) ch H H' s.heap s'.heap)(hok:HOk X.prog X.w H' s'.heap)(hg:AllBare s'.gens)
  (hch:∀ b∈ch,(b∈X.ex∨X.s₀.heap.objs.size≤b)∧b≠X.env.locals∧(∀ x c,X.env.cells.lookup x=some c→c≠b)∧∀ p∈X.pn++pins,p.1≠b):Inv X pins σ H' s':=by
 obtain⟨h',g',d',t',o'⟩:=s'
 have e:o'=s.os:=ho
 subst e
 exact I.call (g':=g') (t':=t') (d':=d') u hok hg hch
end
abbrev XK:=Value→Option Addr→Hp→Prop
abbrev St:=List (Option V)
abbrev VK:=V→Hp→Prop
abbrev TE:=St→Hp→VK→Prop
abbrev TT:=St→Hp→(Bool→Hp→Prop)→Prop
abbrev TA:=St→Hp→(List V→Hp→Prop)→Prop
structure Ends where
 nx:St→Hp→Prop
 rt:VK
 bk:St→Hp→Prop:=fun _ _=>False
 ct:St→Hp→Prop:=fun _ _=>False
abbrev TS:=Ends→St→Hp→Prop
inductive EP (X:Cx)(pins:List (Addr × Obj))(σ : St)(Q:VK)(u:Value)(s':Shared):Prop
 |mk (v:V) (H':Hp) (I:Inv X pins σ H' s') (r:qJ v u) (q:Q v H'):EP X pins σ Q u s'
inductive TP (X:Cx)(pins:List (Addr × Obj))(σ : St)(Q:Bool→Hp→Prop)(b:Bool)(s':Shared):Prop
 |mk (H':Hp) (I:Inv X pins σ H' s') (q:Q b H'):TP X pins σ Q b s'
inductive AP (X:Cx)(pins:List (Addr × Obj))(σ : St)(Q:List V→Hp→Prop)(us:List Value)(s':Shared):Prop
 |mk (vs:List V) (H':Hp) (I:Inv X pins σ H' s') (r:qN vs us) (q:Q vs H'):AP X pins σ Q us s'
def SP (X:Cx)(pins:List (Addr × Obj))(D:Ends)(f:Flow)(s':Shared):Prop:=
 match f with
 |.next=>∃ σ' H',Inv X pins σ' H' s'∧D.nx σ' H'
 |.brk=>∃ σ' H',Inv X pins σ' H' s'∧D.bk σ' H'
 |.cont=>∃ σ' H',Inv X pins σ' H' s'∧D.ct σ' H'
 |.ret u=>∃ v σ' H',Inv X pins σ' H' s'∧qJ v u∧D.rt v H'
def PE (X:Cx)(e:Expr)(t:TE):Prop:=
 ∀ (pins:List (Addr × Obj)) (s:Shared) (σ : St) (H:Hp) (Q:VK),Inv X pins σ H s→t σ H Q→wpAny (model X.prog X.w) X.A (eval e X.env) (EP X pins σ Q) X.xe s
def PT (X:Cx)(e:Expr)(t:TT):Prop:=
 ∀ (pins:List (Addr × Obj)) (s:Shared) (σ : St) (H:Hp) (Q:Bool→Hp→Prop),Inv X pins σ H s→t σ H Q→wpAny (model X.prog X.w) X.A (isTrue e X.env (eval e X.env)) (TP X pins σ Q) X.xe s
def PW (X:Cx)(e:Expr)(t:TT):Prop:=
 ∀ (whole:Sem Value) (pins:List (Addr × Obj)) (s:Shared) (σ : St) (H:Hp) (Q:Bool→Hp→Prop),Inv X pins σ H s→t σ H Q→wpAny (model X.prog X.w) X.A (isTrue e X.env whole) (TP X pins σ Q) X.xe s
def PA (X:Cx)(es:List Expr)(t:TA):Prop:=
 ∀ (pos:Pos) (pins:List (Addr × Obj)) (s:Shared) (σ : St) (H:Hp) (Q:List V→Hp→Prop),Inv X pins σ H s→t σ H Q→wpAny (model X.prog X.w) X.A (spliced (backTo pos (starEach es X.env))) (AP X pins σ Q) X.xe s
def PS (X:Cx)(st:Stmt)(t:TS):Prop:=
 ∀ (pins:List (Addr × Obj)) (s:Shared) (σ : St) (H:Hp) (D:Ends),Inv X pins σ H s→t D σ H→wpAny (model X.prog X.w) X.A (exec st X.env) (SP X pins D) X.xe s
def PSs (X:Cx)(st:List Stmt)(t:TS):Prop:=
 ∀ (pins:List (Addr × Obj)) (s:Shared) (σ : St) (H:Hp) (D:Ends),Inv X pins σ H s→t D σ H→wpAny (model X.prog X.w) X.A (execs st X.env) (SP X pins D) X.xe s
theorem thn {α : Type}{t:Sem α}{Q Q':α→Shared→Prop}{M:Model}{A:Around}{E:Value→Shared→Prop}{s:Shared}(h:wpAny M A t Q E s)(hQ:∀ a s,Q a s→Q' a s):wpAny M A t Q' E s:=wpAny_mono h hQ fun _ _ x=>x
end _L
namespace _L
open PySem PySem.Spec PyProof.Rows
section
variable {X:Cx}
theorem bin {a b:Expr}{ta tb:TE}(ha:PE X a ta)(hb:PE X b tb){pins:List (Addr × Obj)}{s:Shared}{σ : St}{H:Hp}{R:V→V→Hp→Prop}(I:Inv X pins σ H s)(h:ta σ H fun x H1=>tb σ H1 fun y H2=>R x y H2)
  {α:Type} {Q:α→Shared→Prop} {f:Value→Value→Sem α}
  (hf:∀ v u s2 x y H2,Inv X pins σ H2 s2→qJ x v→qJ y u→R x y H2→wpAny (model X.prog X.w) X.A (f v u) Q X.xe s2) :
  wpAny (model X.prog X.w) X.A (eval a X.env) (fun v s₁=>wpAny (model X.prog X.w) X.A (eval b X.env) (fun u s₂=>wpAny (model X.prog X.w) X.A (f v u) Q X.xe s₂) X.xe s₁) X.xe s:=by
 refine thn (ha pins s σ H _ I h) fun v s1 ⟨x,H1,I1,r1,q1⟩=>?_
 refine thn (hb pins s1 σ H1 _ I1 q1) fun u s2 ⟨y,H2,I2,r2,q2⟩=>?_
 exact hf v u s2 x y H2 I2 r1 r2 q2
def MX (i:Nat):TE:=fun σ H Q=>∃ v,σ[i]? = some (some v)∧Q v H
def tC (v:V):TE:=fun _ H Q=>Q v H
theorem FI {i:Nat}{x:Str}{pos:Pos}(hN:X.N[i]? = some x)(hv:Vis X.env.scope x)(hd:(x == ("__debug__" : Str))=false:=by decide)(hcd:(x == ("__classdict__" : Str))=false:=by decide):PE X (.Name x pos) (MX i):=by
 intro pins s σ H Q I h
 obtain⟨v,e,h⟩:=h
 obtain⟨m,hn,hl⟩:=I.loc
 obtain⟨u,r,l⟩:=hl i x v hN e hv
 have fin:EP X pins σ Q u s:=⟨v,H,I,r,h⟩
 rcases l with⟨hk,hm⟩|⟨hk,c,hc,hcell⟩
 ·exact wpAny_Name (wpAny_loadName_local I.ok.kind hk hn hm fin) hd
 ·rcases hk with hk|hk
  ·exact wpAny_Name (wpAny_loadName_cell I.ok.kind hk hc hcell fin) hd
  ·exact wpAny_Name (wpAny_loadName_free I.ok.kind hk hc hcell fin hcd) hd
theorem FE {i j pos}:PE X (.Constant (.int i) j pos) (tC (.int i)):=fun _ _ _ H _ I h=>wpAny_Constant_int ⟨.int i,H,I.tok _,⟨_,rfl⟩,h⟩
theorem NY {b j pos}:PE X (.Constant (.bool b) j pos) (tC (.bl b)):=fun _ _ _ H _ I h=>Constant_bool ⟨.bl b,H,I,rfl,h⟩
theorem FG {x j pos}:PE X (.Constant (.str x) j pos) (tC (.str x)):=fun _ _ _ H _ I h=>Calls.Constant_str ⟨.str x,H,I.tok _,⟨_,rfl⟩,h⟩
def Gl (X:Cx)(x:Str):Prop:=X.env.kindOf x=some .globalImplicit
theorem b8 {E:Value→Shared→Prop}{pins:List (Addr × Obj)}{s:Shared}{σ : St}{H:Hp}{x:Str}{u:Value}{pos:Pos}{Q:Value→Shared→Prop}(I:Inv X pins σ H s)(hg:Gl X x)(hm:X.mg x=some u)(h:Q u s)
  (hd:(x == ("__debug__" : Str))=false:=by decide):wpAny (model X.prog X.w) X.A (eval (.Name x pos) X.env) Q E s:=
 Calls.Name_function_global I.ok.kind hg (Calls.loadGlobal_global (by rw[I.ok.glob];exact I.mod.glob.keeps I.bk) hm h) hd
theorem uI {E:Value→Shared→Prop}{pins:List (Addr × Obj)}{s:Shared}{σ : St}{H:Hp}{x:Str}{u:Value}{pos:Pos}{Q:Value→Shared→Prop}(I:Inv X pins σ H s)(hg:Gl X x)(hm:X.mg x=none)(hv:bootBuiltins x=some u)(h:Q u s)
  (hn:x ≠ "__name__":=by decide) (hd:(x == ("__debug__" : Str))=false:=by decide):wpAny (model X.prog X.w) X.A (eval (.Name x pos) X.env) Q E s:=by
 obtain⟨mb,h1,h2⟩:=I.mod.blt
 exact Calls.Name_function_global I.ok.kind hg (Calls.loadGlobal_builtin (by rw[I.ok.glob];exact I.mod.glob.keeps I.bk) hm (by rw[I.ok.blt];exact h1.keeps I.bk) ((h2 x hn).trans hv) h) hd
theorem JG {x:Str}{v:V}{u:Value}{pos:Pos}(hg:Gl X x)(hm:X.mg x=some u)(r:qJ v u)(hd:(x == ("__debug__" : Str))=false:=by decide):PE X (.Name x pos) (tC v):=
 fun _ _ _ H _ I h=>b8 I hg hm ⟨v,H,I,r,h⟩ hd
theorem JF {x:Str}{v:V}{u:Value}{pos:Pos}(hg:Gl X x)(hm:X.mg x=none)(hv:bootBuiltins x=some u)(r:qJ v u)(hn:x ≠ "__name__":=by decide)(hd:(x == ("__debug__" : Str))=false:=by decide):PE X (.Name x pos) (tC v):=
 fun _ _ _ H _ I h=>uI I hg hm hv ⟨v,H,I,r,h⟩ hn hd
variable {a b:Expr}{ta tb:TE}{pos:Pos}
variable {tA tB':TT}{rest:List Expr}
theorem JO (ha:PT X a tA):PW X (.BoolOp .And [a] pos) tA:=by
 intro wh pins s σ H Q I h
 refine isTrue_and (thn (ha pins s σ H Q I h) fun c s1 e=>?_)
 cases c with
 |true=>exact isTrue_and_nil e
 |false=>exact e
theorem FS (ha:PT X a tA):PW X (.BoolOp .Or [a] pos) tA:=by
 intro wh pins s σ H Q I h
 refine isTrue_or (thn (ha pins s σ H Q I h) fun c s1 e=>?_)
 cases c with
 |false=>exact isTrue_or_nil e
 |true=>exact e
theorem FF {op}{t:TE}(h:PE X a t):PE X (.BoolOp op [a] pos) t:=fun pins s σ H Q I hw=>BoolOp_one (h pins s σ H Q I hw)
end
end _L
namespace _L
open PySem PySem.Spec PyProof.Rows
def SqL (K:PySem.W.Frag)(H:Hp)(a:Addr)(xs:List V):Prop:=
 Rd H a (.lst xs) ∨
  ∃ (o:Obj) (its:Array Value) (n:Nat),K.lookup a=some o∧o.cls=.type "list" ∧ o.dict=none∧o.data=.seq its n∧its.size≤sizeLine∧qN xs its.toList
def SqT (K:PySem.W.Frag)(H:Hp)(a:Addr)(xs:List V):Prop:=
 Rd H a (.tup xs) ∨
  ∃ (o:Obj) (its:Array Value) (n:Nat),K.lookup a=some o∧o.cls=.type "tuple" ∧ o.data=.seq its n∧its.size≤sizeLine∧qN xs its.toList
def DH:Value→Option V
 |.none=>some .non
 |.bool b=>some (.bl b)
 |.int i _=>some (.int i)
 |.str x _=>some (.str x)
 |.bytes b _=>some (.byt b)
 |.float b _=>some (.flt b)
 |.ref a=>some (.ref a)
 |.type n=>some (.ty n)
 |_=>none
theorem qJ.abs {x:V}{u:Value}(r:qJ x u):DH u=some x:=by
 cases x with
 |non=>cases r;rfl
 |bl _=>cases r;rfl
 |int _=>obtain⟨t,rfl⟩:=r;rfl
 |str _=>obtain⟨t,rfl⟩:=r;rfl
 |byt _=>obtain⟨t,rfl⟩:=r;rfl
 |flt _=>obtain⟨t,rfl⟩:=r;rfl
 |ref _=>cases r;rfl
 |ty _=>cases r;rfl
theorem qJ.inj {x y:V}{u:Value}(r:qJ x u)(q:qJ y u):x=y:=Option.some.inj (r.abs.symm.trans q.abs)
theorem qN.inj {xs ys:List V}{us:List Value}(h:qN xs us)(k:qN ys us):xs=ys:=by
 induction h generalizing ys with
 |nil=>cases k;rfl
 |cons r t ih =>
  cases k with
  |cons r' t'=>rw[r.inj r',ih t']
section
variable {X:Cx}{pins:List (Addr × Obj)}{σ : St}{H:Hp}{s:Shared}{a:Addr}{xs ys:List V}
theorem SqL.of {K:PySem.W.Frag}(h:H a=some (.lst xs)):SqL K H a xs:=.inl (.inl h)
theorem SqT.of {K:PySem.W.Frag}(h:H a=some (.tup xs)):SqT K H a xs:=.inl (.inl h)
theorem Inv.list (I:Inv X pins σ H s)(h:SqL X.K H a xs):∃ its:List Value,qN xs its∧PlainL s.heap a its.toArray∧xs.length≤sizeLine:=by
 rcases h with h|⟨o,its,n,hk,hc,hd,hs,hz,r⟩
 ·obtain⟨z,its,n,r,e⟩:=h.ok I.hok
  exact⟨its,r,⟨_,n,e,rfl,rfl,rfl⟩,z⟩
 ·refine⟨its.toList,r,⟨o,n,I.kIn a o hk,hc,hd,by simpa using hs⟩,?_⟩
  have e:=r.length
  simp only[Array.length_toList] at e
  omega
theorem Inv.tuple (I:Inv X pins σ H s)(h:SqT X.K H a xs):∃ its:List Value,qN xs its∧IsTup s.heap a its.toArray∧xs.length≤sizeLine:=by
 rcases h with h|⟨o,its,n,hk,hc,hs,hz,r⟩
 ·obtain⟨z,its,r,p⟩:=h.ok I.hok
  exact⟨its,r,p,z⟩
 ·refine⟨its.toList,r,⟨o,I.kIn a o hk,hc,n,by simpa using hs⟩,?_⟩
  have e:=r.length
  simp only[Array.length_toList] at e
  omega
theorem Inv.list_inj (I:Inv X pins σ H s)(h:SqL X.K H a xs)(h':SqL X.K H a ys):xs=ys:=by
 obtain⟨its,r,⟨o,n,e,_,_,d⟩,_⟩:=I.list h
 obtain⟨its',r',⟨o',n',e',_,_,d'⟩,_⟩:=I.list h'
 rw[e] at e';cases e'
 rw[d] at d'
 injection d' with d1 _
 have:its=its':=by simpa using congrArg Array.toList d1
 subst this
 exact r.inj r'
theorem Inv.tuple_inj (I:Inv X pins σ H s)(h:SqT X.K H a xs)(h':SqT X.K H a ys):xs=ys:=by
 obtain⟨its,r,⟨o,e,_,n,d⟩,_⟩:=I.tuple h
 obtain⟨its',r',⟨o',e',_,n',d'⟩,_⟩:=I.tuple h'
 rw[e] at e';cases e'
 rw[d] at d'
 injection d' with d1 _
 have:its=its':=by simpa using congrArg Array.toList d1
 subst this
 exact r.inj r'
end
abbrev Cx.wish (X:Cx)(E:Value→Shared→Prop):Cx:={ X with xe:=E }
abbrev Cx.nox (X:Cx):Cx:=X.wish fun _ _=>False
theorem Cx.Ok.wish {X:Cx}(ok:X.Ok)(E:Value→Shared→Prop):(X.wish E).Ok:=
 ⟨ok.mod,ok.kind,ok.glob,ok.blt,ok.above,ok.inj,ok.has,ok.cab,ok.hd,ok.frames,ok.stk,ok.exf,ok.bs,ok.bsz,ok.noex,ok.exfs,ok.funs,ok.frf⟩
theorem Cx.Ok.unwish {X:Cx}{E:Value→Shared→Prop}(ok:(X.wish E).Ok):X.Ok:=
 ⟨ok.mod,ok.kind,ok.glob,ok.blt,ok.above,ok.inj,ok.has,ok.cab,ok.hd,ok.frames,ok.stk,ok.exf,ok.bs,ok.bsz,ok.noex,ok.exfs,ok.funs,ok.frf⟩
section
variable {X:Cx}{pins:List (Addr × Obj)}{σ : St}{H:Hp}{s:Shared}{E:Value→Shared→Prop}
theorem Inv.wish (I:Inv X pins σ H s)(E:Value→Shared→Prop):Inv (X.wish E) pins σ H s:=⟨I.ok.wish E,I.os,I.bare,I.base,I.loc,I.cell,I.free,I.freeC,I.pin,I.hok,I.len⟩
theorem Inv.unwish (I:Inv (X.wish E) pins σ H s):Inv X pins σ H s:=⟨I.ok.unwish,I.os,I.bare,I.base,I.loc,I.cell,I.free,I.freeC,I.pin,I.hok,I.len⟩
theorem SP.unwish {D:Ends}{f:Flow}{s':Shared}(h:SP (X.wish E) pins D f s'):SP X pins D f s':=by
 cases f with
 |next=>obtain⟨σ',H',I,q⟩:=h;exact⟨σ',H',I.unwish,q⟩
 |brk=>obtain⟨σ',H',I,q⟩:=h;exact⟨σ',H',I.unwish,q⟩
 |cont=>obtain⟨σ',H',I,q⟩:=h;exact⟨σ',H',I.unwish,q⟩
 |ret u=>obtain⟨v,σ',H',I,r,q⟩:=h;exact⟨v,σ',H',I.unwish,r,q⟩
theorem PE.nox {e:Expr}{t:TE}(h:PE X.nox e t):PE X e t:=fun pins s σ H Q I hw =>
 wpAny_mono (h pins s σ H Q (I.wish _) hw) (fun _ _ ⟨v,H',I',r,q⟩=>⟨v,H',I'.unwish,r,q⟩) fun _ _ z=>False.elim z
theorem PT.nox {e:Expr}{t:TT}(h:PT X.nox e t):PT X e t:=fun pins s σ H Q I hw =>
 wpAny_mono (h pins s σ H Q (I.wish _) hw) (fun _ _ ⟨H',I',q⟩=>⟨H',I'.unwish,q⟩) fun _ _ z=>False.elim z
theorem PSs.nox {st:List Stmt}{t:TS}(h:PSs X.nox st t):PSs X st t:=fun pins s σ H D I hw =>
 wpAny_mono (h pins s σ H D (I.wish _) hw) (fun _ _ q=>q.unwish) fun _ _ z=>False.elim z
end
section
variable {X:Cx}{st:Stmt}{rest:List Stmt}{t u:TS}{e:Expr}{te:TE}{pos:Pos}
def LO:TS:=fun D σ H=>D.nx σ H
def SY (t u:TS):TS:=fun D σ H=>t { D with nx:=u D } σ H
theorem JM:PSs X [] LO:=fun _ _ σ H _ I h=>wpAny_execs_nil ⟨σ,H,I,h⟩
theorem WF (h1:PS X st t)(h2:PSs X rest u):PSs X (st::rest) (SY t u):=by
 intro pins s σ H D I h
 refine wpAny_execs_cons (thn (h1 pins s σ H { D with nx:=u D } I h) fun f s1 q=>?_)
 cases f with
 |next =>
  obtain⟨σ',H',I',q⟩:=q
  exact h2 pins s1 σ' H' D I' q
 |ret v=>exact q
 |brk=>exact q
 |cont=>exact q
theorem JN (h1:PS X st t):PSs X [st] t:=by
 intro pins s σ H D I h
 refine wpAny_execs_cons (thn (h1 pins s σ H D I h) fun f s1 q=>?_)
 cases f with
 |next=>exact wpAny_execs_nil q
 |ret v=>exact q
 |brk=>exact q
 |cont=>exact q
theorem Inv.quiet {pins:List (Addr × Obj)}{σ : St}{H:Hp}{s:Shared}(I:Inv X pins σ H s):interactive X.env=false:=by simp[interactive,I.ok.kind]
end
abbrev TG:=V→St→Hp→(St→Hp→Prop)→Prop
abbrev TGs:=List V→St→Hp→(St→Hp→Prop)→Prop
def PG (X:Cx)(target:Expr)(t:TG):Prop:=
 ∀ (pins:List (Addr × Obj)) (s:Shared) (σ : St) (H:Hp) (v:V) (u:Value) (Q:St→Hp→Prop),Inv X pins σ H s→qJ v u→t v σ H Q →
  wpAny (model X.prog X.w) X.A (assign target X.env u) (fun _ s'=>∃ σ' H',Inv X pins σ' H' s'∧Q σ' H') X.xe s
def PGs (X:Cx)(ts:List Expr)(t:TGs):Prop:=
 ∀ (pins:List (Addr × Obj)) (s:Shared) (σ : St) (H:Hp) (vs:List V) (us:List Value) (Q:St→Hp→Prop),Inv X pins σ H s→qN vs us→t vs σ H Q →
  wpAny (model X.prog X.w) X.A (assignInOrder ((assignEach ts X.env).map (·.2)) us) (fun _ s'=>∃ σ' H',Inv X pins σ' H' s'∧Q σ' H') X.xe s
abbrev ZJ:=V→V→V→Hp→(Hp→Prop)→Prop
def dL (X:Cx)(t:ZJ):Prop:=
 ∀ (pins:List (Addr × Obj)) (s:Shared) (σ : St) (H:Hp) (o i v:V) (ov iv u:Value) (Q:Hp→Prop),Inv X pins σ H s→qJ o ov→qJ i iv→qJ v u→t o i v H Q →
  wpAny (model X.prog X.w) X.A (setItem ov iv u) (fun _ s'=>∃ H',Inv X pins σ H' s'∧Q H') X.xe s
section
variable {X:Cx}{pos:Pos}
def ND (i:Nat):TG:=fun v σ H Q=>Q (σ.set i (some v)) H
theorem JH {i:Nat}{x:Str}(hN:X.N.Nodup)(hi:X.N[i]? = some x)(hx:Loc X.env.scope x)(hf:X.fn x=true∨X.env.scope.names.lookup x=some .local:=by first|exact .inl rfl|exact .inr rfl|assumption):PG X (.Name x pos) (ND i):=by
 intro pins s σ H v u Q I r h
 exact wpAny_assign_Name (gR I hN hi hx r (fun s' I'=>⟨_,H,I',h⟩) hf)
def S9:TGs:=fun vs σ H Q=>vs=[]∧Q σ H
def NC (t:TG)(u:TGs):TGs:=fun vs σ H Q=>∃ v r,vs=v::r∧t v σ H fun σ' H'=>u r σ' H' Q
theorem JI:PGs X [] S9:=by
 intro pins s σ H vs us Q I r h
 obtain⟨e,h⟩:=h
 subst e
 cases r
 exact assignInOrder_nil ⟨σ,H,I,h⟩
theorem WD {e:Expr}{es:List Expr}{t:TG}{u:TGs}(h1:PG X e t)(h2:PGs X es u)
  (hs:(assignEach (e::es) X.env).map (·.2)=assign e X.env::(assignEach es X.env).map (·.2):=by rfl):PGs X (e::es) (NC t u):=by
 intro pins s σ H vs us Q I r h
 obtain⟨v,vr,e1,h⟩:=h
 subst e1
 cases r with
 |cons r rr =>
  rw[hs]
  refine assignInOrder_cons (thn (h1 pins s σ H _ _ _ I r h) fun _ s1 ⟨σ1,H1,I1,q1⟩=>?_)
  exact h2 pins s1 σ1 H1 _ _ Q I1 rr q1
def SA (K:PySem.W.Frag)(n:Nat)(t:TGs):TG:=fun v σ H Q=>∃ a xs,v=.ref a∧SqT K H a xs∧xs.length=n∧t xs σ H Q
theorem FJ {es:List Expr}{k:Nat}{t:TGs}{n:Nat}(hc:X.calm=true)(h:PGs X es t)
  (hn:(assignEach es X.env).length=n:=by rfl) (hst:(assignEach es X.env).findIdx? (·.1)=none:=by rfl):PG X (.Tuple es k pos) (SA X.K n t):=by
 intro pins s σ H v u Q I r hw
 obtain⟨a,xs,e1,hq,hl,hw⟩:=hw
 subst e1
 cases r
 obtain⟨its,rv,ht,hz⟩:=I.tuple hq
 refine assign_Tuple_tuple (I.ok.hd hc) ht (by simp[hn,← hl,rv.length]) hst fun h' hx=>?_
 have I1:Inv X pins σ H { s with heap:=h' }:=I.kept (t':=s.toks) fun b o e=>hx b o (Nat.ne_of_lt (Heap.lt_size e)) e
 exact h pins _ σ H xs _ Q I1 (by simpa using rv) hw
def zK (to ti:TE)(t:ZJ):TG:=fun v σ H Q=>to σ H fun o H1=>ti σ H1 fun i H2=>t o i v H2 fun H3=>Q σ H3
def SX (i j:Nat)(ta:TA):TS:=fun D σ H=>ta σ H fun vs H1=>∃ v w,vs=[v,w]∧D.nx ((σ.set i (some v)).set j (some w)) H1
theorem FP {i j:Nat}{x y:Str}{a b:Expr}{ta:TA}{px py pt:Pos} {kt k2 pt2} (hc:X.calm=true) (hN:X.N.Nodup) (hi:X.N[i]? = some x) (hj:X.N[j]? = some y) (hij:i≠j)
  (hx:X.env.scope.names.lookup x=some .local) (hy:X.env.scope.names.lookup y=some .local) (ha:PA X [a,b] ta)
  (hw:swappedStores [.Tuple [.Name x px,.Name y py] kt pt] (.Tuple [a,b] k2 pt2) X.env=pure (some [x,y]))
  (hs:swapsWithSole [.Tuple [.Name x px,.Name y py] kt pt] (.Tuple [a,b] k2 pt2) pos.line X.env=pure false:=by rfl) :
  PS X (.Assign [.Tuple [.Name x px,.Name y py] kt pt] (.Tuple [a,b] k2 pt2) pos) (SX i j ta):=by
 intro pins s σ H D I h
 rw[exec_Assign_arm]
 refine wpAny_bind (wpAny_standAt ?_)
 rw[hs]
 refine wpAny_bind (wpAny_pure ?_)
 rw[if_neg (by decide)]
 refine wpAny_bind (Tuple_ (thn (ha _ pins s σ H _ I h) fun us s1 ⟨vs,H1,I1,r1,q1⟩=>?_))
 obtain⟨v,w,e1,q1⟩:=q1
 subst e1
 obtain⟨u1,u2,rfl,rv,rw'⟩:∃ u1 u2,us=[u1,u2]∧qJ v u1∧qJ w u2:=by
  cases r1 with
  |cons p q =>
   cases q with
   |cons p' q' =>
    cases q'
    exact⟨_,_,rfl,p,p'⟩
 refine wpAny_newObj_type ?_ (by show 2≤sizeLine;decide)
 have I2:Inv X pins σ H1 { s1 with heap:=s1.heap.push { cls:=.type "tuple",data:=.seq [u1,u2].toArray } }:=I1.kept (t':=s1.toks) fun b o e=>Heap.get?_push_of_some _ e
 rw[hw]
 refine wpAny_bind (wpAny_pure ?_)
 show wpAny (model X.prog X.w) X.A (do rule "assign.swapped-stores";let items ← unpackItems (.ref s1.heap.objs.size) 2 none;assignInOrder [fun v=>bindName X.env y v,fun v=>bindName X.env x v] items.reverse;pure Flow.next) _ _ _
 refine wpAny_bind (wpAny_rule (wpAny_bind (unpackItems_tuple (items:=#[u1,u2]) (I.ok.hd hc) (IsTup.new s1.heap _) fun h' hx'=>?_)))
 have I3:=I2.kept (h':=h') (t':=s1.toks) fun b o e=>hx' b o (Nat.ne_of_lt (Heap.lt_size e)) e
 show wpAny _ _ (assignInOrder [fun v=>bindName X.env y v,fun v=>bindName X.env x v] [u2,u1] >>= fun _=>pure Flow.next) _ _ _
 refine wpAny_bind (assignInOrder_cons (wpAny_bindName (gR I3 hN hj (.inl hy) rw' (fun s2 I4=>?_) (.inr hy))))
 refine assignInOrder_cons (wpAny_bindName (gR I4 hN hi (.inl hx) rv (fun s3 I5=>assignInOrder_nil (wpAny_pure ?_)) (.inr hx)))
 rw[List.set_comm _ _ (Ne.symm hij)] at I5
 exact⟨_,H1,I5,q1⟩
end
structure It where
 go:Nat→Hp→Prop
 yld:Nat→Hp→V→Hp→Prop
 stop:Nat→Hp→Prop
def xO (X:Cx)(pins:List (Addr × Obj))(H:Hp)(b:Addr):Prop:=
 H b=none∧b≠X.env.locals∧b ∉ X.fs∧(b∈X.ex∨X.s₀.heap.objs.size≤b)∧(∀ x c,X.env.cells.lookup x=some c→c≠b)∧∀ p∈X.pn++pins,p.1≠b
theorem Inv.fpOk {X:Cx}{pins:List (Addr × Obj)}{σ : St}{H H':Hp}{s:Shared}{b:Addr}(I:Inv X pins σ H s)(hb:s.heap.objs.size≤b)(hn:H' b=none):xO X pins H' b:=by
 refine⟨hn,Nat.ne_of_gt (Nat.lt_of_lt_of_le I.lt hb),I.nofs hb,.inr (Nat.le_trans I.sz hb),fun x c e z=>?_,fun p hp z=>?_⟩
 ·obtain⟨v,q⟩:=I.cell x c e
  exact absurd (Nat.lt_of_lt_of_le q.lt (by rw[z];exact hb)) (Nat.lt_irrefl _)
 ·exact absurd (Nat.lt_of_lt_of_le (Heap.lt_size (I.pin p hp).1) (by rw[z];exact hb)) (Nat.lt_irrefl _)
structure Turn (P:Program)(w:World)(K:PySem.W.Frag)(tg:Expr)(J:It)(fp:List Addr)(it:Addr)(tn:Nat→Heap→Prop):Prop where
 mem:it∈fp
 obj:∀ i h,tn i h→∀ b∈fp,∃ o,h.get? b=some o∧∀ v,o.data≠.cell v
 keep:∀ i h h',tn i h→(∀ b∈fp,∀ o,h.get? b=some o→h'.get? b=some o)→tn i h'
 item:∀ (X:Cx),X.prog=P→X.w=w→X.K=K→X.calm=true→∀ (i:Nat) (pins:List (Addr × Obj)) (s:Shared) (σ : St) (H:Hp) (E:Value→Shared→Prop),Inv X pins σ H s→(∀ b∈fp,xO X pins H b)→tn i s.heap→J.go i H →
  wpAny (model P w) X.A (pyNext (.ref it)) (fun r s1=>∃ u,r=some u ∧
   wpAny (model P w) X.A (letOwnedTupleGo tg (.ref it) u) (fun _ s2=>∃ x H',Inv X pins σ H' s2∧qJ x u∧J.yld i H x H'∧tn (i+1) s2.heap∧∀ b∈fp,H' b=none) E s1) E s
 done:∀ (X:Cx),X.prog=P→X.w=w→X.K=K→X.calm=true→∀ (i:Nat) (pins:List (Addr × Obj)) (s:Shared) (σ : St) (H:Hp) (E:Value→Shared→Prop),Inv X pins σ H s→(∀ b∈fp,xO X pins H b)→tn i s.heap→J.stop i H →
  wpAny (model P w) X.A (pyNext (.ref it)) (fun r s1=>r=none∧Inv X pins σ H s1) E s
 self:∀ (A:Around) (i:Nat) (s:Shared) (Q:Value→Shared→Prop) (E:Value→Shared→Prop),tn i s.heap→Q (.ref it) s→wpAny (model P w) A (pyIter (.ref it)) Q E s
abbrev TI:=St→Hp→(It→Hp→Prop)→Prop
inductive PIE (X:Cx)(pins:List (Addr × Obj))(σ : St)(tg:Expr)(R:It→Hp→Prop)(itv:Value)(s2:Shared):Prop
 |mk (it:Addr) (fp:List Addr) (tn:Nat→Heap→Prop) (J:It) (H':Hp) (e:itv=.ref it) (I:Inv X pins σ H' s2) (t:Turn X.prog X.w X.K tg J fp it tn) (z:tn 0 s2.heap) (f:∀ b∈fp,xO X pins H' b) (q:R J H'):PIE X pins σ tg R itv s2
def PI (X:Cx)(tg iter:Expr)(wi:TI):Prop:=
 ∀ (pins:List (Addr × Obj)) (s:Shared) (σ : St) (H:Hp) (R:It→Hp→Prop),Inv X pins σ H s→wi σ H R →
  wpAny (model X.prog X.w) X.A (eval iter X.env) (fun v s1=>wpAny (model X.prog X.w) X.A (pyIter v) (PIE X pins σ tg R) X.xe s1) X.xe s
theorem aZ {M:Model}{A:Around}{E:Value→Shared→Prop}{s:Shared}{tg:Expr}{it:Addr}{u:Value}{o:Obj}{n:String}{vs:Array Value}{Q:Unit→Shared→Prop}(ho:s.heap.get? it=some o)(hc:o.cls=.type n)(hd:o.data=.fields vs)
    (hn:["enumerate","zip","dict_itemiterator","dict_reverseitemiterator","odict_iterator","itertools.zip_longest","itertools.pairwise"].contains n=false) (hQ:Q () s):wpAny M A (letOwnedTupleGo tg (.ref it) u) Q E s:=by
  unfold letOwnedTupleGo
  cases tg <;> first
    |exact wpAny_pure hQ
    |(cases u <;> first
        |exact wpAny_pure hQ
        | (refine wpAny_bind (wpAny_load ho ?_)
           rw[hc,hd]
           show wpAny M A (if (["enumerate","zip","dict_itemiterator","dict_reverseitemiterator","odict_iterator","itertools.zip_longest","itertools.pairwise"].contains n&&vs[0]? == some (rawInt _))=true then _ else _) Q E s
           rw[if_neg (by intro h;rw[hn,Bool.false_and] at h;cases h)]
           exact wpAny_pure hQ))
def Itl (K:PySem.W.Frag)(a:Addr):It:=
 ⟨fun i H=>∃ xs x,SqL K H a xs∧xs[i]? = some x,fun i H x H'=>H'=H∧∀ xs,SqL K H a xs→xs[i]? = some x,fun i H=>∃ xs,SqL K H a xs∧xs.length≤i⟩
def Itt (K:PySem.W.Frag)(a:Addr):It:=
 ⟨fun i H=>∃ xs x,SqT K H a xs∧xs[i]? = some x,fun i H x H'=>H'=H∧∀ xs,SqT K H a xs→xs[i]? = some x,fun i H=>∃ xs,SqT K H a xs∧xs.length≤i⟩
def Itr (lo:Int)(n:Nat):It:=⟨fun i _=>i<n,fun i H x H'=>H'=H∧x=.int (lo+i),fun i _=>n≤i⟩
theorem lU {P:Program}{w:World}{K:PySem.W.Frag}{tg:Expr}(a it:Addr):Turn P w K tg (Itl K a) [it] it (fun i h=>h.IsListIter it a i) where
 mem:=by simp
 obj:=fun i h st b hb=>by
  have e:b=it:=by simpa using hb
  subst e
  obtain⟨o,e,c,d⟩:=st
  exact⟨o,e,fun v z=>by rw[d] at z;cases z⟩
 keep:=fun i h h' st k=>st.at fun o e=>k it (by simp) o e
 item:=by
  intro X hP hw hK hc i pins s σ H E I hf st hg
  subst hP hw hK
  obtain⟨xs,x,hq,hx⟩:=hg
  obtain⟨its,rv,p,hz⟩:=I.list hq
  obtain⟨u,hu,ru⟩:=rv.get hx
  obtain⟨f0,f1,f2,f3,f4,f5⟩:=hf it (by simp)
  refine wpAny_pyNext_list_item st p.isList (x:=u) (by simpa using hu) fun h' st' sb=>?_
  have I1:Inv X pins σ H { s with heap:=h' }:=I.turned (t':=s.toks) (fun b o hb e=>(sb.2 b hb).trans e) f0 f1 f3 f4 f5
  obtain⟨o,e,c,d⟩:=id st'
  exact⟨u,rfl,aZ (s:={ s with heap:=h' }) e c d (by decide) ⟨x,H,I1,ru,⟨rfl,fun ys hy=>by rw[I.list_inj hy hq];exact hx⟩,st',fun b hb=>(hf b hb).1⟩⟩
 done:=by
  intro X hP hw hK hc i pins s σ H E I hf st hg
  subst hP hw hK
  obtain⟨xs,hq,hx⟩:=hg
  obtain⟨its,rv,p,hz⟩:=I.list hq
  obtain⟨f0,f1,f2,f3,f4,f5⟩:=hf it (by simp)
  have hl:=rv.length
  exact wpAny_pyNext_list_end (I.ok.hd hc) st p.isList (by simp;omega) fun h' eb=>⟨rfl,I.turned (t':=s.toks) (fun b o hb e=>eb b o hb e) f0 f1 f3 f4 f5⟩
 self:=fun _ _ _ _ _ st h=>wpAny_pyIter_listiter st h
theorem iR {P:Program}{w:World}{K:PySem.W.Frag}{tg:Expr}(a it:Addr):Turn P w K tg (Itt K a) [it] it (fun i h=>h.IsTupleIter it a i) where
 mem:=by simp
 obj:=fun i h st b hb=>by
  have e:b=it:=by simpa using hb
  subst e
  obtain⟨o,e,c,d⟩:=st
  exact⟨o,e,fun v z=>by rw[d] at z;cases z⟩
 keep:=fun i h h' st k=>st.at fun o e=>k it (by simp) o e
 item:=by
  intro X hP hw hK hc i pins s σ H E I hf st hg
  subst hP hw hK
  obtain⟨xs,x,hq,hx⟩:=hg
  obtain⟨its,rv,p,hz⟩:=I.tuple hq
  obtain⟨u,hu,ru⟩:=rv.get hx
  obtain⟨f0,f1,f2,f3,f4,f5⟩:=hf it (by simp)
  refine wpAny_pyNext_tuple_item st (show s.heap.IsTuple a its.toArray from p) (x:=u) (by simpa using hu) fun h' st' sb=>?_
  have I1:Inv X pins σ H { s with heap:=h' }:=I.turned (t':=s.toks) (fun b o hb e=>(sb.2 b hb).trans e) f0 f1 f3 f4 f5
  obtain⟨o,e,c,d⟩:=id st'
  exact⟨u,rfl,aZ (s:={ s with heap:=h' }) e c d (by decide) ⟨x,H,I1,ru,⟨rfl,fun ys hy=>by rw[I.tuple_inj hy hq];exact hx⟩,st',fun b hb=>(hf b hb).1⟩⟩
 done:=by
  intro X hP hw hK hc i pins s σ H E I hf st hg
  subst hP hw hK
  obtain⟨xs,hq,hx⟩:=hg
  obtain⟨its,rv,p,hz⟩:=I.tuple hq
  obtain⟨f0,f1,f2,f3,f4,f5⟩:=hf it (by simp)
  have hl:=rv.length
  exact wpAny_pyNext_tuple_end (I.ok.hd hc) st (show s.heap.IsTuple a its.toArray from p) (by simp;omega) fun h' eb=>⟨rfl,I.turned (t':=s.toks) (fun b o hb e=>eb b o hb e) f0 f1 f3 f4 f5⟩
 self:=fun _ _ _ _ _ st h=>wpAny_pyIter_tupleiter st h
theorem iQ {P:Program}{w:World}{K:PySem.W.Frag}{tg:Expr}(it:Addr)(lo:Int)(n:Nat):Turn P w K tg (Itr lo n) [it] it (fun i h=>IsRangeIter h it (lo+(i:Nat)*1) ((n:Int)-(i:Nat)) 1) where
 mem:=by simp
 obj:=fun i h st b hb=>by
  have e:b=it:=by simpa using hb
  subst e
  exact⟨_,st,fun v z=>by
   have z':Data.fields _=Data.cell v:=z
   cases z'⟩
 keep:=fun i h h' st k=>k it (by simp) _ st
 item:=by
  intro X hP hw hK hc i pins s σ H E I hf st hg
  subst hP hw hK
  obtain⟨f0,f1,f2,f3,f4,f5⟩:=hf it (by simp)
  have W:=Walks.range (prog:=X.prog) (w:=X.w) (I.ok.hd hc) it lo 1 n
  refine W.item i s _ _ hg st fun v h' tk hv st' kk=>?_
  obtain⟨t,rfl⟩:=hv
  have I1:Inv X pins σ H { s with heap:=h',toks:=tk }:=I.turned (fun b o hb e=>kk b o (by simpa using hb) e) f0 f1 f3 f4 f5
  refine⟨_,rfl,aZ (s:={ s with heap:=h',toks:=tk }) (n:="range_iterator") st' rfl rfl (by decide) ⟨.int (lo+i),H,I1,⟨t,?_⟩,⟨rfl,rfl⟩,st',fun b hb=>(hf b hb).1⟩⟩
  rw[Int.mul_one]
 done:=by
  intro X hP hw hK hc i pins s σ H E I hf st hg
  subst hP hw hK
  obtain⟨f0,f1,f2,f3,f4,f5⟩:=hf it (by simp)
  exact wpAny_pyNext_range_end (I.ok.hd hc) st (by have:n≤i:=hg;omega) fun h' eb=>⟨rfl,I.turned (t':=s.toks) (fun b o hb e=>eb b o hb e) f0 f1 f3 f4 f5⟩
 self:=fun _ _ _ _ _ st h=>wpAny_pyIter_rangeiter st h
end _L
namespace _L
open PySem PySem.Spec PyProof.Rows
section
variable {X:Cx}{tg:Expr}
theorem rM {pins:List (Addr × Obj)}{σ : St}{H:Hp}{s:Shared}{R:It→Hp→Prop}{E:Value→Shared→Prop}{lo hi:Int}{t u v:Tok}{tk:Nat}(I:Inv X pins σ H s)(h1 : -(2 ^ 62)≤lo)(h2:lo<2 ^ 62)(h3 : -(2 ^ 62)≤hi)(h4:hi<2 ^ 62)
  (q:R (Itr lo (hi-lo).toNat) H):wpAny (model X.prog X.w) X.A (pyIter (.ref s.heap.objs.size)) (PIE X pins σ tg R) E { s with heap:=s.heap.push { cls:=.type "range",data:=.fields #[.int lo t,.int hi u,.int 1 v] },toks:=tk }:=by
 refine wpAny_pyIter_range (IsRange.new ..) (small_one h1 h2 h3 h4) ?_
 have I1:Inv X pins σ H { s with heap:=s.heap.push { cls:=.type "range",data:=.fields #[.int lo t,.int hi u,.int 1 v] },toks:=tk }:=I.kept fun b o e=>Heap.get?_push_of_some _ e
 refine⟨(s.heap.push { cls:=.type "range",data:=.fields #[.int lo t,.int hi u,.int 1 v] }).objs.size,[(s.heap.push { cls:=.type "range",data:=.fields #[.int lo t,.int hi u,.int 1 v] }).objs.size],_,_,H,rfl,
  I1.kept (t':=tk) fun b o e=>Heap.get?_push_of_some _ e,iQ _ lo (hi-lo).toNat,?_,fun b hb=>?_,q⟩
 ·have e1:lo+((0:Nat):Int)*1=lo:=by simp
  have e2:(((hi-lo).toNat:Nat):Int)-((0:Nat):Int)=Builtin.Range.rangeSize lo hi 1:=by rw[rangeSize_one];split <;> omega
  show IsRangeIter _ _ (lo+((0:Nat):Int)*1) ((((hi-lo).toNat:Nat):Int)-((0:Nat):Int)) 1
  rw[e1,e2]
  exact Heap.get?_push_size _ rfl
 ·have e:b=(s.heap.push { cls:=.type "range",data:=.fields #[.int lo t,.int hi u,.int 1 v] }).objs.size:=by simpa using hb
  subst e
  exact I1.fpOk (Nat.le_refl _) (I1.hok.fresh (Nat.le_refl _))
def SU (wi:TI)(g:TG)(tb:TS):TS:=fun D σ H=>wi σ H fun J H1=>∃ W:Nat→Nat→St→Hp→Prop,(∃ m,W 0 m σ H1)∧∀ i m σ H,W i m σ H →
 (J.stop i H∧D.nx σ H)∨(J.go i H∧∃ N:St→Hp→Prop,(∀ σ' H',N σ' H'→∃ m',m'<m∧W (i+1) m' σ' H')∧∀ x H',J.yld i H x H'→g x σ H' fun σ2 H2=>tb { D with nx:=N,ct:=N,bk:=D.nx } σ2 H2)
def vN (fp:List Addr)(h:Heap):List (Addr × Obj):=fp.filterMap fun b=>(h.get? b).map fun o=>(b,o)
theorem j3 {fp:List Addr}{h:Heap}{b:Addr}{o:Obj}(hb:b∈fp)(e:h.get? b=some o):(b,o)∈vN fp h:=List.mem_filterMap.mpr ⟨b,hb,by rw[e];rfl⟩
theorem lK {fp:List Addr}{h:Heap}{p:Addr × Obj}(hp:p∈vN fp h):p.1∈fp∧h.get? p.1=some p.2:=by
 obtain⟨b,hb,e⟩:=List.mem_filterMap.mp hp
 cases q:h.get? b with
 |none=>rw[q] at e;cases e
 |some o =>
  rw[q] at e
  have e':(b,o)=p:=Option.some.inj e
  subst e'
  exact⟨hb,q⟩
theorem Inv.pinned {pins:List (Addr × Obj)}{σ : St}{H:Hp}{s:Shared}{fp:List Addr}(I:Inv X pins σ H s)(hf:∀ b∈fp,xO X pins H b)(ho:∀ b∈fp,∃ o,s.heap.get? b=some o∧∀ v,o.data≠.cell v):Inv X (pins++vN fp s.heap) σ H s:=
 I.pins_of fun p hp=>(List.mem_append.mp hp).elim (fun z=>I.pin p (List.mem_append_right _ z)) fun z=>by
  obtain⟨hb,e⟩:=lK z
  obtain⟨f0,f1,f2,_⟩:=hf p.1 hb
  obtain⟨o,e',d⟩:=ho p.1 hb
  rw[e] at e';cases e'
  exact⟨e,f0,f1,f2,d⟩
theorem Inv.unpinned {pins pl:List (Addr × Obj)}{σ : St}{H:Hp}{s:Shared}(I:Inv X (pins++pl) σ H s):Inv X pins σ H s:=I.pins_of fun p hp=>I.pin p (List.mem_append_right _ (List.mem_append_left _ hp))
inductive ForI (X:Cx)(pins:List (Addr × Obj))(fp:List Addr)(tn:Nat→Heap→Prop)(W:Nat→Nat→St→Hp→Prop)(n:Nat)(s':Shared):Prop
 |mk (i:Nat) (σ' : St) (H':Hp) (I:Inv X pins σ' H' s') (t:tn i s'.heap) (f:∀ b∈fp,H' b=none) (w:W i n σ' H'):ForI X pins fp tn W n s'
theorem FO {iter:Expr}{body:List Stmt}{wi:TI}{g:TG}{tb:TS}{pos:Pos}(hp:PassesOwn (model X.prog X.w) X.A X.env X.xe)(hc:X.calm=true)(hi:PI X tg iter wi)(hg:PG X tg g)(hb:PSs X body tb)
  (hs:∀ x,foldedSetIterable iter X.env x=pure x:=by intro _;rfl):PS X (.For tg iter body [] pos) (SU wi g tb):=by
 intro pins s σ H D I h
 refine wpAny_For (thn (hi pins s σ H _ I h) fun v s1 h1=>thn h1 fun itv s2 h2=>?_) hs
 obtain⟨it,fp,tn,J,H2,e,I2,T,st2,f2,W,⟨m0,w0⟩,turn⟩:=h2
 subst e
 have stat:∀ {H':Hp},(∀ b∈fp,H' b=none)→∀ b∈fp,xO X pins H' b:=fun hn b hb=>⟨hn b hb,(f2 b hb).2⟩
 refine codeAny_forLoop_any (ForI X pins fp tn W) ?_ m0 ⟨0,σ,H2,I2,st2,fun b hb=>(f2 b hb).1,w0⟩
 rintro n s3 ⟨i,σ3,H3,I3,st3,fr3,w3⟩
 rcases turn i n σ3 H3 w3 with⟨stop,qn⟩|⟨go,N,hN,step⟩
 ·refine wpAny_passesOwn hp (thn (T.done X rfl rfl rfl hc i pins s3 σ3 H3 X.xe I3 (stat fr3) st3 stop) fun r s4 ⟨hr,I4⟩=>?_)
  subst hr
  exact wpAny_execs_nil ⟨σ3,H3,I4,qn⟩
 ·refine wpAny_passesOwn hp (thn (T.item X rfl rfl rfl hc i pins s3 σ3 H3 X.xe I3 (stat fr3) st3 go) fun r s4 ⟨u,hr,h4⟩=>?_)
  subst hr
  refine wpAny_passesOwn hp (thn h4 fun _ s5 ⟨x,H5,I5,r5,y5,st5,fr5⟩=>?_)
  have I5':=I5.pinned (stat fr5) (T.obj _ _ st5)
  refine wpAny_passesOwn hp (thn (hg _ s5 σ3 H5 x u _ I5' r5 (step x H5 y5)) fun _ s6 ⟨σ6,H6,I6,q6⟩=>?_)
  refine wpAny_passesOwn hp (thn (hb _ s6 σ6 H6 _ I6 q6) fun f s7 q7=>?_)
  have again:∀ {σ7:St} {H7:Hp},Inv X (pins++vN fp s5.heap) σ7 H7 s7→N σ7 H7→∃ m,m<n∧ForI X pins fp tn W m s7:=fun {σ7 H7} I7 n7=>by
   obtain⟨m',hm,w7⟩:=hN σ7 H7 n7
   refine⟨m',hm,i+1,σ7,H7,I7.unpinned,T.keep _ _ _ st5 fun b hb o e=>(I7.pin (b,o) (List.mem_append_right _ (List.mem_append_right _ (j3 hb e)))).1,fun b hb=>?_,w7⟩
   obtain⟨o,e,d⟩:=T.obj _ _ st5 b hb
   exact(I7.pin (b,o) (List.mem_append_right _ (List.mem_append_right _ (j3 hb e)))).2.1
  cases f with
  |next=>obtain⟨σ7,H7,I7,n7⟩:=q7;exact again I7 n7
  |cont=>obtain⟨σ7,H7,I7,n7⟩:=q7;exact again I7 n7
  |brk=>obtain⟨σ7,H7,I7,q7⟩:=q7;exact⟨σ7,H7,I7.unpinned,q7⟩
  |ret v=>obtain⟨x7,σ7,H7,I7,r7,q7⟩:=q7;exact⟨x7,σ7,H7,I7.unpinned,r7,q7⟩
end
end _L
namespace _L
open PySem PySem.Spec PyProof.Rows
abbrev R2:=V→V→Hp→VK→Prop
def OpR (X:Cx)(f:Value→Value→Sem Value)(r:R2):Prop:=
 ∀ (pins:List (Addr × Obj)) (s:Shared) (σ : St) (H:Hp) (x y:V) (v u:Value) (Q:VK),Inv X pins σ H s→qJ x v→qJ y u→r x y H Q →
  wpAny (model X.prog X.w) X.A (f v u) (EP X pins σ Q) X.xe s
def UnR (X:Cx)(f:Value→Sem Value)(r:V→Hp→VK→Prop):Prop:=
 ∀ (pins:List (Addr × Obj)) (s:Shared) (σ : St) (H:Hp) (x:V) (v:Value) (Q:VK),Inv X pins σ H s→qJ x v→r x H Q →
  wpAny (model X.prog X.w) X.A (f v) (EP X pins σ Q) X.xe s
def kQ (X:Cx)(f:Value)(r:List V→Hp→VK→Prop):Prop:=
 ∀ (pins:List (Addr × Obj)) (s:Shared) (σ : St) (H:Hp) (xs:List V) (us:List Value) (Q:VK),Inv X pins σ H s→qN xs us→r xs H Q →
  wpAny (model X.prog X.w) X.A (call f us) (EP X pins σ Q) X.xe s
def DD (X:Cx)(r:V→Hp→(Bool→Hp→Prop)→Prop):Prop:=
 ∀ (pins:List (Addr × Obj)) (s:Shared) (σ : St) (H:Hp) (x:V) (v:Value) (Q:Bool→Hp→Prop),Inv X pins σ H s→qJ x v→r x H Q →
  wpAny (model X.prog X.w) X.A (truthy v) (TP X pins σ Q) X.xe s
def tOp (r:R2)(ta tb:TE):TE:=fun σ H Q=>ta σ H fun x H1=>tb σ H1 fun y H2=>r x y H2 Q
def rI (C:Int→Int→Prop)(g:Int→Int→V):R2:=fun x y H Q=>∃ i j,x=.int i∧y=.int j∧C i j∧Q (g i j) H
def rI0 (g:Int→Int→V):R2:=fun x y H Q=>∃ i j,x=.int i∧y=.int j∧Q (g i j) H
def rU (g:Int→V):V→Hp→VK→Prop:=fun x H Q=>∃ i,x=.int i∧Q (g i) H
section
variable {X:Cx}{a b c:Expr}{ta tb tc:TE}{pos:Pos}
theorem DP (ha:PE X a ta)(hb:PE X b tb){pins:List (Addr × Obj)}{s:Shared}{σ : St}{H:Hp}{R:V→V→Hp→Prop}(I:Inv X pins σ H s)
  (h:ta σ H fun x H1=>tb σ H1 fun y H2=>R x y H2) {Q:Value→Shared→Prop} {f:Value→Value→Sem Value}
  (hf:∀ v u s2 x y H2,Inv X pins σ H2 s2→qJ x v→qJ y u→R x y H2→wpAny (model X.prog X.w) X.A (f v u) Q X.xe s2) :
  wpAny (model X.prog X.w) X.A (eval a X.env) (fun v s₁=>wpAny (model X.prog X.w) X.A (eval b X.env) (fun u s₂=>wpAny (model X.prog X.w) X.A (f v u) Q X.xe s₂) X.xe s₁) X.xe s:=by
 refine thn (ha pins s σ H _ I h) fun v s1 ⟨x,H1,I1,r1,q1⟩=>?_
 refine thn (hb pins s1 σ H1 _ I1 q1) fun u s2 ⟨y,H2,I2,r2,q2⟩=>?_
 exact hf v u s2 x y H2 I2 r1 r2 q2
theorem opI {f:Value→Value→Sem Value}{C:Int→Int→Prop}{g:Int→Int→Int}
  (rule:∀ (i j:Int) (t u:Tok) (s:Shared) (Q:Value→Shared→Prop) (E:Value→Shared→Prop),C i j→Q (.int (g i j) s.toks) { s with toks:=s.toks+1 } → wpAny (model X.prog X.w) X.A (f (.int i t) (.int j u)) Q E s) :
  OpR X f (rI C fun i j=>.int (g i j)):=by
 intro pins s σ H x y v u Q I rx ry h
 obtain⟨i,j,rfl,rfl,hc,q⟩:=h
 obtain⟨t,rfl⟩:=rx
 obtain⟨t',rfl⟩:=ry
 exact rule i j t t' s _ _ hc ⟨.int (g i j),H,I.tok _,⟨_,rfl⟩,q⟩
theorem F7 {f:Value→Value→Sem Value}{g:Int→Int→Int}
  (rule:∀ (i j:Int) (t u:Tok) (s:Shared) (Q:Value→Shared→Prop) (E:Value→Shared→Prop),Q (.int (g i j) s.toks) { s with toks:=s.toks+1 } → wpAny (model X.prog X.w) X.A (f (.int i t) (.int j u)) Q E s) :
  OpR X f (rI0 fun i j=>.int (g i j)):=by
 intro pins s σ H x y v u Q I rx ry h
 obtain⟨i,j,rfl,rfl,q⟩:=h
 obtain⟨t,rfl⟩:=rx
 obtain⟨t',rfl⟩:=ry
 exact rule i j t t' s _ _ ⟨.int (g i j),H,I.tok _,⟨_,rfl⟩,q⟩
theorem W8 {f:Value→Value→Sem Value}{g:Int→Int→Bool}
  (rule:∀ (i j:Int) (t u:Tok) (s:Shared) (Q:Value→Shared→Prop) (E:Value→Shared→Prop),Q (.bool (g i j)) s→wpAny (model X.prog X.w) X.A (f (.int i t) (.int j u)) Q E s) :
  OpR X f (rI0 fun i j=>.bl (g i j)):=by
 intro pins s σ H x y v u Q I rx ry h
 obtain⟨i,j,rfl,rfl,q⟩:=h
 obtain⟨t,rfl⟩:=rx
 obtain⟨t',rfl⟩:=ry
 exact rule i j t t' s _ _ ⟨.bl (g i j),H,I,rfl,q⟩
def D9 (i j:Int):Prop:=0<j∧j<1073741824
def DB (i j:Int):Prop:=0≤j∧j≤1000000∧i.natAbs<2 ^ 64
def ZF (i j:Int):Prop:=(-(2 ^ 64)<i∧i<2 ^ 64)∨(-(2 ^ 64)<j∧j<2 ^ 64)
theorem ZF.ok {i j:Int}(h:ZF i j):IntMulOk i j:=by
 rcases h with⟨h1,h2⟩|⟨h1,h2⟩
 ·exact .of_left (intBits_le_64 h1 h2)
 ·exact .of_right (intBits_le_64 h1 h2)
theorem F8:OpR X (binaryOp .Add) (rI0 fun i j=>.int (i+j)):=F7 fun _ _ _ _ _ _ _ q=>add_int q
theorem FC:OpR X (binaryOp .Sub) (rI0 fun i j=>.int (i-j)):=F7 fun _ _ _ _ _ _ _ q=>sub_int q
theorem FA:OpR X (binaryOp .Mult) (rI ZF fun i j=>.int (i*j)):=opI fun _ _ _ _ _ _ _ hc q=>mul_int q hc.ok
theorem JC:OpR X (binaryOp .FloorDiv) (rI D9 fun i j=>.int (i/j)):=opI fun i j _ _ _ _ _ hc q=>by
 have h1:(0:Int)<j:=hc.1
 have h2:j<1073741824:=hc.2
 exact floordiv_int (by omega) (by rw[Int.fdiv_eq_ediv_of_nonneg i (by omega)];exact q) (.inl (PyProof.noPylong_small (by omega)))
theorem F9:OpR X (binaryOp .Mod) (rI (fun _ j=>0<j) fun i j=>.int (i % j)):=opI fun i j _ _ _ _ _ hc q=>by
 have h1:(0:Int)<j:=hc
 exact mod_int' (by omega) (by rw[Int.fmod_eq_emod_of_nonneg i (by omega)];exact q)
theorem FB:OpR X (binaryOp .Pow) (rI DB fun i j=>.int (i ^ j.toNat)):=opI fun _ _ _ _ _ _ _ hc q=>pow_int_small hc.1 hc.2.1 hc.2.2 q
theorem unI {f:Value→Sem Value}{g:Int→Int}
  (rule:∀ (i:Int) (t:Tok) (s:Shared) (Q:Value→Shared→Prop) (E:Value→Shared→Prop),Q (.int (g i) s.toks) { s with toks:=s.toks+1 } → wpAny (model X.prog X.w) X.A (f (.int i t)) Q E s) :
  UnR X f (rU fun i=>.int (g i)):=by
 intro pins s σ H x v Q I rx h
 obtain⟨i,rfl,q⟩:=h
 obtain⟨t,rfl⟩:=rx
 exact rule i t s _ _ ⟨.int (g i),H,I.tok _,⟨_,rfl⟩,q⟩
theorem T9:UnR X (unaryOp .USub) (rU fun i=>.int (-i)):=unI fun _ _ _ _ _ q=>neg_int q
end
section
variable {X:Cx}{a b c:Expr}{ta tb tc:TE}{pos:Pos}
theorem NW:OpR X (compareOp .Lt) (rI0 fun i j=>.bl (decide (i<j))):=W8 fun _ _ _ _ _ _ _ q=>lt_int q
theorem NV:OpR X (compareOp .LtE) (rI0 fun i j=>.bl (decide (i≤j))):=W8 fun _ _ _ _ _ _ _ q=>le_int q
theorem NU:OpR X (compareOp .GtE) (rI0 fun i j=>.bl (decide (j≤i))):=W8 fun _ _ _ _ _ _ _ q=>ge_int q
theorem OpR.or {f:Value→Value→Sem Value}{r r':R2}(h:OpR X f r)(h':OpR X f r'):OpR X f (fun x y H Q=>r x y H Q∨r' x y H Q):=by
 intro pins s σ H x y v u Q I rx ry q
 rcases q with q|q
 ·exact h pins s σ H x y v u Q I rx ry q
 ·exact h' pins s σ H x y v u Q I rx ry q
theorem pL (b:Expr){op:CmpOp}(h:op≠.In:=by decide)(h2:op≠.NotIn:=by decide):behindInMarks op b=false:=by
 have e1:(op == CmpOp.In)=false:=by cases op <;> first|rfl|exact absurd rfl h
 have e2:(op == CmpOp.NotIn)=false:=by cases op <;> first|rfl|exact absurd rfl h2
 cases b <;> simp[behindInMarks,e1,e2]
def aD (K:PySem.W.Frag)(x:V)(H:Hp)(k:Bool):Prop:=
 match x with
 |.non=>k=false
 |.bl b=>k=b
 |.int i=>k=(i != 0)
 |.str y=>y.length≤sizeLine∧k=((y.length:Int) != 0)
 |.byt y=>y.size≤sizeLine∧k=((y.size:Int) != 0)
 |.ref p=>(∃ xs,SqL K H p xs∧k=!xs.isEmpty)∨(∃ xs,SqT K H p xs∧k=!xs.isEmpty)∨∃ kvs,H p=some (.dK kvs)∧k=!kvs.isEmpty
 |_=>False
theorem i3 {κ : Type}{kvs:List (κ × V)}{vs:List (κ × Value)}(r:KV kvs vs):(!vs.isEmpty)=!kvs.isEmpty:=by
 cases r <;> rfl
theorem mD {xs:List V}{its:List Value}(r:qN xs its):(!its.toArray.isEmpty)=!xs.isEmpty:=by
 cases r <;> simp
theorem pK:(sizeLine:Nat)<2 ^ 63:=by rw[sizeLine_eq];decide
theorem pQ:DD X (fun x H Q=>∃ k,aD X.K x H k∧Q k H):=by
 intro pins s σ H x v Q I rx h
 obtain⟨k,e,q⟩:=h
 have hl:=pK
 have hs:sizeLine=16777216:=sizeLine_eq
 cases x with
 |non =>
  cases rx
  have e':k=false:=e
  subst e'
  exact truthy_none ⟨H,I,q⟩
 |bl b =>
  cases rx
  have e':k=b:=e
  subst e'
  exact wpAny_truthy_bool ⟨H,I,q⟩
 |int i =>
  obtain⟨t,rfl⟩:=rx
  have e':k=(i != 0):=e
  subst e'
  exact PySem.P.truthy_int ⟨H,I,q⟩
 |str y =>
  obtain⟨t,rfl⟩:=rx
  obtain⟨hy,e'⟩:y.length≤sizeLine∧k=((y.length:Int) != 0):=e
  subst e'
  exact PySem.P.truthy_str (by omega) ⟨H,I.tok _,q⟩
 |byt y =>
  obtain⟨t,rfl⟩:=rx
  obtain⟨hy,e'⟩:y.size≤sizeLine∧k=((y.size:Int) != 0):=e
  subst e'
  exact PySem.W.truthy_bytes (by omega) ⟨H,I.tok _,q⟩
 |ref p =>
  cases rx
  have e':(∃ xs,SqL X.K H p xs∧k=!xs.isEmpty)∨(∃ xs,SqT X.K H p xs∧k=!xs.isEmpty)∨∃ kvs,H p=some (.dK kvs)∧k=!kvs.isEmpty:=e
  rcases e' with⟨xs,hx,e'⟩|⟨xs,hx,e'⟩|⟨kvs,hx,e'⟩
  ·subst e'
   obtain⟨its,r,pl,hz⟩:=I.list hx
   have hlen:=r.length
   exact wpAny_truthy_list pl.isList (by simp only[List.size_toArray];omega) ⟨H,I.tok _,by rw[mD r];exact q⟩
  ·subst e'
   obtain⟨its,r,pl,hz⟩:=I.tuple hx
   have hlen:=r.length
   exact truthy_tuple pl (by simp only[List.size_toArray];omega) ⟨H,I.tok _,by rw[mD r];exact q⟩
  ·subst e'
   obtain⟨hz,hS,vs,r,m⟩:kvs.length≤sizeLine∧(p == sysModules)=false∧∃ vs,KV kvs vs∧s.heap.DictOf (zS X.prog X.w) p vs:=I.hok p _ hx
   have hlen:kvs.length=vs.length:=Paired.length r
   exact wpAny_truthy_dict hS m (by omega) ⟨H,I.tok _,by rw[i3 r];exact q⟩
 |_=>exact(show False from e).elim
theorem iE:OpR X (binaryOp .Add) (fun x y H Q=>∃ i j,x=.str i∧y=.str j∧i.length+j.length≤sizeLine∧Q (.str (i++j)) H):=by
 intro pins s σ H x y v u Q I rx ry h
 obtain⟨i,j,rfl,rfl,hz,q⟩:=h
 obtain⟨t,rfl⟩:=rx
 obtain⟨t',rfl⟩:=ry
 exact add_str (fun t' tk=>⟨.str (i++j),H,I.tok _,⟨_,rfl⟩,q⟩) hz
theorem gS {x:V}{us:List Value}(r:qN [x] us):∃ u,us=[u]∧qJ x u:=by
 cases r with
 |cons r1 r2=>cases r2;exact⟨_,rfl,r1⟩
theorem iS {x y:V}{us:List Value}(r:qN [x,y] us):∃ u w',us=[u,w']∧qJ x u∧qJ y w':=by
 cases r with
 |cons r1 r2 =>
  cases r2 with
  |cons r3 r4=>cases r4;exact⟨_,_,rfl,r1,r3⟩
theorem l4:kQ X (.type "int") (fun xs H Q=>(∃ i,xs=[.int i]∧Q (.int i) H)∨∃ k,xs=[.bl k]∧Q (.int (if k then 1 else 0)) H):=by
 intro pins s σ H xs us Q I r h
 rcases h with⟨i,rfl,q⟩|⟨k,rfl,q⟩
 ·obtain⟨u,rfl,t,rfl⟩:=gS r
  exact call_int_int ⟨.int i,H,I,⟨_,rfl⟩,q⟩
 ·obtain⟨u,rfl,r1⟩:=gS r
  cases r1
  exact call_int_bool ⟨.int (if k then 1 else 0),H,I.tok _,⟨_,rfl⟩,q⟩
def G7 (K:PySem.W.Frag)(x:V)(H:Hp)(n:Nat):Prop:=
 match x with
 |.str y=>y.length≤sizeLine∧n=y.length
 |.byt y=>y.size≤sizeLine∧n=y.size
 |.ref p=>(∃ xs,SqL K H p xs∧n=xs.length)∨∃ xs,SqT K H p xs∧n=xs.length
 |_=>False
theorem ZM:kQ X (.builtin "len") (fun xs H Q=>∃ x n,xs=[x]∧G7 X.K x H n∧Q (.int n) H):=by
 intro pins s σ H xs us Q I r h
 obtain⟨x,n,rfl,e,q⟩:=h
 obtain⟨u,rfl,rx⟩:=gS r
 have hl:=pK
 have hs:sizeLine=16777216:=sizeLine_eq
 cases x with
 |str y =>
  obtain⟨t,rfl⟩:=rx
  obtain⟨hy,e'⟩:y.length≤sizeLine∧n=y.length:=e
  subst e'
  exact len_str (by omega) ⟨.int _,H,I.tok _,⟨_,rfl⟩,q⟩
 |byt y =>
  obtain⟨t,rfl⟩:=rx
  obtain⟨hy,e'⟩:y.size≤sizeLine∧n=y.size:=e
  subst e'
  exact PySem.W.len_bytes (by omega) ⟨.int _,H,I.tok _,⟨_,rfl⟩,q⟩
 |ref p =>
  cases rx
  have e':(∃ xs,SqL X.K H p xs∧n=xs.length)∨∃ xs,SqT X.K H p xs∧n=xs.length:=e
  rcases e' with⟨xs,hx,e'⟩|⟨xs,hx,e'⟩
  ·subst e'
   obtain⟨its,r',pl,hz⟩:=I.list hx
   have hlen:=r'.length
   exact Calls.call_len_list pl.isList (by simp only[List.size_toArray];omega) ⟨.int xs.length,H,I.tok _,⟨_,by simp only[List.size_toArray];rw[hlen]⟩,q⟩
  ·subst e'
   obtain⟨its,r',pl,hz⟩:=I.tuple hx
   have hlen:=r'.length
   exact len_tuple pl (by simp only[List.size_toArray];omega) ⟨.int xs.length,H,I.tok _,⟨_,by simp only[List.size_toArray];rw[hlen]⟩,q⟩
 |_=>exact(show False from e).elim
end
end _L
namespace _L
open PySem PySem.Spec PyProof.Rows
structure ObjM (h:Heap)(x dx C:Addr)(mA:Str→Option Value):Prop where
 obj:h.get? x=some (PySem.W.instObj C dx)
 ns:h.Ns1 dx mA
 ne:dx≠x
set_option tactic.hygienic true in
theorem Q5 {h:Heap}{dx:Addr}{mA:Str→Option Value}(n:h.Ns1 dx mA):∃ od,h.get? dx=some od∧∀ name,PySem.W.lookIn name od=some (mA name):=by
 obtain⟨o,es,ep,ho,hd,hk,_,hm⟩:=n
 refine⟨o,ho,fun name=>?_⟩
 have e:=hm name
 unfold nsFind findBy at e
 rw[← Array.find?_toList] at e
 unfold PySem.W.lookIn
 rw[hd]
 dsimp only
 split
 ·rename_i y q
  rw[q] at e
  exact congrArg some e
 ·rename_i q
  rw[q] at e
  have a:es.toList.any (·.refKey)=false:=by
   rw[List.any_eq_false]
   intro y hy
   obtain⟨z,t,hkey⟩:=hk y (Array.mem_toList_iff.mp hy)
   simp[DictEntry.refKey,hkey]
  have a':¬ es.toList.any (·.refKey)=true:=by rw[a];exact Bool.false_ne_true
  rw[if_neg a']
  exact congrArg some e
theorem ObjM.look {h:Heap}{x dx C:Addr}{mA:Str→Option Value}(I:ObjM h x dx C mA):∃ od,PySem.W.InstAt h x (PySem.W.instObj C dx) C (some od)∧∀ name,PySem.W.lookIn name od=some (mA name):=
 let ⟨od,ho,hl⟩:=Q5 I.ns
 ⟨od,⟨I.obj,rfl,rfl,ho⟩,hl⟩
section
variable {P:Program}{w:World}{H H':Hp}{h h':Heap}{a C dx:Addr}{fs fs':List (Str × V)}
theorem UI (hok:HOk P w H h)(e:H a=some (.ins C dx fs)):∃ mA,ObjM h a dx C mA∧(∀ f,bY (fs.lookup f) (mA f))∧PySem.Within mA (fs.map (·.1))∧fs.length≤1000∧H dx=some (.own a):=by
 obtain⟨d,z,ne,ob,mA,n,r,q⟩:=(show zI P w H h a (.ins C dx fs) from hok a _ e)
 exact⟨mA,⟨ob,n,ne⟩,r,q,z,d⟩
end
structure Cls (K:PySem.W.Frag)(C:Addr):Prop where
 pg:PySem.W.plainGet K C Str.empty=true
 hd:PySem.W.hasDictIn K C=true
 po:PySem.W.plainOver K C=true
 sa:PySem.W.findIn K (.ref C) "__setattr__" = some (some (.builtin "object.__setattr__"))
theorem Cls.get {K:PySem.W.Frag}{C:Addr}(c:Cls K C)(f:Str):PySem.W.plainGet K C f=true:=c.pg
section
variable {X:Cx}{pins:List (Addr × Obj)}{σ : St}{H:Hp}{s:Shared}{A:Around}{E:Value→Shared→Prop}{Q:Value→Shared→Prop}{c:Value}{b:Bool}
inductive TyOf (K:PySem.W.Frag)(H:Hp):V→Value→Prop where
 |non:TyOf K H .non (.type "NoneType")
 |bl (x:Bool):TyOf K H (.bl x) (.type "bool")
 |int (i:Int):TyOf K H (.int i) (.type "int")
 |str (x:Str):TyOf K H (.str x) (.type "str")
 |flt (x:UInt64):TyOf K H (.flt x) (.type "float")
 |lst {a:Addr} {xs:List V} (e:H a=some (.lst xs)):TyOf K H (.ref a) (.type "list")
 |frz {a:Addr} {o:Obj} {xs:List V} (e:H a=some (.frz o (.lst xs))):TyOf K H (.ref a) (.type "list")
 |tup {a:Addr} {xs:List V} (e:H a=some (.tup xs)):TyOf K H (.ref a) (.type "tuple")
 |dK {a:Addr} {kvs:List (Key × V)} (e:H a=some (.dK kvs)):TyOf K H (.ref a) (.type "dict")
 |dT {a:Addr} {kvs:List (List Key × V)} (e:H a=some (.dT kvs)):TyOf K H (.ref a) (.type "dict")
 |ins {a C dx:Addr} {fs:List (Str × V)} (e:H a=some (.ins C dx fs)) (cl:Cls K C) (ha:PySem.W.findIn K (.ref C) "__class__" = some (some (.builtin "object.__class__")))
   (hn:PySem.W.specialIn K (.builtin "object.__class__") "__get__" = some (some (.builtin "getset_descriptor.__get__"))) (htk:PySem.W.takesIn K (.builtin "object.__class__")=some true)
   (hm:PySem.W.mroIn K C (.type "object")=some true):TyOf K H (.ref a) (.ref C)
theorem oS {x:V}{u t:Value}(I:Inv X pins σ H s)(rx:qJ x u)(ty:TyOf X.K H x t)(e:PySem.W.kitOne X.K t c=some b)(h:∀ tk,Q (.bool b) { s with toks:=tk }) :
  wpAny (model X.prog X.w) A (call (.builtin "isinstance") [u,c]) Q E s:=by
 cases ty with
 |non=>cases (show u=Value.none from rx);exact PySem.W.kia_one PySem.W.kitx_none I.kIn True.intro e (fun z=>nomatch z) h
 |bl y=>cases (show u=Value.bool y from rx);exact PySem.W.kia_one PySem.W.kitx_bool I.kIn True.intro e (fun z=>nomatch z) h
 |int i=>obtain⟨t,q⟩:=(show ∃ t,u=Value.int i t from rx);cases q;exact PySem.W.kia_one PySem.W.kitx_int I.kIn True.intro e (fun z=>nomatch z) h
 |str y=>obtain⟨t,q⟩:=(show ∃ t,u=Value.str y t from rx);cases q;exact PySem.W.kia_one PySem.W.kitx_str I.kIn True.intro e (fun z=>nomatch z) h
 |flt y=>obtain⟨t,q⟩:=(show ∃ t,u=Value.float y t from rx);cases q;exact PySem.W.kia_one PySem.W.kitx_float I.kIn True.intro e (fun z=>nomatch z) h
 |@lst a xs ea =>
  cases (show u=Value.ref a from rx)
  obtain⟨_,_,n,_,h1⟩:=(show zI X.prog X.w H s.heap a (.lst xs) from I.hok a _ ea)
  exact PySem.W.kia_one PySem.W.kitx_list I.kIn ⟨_,h1,rfl⟩ e (fun z=>nomatch z) h
 |@frz a ob xs ea =>
  cases (show u=Value.ref a from rx)
  obtain⟨_,_,_,n,_,h1⟩:=(show zI X.prog X.w H s.heap a (.frz ob (.lst xs)) from I.hok a _ ea)
  exact PySem.W.kia_one PySem.W.kitx_list I.kIn ⟨_,h1,rfl⟩ e (fun z=>nomatch z) h
 |@tup a xs ea =>
  cases (show u=Value.ref a from rx)
  obtain⟨_,_,_,p⟩:=(show zI X.prog X.w H s.heap a (.tup xs) from I.hok a _ ea)
  obtain⟨o,h1,h2,_⟩:=p
  exact PySem.W.kia_one PySem.W.kitx_tuple I.kIn ⟨o,h1,h2⟩ e (fun z=>nomatch z) h
 |@dK a kvs ea =>
  cases (show u=Value.ref a from rx)
  obtain⟨_,_,vs,_,p⟩:=(show zI X.prog X.w H s.heap a (.dK kvs) from I.hok a _ ea)
  obtain⟨o,es,ep,h1,h2,_⟩:=p
  exact PySem.W.kia_one PySem.W.kitx_dict I.kIn ⟨o,h1,h2.1⟩ e (fun z=>nomatch z) h
 |@dT a kvs ea =>
  cases (show u=Value.ref a from rx)
  obtain⟨_,_,xs,_,o,es,ep,h1,h2,_⟩:=(show zI X.prog X.w H s.heap a (.dT kvs) from I.hok a _ ea)
  exact PySem.W.kia_one PySem.W.kitx_dict I.kIn ⟨o,h1,h2.1⟩ e (fun z=>nomatch z) h
 |@ins a C dx fs ea cl ha hn htk hm =>
  cases (show u=Value.ref a from rx)
  obtain⟨mA,O,_⟩:=UI I.hok ea
  obtain⟨od,J,_⟩:=O.look
  exact PySem.W.kia_one (PySem.W.kitx_own (cl.get _) cl.hd ha hn htk hm) I.kIn J e (fun z=>nomatch z) h
end
end _L
namespace _L
open PySem PySem.Spec PyProof.Rows
structure Room (k:Nat)(A:Around):Prop where
 hd:A.handled=none
 dp:A.depth+3*k+5<recursionLimit
 un:A.units+16*k+200<cLine
 gd:A.guards=some []
theorem Room.deeper {k:Nat}{A:Around}(r:Room (k+1) A)(env:Env):Room k (A.deeper env):=
 ⟨r.hd,by have:=r.dp;show A.depth+1+3*k+5<_;omega,by have:=r.un;show A.units+3+16*k+200<_;omega,r.gd⟩
theorem Room.depth {k:Nat}{A:Around}(r:Room k A):A.depth<recursionLimit:=by have:=r.dp;omega
theorem Room.units {k:Nat}{A:Around}(r:Room k A):A.units+64<cLine:=by have:=r.un;omega
def SW:TA:=fun _ H Q=>Q [] H
section
variable {X:Cx}{e:Expr}{es:List Expr}{te:TE}{t:TA}{pos:Pos}
theorem FD:PA X [] SW:=fun _ _ _ _ H Q I h=>Calls.spliced_nil ⟨[],H,I,.nil,h⟩
def SZ (t:TA):TE:=fun σ H Q=>t σ H fun xs H1=>xs.length≤sizeLine∧∀ p,H1 p=none→Q (.ref p) (upd H1 p (.tup xs))
def SV (t:TA):TE:=fun σ H Q=>t σ H fun xs H1=>xs.length≤sizeLine∧∀ p,H1 p=none→Q (.ref p) (upd H1 p (.lst xs))
theorem FH {x1} (h:PA X es t):PE X (.Tuple es x1 pos) (SZ t):=by
 intro pins s σ H Q I hq
 refine wpAny_Tuple_spliced (thn (h pos pins s σ H _ I hq) fun us s1 ⟨xs,H1,I1,r,z,q⟩=>⟨by rw[← r.length];exact z,?_⟩)
 have hf:H1 s1.heap.objs.size=none:=I1.hok.fresh (Nat.le_refl _)
 refine⟨.ref s1.heap.objs.size,upd H1 s1.heap.objs.size (.tup xs),I1.laid (t':=s1.toks) (fun b u e=>Heap.get?_push_of_some _ e) (Nat.le_refl _) ?_,rfl,q _ hf⟩
 exact⟨z,us,r,⟨_,Heap.get?_push_size _ rfl,rfl,_,rfl⟩⟩
theorem QJ (h:PA X es t):PE X (.List es pos) (SV t):=by
 intro pins s σ H Q I hq
 refine wpAny_List_spliced (thn (h pos pins s σ H _ I hq) fun us s1 ⟨xs,H1,I1,r,z,q⟩=>⟨by rw[← r.length];exact z,?_⟩)
 have hf:H1 s1.heap.objs.size=none:=I1.hok.fresh (Nat.le_refl _)
 refine⟨.ref s1.heap.objs.size,upd H1 s1.heap.objs.size (.lst xs),I1.laid (t':=s1.toks) (fun b u e=>Heap.get?_push_of_some _ e) (Nat.le_refl _) ?_,rfl,q _ hf⟩
 exact⟨z,us,0,r,Heap.get?_push_size _ rfl⟩
end
abbrev Sp:=List V→Hp→VK→XK→Prop
abbrev CXT:=List Env→Hp→Shared→XK→Value→Shared→Prop
structure Env0 (P:Program)(w:World)(K:PySem.W.Frag)(mg:Str→Option Value)(base:Heap)(A:Around)(outer:List Env)(s:Shared)(H:Hp):Prop where
 frames:A.frames=some outer
 mod:Mod K mg base
 bs:∀ b o,base.get? b=some o→s.heap.get? b=some o∧H b=none
 bsz:base.objs.size≤s.heap.objs.size
 funs:s.heap.FunFrames base outer
 frf:∀ b∈frs outer,H b=none
 hok:HOk P w H s.heap
 bare:AllBare s.gens
def CE (outer:List Env)(P:Program)(w:World)(H:Hp)(s:Shared)(Q:VK)(u:Value)(s':Shared):Prop:=
 ∃ v H',s'.os=s.os∧AllBare s'.gens∧Un (frs outer) [] H H' s.heap s'.heap∧HOk P w H' s'.heap∧qJ v u∧Q v H'
def CR (CX:CXT)(outer:List Env)(P:Program)(w:World)(H:Hp)(s:Shared)(Q:VK)(E:XK)(r:Result)(s':Shared):Prop:=
 match r with
 |.ok (.ret u)=>CE outer P w H s Q u s'
 |.ok _=>False
 |.error e=>CX outer H s E e s'
structure FnOk (P:Program)(w:World)(K:PySem.W.Frag)(mg:Str→Option Value)(base:Heap)(CX:CXT)(k:Nat)(f:Addr)(fd:FuncData)(ps:List Str)(sp:Sp):Prop where
 len:∀ vs H Q E,sp vs H Q E→vs.length=ps.length
 run:∀ (A:Around) (outer:List Env) (s:Shared) (H:Hp) (args:Args) (us:List Value) (vs:List V) (Q:VK) (E:XK),Room k A→Env0 P w K mg base A outer s H→BindsTo s fd args (ps.zip us)→qN vs us→sp vs H Q E →
  codeAny (model P w) A (.call (.ref f) args) (CR CX outer P w H s Q E) s
section
variable {X:Cx}{pins:List (Addr × Obj)}{σ : St}{H:Hp}{s s':Shared}
theorem Inv.env0 (I:Inv X pins σ H s):Env0 X.prog X.w X.K X.mg X.base X.A X.stack s H:=
 ⟨I.ok.frames,I.ok.mod,I.bs,Nat.le_trans I.ok.bsz I.sz,I.stack,I.stkFree,I.hok,I.bare⟩
theorem Inv.after {Q:VK}{u:Value}(I:Inv X pins σ H s)(h:CE X.stack X.prog X.w H s Q u s'):EP X pins σ Q u s':=by
 obtain⟨v,H',os,bare,un,hok,r,q⟩:=h
 obtain⟨hh,g,d,t,os'⟩:=s'
 obtain rfl:os'=s.os:=os
 exact⟨v,H',I.call (h':=hh) (g':=g) (d':=d) (t':=t) (ch:=[]) un hok bare (fun b z=>absurd z (by simp)),r,q⟩
end
def uW (K:PySem.W.Frag)(fd:FuncData)(ps:List Str)(ds:List Value):Prop:=
 ∀ (s:Shared) (us:List Value),K.In s.heap→(us++ds).length=ps.length→BindsTo s fd ⟨us,[]⟩ (ps.zip (us++ds))
theorem uW.all {K:PySem.W.Frag}{fd:FuncData}{ps:List Str}(h:∀ us:List Value,us.length=ps.length→bindArgs fd ⟨us,[]⟩=pure (ps.zip us)):uW K fd ps []:=fun s us _ hl=>by
 rw[List.append_nil] at hl ⊢
 exact .of_eq (h us hl)
structure FnScope (N P:List Str)(sc:Scope):Prop where
 kind:sc.kind=.function
 co:sc.isCoroutine=false
 gen:sc.isGenerator=false
 nd:N.Nodup
 pre:N.take P.length=P
 par:∀ x∈P,sc.names.lookup x=some .local ∨ sc.names.lookup x=some .cell
 nofree:∀ y∈sc.names,y.2≠.free
theorem nZ {kindOf:Str→Option NameKind}{x:Str}:∀ {binds:List (Str × Value)} {m:Str→Option Value},(∀ v,(x,v) ∉ binds)→bindL kindOf binds m x=m x
 |[],_,_=>rfl
 |(n,v)::r,m,h=>by
  unfold bindL
  rw[nZ fun w hw=>h w (List.mem_cons_of_mem _ hw)]
  split
  ·have:x≠n:=by rintro rfl;exact h v List.mem_cons_self
   simp[this]
  ·rfl
theorem nX {kindOf:Str→Option NameKind}{x:Str}:∀ {binds:List (Str × Value)} {m:Str→Option Value},(∀ v,(x,v) ∉ binds)→bindC kindOf binds m x=m x
 |[],_,_=>rfl
 |(n,v)::r,m,h=>by
  unfold bindC
  rw[nX fun w hw=>h w (List.mem_cons_of_mem _ hw)]
  split
  ·rfl
  ·have:x≠n:=by rintro rfl;exact h v List.mem_cons_self
   simp[this]
theorem nY {kindOf:Str→Option NameKind}{x:Str}{v:Value}:∀ {P:List Str} {vs:List Value} {i:Nat} {m:Str→Option Value},P.Nodup→P[i]? = some x→vs[i]? = some v→kindOf x=some .local →
  bindL kindOf (P.zip vs) m x=some v
 |[],_,_,_,_,h,_,_=>by simp at h
 |_::_,[],_,_,_,_,h,_=>by simp at h
 |p::P,w::vs,0,m,nd,h1,h2,hk=>by
  simp at h1 h2;subst h1;subst h2
  show bindL kindOf ((p,w)::P.zip vs) m p=_
  unfold bindL
  rw[nZ fun v hv=>(List.nodup_cons.mp nd).1 (List.of_mem_zip hv).1,if_pos hk]
  simp
 |p::P,w::vs,i+1,m,nd,h1,h2,hk=>by
  show bindL kindOf ((p,w)::P.zip vs) m x=_
  unfold bindL
  exact nY (i:=i) (List.nodup_cons.mp nd).2 (by simpa using h1) (by simpa using h2) hk
theorem nW {kindOf:Str→Option NameKind}{x:Str}{v:Value}:∀ {P:List Str} {vs:List Value} {i:Nat} {m:Str→Option Value},P.Nodup→P[i]? = some x→vs[i]? = some v→kindOf x≠some .local →
  bindC kindOf (P.zip vs) m x=some v
 |[],_,_,_,_,h,_,_=>by simp at h
 |_::_,[],_,_,_,_,h,_=>by simp at h
 |p::P,w::vs,0,m,nd,h1,h2,hk=>by
  simp at h1 h2;subst h1;subst h2
  show bindC kindOf ((p,w)::P.zip vs) m p=_
  unfold bindC
  rw[nX fun v hv=>(List.nodup_cons.mp nd).1 (List.of_mem_zip hv).1,if_neg hk]
  simp
 |p::P,w::vs,i+1,m,nd,h1,h2,hk=>by
  show bindC kindOf ((p,w)::P.zip vs) m x=_
  unfold bindC
  exact nW (i:=i) (List.nodup_cons.mp nd).2 (by simpa using h1) (by simpa using h2) hk
def wM (N:List Str)(vs:List V):St:=vs.map some++List.replicate (N.length-vs.length) none
def tK (CX:CXT)(P:Program)(w:World)(K:PySem.W.Frag)(mg:Str→Option Value)(base:Heap)(N:List Str)(qual:Str)(scope:Scope)(f:Addr)(cd:Value)(A:Around)(outer:List Env)(s:Shared)(H:Hp)(E:XK):Cx where
 prog:=P
 w:=w
 K:=K
 mg:=mg
 base:=base
 A:=A.deeper (envOfC qual scope s.heap.objs.size f cd)
 N:=N
 s₀:=s
 H₀:=H
 env:=envOfC qual scope s.heap.objs.size f cd
 outer:=outer
 stack:=envOfC qual scope s.heap.objs.size f cd::outer
 ex:=[]
 calm:=true
 fn:=fun _=>true
 pn:=[]
 xe:=fun e s'=>wpAny (model P w) (A.deeper (envOfC qual scope s.heap.objs.size f cd)) (leaving (envOfC qual scope s.heap.objs.size f cd) e) (fun _ s''=>CX outer H s E e s'') (fun e' s''=>CX outer H s E e' s'') s'
theorem dS {sc:Scope}{n:Nat}{x:Str}(h:sc.names.lookup x=some .cell):∃ c,(cellsFrom n sc.names []).lookup x=some c:=by
 have q:=PySem.W.cellsFrom_some sc.names n [] (.inl h)
 exact Option.isSome_iff_exists.mp q
theorem lD {CX:CXT}{P:Program}{w:World}{K:PySem.W.Frag}{mg:Str→Option Value}{base:Heap}{N ps:List Str}{qual:Str}{scope:Scope}{f:Addr}{cd:Value}{A:Around}{outer:List Env}{s s1:Shared}{H:Hp}{E:XK}{us:List Value}{vs:List V}
  (S:FnScope N ps scope) (hd:A.handled=none) (e0:Env0 P w K mg base A outer s H) (hl:vs.length=ps.length) (r:qN vs us)
  (x:InCallC s s.heap.objs.size (bindL (envOfC qual scope s.heap.objs.size f cd).kindOf (ps.zip us) fun _=>none) (cellsFrom (s.heap.objs.size+1) scope.names []) (bindC (envOfC qual scope s.heap.objs.size f cd).kindOf (ps.zip us) fun _=>none) s1) :
  Inv (tK CX P w K mg base N qual scope f cd A outer s H E) [] (wM N vs) H s1:=by
 have hpl:ps.length≤N.length:=by have:=congrArg List.length S.pre;rw[List.length_take] at this;omega
 obtain⟨h1,tk,rfl,hk⟩:=x.done
 have noA:∀ b:Addr,b ∉ (tK CX P w K mg base N qual scope f cd A outer s H E).ex:=fun b z=>absurd (show b∈([]:List Addr) from z) (by simp)
 refine⟨⟨e0.mod,S.kind,rfl,rfl,Nat.le_refl _,fun y z c h1 h2=>?_,fun y hy=>?_,fun y c _ h=>?_,fun _=>hd,Around.frames_deeper e0.frames,.inr ⟨rfl,rfl⟩,fun b z=>absurd z (noA b),e0.bs,e0.bsz,fun b _ _=>noA b,fun b z=>absurd z (noA b),e0.funs,e0.frf⟩,
  rfl,e0.bare,Un.kept hk,⟨_,x.toInCall.ns,fun i y v h1 h2 h3=>?_⟩,fun y c h=>⟨_,x.cell y c h⟩,e0.hok.fresh (Nat.le_refl _),fun y c h=>?_,fun p hp=>absurd (show p∈([]:List (Addr × Obj)) from hp) (by simp),e0.hok.kept hk,?_⟩
 ·exact name_of_addr x.apart (PySem.mem_of_lookup h1) (PySem.mem_of_lookup h2)
 ·have hy:scope.names.lookup y=some .cell∨scope.names.lookup y=some .free:=hy
  rcases hy with hy|hy
  ·exact dS hy
  ·exact absurd rfl (S.nofree _ (PySem.mem_of_lookup hy))
 ·exact Nat.le_of_lt (x.above y c (PySem.mem_of_lookup h))
 ·have hi:i<vs.length:=by
   unfold wM at h2
   by_cases hi:i<vs.length
   ·exact hi
   ·rw[List.getElem?_append_right (by simpa using hi)] at h2
    rw[List.getElem?_replicate] at h2
    split at h2 <;> cases h2
  have ha:vs[i]? = some v:=by
   unfold wM at h2
   rw[List.getElem?_append_left (by simpa using hi),List.getElem?_map] at h2
   cases e:vs[i]? with
   |none=>rw[e] at h2;cases h2
   |some a=>rw[e] at h2;cases h2;rfl
  obtain⟨u,hu,rv⟩:=r.get ha
  have hp:ps[i]? = some y:=by
   rw[← S.pre,List.getElem?_take_of_lt (by omega)];exact h1
  have ndP:ps.Nodup:=by rw[← S.pre];exact S.nd.sublist (List.take_sublist _ _)
  refine⟨u,rv,?_⟩
  rcases S.par y (List.mem_of_getElem? hp) with k|k
  ·exact .inl ⟨k,nY ndP hp hu k⟩
  ·obtain⟨c,e⟩:=dS (n:=s.heap.objs.size+1) k
   refine .inr ⟨.inl k,c,e,?_⟩
   have q:=x.cell y c e
   rw[nW ndP hp hu (by show scope.names.lookup y≠_;rw[k];decide)] at q
   exact q
 ·exact e0.hok.fresh (Nat.le_of_lt (x.above y c (PySem.mem_of_lookup h)))
 ·unfold wM
  show _=N.length
  rw[List.length_append,List.length_map,List.length_replicate]
  omega
theorem NB {CX:CXT}{P:Program}{w:World}{K:PySem.W.Frag}{mg:Str→Option Value}{base:Heap}{k:Nat}{f:Addr}{name qual:Str}{params:Arguments}{body:List Stmt}{scope:Scope}{dV kV doc pm cdv ct oc:Value}{an od:Option Addr}
  {osl:Array (Option Value)} {N ps:List Str} {sp:Sp} (lk:K.lookup f=some ⟨oc,od,.func (PySem.W.fnOf name qual params body scope dV kV doc pm an cdv ct),osl⟩) (hcd:PySem.W.codeIn K cdv qual=true) (S:FnScope N ps scope)
  (len:∀ vs H Q E,sp vs H Q E→vs.length=ps.length)
  (hbody:∀ (A:Around) (outer:List Env) (s:Shared) (H:Hp) (vs:List V) (Q:VK) (E:XK),Room k (A.deeper (envOfC qual scope s.heap.objs.size f cdv))→sp vs H Q E →
   ∃ t,PSs (tK CX P w K mg base N qual scope f cdv A outer s H E) body t∧t { nx:=fun _ H'=>Q .non H',rt:=Q } (wM N vs) H) :
  FnOk P w K mg base CX (k+1) f (PySem.W.fnOf name qual params body scope dV kV doc pm an cdv ct) ps sp:=by
 refine⟨len,fun A outer s H args us vs Q E hr e0 hb r hsp=>?_⟩
 have hl:=len _ _ _ _ hsp
 have KX:K.In s.heap:=e0.mod.kin.keeps fun b o e=>(e0.bs b o e).1
 have lim:s.heap.NoLimit:=e0.mod.nolimit.keeps fun b o e=>(e0.bs b o e).1
 have hkind:∀ y∈ps.zip us,scope.names.lookup y.1=some .local ∨ (scope.names.lookup y.1=some .cell∧((cellsFrom (s.heap.objs.size+1) scope.names []).lookup y.1).isSome=true):=fun ⟨n,v⟩ hy=>by
  rcases S.par n (List.of_mem_zip hy).1 with q|q
  ·exact .inl q
  ·exact .inr ⟨q,PySem.W.cellsFrom_some _ _ _ (.inl q)⟩
 refine codeAny_call_function hr.depth (KX _ _ lk) rfl S.co S.gen rfl (PySem.W.codeRec_of KX hcd) (hb _ _ _ _ ?_)
 refine wpAny_newFunctionEnv_cells S.kind hkind fun env he s1 x=>?_
 subst he
 refine⟨lim.keeps x.toInCall.keep,codeAny_func ?_⟩
 obtain⟨t,ht,hq⟩:=hbody A outer s H vs Q E (hr.deeper _) hsp
 have I:Inv (tK CX P w K mg base N qual scope f cdv A outer s H E) [] (wM N vs) H s1:=lD S hr.hd e0 hl r x
 refine wpAny_mono (ht [] s1 (wM N vs) H _ I hq) (fun fl s' hs=>?_) fun e s' hs=>hs
 have fin:∀ {σ' : St} {H':Hp} {v:V} {u:Value},Inv (tK CX P w K mg base N qual scope f cdv A outer s H E) [] σ' H' s'→qJ v u→Q v H'→CE outer P w H s Q u s':=
  fun {σ' H' v u} J rv q=>⟨v,H',J.os,J.bare,J.base,J.hok,rv,q⟩
 cases fl with
 |ret u =>
  obtain⟨v,σ',H',J,rv,q⟩:=hs
  exact fin J rv q
 |next =>
  obtain⟨σ',H',J,q⟩:=hs
  exact fin (v:=V.non) (u:=Value.none) J rfl q
 |brk =>
  obtain⟨_,_,_,q⟩:=hs
  exact False.elim q
 |cont =>
  obtain⟨_,_,_,q⟩:=hs
  exact False.elim q
end _L
namespace _H
open PySem PyProof.Rows
def lexLt:List Int→List Int→Bool
 |[],[]=>false
 |[],_::_=>true
 |_::_,[]=>false
 |x::xs,y::ys=>if x=y then lexLt xs ys else decide (x<y)
theorem lexLt_cons (x y:Int)(xs ys:List Int):lexLt (x::xs) (y::ys)=if x=y then lexLt xs ys else decide (x<y):=rfl
theorem lexLt_nil_nil:lexLt [] []=false:=rfl
theorem n8 (y:Int)(ys:List Int):lexLt [] (y::ys)=true:=rfl
theorem n6 (x:Int)(xs:List Int):lexLt (x::xs) [] = false:=rfl
theorem XH (A:Around)(s:Shared)(a:Int)(t:Tok)(c:Int)(u:Tok):∃ e,SeqAt.EqAt A s (.int a t) (.int c u) e∧(e=true↔a=c):=
 ⟨(a == c),SeqAt.EqAt.int_int a t c u,by simp⟩
theorem WW (A:Around)(s:Shared)(a:Int)(t:Tok)(c:Int)(u:Tok)(prog:Program)(w:World)(E:Value→Shared→Prop)(Q:Value→Shared→Prop)(h:Q (.bool (decide (a<c))) s) :
  wpAny (model prog w) A (richCompare .Lt (.int a t) (.int c u)) Q E s:=
 (PyProof.Rows.lt_int h:wpAny (model prog w) A (compareOp .Lt (.int a t) (.int c u)) Q E s)
section
open PySem.SeqAt
open PySem.AutoSeq1 (wpAny_loadPart')
open PySem.MeetsSeq PySem.MeetsSeq2 PySem.MeetsSeq3
theorem d0 (l b:Addr)(items items2:Array Value)(n n2:Nat)(dd dd2:Option Addr)(sl sl2:Array (Option Value))(ns ms:List Int)(hi:IntsAre items.toList ns)(hj:IntsAre items2.toList ms) :
  Meets (Builtin.«tuple.__lt__» ⟨[.ref l,.ref b],[]⟩)
   (fun _ R s=>s.heap.get? l=some { cls:=.type "tuple",dict:=dd,data:=.seq items n,slots:=sl } ∧ s.heap.get? b=some { cls:=.type "tuple",dict:=dd2,data:=.seq items2 n2,slots:=sl2 } ∧
    R (.ok (.ret (.bool (lexLt ns ms)))) s):=
 .of_wp fun prog w A R s h=>by
  obtain⟨hp,g,d,tk,os⟩:=s;obtain⟨hl,hb,h⟩:=h
  have f2:=AutoSeq1.sub_tuple_tuple
  have z1:items.size=ns.length:=by rw[← hi.length];simp
  have z2:items2.size=ms.length:=by rw[← hj.length];simp
  wp_walk using wpAny_loadPart' hl,wpAny_loadPart' hb,wpAny_forIn_list _ (fun rest b s'=>b.1=none∧s'=⟨hp,g,d,tk,os⟩∧∃ (vs ws:List Value) (ns' ms':List Int),rest=vs.zip ws ∧
   IntsAre vs ns'∧IntsAre ws ms'∧ns'.length+items2.size=ms'.length+items.size∧R (.ok (.ret (.bool (lexLt ns' ms')))) ⟨hp,g,d,tk,os⟩) _
  case turn =>
   rintro⟨y,x⟩ rest b s' ⟨hb',rfl,vs,ws,ns',ms',hz,hvi,hwi,hlen,hR⟩
   cases hvi with
   |nil=>rw[List.zip_nil_left] at hz;cases hz
   |cons a t hvi' =>
    cases hwi with
    |nil=>rw[List.zip_nil_right] at hz;cases hz
    |cons c u hwi' =>
     rw[List.zip_cons_cons] at hz
     injection hz with hyx hrest
     injection hyx with hy hx
     subst hy hx
     rw[lexLt_cons] at hR
     simp only[List.length_cons] at hlen
     obtain⟨e,he,hiff⟩:=XH A.in1 ⟨hp,g,d,tk,os⟩ a t c u
     refine wpAny_bind (he prog w _ _ ?_)
     cases e with
     |true =>
      rw[if_pos (hiff.mp rfl)] at hR
      wp_walk
      exact⟨rfl,rfl,_,_,_,_,hrest,hvi',hwi',by omega,hR⟩
     |false =>
      rw[if_neg (fun q=>absurd (hiff.mpr q) Bool.false_ne_true)] at hR
      have hri:=WW A.in1 ⟨hp,g,d,tk,os⟩ a t c u prog w
      wp_walk using hri
      exact⟨_,rfl,by simpa using hR⟩
  case fin =>
   rintro⟨b1,b2⟩ s' ⟨hb',rfl,vs,ws,ns',ms',hz,hvi,hwi,hlen,hR⟩
   simp only at hb'
   subst hb'
   have hv:lexLt ns' ms'=decide (items.size<items2.size):=by
    cases hvi with
    |nil =>
     cases hwi with
     |nil =>
      simp only[List.length_nil] at hlen
      rw[lexLt_nil_nil]
      exact(decide_eq_false (by omega)).symm
     |cons c u hw =>
      simp only[List.length_nil,List.length_cons] at hlen
      rw[n8]
      exact(decide_eq_true (by omega)).symm
    |cons a t hv =>
     cases hwi with
     |nil =>
      simp only[List.length_nil,List.length_cons] at hlen
      rw[n6]
      exact(decide_eq_false (by omega)).symm
     |cons c u hw =>
      rw[List.zip_cons_cons] at hz
      cases hz
   rw[hv] at hR
   wp_walk
   exact⟨_,rfl,by simpa [Builtin.Tuple.tupleCompareSizes] using hR⟩
  case h =>
   exact⟨rfl,rfl,items.toList,items2.toList,ns,ms,rfl,hi,hj,by omega,h⟩
end
section
variable {prog:Program}{w:World}{A:Around}{E:Value→Shared→Prop}{s:Shared}
theorem lt_tupInts {l b:Addr}{items items2:Array Value}{ns ms:List Int}{Q:Value→Shared→Prop}(hl:IsTup s.heap l items)(hb:IsTup s.heap b items2)(hi:IntsAre items.toList ns)(hj:IntsAre items2.toList ms)
  (hu:A.units<cLine) (h:Q (.bool (lexLt ns ms)) s):wpAny (model prog w) A (compareOp .Lt (.ref l) (.ref b)) Q E s:=by
 obtain⟨⟨cls,dd,data,sl⟩,ho,hc,n,hd⟩:=id hl
 obtain⟨⟨cls2,dd2,data2,sl2⟩,ho2,hc2,n2,hd2⟩:=id hb
 simp only at hc hd hc2 hd2
 subst hc hd hc2 hd2
 exact richCompare_meets_room (op:=.Lt) ⟨_,ho,rfl⟩ ⟨_,ho2,rfl⟩ PySem.F.slot_tuple_lt PySem.F.entry_tuple_lt (PySem.F.args_tuple_lt_2 _ _) (d0 l b items items2 n n2 dd dd2 sl sl2 ns ms hi hj)
  ⟨ho,ho2,show Value.bool (lexLt ns ms)≠Value.notImplemented∧Q (.bool (lexLt ns ms)) s from⟨(fun x=>nomatch x),h⟩⟩ hu
theorem cat_tup {t b:Addr}{vs ws:List Value}{Q:Value→Shared→Prop}(ht:IsTup s.heap t vs.toArray)(hb:IsTup s.heap b ws.toArray)(hv:vs≠[])
  (h1:ws=[]→Q (.ref t) s) (h2:ws≠[]→Q (.ref s.heap.objs.size) { s with heap:=s.heap.push { cls:=.type "tuple",data:=.seq (vs++ws).toArray } })
  (hsz:vs.length+ws.length≤sizeLine):wpAny (model prog w) A (binaryOp .Add (.ref t) (.ref b)) Q E s:=by
 obtain⟨⟨cls,dd,data,sl⟩,ho,hc,n,hd⟩:=id ht
 obtain⟨⟨cls2,dd2,data2,sl2⟩,ho2,hc2,n2,hd2⟩:=id hb
 simp only at hc hd hc2 hd2
 subst hc hd hc2 hd2
 have e:vs.toArray++ws.toArray=(vs++ws).toArray:=by simp
 by_cases hw:ws=[]
 ·exact concat_meets ⟨_,ho,rfl⟩ ⟨_,ho2,rfl⟩ noFill_tuple_add seq_tuple_add PySem.F.slot_tuple_add PySem.F.entry_tuple_add (PySem.F.args_tuple_add_2 _ _)
   (tuple_addW1 t b vs.toArray ws.toArray n n2 dd dd2 sl sl2 (by simpa using hv) (by simp[hw])) ⟨ho,ho2,h1 hw⟩
 ·refine concat_meets ⟨_,ho,rfl⟩ ⟨_,ho2,rfl⟩ noFill_tuple_add seq_tuple_add PySem.F.slot_tuple_add PySem.F.entry_tuple_add (PySem.F.args_tuple_add_2 _ _)
   (tuple_addW2 t b vs.toArray ws.toArray n n2 dd dd2 sl sl2 (by simpa using hv) (by simpa using hw) (by rw[List.size_toArray,List.size_toArray];exact hsz)) ⟨ho,ho2,?_⟩
  rw[e]
  exact h2 hw
def sIx (n d:Nat):Option Int→Nat
 |none=>d
 |some v=>if v<0 then (v+(n:Int)).toNat else min v.toNat n
theorem sIx_none (n d:Nat):sIx n d none=d:=rfl
theorem sIx_nat (n d k:Nat):sIx n d (some (k:Int))=min k n:=by
 show (if (k:Int)<0 then ((k:Int)+(n:Int)).toNat else min (k:Int).toNat n)=min k n
 rw[if_neg (by omega),Int.toNat_natCast]
theorem MP (n d:Nat)(hd:d≤n)(o:Option Int):sIx n d o≤n:=by
 cases o with
 |none=>exact hd
 |some v =>
  show (if v<0 then (v+(n:Int)).toNat else min v.toNat n)≤n
  by_cases hv:v<0
  ·rw[if_pos hv];omega
  ·rw[if_neg hv];exact Nat.min_le_right _ _
theorem eJ (v:Int)(n d:Nat):(if v<0 then max (v+(n:Int)) 0 else min v (n:Int))=((sIx n d (some v):Nat):Int):=by
 show (if v<0 then max (v+(n:Int)) 0 else min v (n:Int))=(((if v<0 then (v+(n:Int)).toNat else min v.toNat n):Nat):Int)
 by_cases hv:v<0
 ·simp only[if_pos hv];omega
 ·simp only[if_neg hv];omega
theorem aF (lo hi:Option Int)(n:Nat):Builtin.Slice.sliceAdjust lo hi 1 (n:Int)=(((sIx n 0 lo:Nat):Int),((sIx n n hi:Nat):Int)):=by
 have h1:¬ ((1:Int)<0):=by omega
 unfold Builtin.Slice.sliceAdjust
 simp only[h1,if_false]
 refine Prod.ext ?_ ?_
 ·cases lo with
  |none=>rfl
  |some v=>exact eJ v n 0
 ·cases hi with
  |none=>rfl
  |some v=>exact eJ v n n
theorem iF (i j:Nat):Builtin.Slice.slicePlaces (i:Int) (j:Int) 1=j-i:=by
 unfold Builtin.Slice.slicePlaces
 have h1:(1:Int)>0:=by omega
 simp only[h1,if_true,Int.ediv_one]
 split <;> omega
theorem mX {v:Value}{o:Option Int}{Q:Option Int→Shared→Prop}(p:IsPart v o)(h:Q o s):wpAny (model prog w) A (Builtin.Slice.slicePartIndex v) Q E s:=by
 cases p with
 |none=>exact slicePart_none h
 |int i t=>exact slicePart_int h
theorem jQ {sl:Addr}{vl vu:Value}{lo hi:Option Int}{n:Nat}{Q:Int × Int × Nat→Shared→Prop}(hs:s.heap.IsSliceOf sl vl vu .none)(pl:IsPart vl lo)(pu:IsPart vu hi)
  (h:Q (((sIx n 0 lo:Nat):Int),1,sIx n n hi-sIx n 0 lo) s):wpAny (model prog w) A (Builtin.Slice.sliceApplied (.ref sl) (pure (n:Int))) Q E s:=by
 obtain⟨os,hos,hcs,hds⟩:=id hs
 unfold Builtin.Slice.sliceApplied Builtin.Slice.sliceFields
 refine wpAny_bind (wpAny_bind (wpAny_field hos hds (x:=vl) rfl (wpAny_bind (wpAny_field hos hds (x:=vu) rfl (wpAny_bind (wpAny_field hos hds (x:=.none) rfl (wpAny_pure ?_)))))))
 refine wpAny_bind (slicePart_none ?_)
 show wpAny _ _ (if ((1:Int) == 0)=true then _ else _) _ _ s
 rw[if_neg (by decide)]
 refine wpAny_bind (mX pl (wpAny_bind (mX pu (wpAny_bind (wpAny_pure ?_)))))
 show wpAny _ _ (match Builtin.Slice.sliceAdjust lo hi 1 (n:Int) with|(lo,hi)=>pure (lo,(1:Int),Builtin.Slice.slicePlaces lo hi 1)) _ _ s
 rw[aF lo hi n]
 show wpAny _ _ (pure (((sIx n 0 lo:Nat):Int),(1:Int),Builtin.Slice.slicePlaces ((sIx n 0 lo:Nat):Int) ((sIx n n hi:Nat):Int) 1)) _ _ s
 rw[iF]
 exact wpAny_pure h
theorem WE (xs:Array Value)(i k:Nat):((List.range k).filterMap fun (m:Nat)=>xs[((i:Int)+(m:Int)*1).toNat]?).toArray=((xs.toList.drop i).take k).toArray:=by
 have e:(fun (m:Nat)=>xs[((i:Int)+(m:Int)*1).toNat]?)=fun m=>xs[i+m]?:=by
  funext m
  have:((i:Int)+(m:Int)*1).toNat=i+m:=by omega
  rw[this]
 rw[e]
 have:=pick_run xs i k
 rw[List.filterMap_map] at this
 have e2:((fun x=>xs[x]?)∘fun x=>i+x)=fun m=>xs[i+m]?:=rfl
 rw[e2] at this
 rw[this]
theorem getItem_tuple_cut {t sl:Addr}{items:Array Value}{vl vu:Value}{lo hi:Option Int}{Q:Value→Shared→Prop}(ht:IsTup s.heap t items)(hs:s.heap.IsSliceOf sl vl vu .none)(pl:IsPart vl lo)(pu:IsPart vu hi)
  (hw:¬ (sIx items.size 0 lo=0∧sIx items.size items.size hi=items.size))
  (h:Q (.ref s.heap.objs.size) { s with heap:=s.heap.push { cls:=.type "tuple",data:=.seq ((items.toList.drop (sIx items.size 0 lo)).take (sIx items.size items.size hi-sIx items.size 0 lo)).toArray } })
  (hsz:items.size≤sizeLine):wpAny (model prog w) A (getItem (.ref t) (.ref sl)) Q E s:=by
 have htake:sizeOk (.seq ((items.toList.drop (sIx items.size 0 lo)).take (sIx items.size items.size hi-sIx items.size 0 lo)).toArray):=by
  show ((items.toList.drop (sIx items.size 0 lo)).take (sIx items.size items.size hi-sIx items.size 0 lo)).toArray.size≤sizeLine
  rw[List.size_toArray,List.length_take,List.length_drop,Array.length_toList]
  omega
 have hj:sIx items.size items.size hi≤items.size:=MP _ _ (Nat.le_refl _) hi
 obtain⟨os,hos,hcs,hds⟩:=id hs
 have hTs:s.TypeIs (.ref sl) "slice":=⟨os,hos,hcs⟩
 unfold getItem
 try with_reducible refine wpAny_holding ?_
 first|refine wpAny_bind (wpAny_pure ?_)|skip
 refine wpAny_bind (wpAny_sequenceKey ht.typeIs (by decide) ?_)
 refine wpAny_bind (wpAny_callSpecial?_slot (name:=Str.ofString "__getitem__") ht.typeIs PyProof.Rows.slot_tuple_getitem
  (wpAny_call_entry PyProof.Rows.slot_tuple_getitem ht.typeIs entry_tuple_getitem ?_ (args_tuple_getitem _ _)))
 show wpAny _ _ (Builtin.Tuple.tupleItemsOf (.ref t) >>= _) _ _ s
 refine wpAny_bind (tupleItemsOf_ ht ?_)
 refine wpAny_bind (wpAny_typeOf hTs ?_)
 rw[if_pos (by decide)]
 refine wpAny_bind (jQ hs pl pu ?_)
 have hno:¬ ((((sIx items.size 0 lo:Nat):Int) == 0&&(1:Int) == 1&&(sIx items.size items.size hi-sIx items.size 0 lo) == items.size)=true):=by
  intro q
  rw[Bool.and_eq_true,Bool.and_eq_true] at q
  have q1:((sIx items.size 0 lo:Nat):Int)=0:=eq_of_beq q.1.1
  have q2:sIx items.size items.size hi-sIx items.size 0 lo=items.size:=eq_of_beq q.2
  exact hw ⟨by omega,by omega⟩
 show wpAny _ _ (if (((sIx items.size 0 lo:Nat):Int) == 0&&(1:Int) == 1&&(sIx items.size items.size hi-sIx items.size 0 lo) == items.size)=true then _ else _) _ _ s
 rw[if_neg hno,WE]
 first
  |exact wpAny_bind (m:=Builtin.Tuple.tupleExact _) (wpAny_newObj_type (wpAny_pure ⟨_,rfl,wpAny_pure h⟩) htake)
  |exact wpAny_bind (m:=Builtin.Tuple.tupleExact _) (wpAny_newObj_type (wpAny_bind (wpAny_pure (wpAny_pure ⟨_,rfl,wpAny_pure h⟩))) htake)
  |exact wpAny_bind (wpAny_bind (m:=Builtin.Tuple.tupleExact _) (wpAny_newObj_type (wpAny_pure (wpAny_pure ⟨_,rfl,wpAny_pure h⟩)) htake))
  |exact wpAny_bind (wpAny_bind (m:=Builtin.Tuple.tupleExact _) (wpAny_newObj_type (wpAny_pure ⟨_,rfl,wpAny_pure h⟩) htake))
end
end _H
namespace _L
open PySem PySem.Spec PyProof.Rows
abbrev TO:=St→Hp→(Option Int→Hp→Prop)→Prop
def PO (X:Cx)(e:Option Expr)(t:TO):Prop:=
 ∀ (pins:List (Addr × Obj)) (s:Shared) (σ : St) (H:Hp) (Q:Option Int→Hp→Prop),Inv X pins σ H s→t σ H Q →
  wpAny (model X.prog X.w) X.A (evalPart e X.env) (fun u s'=>∃ o H',Inv X pins σ H' s'∧IsPart u o∧Q o H') X.xe s
def KF:TO:=fun _ H Q=>Q none H
def LP (t:TE):TO:=fun σ H Q=>t σ H fun x H1=>∃ i,x=.int i∧Q (some i) H1
theorem vM {ns:List Int}:∀ {us:List Value},qN (ns.map V.int) us→IntsAre us ns:=by
 induction ns with
 |nil=>intro us r;rw[List.map_nil] at r;cases r;exact .nil
 |cons n ns ih =>
  intro us r
  rw[List.map_cons] at r
  cases r with
  |cons r1 r2 =>
   obtain⟨t,e⟩:=r1
   subst e
   exact .cons n t (ih r2)
section
variable {X:Cx}{e:Expr}{te:TE}{lo hi:Option Expr}{tl th:TO}{pos p2:Pos}
theorem JK:PO X none KF:=by
 intro pins s σ H Q I h
 rw[evalPart_none]
 exact wpAny_pure ⟨none,H,I,.none,h⟩
theorem JL (h:PE X e te):PO X (some e) (LP te):=by
 intro pins s σ H Q I hw
 rw[evalPart_some]
 refine thn (h pins s σ H _ I hw) fun u s1 ⟨x,H1,I1,r1,q1⟩=>?_
 obtain⟨i,rfl,q⟩:=q1
 obtain⟨t,rfl⟩:=r1
 exact⟨some i,H1,I1,.int i t,q⟩
def SlR (X:Cx)(r:V→Option Int→Option Int→Hp→VK→Prop):Prop:=
 ∀ (pins:List (Addr × Obj)) (s:Shared) (σ : St) (H:Hp) (x:V) (v vl vu:Value) (lo hi:Option Int) (sl:Addr) (Q:VK),Inv X pins σ H s→qJ x v→s.heap.IsSliceOf sl vl vu .none→IsPart vl lo→IsPart vu hi→r x lo hi H Q →
  ∃ T id,typeLookup (.type T) "__getitem__" = pure (some (.builtin id))∧s.TypeIs v T∧wpAny (model X.prog X.w) X.A (getItem v (.ref sl)) (EP X pins σ Q) X.xe s
theorem SlR.or {r r':V→Option Int→Option Int→Hp→VK→Prop}(h:SlR X r)(h':SlR X r'):SlR X (fun x lo hi H Q=>r x lo hi H Q∨r' x lo hi H Q):=by
 intro pins s σ H x v vl vu lo hi sl Q I rx hs pl pu q
 rcases q with q|q
 ·exact h pins s σ H x v vl vu lo hi sl Q I rx hs pl pu q
 ·exact h' pins s σ H x v vl vu lo hi sl Q I rx hs pl pu q
def tSl (r:V→Option Int→Option Int→Hp→VK→Prop)(te:TE)(tl th:TO):TE:=fun σ H Q=>te σ H fun x H1=>tl σ H1 fun l H2=>th σ H2 fun u H3=>r x l u H3 Q
theorem WB {r:V→Option Int→Option Int→Hp→VK→Prop}(hr:SlR X r)(he:PE X e te)(hl:PO X lo tl)(hu:PO X hi th):PE X (.Subscript e (.Slice lo hi none p2) pos) (tSl r te tl th):=by
 intro pins s σ H Q I h
 refine Subscript_ (thn (he pins s σ H _ I h) fun v s1 ⟨x,H1,I1,r1,q1⟩=>?_)
 refine wpAny_Slice (thn (hl pins s1 σ H1 _ I1 q1) fun vl s2 ⟨l,H2,I2,pl,q2⟩=>thn (hu pins s2 σ H2 _ I2 q2) fun vu s3 ⟨u,H3,I3,pu,q3⟩=>?_)
 rw[evalPart_none]
 refine wpAny_pure ?_
 have I4:Inv X pins σ H3 { s3 with heap:=s3.heap.push { cls:=.type "slice",data:=.fields #[vl,vu,.none] } }:=I3.kept (t':=s3.toks) fun b ob q=>Heap.get?_push_of_some _ q
 obtain⟨T,id,hT,ht,hg⟩:=hr pins { s3 with heap:=s3.heap.push { cls:=.type "slice",data:=.fields #[vl,vu,.none] } } σ H3 x v vl vu l u s3.heap.objs.size Q I4 r1 (Heap.IsSliceOf.new ..) pl pu q3
 show wpAny (model X.prog X.w) X.A (subscriptTail e (.Slice lo hi none p2) v (.ref s3.heap.objs.size)) (EP X pins σ Q) X.xe { s3 with heap:=s3.heap.push { cls:=.type "slice",data:=.fields #[vl,vu,.none] } }
 exact tail_any (ops:=[.ref s3.heap.objs.size,v]) ht hT hg (by with_unfolding_all rfl)
def pE (xs:List V)(lo hi:Option Int):List V:=(xs.drop (_H.sIx xs.length 0 lo)).take (_H.sIx xs.length xs.length hi-_H.sIx xs.length 0 lo)
theorem bT (xs:List V)(lo hi:Option Int):(pE xs lo hi).length≤xs.length:=by
 unfold pE
 rw[List.length_take,List.length_drop]
 omega
def SR (K:PySem.W.Frag):V→Option Int→Option Int→Hp→VK→Prop:=fun x lo hi H Q=>∃ a xs,x=.ref a∧SqT K H a xs ∧
 ¬ (_H.sIx xs.length 0 lo=0∧_H.sIx xs.length xs.length hi=xs.length)∧∀ p,H p=none→Q (.ref p) (upd H p (.tup (pE xs lo hi)))
theorem MT:SlR X (SR X.K):=by
 intro pins s σ H x v vl vu lo hi sl Q I rx hs pl pu h
 obtain⟨a,xs,rfl,hx,hw,q⟩:=h
 cases rx
 obtain⟨its,r,ht,hz⟩:=I.tuple hx
 have hlen:its.toArray.size=xs.length:=by rw[List.size_toArray];exact r.length.symm
 refine⟨"tuple",_,PyProof.Rows.slot_tuple_getitem.lookup,ht.typeIs,?_⟩
 refine _H.getItem_tuple_cut ht hs pl pu (by rw[hlen];exact hw) ?_ (by rw[hlen];exact hz)
 rw[hlen]
 refine⟨.ref s.heap.objs.size,_,I.laid (t':=s.toks) (o:=.tup (pE xs lo hi)) (fun b ob q=>Heap.get?_push_of_some _ q) (Nat.le_refl _) ?_,rfl,q _ (I.hok.fresh (Nat.le_refl _))⟩
 exact⟨Nat.le_trans (bT xs lo hi) hz,_,(r.drop (_H.sIx xs.length 0 lo)).take (_H.sIx xs.length xs.length hi-_H.sIx xs.length 0 lo),IsTup.new _ _⟩
end
end _L
namespace _L
open PySem PySem.Spec PyProof.Rows
def ixN (n:Nat)(i:Int):Option Nat:=if 0≤i then (if i<n then some i.toNat else none) else if -(n:Int)≤i then some (i+n).toNat else none
def atI {α : Type}(xs:List α)(i:Int):Option α:=(ixN xs.length i).bind fun j=>xs[j]?
theorem eZ {n:Nat}{i:Int}{j:Nat}(h:ixN n i=some j):seqIndex? i n=some j∧j<n ∧ -(n:Int)≤i∧i<n:=by
 unfold ixN at h
 by_cases h0:0≤i
 ·rw[if_pos h0] at h
  by_cases h1:i<n
  ·rw[if_pos h1] at h
   have e:i.toNat=j:=Option.some.inj h
   exact⟨by rw[seqIndex_of h0 h1,e],by omega,by omega,h1⟩
  ·rw[if_neg h1] at h;cases h
 ·rw[if_neg h0] at h
  by_cases h1 : -(n:Int)≤i
  ·rw[if_pos h1] at h
   have e:(i+n).toNat=j:=Option.some.inj h
   exact⟨by rw[seqIndex_neg (by omega) h1,e],by omega,h1,by omega⟩
  ·rw[if_neg h1] at h;cases h
theorem eG {α : Type}{xs:List α}{i:Int}{v:α}(h:atI xs i=some v):∃ j,seqIndex? i xs.length=some j∧xs[j]? = some v∧j<xs.length ∧ -(xs.length:Int)≤i∧i<xs.length:=by
 unfold atI at h
 cases e:ixN xs.length i with
 |none=>rw[e] at h;cases h
 |some j =>
  rw[e] at h
  obtain⟨h1,h2,h3,h4⟩:=eZ e
  exact⟨j,h1,h,h2,h3,h4⟩
def tE (b:Expr):Prop:=∀ o i,subscripted b false o i=operate [o,i] (getItem o i)
def IxR (X:Cx)(r:R2):Prop:=
 ∀ (value slice:Expr) (pins:List (Addr × Obj)) (s:Shared) (σ : St) (H:Hp) (x y:V) (v u:Value) (Q:VK),Inv X pins σ H s→qJ x v→qJ y u→r x y H Q →
  subscripted slice false v u=operate [v,u] (getItem v u)→wpAny (model X.prog X.w) X.A (subscriptTail value slice v u) (EP X pins σ Q) X.xe s
def MtR (X:Cx)(id:String)(r:V→List V→Hp→VK→Prop):Prop:=
 ∀ (pins:List (Addr × Obj)) (s:Shared) (σ : St) (H:Hp) (x:V) (xs:List V) (v:Value) (us:List Value) (Q:VK),Inv X pins σ H s→qJ x v→qN xs us→r x xs H Q →
  wpAny (model X.prog X.w) X.A (call (.builtin id) (v::us)) (EP X pins σ Q) X.xe s
section
variable {X:Cx}{a b:Expr}{ta tb:TE}{pos:Pos}
theorem IxR.or {r r':R2}(h:IxR X r)(h':IxR X r'):IxR X (fun x y H Q=>r x y H Q∨r' x y H Q):=by
 intro value slice pins s σ H x y v u Q I rx ry q hs
 rcases q with q|q
 ·exact h value slice pins s σ H x y v u Q I rx ry q hs
 ·exact h' value slice pins s σ H x y v u Q I rx ry q hs
theorem MtR.or {id:String}{r r':V→List V→Hp→VK→Prop}(h:MtR X id r)(h':MtR X id r'):MtR X id (fun x xs H Q=>r x xs H Q∨r' x xs H Q):=by
 intro pins s σ H x xs v us Q I rx rs q
 rcases q with q|q
 ·exact h pins s σ H x xs v us Q I rx rs q
 ·exact h' pins s σ H x xs v us Q I rx rs q
theorem NZ {r:R2}(hr:IxR X r)(ha:PE X a ta)(hb:PE X b tb)(hs:tE b):PE X (.Subscript a b pos) (tOp r ta tb):=by
 intro pins s σ H Q I h
 exact Subscript_ (DP ha hb I h fun v u s2 x y H2 I2 rx ry q=>hr a b pins s2 σ H2 x y v u Q I2 rx ry q (hs _ _))
def SM (K:PySem.W.Frag):R2:=fun x y H Q=>∃ p xs i v,x=.ref p∧y=.int i∧SqL K H p xs∧atI xs i=some v∧Q v H
def SN (K:PySem.W.Frag):R2:=fun x y H Q=>∃ p xs i v,x=.ref p∧y=.int i∧SqT K H p xs∧atI xs i=some v∧Q v H
theorem h9:IxR X (SM X.K):=by
 intro value slice pins s σ H x y v u Q I rx ry h hs
 obtain⟨p,xs,i,z,rfl,rfl,hq,he,q⟩:=h
 cases rx
 obtain⟨t,rfl⟩:=ry
 obtain⟨its,r,pl,hz⟩:=I.list hq
 obtain⟨j,h1,h2,h3,h4,h5⟩:=eG he
 obtain⟨w,ew,rw'⟩:=r.get h2
 have hl:=r.length
 have hn:=pK
 have fin:EP X pins σ Q w s:=⟨z,H,I,rw',q⟩
 by_cases h0:0≤i
 ·have hj:i.toNat=j:=by
   rw[seqIndex_of h0 h5] at h1
   exact Option.some.inj h1
  exact item_listR pl.isList h0 (by omega) (by rw[hj];simpa using ew) fin hs
 ·have hj:(i+(its.toArray.size:Int)).toNat=j:=by
   rw[seqIndex_neg (by omega) h4] at h1
   rw[List.size_toArray,← hl]
   exact Option.some.inj h1
  exact subscriptTail_builtinR (x:=w) pl.isList.typeIs slot_list_getitem.lookup
   (wpAny_getItem_list_neg (Q:=fun r s'=>r=w∧EP X pins σ Q r s') pl.isList (by omega) (by rw[List.size_toArray] <;> omega) (by omega) (by rw[hj];simpa using ew) ⟨rfl,fin⟩) hs
theorem mH:IxR X (SN X.K):=by
 intro value slice pins s σ H x y v u Q I rx ry h hs
 obtain⟨p,xs,i,z,rfl,rfl,hq,he,q⟩:=h
 cases rx
 obtain⟨t,rfl⟩:=ry
 obtain⟨its,r,pl,hz⟩:=I.tuple hq
 obtain⟨j,h1,h2,h3,h4,h5⟩:=eG he
 obtain⟨w,ew,rw'⟩:=r.get h2
 have hl:=r.length
 have hn:=pK
 have fin:EP X pins σ Q w s:=⟨z,H,I,rw',q⟩
 exact subscriptTail_builtinR (x:=w) pl.typeIs slot_tuple_getitem.lookup
  (getItem_tuple (j:=j) (Q:=fun r s'=>r=w∧EP X pins σ Q r s') pl (by omega) (by omega) (by rw[List.size_toArray,← hl];exact h1) (by simpa using ew) ⟨rfl,fin⟩) hs
theorem iB (its:List Value)(n j:Nat)(u:Value):Obj.mapSeq (·.setIfInBounds j u) { cls:=.type "list",data:=.seq its.toArray n } = { cls:=.type "list",data:=.seq (its.set j u).toArray n }:=by
 simp[Obj.mapSeq]
theorem Inv.lst {pins:List (Addr × Obj)}{σ : St}{H:Hp}{s:Shared}{p:Addr}{xs:List V}(I:Inv X pins σ H s)(h:H p=some (.lst xs)) :
  ∃ (its:List Value) (n:Nat),qN xs its∧s.heap.get? p=some { cls:=.type "list",data:=.seq its.toArray n } ∧ xs.length≤sizeLine:=by
 obtain⟨z,its,n,r,e⟩:=I.hok p _ h
 exact⟨its,n,r,e,z⟩
theorem Inv.lstUpd {pins:List (Addr × Obj)}{σ : St}{H:Hp}{s:Shared}{p:Addr}{xs ys:List V}{its its':List Value}{n n':Nat}{f:Obj→Obj}(I:Inv X pins σ H s)(h:H p=some (.lst xs))
  (ho:s.heap.get? p=some { cls:=.type "list",data:=.seq its.toArray n }) (hf:f { cls:=.type "list",data:=.seq its.toArray n } = { cls:=.type "list",data:=.seq its'.toArray n' }) (r:qN ys its') (hz:ys.length≤sizeLine) (t:Nat) :
  Inv X pins σ (upd H p (.lst ys)) { s with heap:=s.heap.update p f,toks:=t }:=by
 have e:(s.heap.update p f).get? p=some { cls:=.type "list",data:=.seq its'.toArray n' }:=by
  rw[Heap.get?_update_self f ho (by rw[hf] <;> rfl),hf]
 refine I.write (x:=p) (e:=p) (by rw[h];trivial) (.inl rfl) (fun b u hb q=>(Heap.get?_update_other _ _ (Ne.symm hb)).trans q) ⟨_,e⟩ ?_
 exact⟨hz,its',n',r,e⟩
def LC:V→V→V→Hp→(Hp→Prop)→Prop:=fun o i v H Q=>∃ p xs k j,o=.ref p∧i=.int k∧H p=some (.lst xs)∧ixN xs.length k=some j∧Q (upd H p (.lst (xs.set j v)))
theorem WZ:dL X LC:=by
 intro pins s σ H o i v ov iv u Q I ro ri rv h
 obtain⟨p,xs,k,j,rfl,rfl,hp,hj,q⟩:=h
 cases ro
 obtain⟨t,rfl⟩:=ri
 obtain⟨its,n,r,ho,hz⟩:=I.lst hp
 obtain⟨h1,h2,h3,h4⟩:=eZ hj
 have hl:=r.length
 have hn:=pK
 have I':Inv X pins σ (upd H p (.lst (xs.set j v))) { s with heap:=s.heap.update p (Obj.mapSeq (·.setIfInBounds j u)) }:=
  I.lstUpd hp ho (iB its n j u) (r.set rv j) (by rw[List.length_set];exact hz) s.toks
 by_cases h0:0≤k
 ·have hk:k.toNat=j:=by
   rw[seqIndex_of h0 h4] at h1
   exact Option.some.inj h1
  exact PySem.W.ki_setAt ho h0 (by omega) (by rw[List.size_toArray,← hl];exact h4) (by rw[hk];exact⟨_,I',q⟩)
 ·have hk:(k+(its.toArray.size:Int)).toNat=j:=by
   rw[seqIndex_neg (by omega) h3] at h1
   rw[List.size_toArray,← hl]
   exact Option.some.inj h1
  exact PySem.W.ki_setBack ho (by omega) (by rw[List.size_toArray,← hl];exact h3) (by omega) (by rw[hk];exact⟨_,I',q⟩)
theorem rP (lo hi:Option Int)(n:Nat):(sliceBounds lo hi none n).1=((_H.sIx n 0 lo:Nat):Int)∧(sliceBounds lo hi none n).2.1=((_H.sIx n n hi:Nat):Int)∧(sliceBounds lo hi none n).2.2=1:=by
 refine⟨?_,?_,rfl⟩
 ·cases lo with
  |none=>simp[sliceBounds,_H.sIx]
  |some i =>
   simp only[sliceBounds,_H.sIx,Option.getD_none,show (1:Int)>0 by decide,if_true]
   by_cases h:i<0
   ·simp only[h,if_true] <;> omega
   ·simp only[h,if_false] <;> omega
 ·cases hi with
  |none=>simp[sliceBounds,_H.sIx]
  |some i =>
   simp only[sliceBounds,_H.sIx,Option.getD_none,show (1:Int)>0 by decide,if_true]
   by_cases h:i<0
   ·simp only[h,if_true] <;> omega
   ·simp only[h,if_false] <;> omega
theorem lZ (its:List Value)(lo hi:Option Int):slicePick its.toArray lo hi none=((its.drop (_H.sIx its.length 0 lo)).take (_H.sIx its.length its.length hi-_H.sIx its.length 0 lo)).toArray:=by
 obtain⟨h1,h2,h3⟩:=rP lo hi its.toArray.size
 unfold slicePick
 rw[h1,h2,h3]
 simp only[sliceRange_one,pick_run,List.size_toArray] <;> rfl
def SQ (K:PySem.W.Frag):V→Option Int→Option Int→Hp→VK→Prop:=fun x lo hi H Q=>∃ a xs,x=.ref a∧SqL K H a xs∧∀ p,H p=none→Q (.ref p) (upd H p (.lst (pE xs lo hi)))
theorem cT:SlR X (SQ X.K):=by
 intro pins s σ H x v vl vu lo hi sl Q I rx hs pl pu h
 obtain⟨a,xs,rfl,hx,q⟩:=h
 cases rx
 obtain⟨its,r,ht,hz⟩:=I.list hx
 have hlen:=r.length
 refine⟨"list",_,slot_list_getitem.lookup,ht.isList.typeIs,?_⟩
 refine wpAny_getItem_list_slice ht.isList hs pl pu .none (by simp) ?_ (by rw[List.size_toArray] <;> omega)
 rw[lZ,← hlen]
 refine⟨.ref s.heap.objs.size,_,I.laid (t':=s.toks) (o:=.lst (pE xs lo hi)) (fun b ob q=>Heap.get?_push_of_some _ q) (Nat.le_refl _) ?_,rfl,q _ (I.hok.fresh (Nat.le_refl _))⟩
 exact⟨Nat.le_trans (bT xs lo hi) hz,_,0,(r.drop (_H.sIx xs.length 0 lo)).take (_H.sIx xs.length xs.length hi-_H.sIx xs.length 0 lo),Heap.get?_push_size _ rfl⟩
theorem kQ.or {f:Value}{r r':List V→Hp→VK→Prop}(h:kQ X f r)(h':kQ X f r'):kQ X f (fun xs H Q=>r xs H Q∨r' xs H Q):=by
 intro pins s σ H xs us Q I rs q
 rcases q with q|q
 ·exact h pins s σ H xs us Q I rs q
 ·exact h' pins s σ H xs us Q I rs q
theorem gZ:kQ X (.type "tuple") (fun xs H Q=>∃ p ys,xs=[.ref p]∧((SqL X.K H p ys∧∀ l,H l=none→Q (.ref l) (upd H l (.tup ys)))∨(SqT X.K H p ys∧Q (.ref p) H))):=by
 intro pins s σ H xs us Q I r h
 obtain⟨p,ys,rfl,h⟩:=h
 obtain⟨u,rfl,rx⟩:=gS r
 cases rx
 rcases h with⟨hq,q⟩|⟨hq,q⟩
 ·obtain⟨its,r',pl,hz⟩:=I.list hq
  have hlen:=r'.length
  refine call_tuple_list pl.isList (fun h' kp=>?_) (by simp only[List.size_toArray] <;> omega)
  have I1:Inv X pins σ H { s with heap:=h' }:=I.kept (t':=s.toks) kp
  have I2:Inv X pins σ (upd H h'.objs.size (.tup ys)) { s with heap:=h'.push { cls:=.type "tuple",data:=.seq its.toArray } }:=
   I1.laid (t':=s.toks) (fun b o e=>Heap.get?_push_of_some _ e) (Nat.le_refl _) (show zI X.prog X.w _ _ _ (.tup ys) from⟨hz,its,r',IsTup.new _ _⟩)
  exact⟨.ref h'.objs.size,_,I2,rfl,q _ (I1.hok.fresh (Nat.le_refl _))⟩
 ·obtain⟨its,r',pl,hz⟩:=I.tuple hq
  exact call_tuple_same pl ⟨.ref p,H,I,rfl,q⟩
def tyV (K:PySem.W.Frag)(T:String)(x:V)(H:Hp):Prop:=match x with
 |.str _=>T = "str"
 |.int _=>T = "int"
 |.ref p=>(T = "list" ∧ ∃ xs,SqL K H p xs)∨(T = "tuple" ∧ ∃ o,K.lookup p=some o∧o.cls=.type "tuple" ∧ o.dict=none) ∨
   (T = "dict" ∧ ((∃ kvs,H p=some (.dK kvs))∨∃ kvs,H p=some (.dT kvs)))∨(T = "set" ∧ ∃ S n,H p=some (.set S n))
 |_=>False
theorem Z8 {pins:List (Addr × Obj)}{σ : St}{H:Hp}{s:Shared}{T:String}{x:V}{v:Value}(I:Inv X pins σ H s)(r:qJ x v)(ty:tyV X.K T x H) :
  s.TypeIs v T∧∀ a,v=.ref a→∃ ob,s.heap.get? a=some ob∧ob.dict=none:=by
 cases x with
 |str z =>
  obtain⟨t,rfl⟩:=r
  cases (show T = "str" from ty)
  exact⟨typeIs_str s z t,fun _ e=>nomatch e⟩
 |int i =>
  obtain⟨t,rfl⟩:=r
  cases (show T = "int" from ty)
  exact⟨typeIs_int s i t,fun _ e=>nomatch e⟩
 |ref p =>
  cases r
  rcases ty with⟨rfl,xs,hq⟩|⟨rfl,o,hk,hc,hd⟩|⟨rfl,hk⟩|⟨rfl,S,n,hk⟩
  ·obtain⟨its,_,pl,_⟩:=I.list hq
   refine⟨pl.isList.typeIs,fun a e=>?_⟩
   cases e
   obtain⟨o,n,e,c,hd,_⟩:=pl
   exact⟨o,e,hd⟩
  ·refine⟨⟨o,I.kIn p o hk,hc⟩,fun a e=>?_⟩
   cases e
   exact⟨o,I.kIn _ o hk,hd⟩
  ·have z:∃ o,s.heap.get? p=some o∧o.ExactDict:=by
    rcases hk with⟨kvs,hk⟩|⟨kvs,hk⟩
    ·obtain⟨_,_,_,_,o,_,_,e,ex,_⟩:=I.hok p _ hk
     exact⟨o,e,ex⟩
    ·obtain⟨_,_,_,_,o,_,_,e,ex,_⟩:=I.hok p _ hk
     exact⟨o,e,ex⟩
   obtain⟨o,e,ex⟩:=z
   refine⟨⟨o,e,ex.1⟩,fun a e2=>?_⟩
   cases e2
   exact⟨o,e,ex.2.1⟩
  ·obtain⟨o,_,_,_,e,ex,_⟩:=I.hok p _ hk
   refine⟨⟨o,e,ex.1⟩,fun a e2=>?_⟩
   cases e2
   exact⟨o,e,ex.2.1⟩
 |_=>exact False.elim ty
variable {o e:Expr}{es:List Expr}{to:TE}{t:TA}{name:Str}{apos cpos:Pos}{T id:String}{r:V→List V→Hp→VK→Prop}
/- xs.append(e),list.index on a module's tuple .. are MtR facts of 06m -/
end
end _L
namespace _L
open PySem PySem.Spec PyProof.Rows
def MtM (X:Cx)(id:String)(r:V→List V→Hp→VK→Prop):Prop:=
 ∀ (pins:List (Addr × Obj)) (s:Shared) (σ : St) (H:Hp) (x:V) (xs:List V) (v:Value) (us:List Value) (Q:VK),Inv X pins σ H s→qJ x v→qN xs us→r x xs H Q →
  wpAny (model X.prog X.w) X.A (call (.builtin id) (v::us)) (EP X pins σ Q) X.xe s
theorem qN.one {x:V}{us:List Value}(h:qN [x] us):∃ u,us=[u]∧qJ x u:=gS h
theorem qN.two {x y:V}{us:List Value}(h:qN [x,y] us):∃ u v,us=[u,v]∧qJ x u∧qJ y v:=iS h
section
variable {X:Cx}{pins:List (Addr × Obj)}{σ : St}{H:Hp}{s:Shared}{l b:Addr}{xs ys zs:List V}
theorem Inv.lset {its its':List Value}{n:Nat}{f:Array Value→Array Value}{t':Nat}(I:Inv X pins σ H s)(hH:H l=some (.lst xs))
  (e:s.heap.get? l=some { cls:=.type "list",data:=.seq its.toArray n }) (hf:f its.toArray=its'.toArray) (hv:qN ys its') (hz:ys.length≤sizeLine) :
  Inv X pins σ (upd H l (.lst ys)) { s with heap:=s.heap.update l (Obj.mapSeq f),toks:=t' }:=by
 have q:=PySem.IsL.update e f
 rw[hf] at q
 refine I.write (x:=l) (e:=l) (by rw[hH];exact trivial) (.inl rfl) (fun b' u hb hu=>(Heap.get?_update_other s.heap (Obj.mapSeq f) (Ne.symm hb)).trans hu) ⟨_,q⟩ ?_
 exact⟨hz,its',_,hv,q⟩
theorem Inv.lstM (I:Inv X pins σ H s)(hH:H l=some (.lst xs)):xs.length≤sizeLine∧∃ (its:List Value) (n:Nat),qN xs its∧xs.length=its.length∧s.heap.get? l=some { cls:=.type "list",data:=.seq its.toArray n }:=by
 obtain⟨z,its,n,r,e⟩:=I.hok l _ hH
 exact⟨z,its,n,r,r.length,e⟩
end
section
variable {X:Cx}
def K1:V→List V→Hp→VK→Prop:=fun x vs H Q=>∃ l xs y,x=.ref l∧vs=[y]∧H l=some (.lst xs)∧xs.length<sizeLine∧Q .non (upd H l (.lst (xs++[y])))
theorem QD:MtM X "list.append" K1:=by
 intro pins s σ H x vs v us Q I rx rv h
 obtain⟨l,xs,y,rfl,rfl,hH,hz,q⟩:=h
 cases rx
 obtain⟨u,rfl,ru⟩:=rv.one
 obtain⟨z,its,n,r,hl,e⟩:=I.lstM hH
 refine call_meets F.slot_list_append ⟨_,e,rfl⟩ F.entry_list_append (F.args_list_append_2 _ _) (PySem.list_append l its.toArray n u (by rw[List.size_toArray];omega)) ⟨e,?_⟩
 refine⟨.non,_,I.lset (its':=its++[u]) hH e (by simp) (r.append (.cons ru .nil)) ?_,rfl,q⟩
 rw[List.length_append,List.length_singleton]
 omega
end
end _L
namespace _L
open PySem PySem.Spec PyProof.Rows
section
variable {κ : Type}[DecidableEq κ]
def vF (kvs:List (κ × V))(k:κ):Option V:=(kvs.find? fun kv=>decide (kv.1=k)).map (·.2)
def vD (kvs:List (κ × V))(k:κ)(v:V):List (κ × V):=
 if (kvs.any fun kv=>decide (kv.1=k))=true then kvs.map (fun kv=>if kv.1=k then (kv.1,v) else kv) else kvs++[(k,v)]
theorem fT {p:κ × V}{r:List (κ × V)}{k:κ}(e:p.1=k):vF (p::r) k=some p.2:=by simp[vF,List.find?_cons,e]
theorem fS {p:κ × V}{r:List (κ × V)}{k:κ}(e:¬ p.1=k):vF (p::r) k=vF r k:=by simp[vF,List.find?_cons,e]
theorem rV (k:κ):∀ kvs:List (κ × V),(kvs.any fun kv=>decide (kv.1=k))=(vF kvs k).isSome
 |[]=>rfl
 |p::r=>by
  rw[List.any_cons]
  by_cases e:p.1=k
  ·simp only[fT e,decide_eq_true e,Bool.true_or,Option.isSome_some]
  ·rw[fS e,decide_eq_false e,Bool.false_or];exact rV k r
theorem k7 (kvs:List (κ × V))(k:κ)(v:V):(vD kvs k v).length≤kvs.length+1:=by
 unfold vD
 split
 ·rw[List.length_map];omega
 ·rw[List.length_append,List.length_cons,List.length_nil];omega
theorem bY.isSome_eq {o:Option V}{u:Option Value}(r:bY o u):o.isSome=u.isSome:=by
 cases o with
 |none=>cases u with
  |none=>rfl
  |some _=>exact(show False from r).elim
 |some _=>cases u with
  |none=>exact(show False from r).elim
  |some _=>rfl
theorem KV.val {kvs:List (κ × V)}{vs:List (κ × Value)}(r:KV kvs vs)(k:κ):bY (vF kvs k) (valueAt vs k):=by
 unfold KV at r
 induction r with
 |nil=>exact True.intro
 |@cons p q ps qs h t ih =>
  obtain⟨h1,h2⟩:=h
  by_cases e:p.1=k
  ·have e':q.1=k:=h1.symm.trans e
   have b:valueAt (q::qs) k=some q.2:=by simp[valueAt,List.find?_cons,e']
   rw[fT e,b];exact h2
  ·have e':¬ q.1=k:=fun z=>e (h1.trans z)
   have b:valueAt (q::qs) k=valueAt qs k:=by simp[valueAt,List.find?_cons,e']
   rw[fS e,b];exact ih
theorem KV.any {kvs:List (κ × V)}{vs:List (κ × Value)}(r:KV kvs vs)(k:κ):(kvs.any fun kv=>decide (kv.1=k))=vs.any fun kv=>decide (kv.1=k):=by
 unfold KV at r
 induction r with
 |nil=>rfl
 |cons h t ih=>rw[List.any_cons,List.any_cons,ih,h.1]
theorem KV.repl {kvs:List (κ × V)}{vs:List (κ × Value)}(r:KV kvs vs)(k:κ){y:V}{u:Value}(ry:qJ y u) :
  KV (kvs.map fun kv=>if kv.1=k then (kv.1,y) else kv) (vs.map fun kv=>if kv.1=k then (kv.1,u) else kv):=by
 unfold KV at r ⊢
 induction r with
 |nil=>exact .nil
 |@cons p q ps qs h t ih =>
  rw[List.map_cons,List.map_cons]
  refine .cons ?_ ih
  obtain⟨h1,h2⟩:=h
  by_cases e:p.1=k
  ·rw[if_pos e,if_pos (h1.symm.trans e)];exact⟨h1,ry⟩
  ·rw[if_neg e,if_neg (fun z=>e (h1.trans z))];exact⟨h1,h2⟩
theorem KV.put {kvs:List (κ × V)}{vs:List (κ × Value)}(r:KV kvs vs)(k:κ){y:V}{u:Value}(ry:qJ y u):KV (vD kvs k y) (stored vs k u):=by
 unfold vD stored
 rw[r.any k]
 by_cases e:(vs.any fun kv=>decide (kv.1=k))=true
 ·rw[if_pos e,if_pos e];exact r.repl k ry
 ·rw[if_neg e,if_neg e];exact Paired.snoc r ⟨rfl,ry⟩
theorem KV.length {kvs:List (κ × V)}{vs:List (κ × Value)}(r:KV kvs vs):kvs.length=vs.length:=Paired.length r
end
theorem mI {P:Program}{w:World}{k:Key}{u:Value}(r:qJ (kV k) u):(zS P w).is k u=true:=by
 cases k with
 |inl i=>obtain⟨t,e⟩:=(show ∃ t,u=Value.int i t from r);subst e;exact rY P w i t
 |inr x=>obtain⟨t,e⟩:=(show ∃ t,u=Value.str x t from r);subst e;exact rZ P w x t
theorem lF {P:Program}{w:World}:∀ {ks:List Key} {us:List Value},qN (ks.map kV) us→ItemsAre (zS P w) ks us
 |[],_,r=>by rw[List.map_nil] at r;cases r;exact .nil
 |k::ks,_,r=>by
  rw[List.map_cons] at r
  cases r with
  |cons h t=>exact .cons (mI h) (lF t)
abbrev KT (H:Hp):List (List Key × V)→List (List Key × Addr × Value)→Prop:=Paired fun p q=>p.1=q.1∧H q.2.1=some (.tup (p.1.map kV))∧qJ p.2 q.2.2
theorem KT.val {H:Hp}{kvs:List (List Key × V)}{xs:List (List Key × Addr × Value)}(r:KT H kvs xs)(k:List Key):bY (vF kvs k) ((atKey xs k).map (·.2)):=by
 induction r with
 |nil=>exact True.intro
 |@cons p q ps qs h t ih =>
  obtain⟨h1,_,h2⟩:=h
  by_cases e:p.1=k
  ·have e':q.1=k:=h1.symm.trans e
   have b:atKey (q::qs) k=some q.2:=by simp[atKey,List.find?_cons,e']
   rw[fT e,b];exact h2
  ·have e':¬ q.1=k:=fun z=>e (h1.trans z)
   have b:atKey (q::qs) k=atKey qs k:=by simp[atKey,List.find?_cons,e']
   rw[fS e,b];exact ih
theorem KT.repl {H:Hp}{kvs:List (List Key × V)}{xs:List (List Key × Addr × Value)}(r:KT H kvs xs)(k:List Key){y:V}{u:Value}(ry:qJ y u) :
  KT H (kvs.map fun kv=>if kv.1=k then (kv.1,y) else kv) (xs.map (putAt k u)):=by
 induction r with
 |nil=>exact .nil
 |@cons p q ps qs h t ih =>
  rw[List.map_cons,List.map_cons]
  refine .cons ?_ ih
  obtain⟨h1,h2,h3⟩:=h
  unfold putAt
  by_cases e:p.1=k
  ·rw[if_pos e,if_pos (h1.symm.trans e)];exact⟨h1,h2,ry⟩
  ·rw[if_neg e,if_neg (fun z=>e (h1.trans z))];exact⟨h1,h2,h3⟩
theorem KT.put {H:Hp}{kvs:List (List Key × V)}{xs:List (List Key × Addr × Value)}(r:KT H kvs xs)(k:List Key){b:Addr}{y:V}{u:Value}(hb:H b=some (.tup (k.map kV)))(ry:qJ y u) :
  KT H (vD kvs k y) (storedH xs k b u):=by
 have e:(kvs.any fun kv=>decide (kv.1=k))=(atKey xs k).isSome:=by
  rw[rV,(r.val k).isSome_eq,Option.isSome_map]
 unfold vD storedH
 rw[e]
 by_cases q:(atKey xs k).isSome=true
 ·rw[if_pos q,if_pos q];exact r.repl k ry
 ·rw[if_neg q,if_neg q];exact Paired.snoc r ⟨rfl,hb,ry⟩
theorem KT.keeps {H H':Hp}{kvs:List (List Key × V)}{xs:List (List Key × Addr × Value)}(r:KT H kvs xs)(ht:∀ b ys,H b=some (.tup ys)→H' b=some (.tup ys)):KT H' kvs xs:=
 Paired.mapP r fun _ _ z=>⟨z.1,ht _ _ z.2.1,z.2.2⟩
section
variable {P:Program}{w:World}{H:Hp}{h:Heap}{a:Addr}
theorem V7 {u:HO}(ok:HOk P w H h)(e:Rd H a u):zI P w H h a u:=e.ok ok
theorem N3 {kvs:List (Key × V)}(ok:HOk P w H h)(e:Rd H a (.dK kvs)):kvs.length≤sizeLine∧(a == sysModules)=false∧∃ vs,KV kvs vs∧h.DictOf (zS P w) a vs:=
 show zI P w H h a (.dK kvs) from V7 ok e
theorem aS {kvs:List (Key × V)}(ok:HOk P w H h)(e:H a=some (.dK kvs)):kvs.length≤sizeLine∧(a == sysModules)=false∧∃ vs,KV kvs vs∧h.DictOf (zS P w) a vs:=N3 ok (.inl e)
theorem oZ {ks:List Key}(ok:HOk P w H h)(e:H a=some (.tup (ks.map kV))):(tupleKind (zS P w)).is h ks a:=by
 obtain⟨_,its,r,o,h1,h2,n,h3⟩:=(show zI P w H h a (.tup (ks.map kV)) from ok a _ e)
 exact⟨o,its.toArray,n,h1,h2,h3,by simpa using lF r⟩
theorem N6 {kvs:List (List Key × V)}(ok:HOk P w H h)(e:Rd H a (.dT kvs)):kvs.length≤sizeLine∧(a == sysModules)=false ∧
  ∃ xs,KT H kvs xs∧h.DictOfH (tupleKind (zS P w)) a xs:=by
 obtain⟨z,y,xs,r,o,es,ep,h1,h2,h3,h4,h5⟩:=(show zI P w H h a (.dT kvs) from V7 ok e)
 refine⟨z,y,xs,r,o,es,ep,h1,h2,h3,h4,fun x hx=>?_,h5⟩
 have all:∀ {l:List (List Key × V)} {m:List (List Key × Addr × Value)},KT H l m→∀ x∈m,(tupleKind (zS P w)).is h x.1 x.2.1:=by
  intro l m q
  induction q with
  |nil=>intro x hx;exact nomatch hx
  |@cons p q ps qs hq t ih =>
   intro x hx
   rcases List.mem_cons.mp hx with e|hx
   ·subst e
    exact oZ ok (by rw[← hq.1];exact hq.2.1)
   ·exact ih x hx
 exact all r x hx
theorem N5 {kvs:List (List Key × V)}(ok:HOk P w H h)(e:H a=some (.dT kvs)):kvs.length≤sizeLine∧(a == sysModules)=false ∧
  ∃ xs,KT H kvs xs∧h.DictOfH (tupleKind (zS P w)) a xs:=N6 ok (.inl e)
end
def a8 (H:Hp)(a:Addr)(y:V)(r:Option V):Prop:=
 (∃ kvs k,Rd H a (.dK kvs)∧y=kV k∧r=vF kvs k)∨∃ kvs k b,Rd H a (.dT kvs)∧y=.ref b∧H b=some (.tup (k.map kV))∧r=vF kvs k
def tB (H:Hp)(a:Addr)(y v:V)(H':Hp):Prop:=
 (∃ kvs k,H a=some (.dK kvs)∧y=kV k∧kvs.length<sizeLine∧H'=upd H a (.dK (vD kvs k v))) ∨
 ∃ kvs k b,H a=some (.dT kvs)∧y=.ref b∧H b=some (.tup (k.map kV))∧kvs.length<sizeLine∧H'=upd H a (.dT (vD kvs k v))
theorem a8.k {H:Hp}{a:Addr}{kvs:List (Key × V)}{k:Key}(e:H a=some (.dK kvs)):a8 H a (kV k) (vF kvs k):=.inl ⟨kvs,k,.inl e,rfl,rfl⟩
theorem a8.t {H:Hp}{a b:Addr}{kvs:List (List Key × V)}{k:List Key}(e:H a=some (.dT kvs))(eb:H b=some (.tup (k.map kV))):a8 H a (.ref b) (vF kvs k):=.inr ⟨kvs,k,b,.inl e,rfl,eb,rfl⟩
theorem tB.k {H:Hp}{a:Addr}{kvs:List (Key × V)}{k:Key}{v:V}(e:H a=some (.dK kvs))(hl:kvs.length<sizeLine):tB H a (kV k) v (upd H a (.dK (vD kvs k v))):=.inl ⟨kvs,k,e,rfl,hl,rfl⟩
theorem tB.t {H:Hp}{a b:Addr}{kvs:List (List Key × V)}{k:List Key}{v:V}(e:H a=some (.dT kvs))(eb:H b=some (.tup (k.map kV)))(hl:kvs.length<sizeLine) :
  tB H a (.ref b) v (upd H a (.dT (vD kvs k v))):=.inr ⟨kvs,k,b,e,rfl,eb,hl,rfl⟩
section
variable {X:Cx}{pins:List (Addr × Obj)}{σ : St}{H:Hp}{s:Shared}{a:Addr}{y v:V}{u r:Value}{o:Option V}{A:Around}{E:Value→Shared→Prop}
theorem Inv.big (I:Inv X pins σ H s):sysModules<s.heap.objs.size:=by
 have h:mainGlobals<s.heap.objs.size:=(I.mod.glob.keeps I.bk).lt
 exact Nat.lt_trans (by decide) h
theorem tL {h':Heap}{t':Nat}{ob:HO}(I:Inv X pins σ H s)(mu:Mut (H a))(hs:Heap.SameBut a s.heap h')(he:∃ q,h'.get? a=some q)(new:zI X.prog X.w (upd H a ob) h' a ob) :
  Inv X pins σ (upd H a ob) { s with heap:=h',toks:=t' }:=
 I.write (x:=a) (e:=a) mu (.inl rfl) (fun b q hb z=>(hs.2 b hb).trans z) he new
theorem oF {P:Program}{w:World}{H':Hp}{h':Heap}{kvs:List (Key × V)}{vs:List (Key × Value)}(z:kvs.length≤sizeLine)(hd:(a == sysModules)=false)(rel:KV kvs vs)(dd:h'.DictOf (zS P w) a vs) :
  zI P w H' h' a (.dK kvs):=⟨z,hd,vs,rel,dd⟩
theorem oD {H':Hp}{Q:Unit→Shared→Prop}(hu:A.units+1<cLine)(I:Inv X pins σ H s)(g:tB H a y v H')(ry:qJ y u)(rv:qJ v r)(h:∀ s',Inv X pins σ H' s'→Q () s') :
  wpAny (model X.prog X.w) A (setItem (.ref a) u r) Q E s:=by
 rcases g with⟨kvs,k,e,ey,l,eH⟩|⟨kvs,k,b,e,ey,eb,l,eH⟩
 ·subst ey eH
  obtain⟨z,hd,vs,rel,dd⟩:=aS I.hok e
  have hz:vs.length≤sizeLine:=by rw[← rel.length];exact z
  have hl:(vD kvs k v).length≤sizeLine:=by have:=k7 kvs k v;omega
  refine wpAny_setItem_pairs (hsz:=hz) (mI ry) dd fun h' dd' hs=>h _ ?_
  have he:∃ q,h'.get? a=some q:=let ⟨q,_,_,hq,_⟩:=dd';⟨q,hq⟩
  exact tL I (by rw[e];exact True.intro) hs he (oF hl hd (rel.put k rv) dd')
 ·subst ey eH
  cases (show u=Value.ref b from ry)
  obtain⟨z,hd,xs,rel,dd⟩:=N5 I.hok e
  have hz:xs.length≤sizeLine:=by rw[← Paired.length rel];exact z
  have hl:(vD kvs k v).length≤sizeLine:=by have:=k7 kvs k v;omega
  refine wpAny_setItem_heap (hsz:=hz) (tupleKind_room_in1 hu) (oZ I.hok eb) dd fun h' dd' hs=>h _ ?_
  obtain⟨q,es,ep,hq,h2,h3,h4,_,h5⟩:=dd'
  refine tL I (by rw[e];exact True.intro) hs ⟨q,hq⟩ ⟨hl,hd,_,(rel.put k eb rv).keeps fun c ys ec=>?_,q,es,ep,hq,h2,h3,h4,h5⟩
  rw[qS (NN ec e (fun z=>nomatch z))]
  exact ec
end
theorem X7 {P:Program}{w:World}{H:Hp}(h:Heap)(hb:sysModules<h.objs.size):zI P w H (h.push { cls:=.type "dict",data:=.dict #[] }) h.objs.size (.dK []):=
 ⟨Nat.zero_le _,beq_eq_false_iff_ne.mpr (Ne.symm (Nat.ne_of_lt hb)),[],.nil,Heap.DictOf.new h⟩
def MW:TE:=fun _ H Q=>∀ p,H p=none→Q (.ref p) (upd H p (.dK []))
section
variable {X:Cx}{pos:Pos}
theorem WA:PE X (.Dict [] [] pos) MW:=fun pins s σ H Q I h =>
 wpAny_Dict_empty ⟨.ref s.heap.objs.size,_,I.laid (a:=s.heap.objs.size) (o:=.dK []) (t':=s.toks) (fun _ _ q=>Heap.get?_push_of_some _ q) (Nat.le_refl _) (X7 s.heap I.big),rfl,h _ (I.hok.fresh (Nat.le_refl _))⟩
end
end _L
namespace _A
open PySem PySem.W PySem.Calls PyProof.Rows
theorem mB {P:Params}{h:Heap}:∀ (ns:List Int) (vs:List Value),WellAll P h vs (ns.map WData.int)→IntsAre vs ns:=by
 intro ns
 induction ns with
 |nil =>
  intro vs w
  rw[List.map_nil] at w
  cases w
  exact .nil
 |cons n ns ih =>
  intro vs w
  rw[List.map_cons] at w
  cases w with
  |cons a b =>
   cases a
   exact .cons _ _ (ih _ b)
theorem Z4 {l:OpenLaw}{n:Nat}(hn:l.most=some n){P:Params}{h:Heap}{args:List WData}{vals:List Value}
  (hpre:l.row.toRowW.claim.pre args=true) (hwl:WellAll P h vals args) :
  ∃ a vs ns,vals=[Value.ref a]∧args=[WData.list (ns.map WData.int)]∧h.get? a=some { cls:=.type "list",data:=.seq vs.toArray } ∧ IntsAre vs ns∧ns.length≤n:=by
 have hsh:WShape.hasAll [] args [.list .int]=true:=(pre_splitW hpre).1
 have hc:l.pre.holds [] { args:=args } = true:=(pre_splitW hpre).2
 obtain⟨d,r,rfl,h1,h2⟩:=hasAllW_cons hsh
 obtain rfl:=hasAllW_nil h2
 obtain⟨xs,rfl,h3⟩:=hasW_list h1
 obtain⟨ns,rfl⟩:=items_int h3
 have hlen:ns.length≤n:=by
  unfold OpenLaw.pre at hc
  have h4:(WTm.not (.lt (.lit (.int (n:Int))) (.len (.arg 0)))).holds [] { args:=[.list (ns.map .int)] } = true:=by
   have h4:=(holds_andW hc).1
   rw[hn] at h4
   exact h4
  have h5:=condW_of h4 (w_not (w_lt w_lit (w_len_list (w_arg rfl))))
  rw[List.length_map] at h5
  refine Nat.le_of_not_lt fun q=>?_
  have q':(n:Int)<((ns.length:Nat):Int):=by omega
  first
   |(rw[decide_eq_true q'] at h5;exact absurd h5 (by decide))
   |(simp at h5;omega)
 cases hwl with
 |cons w1 w2 =>
  cases w2
  cases w1 with
  |list ho hall=>exact⟨_,_,ns,rfl,rfl,ho,mB ns _ hall,hlen⟩
theorem QN (l:OpenLaw)(args:List WData):l.row.toRowW.claim.post args (.bool true) args=true:=
 postW_of (r:=l.row.toRowW) (X:=(true == true))
  (show WShape.has [] (.bool true) .bool=true by first|rfl|decide|simp[WShape.has,WShape.arms,WShape.armsAll])
  (show (WTm.eq .res (.lit (.bool true))).value [] { args:=args,res:=some (.bool true),after:=args } = some (.bool (true == true)) from w_eq_bool (w_res rfl) w_lit) rfl
theorem attach_call {l:OpenLaw}{n:Nat}{q:Program}{loose:List Str}{XP:(Str→Option Value)→Heap→Prop}{YP:World→Heap→Prop}{d:DefRec}
  (hn:l.most=some n) (hdf:d.params.defaults=[])
  (call:∀ (w:World) (s₀ s₁:Shared) (mg mb:Str→Option Value) (fa:Addr) (o:Obj) (pm cd doc:Value) (a:Addr) (vs:List Value) (ns:List Int),
   Ground q loose [] XP w s₀ mg mb s₁.heap→YP w s₁.heap →
   s₁.heap.get? fa=some o→o.data=.func (docDef d.name d.params d.body d.scope pm cd doc)→s₁.heap.CodeRec cd d.name→mg d.name=some (.ref fa) →
   s₁.heap.get? a=some { cls:=.type "list",data:=.seq vs.toArray } → IntsAre vs ns→ns.length≤n→s₁.gens=#[] →
   codeAny (model l.prog w) callerA (.call (.ref fa) ⟨[.ref a],[]⟩) (fun r s'=>r=.ok (.ret (.bool true))∧OldK s₁.heap s'.heap∧s'.os=s₁.os∧AllBare s'.gens) s₁) :
  WalkO q loose XP YP l.row.toRowW d [] (fun f vs=>PySem.call f vs):=by
 intro w s₀ s₁ mg mb G Y fa o pm cd doc dV kV ho hd hcd hD hmg hg args vals as hpre hlay hrd hwl hlo
 obtain rfl:dV=.none:=Dflts.none hD hdf
 obtain rfl:kV=.none:=Dflts.noKw hD
 obtain⟨a,vs,ns,rfl,rfl,hobj,hints,hlen⟩:=Z4 hn hpre hwl
 refine enter_call (codeAny_mono (call w s₀ s₁ mg mb fa o pm cd doc a vs ns G Y ho (fd_plain hd) hcd hmg hobj hints hlen hg) fun r s' hq=>?_)
 obtain⟨rfl,h2,h3,h4⟩:=hq
 exact⟨.inl ⟨.bool true,.bool true,[],rfl,fun _=>rfl,.bool true,QN l _,fun _=>⟨List.Pairwise.nil,fun _ hm=>(nomatch hm)⟩⟩,h2,h3,h4⟩
end _A
namespace _L
open PySem PySem.Spec PyProof.Rows
theorem ZC {vs:List Value}{ns:List Int}(h:IntsAre vs ns):qN (ns.map V.int) vs:=by
 induction h with
 |nil=>exact .nil
 |cons n t h ih=>exact .cons ⟨t,rfl⟩ ih
def SqX (K:PySem.W.Frag)(H:Hp)(a:Addr)(xs:List V):Prop:=
 Rd H a (.lst xs)∨∃ (its:List Value) (n:Nat),K.lookup a=some { cls:=.type "list",data:=.seq its.toArray n } ∧ xs.length≤sizeLine∧qN xs its
theorem SqX.l {K:PySem.W.Frag}{H:Hp}{a:Addr}{xs:List V}(h:SqX K H a xs):SqL K H a xs:=by
 rcases h with h|⟨its,n,e,l,v⟩
 ·exact .inl h
 ·exact .inr ⟨_,its.toArray,n,e,rfl,rfl,rfl,by rw[List.size_toArray,← v.length];exact l,by simpa using v⟩
def ZI (H:Hp):Prop:=∀ b,H b=none∨∃ o xs,H b=some (.frz o (.lst xs))
theorem W2 {P:Program}{w:World}{K:PySem.W.Frag}{mg mb:Str→Option Value}{CX:CXT}{k:Nat}{fa a:Addr}{fd:FuncData}{x:Str}{sp:Sp}{s₁:Shared}{vs:List Value}{ns:List Int}
  (KX:K.In s₁.heap) (hns:s₁.heap.Ns mainGlobals mg) (hb:s₁.heap.Ns builtinsNs mb) (hbb:∀ x:Str,x ≠ "__name__" → mb x=bootBuiltins x) (hlim:s₁.heap.NoLimit) (hg:s₁.gens=#[])
  (ha:s₁.heap.get? a=some { cls:=.type "list",data:=.seq vs.toArray }) (hi:IntsAre vs ns) (hl:ns.length≤sizeLine) (hr:Room k callerA)
  (F:∀ base:Heap,K.In base→base.Ns mainGlobals mg→FnOk P w K mg base CX k fa fd [x] sp) (hbind:∀ (s:Shared) (u:Value),BindsTo s fd ⟨[u],[]⟩ [(x,u)])
  (hsp:∀ H:Hp,ZI H→SqX K H a (ns.map V.int)→sp [.ref a] H (fun v _=>v=.bl true) fun _ _ _=>False)
  (hCX:∀ H e s',CX [] H s₁ (fun _ _ _=>False) e s'→False) :
  codeAny (model P w) callerA (.call (.ref fa) ⟨[.ref a],[]⟩) (fun r s'=>r=.ok (.ret (.bool true))∧OldK s₁.heap s'.heap∧s'.os=s₁.os∧AllBare s'.gens) s₁:=by
 have rv:=ZC hi
 have lenV:=hi.length
 have core:∀ H:Hp,ZI H→SqX K H a (ns.map V.int)→HOk P w H s₁.heap→(∀ b,H b≠none→b=a)→(H a≠none→K.lookup a=none) →
   codeAny (model P w) callerA (.call (.ref fa) ⟨[.ref a],[]⟩) (fun r s'=>r=.ok (.ret (.bool true))∧OldK s₁.heap s'.heap∧s'.os=s₁.os∧AllBare s'.gens) s₁:=by
  intro H hO hS hok hA hK
  have base_of:∀ {b:Addr} {o:Obj},s₁.heap.get? b=some o→H b=none→(gC s₁.heap H).get? b=some o:=fun e n=>XT e n
  have noA:∀ {b:Addr} {o:Obj} {es:Array DictEntry} {ep:Nat},s₁.heap.get? b=some o→o.data=.dict es ep→H b=none:=fun {b o es ep} e d=>by
   cases q:H b with
   |none=>rfl
   |some u =>
    have e':b=a:=hA b (by rw[q];simp)
    subst e'
    rw[ha] at e;cases e
    have d':Data.seq vs.toArray _=Data.dict es ep:=d
    cases d'
  have nsK:∀ {b:Addr} {m:Str→Option Value},s₁.heap.Ns b m→(gC s₁.heap H).Ns b m:=fun {b m} ⟨o,es,ep,e,d,r⟩=>⟨o,es,ep,base_of e (noA e d),d,r⟩
  have hKb:K.In (gC s₁.heap H):=fun b o e=>base_of (KX b o e) (by
   cases q:H b with
   |none=>rfl
   |some u =>
    have e':b=a:=hA b (by rw[q];simp)
    subst e'
    rw[hK (by rw[q];simp)] at e;cases e)
  have hM:Mod K mg (gC s₁.heap H):=⟨hKb,nsK hns,⟨mb,nsK hb,hbb⟩,let ⟨mc,h1,h2⟩:=hlim;⟨mc,nsK h1,h2⟩⟩
  have e0:Env0 P w K mg (gC s₁.heap H) callerA [] s₁ H:=⟨rfl,hM,fun b o e=>JB e,Nat.le_of_eq (oP _ _),trivial,fun b hb=>absurd (show b∈([]:List Addr) from hb) (by simp),hok,.of_eq hg⟩
  refine codeAny_mono ((F _ hKb (nsK hns)).run callerA [] s₁ H ⟨[.ref a],[]⟩ [.ref a] [.ref a] _ _ hr e0 (hbind s₁ (.ref a)) (.cons rfl .nil) (hsp H hO hS)) fun r s' h=>?_
  cases r with
  |error e=>exact(hCX H e s' h).elim
  |ok fl =>
   cases fl with
   |next=>exact False.elim h
   |brk=>exact False.elim h
   |cont=>exact False.elim h
   |ret u =>
    obtain⟨v,H',os,bare,un,hok',r',q⟩:=h
    have q':v=.bl true:=q
    subst q'
    obtain rfl:u=Value.bool true:=r'
    refine⟨rfl,OldK.of_keep fun b o e=>?_,os,bare⟩
    cases q:H b with
    |none=>exact un.keep b o e q (by intro z;exact absurd (show b∈([]:List Addr) from z) (by simp)) (by simp)
    |some u =>
     rcases hO b with z|⟨ob,xs,z⟩
     ·rw[q] at z;cases z
     ·have z2:=un.frzs b ob _ z
      obtain⟨e1,_⟩:=hok b _ z
      obtain⟨e2,_⟩:=hok' b _ z2
      rw[e] at e1;cases e1
      exact e2
 cases hk:K.lookup a with
 |some o =>
  have e:=KX a o hk
  rw[ha] at e
  cases e
  refine core (fun _=>none) (fun _=>.inl rfl) (.inr ⟨vs,_,hk,by rw[List.length_map];exact hl,rv⟩) (fun b u z=>by have z':(none:Option HO)=some u:=z;cases z') (fun b z=>absurd rfl z) fun z=>absurd rfl z
 |none =>
  refine core (fun b=>if b=a then some (.frz { cls:=.type "list",data:=.seq vs.toArray } (.lst (ns.map V.int))) else none) (fun b=>?_) (.inl (.inr ⟨{ cls:=.type "list",data:=.seq vs.toArray },if_pos rfl⟩)) (fun b u z=>?_) (fun b z=>?_) fun _=>hk
  ·by_cases hb:b=a
   ·exact .inr ⟨_,_,if_pos hb⟩
   ·exact .inl (if_neg hb)
  ·by_cases hb:b=a
   ·have z':=(if_pos hb).symm.trans z
    cases z'
    subst hb
    exact⟨ha,by rw[List.length_map];exact hl,vs,_,rv,ha⟩
   ·have z':=(if_neg hb).symm.trans z
    cases z'
  ·by_cases hb:b=a
   ·exact hb
   ·exact absurd (if_neg hb) z
end _L
namespace _L
open PySem PySem.Spec PyProof.Rows
theorem KL {l:PySem.W.OpenLaw}{n k:Nat}{q:Program}{loose:List Str}{XP:(Str→Option Value)→Heap→Prop}{YP:World→Heap→Prop}{d:DefRec}{K:Params→PySem.W.Frag}{CX:World→CXT}{sp:World→Sp}{x:Str}
  (hn:l.most=some n) (hn2:n≤sizeLine) (hdf:d.params.defaults=[]) (hr:Room k callerA)
  (hY:∀ (w:World) (h:Heap),YP w h→(K w.params).In h)
  (F:∀ (w:World) (mg:Str→Option Value) (fa:Addr) (h:Heap),(K w.params).In h→h.Ns mainGlobals mg→mg d.name=some (.ref fa) →
   ∃ fd:FuncData,(∀ (s:Shared) (u:Value),BindsTo s fd ⟨[u],[]⟩ [(x,u)]) ∧
    ∀ base:Heap,(K w.params).In base→base.Ns mainGlobals mg→FnOk l.prog w (K w.params) mg base (CX w) k fa fd [x] (sp w))
  (hsp:∀ (w:World) (H:Hp) (a:Addr) (ns:List Int),ns.length≤n→ZI H→SqX (K w.params) H a (ns.map V.int)→sp w [.ref a] H (fun v _=>v=.bl true) fun _ _ _=>False)
  (hCX:∀ (w:World) (H:Hp) (s:Shared) (e:Value) (s':Shared),CX w [] H s (fun _ _ _=>False) e s'→False) :
  PySem.W.WalkO q loose XP YP l.row.toRowW d [] (fun f vs=>PySem.call f vs):=by
 refine _A.attach_call hn hdf fun w s₀ s₁ mg mb fa o pm cd doc a vs ns G Y ho hd hcd hmg hobj hints hlen hg=>?_
 have KX:=hY w _ Y
 obtain⟨fd,hb,hF⟩:=F w mg fa _ KX G.T.g hmg
 exact W2 KX G.T.g G.T.b G.T.builtins G.T.nolimit hg hobj hints (Nat.le_trans hlen hn2) hr hF hb (fun H hO hS=>hsp w H a ns hlen hO hS) fun H e s'=>hCX w H s₁ e s'
end _L
namespace _L
open PySem PySem.Spec PyProof.Rows
def yP (s:Stmt):Arguments:=match s with
 |.FunctionDef _ a _ _ _ _ _ _ _ _=>a
 |_=>{ posonlyargs:=[],args:=[],vararg:=none,kwonlyargs:=[],kw_defaults:=[],kwarg:=none,defaults:=[] }
def zT (s:Stmt):List Stmt:=match s with
 |.FunctionDef _ _ b _ _ _ _ _ _ _=>b
 |_=>[]
def qI (s:Stmt):Scope:=match s with
 |.FunctionDef _ _ _ _ _ _ sc _ _ _=>sc
 |_=>{ kind:=.function,names:=[],isGenerator:=false,isCoroutine:=false }
abbrev CX0:CXT:=fun _ _ _ _ _ _=>False
structure Fun (K:PySem.W.Frag)(x qual:Str)(st:Stmt)(f:Addr)(fd:FuncData):Prop where
 ex:∃ (oc:Value) (od:Option Addr) (kV doc pm:Value) (an:Option Addr) (cdv ct:Value) (osl:Array (Option Value)),
  fd=PySem.W.fnOf x qual (yP st) (zT st) (qI st) .none kV doc pm an cdv ct∧K.lookup f=some ⟨oc,od,.func fd,osl⟩∧PySem.W.codeIn K cdv qual=true
 kp:PySem.W.keepIn K (.ref f)=true
section
variable {P:Program}{w:World}{K:PySem.W.Frag}{mg:Str→Option Value}{base:Heap}
theorem Fun.ok {x qual:Str}{st:Stmt}{f:Addr}{fd:FuncData}{N ps:List Str}{k:Nat}{sp:Sp}(F:Fun K x qual st f fd)(S:FnScope N ps (qI st))(len:∀ vs H Q E,sp vs H Q E→vs.length=ps.length)
  (hbody:∀ (cdv:Value) (A:Around) (outer:List Env) (s:Shared) (H:Hp) (vs:List V) (Q:VK) (E:XK),Room k (A.deeper (envOfC qual (qI st) s.heap.objs.size f cdv))→sp vs H Q E →
   ∃ t,PSs (tK CX0 P w K mg base N qual (qI st) f cdv A outer s H E).nox (zT st) t∧t { nx:=fun _ H'=>Q .non H',rt:=Q } (wM N vs) H):FnOk P w K mg base CX0 (k+1) f fd ps sp:=by
 obtain⟨oc,od,kV,doc,pm,an,cdv,ct,osl,rfl,lk,hcd⟩:=F.ex
 refine NB lk hcd S len fun A outer s H vs Q E hr hsp=>?_
 obtain⟨t,h,q⟩:=hbody cdv A outer s H vs Q E hr hsp
 exact⟨t,h.nox,q⟩
theorem Fun.binds {x qual:Str}{st:Stmt}{f:Addr}{fd:FuncData}{ps:List Str}(F:Fun K x qual st f fd)
  (h:∀ (kV doc pm:Value) (an:Option Addr) (cdv ct:Value) (us:List Value),us.length=ps.length→bindArgs (PySem.W.fnOf x qual (yP st) (zT st) (qI st) .none kV doc pm an cdv ct) ⟨us,[]⟩=pure (ps.zip us)):uW K fd ps []:=by
 obtain⟨oc,od,kV,doc,pm,an,cdv,ct,osl,rfl,lk,hcd⟩:=F.ex
 exact .all (h kV doc pm an cdv ct)
theorem B6 {x qual:Str}{st:Stmt}{f:Addr}{oc:Value}{od an:Option Addr}{osl:Array (Option Value)}{kV doc pm cdv ct:Value}(l:K.lookup f=some ⟨oc,od,.func (PySem.W.fnOf x qual (yP st) (zT st) (qI st) .none kV doc pm an cdv ct),osl⟩)
  (c:PySem.W.codeIn K cdv qual=true) (k:PySem.W.keepIn K (.ref f)=true):Fun K x qual st f (PySem.W.fnOf x qual (yP st) (zT st) (qI st) .none kV doc pm an cdv ct):=⟨⟨oc,od,kV,doc,pm,an,cdv,ct,osl,rfl,l,c⟩,k⟩
end
def qG (H H':Hp):Prop:=∀ b o,H b=some o→H' b=some o
theorem qG.refl (H:Hp):qG H H:=fun _ _ h=>h
theorem qG.trans {H H1 H2:Hp}(a:qG H H1)(b:qG H1 H2):qG H H2:=fun c o h=>b c o (a c o h)
theorem qG.free {H H':Hp}(e:qG H H'){l:Addr}(h:H' l=Option.none):H l=Option.none:=by
 cases q:H l with
 |none=>rfl
 |some o =>
  rw[e l o q] at h
  cases h
theorem qG.seq {K:PySem.W.Frag}{H H':Hp}{a:Addr}{xs:List V}(e:qG H H')(h:SqL K H a xs):SqL K H' a xs:=by
 rcases h with (h|⟨o,h⟩)|h
 ·exact .inl (.inl (e _ _ h))
 ·exact .inl (.inr ⟨o,e _ _ h⟩)
 ·exact .inr h
end _L
end
section
namespace _D
open PySem PySem.Spec PyProof.Rows _L
inductive D where
 |non|bl (b:Bool)|int (i:Int)|str (x:Str)|ty (n:String)|obj (a:Addr)|tup (xs:List D)|lst (xs:List D)|dct0|loc (i:Nat)|exn (c:Value)|fd (ks:List Key) (ds:List D)
def DY (a:Addr)(c:Value):HO:=.ext fun h=>∃ ob,h.get? a=some ob∧ob.cls=c
inductive MO where
 |dead|lst (xs:List D)|dct (kvs:List (Key × D))|ins (C:Addr) (fs:List (Str × D))
abbrev Sto:=List MO
inductive Res (β : Type) where
 |ok (d:β) (S:Sto)|ex (c:Value) (x:D) (S:Sto)|bad
@[inline] def Res.bind {β γ:Type}(r:Res β)(f:β→Sto→Res γ) : Res γ:=
 match r with
 |.ok d S=>f d S
 |.ex c x S=>.ex c x S
 |.bad=>.bad
theorem Res.bind_ok {β γ:Type}(d:β)(S:Sto)(f:β→Sto→Res γ) : (Res.ok d S).bind f=f d S:=rfl
section
variable (K:PySem.W.Frag)(P:Hp)(α : List Addr)
mutual
def Rep:D→V→Prop
 |.non,v=>v=.non
 |.bl b,v=>v=.bl b
 |.int i,v=>v=.int i
 |.str x,v=>v=.str x
 |.ty n,v=>v=.ty n
 |.obj a,v=>v=.ref a∧PySem.W.keepIn K (.ref a)=true
 |.tup ds,v=>∃ a vs,v=.ref a∧SqT K P a vs∧qE ds vs
 |.lst ds,v=>∃ a vs,v=.ref a∧SqX K P a vs∧qE ds vs
 |.dct0,v=>∃ a,v=.ref a∧P a=some (.dK [])
 |.loc i,v=>∃ a,v=.ref a∧α[i]? = some a
 |.exn c,v=>∃ a,v=.ref a∧P a=some (DY a c)
 |.fd ks ds,v=>∃ a o vs,v=.ref a∧P a=some (.frz o (.dK (ks.zip vs)))∧ks.length=vs.length∧qE ds vs
def qE:List D→List V→Prop
 |[],vs=>vs=[]
 |d::ds,vs=>∃ w ws,vs=w::ws∧Rep d w∧qE ds ws
end
end
section
variable {K:PySem.W.Frag}{P P':Hp}{α α':List Addr}
theorem u4 (e:qG P P'){a:Addr}{xs:List V}(h:SqT K P a xs):SqT K P' a xs:=by
 rcases h with (h|⟨o,h⟩)|h
 ·exact .inl (.inl (e _ _ h))
 ·exact .inl (.inr ⟨o,e _ _ h⟩)
 ·exact .inr h
theorem cM (e:qG P P'){a:Addr}{u:HO}(h:Rd P a u):Rd P' a u:=by
 rcases h with h|⟨o,h⟩
 ·exact .inl (e _ _ h)
 ·exact .inr ⟨o,e _ _ h⟩
theorem w6 (e:qG P P'){a:Addr}{xs:List V}(h:SqX K P a xs):SqX K P' a xs:=by
 rcases h with h|h
 ·exact .inl (cM e h)
 ·exact .inr h
theorem bE {i:Nat}{a:Addr}(h:α<+:α')(e:α[i]? = some a):α'[i]? = some a:=by
 obtain⟨r,rfl⟩:=h
 rw[List.getElem?_append_left (List.getElem?_eq_some_iff.mp e).1]
 exact e
mutual
theorem Rep.mono (e:qG P P')(h:α<+:α'):∀ (d:D) (v:V),Rep K P α d v→Rep K P' α' d v
 |.non,_,r=>by simpa only [Rep] using r
 |.bl _,_,r=>by simpa only [Rep] using r
 |.int _,_,r=>by simpa only [Rep] using r
 |.str _,_,r=>by simpa only [Rep] using r
 |.ty _,_,r=>by simpa only [Rep] using r
 |.obj _,_,r=>by simpa only [Rep] using r
 |.tup ds,v,r=>by
  simp only[Rep] at r ⊢
  obtain⟨a,vs,rfl,q,t⟩:=r
  exact⟨a,vs,rfl,u4 e q,qE.mono e h ds vs t⟩
 |.lst ds,v,r=>by
  simp only[Rep] at r ⊢
  obtain⟨a,vs,rfl,q,t⟩:=r
  exact⟨a,vs,rfl,w6 e q,qE.mono e h ds vs t⟩
 |.dct0,v,r=>by
  simp only[Rep] at r ⊢
  obtain⟨a,rfl,q⟩:=r
  exact⟨a,rfl,e _ _ q⟩
 |.loc i,v,r=>by
  simp only[Rep] at r ⊢
  obtain⟨a,rfl,q⟩:=r
  exact⟨a,rfl,bE h q⟩
 |.exn c,v,r=>by
  simp only[Rep] at r ⊢
  obtain⟨a,rfl,q⟩:=r
  exact⟨a,rfl,e _ _ q⟩
 |.fd ks ds,v,r=>by
  simp only[Rep] at r ⊢
  obtain⟨a,o,vs,rfl,q,hl,t⟩:=r
  exact⟨a,o,vs,rfl,e _ _ q,hl,qE.mono e h ds vs t⟩
theorem qE.mono (e:qG P P')(h:α<+:α'):∀ (ds:List D) (vs:List V),qE K P α ds vs→qE K P' α' ds vs
 |[],vs,r=>by simpa only [qE] using r
 |d::ds,vs,r=>by
  simp only[qE] at r ⊢
  obtain⟨w,ws,rfl,r1,r2⟩:=r
  exact⟨w,ws,rfl,Rep.mono e h d w r1,qE.mono e h ds ws r2⟩
end
theorem qE.nil:qE K P α [] []:=by simp only[qE]
theorem qE.cons {d:D}{v:V}{ds:List D}{vs:List V}(r:Rep K P α d v)(t:qE K P α ds vs):qE K P α (d::ds) (v::vs):=by
 simp only[qE];exact⟨v,vs,rfl,r,t⟩
theorem qE.nil_inv {vs:List V}(r:qE K P α [] vs):vs=[]:=by simpa only [qE] using r
theorem qE.cons_inv {d:D}{ds:List D}{vs:List V}(r:qE K P α (d::ds) vs):∃ w ws,vs=w::ws∧Rep K P α d w∧qE K P α ds ws:=by simpa only [qE] using r
theorem qE.length:∀ {ds:List D} {vs:List V},qE K P α ds vs→ds.length=vs.length
 |[],vs,r=>by rw[r.nil_inv];rfl
 |d::ds,vs,r=>by
  obtain⟨w,ws,rfl,_,t⟩:=r.cons_inv
  rw[List.length_cons,List.length_cons,t.length]
theorem qE.append:∀ {ds es:List D} {vs ws:List V},qE K P α ds vs→qE K P α es ws→qE K P α (ds++es) (vs++ws)
 |[],es,vs,ws,r,t=>by rw[r.nil_inv];exact t
 |d::ds,es,vs,ws,r,t=>by
  obtain⟨w,us,rfl,r1,r2⟩:=r.cons_inv
  exact .cons r1 (r2.append t)
theorem qE.get:∀ {ds:List D} {vs:List V} {i:Nat} {d:D},qE K P α ds vs→ds[i]? = some d→∃ v,vs[i]? = some v∧Rep K P α d v
 |[],_,_,_,_,e=>by simp at e
 |d::ds,vs,i,d',r,e=>by
  obtain⟨w,ws,rfl,r1,r2⟩:=r.cons_inv
  cases i with
  |zero=>simp at e;subst e;exact⟨w,rfl,r1⟩
  |succ i =>
   obtain⟨v,h1,h2⟩:=r2.get (i:=i) (d:=d') (by simpa using e)
   exact⟨v,by simpa using h1,h2⟩
theorem qE.drop:∀ {ds:List D} {vs:List V} (n:Nat),qE K P α ds vs→qE K P α (ds.drop n) (vs.drop n)
 |ds,vs,0,r=>by simpa using r
 |[],vs,n+1,r=>by rw[r.nil_inv];exact .nil
 |d::ds,vs,n+1,r=>by
  obtain⟨w,ws,rfl,_,r2⟩:=r.cons_inv
  simpa using r2.drop n
theorem qE.take:∀ {ds:List D} {vs:List V} (n:Nat),qE K P α ds vs→qE K P α (ds.take n) (vs.take n)
 |ds,vs,0,r=>by simpa using qE.nil
 |[],vs,n+1,r=>by rw[r.nil_inv];exact .nil
 |d::ds,vs,n+1,r=>by
  obtain⟨w,ws,rfl,r1,r2⟩:=r.cons_inv
  simpa using qE.cons r1 (r2.take n)
theorem qE.set {d:D}{v:V}(q:Rep K P α d v):∀ {ds:List D} {vs:List V} (n:Nat),qE K P α ds vs→qE K P α (ds.set n d) (vs.set n v)
 |[],vs,n,r=>by rw[r.nil_inv];exact .nil
 |e::ds,vs,0,r=>by
  obtain⟨w,ws,rfl,r1,r2⟩:=r.cons_inv
  exact .cons q r2
 |e::ds,vs,n+1,r=>by
  obtain⟨w,ws,rfl,r1,r2⟩:=r.cons_inv
  exact .cons r1 (r2.set q n)
end
abbrev qC:=List (Option D)
def zG (K:PySem.W.Frag)(P:Hp)(α : List Addr)(σ : _L.St)(env:qC):Prop:=env.length=σ.length∧∀ (i:Nat) (d:D),env[i]? = some (some d)→∃ v,σ[i]? = some (some v)∧Rep K P α d v
def KVs (K:PySem.W.Frag)(P:Hp)(α : List Addr){κ : Type}:List (κ × D)→List (κ × V)→Prop:=Paired fun (p:κ × D) (q:κ × V)=>p.1=q.1∧Rep K P α p.2 q.2
def MOk (K:PySem.W.Frag)(H P:Hp)(α : List Addr)(a:Addr):MO→Prop
 |.dead=>True
 |.lst ds=>∃ vs,H a=some (.lst vs)∧qE K P α ds vs
 |.dct kvs=>∃ vs,H a=some (.dK vs)∧KVs K P α kvs vs
 |.ins C fs=>∃ dx vs,H a=some (.ins C dx vs)∧KVs K P α fs vs
structure Rel (K:PySem.W.Frag)(H P:Hp)(α : List Addr)(S:Sto):Prop where
 sub:qG P H
 len:α.length=S.length
 nd:α.Nodup
 sep:∀ (i:Nat) (a:Addr) (o:MO),α[i]? = some a→S[i]? = some o→o≠.dead→P a=none
 at':∀ (i:Nat) (a:Addr) (o:MO),α[i]? = some a→S[i]? = some o→MOk K H P α a o
 own:∀ (i:Nat) (a:Addr),α[i]? = some a→H a≠none
section
variable {K:PySem.W.Frag}{H P P':Hp}{α α':List Addr}{S:Sto}
theorem zG.mono {σ : _L.St}{env:qC}(e:qG P P')(h:α<+:α')(r:zG K P α σ env):zG K P' α' σ env:=
 ⟨r.1,fun i d q=>let ⟨v,h1,h2⟩:=r.2 i d q;⟨v,h1,Rep.mono e h d v h2⟩⟩
theorem KVs.mono {κ : Type}(e:qG P P')(h:α<+:α'){kvs:List (κ × D)}{vs:List (κ × V)}(r:KVs K P α kvs vs):KVs K P' α' kvs vs:=by
 refine Paired.mapP r fun p q z=>⟨z.1,Rep.mono e h _ _ z.2⟩
theorem MOk.mono {a:Addr}(e:qG P P')(h:α<+:α'):∀ {o:MO},MOk K H P α a o→MOk K H P' α' a o
 |.dead,_=>trivial
 |.lst _,⟨vs,q,r⟩=>⟨vs,q,qE.mono e h _ _ r⟩
 |.dct _,⟨vs,q,r⟩=>⟨vs,q,r.mono e h⟩
 |.ins _ _,⟨dx,vs,q,r⟩=>⟨dx,vs,q,r.mono e h⟩
theorem Rel.grow {H':Hp}(r:Rel K H P α S)(e:qG H H'):Rel K H' P α S where
 sub:=r.sub.trans e
 len:=r.len
 nd:=r.nd
 sep:=r.sep
 at':=fun i a o q1 q2=>by
  have m:=r.at' i a o q1 q2
  cases o with
  |dead=>trivial
  |lst ds=>obtain⟨vs,q,t⟩:=m;exact⟨vs,e _ _ q,t⟩
  |dct kvs=>obtain⟨vs,q,t⟩:=m;exact⟨vs,e _ _ q,t⟩
  |ins C fs=>obtain⟨dx,vs,q,t⟩:=m;exact⟨dx,vs,e _ _ q,t⟩
 own:=fun i a q=>by
  have m:=r.own i a q
  cases z:H a with
  |none=>exact absurd z m
  |some o=>rw[e _ _ z];intro w;cases w
theorem gQ {H:Hp}{a:Addr}{o:HO}(h:H a=none):qG H (upd H a o):=fun b u e=>by rw[qS (zM e h)];exact e
theorem Rel.pure {a:Addr}{o:HO}(r:Rel K H P α S)(h:H a=none):Rel K (upd H a o) (upd P a o) α S∧qG P (upd P a o):=by
 have hP:P a=none:=by
  cases z:P a with
  |none=>rfl
  |some u=>rw[r.sub _ _ z] at h;cases h
 have sP:qG P (upd P a o):=gQ hP
 have r1:=r.grow (gQ (o:=o) h)
 refine⟨⟨fun b u e=>?_,r.len,r.nd,fun i b u q1 q2 q3=>?_,fun i b u q1 q2=>(r1.at' i b u q1 q2).mono sP (List.prefix_refl _),r1.own⟩,sP⟩
 ·by_cases hb:b=a
  ·subst hb;rw[z0] at e ⊢;exact e
  ·rw[qS hb] at e ⊢;exact r.sub _ _ e
 ·have hb:b≠a:=by rintro rfl;exact r.own i b q1 h
  rw[qS hb]
  exact r.sep i b u q1 q2 q3
theorem Rel.new {a:Addr}{o:HO}{m:MO}(r:Rel K H P α S)(h:H a=none)(hm:MOk K (upd H a o) P (α ++ [a]) a m):Rel K (upd H a o) P (α ++ [a]) (S++[m]):=by
 have hP:P a=none:=by
  cases z:P a with
  |none=>rfl
  |some u=>rw[r.sub _ _ z] at h;cases h
 have r1:=r.grow (gQ (o:=o) h)
 have hp:α<+:α++[a]:=List.prefix_append _ _
 have split:∀ (i:Nat) (b:Addr),(α++[a])[i]? = some b→(i<α.length∧α[i]? = some b)∨(i=α.length∧b=a):=fun i b q=>by
  by_cases hi:i<α.length
  ·rw[List.getElem?_append_left hi] at q;exact .inl ⟨hi,q⟩
  ·rw[List.getElem?_append_right (by omega)] at q
   cases hk:i-α.length with
   |zero=>rw[hk] at q;simp at q;exact .inr ⟨by omega,q.symm⟩
   |succ k=>rw[hk] at q;simp at q
 refine⟨r1.sub,by simp[r.len],?_,fun i b u q1 q2 q3=>?_,fun i b u q1 q2=>?_,fun i b q=>?_⟩
 ·rw[List.nodup_append]
  refine⟨r.nd,by simp,fun b hb c hc e=>?_⟩
  simp at hc;subst hc;subst e
  obtain⟨i,hi,e⟩:=List.mem_iff_getElem.mp hb
  exact r.own i b (by rw[List.getElem?_eq_getElem hi,e]) h
 ·rcases split i b q1 with⟨hi,z⟩|⟨hi,rfl⟩
  ·rw[List.getElem?_append_left (by rw[← r.len];exact hi)] at q2
   exact r.sep i b u z q2 q3
  ·exact hP
 ·rcases split i b q1 with⟨hi,z⟩|⟨hi,rfl⟩
  ·rw[List.getElem?_append_left (by rw[← r.len];exact hi)] at q2
   exact(r1.at' i b u z q2).mono (qG.refl _) hp
  ·rw[hi,r.len,List.getElem?_append_right (Nat.le_refl _)] at q2
   simp at q2;subst q2
   exact hm
 ·rcases split i b q with⟨_,z⟩|⟨_,rfl⟩
  ·exact r1.own i b z
  ·rw[z0];intro z;cases z
theorem lJ {N:List Addr}(hN:N.Nodup){i j:Nat}{x:Addr}(a:N[i]? = some x)(b:N[j]? = some x):i=j:=by
 obtain⟨h1,e1⟩:=List.getElem?_eq_some_iff.mp a
 obtain⟨h2,e2⟩:=List.getElem?_eq_some_iff.mp b
 exact(List.getElem_inj hN).mp (e1.trans e2.symm)
theorem Rel.put {a:Addr}{i:Nat}{o:HO}{m m':MO}(r:Rel K H P α S)(ha:α[i]? = some a)(hs:S[i]? = some m)(hd:m≠.dead)(hm:MOk K (upd H a o) P α a m'):Rel K (upd H a o) P α (S.set i m'):=by
 have hP:=r.sep i a m ha hs hd
 have hi:i<S.length:=(List.getElem?_eq_some_iff.mp hs).1
 refine⟨fun b u e=>?_,by simp[r.len],r.nd,fun j b u q1 q2 q3=>?_,fun j b u q1 q2=>?_,fun j b q=>?_⟩
 ·have hb:b≠a:=by rintro rfl;rw[hP] at e;cases e
  rw[qS hb];exact r.sub _ _ e
 ·by_cases hj:j=i
  ·subst hj;rw[ha] at q1;cases q1;exact hP
  ·rw[List.getElem?_set_ne (Ne.symm hj)] at q2;exact r.sep j b u q1 q2 q3
 ·by_cases hj:j=i
  ·subst hj;rw[ha] at q1;cases q1
   rw[List.getElem?_set_self hi] at q2;cases q2
   exact hm
  ·rw[List.getElem?_set_ne (Ne.symm hj)] at q2
   have hb:b≠a:=by rintro rfl;exact hj (lJ r.nd q1 ha)
   have z:=r.at' j b u q1 q2
   cases u with
   |dead=>trivial
   |lst ds=>obtain⟨vs,q,t⟩:=z;exact⟨vs,by rw[qS hb];exact q,t⟩
   |dct kvs=>obtain⟨vs,q,t⟩:=z;exact⟨vs,by rw[qS hb];exact q,t⟩
   |ins C fs=>obtain⟨dx,vs,q,t⟩:=z;exact⟨dx,vs,by rw[qS hb];exact q,t⟩
 ·by_cases hb:b=a
  ·subst hb;rw[z0];intro z;cases z
  ·rw[qS hb];exact r.own j b q
end
theorem nn {β : Type}{a:β}{p:Prop}(h:(none:Option β) = some a):p:=by cases h
theorem jJ {β : Type}{c:Prop}[Decidable c]{a b:β}(h:(if c then some a else none)=some b):c∧a=b:=by
 by_cases z:c
 ·rw[if_pos z] at h;exact⟨z,Option.some.inj h⟩
 ·rw[if_neg z] at h;exact nn h
end _D
end
section
namespace _D
open PySem PySem.Spec PyProof.Rows _L
abbrev DE:=qC→Sto→Res D
abbrev DT:=qC→Sto→Res Bool
abbrev DA:=qC→Sto→Res (List D)
inductive Out where
 |nx (env:qC) (S:Sto)|rt (d:D) (S:Sto)|bk (env:qC) (S:Sto)|ct (env:qC) (S:Sto)|ex (c:Value) (x:D) (env:qC) (S:Sto)|bad
abbrev DS:=qC→Sto→Out
def Old (X:Cx)(pins:List (Addr × Obj))(H:Hp)(b:Addr):Prop:=
 (∃ o,X.s₀.heap.get? b=some o)∨H b≠none∨(∃ p∈X.pn++pins,p.1=b)∨∃ x,X.env.cells.lookup x=some b
def Cv (X:Cx)(pins:List (Addr × Obj))(H:Hp)(B h:Heap):Prop:=∀ b o,h.get? b=some o→Old X pins H b→b ∉ frs X.stack→B.get? b=some o
inductive FlyX (X:Cx)(pins:List (Addr × Obj))(H:Hp)(c:Value)(e:Addr)(h:Heap):Prop where
 |new (g:Heap) (args:List Value):Heap.MadeExcOf g h e c args→g.FunFrames X.base X.stack→(∀ b o,h.get? b=some o→Old X pins H b→g.get? b=some o)→FlyX X pins H c e h
 |fly (B:Heap) (a0:Value):Heap.FlyingW B X.stack e c a0 h→Cv X pins H B h→FlyX X pins H c e h
inductive XOk (X:Cx)(P:Hp)(α : List Addr)(c:Value)(x:D)(S:Sto)(u:Value)(s:Shared):Prop
 |mk (e:Addr) (pins:List (Addr × Obj)) (σ : _L.St) (H:Hp) (P':Hp) (α' : List Addr) (e1:u=.ref e) (I:Inv X pins σ H s) (r:Rel X.K H P' α' S) (q1:qG P P') (q2:α<+:α') (q3:X.ex=[]∧X.stack=X.env::X.outer∧X.env.frame=some X.env.locals) (q4:FlyX X pins H c e s.heap):XOk X P α c x S u s
theorem XOk.base {X:Cx}{P P1:Hp}{α α1:List Addr}{c:Value}{x:D}{S:Sto}{u:Value}{s:Shared}(e:qG P P1)(h:α<+:α1)(k:XOk X P1 α1 c x S u s):XOk X P α c x S u s:=by
 obtain⟨a,pins,σ,H,P',α',e1,I,r,q1,q2,q3,q4⟩:=k
 exact⟨a,pins,σ,H,P',α',e1,I,r,e.trans q1,h.trans q2,q3,q4⟩
section
variable (X:Cx)
def qK {β : Type}(P:Hp)(α : List Addr)(r:Res β)(Ok:β→Sto→Prop):Prop:=
 match r with
 |.ok d S'=>Ok d S'
 |.ex c x S'=>∀ u s',XOk X P α c x S' u s'→X.xe u s'
 |.bad=>False
def OkV (P:Hp)(α : List Addr)(Q:VK)(d:D)(S':Sto):Prop:=∀ v H' P' α',Rel X.K H' P' α' S'→qG P P'→α<+:α'→Rep X.K P' α' d v→Q v H'
def OkT (P:Hp)(α : List Addr)(Q:Bool→Hp→Prop)(b:Bool)(S':Sto):Prop:=∀ H' P' α',Rel X.K H' P' α' S'→qG P P'→α<+:α'→Q b H'
def OkA (P:Hp)(α : List Addr)(Q:List V→Hp→Prop)(ds:List D)(S':Sto):Prop:=∀ vs H' P' α',Rel X.K H' P' α' S'→qG P P'→α<+:α'→qE X.K P' α' ds vs→Q vs H'
abbrev zC (P:Hp)(α : List Addr)(r:Res D)(Q:VK):Prop:=qK X P α r (OkV X P α Q)
abbrev y9 (P:Hp)(α : List Addr)(r:Res Bool)(Q:Bool→Hp→Prop):Prop:=qK X P α r (OkT X P α Q)
abbrev p9 (P:Hp)(α : List Addr)(r:Res (List D))(Q:List V→Hp→Prop):Prop:=qK X P α r (OkA X P α Q)
def zF (P:Hp)(α : List Addr)(r:Out)(D:Ends):Prop:=
 match r with
 |.nx env' S'=>∀ σ' H' P' α',Rel X.K H' P' α' S'→zG X.K P' α' σ' env'→qG P P'→α<+:α'→D.nx σ' H'
 |.bk env' S'=>∀ σ' H' P' α',Rel X.K H' P' α' S'→zG X.K P' α' σ' env'→qG P P'→α<+:α'→D.bk σ' H'
 |.ct env' S'=>∀ σ' H' P' α',Rel X.K H' P' α' S'→zG X.K P' α' σ' env'→qG P P'→α<+:α'→D.ct σ' H'
 |.rt d S'=>∀ v H' P' α',Rel X.K H' P' α' S'→qG P P'→α<+:α'→Rep X.K P' α' d v→D.rt v H'
 |.ex c x _ S'=>∀ u s',XOk X P α c x S' u s'→X.xe u s'
 |.bad=>False
inductive tD (f:DE)(σ : _L.St)(H:Hp)(Q:VK):Prop
 |mk (P:Hp) (α : List Addr) (env:qC) (S:Sto) (r:Rel X.K H P α S) (re:zG X.K P α σ env) (af:zC X P α (f env S) Q):tD f σ H Q
inductive tDT (f:DT)(σ : _L.St)(H:Hp)(Q:Bool→Hp→Prop):Prop
 |mk (P:Hp) (α : List Addr) (env:qC) (S:Sto) (r:Rel X.K H P α S) (re:zG X.K P α σ env) (af:y9 X P α (f env S) Q):tDT f σ H Q
inductive tDA (f:DA)(σ : _L.St)(H:Hp)(Q:List V→Hp→Prop):Prop
 |mk (P:Hp) (α : List Addr) (env:qC) (S:Sto) (r:Rel X.K H P α S) (re:zG X.K P α σ env) (af:p9 X P α (f env S) Q):tDA f σ H Q
inductive tDS (f:DS)(D:Ends)(σ : _L.St)(H:Hp):Prop
 |mk (P:Hp) (α : List Addr) (env:qC) (S:Sto) (r:Rel X.K H P α S) (re:zG X.K P α σ env) (af:zF X P α (f env S) D):tDS f D σ H
end
section
variable {X:Cx}{P P1:Hp}{α α1:List Addr}
theorem zC.base {r:Res D}{Q:VK}(e:qG P P1)(h:α<+:α1)(k:zC X P α r Q):zC X P1 α1 r Q:=by
 cases r with
 |ok d S=>exact fun v H' P' α' r q1 q2 q3=>k v H' P' α' r (e.trans q1) (h.trans q2) q3
 |ex c x S=>exact fun u s' q=>k u s' (q.base e h)
 |bad=>exact k
theorem y9.base {r:Res Bool}{Q:Bool→Hp→Prop}(e:qG P P1)(h:α<+:α1)(k:y9 X P α r Q):y9 X P1 α1 r Q:=by
 cases r with
 |ok d S=>exact fun H' P' α' r q1 q2=>k H' P' α' r (e.trans q1) (h.trans q2)
 |ex c x S=>exact fun u s' q=>k u s' (q.base e h)
 |bad=>exact k
theorem p9.base {r:Res (List D)}{Q:List V→Hp→Prop}(e:qG P P1)(h:α<+:α1)(k:p9 X P α r Q):p9 X P1 α1 r Q:=by
 cases r with
 |ok d S=>exact fun v H' P' α' r q1 q2 q3=>k v H' P' α' r (e.trans q1) (h.trans q2) q3
 |ex c x S=>exact fun u s' q=>k u s' (q.base e h)
 |bad=>exact k
theorem zF.base {r:Out}{D:Ends}(e:qG P P1)(h:α<+:α1)(k:zF X P α r D):zF X P1 α1 r D:=by
 cases r with
 |nx env S=>exact fun v H' P' α' r q0 q1 q2=>k v H' P' α' r q0 (e.trans q1) (h.trans q2)
 |bk env S=>exact fun v H' P' α' r q0 q1 q2=>k v H' P' α' r q0 (e.trans q1) (h.trans q2)
 |ct env S=>exact fun v H' P' α' r q0 q1 q2=>k v H' P' α' r q0 (e.trans q1) (h.trans q2)
 |rt d S=>exact fun v H' P' α' r q1 q2 q3=>k v H' P' α' r (e.trans q1) (h.trans q2) q3
 |ex c x env S=>exact fun u s' q=>k u s' (q.base e h)
 |bad=>exact k
theorem xr {Q:VK}{v:V}{H:Hp}{d:D}{S:Sto}(k:OkV X P α Q d S)(r:Rel X.K H P α S)(q:Rep X.K P α d v):Q v H:=k v H P α r (qG.refl _) (List.prefix_refl _) q
end
section
variable {X:Cx}{a b e:Expr}{pos:Pos}
theorem peW {t t':TE}(h:PE X e t)(w:∀ σ H Q,t' σ H Q→t σ H Q):PE X e t':=fun pins s σ H Q I q=>h pins s σ H Q I (w σ H Q q)
theorem psW {st:Stmt}{t t':TS}(h:PS X st t)(w:∀ D σ H,t' D σ H→t D σ H):PS X st t':=fun pins s σ H D I q=>h pins s σ H D I (w D σ H q)
theorem FQ {st:List Stmt}{t t':TS}(h:PSs X st t)(w:∀ D σ H,t' D σ H→t D σ H):PSs X st t':=fun pins s σ H D I q=>h pins s σ H D I (w D σ H q)
theorem paW {es:List Expr}{t t':TA}(h:PA X es t)(w:∀ σ H Q,t' σ H Q→t σ H Q):PA X es t':=fun pos pins s σ H Q I q=>h pos pins s σ H Q I (w σ H Q q)
structure Got (X:Cx)(pins:List (Addr × Obj))(σ : _L.St)(env:qC)(P:Hp)(α : List Addr)(u:Value)(s1:Shared)(v:V)(H1 P1:Hp)(α1:List Addr)(d:D)(S1:Sto):Prop where
 inv:Inv X pins σ H1 s1
 val:qJ v u
 rel:Rel X.K H1 P1 α1 S1
 env:zG X.K P1 α1 σ env
 rep:Rep X.K P1 α1 d v
 same:qG P P1
 pre:α<+:α1
inductive GotG (X:Cx)(pins:List (Addr × Obj))(σ : _L.St)(env:qC)(P:Hp)(α : List Addr)(u:Value)(s1:Shared){γ : Type}(g:D→Sto→Res γ)(Ok:γ→Sto→Prop):Prop
 |mk (v:V) (H1 P1:Hp) (α1:List Addr) (d:D) (S1:Sto) (G:Got X pins σ env P α u s1 v H1 P1 α1 d S1) (q:qK X P α (g d S1) Ok):GotG X pins σ env P α u s1 g Ok
inductive GotAG (X:Cx)(pins:List (Addr × Obj))(σ : _L.St)(env:qC)(P:Hp)(α : List Addr)(us:List Value)(s1:Shared){γ : Type}(g:List D→Sto→Res γ)(Ok:γ→Sto→Prop):Prop
 |mk (vs:List V) (H1 P1:Hp) (α1:List Addr) (ds:List D) (S1:Sto) (I:Inv X pins σ H1 s1) (rv:qN vs us) (r:Rel X.K H1 P1 α1 S1) (re:zG X.K P1 α1 σ env) (rp:qE X.K P1 α1 ds vs) (e1:qG P P1) (e2:α<+:α1) (q:qK X P α (g ds S1) Ok):GotAG X pins σ env P α us s1 g Ok
inductive GotT (X:Cx)(pins:List (Addr × Obj))(σ : _L.St)(env:qC)(P:Hp)(α : List Addr)(b:Bool)(s1:Shared){γ : Type}(g:Bool→Sto→Res γ)(Ok:γ→Sto→Prop):Prop
 |mk (H1 P1:Hp) (α1:List Addr) (S1:Sto) (I:Inv X pins σ H1 s1) (r:Rel X.K H1 P1 α1 S1) (re:zG X.K P1 α1 σ env) (e1:qG P P1) (e2:α<+:α1) (q:qK X P α (g b S1) Ok):GotT X pins σ env P α b s1 g Ok
theorem xB {γ : Type}{f:DE}{g:D→Sto→Res γ}{Ok:γ→Sto→Prop}{pins:List (Addr × Obj)}{s:Shared}{σ : _L.St}{H P:Hp}{α : List Addr}{env:qC}{S:Sto}(he:PE X e (tD X f))(I:Inv X pins σ H s)(r:Rel X.K H P α S)
  (re:zG X.K P α σ env) (af:qK X P α ((f env S).bind g) Ok) :
  wpAny (model X.prog X.w) X.A (eval e X.env) (fun u s1=>GotG X pins σ env P α u s1 g Ok) X.xe s:=by
 refine thn (he pins s σ H (fun v H1=>∃ P1 α1 d S1,Rel X.K H1 P1 α1 S1∧zG X.K P1 α1 σ env∧Rep X.K P1 α1 d v∧qG P P1∧α<+:α1∧qK X P α (g d S1) Ok) I ⟨P,α,env,S,r,re,?_⟩) fun u s1 ⟨v,H1,I1,rv,P1,α1,d,S1,q1,q2,q3,q4,q5,q6⟩=>⟨v,H1,P1,α1,d,S1,⟨I1,rv,q1,q2,q3,q4,q5⟩,q6⟩
 cases q:f env S with
 |bad=>rw[q] at af;exact af
 |ex c x S'=>rw[q] at af;exact af
 |ok d S' =>
  rw[q] at af
  exact fun v H' P' α' r' e1 e2 rp=>⟨P',α',d,S',r',re.mono e1 e2,rp,e1,e2,af⟩
theorem yZ {γ : Type}{es:List Expr}{f:DA}{g:List D→Sto→Res γ}{Ok:γ→Sto→Prop}{pins:List (Addr × Obj)}{s:Shared}{σ : _L.St}{H P:Hp}{α : List Addr}{env:qC}{S:Sto}(he:PA X es (tDA X f))(I:Inv X pins σ H s)(r:Rel X.K H P α S)
  (re:zG X.K P α σ env) (af:qK X P α ((f env S).bind g) Ok) (pos:Pos) :
  wpAny (model X.prog X.w) X.A (spliced (backTo pos (starEach es X.env))) (fun us s1=>GotAG X pins σ env P α us s1 g Ok) X.xe s:=by
 refine thn (he pos pins s σ H (fun vs H1=>∃ P1 α1 ds S1,Rel X.K H1 P1 α1 S1∧zG X.K P1 α1 σ env∧qE X.K P1 α1 ds vs∧qG P P1∧α<+:α1∧qK X P α (g ds S1) Ok) I ⟨P,α,env,S,r,re,?_⟩) fun u s1 ⟨v,H1,I1,rv,P1,α1,d,S1,q1,q2,q3,q4,q5,q6⟩=>⟨v,H1,P1,α1,d,S1,I1,rv,q1,q2,q3,q4,q5,q6⟩
 cases q:f env S with
 |bad=>rw[q] at af;exact af
 |ex c x S'=>rw[q] at af;exact af
 |ok d S' =>
  rw[q] at af
  exact fun v H' P' α' r' e1 e2 rp=>⟨P',α',d,S',r',re.mono e1 e2,rp,e1,e2,af⟩
theorem pF {γ : Type}{f:DT}{g:Bool→Sto→Res γ}{Ok:γ→Sto→Prop}{pins:List (Addr × Obj)}{s:Shared}{σ : _L.St}{H P:Hp}{α : List Addr}{env:qC}{S:Sto}{m:Sem Bool}
  (he:∀ (Q:Bool→Hp→Prop),tDT X f σ H Q→wpAny (model X.prog X.w) X.A m (TP X pins σ Q) X.xe s) (r:Rel X.K H P α S) (re:zG X.K P α σ env) (af:qK X P α ((f env S).bind g) Ok) :
  wpAny (model X.prog X.w) X.A m (fun b s1=>GotT X pins σ env P α b s1 g Ok) X.xe s:=by
 refine thn (he (fun b H1=>∃ P1 α1 S1,Rel X.K H1 P1 α1 S1∧zG X.K P1 α1 σ env∧qG P P1∧α<+:α1∧qK X P α (g b S1) Ok) ⟨P,α,env,S,r,re,?_⟩) fun b s1 ⟨H1,I1,P1,α1,S1,q1,q2,q4,q5,q6⟩=>⟨H1,P1,α1,S1,I1,q1,q2,q4,q5,q6⟩
 cases q:f env S with
 |bad=>rw[q] at af;exact af
 |ex c x S'=>rw[q] at af;exact af
 |ok d S' =>
  rw[q] at af
  exact fun H' P' α' r' e1 e2=>⟨P',α',S',r',re.mono e1 e2,e1,e2,af⟩
def dC (d:D):DE:=fun _ S=>.ok d S
def qA (i:Nat):DE:=fun env S=>match env[i]? with
 |some (some d)=>.ok d S
 |_=>.bad
theorem GY {i j}:PE X (.Constant (.int i) j pos) (tD X (dC (.int i))):=peW FE fun σ H Q ⟨P,α,env,S,r,re,af⟩=>xr af r (by simp only[Rep])
theorem TV {i j}:PE X (.Constant (.bool i) j pos) (tD X (dC (.bl i))):=peW NY fun σ H Q ⟨P,α,env,S,r,re,af⟩=>xr af r (by simp only[Rep])
theorem P9 {i j}:PE X (.Constant (.str i) j pos) (tD X (dC (.str i))):=peW FG fun σ H Q ⟨P,α,env,S,r,re,af⟩=>xr af r (by simp only[Rep])
set_option tactic.hygienic true in
theorem KG {i:Nat}{σ : _L.St}{H:Hp}{Q:VK}(h:tD X (qA i) σ H Q):MX i σ H Q:=by
 obtain⟨P,α,env,S,r,re,af⟩:=h
 unfold qA at af
 split at af
 ·rename_i d q
  obtain⟨v,h1,h2⟩:=re.2 i d q
  exact⟨v,h1,xr af r h2⟩
 ·exact False.elim af
theorem dv (i:Nat){x:Str}(hN:X.N[i]? = some x:=by rfl)(hv:Vis X.env.scope x:=by first|exact Or.inl rfl|exact Or.inr (Or.inl rfl)|exact Or.inr (Or.inr rfl))(hd:(x == ("__debug__" : Str))=false:=by decide)
  (hcd:(x == ("__classdict__" : Str))=false:=by decide):PE X (.Name x pos) (tD X (qA i)):=peW (FI hN hv hd hcd) fun σ H Q h=>KG h
theorem VP {x:Str}{d:D}{v:V}{u:Value}(hg:Gl X x)(hm:X.mg x=some u)(r:qJ v u)(q:∀ P α,Rep X.K P α d v)(hd:(x == ("__debug__" : Str))=false:=by decide):PE X (.Name x pos) (tD X (dC d)):=
 peW (JG hg hm r hd) fun σ H Q ⟨P,α,env,S,r,re,af⟩=>xr af r (q _ _)
theorem VN {x:Str}{n:String}(hg:Gl X x)(hm:X.mg x=none)(hv:bootBuiltins x=some (.type n))(hn:x ≠ "__name__":=by decide)(hd:(x == ("__debug__" : Str))=false:=by decide):PE X (.Name x pos) (tD X (dC (.ty n))):=
 peW (JF (v:=.ty n) hg hm hv rfl hn hd) fun σ H Q ⟨P,α,env,S,r,re,af⟩=>xr af r (by simp only[Rep])
abbrev G2:=D→D→Sto→Res D
def OpD (X:Cx)(f:Value→Value→Sem Value)(g:G2):Prop:=
 ∀ (pins:List (Addr × Obj)) (σ : _L.St) (H:Hp) (s:Shared) (P:Hp) (α : List Addr) (S:Sto) (v u:V) (vv uu:Value) (a b:D) (Q:VK),Inv X pins σ H s→Rel X.K H P α S→qJ v vv→qJ u uu→Rep X.K P α a v→Rep X.K P α b u→zC X P α (g a b S) Q →
  wpAny (model X.prog X.w) X.A (f vv uu) (EP X pins σ Q) X.xe s
theorem OpD.of {f:Value→Value→Sem Value}{r:R2}{g:G2}(h:OpR X f r)(w:∀ H P α S v u a b Q,Rel X.K H P α S→Rep X.K P α a v→Rep X.K P α b u→zC X P α (g a b S) Q→r v u H Q):OpD X f g:=
 fun pins σ H s P α S v u vv uu a b Q I rl r1 r2 p1 p2 af=>h pins s σ H v u vv uu Q I r1 r2 (w H P α S v u a b Q rl p1 p2 af)
def UnD (X:Cx)(f:Value→Sem Value)(g:D→Sto→Res D):Prop:=
 ∀ (pins:List (Addr × Obj)) (σ : _L.St) (H:Hp) (s:Shared) (P:Hp) (α : List Addr) (S:Sto) (v:V) (vv:Value) (a:D) (Q:VK),Inv X pins σ H s→Rel X.K H P α S→qJ v vv→Rep X.K P α a v→zC X P α (g a S) Q →
  wpAny (model X.prog X.w) X.A (f vv) (EP X pins σ Q) X.xe s
def IxD (X:Cx)(g:G2):Prop:=
 ∀ (value slice:Expr) (pins:List (Addr × Obj)) (σ : _L.St) (H:Hp) (s:Shared) (P:Hp) (α : List Addr) (S:Sto) (v u:V) (vv uu:Value) (a b:D) (Q:VK),Inv X pins σ H s→Rel X.K H P α S→qJ v vv→qJ u uu→Rep X.K P α a v→Rep X.K P α b u→zC X P α (g a b S) Q →
  subscripted slice false vv uu=operate [vv,uu] (getItem vv uu)→wpAny (model X.prog X.w) X.A (subscriptTail value slice vv uu) (EP X pins σ Q) X.xe s
def y7 (X:Cx)(f:Value)(g:List D→Sto→Res D):Prop:=
 ∀ (pins:List (Addr × Obj)) (σ : _L.St) (H:Hp) (s:Shared) (P:Hp) (α : List Addr) (S:Sto) (vs:List V) (us:List Value) (ds:List D) (Q:VK),Inv X pins σ H s→Rel X.K H P α S→qN vs us→qE X.K P α ds vs→zC X P α (g ds S) Q →
  wpAny (model X.prog X.w) X.A (call f us) (EP X pins σ Q) X.xe s
def d2 (g:G2)(fa fb:DE):DE:=fun env S=>(fa env S).bind fun x S1=>(fb env S1).bind fun y S2=>g x y S2
def d1 (g:D→Sto→Res D)(fa:DE):DE:=fun env S=>(fa env S).bind g
variable {fa fb:DE}
theorem dY {g:G2}{f:Value→Value→Sem Value}{pins:List (Addr × Obj)}{s:Shared}{σ : _L.St}{H:Hp}{Q:VK}(ho:OpD X f g)(ha:PE X a (tD X fa))(hb:PE X b (tD X fb))(I:Inv X pins σ H s)(h:tD X (d2 g fa fb) σ H Q) :
  wpAny (model X.prog X.w) X.A (eval a X.env) (fun v s₁=>wpAny (model X.prog X.w) X.A (eval b X.env) (fun u s₂=>wpAny (model X.prog X.w) X.A (f v u) (EP X pins σ Q) X.xe s₂) X.xe s₁) X.xe s:=by
 obtain⟨P,α,env,S,r,re,af⟩:=h
 refine thn (xB ha I r re af) fun vv s1 ⟨v,H1,P1,α1,d,S1,G1,af1⟩=>?_
 refine thn (xB hb G1.inv G1.rel G1.env (P:=P1) (α:=α1) (Ok:=OkV X P1 α1 Q) (g:=fun y S2=>g d y S2) ?_) fun uu s2 ⟨u,H2,P2,α2,d',S2,G2,af2⟩=>?_
 ·exact zC.base G1.same G1.pre af1
 ·exact ho pins σ H2 s2 P2 α2 S2 v u vv uu d d' Q G2.inv G2.rel G1.val G2.val (Rep.mono G2.same G2.pre _ _ G1.rep) G2.rep (zC.base G2.same G2.pre af2)
theorem TY {op:Operator}{g:G2}(ho:OpD X (binaryOp op) g)(ha:PE X a (tD X fa))(hb:PE X b (tD X fb)):PE X (.BinOp a op b pos) (tD X (d2 g fa fb)):=
 fun pins s σ H Q I h=>wpAny_BinOp (dY ho ha hb I h)
theorem GW {op:CmpOp}{g:G2}(ho:OpD X (compareOp op) g)(ha:PE X a (tD X fa))(hb:PE X b (tD X fb))(hm:behindInMarks op b=false:=by first|exact pL _|with_unfolding_all rfl):PE X (.Compare a [op] [b] pos) (tD X (d2 g fa fb)):=
 fun pins s σ H Q I h=>wpAny_Compare1 (dY ho ha hb I h) hm
theorem N0 {op:UnaryOp}{g:D→Sto→Res D}(ho:UnD X (unaryOp op) g)(ha:PE X a (tD X fa)):PE X (.UnaryOp op a pos) (tD X (d1 g fa)):=by
 intro pins s σ H Q I h
 obtain⟨P,α,env,S,r,re,af⟩:=h
 exact UnaryOp_ (thn (xB ha I r re af) fun vv s1 ⟨v,H1,P1,α1,d,S1,G1,af1⟩=>ho pins σ H1 s1 P1 α1 S1 v vv d Q G1.inv G1.rel G1.val G1.rep (zC.base G1.same G1.pre af1))
theorem TX {g:G2}(ho:IxD X g)(ha:PE X a (tD X fa))(hb:PE X b (tD X fb))(hs:tE b:=by intro _ _;rfl):PE X (.Subscript a b pos) (tD X (d2 g fa fb)):=by
 intro pins s σ H Q I h
 obtain⟨P,α,env,S,r,re,af⟩:=h
 have IxR':IxR X (fun x y H Q=>∃ P α S a b,Rel X.K H P α S∧Rep X.K P α a x∧Rep X.K P α b y∧zC X P α (g a b S) Q):=fun value slice pins s σ H x y v u Q I rx ry ⟨P,α,S,a,b,r,p1,p2,af⟩ hsl =>
  ho value slice pins σ H s P α S x y v u a b Q I r rx ry p1 p2 af hsl
 refine peW (NZ IxR' ha hb hs) (t':=tD X (d2 g fa fb)) (fun σ H Q h=>?_) pins s σ H Q I ⟨P,α,env,S,r,re,af⟩
 obtain⟨P,α,env,S,r,re,af⟩:=h
 refine⟨P,α,env,S,r,re,?_⟩
 unfold d2 at af
 cases q:fa env S with
 |bad=>rw[q] at af;exact af
 |ex c x S'=>rw[q] at af;exact af
 |ok d S1 =>
  rw[q] at af
  intro v H1 P1 α1 r1 e1 e2 rp
  refine⟨P1,α1,env,S1,r1,re.mono e1 e2,?_⟩
  have af':zC X P α ((fb env S1).bind fun y S2=>g d y S2) Q:=af
  cases q2:fb env S1 with
  |bad=>rw[q2] at af';exact af'
  |ex c x S'=>rw[q2] at af';exact fun u s' z=>af' u s' (z.base e1 e2)
  |ok d' S2 =>
   rw[q2] at af'
   intro u H2 P2 α2 r2 e3 e4 rp2
   exact⟨P2,α2,S2,d,d',r2,Rep.mono e3 e4 _ _ rp,rp2,zC.base (e1.trans e3) (e2.trans e4) af'⟩
def qB:DA:=fun _ S=>.ok [] S
def q9 (f:DE)(g:DA):DA:=fun env S=>(f env S).bind fun x S1=>(g env S1).bind fun xs S2=>.ok (x::xs) S2
theorem GT:PA X [] (tDA X qB):=paW FD fun σ H Q ⟨P,α,env,S,r,re,af⟩=>af [] H P α r (qG.refl _) (List.prefix_refl _) .nil
theorem VM {es:List Expr}{g:DA}(ha:PE X e (tD X fa))(hr:PA X es (tDA X g))(hs:starEach (e::es) X.env=(false,eval e X.env)::starEach es X.env:=by rfl):PA X (e::es) (tDA X (q9 fa g)):=by
 intro pos pins s σ H Q I h
 obtain⟨P,α,env,S,r,re,af⟩:=h
 rw[hs]
 show wpAny _ _ (spliced ((false,eval e X.env)::backTo pos (starEach es X.env))) _ _ s
 refine Calls.spliced_cons (thn (xB ha I r re af) fun u s1 ⟨x,H1,P1,α1,d,S1,G1,af1⟩=>?_)
 refine thn (yZ hr G1.inv G1.rel G1.env (P:=P1) (α:=α1) (Ok:=OkA X P1 α1 Q) (p9.base G1.same G1.pre af1) pos) fun us s2 ⟨xs,H2,P2,α2,ds,S2,I2,rv,r2,re2,rp2,e1,e2,af2⟩=>?_
 exact⟨x::xs,H2,I2,.cons G1.val rv,af2 _ _ _ _ r2 e1 e2 (.cons (Rep.mono e1 e2 _ _ G1.rep) rp2)⟩
def lim:Nat:=16777216
theorem xJ:lim=sizeLine:=sizeLine_eq.symm
def zP (f:DA):DE:=fun env S=>(f env S).bind fun xs S1=>if xs.length≤lim then .ok (.tup xs) S1 else .bad
def uP (f:DA):DE:=fun env S=>(f env S).bind fun xs S1=>if xs.length≤lim then .ok (.lst xs) S1 else .bad
def dD (f:DA):DE:=fun env S=>(f env S).bind fun xs S1=>if xs.length≤lim then .ok (.loc S1.length) (S1++[.lst xs]) else .bad
theorem bG {K:PySem.W.Frag}{P:Hp}{α : List Addr}{a:Addr}{ds:List D}{vs:List V}(h:SqT K P a vs)(r:qE K P α ds vs):Rep K P α (.tup ds) (.ref a):=by simp only[Rep];exact⟨a,vs,rfl,h,r⟩
theorem kN {K:PySem.W.Frag}{P:Hp}{α : List Addr}{a:Addr}{ds:List D}{vs:List V}(h:SqX K P a vs)(r:qE K P α ds vs):Rep K P α (.lst ds) (.ref a):=by simp only[Rep];exact⟨a,vs,rfl,h,r⟩
theorem gM {H P:Hp}{α : List Addr}{S:Sto}{p:Addr}{ds:List D}{vs:List V}{Q:VK}(r:Rel X.K H P α S)(hp:H p=none)(rp:qE X.K P α ds vs)(af:OkV X P α Q (.tup ds) S):Q (.ref p) (upd H p (.tup vs)):=by
 obtain⟨r1,e1⟩:=r.pure (o:=.tup vs) hp
 exact af _ _ _ α r1 e1 (List.prefix_refl _) (bG (.of z0) (qE.mono e1 (List.prefix_refl _) _ _ rp))
theorem jL {H P:Hp}{α : List Addr}{S:Sto}{p:Addr}{ds:List D}{vs:List V}{Q:VK}(r:Rel X.K H P α S)(hp:H p=none)(rp:qE X.K P α ds vs)(af:OkV X P α Q (.lst ds) S):Q (.ref p) (upd H p (.lst vs)):=by
 obtain⟨r1,e1⟩:=r.pure (o:=.lst vs) hp
 exact af _ _ _ α r1 e1 (List.prefix_refl _) (kN (.inl (.inl z0)) (qE.mono e1 (List.prefix_refl _) _ _ rp))
theorem cE {H P:Hp}{α : List Addr}{S:Sto}{p:Addr}{ds:List D}{vs:List V}{Q:VK}(r:Rel X.K H P α S)(hp:H p=none)(rp:qE X.K P α ds vs)(af:OkV X P α Q (.loc S.length) (S++[.lst ds])):Q (.ref p) (upd H p (.lst vs)):=by
 have hpre:α<+:α++[p]:=List.prefix_append _ _
 have r1:=r.new (o:=.lst vs) (m:=.lst ds) hp ⟨vs,z0,qE.mono (qG.refl _) hpre _ _ rp⟩
 refine af _ _ _ _ r1 (qG.refl _) hpre ?_
 simp only[Rep]
 exact⟨p,rfl,by rw[← r.len];simp⟩
theorem tM {f:DA}{σ : _L.St}{H:Hp}{Q:VK}{G:List D→Sto→Res D}{mk:List V→HO}(h:tD X (fun env S=>(f env S).bind fun xs S1=>if xs.length≤lim then G xs S1 else .bad) σ H Q)
  (k:∀ H1 P1 α1 S1 ds vs p,Rel X.K H1 P1 α1 S1→H1 p=none→qE X.K P1 α1 ds vs→zC X P1 α1 (G ds S1) Q→Q (.ref p) (upd H1 p (mk vs))) :
  tDA X f σ H fun vs H1=>vs.length≤sizeLine∧∀ p,H1 p=none→Q (.ref p) (upd H1 p (mk vs)):=by
 obtain⟨P,α,env,S,r,re,af⟩:=h
 refine⟨P,α,env,S,r,re,?_⟩
 have af':zC X P α ((f env S).bind fun xs S1=>if xs.length≤lim then G xs S1 else .bad) Q:=af
 cases q:f env S with
 |bad=>rw[q] at af';exact af'
 |ex c x S'=>rw[q] at af';exact af'
 |ok ds S1 =>
  rw[q] at af'
  intro vs H1 P1 α1 r1 e1 e2 rp
  have af2:zC X P α (if ds.length≤lim then G ds S1 else .bad) Q:=af'
  by_cases hl:ds.length≤lim
  ·rw[if_pos hl] at af2
   exact⟨by rw[← rp.length,← xJ];exact hl,fun p hp=>k H1 P1 α1 S1 ds vs p r1 hp rp (zC.base e1 e2 af2)⟩
  ·rw[if_neg hl] at af2;exact False.elim af2
theorem PB {es:List Expr}{f:DA} {x1} (h:PA X es (tDA X f)):PE X (.Tuple es x1 pos) (tD X (zP f)):=
 peW (FH h) fun σ H Q q=>tM (G:=fun xs S1=>.ok (.tup xs) S1) (mk:=.tup) q fun H1 P1 α1 S1 ds vs p r hp rp af=>gM r hp rp af
theorem GZ {es:List Expr}{f:DA}(h:PA X es (tDA X f)):PE X (.List es pos) (tD X (uP f)):=
 peW (QJ h) fun σ H Q q=>tM (G:=fun xs S1=>.ok (.lst xs) S1) (mk:=.lst) q fun H1 P1 α1 S1 ds vs p r hp rp af=>jL r hp rp af
theorem VQ {es:List Expr}{f:DA}(h:PA X es (tDA X f)):PE X (.List es pos) (tD X (dD f)):=
 peW (QJ h) fun σ H Q q=>tM (G:=fun xs S1=>.ok (.loc S1.length) (S1++[MO.lst xs])) (mk:=.lst) q fun H1 P1 α1 S1 ds vs p r hp rp af=>cE r hp rp af
end
end _D
end
section
namespace _D
open PySem PySem.Spec PyProof.Rows _L
section
variable {X:Cx}{a b c e:Expr}{pos:Pos}{fa fb fc:DE}{ta tb:DT}
def xM:D→Sto→Option Bool
 |.non,_=>some false
 |.bl b,_=>some b
 |.int i,_=>some (i != 0)
 |.str x,_=>if x.length≤lim then some ((x.length:Int) != 0) else none
 |.tup xs,_=>some (!xs.isEmpty)
 |.lst xs,_=>some (!xs.isEmpty)
 |.dct0,_=>some false
 |.loc i,S=>match S[i]? with
  |some (.lst xs)=>some (!xs.isEmpty)
  |some (.dct kvs)=>some (!kvs.isEmpty)
  |_=>none
 |_,_=>none
theorem qE.isEmpty {K:PySem.W.Frag}{P:Hp}{α : List Addr}{ds:List D}{vs:List V}(r:qE K P α ds vs):(!ds.isEmpty)=!vs.isEmpty:=by
 cases ds with
 |nil=>rw[r.nil_inv];rfl
 |cons d ds=>obtain⟨w,ws,rfl,_,_⟩:=r.cons_inv;rfl
theorem wF {K:PySem.W.Frag}{H P:Hp}(e:qG P H){a:Addr}{xs:List V}(h:SqT K P a xs):SqT K H a xs:=u4 e h
theorem u7 {H P:Hp}{α : List Addr}{S:Sto}{v:V}{d:D}{k:Bool}(r:Rel X.K H P α S)(p:Rep X.K P α d v)(h:xM d S=some k):aD X.K v H k:=by
 cases d with
 |non=>simp only[Rep] at p;subst p;cases h;rfl
 |bl b=>simp only[Rep] at p;subst p;cases h;rfl
 |int i=>simp only[Rep] at p;subst p;cases h;rfl
 |str x =>
  simp only[Rep] at p;subst p
  obtain⟨hl,rfl⟩:=jJ h
  exact⟨by rw[← xJ];exact hl,rfl⟩
 |tup xs =>
  simp only[Rep] at p
  obtain⟨a,vs,rfl,q,t⟩:=p
  cases h
  exact .inr (.inl ⟨vs,wF r.sub q,t.isEmpty⟩)
 |lst xs =>
  simp only[Rep] at p
  obtain⟨a,vs,rfl,q,t⟩:=p
  cases h
  exact .inl ⟨vs,(w6 r.sub q).l,t.isEmpty⟩
 |dct0 =>
  simp only[Rep] at p
  obtain⟨a,rfl,q⟩:=p
  cases h
  exact .inr (.inr ⟨[],r.sub _ _ q,rfl⟩)
 |loc i =>
  simp only[Rep] at p
  obtain⟨a,rfl,q⟩:=p
  have h:(match S[i]? with|some (.lst xs)=>some (!xs.isEmpty)|some (.dct kvs)=>some (!kvs.isEmpty)|_=>none)=some k:=h
  cases hs:S[i]? with
  |none=>rw[hs] at h;exact nn h
  |some m =>
   rw[hs] at h
   cases m with
   |lst xs =>
    cases h
    obtain⟨vs,z,t⟩:=r.at' i a _ q hs
    exact .inl ⟨vs,.of z,t.isEmpty⟩
   |dct kvs =>
    cases h
    obtain⟨vs,z,t⟩:=r.at' i a _ q hs
    refine .inr (.inr ⟨vs,z,?_⟩)
    cases t <;> rfl
   |_=>exact nn h
 |ty n=>exact nn h
 |obj a=>exact nn h
 |exn c=>exact nn h
 |fd ks ds=>exact nn h
theorem VC {pins:List (Addr × Obj)}{s:Shared}{σ : _L.St}{H P:Hp}{α : List Addr}{S:Sto}{v:V}{vv:Value}{d:D}{k:Bool}{Q:Bool→Hp→Prop}(I:Inv X pins σ H s)(r:Rel X.K H P α S)(rv:qJ v vv)(p:Rep X.K P α d v)(h:xM d S=some k)(q:Q k H) :
  wpAny (model X.prog X.w) X.A (truthy vv) (TP X pins σ Q) X.xe s:=pQ pins s σ H v vv Q I rv ⟨k,u7 r p h,q⟩
def k8 (o:Option Bool)(S:Sto):Res Bool:=match o with
 |some b=>.ok b S
 |none=>.bad
def dTr (f:DE):DT:=fun env S=>(f env S).bind fun d S1=>k8 (xM d S1) S1
theorem nK {o:Option Bool}{S:Sto}{P:Hp}{α : List Addr}{Ok:Bool→Sto→Prop}(h:qK X P α (k8 o S) Ok):∃ b,o=some b∧Ok b S:=by
 cases o with
 |none=>exact False.elim h
 |some b=>exact⟨b,rfl,h⟩
theorem PY (ha:PE X a (tD X fa))(he:∀ whole,isTrue a X.env whole=(do let v ← whole;standAt a.pos;holding [v] (truthy v)):=by intro _;rfl):PT X a (tDT X (dTr fa)):=by
 intro pins s σ H Q I h
 obtain⟨P,α,env,S,r,re,af⟩:=h
 refine isTrue_plain (thn (xB ha I r re af) fun vv s1 ⟨v,H1,P1,α1,d,S1,G1,af1⟩=>?_) (he _)
 obtain⟨k,e1,q⟩:=nK af1
 exact VC G1.inv G1.rel G1.val G1.rep e1 (q H1 P1 α1 G1.rel G1.same G1.pre)
theorem PV {op:CmpOp}{g:G2}(ho:OpD X (compareOp op) g)(ha:PE X a (tD X fa))(hb:PE X b (tD X fb))(hm:behindInMarks op b=false:=by first|exact pL _|with_unfolding_all rfl):PT X (.Compare a [op] [b] pos) (tDT X (dTr (d2 g fa fb))):=by
 intro pins s σ H Q I h
 obtain⟨P,α,env,S,r,re,af⟩:=h
 refine wpAny_isTrue_Compare1 ?_ hm
 have key:tD X (d2 g fa fb) σ H (fun v H1=>∃ k,aD X.K v H1 k∧Q k H1):=by
  refine⟨P,α,env,S,r,re,?_⟩
  have af':qK X P α ((d2 g fa fb env S).bind fun d S1=>k8 (xM d S1) S1) (OkT X P α Q):=af
  cases q:d2 g fa fb env S with
  |bad=>rw[q] at af';exact af'
  |ex c x S'=>rw[q] at af';exact af'
  |ok d S1 =>
   rw[q] at af'
   obtain⟨k,e1,qk⟩:=nK (X:=X) af'
   exact fun v H1 P1 α1 r1 e3 e4 rp=>⟨k,u7 r1 rp e1,qk H1 P1 α1 r1 e3 e4⟩
 exact thn (dY ho ha hb I key) fun v s1 h1=>thn h1 fun u s2 h2=>thn h2 fun x s3 ⟨y,H3,I3,r3,k,tk,qk⟩=>pQ pins s3 σ H3 y x Q I3 r3 ⟨k,tk,qk⟩
def wQ (g g':G2)(fa fb fc:DE):DE:=fun env S=>(fa env S).bind fun x S1=>(fb env S1).bind fun y S2=>(g x y S2).bind fun z S3 =>
 match xM z S3 with
 |some true=>(fc env S3).bind fun w S4=>g' y w S4
 |some false=>.ok z S3
 |none=>.bad
inductive GotO (X:Cx)(pins:List (Addr × Obj))(σ : _L.St)(P:Hp)(α : List Addr)(w:Value)(s1:Shared){γ : Type}(k:D→Sto→Res γ)(Ok:γ→Sto→Prop):Prop
 |mk (y:V) (H1 P1:Hp) (α1:List Addr) (d:D) (S1:Sto) (I:Inv X pins σ H1 s1) (rv:qJ y w) (r:Rel X.K H1 P1 α1 S1) (rp:Rep X.K P1 α1 d y) (e1:qG P P1) (e2:α<+:α1) (q:qK X P α (k d S1) Ok):GotO X pins σ P α w s1 k Ok
theorem rD {γ : Type}{f:Value→Value→Sem Value}{g:G2}{k:D→Sto→Res γ}{Ok:γ→Sto→Prop}{pins:List (Addr × Obj)}{σ : _L.St}{H:Hp}{s:Shared}{P:Hp}{α : List Addr}{S:Sto}{v u:V}{vv uu:Value}{a b:D}(ho:OpD X f g)(I:Inv X pins σ H s)(r:Rel X.K H P α S)
  (rv:qJ v vv) (ru:qJ u uu) (pa:Rep X.K P α a v) (pb:Rep X.K P α b u) (af:qK X P α ((g a b S).bind k) Ok) :
  wpAny (model X.prog X.w) X.A (f vv uu) (fun w s1=>GotO X pins σ P α w s1 k Ok) X.xe s:=by
 refine thn (ho pins σ H s P α S v u vv uu a b (fun y H1=>∃ P1 α1 d S1,Rel X.K H1 P1 α1 S1∧Rep X.K P1 α1 d y∧qG P P1∧α<+:α1∧qK X P α (k d S1) Ok) I r rv ru pa pb ?_) fun w s1 ⟨y,H1,I1,r1,P1,α1,d,S1,q1,q2,q3,q4,q5⟩=>⟨y,H1,P1,α1,d,S1,I1,r1,q1,q2,q3,q4,q5⟩
 cases q:g a b S with
 |bad=>rw[q] at af;exact af
 |ex c x S'=>rw[q] at af;exact af
 |ok d S' =>
  rw[q] at af
  exact fun v H' P' α' r' e1 e2 rp=>⟨P',α',d,S',r',rp,e1,e2,af⟩
theorem qK.base' {β : Type}{P P1:Hp}{α α1:List Addr}{r:Res β}{Ok Ok1:β→Sto→Prop}(e:qG P P1)(h:α<+:α1)(ho:∀ d S,Ok d S→Ok1 d S)(k:qK X P α r Ok):qK X P1 α1 r Ok1:=by
 cases r with
 |ok d S=>exact ho d S k
 |ex c x S=>exact fun u s' q=>k u s' (q.base e h)
 |bad=>exact k
theorem X1 {op op':CmpOp}{g g':G2}(ho:OpD X (compareOp op) g)(ho':OpD X (compareOp op') g')(ha:PE X a (tD X fa))(hb:PE X b (tD X fb))(hc:PE X c (tD X fc))
  (hm:lastMarks [op,op'] [b,c]=false:=by with_unfolding_all rfl):PE X (.Compare a [op,op'] [b,c] pos) (tD X (wQ g g' fa fb fc)):=by
 intro pins s σ H Q I h
 obtain⟨P,α,env,S,r,re,af⟩:=h
 refine Compare_chain (thn (xB ha I r re af) fun vv s1 ⟨v,H1,P1,α1,d,S1,G1,af1⟩=>chain_link (thn (xB hb G1.inv G1.rel G1.env (zC.base G1.same G1.pre af1)) fun uu s2 ⟨u,H2,P2,α2,d',S2,G2,af2⟩ =>
  thn (rD ho G2.inv G2.rel G1.val G2.val (Rep.mono G2.same G2.pre _ _ G1.rep) G2.rep (zC.base G2.same G2.pre af2)) fun w s3 ⟨y,H3,P3,α3,z,S3,I3,r3,rl3,rp3,e3,e4,af3⟩=>?_)) hm
 cases ht:xM z S3 with
 |none=>simp only[ht] at af3;exact False.elim af3
 |some k =>
  simp only[ht] at af3
  have tv:=u7 rl3 rp3 ht
  refine thn (pQ pins s3 σ H3 y w (fun k' H'=>k'=k∧H'=H3) I3 r3 ⟨k,tv,rfl,rfl⟩) fun k' s4 ⟨H4,I4,hk,hH⟩=>?_
  subst hk;subst hH
  cases k' with
  |false=>exact ite_ff ⟨y,H4,I4,r3,af3 y H4 P3 α3 rl3 e3 e4 rp3⟩
  |true =>
   refine ite_tt (chain_last (thn (xB hc I4 rl3 (G2.env.mono e3 e4) (zC.base e3 e4 af3)) fun ww s5 ⟨w',H5,P5,α5,d5,S5,G5,af5⟩=>?_))
   exact ho' pins σ H5 s5 P5 α5 S5 u w' uu ww d' d5 Q G5.inv G5.rel G2.val G5.val (Rep.mono (e3.trans G5.same) (e4.trans G5.pre) _ _ G2.rep) G5.rep (zC.base G5.same G5.pre af5)
theorem XB {op op':CmpOp}{g g':G2}(ho:OpD X (compareOp op) g)(ho':OpD X (compareOp op') g')(ha:PE X a (tD X fa))(hb:PE X b (tD X fb))(hc:PE X c (tD X fc))
  (hm:lastMarks [op,op'] [b,c]=false:=by with_unfolding_all rfl):PT X (.Compare a [op,op'] [b,c] pos) (tDT X (dTr (wQ g g' fa fb fc))):=by
 intro pins s σ H Q I h
 obtain⟨P,α,env,S,r,re,af⟩:=h
 have af':qK X P α ((wQ g g' fa fb fc env S).bind fun d S1=>k8 (xM d S1) S1) (OkT X P α Q):=af
 have assoc:(wQ g g' fa fb fc env S).bind (fun d S1=>k8 (xM d S1) S1)=(fa env S).bind fun x S1=>(fb env S1).bind fun y S2=>(g x y S2).bind fun z S3 =>
   match xM z S3 with
   |some true=>((fc env S3).bind fun w S4=>g' y w S4).bind fun d S1=>k8 (xM d S1) S1
   |some false=>.ok false S3
   |none=>.bad:=by
  unfold wQ
  cases fa env S with
  |bad=>rfl
  |ex _ _ _=>rfl
  |ok x S1 =>
   show Res.bind (Res.bind (fb env S1) _) _=Res.bind (fb env S1) _
   cases fb env S1 with
   |bad=>rfl
   |ex _ _ _=>rfl
   |ok y S2 =>
    show Res.bind (Res.bind (g x y S2) _) _=Res.bind (g x y S2) _
    cases g x y S2 with
    |bad=>rfl
    |ex _ _ _=>rfl
    |ok z S3 =>
     show Res.bind (match xM z S3 with|some true=>(fc env S3).bind fun w S4=>g' y w S4|some false=>.ok z S3|none=>.bad) _=_
     cases ht:xM z S3 with
     |none=>simp only[ht,Res.bind]
     |some k=>cases k <;> simp only[ht,Res.bind,k8]
 rw[assoc] at af'
 refine isTrue_chain (thn (xB ha I r re af') fun vv s1 ⟨v,H1,P1,α1,d,S1,G1,af1⟩=>test_link (thn (xB hb G1.inv G1.rel G1.env (y9.base G1.same G1.pre af1)) fun uu s2 ⟨u,H2,P2,α2,d',S2,G2,af2⟩ =>
  thn (rD ho G2.inv G2.rel G1.val G2.val (Rep.mono G2.same G2.pre _ _ G1.rep) G2.rep (y9.base G2.same G2.pre af2)) fun w s3 ⟨y,H3,P3,α3,z,S3,I3,r3,rl3,rp3,e3,e4,af3⟩=>?_)) hm
 cases ht:xM z S3 with
 |none=>simp only[ht] at af3;exact False.elim af3
 |some k =>
  simp only[ht] at af3
  have tv:=u7 rl3 rp3 ht
  refine thn (pQ pins s3 σ H3 y w (fun k' H'=>k'=k∧H'=H3) I3 r3 ⟨k,tv,rfl,rfl⟩) fun k' s4 ⟨H4,I4,hk,hH⟩=>?_
  subst hk;subst hH
  cases k' with
  |false=>exact ite_ff ⟨H4,I4,af3 H4 P3 α3 rl3 e3 e4⟩
  |true =>
   have af4:qK X P2 α2 ((fc env S3).bind fun w S4=>(g' d' w S4).bind fun d S1=>k8 (xM d S1) S1) (OkT X P2 α2 Q):=by
    have e:((fc env S3).bind fun w S4=>(g' d' w S4).bind fun d S1=>k8 (xM d S1) S1)=(((fc env S3).bind fun w S4=>g' d' w S4).bind fun d S1=>k8 (xM d S1) S1):=by
     cases fc env S3 <;> rfl
    rw[e];exact af3
   refine ite_tt (test_last (thn (xB hc I4 rl3 (G2.env.mono e3 e4) (y9.base e3 e4 af4)) fun ww s5 ⟨w',H5,P5,α5,d5,S5,G5,af5⟩ =>
    thn (rD ho' G5.inv G5.rel G2.val G5.val (Rep.mono (e3.trans G5.same) (e4.trans G5.pre) _ _ G2.rep) G5.rep (y9.base G5.same G5.pre af5)) fun x6 s6 ⟨y6,H6,P6,α6,d6,S6,I6,r6,rl6,rp6,e5,e6,af6⟩=>?_))
   obtain⟨k6,q6,z6⟩:=nK af6
   exact VC I6 rl6 r6 rp6 q6 (z6 H6 P6 α6 rl6 e5 e6)
def xR (t:DT):DT:=fun env S=>(t env S).bind fun b S1=>.ok (!b) S1
def xY (t u:DT):DT:=fun env S=>(t env S).bind fun b S1=>if b then u env S1 else .ok false S1
def yW (t u:DT):DT:=fun env S=>(t env S).bind fun b S1=>if b then .ok true S1 else u env S1
theorem PX (ha:PT X a (tDT X ta)):PT X (.UnaryOp .Not a pos) (tDT X (xR ta)):=by
 intro pins s σ H Q I h
 obtain⟨P,α,env,S,r,re,af⟩:=h
 refine isTrue_not (thn (pF (fun Q' q=>ha pins s σ H Q' I q) r re af) fun b s1 ⟨H1,P1,α1,S1,I1,r1,re1,e1,e2,af1⟩=>⟨H1,I1,af1 H1 P1 α1 r1 e1 e2⟩)
def PWD (X:Cx)(e:Expr)(t:DT):Prop:=PW X e (tDT X t)
theorem PWD.pt {t:DT}(h:PWD X e t):PT X e (tDT X t):=h _
theorem U3 (ha:PT X a (tDT X ta)):PWD X (.BoolOp .And [a] pos) ta:=JO ha
theorem B0 (ha:PT X a (tDT X ta)):PWD X (.BoolOp .Or [a] pos) ta:=FS ha
theorem PZ {rest:List Expr}(ha:PT X a (tDT X ta))(hb:PWD X (.BoolOp .And (b::rest) pos) tb):PWD X (.BoolOp .And (a::b::rest) pos) (xY ta tb):=by
 intro wh pins s σ H Q I h
 obtain⟨P,α,env,S,r,re,af⟩:=h
 refine isTrue_and (thn (pF (fun Q' q=>ha pins s σ H Q' I q) r re af) fun k s1 ⟨H1,P1,α1,S1,I1,r1,re1,e1,e2,af1⟩=>?_)
 cases k with
 |true=>exact hb wh pins s1 σ H1 Q I1 ⟨P1,α1,env,S1,r1,re1,y9.base e1 e2 af1⟩
 |false=>exact⟨H1,I1,af1 H1 P1 α1 r1 e1 e2⟩
theorem N7 {rest:List Expr}(ha:PT X a (tDT X ta))(hb:PWD X (.BoolOp .Or (b::rest) pos) tb):PWD X (.BoolOp .Or (a::b::rest) pos) (yW ta tb):=by
 intro wh pins s σ H Q I h
 obtain⟨P,α,env,S,r,re,af⟩:=h
 refine isTrue_or (thn (pF (fun Q' q=>ha pins s σ H Q' I q) r re af) fun k s1 ⟨H1,P1,α1,S1,I1,r1,re1,e1,e2,af1⟩=>?_)
 cases k with
 |true=>exact⟨H1,I1,af1 H1 P1 α1 r1 e1 e2⟩
 |false=>exact hb wh pins s1 σ H1 Q I1 ⟨P1,α1,env,S1,r1,re1,y9.base e1 e2 af1⟩
def fB (f g:DE):DE:=fun env S=>(f env S).bind fun x S1=>match xM x S1 with
 |some true=>g env S1
 |some false=>.ok x S1
 |none=>.bad
def dOr (f g:DE):DE:=fun env S=>(f env S).bind fun x S1=>match xM x S1 with
 |some true=>.ok x S1
 |some false=>g env S1
 |none=>.bad
def ZY (f:DE):DE:=fun env S=>(f env S).bind fun x S1=>match xM x S1 with
 |some b=>.ok (.bl (!b)) S1
 |none=>.bad
theorem P8 {op} (h:PE X a (tD X fa)):PE X (.BoolOp op [a] pos) (tD X fa):=FF h
theorem Y5 {pins:List (Addr × Obj)}{s:Shared}{σ : _L.St}{H:Hp}{v:V}{vv:Value}{k:Bool}{R:Bool→Shared→Prop}(I:Inv X pins σ H s)(rv:qJ v vv)(t:aD X.K v H k)(h:∀ s',Inv X pins σ H s'→R k s') :
  wpAny (model X.prog X.w) X.A (truthy vv) R X.xe s:=thn (pQ pins s σ H v vv (fun k' H'=>k'=k∧H'=H) I rv ⟨k,t,rfl,rfl⟩) fun k' s4 ⟨H4,I4,hk,hH⟩=>by subst hk;subst hH;exact h s4 I4
theorem GV {rest:List Expr}(ha:PE X a (tD X fa))(hb:PE X (.BoolOp .And (b::rest) pos) (tD X fb)):PE X (.BoolOp .And (a::b::rest) pos) (tD X (fB fa fb)):=by
 intro pins s σ H Q I h
 obtain⟨P,α,env,S,r,re,af⟩:=h
 refine BoolOp_and (thn (xB ha I r re af) fun vv s1 ⟨v,H1,P1,α1,d,S1,G1,af1⟩=>?_)
 cases ht:xM d S1 with
 |none=>simp only[ht] at af1;exact False.elim af1
 |some k =>
  simp only[ht] at af1
  refine Y5 G1.inv G1.val (u7 G1.rel G1.rep ht) fun s2 I2=>?_
  cases k with
  |true=>exact hb pins s2 σ H1 Q I2 ⟨P1,α1,env,S1,G1.rel,G1.env,zC.base G1.same G1.pre af1⟩
  |false=>exact⟨v,H1,I2,G1.val,af1 v H1 P1 α1 G1.rel G1.same G1.pre G1.rep⟩
theorem TZ {rest:List Expr}(ha:PE X a (tD X fa))(hb:PE X (.BoolOp .Or (b::rest) pos) (tD X fb)):PE X (.BoolOp .Or (a::b::rest) pos) (tD X (dOr fa fb)):=by
 intro pins s σ H Q I h
 obtain⟨P,α,env,S,r,re,af⟩:=h
 refine BoolOp_or (thn (xB ha I r re af) fun vv s1 ⟨v,H1,P1,α1,d,S1,G1,af1⟩=>?_)
 cases ht:xM d S1 with
 |none=>simp only[ht] at af1;exact False.elim af1
 |some k =>
  simp only[ht] at af1
  refine Y5 G1.inv G1.val (u7 G1.rel G1.rep ht) fun s2 I2=>?_
  cases k with
  |false=>exact hb pins s2 σ H1 Q I2 ⟨P1,α1,env,S1,G1.rel,G1.env,zC.base G1.same G1.pre af1⟩
  |true=>exact⟨v,H1,I2,G1.val,af1 v H1 P1 α1 G1.rel G1.same G1.pre G1.rep⟩
theorem P7 (ha:PE X a (tD X fa)):PE X (.UnaryOp .Not a pos) (tD X (ZY fa)):=by
 intro pins s σ H Q I h
 obtain⟨P,α,env,S,r,re,af⟩:=h
 refine UnaryOp_ (thn (xB ha I r re af) fun vv s1 ⟨v,H1,P1,α1,d,S1,G1,af1⟩=>?_)
 cases ht:xM d S1 with
 |none=>simp only[ht] at af1;exact False.elim af1
 |some k =>
  simp only[ht] at af1
  exact not_of (Y5 G1.inv G1.val (u7 G1.rel G1.rep ht) fun s2 I2=>⟨.bl (!k),H1,I2,rfl,af1 (.bl (!k)) H1 P1 α1 G1.rel G1.same G1.pre (by simp only[Rep])⟩)
def dIf (t:DT)(f g:DE):DE:=fun env S=>(t env S).bind fun b S1=>if b then f env S1 else g env S1
end
end _D
end
section
namespace _D
open PySem PySem.Spec PyProof.Rows _L
@[inline] def Res.toS {β : Type}(env:qC)(r:Res β)(k:β→Sto→Out):Out:=
 match r with
 |.ok d S=>k d S
 |.ex c x S=>.ex c x env S
 |.bad=>.bad
section
variable {X:Cx}{a b c e:Expr}{pos:Pos}{fa fb fc:DE}{ta tb:DT}{f g:DS}{st:Stmt}{rest:List Stmt}
def zO:DS:=fun env S=>.nx env S
def qT (f g:DS):DS:=fun env S=>match f env S with
 |.nx env1 S1=>g env1 S1
 |o=>o
theorem PN:PSs X [] (tDS X zO):=FQ JM fun D σ H ⟨P,α,env,S,r,re,af⟩=>af σ H P α r re (qG.refl _) (List.prefix_refl _)
theorem VY (h1:PS X st (tDS X f))(h2:PSs X rest (tDS X g)):PSs X (st::rest) (tDS X (qT f g)):=FQ (WF h1 h2) fun D σ H ⟨P,α,env,S,r,re,af⟩=>by
 refine⟨P,α,env,S,r,re,?_⟩
 unfold qT at af
 cases q:f env S with
 |nx env1 S1 =>
  rw[q] at af
  exact fun σ' H' P' α' r' re' e1 e2=>⟨P',α',env1,S1,r',re',zF.base e1 e2 af⟩
 |rt d S1=>rw[q] at af;exact af
 |bk env1 S1=>rw[q] at af;exact af
 |ct env1 S1=>rw[q] at af;exact af
 |ex c x env1 S1=>rw[q] at af;exact af
 |bad=>rw[q] at af;exact af
theorem PP (h1:PS X st (tDS X f)):PSs X [st] (tDS X f):=JN h1
theorem yH {β : Type}{P:Hp}{α : List Addr}{env:qC}{r:Res β}{k:β→Sto→Out}{D:Ends}(h:zF X P α (r.toS env k) D):qK X P α r fun d S=>zF X P α (k d S) D:=by
 cases r with
 |ok d S=>exact h
 |ex c x S=>exact h
 |bad=>exact h
inductive GotS (X:Cx)(pins:List (Addr × Obj))(σ : _L.St)(env:qC)(P:Hp)(α : List Addr)(u:Value)(s1:Shared)(k:D→Sto→Out)(E:Ends):Prop
 |mk (v:V) (H1 P1:Hp) (α1:List Addr) (d:D) (S1:Sto) (G:Got X pins σ env P α u s1 v H1 P1 α1 d S1) (q:zF X P1 α1 (k d S1) E):GotS X pins σ env P α u s1 k E
theorem m4 {k:D→Sto→Out}{pins:List (Addr × Obj)}{s:Shared}{σ : _L.St}{H P:Hp}{α : List Addr}{env:qC}{S:Sto}{D:Ends}(he:PE X e (tD X fa))(I:Inv X pins σ H s)(r:Rel X.K H P α S)
  (re:zG X.K P α σ env) (af:zF X P α ((fa env S).toS env k) D) :
  wpAny (model X.prog X.w) X.A (eval e X.env) (fun u s1=>GotS X pins σ env P α u s1 k D) X.xe s:=by
 have af1:qK X P α ((fa env S).bind fun d S=>.ok d S) fun d S=>zF X P α (k d S) D:=by
  have:=yH af
  cases q:fa env S <;> rw[q] at this <;> exact this
 exact thn (xB he I r re af1) fun u s1 ⟨v,H1,P1,α1,d,S1,G,q⟩=>⟨v,H1,P1,α1,d,S1,G,zF.base G.same G.pre q⟩
def x9 (f:DE):DS:=fun env S=>(f env S).toS env fun _ S1=>.nx env S1
theorem VZ (he:PE X e (tD X fa))(hs:swapsWith e none pos.line X.env=pure false:=by rfl):PS X (.Expr e pos) (tDS X (x9 fa)):=by
 intro pins s σ H D I h
 obtain⟨P,α,env,S,r,re,af⟩:=h
 exact wpAny_Expr_any (thn (m4 he I r re af) fun v s1 ⟨x,H1,P1,α1,d,S1,G,q⟩=>⟨σ,H1,G.inv,q σ H1 P1 α1 G.rel G.env (qG.refl _) (List.prefix_refl _)⟩) I.quiet hs
def zA (f:DE):DS:=fun env S=>(f env S).toS env fun d S1=>.rt d S1
theorem PR (he:PE X e (tD X fa)):PS X (.Return (some e) pos) (tDS X (zA fa)):=by
 intro pins s σ H D I h
 obtain⟨P,α,env,S,r,re,af⟩:=h
 exact wpAny_Return_some (thn (m4 he I r re af) fun v s1 ⟨x,H1,P1,α1,d,S1,G,q⟩=>⟨x,σ,H1,G.inv,G.val,q x H1 P1 α1 G.rel (qG.refl _) (List.prefix_refl _) G.rep⟩)
def sIf (t:DT)(f g:DS):DS:=fun env S=>(t env S).toS env fun b S1=>if b then f env S1 else g env S1
theorem N4 {c:Expr}{as bs:List Stmt}(hc:PT X c (tDT X ta))(ha:PSs X as (tDS X f))(hb:PSs X bs (tDS X g)):PS X (.If c as bs pos) (tDS X (sIf ta f g)):=by
 intro pins s σ H D I h
 obtain⟨P,α,env,S,r,re,af⟩:=h
 have af1:qK X P α ((ta env S).bind fun d S=>.ok d S) fun b S=>zF X P α (if b then f env S else g env S) D:=by
  have:=yH af
  cases q:ta env S <;> rw[q] at this <;> exact this
 refine wpAny_If (thn (pF (fun Q' q=>hc pins s σ H Q' I q) r re af1) fun k s1 ⟨H1,P1,α1,S1,I1,r1,re1,e1,e2,af2⟩=>?_)
 cases k with
 |true=>exact ha pins s1 σ H1 D I1 ⟨P1,α1,env,S1,r1,re1,zF.base e1 e2 af2⟩
 |false=>exact hb pins s1 σ H1 D I1 ⟨P1,α1,env,S1,r1,re1,zF.base e1 e2 af2⟩
abbrev DG:=D→qC→Sto→Res qC
abbrev DGs:=List D→qC→Sto→Res qC
def OkE (X:Cx)(P:Hp)(α : List Addr)(Q:_L.St→Hp→Prop)(env':qC)(S':Sto):Prop:=∀ σ' H' P' α',Rel X.K H' P' α' S'→zG X.K P' α' σ' env'→qG P P'→α<+:α'→Q σ' H'
def tDG (X:Cx)(g:DG):TG:=fun v σ H Q=>∃ P α env S d,Rel X.K H P α S∧zG X.K P α σ env∧Rep X.K P α d v∧qK X P α (g d env S) (OkE X P α Q)
def rR (X:Cx)(g:DGs):TGs:=fun vs σ H Q=>∃ P α env S ds,Rel X.K H P α S∧zG X.K P α σ env∧qE X.K P α ds vs∧qK X P α (g ds env S) (OkE X P α Q)
theorem zG.set {K:PySem.W.Frag}{P:Hp}{α : List Addr}{σ : _L.St}{env:qC}{d:D}{v:V}(re:zG K P α σ env)(i:Nat)(rp:Rep K P α d v):zG K P α (σ.set i (some v)) (env.set i (some d)):=by
 refine⟨by simp[re.1],fun j d' e=>?_⟩
 by_cases hj:i=j
 ·subst hj
  by_cases hi:i<env.length
  ·rw[List.getElem?_set_self hi] at e
   cases e
   exact⟨v,by rw[List.getElem?_set_self (by rw[← re.1];exact hi)],rp⟩
  ·rw[List.getElem?_eq_none (by simp;omega)] at e;cases e
 ·rw[List.getElem?_set_ne hj] at e ⊢
  exact re.2 j d' e
def gNm (i:Nat):DG:=fun d env S=>.ok (env.set i (some d)) S
theorem VS {i:Nat}{x:Str}(hN:X.N.Nodup)(hi:X.N[i]? = some x:=by rfl)(hx:Loc X.env.scope x:=by first|exact Or.inl rfl|exact Or.inr rfl)(hf:X.fn x=true∨X.env.scope.names.lookup x=some .local:=by first|exact .inl rfl|exact .inr rfl|assumption):PG X (.Name x pos) (tDG X (gNm i)):=by
 intro pins s σ H v u Q I rv h
 obtain⟨P,α,env,S,d,r,re,rp,af⟩:=h
 exact JH hN hi hx hf pins s σ H v u Q I rv (af _ H P α r (re.set i rp) (qG.refl _) (List.prefix_refl _))
def qY:DGs:=fun ds env S=>match ds with
 |[]=>.ok env S
 |_=>.bad
def qF (g:DG)(gs:DGs):DGs:=fun ds env S=>match ds with
 |d::r=>(g d env S).bind fun env1 S1=>gs r env1 S1
 |[]=>.bad
theorem VT:PGs X [] (rR X qY):=by
 intro pins s σ H vs us Q I rv h
 obtain⟨P,α,env,S,ds,r,re,rp,af⟩:=h
 cases ds with
 |nil=>exact JI pins s σ H vs us Q I rv ⟨rp.nil_inv,af σ H P α r re (qG.refl _) (List.prefix_refl _)⟩
 |cons d ds=>exact False.elim af
theorem X4 {es:List Expr}{g:DG}{gs:DGs}(h1:PG X e (tDG X g))(h2:PGs X es (rR X gs))(hs:(assignEach (e::es) X.env).map (·.2)=assign e X.env::(assignEach es X.env).map (·.2):=by rfl):PGs X (e::es) (rR X (qF g gs)):=by
 intro pins s σ H vs us Q I rv h
 obtain⟨P,α,env,S,ds,r,re,rp,af⟩:=h
 cases ds with
 |nil=>exact False.elim af
 |cons d ds =>
  obtain⟨w,ws,rfl,p1,p2⟩:=rp.cons_inv
  refine WD h1 h2 hs pins s σ H _ us Q I rv ⟨w,ws,rfl,P,α,env,S,d,r,re,p1,?_⟩
  have af':qK X P α ((g d env S).bind fun env1 S1=>gs ds env1 S1) (OkE X P α Q):=af
  cases q:g d env S with
  |bad=>rw[q] at af';exact af'
  |ex c x S'=>rw[q] at af';exact af'
  |ok env1 S1 =>
   rw[q] at af'
   intro σ' H' P' α' r' re' e1 e2
   refine⟨P',α',env1,S1,ds,r',re',qE.mono e1 e2 _ _ p2,qK.base' e1 e2 (fun env' S' ok σ2 H2 P2 α2 r2 re2 e3 e4=>ok σ2 H2 P2 α2 r2 re2 (e1.trans e3) (e2.trans e4)) af'⟩
def gTp (n:Nat)(gs:DGs):DG:=fun d env S=>match d with
 |.tup xs=>if xs.length=n then gs xs env S else .bad
 |_=>.bad
set_option tactic.hygienic true in
theorem PF {es:List Expr}{k:Nat}{gs:DGs}{n:Nat}(hc:X.calm=true)(h:PGs X es (rR X gs))(hn:(assignEach es X.env).length=n:=by rfl)(hst:(assignEach es X.env).findIdx? (·.1)=none:=by rfl):PG X (.Tuple es k pos) (tDG X (gTp n gs)):=by
 intro pins s σ H v u Q I rv hw
 obtain⟨P,α,env,S,d,r,re,rp,af⟩:=hw
 cases d with
 |tup xs =>
  simp only[Rep] at rp
  obtain⟨a,vs,rfl,q,t⟩:=rp
  simp only[gTp] at af
  split at af
  ·rename_i hl
   exact FJ hc h hn hst pins s σ H _ u Q I rv ⟨a,vs,rfl,wF r.sub q,by rw[← t.length];exact hl,P,α,env,S,xs,r,re,t,af⟩
  ·exact False.elim af
 |_=>exact False.elim af
abbrev G3:=D→D→D→Sto→Res Unit
def OkU (X:Cx)(P:Hp)(α : List Addr)(Q:Hp→Prop)(_:Unit)(S':Sto):Prop:=∀ H' P' α',Rel X.K H' P' α' S'→qG P P'→α<+:α'→Q H'
def dI (X:Cx)(g:G3):ZJ:=fun o i v H Q=>∃ P α S a b d,Rel X.K H P α S∧Rep X.K P α a o∧Rep X.K P α b i∧Rep X.K P α d v∧qK X P α (g a b d S) (OkU X P α Q)
def gSb (fo fi:DE)(g:G3):DG:=fun d env S=>(fo env S).bind fun o S1=>(fi env S1).bind fun i S2=>(g o i d S2).bind fun _ S3=>.ok env S3
theorem PD {o i:Expr}{fo fi:DE}{g:G3}(ho:PE X o (tD X fo))(hi:PE X i (tD X fi))(hs:dL X (dI X g))
  (ha:∀ v,assign (.Subscript o i pos) X.env v=(do
   let ov ← holding [v] (eval o X.env)
   let iv ← holding [v,ov] (eval i X.env)
   standAt pos
   holding [v,ov,iv] (setItem ov iv v)
   release [v,ov,iv] []):=by intro _;rfl):PG X (.Subscript o i pos) (tDG X (gSb fo fi g)):=by
 intro pins s σ H v u Q I rv h
 obtain⟨P,α,env,S,d,r,re,rp,af⟩:=h
 rw[ha]
 refine wpAny_bind (wpAny_holding (thn (xB ho I r re af) fun ov s1 ⟨x,H1,P1,α1,d1,S1,G1,af1⟩=>?_))
 refine wpAny_bind (wpAny_holding (thn (xB hi G1.inv G1.rel G1.env (P:=P1) (α:=α1) (Ok:=OkE X P1 α1 Q) (qK.base' G1.same G1.pre (fun env' S' ok σ2 H2 P2 α2 r2 re2 e3 e4=>ok σ2 H2 P2 α2 r2 re2 (G1.same.trans e3) (G1.pre.trans e4)) af1)) fun iv s2 ⟨y,H2,P2,α2,d2,S2,G2,af2⟩=>?_))
 refine wpAny_bind (wpAny_standAt (wpAny_bind (wpAny_holding (thn (hs pins s2 σ H2 x y v ov iv u (fun H3=>Q σ H3) G2.inv G1.val G2.val rv ⟨P2,α2,S2,d1,d2,d,G2.rel,Rep.mono G2.same G2.pre _ _ G1.rep,G2.rep,Rep.mono (G1.same.trans G2.same) (G1.pre.trans G2.pre) _ _ rp,?_⟩) fun _ s3 ⟨H3,I3,q3⟩=>?_))))
 ·cases q:g d1 d2 d S2 with
  |bad=>rw[q] at af2;exact af2
  |ex c x S'=>rw[q] at af2;exact fun u s' z=>af2 u s' (z.base G2.same G2.pre)
  |ok w S3 =>
   rw[q] at af2
   exact fun H' P' α' r' e1 e2=>af2 σ H' P' α' r' (G2.env.mono e1 e2) (G2.same.trans e1) (G2.pre.trans e2)
 ·exact wpAny_release ⟨σ,H3,I3,q3⟩
def zE (f:DE)(g:DG):DS:=fun env S=>(f env S).toS env fun d S1=>(g d env S1).toS env fun env' S2=>.nx env' S2
theorem iZ {g:DG}{d:D}{env:qC}{S:Sto}{P:Hp}{α : List Addr}{D':Ends}(h:zF X P α ((g d env S).toS env fun env' S2=>.nx env' S2) D'):qK X P α (g d env S) (OkE X P α D'.nx):=by
 cases q:g d env S with
 |bad=>rw[q] at h;exact h
 |ex c x S'=>rw[q] at h;exact h
 |ok env1 S1=>rw[q] at h;exact h
theorem PL {tg e:Expr}{g:DG}(he:PE X e (tD X fa))(hg:PG X tg (tDG X g))(hs:swapsWithSole [tg] e pos.line X.env=pure false:=by rfl)(hw:swappedStores [tg] e X.env=pure none:=by rfl)
  (h1:(assignEach [tg] X.env).map (·.2)=[assign tg X.env]:=by rfl):PS X (.Assign [tg] e pos) (tDS X (zE fa g)):=by
 intro pins s σ H D I h
 obtain⟨P,α,env,S,r,re,af⟩:=h
 refine wpAny_Assign_stores (thn (m4 he I r re af) fun v s1 ⟨x,H1,P1,α1,d,S1,G,q⟩=>?_) hs hw
 rw[h1]
 exact thn (hg pins s1 σ H1 x v _ G.inv G.val ⟨P1,α1,env,S1,d,G.rel,G.env,G.rep,iZ q⟩) fun _ s2 q=>q
theorem PU {i:Nat}{x:Str}{e:Expr}{pos':Pos}(hN:X.N.Nodup)(he:PE X e (tD X fa))(hi:X.N[i]? = some x:=by rfl)(hx:Loc X.env.scope x:=by first|exact Or.inl rfl|exact Or.inr rfl)(hs:swapsWith e (some (.Name x pos')) pos.line X.env=pure false:=by rfl)
  (hf:X.fn x=true∨X.env.scope.names.lookup x=some .local:=by first|exact .inl rfl|exact .inr rfl|assumption):PS X (.Assign [.Name x pos'] e pos) (tDS X (zE fa (gNm i))):=by
 intro pins s σ H D I h
 obtain⟨P,α,env,S,r,re,af⟩:=h
 refine wpAny_Assign_Name (thn (m4 he I r re af) fun v s1 ⟨y,H1,P1,α1,d,S1,G,q⟩=>?_) hs
 exact gR G.inv hN hi hx G.val (fun s2 I2=>⟨_,H1,I2,q _ H1 P1 α1 G.rel (G.env.set i G.rep) (qG.refl _) (List.prefix_refl _)⟩) hf
def rE (i j:Nat)(env:qC)(S1:Sto):List D→Out
 |[x,y]=>.nx ((env.set i (some x)).set j (some y)) S1
 |_=>.bad
def nN (i j:Nat)(f:DA):DS:=fun env S=>(f env S).toS env fun ds S1=>rE i j env S1 ds
theorem PQ {i j:Nat}{x y:Str}{a b:Expr}{f:DA}{px py pt:Pos} {kt k2 pt2} (hc:X.calm=true) (hN:X.N.Nodup) (ha:PA X [a,b] (tDA X f)) (hi:X.N[i]? = some x:=by rfl) (hj:X.N[j]? = some y:=by rfl) (hij:i≠j:=by decide)
  (hx:X.env.scope.names.lookup x=some .local:=by rfl) (hy:X.env.scope.names.lookup y=some .local:=by rfl)
  (hw:swappedStores [.Tuple [.Name x px,.Name y py] kt pt] (.Tuple [a,b] k2 pt2) X.env=pure (some [x,y]):=by rfl)
  (hs:swapsWithSole [.Tuple [.Name x px,.Name y py] kt pt] (.Tuple [a,b] k2 pt2) pos.line X.env=pure false:=by rfl) :
  PS X (.Assign [.Tuple [.Name x px,.Name y py] kt pt] (.Tuple [a,b] k2 pt2) pos) (tDS X (nN i j f)):=psW (FP hc hN hi hj hij hx hy ha hw hs) fun D σ H ⟨P,α,env,S,r,re,af⟩=>by
 refine⟨P,α,env,S,r,re,?_⟩
 have af1:=yH af
 cases q:f env S with
 |bad=>rw[q] at af1;exact af1
 |ex c x S'=>rw[q] at af1;exact af1
 |ok ds S1 =>
  rw[q] at af1
  intro vs H' P' α' r' e1 e2 rp
  have af2:zF X P α (rE i j env S1 ds) D:=af1
  cases ds with
  |nil=>exact False.elim af2
  |cons d ds=>cases ds with
   |nil=>exact False.elim af2
   |cons d' ds=>cases ds with
    |cons _ _=>exact False.elim af2
    |nil =>
     obtain⟨w,ws,rfl,p1,t⟩:=rp.cons_inv
     obtain⟨w',ws',rfl,p2,t⟩:=t.cons_inv
     rw[t.nil_inv]
     exact⟨w,w',rfl,af2 _ _ P' α' r' (((re.mono e1 e2).set i p1).set j p2) e1 e2⟩
end
end _D
end
section
namespace _D
open PySem PySem.Spec PyProof.Rows _L
structure ItD (K:PySem.W.Frag)(J:It)(P:Hp)(α : List Addr)(ds:List D):Prop where
 go:∀ i H P1 α1 S,i<ds.length→Rel K H P1 α1 S→qG P P1→α<+:α1→J.go i H
 yld:∀ i H x H' P1 α1 S,i<ds.length→Rel K H P1 α1 S→qG P P1→α<+:α1→J.yld i H x H'→∃ P2 d,ds[i]? = some d∧Rel K H' P2 α1 S∧qG P1 P2∧Rep K P2 α1 d x
 stop:∀ i H P1 α1 S,ds.length≤i→Rel K H P1 α1 S→qG P P1→α<+:α1→J.stop i H
abbrev DI:=qC→Sto→Res (List D)
def OkI (X:Cx)(P:Hp)(α : List Addr)(R:It→Hp→Prop)(ds:List D)(S':Sto):Prop:=∀ J H' P' α',Rel X.K H' P' α' S'→qG P P'→α<+:α'→ItD X.K J P' α' ds→R J H'
inductive tDI (X:Cx)(f:DI)(σ : _L.St)(H:Hp)(R:It→Hp→Prop):Prop
 |mk (P:Hp) (α : List Addr) (env:qC) (S:Sto) (r:Rel X.K H P α S) (re:zG X.K P α σ env) (af:qK X P α (f env S) (OkI X P α R)):tDI X f σ H R
def vP {β : Type}(o:Option β)(S:Sto):Res β:=match o with
 |some b=>.ok b S
 |none=>.bad
theorem vZ {X:Cx}{β : Type}{o:Option β}{S:Sto}{P:Hp}{α : List Addr}{Ok:β→Sto→Prop}(h:qK X P α (vP o S) Ok):∃ b,o=some b∧Ok b S:=by
 cases o with
 |none=>exact False.elim h
 |some b=>exact⟨b,rfl,h⟩
theorem pJ {X:Cx}{β : Type}{c:Prop}[Decidable c]{r:Res β}{P:Hp}{α : List Addr}{Ok:β→Sto→Prop}(h:qK X P α (if c then r else .bad) Ok):c∧qK X P α r Ok:=by
 by_cases z:c
 ·rw[if_pos z] at h;exact⟨z,h⟩
 ·rw[if_neg z] at h;exact False.elim h
theorem rC {X:Cx}{β : Type}{ds:List D}{g:D→Res β}{P:Hp}{α : List Addr}{Ok:β→Sto→Prop}(h:qK X P α (match ds with|[d]=>g d|_=>.bad) Ok):∃ d,ds=[d]∧qK X P α (g d) Ok:=by
 cases ds with
 |nil=>exact False.elim h
 |cons d ds =>
  cases ds with
  |nil=>exact⟨d,rfl,h⟩
  |cons _ _=>exact False.elim h
theorem nE {β : Type}{S:Sto}{i:Nat}{f:List D→Option β}{g:List (Key × D)→Option β}{b:β}(h:(match S[i]? with|some (.lst xs)=>f xs|some (.dct kvs)=>g kvs|_=>none)=some b):(∃ xs,S[i]? = some (.lst xs)∧f xs=some b)∨∃ kvs,S[i]? = some (.dct kvs)∧g kvs=some b:=by
 cases e:S[i]? with
 |none=>rw[e] at h;exact nn h
 |some m =>
  rw[e] at h
  cases m with
  |lst xs=>exact .inl ⟨xs,rfl,h⟩
  |dct kvs=>exact .inr ⟨kvs,rfl,h⟩
  |_=>exact nn h
theorem BO {β : Type}{S:Sto}{i:Nat}{f:List D→Option β}{b:β}(h:(match S[i]? with|some (.lst xs)=>f xs|_=>none)=some b):∃ xs,S[i]? = some (.lst xs)∧f xs=some b:=by
 cases e:S[i]? with
 |none=>rw[e] at h;exact nn h
 |some m =>
  rw[e] at h
  cases m with
  |lst xs=>exact⟨xs,rfl,h⟩
  |_=>exact nn h
inductive ItV (d:D)(xs:List D):Prop
 |tup (e:d=.tup xs)
 |lst (e:d=.lst xs)
def V0 {β : Type}(S:Sto)(n:Nat)(f:List D→Res β) : Res β:=match S[n]? with
 |some (.lst xs)=>f xs
 |_=>.bad
theorem gL {X:Cx}{β : Type}{S:Sto}{n:Nat}{f:List D→Res β}{P:Hp}{α : List Addr}{Ok:β→Sto→Prop}(h:qK X P α (V0 S n f) Ok):∃ xs,S[n]? = some (.lst xs)∧qK X P α (f xs) Ok:=by
 unfold V0 at h
 cases e:S[n]? with
 |none=>rw[e] at h;exact False.elim h
 |some m =>
  rw[e] at h
  cases m with
  |lst xs=>exact⟨xs,rfl,h⟩
  |_=>exact False.elim h
def x0:D→Option (List D)
 |.tup xs=>some xs
 |.lst xs=>some xs
 |_=>none
theorem itV {d:D}{xs:List D}(h:x0 d=some xs):ItV d xs:=by
 cases d with
 |tup ys=>exact .tup (congrArg D.tup (Option.some.inj h))
 |lst ys=>exact .lst (congrArg D.lst (Option.some.inj h))
 |_=>exact nn h
def vK (f:DE):DI:=fun env S=>(f env S).bind fun d S1=>vP (x0 d) S1
section
variable {X:Cx}{K:PySem.W.Frag}{tg e:Expr}{fa:DE}{pos:Pos}
theorem XY {P:Hp}{α : List Addr}{a:Addr}{ds:List D}{vs:List V}(q:SqL K P a vs)(t:qE K P α ds vs):ItD K (Itl K a) P α ds where
 go:=fun i H P1 α1 S hi r e _=>⟨vs,vs[i]'(by rw[← t.length];exact hi),(e.trans r.sub).seq q,by simp⟩
 yld:=fun i H x H' P1 α1 S hi r e e2 y=>by
  obtain⟨rfl,y⟩:=y
  have hx:=y vs ((e.trans r.sub).seq q)
  obtain⟨v,h1,h2⟩:=t.get (List.getElem?_eq_getElem hi)
  rw[hx] at h1;cases h1
  exact⟨P1,_,List.getElem?_eq_getElem hi,r,qG.refl _,Rep.mono e e2 _ _ h2⟩
 stop:=fun i H P1 α1 S hi r e _=>⟨vs,(e.trans r.sub).seq q,by rw[← t.length];exact hi⟩
theorem UM {P:Hp}{α : List Addr}{a:Addr}{ds:List D}{vs:List V}(q:SqT K P a vs)(t:qE K P α ds vs):ItD K (Itt K a) P α ds where
 go:=fun i H P1 α1 S hi r e _=>⟨vs,vs[i]'(by rw[← t.length];exact hi),u4 (e.trans r.sub) q,by simp⟩
 yld:=fun i H x H' P1 α1 S hi r e e2 y=>by
  obtain⟨rfl,y⟩:=y
  have hx:=y vs (u4 (e.trans r.sub) q)
  obtain⟨v,h1,h2⟩:=t.get (List.getElem?_eq_getElem hi)
  rw[hx] at h1;cases h1
  exact⟨P1,_,List.getElem?_eq_getElem hi,r,qG.refl _,Rep.mono e e2 _ _ h2⟩
 stop:=fun i H P1 α1 S hi r e _=>⟨vs,u4 (e.trans r.sub) q,by rw[← t.length];exact hi⟩
theorem sN {pins:List (Addr × Obj)}{σ : _L.St}{H P:Hp}{α : List Addr}{S:Sto}{s:Shared}{v:V}{vv:Value}{d:D}{ds:List D}{R:It→Hp→Prop}(I:Inv X pins σ H s)(r:Rel X.K H P α S)(rv:qJ v vv)(rp:Rep X.K P α d v)(hd:x0 d=some ds)
  (q:OkI X P α R ds S):wpAny (model X.prog X.w) X.A (pyIter vv) (PIE X pins σ tg R) X.xe s:=by
 cases d with
 |tup xs =>
  cases hd
  simp only[Rep] at rp
  obtain⟨a,vs,rfl,sq,t⟩:=rp
  cases rv
  obtain⟨its,rv,p,hz⟩:=I.tuple (wF r.sub sq)
  refine wpAny_pyIter_tuple (show s.heap.IsTuple a its.toArray from p) ?_
  refine⟨s.heap.objs.size,[s.heap.objs.size],_,_,H,rfl,I.kept (t':=s.toks) fun b o e=>Heap.get?_push_of_some _ e,iR a _,⟨_,Heap.get?_push_size _ rfl,rfl,rfl⟩,fun b hb=>?_,q _ _ P α r (qG.refl _) (List.prefix_refl _) (UM sq t)⟩
  have e:b=s.heap.objs.size:=by simpa using hb
  subst e
  exact I.fpOk (Nat.le_refl _) (I.hok.fresh (Nat.le_refl _))
 |lst xs =>
  cases hd
  simp only[Rep] at rp
  obtain⟨a,vs,rfl,sq,t⟩:=rp
  cases rv
  obtain⟨its,rv,p,hz⟩:=I.list ((w6 r.sub sq).l)
  refine wpAny_pyIter_list p.isList ?_
  refine⟨s.heap.objs.size,[s.heap.objs.size],_,_,H,rfl,I.kept (t':=s.toks) fun b o e=>Heap.get?_push_of_some _ e,lU a _,⟨_,Heap.get?_push_size _ rfl,rfl,rfl⟩,fun b hb=>?_,q _ _ P α r (qG.refl _) (List.prefix_refl _) (XY sq.l t)⟩
  have e:b=s.heap.objs.size:=by simpa using hb
  subst e
  exact I.fpOk (Nat.le_refl _) (I.hok.fresh (Nat.le_refl _))
 |_=>cases hd
theorem OkI.base {P P1:Hp}{α α1:List Addr}{R:It→Hp→Prop}{ds:List D}{S:Sto}(e:qG P P1)(h:α<+:α1)(k:OkI X P α R ds S):OkI X P1 α1 R ds S:=fun J H' P' α' r q1 q2 q3=>k J H' P' α' r (e.trans q1) (h.trans q2) q3
theorem PH (ha:PE X e (tD X fa)):PI X tg e (tDI X (vK fa)):=by
 intro pins s σ H R I h
 obtain⟨P,α,env,S,r,re,af⟩:=h
 refine thn (xB ha I r re af) fun vv s1 ⟨v,H1,P1,α1,d,S1,G1,af1⟩=>?_
 obtain⟨ds,e1,q⟩:=vZ af1
 exact sN G1.inv G1.rel G1.val G1.rep e1 (q.base G1.same G1.pre)
def wD (lo:Int)(n:Nat):List D:=(List.range n).map fun (i:Nat)=>D.int (lo+(i:Int))
theorem gN (lo:Int)(n:Nat):(wD lo n).length=n:=by simp[wD]
theorem lE {P:Hp}{α : List Addr}{lo:Int}{n:Nat}:ItD K (Itr lo n) P α (wD lo n) where
 go:=fun i H P1 α1 S hi r e _=>by rw[gN] at hi;exact hi
 yld:=fun i H x H' P1 α1 S hi r e e2 y=>by
  obtain⟨rfl,rfl⟩:=y
  rw[gN] at hi
  exact⟨P1,.int (lo+i),by simp[wD,hi],r,qG.refl _,by simp only[Rep]⟩
 stop:=fun i H P1 α1 S hi r e _=>by rw[gN] at hi;exact hi
def gP (ds:List D):Option (List D):=match ds with
 |[.int j]=>if -(2 ^ 62)≤j∧j<2 ^ 62 then some (wD 0 j.toNat) else none
 |[.int i,.int j]=>if -(2 ^ 62)≤i∧i<2 ^ 62 ∧ -(2 ^ 62)≤j∧j<2 ^ 62 then some (wD i (j-i).toNat) else none
 |_=>none
def uQ (f:DA):DI:=fun env S=>(f env S).bind fun ds S1=>vP (gP ds) S1
def asI:D→Option Int
 |.int i=>some i
 |_=>none
theorem bZ {d:D}{i:Int}(h:asI d=some i):d=.int i:=by
 cases d with
 |int k=>exact congrArg D.int (Option.some.inj h)
 |_=>exact nn h
inductive RngV:List D→List D→Prop
 |one (j:Int) (h : -(2 ^ 62)≤j∧j<2 ^ 62):RngV [.int j] (wD 0 j.toNat)
 |two (i j:Int) (h : -(2 ^ 62)≤i∧i<2 ^ 62 ∧ -(2 ^ 62)≤j∧j<2 ^ 62):RngV [.int i,.int j] (wD i (j-i).toNat)
theorem LF (d:D):gP [d]=(asI d).bind fun j=>if -(2 ^ 62)≤j∧j<2 ^ 62 then some (wD 0 j.toNat) else none:=by cases d <;> rfl
theorem LG (d d':D):gP [d,d']=(asI d).bind fun i=>(asI d').bind fun j=>if -(2 ^ 62)≤i∧i<2 ^ 62 ∧ -(2 ^ 62)≤j∧j<2 ^ 62 then some (wD i (j-i).toNat) else none:=by
 cases d with
 |int i=>cases d' <;> rfl
 |_=>rfl
theorem K4 {ds its:List D}(h:gP ds=some its):RngV ds its:=by
 cases ds with
 |nil=>exact nn h
 |cons d ds =>
  cases ds with
  |nil =>
   obtain⟨j,e,h⟩:=Option.bind_eq_some_iff.mp ((LF d).symm.trans h)
   obtain⟨c,rfl⟩:=jJ h
   rw[bZ e]
   exact .one j c
  |cons d' ds =>
   cases ds with
   |nil =>
    obtain⟨i,e,h⟩:=Option.bind_eq_some_iff.mp ((LG d d').symm.trans h)
    obtain⟨j,e',h⟩:=Option.bind_eq_some_iff.mp h
    obtain⟨c,rfl⟩:=jJ h
    rw[bZ e,bZ e']
    exact .two i j c
   |cons _ _ =>
    have h0:∀ d'' t,gP (d::d'::d''::t)=none:=fun d'' t=>by cases d <;> first|rfl|(cases d' <;> rfl)
    exact nn ((h0 _ _).symm.trans h)
theorem nJ {K:PySem.W.Frag}{P:Hp}{α : List Addr}{i:Int}{vs:List V}{ds:List D}(r:qE K P α (.int i::ds) vs):∃ ws,vs=.int i::ws∧qE K P α ds ws:=by
 obtain⟨w,ws,rfl,p,t⟩:=r.cons_inv
 exact⟨ws,congrArg (· :: ws) (by simpa only [Rep] using p),t⟩
theorem PI.weak {iter:Expr}{t t':TI}(h:PI X tg iter t)(w:∀ σ H R,t' σ H R→t σ H R):PI X tg iter t':=fun pins s σ H R I q=>h pins s σ H R I (w σ H R q)
end
section
variable {X:Cx}{tg a b:Expr}{f:DA}{p pos:Pos}
theorem X6 {e:Expr}{es:List Expr}(hg:Gl X "range")(hm:X.mg "range" = none)(ha:PA X (e::es) (tDA X f))(hs:starEach (e::es) X.env=(false,eval e X.env)::starEach es X.env:=by rfl)(hpl:(backTo pos (starEach es X.env)).any (·.1)=false:=by rfl) :
  PI X tg (.Call (.Name "range" p) (e::es) [] pos) (tDI X (uQ f)):=by
 intro pins s σ H R I h
 obtain⟨P,α,env,S,r,re,af⟩:=h
 refine Call_ (uI I hg hm boot_range (PyProof.Rows.callWith_type1 (thn (yZ ha I r re af pos) fun us s1 ⟨vs,H1,P1,α1,ds,S1,I1,rv,r1,re1,rp,e1,e2,af1⟩=>?_) hs hpl))
 obtain⟨its,hi,q⟩:=vZ af1
 cases K4 hi with
 |one j c =>
  obtain⟨ws,rfl,t1⟩:=nJ rp
  cases t1.nil_inv
  obtain⟨u,rfl,t,rfl⟩:=gS rv
  refine call_range_1 (rM I1 (by omega) (by omega) c.1 c.2 ?_)
  have z:=q (Itr 0 j.toNat) H1 P1 α1 r1 e1 e2 lE
  rw[Int.sub_zero]
  exact z
 |two i j c =>
  obtain⟨ws,rfl,t1⟩:=nJ rp
  obtain⟨ws2,rfl,t2⟩:=nJ t1
  cases t2.nil_inv
  obtain⟨u,u',rfl,⟨t,rfl⟩,t',rfl⟩:=iS rv
  exact call_range_2 (rM I1 c.1 c.2.1 c.2.2.1 c.2.2.2 (q (Itr i (j-i).toNat) H1 P1 α1 r1 e1 e2 lE))
def wL (g:DG)(f:DS):List D→qC→Sto→Out
 |[],env,S=>.nx env S
 |d::ds,env,S=>(g d env S).toS env fun env1 S1=>match f env1 S1 with
  |.nx env2 S2=>wL g f ds env2 S2
  |.ct env2 S2=>wL g f ds env2 S2
  |.bk env2 S2=>.nx env2 S2
  |o=>o
def jO (fi:DI)(g:DG)(f:DS):DS:=fun env S=>(fi env S).toS env fun ds S1=>wL g f ds env S1
inductive LoopW (X:Cx)(P1:Hp)(α1:List Addr)(g:DG)(f:DS)(ds:List D)(D:Ends)(i m:Nat)(σ : _L.St)(H:Hp):Prop
 |mk (hi:i≤ds.length) (hm:m=ds.length-i) (P2:Hp) (α2:List Addr) (env2:qC) (S2:Sto) (r:Rel X.K H P2 α2 S2) (re:zG X.K P2 α2 σ env2) (e1:qG P1 P2) (e2:α1<+:α2) (af:zF X P2 α2 (wL g f (ds.drop i) env2 S2) D):LoopW X P1 α1 g f ds D i m σ H
theorem PM {iter:Expr}{body:List Stmt}{fi:DI}{g:DG}{f:DS}(hp:PassesOwn (model X.prog X.w) X.A X.env X.xe)(hc:X.calm=true)(hi:PI X tg iter (tDI X fi))(hg:PG X tg (tDG X g))(hb:PSs X body (tDS X f))
  (hs:∀ x,foldedSetIterable iter X.env x=pure x:=by intro _;rfl):PS X (.For tg iter body [] pos) (tDS X (jO fi g f)):=psW (FO hp hc hi hg hb hs) fun D σ H ⟨P,α,env,S,r,re,af⟩=>by
 refine⟨P,α,env,S,r,re,?_⟩
 have af1:=yH af
 cases q:fi env S with
 |bad=>rw[q] at af1;exact af1
 |ex c x S'=>rw[q] at af1;exact af1
 |ok ds S1 =>
  rw[q] at af1
  have af2:zF X P α (wL g f ds env S1) D:=af1
  intro J H1 P1 α1 r1 e1 e2 it
  refine⟨LoopW X P1 α1 g f ds D,
   ⟨ds.length,Nat.zero_le _,rfl,P1,α1,env,S1,r1,re.mono e1 e2,qG.refl _,List.prefix_refl _,zF.base e1 e2 af2⟩,?_⟩
  rintro i m σ2 H2 ⟨hi,rfl,P2,α2,env2,S2,r2,re2,e3,e4,af3⟩
  by_cases hlt:i<ds.length
  ·refine .inr ⟨it.go i H2 P2 α2 S2 hlt r2 e3 e4,LoopW X P1 α1 g f ds D (i+1) (ds.length-(i+1)),fun σ' H' w=>⟨_,?_,w⟩,fun x H3 y=>?_⟩
   ·omega
   ·obtain⟨P3,d,hd,r3,e5,rp⟩:=it.yld i H2 x H3 P2 α2 S2 hlt r2 e3 e4 y
    have hdr:ds.drop i=d::ds.drop (i+1):=by
     rw[List.drop_eq_getElem_cons hlt]
     rw[List.getElem?_eq_getElem hlt] at hd
     rw[Option.some.inj hd]
    rw[hdr] at af3
    have af4:=yH (zF.base e5 (List.prefix_refl _) af3)
    refine⟨P3,α2,env2,S2,d,r3,re2.mono e5 (List.prefix_refl _),rp,?_⟩
    cases q2:g d env2 S2 with
    |bad=>rw[q2] at af4;exact af4
    |ex c x S'=>rw[q2] at af4;exact af4
    |ok env3 S3 =>
     rw[q2] at af4
     intro σ4 H4 P4 α4 r4 re4 e6 e7
     refine⟨P4,α4,env3,S3,r4,re4,?_⟩
     have af5:=zF.base e6 e7 af4
     cases q3:f env3 S3 with
     |bad=>simp only[q3] at af5;exact af5
     |ex c x env4 S4=>simp only[q3] at af5;exact af5
     |rt d4 S4=>simp only[q3] at af5;exact af5
     |bk env4 S4=>simp only[q3] at af5;exact af5
     |nx env4 S4 =>
      simp only[q3] at af5
      exact fun σ5 H5 P5 α5 r5 re5 e8 e9=>⟨hlt,rfl,P5,α5,env4,S4,r5,re5,((e3.trans e5).trans e6).trans e8,(e4.trans e7).trans e9,zF.base e8 e9 af5⟩
     |ct env4 S4 =>
      simp only[q3] at af5
      exact fun σ5 H5 P5 α5 r5 re5 e8 e9=>⟨hlt,rfl,P5,α5,env4,S4,r5,re5,((e3.trans e5).trans e6).trans e8,(e4.trans e7).trans e9,zF.base e8 e9 af5⟩
  ·have hdr:ds.drop i=[]:=List.drop_eq_nil_of_le (by omega)
   rw[hdr] at af3
   exact .inl ⟨it.stop i H2 P2 α2 S2 (by omega) r2 e3 e4,af3 σ2 H2 P2 α2 r2 re2 (qG.refl _) (List.prefix_refl _)⟩
end
end _D
end
section
namespace _D
open PySem PySem.Spec PyProof.Rows _L
abbrev DF:=List D→Sto→Res D
section
variable {X:Cx}{x:Str}{p pos:Pos}{e:Expr}{es:List Expr}{F:DF}{fa:DA}
def qH (F:DF)(fa:DA):DE:=fun env S=>(fa env S).bind fun ds S1=>F ds S1
theorem l3 {F:DF}{u:Value}{pins:List (Addr × Obj)}{s1:Shared}{σ : _L.St}{H1 P P1:Hp}{α α1:List Addr}{vs:List V}{us:List Value}{ds:List D}{S1:Sto}{Q:VK}(hc:y7 X u F)(I1:Inv X pins σ H1 s1)(r1:Rel X.K H1 P1 α1 S1)(rv:qN vs us)
  (rp:qE X.K P1 α1 ds vs) (e1:qG P P1) (e2:α<+:α1) (af:qK X P α (F ds S1) (OkV X P α Q)):wpAny (model X.prog X.w) X.A (call u us) (EP X pins σ Q) X.xe s1:=hc pins σ H1 s1 P1 α1 S1 vs us ds Q I1 r1 rv rp (zC.base e1 e2 af)
theorem X0 {id:String}(hc:y7 X (.builtin id) F)(hg:Gl X x)(hm:X.mg x=none)(hv:bootBuiltins x=some (.builtin id))(ha:PA X (e::es) (tDA X fa))(hn:x ≠ "__name__":=by decide)(hdb:(x == ("__debug__" : Str))=false:=by decide)
  (he:starEach (e::es) X.env=(false,eval e X.env)::starEach es X.env:=by rfl) (hpl:(backTo pos (starEach es X.env)).any (·.1)=false:=by rfl):PE X (.Call (.Name x p) (e::es) [] pos) (tD X (qH F fa)):=by
 intro pins s σ H Q I h
 obtain⟨P,α,env,S,r,re,af⟩:=h
 refine wpAny_Call_Name_kw (uI I hg hm hv ?_ hn hdb)
 exact PyProof.Rows.callWith_builtin1 (thn (yZ ha I r re af pos) fun us s1 ⟨vs,H1,P1,α1,ds,S1,I1,rv,r1,re1,rp,e1,e2,af1⟩=>l3 hc I1 r1 rv rp e1 e2 af1) he hpl
theorem oE {T:String}(hc:y7 X (.type T) F)(hg:Gl X x)(hm:X.mg x=none)(hv:bootBuiltins x=some (.type T))(ha:PA X (e::es) (tDA X fa))(hn:x ≠ "__name__":=by decide)(hdb:(x == ("__debug__" : Str))=false:=by decide)
  (he:starEach (e::es) X.env=(false,eval e X.env)::starEach es X.env:=by rfl) (hpl:(backTo pos (starEach es X.env)).any (·.1)=false:=by rfl):PE X (.Call (.Name x p) (e::es) [] pos) (tD X (qH F fa)):=by
 intro pins s σ H Q I h
 obtain⟨P,α,env,S,r,re,af⟩:=h
 refine wpAny_Call_Name_kw (uI I hg hm hv ?_ hn hdb)
 exact PyProof.Rows.callWith_type1 (thn (yZ ha I r re af pos) fun us s1 ⟨vs,H1,P1,α1,ds,S1,I1,rv,r1,re1,rp,e1,e2,af1⟩=>l3 hc I1 r1 rv rp e1 e2 af1) he hpl
end
end _D
end
section
namespace _D
open PySem PySem.Spec PyProof.Rows _L
theorem zI.there {P:Program}{w:World}{H:Hp}{h:Heap}{a:Addr}{o:HO}(x:zI P w H h a o):∃ ob,h.get? a=some ob:=by
 cases o with
 |lst xs=>obtain⟨_,_,_,_,e⟩:=x;exact⟨_,e⟩
 |tup xs=>obtain⟨_,_,_,ob,e,_⟩:=x;exact⟨_,e⟩
 |dK kvs=>obtain⟨_,_,_,_,o,_,_,e,_⟩:=x;exact⟨_,e⟩
 |dT kvs=>obtain⟨_,_,_,_,o,_,_,e,_⟩:=x;exact⟨_,e⟩
 |set S n=>obtain⟨o,_,_,_,e,_⟩:=x;exact⟨_,e⟩
 |ins C dx fs=>obtain⟨_,_,_,e,_⟩:=x;exact⟨_,e⟩
 |own y=>obtain⟨_,e⟩:=x;exact⟨_,e⟩
 |xd fs=>obtain⟨_,⟨_,_,_,e,_⟩,_⟩:=x;exact⟨_,e⟩
 |rng lo hi=>obtain⟨_,_,_,e⟩:=x;exact⟨_,e⟩
 |frz ob u=>obtain⟨e,_⟩:=x;exact⟨_,e⟩
 |tbl ps=>exact⟨_,show h.get? a=some _ from x⟩
 |met f y=>exact⟨_,show h.get? a=some _ from x⟩
 |ext φ => obtain⟨_,e,_⟩:=x;exact e
section
variable {X:Cx}{pins:List (Addr × Obj)}{σ : _L.St}{H:Hp}{s:Shared}{B h':Heap}
abbrev Fn1 (X:Cx):Prop:=X.ex=[]∧X.stack=X.env::X.outer∧X.env.frame=some X.env.locals
theorem Fn1.mem (F:Fn1 X){b:Addr}:b∈frs X.stack↔b=X.env.locals∨b∈X.fs:=by
 rw[F.2.1]
 unfold frs
 rw[List.filterMap_cons,F.2.2]
 exact List.mem_cons
theorem Old.there (I:Inv X pins σ H s)(F:Fn1 X){b:Addr}(o:Old X pins H b):∃ ob,s.heap.get? b=some ob:=by
 rcases o with⟨o,e⟩|e|⟨p,hp,rfl⟩|⟨x,e⟩
 ·exact I.base.there b o e (by rw[F.1];simp)
 ·cases q:H b with
  |none=>exact absurd q e
  |some u=>exact zI.there (I.hok b u q)
 ·exact⟨_,(I.pin p hp).1⟩
 ·obtain⟨v,ob,ho,_⟩:=I.cell x b e
  exact⟨ob,ho⟩
theorem Inv.fly (I:Inv X pins σ H s)(F:Fn1 X)(cv:Cv X pins H B s.heap)(st:B.StaysIn h')(up:s.heap.UpToSlots h'):Inv X pins σ H { s with heap:=h' } ∧ Cv X pins H B h':=by
 have kp:∀ b o,s.heap.get? b=some o→Old X pins H b→b ∉ frs X.stack→h'.get? b=some o:=fun b o e q n=>st b o (cv b o e q n)
 have neL:∀ b o,X.s₀.heap.get? b=some o→b≠X.env.locals:=fun b o e=>Nat.ne_of_lt (Nat.lt_of_lt_of_le (Heap.lt_size e) I.ok.above)
 have nofr:∀ b o,X.s₀.heap.get? b=some o→b ∉ X.fs→b ∉ frs X.stack:=fun b o e n z=>(F.mem.mp z).elim (neL b o e) n
 have nx:∀ b,b ∉ X.ex:=fun b=>by rw[F.1];simp
 have frU:∀ b,b∈frs X.stack→∀ o,s.heap.get? b=some o→∃ sl,h'.get? b=some { o with slots:=sl }:=fun b hb o e=>by
  obtain⟨_,o',e',nf⟩:=I.stack.mem hb
  rw[e] at e';cases e'
  exact up b o e nf
 have cellK:∀ x c,X.env.cells.lookup x=some c→∀ v,s.heap.IsCell c v→h'.IsCell c v:=fun x c e v ⟨o,ho,hd⟩=>by
  obtain⟨sl,q⟩:=up c o ho fun vs z=>by rw[hd] at z;cases z
  exact⟨_,q,hd⟩
 refine⟨⟨I.ok,I.os,I.bare,⟨fun b o e n hb hx=>?_,fun b o e n hb hx=>?_,I.base.free,fun b o e hx=>?_,I.base.tups,I.base.frzs,I.base.tbls⟩,?_,fun x c e=>?_,I.free,I.freeC,fun p hp=>?_,fun a o e=>?_,I.len⟩,fun b o e q n=>?_⟩
 ·exact kp b o (I.base.keep b o e n hb hx) (.inl ⟨o,e⟩) (nofr b o e hb)
 ·obtain⟨sl,e1⟩:=I.base.slot b o e n hb hx
  obtain⟨sl',e2⟩:=frU b (F.mem.mpr (.inr hb)) _ e1
  exact⟨sl',e2⟩
 ·obtain⟨o',e1⟩:=I.base.there b o e hx
  by_cases hb:b∈frs X.stack
  ·obtain⟨sl,e2⟩:=frU b hb _ e1
   exact⟨_,e2⟩
  ·exact⟨o',kp b o' e1 (.inl ⟨o,e⟩) hb⟩
 ·obtain⟨m,hn,hl⟩:=I.loc
  refine⟨m,up.ns hn,fun i x v e1 e2 e3=>?_⟩
  obtain⟨u,r,l⟩:=hl i x v e1 e2 e3
  refine⟨u,r,?_⟩
  rcases l with l|⟨k,c,e,z⟩
  ·exact .inl l
  ·exact .inr ⟨k,c,e,cellK x c e _ z⟩
 ·obtain⟨v,z⟩:=I.cell x c e
  exact⟨v,cellK x c e v z⟩
 ·obtain⟨e,n,ne,nf,d⟩:=I.pin p hp
  exact⟨kp p.1 p.2 e (.inr (.inr (.inl ⟨p,hp,rfl⟩))) fun z=>(F.mem.mp z).elim ne nf,n,ne,nf,d⟩
 ·refine(I.hok a o e).stay (fun b u hb q=>?_) (fun _ q=>q) fun _ _ q=>q
  have hn:H b≠none:=by
   rcases hb with rfl|hb
   ·rw[e];intro z;cases z
   ·rw[hb];intro z;cases z
  exact kp b u q (.inr (.inl hn)) fun z=>hn (I.stkFree b z)
 ·obtain⟨o1,e1⟩:=Old.there I F q
  have e2:=cv b o1 e1 q n
  have e3:=st b o1 e2
  rw[e] at e3;cases e3
  exact e2
theorem BP {c:Value}{e:Addr}{g:Heap}{args:List Value}(I:Inv X pins σ H s)(hm:Heap.MadeExcOf g s.heap e c args)(hf:g.FunFrames X.base X.stack)(hk:∀ b o,s.heap.get? b=some o→Old X pins H b→g.get? b=some o) :
  (PySem.W.hideAll g (frs X.stack)).StaysIn g∧g.FunFrames (PySem.W.hideAll g (frs X.stack)) X.stack∧Cv X pins H (PySem.W.hideAll g (frs X.stack)) s.heap:=
 ⟨fun b o q=>PySem.W.of_hideAll _ q,PySem.W.funFrames_hide hf fun env he a ha=>List.mem_filterMap.mpr ⟨env,he,ha⟩,fun b o e q n=>PySem.W.hideAll_get _ (hk b o e q) n⟩
theorem Q2 {M:Model}{A:Around}{E:Value→Shared→Prop}{c:Value}{e:Addr}{Q:Unit→Shared→Prop}(I:Inv X pins σ H s)(F:Fn1 X)(hA:A.frames=some X.stack)(f:FlyX X pins H c e s.heap)
  (hQ:∀ h' B a0,Heap.FlyingW B X.outer e c a0 h'→Inv X pins σ H { s with heap:=h' } → Cv X pins H B h'→Q () { s with heap:=h' }) : wpAny M A (leaving X.env (.ref e)) Q E s:=by
 cases f with
 |new g args hm hf hk =>
  obtain⟨k1,k2,k3⟩:=BP I hm hf hk
  rw[F.2.1] at hA
  refine wpAny_leaves_madeW hA F.2.2 k1 (by rw[← F.2.1];exact k2) hm fun h' t x1 x2 x3 x4=>?_
  obtain⟨I1,cv1⟩:=Inv.fly I F k3 x1.1 x4
  exact hQ h' _ _ x1 I1 cv1
 |fly B a0 fl cv =>
  rw[F.2.1] at hA
  refine wpAny_leaves_onW hA F.2.2 (by rw[← F.2.1];exact fl) fun h' x1 x2=>?_
  obtain⟨I1,cv1⟩:=Inv.fly I F cv x1.1 x2
  exact hQ h' _ _ x1 I1 cv1
end
def CXd (P:Program)(w:World):CXT:=fun outer H s E u s' =>
 ∃ e c H' B a0,u=.ref e∧s'.os=s.os∧AllBare s'.gens∧Un (frs outer) [] H H' s.heap s'.heap∧HOk P w H' s'.heap∧Heap.FlyingW B outer e c a0 s'.heap ∧
  (∀ b o,s'.heap.get? b=some o→((∃ o,s.heap.get? b=some o)∨H' b≠none)→b ∉ frs outer→B.get? b=some o)∧E c none H'
section
variable {X:Cx}{pins:List (Addr × Obj)}{σ : _L.St}{H:Hp}{s s':Shared}
theorem B4 {E:XK}{u:Value}(I:Inv X pins σ H s)(F:Fn1 X)(h:CXd X.prog X.w X.stack H s E u s'):∃ e c H',u=.ref e∧Inv X pins σ H' s'∧FlyX X pins H' c e s'.heap∧E c none H':=by
 obtain⟨e,c,H',B,a0,rfl,os,bare,un,hok,fl,cov,q⟩:=h
 have I':Inv X pins σ H' s':=Inv.call' I os un hok bare (ch:=[]) fun b z=>absurd z (by simp)
 refine⟨e,c,H',rfl,I',.fly B a0 fl fun b o eb old n=>cov b o eb ?_ n,q⟩
 rcases old with⟨o,z⟩|z|⟨p,hp,rfl⟩|⟨x,z⟩
 ·exact .inl (I.base.there b o z (by rw[F.1];simp))
 ·exact .inr z
 ·exact .inl ⟨_,(I.pin p hp).1⟩
 ·obtain⟨v,ob,ho,_⟩:=I.cell x b z
  exact .inl ⟨ob,ho⟩
end
end _D
end
section
namespace _D
open PySem PySem.Spec PyProof.Rows _L
structure RoomC (cm:Bool)(k:Nat)(A:Around):Prop where
 hd:cm=true→A.handled=none
 dp:A.depth+3*k+5<recursionLimit
 un:A.units+16*k+200<cLine
 gd:A.guards=some []
theorem RoomC.mono {cm:Bool}{j k:Nat}{A:Around}(r:RoomC cm k A)(h:j≤k:=by decide):RoomC cm j A:=⟨r.hd,by have:=r.dp;omega,by have:=r.un;omega,r.gd⟩
theorem RoomC.deeper {cm:Bool}{k:Nat}{A:Around}(r:RoomC cm (k+1) A)(env:Env):RoomC cm k (A.deeper env):=
 ⟨r.hd,by have:=r.dp;show A.depth+1+3*k+5<_;omega,by have:=r.un;show A.units+3+16*k+200<_;omega,r.gd⟩
theorem RoomC.depth {cm:Bool}{k:Nat}{A:Around}(r:RoomC cm k A):A.depth<recursionLimit:=by have:=r.dp;omega
theorem RoomC.units {cm:Bool}{k:Nat}{A:Around}(r:RoomC cm k A):A.units+64<cLine:=by have:=r.un;omega
theorem RoomC.of {k:Nat}{A:Around}(r:Room k A):RoomC true k A:=⟨fun _=>r.hd,r.dp,r.un,r.gd⟩
theorem RoomC.any {cm:Bool}{k:Nat}{A:Around}(r:RoomC cm k A):RoomC false k A:=⟨(fun z=>nomatch z),r.dp,r.un,r.gd⟩
theorem RoomC.mark {cm:Bool}{k:Nat}{A:Around}(r:RoomC cm k A)(h:Option Value):RoomC false k (A.mark h):=⟨(fun z=>nomatch z),r.dp,r.un,r.gd⟩
abbrev Cx.re (X:Cx)(A:Around)(cm:Bool)(E:Value→Shared→Prop):Cx:={ X with A:=A,calm:=cm,xe:=E }
theorem Inv.re {X:Cx}{pins:List (Addr × Obj)}{σ : _L.St}{H:Hp}{s:Shared}(I:Inv X pins σ H s)(A:Around)(cm:Bool)(E:Value→Shared→Prop)(hf:A.frames=some X.stack)(hh:cm=true→A.handled=none):Inv (Cx.re X A cm E) pins σ H s:=
 ⟨⟨I.ok.mod,I.ok.kind,I.ok.glob,I.ok.blt,I.ok.above,I.ok.inj,I.ok.has,I.ok.cab,hh,hf,I.ok.stk,I.ok.exf,I.ok.bs,I.ok.bsz,I.ok.noex,I.ok.exfs,I.ok.funs,I.ok.frf⟩,I.os,I.bare,I.base,I.loc,I.cell,I.free,I.freeC,I.pin,I.hok,I.len⟩
structure FnX (P:Program)(w:World)(K:PySem.W.Frag)(mg:Str→Option Value)(base:Heap)(cm:Bool)(k:Nat)(f:Addr)(fd:FuncData)(ps:List Str)(sp:Sp):Prop where
 len:∀ vs H Q E,sp vs H Q E→vs.length=ps.length
 run:∀ (A:Around) (outer:List Env) (s:Shared) (H:Hp) (args:Args) (us:List Value) (vs:List V) (Q:VK) (E:XK),RoomC cm k A→Env0 P w K mg base A outer s H→BindsTo s fd args (ps.zip us)→qN vs us→sp vs H Q E →
  codeAny (model P w) A (.call (.ref f) args) (CR (CXd P w) outer P w H s Q E) s
theorem FnX.ok {P:Program}{w:World}{K:PySem.W.Frag}{mg:Str→Option Value}{base:Heap}{k:Nat}{f:Addr}{fd:FuncData}{ps:List Str}{sp:Sp}(F:FnX P w K mg base true k f fd ps sp):FnOk P w K mg base (CXd P w) k f fd ps sp:=
 ⟨F.len,fun A outer s H args us vs Q E hr=>F.run A outer s H args us vs Q E (.of hr)⟩
theorem FnX.any {P:Program}{w:World}{K:PySem.W.Frag}{mg:Str→Option Value}{base:Heap}{cm:Bool}{k:Nat}{f:Addr}{fd:FuncData}{ps:List Str}{sp:Sp}(F:FnX P w K mg base false k f fd ps sp):FnX P w K mg base cm k f fd ps sp:=
 ⟨F.len,fun A outer s H args us vs Q E hr=>F.run A outer s H args us vs Q E hr.any⟩
theorem FnX.imp {P:Program}{w:World}{K:PySem.W.Frag}{mg:Str→Option Value}{base:Heap}{cm:Bool}{k:Nat}{f:Addr}{fd:FuncData}{ps:List Str}{sp sp':Sp}(F:FnX P w K mg base cm k f fd ps sp)
  (h:∀ vs H Q E,sp' vs H Q E→sp vs H Q E):FnX P w K mg base cm k f fd ps sp':=
 ⟨fun vs H Q E q=>F.len vs H Q E (h _ _ _ _ q),fun A outer s H args us vs Q E hr he hb hv hs=>F.run A outer s H args us vs Q E hr he hb hv (h _ _ _ _ hs)⟩
def cxC (cm:Bool)(P:Program)(w:World)(K:PySem.W.Frag)(mg:Str→Option Value)(base:Heap)(N:List Str)(qual:Str)(scope:Scope)(f:Addr)(cd:Value)(A:Around)(outer:List Env)(s:Shared)(H:Hp)(E:XK):Cx where
 prog:=P
 w:=w
 K:=K
 mg:=mg
 base:=base
 A:=A.deeper (envOfC qual scope s.heap.objs.size f cd)
 N:=N
 s₀:=s
 H₀:=H
 env:=envOfC qual scope s.heap.objs.size f cd
 outer:=outer
 stack:=envOfC qual scope s.heap.objs.size f cd::outer
 ex:=[]
 calm:=cm
 fn:=fun _=>true
 pn:=[]
 xe:=fun e s'=>wpAny (model P w) (A.deeper (envOfC qual scope s.heap.objs.size f cd)) (leaving (envOfC qual scope s.heap.objs.size f cd) e) (fun _ s''=>CXd P w outer H s E e s'') (fun e' s''=>CXd P w outer H s E e' s'') s'
section
variable {P:Program}{w:World}{K:PySem.W.Frag}{mg:Str→Option Value}{base:Heap}{cm:Bool}{N:List Str}{qual:Str}{scope:Scope}{f:Addr}{cd:Value}{A:Around}{outer:List Env}{s:Shared}{H:Hp}{E:XK}
theorem ZV:PassesOwn (model P w) (A.deeper (envOfC qual scope s.heap.objs.size f cd)) (envOfC qual scope s.heap.objs.size f cd) (cxC cm P w K mg base N qual scope f cd A outer s H E).xe:=PassesOwn.leaving (Q₁:=fun e s''=>CXd P w outer H s E e s'')
theorem oA {P0:Hp}{α : List Addr}{c:Value}{x:D}{S:Sto}{u:Value}{s':Shared}(k:XOk (cxC cm P w K mg base N qual scope f cd A outer s H E) P0 α c x S u s')
  (q:∀ H' P' α',Rel K H' P' α' S→qG P0 P'→α<+:α'→E c none H'):(cxC cm P w K mg base N qual scope f cd A outer s H E).xe u s':=by
 obtain⟨e,pins,σ,H1,P1,α1,rfl,I,r,e1,e2,F,fl⟩:=k
 refine Q2 (X:=cxC cm P w K mg base N qual scope f cd A outer s H E) I F I.ok.frames fl fun h' B a0 x1 I1 cv=>?_
 refine⟨e,c,H1,B,a0,rfl,I1.os,I1.bare,I1.base,I1.hok,x1,fun b o eb hb n=>cv b o eb ?_ fun z=>?_,q H1 P1 α1 r e1 e2⟩
 ·rcases hb with z|z
  ·exact .inl z
  ·exact .inr (.inl z)
 ·rcases (Fn1.mem F).mp z with z|z
  ·subst z
   rcases hb with⟨o',e'⟩|z
   ·exact absurd (Heap.lt_size e') (Nat.not_lt.mpr I1.ok.above)
   ·exact z I1.free
  ·exact n z
theorem i0 {ps:List Str}{s1:Shared}{us:List Value}{vs:List V}(S:FnScope N ps scope)(hd:cm=true→A.handled=none)(e0:Env0 P w K mg base A outer s H)(hl:vs.length=ps.length)(r:qN vs us)
  (x:InCallC s s.heap.objs.size (bindL (envOfC qual scope s.heap.objs.size f cd).kindOf (ps.zip us) fun _=>none) (cellsFrom (s.heap.objs.size+1) scope.names []) (bindC (envOfC qual scope s.heap.objs.size f cd).kindOf (ps.zip us) fun _=>none) s1) :
  Inv (cxC cm P w K mg base N qual scope f cd A outer s H E) [] (_L.wM N vs) H s1:=by
 have I:=lD (CX:=CXd P w) (E:=E) (A:={ A with handled:=none }) S rfl ⟨e0.frames,e0.mod,e0.bs,e0.bsz,e0.funs,e0.frf,e0.hok,e0.bare⟩ hl r x
 have J:=Inv.re I (A.deeper (envOfC qual scope s.heap.objs.size f cd)) cm (cxC cm P w K mg base N qual scope f cd A outer s H E).xe (Around.frames_deeper e0.frames) hd
 exact J
end
theorem B5 {P:Program}{w:World}{K:PySem.W.Frag}{mg:Str→Option Value}{base:Heap}{cm:Bool}{k:Nat}{f:Addr}{x qual:Str}{st:Stmt}{fd:FuncData}{N ps:List Str}{sp:Sp}(F:Fun K x qual st f fd)(S:FnScope N ps (qI st))
  (len:∀ vs H Q E,sp vs H Q E→vs.length=ps.length)
  (hbody:∀ (cdv:Value) (A:Around) (outer:List Env) (s:Shared) (H:Hp) (vs:List V) (Q:VK) (E:XK),RoomC cm k (A.deeper (envOfC qual (qI st) s.heap.objs.size f cdv))→sp vs H Q E →
   ∃ t,PSs (cxC cm P w K mg base N qual (qI st) f cdv A outer s H E) (zT st) t∧t { nx:=fun _ H'=>Q .non H',rt:=Q } (_L.wM N vs) H) :
  FnX P w K mg base cm (k+1) f fd ps sp:=by
 obtain⟨oc,od,kV,doc,pm,an,cdv,ct,osl,rfl,lk,hcd⟩:=F.ex
 refine⟨len,fun A outer s H args us vs Q E hr e0 hb r hsp=>?_⟩
 have hl:=len _ _ _ _ hsp
 have KX:K.In s.heap:=e0.mod.kin.keeps fun b o e=>(e0.bs b o e).1
 have lim:s.heap.NoLimit:=e0.mod.nolimit.keeps fun b o e=>(e0.bs b o e).1
 have hkind:∀ y∈ps.zip us,(qI st).names.lookup y.1=some .local ∨ ((qI st).names.lookup y.1=some .cell∧((cellsFrom (s.heap.objs.size+1) (qI st).names []).lookup y.1).isSome=true):=fun ⟨n,v⟩ hy=>by
  rcases S.par n (List.of_mem_zip hy).1 with q|q
  ·exact .inl q
  ·exact .inr ⟨q,PySem.W.cellsFrom_some _ _ _ (.inl q)⟩
 refine codeAny_call_function hr.depth (KX _ _ lk) rfl S.co S.gen rfl (PySem.W.codeRec_of KX hcd) (hb _ _ _ _ ?_)
 refine wpAny_newFunctionEnv_cells S.kind hkind fun env he s1 x=>?_
 subst he
 refine⟨lim.keeps x.toInCall.keep,codeAny_func ?_⟩
 obtain⟨t,ht,hq⟩:=hbody cdv A outer s H vs Q E (hr.deeper _) hsp
 have I:Inv (cxC cm P w K mg base N qual (qI st) f cdv A outer s H E) [] (_L.wM N vs) H s1:=i0 S hr.hd e0 hl r x
 refine wpAny_mono (ht [] s1 (_L.wM N vs) H _ I hq) (fun fl s' hs=>?_) fun e s' hs=>hs
 have fin:∀ {σ' : _L.St} {H':Hp} {v:V} {u:Value},Inv (cxC cm P w K mg base N qual (qI st) f cdv A outer s H E) [] σ' H' s'→qJ v u→Q v H'→CE outer P w H s Q u s':=
  fun {σ' H' v u} J rv q=>⟨v,H',J.os,J.bare,J.base,J.hok,rv,q⟩
 cases fl with
 |ret u =>
  obtain⟨v,σ',H',J,rv,q⟩:=hs
  exact fin J rv q
 |next =>
  obtain⟨σ',H',J,q⟩:=hs
  exact fin (v:=V.non) (u:=Value.none) J rfl q
 |brk =>
  obtain⟨_,_,_,q⟩:=hs
  exact False.elim q
 |cont =>
  obtain⟨_,_,_,q⟩:=hs
  exact False.elim q
def vR (n:Nat)(ds:List D):qC:=ds.map some++List.replicate (n-ds.length) none
def uT:Out→Res D
 |.rt d S=>.ok d S
 |.nx _ S=>.ok .non S
 |.ex c x _ S=>.ex c x S
 |_=>.bad
def qV (n:Nat)(g:DS):DF:=fun ds S=>uT (g (vR n ds) S)
def spD (K:PySem.W.Frag)(n:Nat)(F:DF):Sp:=fun vs H Q E=>vs.length=n∧∃ P α ds S,Rel K H P α S∧qE K P α ds vs∧match F ds S with
 |.ok d S'=>∀ v H' P' α',Rel K H' P' α' S'→qG P P'→α<+:α'→Rep K P' α' d v→Q v H'
 |.ex c _ S'=>∀ H' P' α',Rel K H' P' α' S'→qG P P'→α<+:α'→E c none H'
 |.bad=>False
theorem iI {K:PySem.W.Frag}{P:Hp}{α : List Addr}{N:List Str}{ds:List D}{vs:List V}(r:qE K P α ds vs):zG K P α (_L.wM N vs) (vR N.length ds):=by
 refine⟨by simp[vR,_L.wM,r.length],fun i d e=>?_⟩
 unfold vR at e
 unfold _L.wM
 by_cases hi:i<ds.length
 ·rw[List.getElem?_append_left (by simpa using hi),List.getElem?_map] at e
  rw[List.getElem?_append_left (by rw[List.length_map,← r.length];exact hi),List.getElem?_map]
  cases q:ds[i]? with
  |none=>rw[q] at e;cases e
  |some d' =>
   rw[q] at e;cases e
   obtain⟨v,h1,h2⟩:=r.get q
   exact⟨v,by rw[h1];rfl,h2⟩
 ·rw[List.getElem?_append_right (by simpa using hi),List.getElem?_replicate] at e
  split at e <;> cases e
section
variable {P:Program}{w:World}{K:PySem.W.Frag}{mg:Str→Option Value}{base:Heap}{cm:Bool}
theorem fnX {x qual:Str}{st:Stmt}{f:Addr}{fd:FuncData}{N ps:List Str}{k:Nat}{g:DS}(F:Fun K x qual st f fd)(S:FnScope N ps (qI st))
  (hbody:∀ (cdv:Value) (A:Around) (outer:List Env) (s:Shared) (H:Hp) (E:XK),RoomC cm k (A.deeper (envOfC qual (qI st) s.heap.objs.size f cdv)) →
   PSs (cxC cm P w K mg base N qual (qI st) f cdv A outer s H E) (zT st) (tDS (cxC cm P w K mg base N qual (qI st) f cdv A outer s H E) g)) :
  FnX P w K mg base cm (k+1) f fd ps (spD K ps.length (qV N.length g)):=by
 refine B5 F S (fun vs H Q E h=>h.1) fun cdv A outer s H vs Q E hr h=>?_
 obtain⟨hl,P',α,ds,S',r,rp,af⟩:=h
 refine⟨_,hbody cdv A outer s H E hr,P',α,vR N.length ds,S',r,iI rp,?_⟩
 unfold qV at af
 cases q:g (vR N.length ds) S' with
 |rt d S1=>rw[q] at af;exact fun v H' P1 α1 r1 e1 e2 p1=>af v H' P1 α1 r1 e1 e2 p1
 |nx env S1=>rw[q] at af;exact fun σ' H' P1 α1 r1 re1 e1 e2=>af .non H' P1 α1 r1 e1 e2 (by simp only[Rep])
 |bk env S1=>rw[q] at af;exact False.elim af
 |ct env S1=>rw[q] at af;exact False.elim af
 |ex c x env S1=>rw[q] at af;exact fun u s' z=>oA z fun H' P1 α1 r1 e1 e2=>af H' P1 α1 r1 e1 e2
 |bad=>rw[q] at af;exact False.elim af
end
section
variable {X:Cx}{cm:Bool}{k:Nat}{f:Addr}{fd:FuncData}{ps:List Str}{F:DF}{x:Str}{p pos:Pos}{e:Expr}{es:List Expr}{fa:DA}{n:Nat}
def qD (n:Nat)(F:DF)(fa:DA):DE:=fun env S=>(fa env S).bind fun ds S1=>if ds.length=n then F ds S1 else .bad
theorem K6 {pins:List (Addr × Obj)}{σ : _L.St}{H:Hp}{s:Shared}{Q:VK}{us:List Value}{vs:List V}{P:Hp}{α : List Addr}{ds:List D}{S:Sto}(G:FnX X.prog X.w X.K X.mg X.base cm k f fd ps (spD X.K n F))(hr:RoomC cm k X.A)(hb:uW X.K fd ps [])(hF:Fn1 X)
  (I:Inv X pins σ H s) (r:Rel X.K H P α S) (rv:qN vs us) (rp:qE X.K P α ds vs) (hn:ds.length=n) (af:zC X P α (F ds S) Q):wpAny (model X.prog X.w) X.A (call (.ref f) us) (EP X pins σ Q) X.xe s:=by
 have hvn:vs.length=n:=by rw[← rp.length];exact hn
 let E:XK:=fun c _ H'=>match F ds S with
  |.ex c' _ S'=>c=c'∧∃ P' α',Rel X.K H' P' α' S'∧qG P P'∧α<+:α'
  |_=>False
 have hsp:spD X.K n F vs H Q E:=by
  refine⟨hvn,P,α,ds,S,r,rp,?_⟩
  cases q:F ds S with
  |ok d S'=>rw[q] at af;exact af
  |ex c x S' =>
   intro H' P' α' r' e1 e2
   show match F ds S with|.ex c' _ S'=>c=c'∧∃ P' α',Rel X.K H' P' α' S'∧qG P P'∧α<+:α'|_=>False
   rw[q]
   exact⟨rfl,P',α',r',e1,e2⟩
  |bad=>rw[q] at af;exact af
 have hl:us.length=ps.length:=by rw[← rv.length];exact G.len _ _ _ _ hsp
 have hb':=hb s us I.kIn (by rw[List.append_nil];exact hl)
 rw[List.append_nil] at hb'
 refine wpAny_call (codeAny_mono (G.run X.A X.stack s H ⟨us,[]⟩ us vs Q E hr I.env0 hb' rv hsp) fun r s' hq=>?_)
 cases r with
 |error u =>
  obtain⟨a,c,H',rfl,I',fl,q⟩:=B4 I hF hq
  cases z:F ds S with
  |ok d S'=>simp only[E,z] at q
  |bad=>simp only[E,z] at q
  |ex c' x' S' =>
   simp only[E,z] at q
   obtain⟨rfl,P',α',r',e1,e2⟩:=q
   rw[z] at af
   exact af _ _ ⟨a,pins,σ,H',P',α',rfl,I',r',e1,e2,hF,fl⟩
 |ok fl =>
  cases fl with
  |ret u=>exact I.after hq
  |next=>exact False.elim hq
  |brk=>exact False.elim hq
  |cont=>exact False.elim hq
theorem l8 {env:qC}{S S1:Sto}{P:Hp}{α : List Addr}{ds:List D}{Ok:D→Sto→Prop}(h:qK X P α (if ds.length=n then F ds S1 else .bad) Ok):ds.length=n∧qK X P α (F ds S1) Ok:=by
 by_cases hn:ds.length=n
 ·rw[if_pos hn] at h;exact⟨hn,h⟩
 ·rw[if_neg hn] at h;exact False.elim h
theorem VO (G:FnX X.prog X.w X.K X.mg X.base cm k f fd ps (spD X.K n F))(hr:RoomC cm k X.A)(hF:Fn1 X)(hg:Gl X x)(hm:X.mg x=some (.ref f))(hk:PySem.W.keepIn X.K (.ref f)=true)(hb:uW X.K fd ps [])
  (ha:PA X (e::es) (tDA X fa)) (hdb:(x == ("__debug__" : Str))=false:=by decide) (he:starEach (e::es) X.env=(false,eval e X.env)::starEach es X.env:=by rfl) (hpl:(backTo pos (starEach es X.env)).any (·.1)=false:=by rfl) :
  PE X (.Call (.Name x p) (e::es) [] pos) (tD X (qD n F fa)):=by
 intro pins s σ H Q I h
 obtain⟨P,α,env,S,r,re,af⟩:=h
 refine wpAny_Call_Name_kw (b8 I hg hm ?_ hdb)
 refine PySem.W.callWith_K (h₀:=X.base) I.ok.mod.kin hk (thn (yZ ha I r re af pos) fun us s1 ⟨vs,H1,P1,α1,ds,S1,I1,rv,r1,re1,rp,e1,e2,af1⟩=>⟨I1.kIn,?_⟩) he hpl
 obtain⟨hn,af2⟩:=l8 (env:=env) (S:=S) af1
 exact K6 G hr hb hF I1 r1 rv rp hn (zC.base e1 e2 af2)
end
end _D
end
section
namespace _D
open PySem PySem.Spec PyProof.Rows _L
abbrev dO:List Value:=[.type "ValueError",.type "Exception",.type "BaseException",.type "object"]
def NH:Value→Bool
 |.str _ _=>true
 |_=>false
def kL (K:PySem.W.Frag)(N:Addr):Bool:=(match List.lookup N K with
 |some o=>match o.data with
  |.dict es _=>es.toList.all fun e=>NH e.key
  |_=>false
 |none=>false)&&decide (PySem.W.nsIn K N "__init__" = some none)
theorem yV {K:PySem.W.Frag}{N:Addr}(h:kL K N=true):PySem.W.nsOkIn K N=true∧PySem.W.nsIn K N "__init__" = some none:=by
 unfold kL at h
 rw[Bool.and_eq_true,decide_eq_true_eq] at h
 refine⟨?_,h.2⟩
 have h1:=h.1
 unfold PySem.W.nsOkIn
 cases e:List.lookup N K with
 |none=>rw[e] at h1;cases h1
 |some o =>
  rw[e] at h1
  obtain⟨oc,od,dt,sl⟩:=o
  cases dt with
  |dict es ep =>
   simp only at h1 ⊢
   rw[Array.all_toList] at h1
   refine Eq.trans (congrArg (fun f=>Array.all es f) (funext fun e=>?_)) h1
   cases e.key <;> rfl
  |_=>cases h1
def dE (K:PySem.W.Frag)(C:Addr)(f:Value→ClassData→Array (Option Value)→Bool):Bool:=match List.lookup C K with
 |some o=>(match o.data with|.cls cd=>f o.cls cd o.slots|_=>false)
 |none=>false
theorem rB {K:PySem.W.Frag}{C:Addr}{f:Value→ClassData→Array (Option Value)→Bool}(h:dE K C f=true):∃ oc od cd sl,List.lookup C K=some ⟨oc,od,.cls cd,sl⟩∧f oc cd sl=true:=by
 unfold dE at h
 cases e:List.lookup C K with
 |none=>rw[e] at h;exact Bool.noConfusion h
 |some o =>
  rw[e] at h
  obtain⟨oc,od,dt,sl⟩:=o
  cases dt with
  |cls cd=>exact⟨oc,od,cd,sl,rfl,h⟩
  |_=>exact Bool.noConfusion h
def f9 (K:PySem.W.Frag)(C A:Addr):Bool:=dE K C fun oc cd sl=>dE K A fun _ ca _=>decide (oc=.type "type")&&(decide (cd.mro=.ref C::.ref A::dO)&&(!cd.hasDel&&(kL K cd.ns&&(kL K ca.ns&&(decide (sl.toList.length=6)&&decide (sl.toList[4]? = some (some (.builtin "ValueError.__new__"))))))))
inductive ExcO (h:Heap)(C:Addr):Prop
 |mk (nm q:Str) (N:Addr) (bs bm:List Value) (hdct:Bool) (sn:List Str) (sub:List Value) (ab:Bool) (col:Option Bool) (dd:Option Addr) (k0 k1 k2 k3 k5:Option Value) (mN:Str→Option Value) (hC:h.get? C=some (excClassObj nm q C N bs bm hdct sn sub ab col dd k0 k1 k2 k3 k5 "ValueError.__new__")) (hN:h.Ns N mN) (hni:mN "__init__" = none) (T:OwnTail h dO bm):ExcO h C
theorem nG {β : Type}{l:List β}{n:Nat}(h:l.length=n+1):∃ a t,l=a::t∧t.length=n:=by
 cases l with
 |nil=>exact Nat.noConfusion h
 |cons a t=>exact⟨a,t,rfl,Nat.succ.inj h⟩
theorem six {β : Type}{l:List β}(h:l.length=6):∃ a b c d e f,l=[a,b,c,d,e,f]:=by
 obtain⟨a,t,e1,h⟩:=nG h
 obtain⟨b,t2,e2,h⟩:=nG h
 obtain⟨c,t3,e3,h⟩:=nG h
 obtain⟨d,t4,e4,h⟩:=nG h
 obtain⟨e,t5,e5,h⟩:=nG h
 obtain⟨f,t6,e6,h⟩:=nG h
 exact⟨a,b,c,d,e,f,by rw[e1,e2,e3,e4,e5,e6,List.length_eq_zero_iff.mp h]⟩
theorem BY {C:Addr}{od:Option Addr}{cd:ClassData}{sl:Array (Option Value)}{tl:List Value}{k0 k1 k2 k3 k4 k5:Option Value}{n:String}(hm:cd.mro=.ref C::tl)(hd:cd.hasDel=false)(hs:sl.toList=[k0,k1,k2,k3,k4,k5])(hn:sl.toList[4]? = some (some (.builtin n))) :
  (⟨.type "type",od,.cls cd,sl⟩:Obj)=excClassObj cd.name cd.qualname C cd.ns cd.bases tl cd.hasDict cd.slotNames cd.subclasses cd.abstract cd.collection od k0 k1 k2 k3 k5 n:=by
 rw[hs] at hn
 cases hn
 cases cd
 cases sl
 cases hm
 cases hd
 cases hs
 rfl
theorem U8 {K:PySem.W.Frag}{h:Heap}{C A:Addr}{od:Option Addr}{cd:ClassData}{sl:Array (Option Value)}(KI:K.In h)(e:List.lookup C K=some ⟨.type "type",od,.cls cd,sl⟩)(h2:cd.mro=.ref C::.ref A::dO)(h3:cd.hasDel=false)(h4:kL K cd.ns=true)(h6:sl.toList.length=6)(h7:sl.toList[4]? = some (some (.builtin "ValueError.__new__")))(T:OwnTail h dO (.ref A::dO)):ExcO h C:=by
 obtain⟨k0,k1,k2,k3,x,k5,es⟩:=six h6
 exact⟨_,_,_,_,_,_,_,_,_,_,_,k0,k1,k2,k3,k5,_,(KI _ _ e).trans (congrArg some (BY h2 h3 es h7)),.of_isNs (PySem.W.isNs_of_in KI (yV h4).1),PySem.W.nsMap_none_of_in KI (yV h4).1 (yV h4).2,T⟩
theorem U9 {K:PySem.W.Frag}{h:Heap}{C A:Addr}(KI:K.In h)(z:f9 K C A=true):ExcO h C:=by
 obtain⟨oc,od,cd,sl,e,z⟩:=rB z
 obtain⟨qc,qd,ca,ql,e2,z⟩:=rB z
 have a1:=Bool.and_eq_true_iff.mp z
 have a2:=Bool.and_eq_true_iff.mp a1.2
 have a3:=Bool.and_eq_true_iff.mp a2.2
 have a4:=Bool.and_eq_true_iff.mp a3.2
 have a5:=Bool.and_eq_true_iff.mp a4.2
 have a6:=Bool.and_eq_true_iff.mp a5.2
 rw[of_decide_eq_true a1.1] at e
 exact U8 KI e (of_decide_eq_true a2.1) (Bool.not_eq_true' _▸a3.1) a4.1 (of_decide_eq_true a6.1) (of_decide_eq_true a6.2) (.own (KI _ _ e2) (.of_isNs (PySem.W.isNs_of_in KI (yV a5.1).1)) (PySem.W.nsMap_none_of_in KI (yV a5.1).1 (yV a5.1).2) .base)
section
variable {X:Cx}{pos:Pos}{fa:DA}
def v4 (c:Value)(fa:DA):DS:=fun env S=>(fa env S).toS env fun ds S1=>if ds.length≤lim then .ex c .non env S1 else .bad
inductive GotAS (X:Cx)(pins:List (Addr × Obj))(σ : _L.St)(env:qC)(P:Hp)(α : List Addr)(us:List Value)(s1:Shared)(k:List D→Sto→Out)(E:Ends):Prop
 |mk (vs:List V) (H1 P1:Hp) (α1:List Addr) (ds:List D) (S1:Sto) (I:Inv X pins σ H1 s1) (rv:qN vs us) (r:Rel X.K H1 P1 α1 S1) (re:zG X.K P1 α1 σ env) (rp:qE X.K P1 α1 ds vs) (e1:qG P P1) (e2:α<+:α1) (q:zF X P1 α1 (k ds S1) E):GotAS X pins σ env P α us s1 k E
theorem VL {es:List Expr}{k:List D→Sto→Out}{pins:List (Addr × Obj)}{s:Shared}{σ : _L.St}{H P:Hp}{α : List Addr}{env:qC}{S:Sto}{D:Ends}(he:PA X es (tDA X fa))(I:Inv X pins σ H s)(r:Rel X.K H P α S)
  (re:zG X.K P α σ env) (af:zF X P α ((fa env S).toS env k) D) (pos:Pos) :
  wpAny (model X.prog X.w) X.A (spliced (backTo pos (starEach es X.env))) (fun us s1=>GotAS X pins σ env P α us s1 k D) X.xe s:=by
 have af1:qK X P α ((fa env S).bind fun d S=>.ok d S) fun d S=>zF X P α (k d S) D:=by
  have:=yH af
  cases q:fa env S <;> rw[q] at this <;> exact this
 exact thn (yZ he I r re af1 pos) fun u s1 ⟨vs,H1,P1,α1,ds,S1,I1,rv,r1,re1,rp,e1,e2,q⟩=>⟨vs,H1,P1,α1,ds,S1,I1,rv,r1,re1,rp,e1,e2,zF.base e1 e2 q⟩
theorem XA {x:Str}{C Ae:Addr}{e₀:Expr}{rest:List Expr}{np cpos:Pos}(hc:X.calm=true)(hF:Fn1 X)(hg:Gl X x)(hm:X.mg x=some (.ref C))(hx:f9 X.K C Ae=true)(ha:PA X (e₀::rest) (tDA X fa))
  (hdb:(x == ("__debug__" : Str))=false:=by decide) (he:starEach (e₀::rest) X.env=(false,eval e₀ X.env)::starEach rest X.env:=by rfl) (hpl:(backTo cpos (starEach rest X.env)).any (·.1)=false:=by rfl) :
  PS X (.Raise (some (.Call (.Name x np) (e₀::rest) [] cpos)) none pos) (tDS X (v4 (.ref C) fa)):=by
 intro pins s σ H D I h
 obtain⟨P,α,env,S,r,re,af⟩:=h
 obtain⟨nm,qn,N,bs,tl,hdct,sn,sub,ab,col,dd,k0,k1,k2,k3,k5,mN,hC,hN,hni,T⟩:=U9 I.mod.kin hx
 refine wpAny_Raise_call_subT (C:=C) (nm:=nm) (q:=qn) (N:=N) (bs:=bs) (bm:=tl) (hdct:=hdct) (sn:=sn) (sub:=sub) (ab:=ab) (col:=col) (dd:=dd) (k0:=k0) (k1:=k1) (k2:=k2) (k3:=k3) (k5:=k5)
  PySem.F.excBase_ValueError (mN:=mN) (T.hasType PySem.F.excBase_ValueError.hasBase) (I.ok.hd hc) (by rw[he];show (false||(backTo cpos (starEach rest X.env)).any (·.1))=false;rw[hpl];rfl) hni (b8 I hg hm ⟨rfl,?_⟩ hdb)
 have run:=VL ha I r re af cpos
 rw[he] at run ⊢
 refine Calls.evalArgs_plain (thn run fun us s2 ⟨vs,H1,P1,α1,ds,S1,I1,rv,r1,re1,rp,e1,e2,q⟩=>?_)
 have hl:us.length=ds.length:=by rw[rp.length,rv.length]
 by_cases hz:ds.length≤lim
 ·rw[if_pos hz] at q
  refine⟨rfl,by rw[hl,← xJ];exact hz,I1.bk _ _ hC,hN.keeps I1.bk,T.keeps I1.bk,fun h' e hm=>q _ _ ⟨e,pins,σ,H1,P1,α1,rfl,I1.kept (t':=s2.toks) hm.keeps,r1,qG.refl _,List.prefix_refl _,hF,.new s2.heap us hm I1.stack fun b o eb old=>?_⟩⟩
  obtain⟨o1,q1⟩:=Old.there I1 hF old
  have q2:=hm.keeps b o1 q1
  rw[eb] at q2;cases q2
  exact q1
 ·rw[if_neg hz] at q;exact False.elim q
end
end _D
end
section
namespace _D
open PySem PySem.Spec PyProof.Rows _L PySem.W
structure ExnK (K:PySem.W.Frag)(C:Addr):Prop where
 ga:findIn K (.ref C) "__getattribute__" = some (some (.builtin "BaseException.__getattribute__"))
 hk:findIn K (.ref C) "__getattr__" = some none
 cl:findIn K (.ref C) "__class__" = some (some (.builtin "object.__class__"))
 sp:specialIn K (.builtin "object.__class__") "__get__" = some (some (.builtin "getset_descriptor.__get__"))
 tk:takesIn K (.builtin "object.__class__")=some true
 mo:mroIn K C (.type "object")=some true
 mb:mroIn K C (.type "BaseException")=some true
 isC:(clsIn K C).isSome=true
end _D
end
section
namespace _D
open PySem PySem.Spec PyProof.Rows _L
theorem fP {α : Type}{t:Sem α}{Q Q':α→Shared→Prop}{M:Model}{A:Around}{E:Value→Shared→Prop}{s:Shared}(h:wpAny M A t Q (fun _ _=>False) s)(hQ:∀ a s,Q a s→Q' a s):wpAny M A t Q' E s:=wpAny_mono h hQ fun _ _ x=>x.elim
def jR (ifs:List Expr)(env:Env):Sem Bool:=forIn ifs true fun c r=>if r=true then do let ok ← PySem.isTrue c env (eval c env);pure (ForInStep.yield ok) else pure (ForInStep.yield r)
def PTs (X:Cx)(ifs:List Expr)(t:DT):Prop:=
 ∀ (pins:List (Addr × Obj)) (s:Shared) (σ : _L.St) (H:Hp) (Q:Bool→Hp→Prop),Inv X pins σ H s→tDT X t σ H Q→wpAny (model X.prog X.w) X.A (jR ifs X.env) (TP X pins σ Q) X.xe s
def qU:DT:=fun _ S=>.ok true S
section
variable {X:Cx}
theorem bW {prog:Program}{w:World}{A:Around}{E:Value→Shared→Prop}{env:Env}{Q:Bool→Shared→Prop}:∀ (ifs:List Expr) {s:Shared},Q false s →
  wpAny (model prog w) A (forIn ifs false fun c r=>if r=true then do let ok ← PySem.isTrue c env (eval c env);pure (ForInStep.yield ok) else pure (ForInStep.yield r)) Q E s
 |[],s,h=>by rw[List.forIn_nil];exact wpAny_pure h
 |c::cs,s,h=>by
  rw[List.forIn_cons]
  rw[if_neg (by simp)]
  refine wpAny_bind (wpAny_pure ?_)
  exact bW cs h
theorem U2:PTs X [] qU:=fun pins s σ H Q I ⟨P,α,env,S,r,re,af⟩=>by
 unfold jR
 rw[List.forIn_nil]
 exact wpAny_pure ⟨H,I,af H P α r (qG.refl _) (List.prefix_refl _)⟩
theorem XC {c:Expr}{cs:List Expr}{t u:DT}(h1:PT X c (tDT X t))(h2:PTs X cs u):PTs X (c::cs) (xY t u):=fun pins s σ H Q I ⟨P,α,env,S,r,re,af⟩=>by
 unfold jR
 rw[List.forIn_cons,if_pos rfl]
 refine wpAny_bind (wpAny_bind (thn (pF (fun Q' q=>h1 pins s σ H Q' I q) r re af) fun b s1 ⟨H1,P1,α1,S1,I1,r1,re1,e1,e2,af1⟩=>wpAny_pure ?_))
 cases b with
 |true=>exact h2 pins s1 σ H1 Q I1 ⟨P1,α1,env,S1,r1,re1,y9.base e1 e2 af1⟩
 |false=>exact bW cs ⟨H1,I1,af1 H1 P1 α1 r1 e1 e2⟩
theorem SK {e:Expr}{f:DE}{pins:List (Addr × Obj)}{s:Shared}{σ : _L.St}{H P:Hp}{α : List Addr}{env:qC}{S:Sto}{d:D}{S1:Sto}(he:PE X e (tD X f))(I:Inv X pins σ H s)(r:Rel X.K H P α S)(re:zG X.K P α σ env)(q:f env S=.ok d S1) :
  wpAny (model X.prog X.w) X.A (eval e X.env) (fun u s1=>∃ v H1 P1 α1,Got X pins σ env P α u s1 v H1 P1 α1 d S1) X.xe s:=by
 refine thn (xB (g:=fun d S=>Res.ok d S) (Ok:=fun d' S'=>d'=d∧S'=S1) he I r re (by rw[q];exact⟨rfl,rfl⟩)) fun u s1 ⟨v,H1,P1,α1,d',S',G,h1,h2⟩=>?_
 have e1:d'=d:=h1
 have e2:S'=S1:=h2
 subst e1;subst e2
 exact⟨v,H1,P1,α1,G⟩
theorem L4 {ifs:List Expr}{t:DT}{pins:List (Addr × Obj)}{s:Shared}{σ : _L.St}{H P:Hp}{α : List Addr}{env:qC}{S:Sto}{b:Bool}{S1:Sto}(he:PTs X ifs t)(I:Inv X pins σ H s)(r:Rel X.K H P α S)(re:zG X.K P α σ env)(q:t env S=.ok b S1) :
  wpAny (model X.prog X.w) X.A (jR ifs X.env) (fun b' s1=>b'=b∧∃ H1 P1 α1,Inv X pins σ H1 s1∧Rel X.K H1 P1 α1 S1∧zG X.K P1 α1 σ env∧qG P P1∧α<+:α1) X.xe s:=by
 refine thn (he pins s σ H (fun b' H1=>b'=b∧∃ P1 α1,Rel X.K H1 P1 α1 S1∧zG X.K P1 α1 σ env∧qG P P1∧α<+:α1) I ⟨P,α,env,S,r,re,?_⟩) fun b' s1 ⟨H1,I1,e,P1,α1,q1,q2,q3,q4⟩=>⟨e,H1,P1,α1,I1,q1,q2,q3,q4⟩
 rw[q]
 exact fun H' P' α' r' e1 e2=>⟨rfl,P',α',r',re.mono e1 e2,e1,e2⟩
theorem SL {tg:Expr}{g:DG}{pins:List (Addr × Obj)}{s:Shared}{σ : _L.St}{H P:Hp}{α : List Addr}{env env1:qC}{S:Sto}{d:D}{v:V}{u:Value}{S1:Sto}(hg:PG X tg (tDG X g))(I:Inv X pins σ H s)(r:Rel X.K H P α S)(re:zG X.K P α σ env)(rv:qJ v u)
  (rp:Rep X.K P α d v) (q:g d env S=.ok env1 S1) :
  wpAny (model X.prog X.w) X.A (assign tg X.env u) (fun _ s1=>∃ σ1 H1 P1 α1,Inv X pins σ1 H1 s1∧Rel X.K H1 P1 α1 S1∧zG X.K P1 α1 σ1 env1∧qG P P1∧α<+:α1) X.xe s:=by
 refine thn (hg pins s σ H v u (fun σ1 H1=>∃ P1 α1,Rel X.K H1 P1 α1 S1∧zG X.K P1 α1 σ1 env1∧qG P P1∧α<+:α1) I rv ⟨P,α,env,S,d,r,re,rp,?_⟩) fun _ s1 ⟨σ1,H1,I1,P1,α1,q1,q2,q3,q4⟩=>⟨σ1,H1,P1,α1,I1,q1,q2,q3,q4⟩
 rw[q]
 exact fun σ' H' P' α' r' re' e1 e2=>⟨P',α',r',re',e1,e2⟩
def t9 (K:PySem.W.Frag)(P:Hp)(α : List Addr)(ds:List D)(o:Obj):Prop:=∃ (its:List Value) (n:Nat) (vs:List V),o={ cls:=.type "list",data:=.seq its.toArray n } ∧ qN vs its∧qE K P α ds vs∧ds.length≤lim
theorem t9.mono {K:PySem.W.Frag}{P P1:Hp}{α α1:List Addr}{ds:List D}{o:Obj}(e:qG P P1)(h:α<+:α1)(a:t9 K P α ds o):t9 K P1 α1 ds o:=by
 obtain⟨its,n,vs,q1,q2,q3,q4⟩:=a
 exact⟨its,n,vs,q1,q2,qE.mono e h _ _ q3,q4⟩
theorem t9.cell {K:PySem.W.Frag}{P:Hp}{α : List Addr}{ds:List D}{o:Obj}(a:t9 K P α ds o):∀ v,o.data≠.cell v:=by
 obtain⟨its,n,vs,rfl,_⟩:=a
 intro v z;cases z
theorem Inv.pin1 {pins:List (Addr × Obj)}{σ : _L.St}{H:Hp}{s:Shared}{a:Addr}{o:Obj}(I:Inv X pins σ H s)(f:xO X pins H a)(e:s.heap.get? a=some o)(d:∀ v,o.data≠.cell v):Inv X (pins++[(a,o)]) σ H s:=
 I.pins_of fun p hp=>(List.mem_append.mp hp).elim (fun z=>I.pin p (List.mem_append_right _ z)) fun z=>by
  have e':p=(a,o):=by simpa using z
  subst e'
  exact⟨e,f.1,f.2.1,f.2.2.1,d⟩
theorem Inv.pinned1 {pins:List (Addr × Obj)}{σ : _L.St}{H:Hp}{s:Shared}{a:Addr}{o:Obj}(I:Inv X (pins++[(a,o)]) σ H s):s.heap.get? a=some o∧H a=none:=by
 have:=I.pin (a,o) (List.mem_append_right _ (List.mem_append_right _ (by simp)))
 exact⟨this.1,this.2.1⟩
end
end _D
end
section
namespace _D
open PySem PySem.Spec PyProof.Rows _L
structure TurnSt (Y:Cx)(pins:List (Addr × Obj))(P1:Hp)(α1:List Addr)(fp:List Addr)(acc:Addr)(env:qC)(S:Sto)(ds:List D)(s:Shared)(σ : _L.St)(H P:Hp)(α : List Addr)(o:Obj):Prop where
 inv:Inv Y pins σ H s
 rel:Rel Y.K H P α S
 env:zG Y.K P α σ env
 same:qG P1 P
 pre:α1<+:α
 fpn:∀ b∈fp,H b=none
 acn:H acc=none
 at':s.heap.get? acc=some o
 acc:t9 Y.K P α ds o
end _D
end
section
namespace _D
open PySem PySem.Spec PyProof.Rows _L
def wI (cells:List (Str × Addr)):List (Str × NameKind)→List (Str × Addr)→List (Str × Addr)
 |[],cs=>cs
 |(n,k)::r,cs=>wI cells r (if k == .free then (n,(cells.lookup n).getD 0)::cs else cs)
theorem lV {env:Env}{scope:Scope}(h:∀ y∈scope.names,y.2=.free→∃ c,env.cells.lookup y.1=some c):closureFor scope env=pure (wI env.cells scope.names []):=by
 have go:∀ (l:List (Str × NameKind)) (cs:List (Str × Addr)),(∀ y∈l,y.2=.free→∃ c,env.cells.lookup y.1=some c) →
   (forIn l cs fun x cs=>match x with|(name,kind)=>if (kind == NameKind.free)=true then do let a ← cellOf env name;pure (ForInStep.yield ((name,a)::cs)) else pure (ForInStep.yield cs):Sem (List (Str × Addr)))=pure (wI env.cells l cs):=by
  intro l
  induction l with
  |nil=>intro cs _;rfl
  |cons y r ih =>
   intro cs hl
   obtain⟨n,k⟩:=y
   rw[List.forIn_cons]
   by_cases hk:k=.free
   ·subst hk
    obtain⟨c,hc⟩:=hl (n,.free) List.mem_cons_self rfl
    have hc':env.cells.lookup n=some c:=hc
    have e:cellOf env n=pure c:=by unfold cellOf;rw[hc']
    simp only[beq_self_eq_true,if_true,e,pure_bind]
    rw[ih _ fun z hz=>hl z (List.mem_cons_of_mem _ hz)]
    simp only[wI,beq_self_eq_true,if_true,hc',Option.getD_some]
   ·have hb:(k == NameKind.free)=false:=by simpa using hk
    simp only[hb,Bool.false_eq_true,if_false,pure_bind]
    rw[ih _ fun z hz=>hl z (List.mem_cons_of_mem _ hz)]
    simp only[wI,hb,Bool.false_eq_true,if_false]
 unfold closureFor
 have:=go scope.names [] h
 simp only[bind_pure]
 exact this
theorem bR {cells:List (Str × Addr)}{x:Str}{c:Addr}:∀ (l:List (Str × NameKind)) (cs:List (Str × Addr)),(wI cells l cs).lookup x=some c→cs.lookup x=some c∨((x,NameKind.free)∈l∧c=(cells.lookup x).getD 0)
 |[],cs,h=>.inl h
 |(n,k)::r,cs,h=>by
  rcases bR r _ h with h|⟨h1,h2⟩
  ·by_cases hk:k=.free
   ·subst hk
    simp only[beq_self_eq_true,if_true,List.lookup_cons] at h
    cases hb:x == n with
    |true =>
     rw[hb] at h
     have e:x=n:=by simpa using hb
     subst e
     exact .inr ⟨List.mem_cons_self,(Option.some.inj h).symm⟩
    |false=>rw[hb] at h;exact .inl h
   ·have hb:(k == NameKind.free)=false:=by simpa using hk
    simp only[hb,Bool.false_eq_true,if_false] at h
    exact .inl h
  ·exact .inr ⟨List.mem_cons_of_mem _ h1,h2⟩
theorem pC {cells:List (Str × Addr)}{x:Str}:∀ (l:List (Str × NameKind)) (cs:List (Str × Addr)),((x,NameKind.free)∈l∨∃ c,cs.lookup x=some c)→∃ c,(wI cells l cs).lookup x=some c
 |[],cs,h=>by
  rcases h with h|h
  ·cases h
  ·exact h
 |(n,k)::r,cs,h=>by
  refine pC r _ ?_
  rcases h with h|⟨c,h⟩
  ·rcases List.mem_cons.mp h with e|h
   ·cases e
    exact .inr ⟨(cells.lookup x).getD 0,by simp only[beq_self_eq_true,if_true,List.lookup_cons]⟩
   ·exact .inl h
  ·by_cases hk:k=.free
   ·subst hk
    simp only[beq_self_eq_true,if_true,List.lookup_cons]
    cases hb:x == n with
    |true=>exact .inr ⟨_,rfl⟩
    |false=>exact .inr ⟨c,h⟩
   ·have hb:(k == NameKind.free)=false:=by simpa using hk
    simp only[hb,Bool.false_eq_true,if_false]
    exact .inr ⟨c,h⟩
structure CompSc (scX:Scope)(NX:List Str)(scope:Scope)(N':List Str)(cap:List (Option Nat)):Prop where
 kind:scope.kind=.function
 names:∀ y∈scope.names,y.2=.local → scope.names.lookup y.1=some .local
 nocell:∀ y∈scope.names,y.2≠.cell
 free:∀ y∈scope.names,y.2=.free→scX.names.lookup y.1=some .cell∨scX.names.lookup y.1=some .free
 fr2:∀ y∈scope.names,y.2=.free→scope.names.lookup y.1=some .free
 len:cap.length=N'.length
 caps:((cap.zip N').all fun p=>match p.1 with|none=>true|some i=>NX[i]? == some p.2&&scope.names.lookup p.2 == some .free)=true
 nd:N'.Nodup
def vS (cap:List (Option Nat))(σ : _L.St):_L.St:=cap.map fun o=>match o with
 |none=>none
 |some i=>(σ[i]?).join
def zW (cap:List (Option Nat))(env:qC):qC:=cap.map fun o=>match o with
 |none=>none
 |some i=>(env[i]?).join
theorem QX {K:PySem.W.Frag}{P:Hp}{α : List Addr}{σ : _L.St}{env:qC}(re:zG K P α σ env)(cap:List (Option Nat)):zG K P α (vS cap σ) (zW cap env):=by
 refine⟨by simp[vS,zW],fun j d e=>?_⟩
 unfold zW at e
 unfold vS
 rw[List.getElem?_map] at e ⊢
 cases q:cap[j]? with
 |none=>rw[q] at e;cases e
 |some o =>
  rw[q] at e
  cases o with
  |none=>cases e
  |some i =>
   have e':(env[i]?).join=some d:=by simpa using e
   cases z:env[i]? with
   |none=>rw[z] at e';cases e'
   |some w =>
    rw[z] at e'
    have e'':w=some d:=e'
    subst e''
    obtain⟨v,h1,h2⟩:=re.2 i d z
    exact⟨v,by simp[h1],h2⟩
def qW (X:Cx)(N':List Str)(scope:Scope)(cl:List (Str × Addr))(C:Addr)(ex:List Addr)(s₀:Shared)(H₀:Hp):Cx:=
 { X with N:=N',s₀:=s₀,H₀:=H₀,env:=compEnvC scope cl C X.env,outer:=X.stack,stack:=X.stack,ex:=ex,fn:=fun _=>false,pn:=[],xe:=fun _ _=>False }
theorem jN {scope:Scope}{env:Env}:∀ {names:List (Str × NameKind)} {x:Str} {k:NameKind},
  (names.map fun (n,k)=>if (k == NameKind.free&&env.scope.kind == .function&&env.kindOf n == some .cell) then (n,NameKind.cell) else (n,k)).lookup x=some k →
  names.lookup x=some k∨(k=.cell∧names.lookup x=some .free)
 |[],_,_,h=>by simp at h
 |(n,k0)::r,x,k,h=>by
  rw[List.map_cons,List.lookup_cons] at h
  rw[List.lookup_cons]
  dsimp only at h
  cases hb:(k0 == NameKind.free&&env.scope.kind == .function&&env.kindOf n == some .cell) with
  |true =>
   rw[hb] at h
   simp only[if_true] at h
   cases hx:x == n with
   |true =>
    rw[hx] at h
    have e:NameKind.cell=k:=Option.some.inj h
    have hk:k0=.free:=by
     have:=(Bool.and_eq_true _ _).mp hb
     have:=(Bool.and_eq_true _ _).mp this.1
     simpa using this.1
    subst hk
    exact .inr ⟨e.symm,rfl⟩
   |false=>rw[hx] at h;exact jN (scope:=scope) h
  |false =>
   rw[hb] at h
   simp only[Bool.false_eq_true,if_false] at h
   cases hx:x == n with
   |true=>rw[hx] at h;exact .inl h
   |false=>rw[hx] at h;exact jN (scope:=scope) h
section
variable {X:Cx}{scope:Scope}{N':List Str}{cap:List (Option Nat)}{pins:List (Addr × Obj)}{σ : _L.St}{H2:Hp}{s2:Shared}{fp:List Addr}
theorem kW (S:CompSc X.env.scope X.N scope N' cap){x:Str}{k:NameKind}(h:(relabel scope X.env).names.lookup x=some k):scope.names.lookup x=some k∨(k=.cell∧scope.names.lookup x=some .free):=jN (scope:=scope) h
theorem xX (S:CompSc X.env.scope X.N scope N' cap)(ok:X.Ok){x:Str}{c:Addr}(h:(wI X.env.cells scope.names []).lookup x=some c):X.env.cells.lookup x=some c:=by
 rcases bR _ _ h with h|⟨hm,hc⟩
 ·cases h
 ·have:=S.free _ hm rfl
  obtain⟨c',hc'⟩:=ok.has x this
  rw[hc',Option.getD_some] at hc
  rw[hc',hc]
theorem VI {C:Addr}(S:CompSc X.env.scope X.N scope N' cap)(I2:Inv X pins σ H2 s2)(hf:∀ b∈fp,xO X pins H2 b)(hlt:∀ b∈fp,b<s2.heap.objs.size)(hC:s2.heap.objs.size≤C) :
  (qW X N' scope (wI X.env.cells scope.names []) C fp s2 H2).Ok where
 mod:=I2.ok.mod
 kind:=S.kind
 glob:=I2.ok.glob
 blt:=I2.ok.blt
 above:=hC
 inj:=fun x y c h1 h2=>I2.ok.inj x y c (xX S I2.ok h1) (xX S I2.ok h2)
 has:=fun x hx=>by
  have hx':(relabel scope X.env).names.lookup x=some .cell∨(relabel scope X.env).names.lookup x=some .free:=hx
  have hf:scope.names.lookup x=some .free:=by
   rcases hx' with h|h
   ·rcases kW S h with h|⟨_,h⟩
    ·exact absurd rfl (S.nocell _ (PySem.mem_of_lookup h))
    ·exact h
   ·rcases kW S h with h|⟨z,_⟩
    ·exact h
    ·cases z
  exact pC _ _ (.inl (PySem.mem_of_lookup hf))
 cab:=fun x c h _=>by cases h
 hd:=I2.ok.hd
 frames:=I2.ok.frames
 stk:=.inl rfl
 exf:=fun b hb=>⟨Nat.ne_of_lt (Nat.lt_of_lt_of_le (hlt b hb) hC),fun x c h=>(hf b hb).2.2.2.2.1 x c (xX S I2.ok h)⟩
 bs:=I2.bs
 bsz:=Nat.le_trans I2.ok.bsz I2.sz
 noex:=fun b o e hb=>by
  obtain⟨_,_,_,h,_⟩:=hf b hb
  rcases h with h|h
  ·exact I2.ok.noex b o e h
  ·exact absurd (Nat.lt_of_lt_of_le (Heap.lt_size e) (Nat.le_trans I2.ok.bsz h)) (Nat.lt_irrefl _)
 exfs:=fun b hb hb2=>by
  obtain⟨_,h1,h2,_⟩:=hf b hb
  rcases List.mem_cons.mp (I2.stkSub b hb2) with z|z
  ·exact h1 z
  ·exact h2 z
 funs:=I2.stack
 frf:=I2.stkFree
theorem ZT {s4:Shared}{C:Addr}{m:Str→Option Value}(S:CompSc X.env.scope X.N scope N' cap)(I2:Inv X pins σ H2 s2)(hf:∀ b∈fp,xO X pins H2 b)(hlt:∀ b∈fp,b<s2.heap.objs.size)(hC:s2.heap.objs.size≤C)
  (hn:s4.heap.Ns C m) (os:s4.os=s2.os) (gens:s4.gens=s2.gens) (keep:∀ b o,s2.heap.get? b=some o→s4.heap.get? b=some o) :
  Inv (qW X N' scope (wI X.env.cells scope.names []) C fp s2 H2) [] (vS cap σ) H2 s4 where
 ok:=VI S I2 hf hlt hC
 os:=os
 bare:=gens▸I2.bare
 base:=Un.kept keep
 loc:=by
  refine⟨m,hn,fun j x v h1 h2 h3=>?_⟩
  have h1':N'[j]? = some x:=h1
  unfold vS at h2
  rw[List.getElem?_map] at h2
  cases q:cap[j]? with
  |none=>rw[q] at h2;cases h2
  |some o =>
   rw[q] at h2
   cases o with
   |none=>cases h2
   |some i =>
    have e':(σ[i]?).join=some v:=by simpa using h2
    have hσ:σ[i]? = some (some v):=by
     cases z:σ[i]? with
     |none=>rw[z] at e';cases e'
     |some w=>rw[z] at e';have:w=some v:=e';rw[this]
    have hz:(some i,x)∈cap.zip N':=by
     refine List.mem_iff_getElem?.mpr ⟨j,?_⟩
     rw[List.getElem?_zip_eq_some]
     exact⟨q,h1'⟩
    have hc:=List.all_eq_true.mp S.caps _ hz
    simp only[Bool.and_eq_true,beq_iff_eq] at hc
    obtain⟨hN,hfr⟩:=hc
    have hk:=S.free _ (PySem.mem_of_lookup hfr) rfl
    obtain⟨mo,hmo,hl⟩:=I2.loc
    have vis:Vis X.env.scope x:=by
     rcases hk with k|k
     ·exact .inr (.inl k)
     ·exact .inr (.inr k)
    obtain⟨u,ru,lk⟩:=hl i x v hN hσ vis
    refine⟨u,ru,?_⟩
    rcases lk with⟨kl,_⟩|⟨_,c,hcl,hcell⟩
    ·have kl':X.env.scope.names.lookup x=some .local:=kl
     rcases hk with k|k
     ·have k':X.env.scope.names.lookup x=some .cell:=k
      rw[kl'] at k';cases k'
     ·have k':X.env.scope.names.lookup x=some .free:=k
      rw[kl'] at k';cases k'
    ·obtain⟨c',hc'⟩:=pC (cells:=X.env.cells) scope.names [] (.inl (PySem.mem_of_lookup hfr))
     have e2:=xX S I2.ok hc'
     rw[hcl] at e2;cases e2
     refine .inr ⟨?_,c,hc',?_⟩
     ·have h3':Vis (relabel scope X.env) x:=h3
      rcases h3' with h|h|h
      ·rcases kW S h with h|⟨z,_⟩
       ·rw[hfr] at h;cases h
       ·cases z
      ·exact .inl h
      ·exact .inr h
     ·obtain⟨ob,hob,hd⟩:=hcell
      exact⟨ob,keep c ob hob,hd⟩
 cell:=fun x c h=>by
  obtain⟨v,ob,hob,hd⟩:=I2.cell x c (xX S I2.ok h)
  exact⟨v,ob,keep c ob hob,hd⟩
 free:=I2.hok.fresh hC
 freeC:=fun x c h=>I2.freeC x c (xX S I2.ok h)
 pin:=fun p hp=>absurd (show p∈([]:List (Addr × Obj)) from hp) (by simp)
 hok:=I2.hok.kept keep
 len:=by
  show (vS cap σ).length=N'.length
  simp[vS,S.len]
end
end _D
end
section
namespace _D
open PySem PySem.Spec PyProof.Rows _L
theorem oR {P:Program}{w:World}{H:Hp}{h:Heap}{a:Addr}{o:HO}(x:HOk P w H h)(hn:H a=none)(new:zI P w (upd H a o) h a o):HOk P w (upd H a o) h:=fun b u e=>by
 by_cases hb:b=a
 ·subst hb;rw[z0] at e;cases e;exact new
 ·rw[qS hb] at e
  exact(x b u e).stay (fun c v _ q=>q) (fun c q=>by rw[qS (zM q hn)];exact q) fun c xs q=>by rw[qS (zM q hn)];exact q
theorem oQ {P:Program}{w:World}{H:Hp}{h h':Heap}{C:Addr}(x:HOk P w H h)(hn:H C=none)(k:∀ b o,b≠C→h.get? b=some o→h'.get? b=some o):HOk P w H h':=fun b u e =>
 (x b u e).stay (fun c v hc q=>k c v (by
  rintro rfl
  rcases hc with z|z
  ·subst z;rw[hn] at e;cases e
  ·rw[hn] at z;cases z) q) (fun _ q=>q) fun _ _ q=>q
section
variable {X:Cx}{elt tg iter:Expr}{ifs:List Expr}{scope:Scope}{pos:Pos}{N':List Str}{cap:List (Option Nat)}{fi:DI}{g:DG}{t:DT}{fe:DE}
def pS (X:Cx)(pins:List (Addr × Obj))(σ : _L.St)(P1:Hp)(α1:List Addr)(ds:List D)(SF:Sto)(acc C:Addr)(s:Shared):Prop:=
 ∃ (H' P':Hp) (α' : List Addr) (vs:List V),Inv X pins σ (upd H' acc (.lst vs)) s∧Rel X.K H' P' α' SF∧H' acc=none∧qG P1 P'∧α1<+:α'∧qE X.K P' α' ds vs∧H' C=none
theorem ZS {Y:Cx}{pins:List (Addr × Obj)}{σ σ':_L.St}{H2:Hp}{s2 s':Shared}{fp:List Addr}{acc C:Addr}{P1:Hp}{α1:List Addr}{H' P':Hp}{α' : List Addr}{envF:qC}{SF:Sto}{ds:List D}{o:Obj}{cl:List (Str × Addr)}(I2:Inv X pins σ H2 s2)
  (hf:∀ b∈fp,xO X pins H2 b) (hY:Y=qW X N' scope cl C fp s2 H2) (hC:s2.heap.objs.size≤C) (hA:s2.heap.objs.size≤acc) (hne:acc≠C) (st:TurnSt Y [] P1 α1 fp acc envF SF ds s' σ' H' P' α' o)
  {h':Heap} (sb:Heap.SameBut C s'.heap h'):pS X pins σ P1 α1 ds SF acc C { s' with heap:=h' }:=by
 subst hY
 obtain⟨its,n,vs,rfl,rv,rp,hz⟩:=st.acc
 have kC:∀ b o,b≠C→s'.heap.get? b=some o→h'.get? b=some o:=fun b o hb e=>(sb.2 b hb).trans e
 have nC:∀ b o,s2.heap.get? b=some o→b≠C:=fun b o e=>Nat.ne_of_lt (Nat.lt_of_lt_of_le (Heap.lt_size e) hC)
 have nA:∀ b o,s2.heap.get? b=some o→b≠acc:=fun b o e=>Nat.ne_of_lt (Nat.lt_of_lt_of_le (Heap.lt_size e) hA)
 have base:Un (frs X.stack) fp H2 H' s2.heap s'.heap:=st.inv.base
 have nt:∀ b u,H' b=some u→b≠acc:=fun b u e=>zM e st.acn
 have un:Un (frs X.stack) fp H2 (upd H' acc (.lst vs)) s2.heap h':=by
  refine⟨fun b ob q hn hb hx=>kC b ob (nC b ob q) (base.keep b ob q hn hb hx),fun b ob q hn hb hx=>?_,fun b ob q hn hx=>?_,fun b ob q hx=>?_,fun b xs q=>?_,fun b ob u q=>?_,fun b ps q=>?_⟩
  ·obtain⟨sl,e⟩:=base.slot b ob q hn hb hx
   exact⟨sl,kC b _ (nC b ob q) e⟩
  ·rw[qS (nA b ob q)];exact base.free b ob q hn hx
  ·obtain⟨o',e⟩:=base.there b ob q hx
   exact⟨o',kC b o' (nC b ob q) e⟩
  ·have:=base.tups b xs q;rw[qS (nt _ _ this)];exact this
  ·have:=base.frzs b ob u q;rw[qS (nt _ _ this)];exact this
  ·obtain⟨more,e⟩:=base.tbls b ps q
   exact⟨more,by rw[qS (nt _ _ e)];exact e⟩
 have hok':HOk X.prog X.w H' h':=oQ st.inv.hok st.inv.free kC
 have hat:h'.get? acc=some { cls:=.type "list",data:=.seq its.toArray n }:=kC acc _ hne st.at'
 have hok:HOk X.prog X.w (upd H' acc (.lst vs)) h':=oR hok' st.acn ⟨by rw[← rp.length,← xJ];exact hz,its,n,rv,hat⟩
 refine⟨H',P',α',vs,?_,st.rel,st.acn,st.same,st.pre,rp,st.inv.free⟩
 exact I2.call' (s':={ s' with heap:=h' }) (ch:=fp) (st.inv.os) un hok st.inv.bare fun b hb=>by
  obtain⟨_,h1,h2,h3,h4,h5⟩:=hf b hb
  exact⟨h3,h1,h4,h5⟩
theorem eK (S:CompSc X.env.scope X.N scope N' cap)(ok:X.Ok):closureFor scope X.env=pure (wI X.env.cells scope.names []):=lV fun y hy hk=>ok.has y.1 (S.free y hy hk)
theorem U5 {pins:List (Addr × Obj)}{σ : _L.St}{P1:Hp}{α1:List Addr}{ds:List D}{SF:Sto}{acc C:Addr}{s:Shared}{Q:VK}(c:pS X pins σ P1 α1 ds SF acc C s)(ok:OkV X P1 α1 Q (.lst ds) SF):EP X pins σ Q (.ref acc) s:=by
 obtain⟨H',P',α',vs,I,r,hn,e1,e2,rp,_⟩:=c
 exact⟨.ref acc,_,I,rfl,jL r hn rp fun v H2 P2 α2 r2 q1 q2 q3=>ok v H2 P2 α2 r2 (e1.trans q1) (e2.trans q2) q3⟩
end
end _D
end
section
namespace _D
open PySem PySem.Spec PyProof.Rows _L PySem.SeqAt
def b01 (b:Bool):Int:=if b then 1 else 0
mutual
def eqD:D→D→Bool
 |.non,.non=>true
 |.bl a,.bl b=>a == b
 |.bl a,.int b=>b01 a == b
 |.int a,.bl b=>a == b01 b
 |.int a,.int b=>a == b
 |.str a,.str b=>a == b
 |.tup xs,.tup ys=>zY xs ys
 |.lst xs,.lst ys=>zY xs ys
 |_,_=>false
def zY:List D→List D→Bool
 |[],[]=>true
 |x::xs,y::ys=>eqD x y&&zY xs ys
 |_,_=>false
end
def pl:Nat→D→Bool
 |_,.non=>true
 |_,.bl _=>true
 |_,.int _=>true
 |_,.str _=>true
 |n+1,.tup xs=>xs.all (pl n)
 |n+1,.lst xs=>xs.all (pl n)
 |_,_=>false
theorem oK (x y:D)(xs ys:List D):zY (x::xs) (y::ys)=(eqD x y&&zY xs ys):=rfl
theorem vA:∀ (xs ys:List D),zY xs ys=((List.range (min xs.length ys.length)).all (fun j=>eqD (xs.getD j .non) (ys.getD j .non))&&xs.length == ys.length)
 |[],[]=>rfl
 |[],y::ys=>rfl
 |x::xs,[]=>rfl
 |x::xs,y::ys=>by
  have ih:=vA xs ys
  rw[oK,ih,List.length_cons,List.length_cons,Nat.succ_min_succ,List.range_succ_eq_map,List.all_cons,List.all_map,Bool.and_assoc]
  have e:(xs.length+1 == ys.length+1)=(xs.length == ys.length):=by simp
  rw[e]
  rfl
theorem XI {xs ys:List D}(h:xs.length≠ys.length):zY xs ys=false:=by
 rw[vA]
 simp[h]
theorem tP (xs ys:List D):eqD (.tup xs) (.tup ys)=zY xs ys:=rfl
theorem tO (xs ys:List D):eqD (.lst xs) (.lst ys)=zY xs ys:=rfl
section
variable {X:Cx}{pins:List (Addr × Obj)}{σ : _L.St}{H P:Hp}{α : List Addr}{S:Sto}{s:Shared}
inductive Kd (X:Cx)(P:Hp)(α : List Addr)(s:Shared):D→Value→Prop where
 |non:Kd X P α s .non .none
 |bl (b:Bool):Kd X P α s (.bl b) (.bool b)
 |int (i:Int) (t:Tok):Kd X P α s (.int i) (.int i t)
 |str (x:Str) (t:Tok):Kd X P α s (.str x) (.str x t)
 |tup (a:Addr) (xs:List D) (its:List Value) (vs:List V) (rp:qE X.K P α xs vs) (rv:qN vs its) (h:s.heap.IsTuple a its.toArray) (q:SqT X.K P a vs):Kd X P α s (.tup xs) (.ref a)
 |lst (a:Addr) (xs:List D) (its:List Value) (vs:List V) (rp:qE X.K P α xs vs) (rv:qN vs its) (h:s.heap.IsList a its.toArray) (q:SqX X.K P a vs):Kd X P α s (.lst xs) (.ref a)
theorem v8 (I:Inv X pins σ H s)(r:Rel X.K H P α S){n:Nat}{d:D}{v:V}{u:Value}(h:pl n d=true)(p:Rep X.K P α d v)(rv:qJ v u):Kd X P α s d u:=by
 cases d with
 |non=>simp only[Rep] at p;subst p;cases rv;exact .non
 |bl b=>simp only[Rep] at p;subst p;cases rv;exact .bl b
 |int i=>simp only[Rep] at p;subst p;obtain⟨t,rfl⟩:=rv;exact .int i t
 |str x=>simp only[Rep] at p;subst p;obtain⟨t,rfl⟩:=rv;exact .str x t
 |tup xs =>
  simp only[Rep] at p
  obtain⟨a,vs,rfl,q,t⟩:=p
  cases rv
  obtain⟨its,r1,p1,_⟩:=I.tuple (wF r.sub q)
  exact .tup a xs its vs t r1 p1 q
 |lst xs =>
  simp only[Rep] at p
  obtain⟨a,vs,rfl,q,t⟩:=p
  cases rv
  obtain⟨its,r1,p1,_⟩:=I.list ((w6 r.sub q).l)
  exact .lst a xs its vs t r1 p1.isList q
 |_=>cases n <;> exact Bool.noConfusion h
theorem wK {ds:List D}{vs:List V}{its:List Value}(rp:qE X.K P α ds vs)(rv:qN vs its){j:Nat}(h:j<its.toArray.size):∃ v,Rep X.K P α (ds.getD j .non) v∧qJ v its.toArray[j]∧ds.getD j .non∈ds:=by
 have l1:=rp.length
 have l2:=rv.length
 have hj:j<its.length:=by simpa using h
 have hd:j<ds.length:=by omega
 obtain⟨v,e1,p⟩:=rp.get (List.getElem?_eq_getElem hd)
 obtain⟨u,e2,q⟩:=rv.get e1
 have e3:its.toArray[j]=u:=by
  have:its[j]? = some its[j]:=List.getElem?_eq_getElem hj
  rw[this] at e2
  simpa using Option.some.inj e2
 have e4:ds.getD j .non=ds[j]:=by simp[List.getD,hd]
 rw[e3,e4]
 exact⟨v,p,q,List.getElem_mem hd⟩
theorem w9 {n:Nat}{ds:List D}(h:ds.all (pl n)=true){d:D}(hd:d∈ds):pl n d=true:=List.all_eq_true.mp h d hd
theorem eX {h:Heap}{a:Addr}{xs ys:Array Value}(h1:h.IsTuple a xs)(h2:h.IsTuple a ys):xs=ys:=by
 obtain⟨o,e,_,n,d⟩:=h1
 obtain⟨o',e',_,n',d'⟩:=h2
 cases e.symm.trans e'
 cases d.symm.trans d'
 rfl
theorem eW {h:Heap}{a:Addr}{xs ys:Array Value}(h1:h.IsList a xs)(h2:h.IsList a ys):xs=ys:=by
 obtain⟨o,e,_,n,d⟩:=h1
 obtain⟨o',e',_,n',d'⟩:=h2
 cases e.symm.trans e'
 cases d.symm.trans d'
 rfl
theorem i6 {h:Heap}{a:Addr}{xs ys:Array Value}(h1:h.IsTuple a xs)(h2:h.IsList a ys):False:=by
 obtain⟨o,e,c,_⟩:=h1
 obtain⟨o',e',c',_⟩:=h2
 cases e.symm.trans e'
 exact absurd (c.symm.trans c') (by decide)
inductive Seqs (X:Cx)(P:Hp)(α : List Addr)(xs ys:List D)(its its2:List Value):Prop
 |mk (vs ws:List V) (rp:qE X.K P α xs vs) (rv:qN vs its) (rp2:qE X.K P α ys ws) (rv2:qN ws its2):Seqs X P α xs ys its its2
theorem Seqs.len1 {xs ys:List D}{its its2:List Value}(q:Seqs X P α xs ys its its2):xs.length=its.length:=by
 obtain⟨vs,ws,rp,rv,_,_⟩:=q
 exact rp.length.trans rv.length
theorem Seqs.len2 {xs ys:List D}{its its2:List Value}(q:Seqs X P α xs ys its its2):ys.length=its2.length:=by
 obtain⟨vs,ws,_,_,rp,rv⟩:=q
 exact rp.length.trans rv.length
inductive SameR (X:Cx)(P:Hp)(α : List Addr):D→D→Prop
 |eq {d d':D} (h:eqD d d'=true):SameR X P α d d'
 |tt (xs ys:List D) (its:List Value) (q:Seqs X P α xs ys its its):SameR X P α (.tup xs) (.tup ys)
 |ll (xs ys:List D) (its:List Value) (q:Seqs X P α xs ys its its):SameR X P α (.lst xs) (.lst ys)
theorem cP {d d':D}{u:Value}(k1:Kd X P α s d u)(k2:Kd X P α s d' u):SameR X P α d d':=by
 cases k1 with
 |non=>cases k2;exact .eq rfl
 |bl b=>cases k2;exact .eq (beq_self_eq_true _)
 |int i t=>cases k2;exact .eq (beq_self_eq_true _)
 |str x t=>cases k2;exact .eq (beq_self_eq_true _)
 |tup a xs its vs rp rv h q =>
  cases k2 with
  |tup _ ys its2 ws rp2 rv2 h2 q2 =>
   cases eX h h2
   exact .tt xs ys its ⟨vs,ws,rp,rv,rp2,rv2⟩
  |lst _ ys its2 ws rp2 rv2 h2 q2=>exact(i6 h h2).elim
 |lst a xs its vs rp rv h q =>
  cases k2 with
  |lst _ ys its2 ws rp2 rv2 h2 q2 =>
   cases eW h h2
   exact .ll xs ys its ⟨vs,ws,rp,rv,rp2,rv2⟩
  |tup _ ys its2 ws rp2 rv2 h2 q2=>exact(i6 h2 h).elim
theorem lA (I:Inv X pins σ H s)(r:Rel X.K H P α S){m:Nat}(ih:∀ (d d':D) (u:Value),pl m d=true→pl m d'=true→Kd X P α s d u→Kd X P α s d' u→eqD d d'=true){xs ys:List D}{its:List Value}(h1:xs.all (pl m)=true)(h2:ys.all (pl m)=true)(q:Seqs X P α xs ys its its):zY xs ys=true:=by
 obtain⟨vs,ws,rp,rv,rp2,rv2⟩:=q
 have l1:=rp.length.trans rv.length
 have l2:=rp2.length.trans rv2.length
 rw[vA,l1,l2,Nat.min_self,Bool.and_eq_true]
 refine⟨List.all_eq_true.mpr fun j hj=>?_,BEq.rfl⟩
 have hj:j<its.toArray.size:=List.mem_range.mp hj
 obtain⟨w1,y1,z1,m1⟩:=wK rp rv hj
 obtain⟨w2,y2,z2,m2⟩:=wK rp2 rv2 hj
 exact ih _ _ _ (w9 h1 m1) (w9 h2 m2) (v8 I r (w9 h1 m1) y1 z1) (v8 I r (w9 h2 m2) y2 z2)
theorem eR (I:Inv X pins σ H s)(r:Rel X.K H P α S):∀ (n:Nat) (d d':D) (u:Value),pl n d=true→pl n d'=true→Kd X P α s d u→Kd X P α s d' u→eqD d d'=true:=by
 intro n
 induction n with
 |zero =>
  intro d d' u h1 h2 k1 k2
  cases cP k1 k2 with
  |eq h=>exact h
  |tt=>exact Bool.noConfusion h1
  |ll=>exact Bool.noConfusion h1
 |succ m ih =>
  intro d d' u h1 h2 k1 k2
  cases cP k1 k2 with
  |eq h=>exact h
  |tt xs ys its q=>exact(tP xs ys).trans (lA I r ih h1 h2 q)
  |ll xs ys its q=>exact(tO xs ys).trans (lA I r ih h1 h2 q)
structure E3 (A:Around)(s:Shared)(u u':Value)(b:Bool):Prop where
 eq:EqAt A s u u' b
 rc:RcAt A s u u' b
 ne:RcNeAt A s u u' (!b)
inductive EqR (X:Cx)(P:Hp)(α : List Addr)(A:Around)(s:Shared):D→D→Value→Value→Prop
 |of {d d':D} {u u':Value} (b:Bool) (e:eqD d d'=b) (h:E3 A s u u' b):EqR X P α A s d d' u u'
 |tt (a b:Addr) (xs ys:List D) (its its2:List Value) (ha:s.heap.IsTuple a its.toArray) (hb:s.heap.IsTuple b its2.toArray) (q:Seqs X P α xs ys its its2):EqR X P α A s (.tup xs) (.tup ys) (.ref a) (.ref b)
 |ll (a b:Addr) (xs ys:List D) (its its2:List Value) (ha:s.heap.IsList a its.toArray) (hb:s.heap.IsList b its2.toArray) (q:Seqs X P α xs ys its its2):EqR X P α A s (.lst xs) (.lst ys) (.ref a) (.ref b)
theorem YL {A:Around}{d d':D}{u u':Value}(hu:A.units<cLine)(k1:Kd X P α s d u)(k2:Kd X P α s d' u'):EqR X P α A s d d' u u':=by
 cases k1 with
 |non  =>
  cases k2 with
  |non  => exact .of _ rfl ⟨EqAt.same _,RcAt.none_none,RcNeAt.none_none⟩
  |bl b=>exact .of _ rfl ⟨EqAt.none_bool b,RcAt.none_bool b,RcNeAt.none_bool b⟩
  |int b tb=>exact .of _ rfl ⟨EqAt.none_int b tb,RcAt.none_int b tb,RcNeAt.none_int b tb⟩
  |str b tb=>exact .of _ rfl ⟨EqAt.none_str b tb,RcAt.none_str b tb,RcNeAt.none_str b tb⟩
  |tup b ys its2 ws rp2 rv2 hb qb=>exact .of _ rfl ⟨EqAt.none_tuple hb hu,RcAt.none_tuple hb hu,RcNeAt.none_tuple hb hu⟩
  |lst b ys its2 ws rp2 rv2 hb qb=>exact .of _ rfl ⟨EqAt.none_list hb hu,RcAt.none_list hb hu,RcNeAt.none_list hb hu⟩
 |bl a =>
  cases k2 with
  |non  => exact .of _ rfl ⟨EqAt.bool_none a,RcAt.bool_none a,RcNeAt.bool_none a⟩
  |bl b=>exact .of _ rfl ⟨EqAt.bool_bool a b,RcAt.bool_bool a b,RcNeAt.bool_bool a b⟩
  |int b tb=>exact .of _ rfl ⟨EqAt.bool_int a b tb,RcAt.bool_int a b tb,RcNeAt.bool_int a b tb⟩
  |str b tb=>exact .of _ rfl ⟨EqAt.bool_str a b tb,RcAt.bool_str a b tb,RcNeAt.bool_str a b tb⟩
  |tup b ys its2 ws rp2 rv2 hb qb=>exact .of _ rfl ⟨EqAt.bool_tuple a hb hu,RcAt.bool_tuple a hb hu,RcNeAt.bool_tuple a hb hu⟩
  |lst b ys its2 ws rp2 rv2 hb qb=>exact .of _ rfl ⟨EqAt.bool_list a hb hu,RcAt.bool_list a hb hu,RcNeAt.bool_list a hb hu⟩
 |int a ta =>
  cases k2 with
  |non  => exact .of _ rfl ⟨EqAt.int_none a ta,RcAt.int_none a ta,RcNeAt.int_none a ta⟩
  |bl b=>exact .of _ rfl ⟨EqAt.int_bool a ta b,RcAt.int_bool a ta b,RcNeAt.int_bool a ta b⟩
  |int b tb=>exact .of _ rfl ⟨EqAt.int_int a ta b tb,RcAt.int_int a ta b tb,RcNeAt.int_int a ta b tb⟩
  |str b tb=>exact .of _ rfl ⟨EqAt.int_str a ta b tb,RcAt.int_str a ta b tb,RcNeAt.int_str a ta b tb⟩
  |tup b ys its2 ws rp2 rv2 hb qb=>exact .of _ rfl ⟨EqAt.int_tuple a ta hb hu,RcAt.int_tuple a ta hb hu,RcNeAt.int_tuple a ta hb hu⟩
  |lst b ys its2 ws rp2 rv2 hb qb=>exact .of _ rfl ⟨EqAt.int_list a ta hb hu,RcAt.int_list a ta hb hu,RcNeAt.int_list a ta hb hu⟩
 |str a ta =>
  cases k2 with
  |non  => exact .of _ rfl ⟨EqAt.str_none a ta,RcAt.str_none a ta,RcNeAt.str_none a ta⟩
  |bl b=>exact .of _ rfl ⟨EqAt.str_bool a ta b,RcAt.str_bool a ta b,RcNeAt.str_bool a ta b⟩
  |int b tb=>exact .of _ rfl ⟨EqAt.str_int a ta b tb,RcAt.str_int a ta b tb,RcNeAt.str_int a ta b tb⟩
  |str b tb=>exact .of _ rfl ⟨EqAt.str_str a ta b tb,RcAt.str_str a ta b tb,RcNeAt.str_str a ta b tb⟩
  |tup b ys its2 ws rp2 rv2 hb qb=>exact .of _ rfl ⟨EqAt.str_tuple a ta hb hu,RcAt.str_tuple a ta hb hu,RcNeAt.str_tuple a ta hb hu⟩
  |lst b ys its2 ws rp2 rv2 hb qb=>exact .of _ rfl ⟨EqAt.str_list a ta hb hu,RcAt.str_list a ta hb hu,RcNeAt.str_list a ta hb hu⟩
 |tup a xs its vs rp rv ha qa =>
  cases k2 with
  |non  => exact .of _ rfl ⟨EqAt.tuple_none ha hu,RcAt.tuple_none ha hu,RcNeAt.tuple_none ha hu⟩
  |bl b=>exact .of _ rfl ⟨EqAt.tuple_bool b ha hu,RcAt.tuple_bool b ha hu,RcNeAt.tuple_bool b ha hu⟩
  |int b tb=>exact .of _ rfl ⟨EqAt.tuple_int b tb ha hu,RcAt.tuple_int b tb ha hu,RcNeAt.tuple_int b tb ha hu⟩
  |str b tb=>exact .of _ rfl ⟨EqAt.tuple_str b tb ha hu,RcAt.tuple_str b tb ha hu,RcNeAt.tuple_str b tb ha hu⟩
  |tup b ys its2 ws rp2 rv2 hb qb=>exact .tt a b xs ys its its2 ha hb ⟨vs,ws,rp,rv,rp2,rv2⟩
  |lst b ys its2 ws rp2 rv2 hb qb=>exact .of _ rfl ⟨EqAt.tuple_list ha hb hu,RcAt.tuple_list ha hb hu,RcNeAt.tuple_list ha hb hu⟩
 |lst a xs its vs rp rv ha qa =>
  cases k2 with
  |non  => exact .of _ rfl ⟨EqAt.list_none ha hu,RcAt.list_none ha hu,RcNeAt.list_none ha hu⟩
  |bl b=>exact .of _ rfl ⟨EqAt.list_bool b ha hu,RcAt.list_bool b ha hu,RcNeAt.list_bool b ha hu⟩
  |int b tb=>exact .of _ rfl ⟨EqAt.list_int b tb ha hu,RcAt.list_int b tb ha hu,RcNeAt.list_int b tb ha hu⟩
  |str b tb=>exact .of _ rfl ⟨EqAt.list_str b tb ha hu,RcAt.list_str b tb ha hu,RcNeAt.list_str b tb ha hu⟩
  |tup b ys its2 ws rp2 rv2 hb qb=>exact .of _ rfl ⟨EqAt.list_tuple ha hb hu,RcAt.list_tuple ha hb hu,RcNeAt.list_tuple ha hb hu⟩
  |lst b ys its2 ws rp2 rv2 hb qb=>exact .ll a b xs ys its its2 ha hb ⟨vs,ws,rp,rv,rp2,rv2⟩
theorem E3.cast {A:Around}{u u':Value}{b c:Bool}(e:c=b)(h:E3 A s u u' b):E3 A s u u' c:=e▸h
theorem NA {A:Around}{a b:Addr}{xs ys:List D}{its its2:List Value}(hu:A.units<cLine)(ha:s.heap.IsTuple a its.toArray)(hb:s.heap.IsTuple b its2.toArray)(l1:xs.length=its.length)(l2:ys.length=its2.length)
  (sub:∀ j (h1:j<its.toArray.size) (h2:j<its2.toArray.size),EqAt A.in1 s its.toArray[j] its2.toArray[j] (eqD (xs.getD j .non) (ys.getD j .non))) (same:a=b→zY xs ys=true):E3 A s (.ref a) (.ref b) (zY xs ys):=by
 have e:zY xs ys=((List.range (min its.toArray.size its2.toArray.size)).all (fun j=>eqD (xs.getD j .non) (ys.getD j .non))&&its.toArray.size == its2.toArray.size):=by rw[vA,l1,l2];rfl
 have R1:=RcAt.tuples ha hb hu sub
 have R2:=RcNeAt.tuples ha hb hu sub
 rw[← e] at R1 R2
 refine⟨?_,R1,R2⟩
 by_cases hab:a=b
 ·rw[same hab,hab]
  exact EqAt.same _
 ·exact EqAt.of_refs hab R1
theorem N9 {A:Around}{a b:Addr}{xs ys:List D}{its its2:List Value}(hu:A.units<cLine)(ha:s.heap.IsList a its.toArray)(hb:s.heap.IsList b its2.toArray)(l1:xs.length=its.length)(l2:ys.length=its2.length)
  (sub:∀ j (h1:j<its.toArray.size) (h2:j<its2.toArray.size),EqAt A.in1 s its.toArray[j] its2.toArray[j] (eqD (xs.getD j .non) (ys.getD j .non))) (same:a=b→zY xs ys=true):E3 A s (.ref a) (.ref b) (zY xs ys):=by
 have R:RcAt A s (.ref a) (.ref b) (zY xs ys)∧RcNeAt A s (.ref a) (.ref b) (!zY xs ys):=by
  by_cases hl:its.length=its2.length
  ·have e:zY xs ys=(List.range its.toArray.size).all (fun j=>eqD (xs.getD j .non) (ys.getD j .non)):=by rw[vA,l1,l2,← hl,Nat.min_self,BEq.rfl,Bool.and_true];rfl
   rw[e]
   exact⟨RcAt.lists ha hb hl hu sub,RcNeAt.lists ha hb hl hu sub⟩
  ·rw[XI (by rw[l1,l2];exact hl)]
   have hn:(its.toArray.size != its2.toArray.size)=true:=bne_iff_ne.mpr hl
   exact⟨RcAt.lists_lengths ha hb hn hu,RcNeAt.lists_lengths ha hb hn hu⟩
 refine⟨?_,R.1,R.2⟩
 by_cases hab:a=b
 ·rw[same hab,hab]
  exact EqAt.same _
 ·exact EqAt.of_refs hab R.1
theorem sA (I:Inv X pins σ H s)(r:Rel X.K H P α S):∀ (n:Nat) (A:Around) (d d':D) (u u':Value),A.units+n<cLine→pl n d=true→pl n d'=true→Kd X P α s d u→Kd X P α s d' u'→E3 A s u u' (eqD d d'):=by
 intro n
 induction n with
 |zero =>
  intro A d d' u u' hu h1 h2 k1 k2
  cases YL hu k1 k2 with
  |of b e h=>exact h.cast e
  |tt=>exact Bool.noConfusion h1
  |ll=>exact Bool.noConfusion h1
 |succ m ih =>
  intro A d d' u u' hu h1 h2 k1 k2
  have hu0:A.units<cLine:=Nat.lt_of_le_of_lt (Nat.le_add_right _ _) hu
  have hu1:A.in1.units+m<cLine:=by show A.units+1+m<cLine;omega
  have sub:∀ {xs ys:List D} {its its2:List Value},xs.all (pl m)=true→ys.all (pl m)=true→Seqs X P α xs ys its its2 →
    ∀ j (h1:j<its.toArray.size) (h2:j<its2.toArray.size),EqAt A.in1 s its.toArray[j] its2.toArray[j] (eqD (xs.getD j .non) (ys.getD j .non)):=fun {xs ys its its2} a1 a2 ⟨vs,ws,b1,b2,c1,c2⟩ j g1 g2=>by
   obtain⟨w1,y1,z1,m1⟩:=wK b1 b2 g1
   obtain⟨w2,y2,z2,m2⟩:=wK c1 c2 g2
   exact(ih A.in1 _ _ _ _ hu1 (w9 a1 m1) (w9 a2 m2) (v8 I r (w9 a1 m1) y1 z1) (v8 I r (w9 a2 m2) y2 z2)).eq
  cases YL hu0 k1 k2 with
  |of b e h=>exact h.cast e
  |tt a b xs ys its its2 ha hb q=>exact(NA hu0 ha hb q.len1 q.len2 (sub h1 h2 q) fun e=>by subst e;exact(tP xs ys).symm.trans (eR I r (m+1) _ _ _ h1 h2 k1 k2)).cast (tP xs ys)
  |ll a b xs ys its its2 ha hb q=>exact(N9 hu0 ha hb q.len1 q.len2 (sub h1 h2 q) fun e=>by subst e;exact(tO xs ys).symm.trans (eR I r (m+1) _ _ _ h1 h2 k1 k2)).cast (tO xs ys)
def zL:Nat:=30
def gEq:G2:=fun a b S=>if pl zL a&&pl zL b then .ok (.bl (eqD a b)) S else .bad
def gNe:G2:=fun a b S=>if pl zL a&&pl zL b then .ok (.bl (!eqD a b)) S else .bad
set_option tactic.hygienic true in
theorem NQ (hu:X.A.units+64<cLine):OpD X (compareOp .Eq) gEq:=by
 intro pins σ H s P α S v u vv uu a b Q I r rv ru pa pb af
 unfold gEq at af
 split at af
 ·rename_i h
  rw[Bool.and_eq_true] at h
  exact(sA I r zL X.A a b vv uu (by unfold zL;omega) h.1 h.2 (v8 I r h.1 pa rv) (v8 I r h.2 pb ru)).rc _ _ _ _ ⟨.bl _,H,I,rfl,xr af r (by simp only[Rep])⟩
 ·exact False.elim af
set_option tactic.hygienic true in
theorem NT (hu:X.A.units+64<cLine):OpD X (compareOp .NotEq) gNe:=by
 intro pins σ H s P α S v u vv uu a b Q I r rv ru pa pb af
 unfold gNe at af
 split at af
 ·rename_i h
  rw[Bool.and_eq_true] at h
  exact(sA I r zL X.A a b vv uu (by unfold zL;omega) h.1 h.2 (v8 I r h.1 pa rv) (v8 I r h.2 pb ru)).ne _ _ _ _ ⟨.bl _,H,I,rfl,xr af r (by simp only[Rep])⟩
 ·exact False.elim af
end
end _D
end
section
namespace _D
open PySem PySem.Spec PyProof.Rows _L
section
variable {X:Cx}
def i2 (C:Int→Int→Bool)(f:Int→Int→D):G2:=fun a b S=>match a,b with
 |.int i,.int j=>if C i j then .ok (f i j) S else .bad
 |_,_=>.bad
theorem YN {C:Int→Int→Bool}{f:Int→Int→D}{a b:D}{S:Sto}{P:Hp}{α : List Addr}{Ok:D→Sto→Prop}(h:qK X P α (i2 C f a b S) Ok):∃ i j,a=.int i∧b=.int j∧C i j=true∧Ok (f i j) S:=by
 cases a with
 |int i =>
  cases b with
  |int j =>
   obtain⟨hc,h⟩:=pJ (X:=X) h
   exact⟨i,j,rfl,rfl,hc,h⟩
  |_=>exact False.elim h
 |_=>exact False.elim h
theorem wE {P:Hp}{α : List Addr}{i:Int}{v:V}(r:Rep X.K P α (.int i) v):v=.int i:=by simpa only [Rep] using r
theorem mP {f:Value→Value→Sem Value}{C':Int→Int→Prop}{v:Int→Int→V}{C:Int→Int→Bool}{d:Int→Int→D}(h:OpR X f (rI C' v))(hC:∀ i j,C i j=true→C' i j)(hv:∀ P α i j,Rep X.K P α (d i j) (v i j)):OpD X f (i2 C d):=
 OpD.of h fun H P α S x y a b Q r p1 p2 af=>by
  obtain⟨i,j,rfl,rfl,hc,ok⟩:=YN af
  exact⟨i,j,wE p1,wE p2,hC i j hc,xr ok r (hv P α i j)⟩
theorem mO {f:Value→Value→Sem Value}{v:Int→Int→V}{d:Int→Int→D}(h:OpR X f (rI0 v))(hv:∀ P α i j,Rep X.K P α (d i j) (v i j)):OpD X f (i2 (fun _ _=>true) d):=
 OpD.of h fun H P α S x y a b Q r p1 p2 af=>by
  obtain⟨i,j,rfl,rfl,_,ok⟩:=YN af
  exact⟨i,j,wE p1,wE p2,xr ok r (hv P α i j)⟩
def zK:G2:=i2 (fun _ _=>true) fun i j=>.int (i-j)
theorem F4:OpD X (binaryOp .Sub) zK:=mO FC fun P α i j=>by simp only[Rep]
def dQ (i j:Int):Bool:=decide (-(2 ^ 64)<i∧i<2 ^ 64)||decide (-(2 ^ 64)<j∧j<2 ^ 64)
theorem J9:OpD X (binaryOp .Mult) (i2 dQ fun i j=>.int (i*j)):=mP FA (fun i j h=>by
 unfold dQ at h
 rw[Bool.or_eq_true] at h
 rcases h with h|h
 ·exact .inl (of_decide_eq_true h)
 ·exact .inr (of_decide_eq_true h)) fun P α i j=>by simp only[Rep]
def GF (i j:Int):Bool:=decide (0<j∧j<1073741824)
def vB:G2:=i2 GF fun i j=>.int (i/j)
theorem F0:OpD X (binaryOp .FloorDiv) vB:=mP JC (fun i j h=>(of_decide_eq_true h:0<j∧j<1073741824)) fun P α i j=>by simp only[Rep]
def uR:G2:=i2 (fun _ j=>decide (0<j)) fun i j=>.int (i % j)
theorem F2:OpD X (binaryOp .Mod) uR:=mP F9 (fun i j h=>of_decide_eq_true h) fun P α i j=>by simp only[Rep]
def DR (i j:Int):Bool:=decide (0≤j∧j≤1000000∧i.natAbs<2 ^ 64)
def aX:G2:=i2 DR fun i j=>.int (i ^ j.toNat)
theorem F3:OpD X (binaryOp .Pow) aX:=mP FB (fun i j h=>(of_decide_eq_true h:0≤j∧j≤1000000∧i.natAbs<2 ^ 64)) fun P α i j=>by simp only[Rep]
def gLt:G2:=i2 (fun _ _=>true) fun i j=>.bl (decide (i<j))
def gLe:G2:=i2 (fun _ _=>true) fun i j=>.bl (decide (i≤j))
def gGt:G2:=i2 (fun _ _=>true) fun i j=>.bl (decide (j<i))
def gGe:G2:=i2 (fun _ _=>true) fun i j=>.bl (decide (j≤i))
theorem YZ:OpD X (compareOp .Lt) gLt:=mO NW fun P α i j=>by simp only[Rep]
theorem NS:OpD X (compareOp .LtE) gLe:=mO NV fun P α i j=>by simp only[Rep]
theorem NR:OpD X (compareOp .GtE) gGe:=mO NU fun P α i j=>by simp only[Rep]
def XO:D→Sto→Res D:=fun a S=>match a with
 |.int i=>.ok (.int (-i)) S
 |_=>.bad
theorem T7:UnD X (unaryOp .USub) XO:=by
 intro pins σ H s P α S v vv a Q I r rv p af
 cases a with
 |int i=>exact T9 pins s σ H v vv Q I rv ⟨i,wE p,xr af r (by simp only[Rep])⟩
 |_=>exact False.elim af
def qZ:G2:=fun a b S=>match a,b with
 |.int i,.int j=>.ok (.int (i+j)) S
 |.str x,.str y=>if x.length+y.length≤lim then .ok (.str (x++y)) S else .bad
 |.tup xs,.tup ys=>if xs.length+ys.length≤lim then .ok (.tup (xs++ys)) S else .bad
 |.lst xs,.lst ys=>if xs.length+ys.length≤lim then .ok (.lst (xs++ys)) S else .bad
 |_,_=>.bad
theorem vT {pins:List (Addr × Obj)}{σ : _L.St}{H P:Hp}{α : List Addr}{S:Sto}{s:Shared}{xs:List D}{v:V}(I:Inv X pins σ H s)(r:Rel X.K H P α S)(p:Rep X.K P α (.tup xs) v) :
  ∃ a vs its,v=.ref a∧SqT X.K P a vs∧qE X.K P α xs vs∧qN vs its∧IsTup s.heap a its.toArray∧xs.length=its.length∧xs.length≤lim:=by
 simp only[Rep] at p
 obtain⟨a,vs,rfl,q,t⟩:=p
 obtain⟨its,rv,p1,z⟩:=I.tuple (wF r.sub q)
 exact⟨a,vs,its,rfl,q,t,rv,p1,by rw[t.length,rv.length],by rw[t.length,xJ];exact z⟩
theorem uJ {pins:List (Addr × Obj)}{σ : _L.St}{H P:Hp}{α : List Addr}{S:Sto}{s:Shared}{xs:List D}{v:V}(I:Inv X pins σ H s)(r:Rel X.K H P α S)(p:Rep X.K P α (.lst xs) v) :
  ∃ a vs its n,v=.ref a∧SqX X.K P a vs∧qE X.K P α xs vs∧qN vs its∧s.heap.get? a=some { cls:=.type "list",data:=.seq its.toArray n } ∧ xs.length=its.length∧xs.length≤lim:=by
 simp only[Rep] at p
 obtain⟨a,vs,rfl,q,t⟩:=p
 have:∃ its n,qN vs its∧s.heap.get? a=some { cls:=.type "list",data:=.seq its.toArray n } ∧ vs.length≤sizeLine:=by
  rcases q with q|⟨its,n,e,z,rv⟩
  ·obtain⟨z,its,n,rv,e⟩:=(cM r.sub q).ok I.hok
   exact⟨its,n,rv,e,z⟩
  ·exact⟨its,n,rv,I.kIn _ _ e,z⟩
 obtain⟨its,n,rv,e,z⟩:=this
 exact⟨a,vs,its,n,rfl,q,t,rv,e,by rw[t.length,rv.length],by rw[t.length,xJ];exact z⟩
theorem W1 {pins:List (Addr × Obj)}{σ : _L.St}{H P:Hp}{α : List Addr}{S:Sto}{s:Shared}{xs:List D}{vs:List V}{its:List Value}{Q:VK}(I:Inv X pins σ H s)(r:Rel X.K H P α S)(t:qE X.K P α xs vs)(rv:qN vs its)(hz:xs.length≤lim)
  (ok:OkV X P α Q (.tup xs) S):EP X pins σ Q (.ref s.heap.objs.size) { s with heap:=s.heap.push { cls:=.type "tuple",data:=.seq its.toArray } }:=by
 refine⟨.ref s.heap.objs.size,_,I.laid (t':=s.toks) (o:=.tup vs) (fun b ob q=>Heap.get?_push_of_some _ q) (Nat.le_refl _) ⟨by rw[← t.length,← xJ];exact hz,its,rv,IsTup.new _ _⟩,rfl,gM r (I.hok.fresh (Nat.le_refl _)) t ok⟩
theorem W0 {pins:List (Addr × Obj)}{σ : _L.St}{H P:Hp}{α : List Addr}{S:Sto}{s:Shared}{xs:List D}{vs:List V}{its:List Value}{Q:VK}(I:Inv X pins σ H s)(r:Rel X.K H P α S)(t:qE X.K P α xs vs)(rv:qN vs its)(hz:xs.length≤lim)
  (ok:OkV X P α Q (.lst xs) S):EP X pins σ Q (.ref s.heap.objs.size) { s with heap:=s.heap.push { cls:=.type "list",data:=.seq its.toArray } }:=by
 refine⟨.ref s.heap.objs.size,_,I.laid (t':=s.toks) (o:=.lst vs) (fun b ob q=>Heap.get?_push_of_some _ q) (Nat.le_refl _) ⟨by rw[← t.length,← xJ];exact hz,its,0,rv,Heap.get?_push_size _ rfl⟩,rfl,jL r (I.hok.fresh (Nat.le_refl _)) t ok⟩
theorem GB {pins:List (Addr × Obj)}{σ : _L.St}{H P:Hp}{α : List Addr}{S:Sto}{s:Shared}{xs ys:List D}{v u:V}{vv uu:Value}{Q:VK}(I:Inv X pins σ H s)(r:Rel X.K H P α S)(rv:qJ v vv)(ru:qJ u uu)(pa:Rep X.K P α (.tup xs) v)(pb:Rep X.K P α (.tup ys) u)(hl:xs.length+ys.length≤lim)(af:OkV X P α Q (.tup (xs++ys)) S) :
  wpAny (model X.prog X.w) X.A (binaryOp .Add vv uu) (EP X pins σ Q) X.xe s:=by
 obtain⟨a,vs,its,rfl,q1,t1,rv1,h1,l1,_⟩:=vT I r pa
 obtain⟨b,ws,its2,rfl,q2,t2,rv2,h2,l2,_⟩:=vT I r pb
 cases rv
 cases ru
 by_cases hx:its=[]
 ·obtain⟨⟨cls,dd,data,sl⟩,ho,hc,n,hd⟩:=id h1
  obtain⟨⟨cls2,dd2,data2,sl2⟩,ho2,hc2,n2,hd2⟩:=id h2
  simp only at hc hd hc2 hd2
  subst hc hd hc2 hd2
  have hxs:xs=[]:=List.length_eq_zero_iff.mp (by rw[l1,hx];rfl)
  subst hxs
  exact concat_meets ⟨_,ho,rfl⟩ ⟨_,ho2,rfl⟩ noFill_tuple_add seq_tuple_add PySem.F.slot_tuple_add PySem.F.entry_tuple_add (PySem.F.args_tuple_add_2 _ _) (tuple_addW0 a b its.toArray its2.toArray n n2 dd dd2 sl sl2 (by simp[hx]))
   ⟨ho,ho2,⟨.ref b,H,I,rfl,xr af r pb⟩⟩
 ·refine _H.cat_tup h1 h2 hx (fun z=>⟨.ref a,H,I,rfl,xr af r ?_⟩) (fun z=>?_) (by rw[← l1,← l2,← xJ];exact hl)
  ·have hys:ys=[]:=List.length_eq_zero_iff.mp (by rw[l2,z];rfl)
   rw[hys,List.append_nil];exact pa
  ·exact W1 I r (t1.append t2) (rv1.append rv2) (by rw[List.length_append];exact hl) af
theorem GA {pins:List (Addr × Obj)}{σ : _L.St}{H P:Hp}{α : List Addr}{S:Sto}{s:Shared}{xs ys:List D}{v u:V}{vv uu:Value}{Q:VK}(I:Inv X pins σ H s)(r:Rel X.K H P α S)(rv:qJ v vv)(ru:qJ u uu)(pa:Rep X.K P α (.lst xs) v)(pb:Rep X.K P α (.lst ys) u)(hl:xs.length+ys.length≤lim)(af:OkV X P α Q (.lst (xs++ys)) S) :
  wpAny (model X.prog X.w) X.A (binaryOp .Add vv uu) (EP X pins σ Q) X.xe s:=by
 obtain⟨a,vs,its,n,rfl,q1,t1,rv1,h1,l1,_⟩:=uJ I r pa
 obtain⟨b,ws,its2,n2,rfl,q2,t2,rv2,h2,l2,_⟩:=uJ I r pb
 cases rv
 cases ru
 refine PySem.P.add_list h1 h2 ?_ (by rw[List.size_toArray,List.size_toArray,← l1,← l2,← xJ];exact hl)
 rw[List.append_toArray]
 exact W0 I r (t1.append t2) (rv1.append rv2) (by rw[List.length_append];exact hl) af
inductive AddV (a b:D)(S:Sto):Prop
 |bad (e:qZ a b S=.bad)
 |int (i j:Int) (ea:a=.int i) (eb:b=.int j)
 |str (x y:Str) (ea:a=.str x) (eb:b=.str y)
 |tup (x y:List D) (ea:a=.tup x) (eb:b=.tup y)
 |lst (x y:List D) (ea:a=.lst x) (eb:b=.lst y)
theorem DN (a b:D)(S:Sto):AddV a b S:=by
 cases a with
 |int i=>cases b with
  |int j=>exact .int i j rfl rfl
  |_=>exact .bad rfl
 |str i=>cases b with
  |str j=>exact .str i j rfl rfl
  |_=>exact .bad rfl
 |tup i=>cases b with
  |tup j=>exact .tup i j rfl rfl
  |_=>exact .bad rfl
 |lst i=>cases b with
  |lst j=>exact .lst i j rfl rfl
  |_=>exact .bad rfl
 |_=>exact .bad rfl
theorem BZ:OpD X (binaryOp .Add) qZ:=by
 intro pins σ H s P α S v u vv uu a b Q I r rv ru pa pb af
 cases DN a b S with
 |bad e=>rw[e] at af;exact False.elim af
 |int i j ea eb =>
  subst ea eb
  exact F8 pins s σ H v u vv uu Q I rv ru ⟨i,j,wE pa,wE pb,xr af r (by simp only[Rep])⟩
 |str x y ea eb =>
  subst ea eb
  obtain⟨hl,af⟩:=pJ (X:=X) af
  simp only[Rep] at pa pb
  exact iE pins s σ H v u vv uu Q I rv ru ⟨x,y,pa,pb,by rw[← xJ];exact hl,xr af r (by simp only[Rep])⟩
 |tup xs ys ea eb =>
  subst ea eb
  obtain⟨hl,af⟩:=pJ (X:=X) af
  exact GB I r rv ru pa pb hl af
 |lst xs ys ea eb =>
  subst ea eb
  obtain⟨hl,af⟩:=pJ (X:=X) af
  exact GA I r rv ru pa pb hl af
def gIx:G2:=fun a b S=>match b with
 |.int k=>match a with
  |.tup xs=>vP (atI xs k) S
  |.lst xs=>vP (atI xs k) S
  |.loc i=>match S[i]? with
   |some (.lst xs)=>vP (atI xs k) S
   |_=>.bad
  |_=>.bad
 |_=>.bad
theorem tG {P:Hp}{α : List Addr}{ds:List D}{vs:List V}{k:Int}{d:D}(rp:qE X.K P α ds vs)(h:atI ds k=some d):∃ v,atI vs k=some v∧Rep X.K P α d v:=by
 unfold atI at h ⊢
 rw[← rp.length]
 cases q:ixN ds.length k with
 |none=>rw[q] at h;cases h
 |some j =>
  rw[q] at h
  obtain⟨v,h1,h2⟩:=rp.get (show ds[j]? = some d from h)
  exact⟨v,h1,h2⟩
theorem SG:IxD X gIx:=by
 intro value slice pins σ H s P α S v u vv uu a b Q I r rv ru pa pb af hs
 cases b with
 |int k =>
  have hk:=wE pb
  cases a with
  |tup xs =>
   obtain⟨d,e,ok⟩:=vZ (X:=X) af
   simp only[Rep] at pa
   obtain⟨p,vs,rfl,q,t⟩:=pa
   obtain⟨w,e1,rw'⟩:=tG t e
   exact mH value slice pins s σ H _ u vv uu Q I rv ru ⟨p,vs,k,w,rfl,hk,wF r.sub q,e1,xr ok r rw'⟩ hs
  |lst xs =>
   obtain⟨d,e,ok⟩:=vZ (X:=X) af
   simp only[Rep] at pa
   obtain⟨p,vs,rfl,q,t⟩:=pa
   obtain⟨w,e1,rw'⟩:=tG t e
   exact h9 value slice pins s σ H _ u vv uu Q I rv ru ⟨p,vs,k,w,rfl,hk,(w6 r.sub q).l,e1,xr ok r rw'⟩ hs
  |loc i =>
   obtain⟨xs,hS,af⟩:=gL (X:=X) (f:=fun xs=>vP (atI xs k) S) af
   obtain⟨d,e,ok⟩:=vZ (X:=X) af
   simp only[Rep] at pa
   obtain⟨p,rfl,q⟩:=pa
   obtain⟨vs,z,t⟩:=r.at' i p _ q hS
   obtain⟨w,e1,rw'⟩:=tG t e
   exact h9 value slice pins s σ H _ u vv uu Q I rv ru ⟨p,vs,k,w,rfl,hk,.of z,e1,xr ok r rw'⟩ hs
  |_=>exact False.elim af
 |_=>exact False.elim af
def tU:G3:=fun o i d S=>match o,i with
 |.loc n,.int k=>match S[n]? with
  |some (.lst xs)=>match ixN xs.length k with
   |some j=>.ok () (S.set n (.lst (xs.set j d)))
   |none=>.bad
  |_=>.bad
 |_,_=>.bad
theorem LL:dL X (dI X tU):=by
 intro pins s σ H o i v ov iv u Q I ro ri rv h
 obtain⟨P,α,S,a,b,d,r,pa,pb,pd,af⟩:=h
 cases a with
 |loc n =>
  cases b with
  |int k =>
   obtain⟨xs,hS,af⟩:=gL (X:=X) (f:=fun xs=>match ixN xs.length k with|some j=>.ok () (S.set n (.lst (xs.set j d)))|none=>.bad) af
   cases hj:ixN xs.length k with
   |none=>rw[hj] at af;exact False.elim af
   |some j =>
    rw[hj] at af
    simp only[Rep] at pa
    obtain⟨p,rfl,q⟩:=pa
    obtain⟨vs,z,t⟩:=r.at' n p _ q hS
    refine WZ pins s σ H _ i v ov iv u Q I ro ri rv ⟨p,vs,k,j,rfl,wE pb,z,by rw[← t.length];exact hj,?_⟩
    refine af _ P α (r.put (m':=.lst (xs.set j d)) q hS (by intro z;cases z) ⟨vs.set j v,z0,t.set pd j⟩) (qG.refl _) (List.prefix_refl _)
  |_=>exact False.elim af
 |_=>exact False.elim af
def BG:D→Sto→Option Nat
 |.tup xs,_=>some xs.length
 |.lst xs,_=>some xs.length
 |.str x,_=>if x.length≤lim then some x.length else none
 |.dct0,_=>some 0
 |.loc i,S=>match S[i]? with
  |some (.lst xs)=>some xs.length
  |_=>none
 |_,_=>none
def sE:DF:=fun ds S=>match ds with
 |[d]=>match BG d S with
  |some n=>.ok (.int n) S
  |none=>.bad
 |_=>.bad
end
end _D
end
section
namespace _D
open PySem PySem.Spec PyProof.Rows _L
section
variable {X:Cx}
theorem vO {P:Hp}{α : List Addr}{d:D}{vs:List V}{us:List Value}(rp:qE X.K P α [d] vs)(rv:qN vs us):∃ v u,vs=[v]∧us=[u]∧Rep X.K P α d v∧qJ v u:=by
 obtain⟨v,ws,rfl,p,t⟩:=rp.cons_inv
 have:=t.nil_inv;subst this
 obtain⟨u,rfl,q⟩:=gS rv
 exact⟨v,u,rfl,rfl,p,q⟩
theorem dG {P:Hp}{α : List Addr}{d e:D}{vs:List V}{us:List Value}(rp:qE X.K P α [d,e] vs)(rv:qN vs us):∃ v w u x,vs=[v,w]∧us=[u,x]∧Rep X.K P α d v∧Rep X.K P α e w∧qJ v u∧qJ w x:=by
 obtain⟨v,ws,rfl,p,t⟩:=rp.cons_inv
 obtain⟨w,ws,rfl,p',t⟩:=t.cons_inv
 have:=t.nil_inv;subst this
 obtain⟨u,x,rfl,q,q'⟩:=iS rv
 exact⟨v,w,u,x,rfl,rfl,p,p',q,q'⟩
def i8 (d:D)(S:Sto):Option Nat:=match d with
 |.dct0=>none
 |_=>BG d S
theorem BI {H P:Hp}{α : List Addr}{S:Sto}{d:D}{v:V}{n:Nat}(r:Rel X.K H P α S)(p:Rep X.K P α d v)(hn:i8 d S=some n):G7 X.K v H n:=by
 cases d with
 |str x =>
  cases (show v=.str x from p)
  obtain⟨hl,rfl⟩:=jJ hn
  exact⟨by rw[← xJ];exact hl,rfl⟩
 |tup xs =>
  simp only[Rep] at p
  obtain⟨a,ws,rfl,sq,t⟩:=p
  cases hn
  exact .inr ⟨ws,wF r.sub sq,t.length⟩
 |lst xs =>
  simp only[Rep] at p
  obtain⟨a,ws,rfl,sq,t⟩:=p
  cases hn
  exact .inl ⟨ws,(w6 r.sub sq).l,t.length⟩
 |loc i =>
  simp only[Rep] at p
  obtain⟨a,rfl,e⟩:=p
  obtain⟨xs,hS,hn⟩:=BO (f:=fun xs=>some xs.length) hn
  cases hn
  obtain⟨ws,z,t⟩:=r.at' i a _ e hS
  exact .inl ⟨ws,.of z,t.length⟩
 |_=>exact nn hn
inductive LenD1 (ds:List D)(S:Sto)(r:Res D):Prop
 |bad (e:r=.bad)
 |of (d:D) (n:Nat) (ed:ds=[d]) (hn:i8 d S=some n) (e:r=.ok (.int n) S)
theorem NJ (ds:List D)(S:Sto):LenD1 ds S (match ds with|[.dct0]=>.bad|_=>sE ds S):=by
 cases ds with
 |nil=>exact .bad rfl
 |cons d ds =>
  cases ds with
  |cons _ _=>cases d <;> exact .bad rfl
  |nil =>
   have z:(match [d] with|[D.dct0]=>Res.bad|_=>sE [d] S)=(match i8 d S with|some n=>Res.ok (D.int n) S|none=>.bad):=by cases d <;> rfl
   rw[z]
   cases hn:i8 d S with
   |none=>exact .bad rfl
   |some n=>exact .of d n rfl hn rfl
theorem GN (hD:True):y7 X (.builtin "len") (fun ds S=>match ds with|[.dct0]=>.bad|_=>sE ds S):=by
 intro pins σ H s P α S vs us ds Q I r rv rp af
 have af1:qK X P α (match ds with|[D.dct0]=>Res.bad|_=>sE ds S) (OkV X P α Q):=af
 clear af
 cases NJ ds S with
 |bad e=>rw[e] at af1;exact False.elim af1
 |of d n ed hn e =>
  rw[e] at af1
  subst ed
  obtain⟨v,u,rfl,rfl,p,q⟩:=vO rp rv
  exact ZM pins s σ H _ _ Q I rv ⟨v,n,rfl,BI r p hn,xr af1 r (by simp only[Rep])⟩
def tyD:D→Sto→Option String
 |.non,_=>some "NoneType"
 |.bl _,_=>some "bool"
 |.int _,_=>some "int"
 |.str _,_=>some "str"
 |.tup _,_=>some "tuple"
 |.lst _,_=>some "list"
 |.dct0,_=>some "dict"
 |.loc i,S=>match S[i]? with
  |some (.lst _)=>some "list"
  |some (.dct _)=>some "dict"
  |_=>none
 |_,_=>none
def xK (a b:String):Bool:=a == b||(a == "bool" && b == "int")
def vX (b:String):Bool:=b == "int" || b == "bool" || b == "tuple" || b == "list" || b == "str" || b == "dict"
def BE (a b:String):Option Bool:=if (Value.type a == Value.type b)=true then some true else if PySem.W.kitMeta b=true then (fastBuiltinMro a).map (·.contains (.type b)) else none
def tyL:List String:=["NoneType","bool","int","str","tuple","list","dict"]
def okL:List String:=["int","bool","tuple","list","str","dict"]
theorem UP:(tyL.all fun a=>okL.all fun b=>decide (BE a b=some (xK a b)))=true:=by decide +kernel
theorem F6 {b:String}(hb:vX b=true):b∈okL:=by simpa [vX,okL,or_assoc] using hb
theorem UQ {K:PySem.W.Frag}{a b:String}(ha:a∈tyL)(hb:vX b=true):PySem.W.kitOne K (.type a) (.type b)=some (xK a b):=
 of_decide_eq_true (p:=BE a b=some (xK a b)) (List.all_eq_true.mp (List.all_eq_true.mp UP a ha) b (F6 hb))
def yX:DF:=fun ds S=>match ds with
 |[d,.ty b]=>if vX b then match tyD d S with
   |some a=>.ok (.bl (xK a b)) S
   |none=>.bad
  else .bad
 |_=>.bad
inductive TyV (X:Cx)(H:Hp)(v:V)(a:String):Prop
 |of (t:TyOf X.K H v (.type a))
 |tup (p:Addr) (vs:List V) (e:v=.ref p) (q:SqT X.K H p vs) (ea:a = "tuple")
 |lst (p:Addr) (vs:List V) (e:v=.ref p) (q:SqL X.K H p vs) (ea:a = "list")
theorem T6 {d:D}{S:Sto}{a:String}(h:tyD d S=some a):a∈tyL:=by
 cases d with
 |non=>cases h;exact .head _
 |bl b=>cases h;exact .tail _ (.head _)
 |int i=>cases h;exact .tail _ (.tail _ (.head _))
 |str x=>cases h;exact .tail _ (.tail _ (.tail _ (.head _)))
 |tup xs=>cases h;exact .tail _ (.tail _ (.tail _ (.tail _ (.head _))))
 |lst xs=>cases h;exact .tail _ (.tail _ (.tail _ (.tail _ (.tail _ (.head _)))))
 |dct0=>cases h;exact .tail _ (.tail _ (.tail _ (.tail _ (.tail _ (.tail _ (.head _))))))
 |loc i =>
  rcases nE (f:=fun _=>some "list") (g:=fun _=>some "dict") h with⟨_,_,h⟩|⟨_,_,h⟩
  ·cases h;exact .tail _ (.tail _ (.tail _ (.tail _ (.tail _ (.head _)))))
  ·cases h;exact .tail _ (.tail _ (.tail _ (.tail _ (.tail _ (.tail _ (.head _))))))
 |_=>exact nn h
theorem LR {H P:Hp}{α : List Addr}{S:Sto}{d:D}{v:V}{a:String}(r:Rel X.K H P α S)(p:Rep X.K P α d v)(h:tyD d S=some a):TyV X H v a:=by
 cases d with
 |non=>cases h;cases (show v=.non from p);exact .of .non
 |bl b=>cases h;cases (show v=.bl b from p);exact .of (.bl b)
 |int i=>cases h;cases (show v=.int i from p);exact .of (.int i)
 |str x=>cases h;cases (show v=.str x from p);exact .of (.str x)
 |tup xs =>
  cases h
  simp only[Rep] at p
  obtain⟨a,vs,e,q,t⟩:=p
  exact .tup a vs e (wF r.sub q) rfl
 |lst xs =>
  cases h
  simp only[Rep] at p
  obtain⟨a,vs,e,q,t⟩:=p
  exact .lst a vs e (w6 r.sub q).l rfl
 |dct0 =>
  cases h
  simp only[Rep] at p
  obtain⟨a,rfl,q⟩:=p
  exact .of (.dK (r.sub _ _ q))
 |loc i =>
  simp only[Rep] at p
  obtain⟨a,rfl,q⟩:=p
  rcases nE (f:=fun _=>some "list") (g:=fun _=>some "dict") h with⟨xs,hS,h⟩|⟨kvs,hS,h⟩
  ·cases h
   obtain⟨vs,z,t⟩:=r.at' i a _ q hS
   exact .of (.lst z)
  ·cases h
   obtain⟨vs,z,t⟩:=r.at' i a _ q hS
   exact .of (.dK z)
 |_=>exact nn h
inductive IsiV (ds:List D)(S:Sto):Prop
 |bad (e:yX ds S=.bad)
 |of (d:D) (b a:String) (ed:ds=[d,.ty b]) (hb:vX b=true) (ha:tyD d S=some a) (e:yX ds S=.ok (.bl (xK a b)) S)
theorem SE (ds:List D)(S:Sto):IsiV ds S:=by
 cases ds with
 |nil=>exact .bad rfl
 |cons d ds =>
  cases ds with
  |nil=>exact .bad rfl
  |cons e ds =>
   cases ds with
   |cons _ _=>cases e <;> exact .bad rfl
   |nil =>
    cases e with
    |ty b =>
     have z:yX [d,.ty b] S=if vX b then (match tyD d S with|some a=>.ok (.bl (xK a b)) S|none=>.bad) else .bad:=rfl
     by_cases hb:vX b=true
     ·rw[if_pos hb] at z
      cases ha:tyD d S with
      |none=>rw[ha] at z;exact .bad z
      |some a=>rw[ha] at z;exact .of d b a rfl hb ha z
     ·rw[if_neg hb] at z
      exact .bad z
    |_=>exact .bad rfl
theorem GM:y7 X (.builtin "isinstance") yX:=by
 intro pins σ H s P α S vs us ds Q I r rv rp af
 cases SE ds S with
 |bad e=>rw[e] at af;exact False.elim af
 |of d b a ed hb ha e =>
  subst ed
  rw[e] at af
  obtain⟨v,w,u,x,rfl,rfl,p,p',q,q'⟩:=dG rp rv
  simp only[Rep] at p'
  subst p'
  cases (show x=Value.type b from q')
  have kit:=UQ (K:=X.K) (T6 ha) hb
  have fin:∀ tk,EP X pins σ Q (.bool (xK a b)) { s with toks:=tk }:=fun tk=>⟨.bl _,H,I.tok tk,rfl,xr af r (by simp only[Rep])⟩
  cases LR r p ha with
  |of ht=>exact oS I q ht kit fin
  |tup p' ws e sq ea =>
   subst e ea
   cases (show u=Value.ref p' from q)
   obtain⟨its,rv',⟨o,h1,h2,_⟩,_⟩:=I.tuple sq
   exact PySem.W.kia_one PySem.W.kitx_tuple I.kIn ⟨o,h1,h2⟩ kit (fun z=>nomatch z) fin
  |lst p' ws e sq ea =>
   subst e ea
   cases (show u=Value.ref p' from q)
   obtain⟨its,rv',⟨o,_,h1,h2,_⟩,_⟩:=I.list sq
   exact PySem.W.kia_one PySem.W.kitx_list I.kIn ⟨o,h1,h2⟩ kit (fun z=>nomatch z) fin
def yA:List D→Option (List Bool)
 |[]=>some []
 |.bl b::r=>(yA r).map (b::·)
 |_=>none
theorem kU {P:Hp}{α : List Addr}:∀ {ds:List D} {bs:List Bool} {vs:List V} {us:List Value},yA ds=some bs→qE X.K P α ds vs→qN vs us→us=bs.map Value.bool
 |[],bs,vs,us,h,rp,rv=>by
  cases h
  have:=rp.nil_inv;subst this
  cases rv;rfl
 |d::ds,bs,vs,us,h,rp,rv=>by
  cases d with
  |bl b =>
   obtain⟨bs',q,rfl⟩:=Option.map_eq_some_iff.mp (show (yA ds).map (b::·)=some bs from h)
   obtain⟨w,ws,rfl,p,t⟩:=rp.cons_inv
   simp only[Rep] at p;subst p
   cases rv with
   |cons q1 q2 =>
    cases (show _=Value.bool b from q1)
    rw[kU q t q2]
    rfl
  |_=>exact nn h
def g9 (any:Bool):DF:=fun ds S=>match ds with
 |[d]=>match (x0 d).bind yA with
  |some bs=>.ok (.bl (if any then bs.any id else bs.all id)) S
  |none=>.bad
 |_=>.bad
theorem lM (bs:List Bool):((List.range bs.length).all fun i=>bs.getD i false)=bs.all id:=by
 induction bs with
 |nil=>rfl
 |cons b bs ih =>
  rw[List.length_cons,List.range_succ_eq_map,List.all_cons,List.all_map,List.all_cons,← ih]
  rfl
theorem lN (bs:List Bool):((List.range bs.length).any fun i=>bs.getD i false)=bs.any id:=by
 induction bs with
 |nil=>rfl
 |cons b bs ih =>
  rw[List.length_cons,List.range_succ_eq_map,List.any_cons,List.any_map,List.any_cons,← ih]
  rfl
theorem lG {pins:List (Addr × Obj)}{σ : _L.St}{H:Hp}{s:Shared}{o:Obj}{h':Heap}{tk:Nat}(I:Inv X pins σ H s)(k:∀ b ob,b ∉ [s.heap.objs.size]→(s.heap.push o).get? b=some ob→h'.get? b=some ob):Inv X pins σ H { s with heap:=h',toks:=tk }:=
 I.kept fun b u e=>k b u (by simp;exact Nat.ne_of_lt (Heap.lt_size e)) (Heap.get?_push_of_some _ e)
theorem jW {bs:List Bool}{its:List Value}(hi:its=bs.map Value.bool){A:Around}:TruthOf X.prog X.w A (fun i v=>its.toArray[i]? = some v) (fun i=>bs.getD i false):=fun i v s' Q' E' hv hQ=>by
 subst hi
 have hv':(bs.map Value.bool)[i]? = some v:=by simpa using hv
 rw[List.getElem?_map] at hv'
 cases e:bs[i]? with
 |none=>rw[e] at hv';exact nn hv'
 |some b =>
  rw[e] at hv'
  cases Option.some.inj hv'
  have:bs.getD i false=b:=by simp[List.getD,e]
  have hQ':Q' (bs.getD i false) s':=hQ
  rw[this] at hQ'
  exact wpAny_truthy_bool hQ'
theorem UA {any:Bool}{ds:List D}{S:Sto}{P:Hp}{α : List Addr}{Ok:D→Sto→Prop}(h:qK X P α (g9 any ds S) Ok):∃ d xs bs,ds=[d]∧ItV d xs∧yA xs=some bs∧Ok (.bl (if any then bs.any id else bs.all id)) S:=by
 obtain⟨d,rfl,h1⟩:=rC (X:=X) (β:=D) (g:=fun d=>match (x0 d).bind yA with|some bs=>.ok (D.bl (if any then bs.any id else bs.all id)) S|none=>.bad) h
 cases hb:(x0 d).bind yA with
 |none=>rw[hb] at h1;exact False.elim h1
 |some bs =>
  rw[hb] at h1
  obtain⟨xs,hx,hbs⟩:=Option.bind_eq_some_iff.mp hb
  exact⟨d,xs,bs,rfl,itV hx,hbs,h1⟩
theorem GJ (any:Bool)(hc:X.calm=true):y7 X (.builtin (if any then "any" else "all")) (g9 any):=by
 intro pins σ H s P α S vs us ds Q I r rv rp af
 obtain⟨d,xs,bs,ed,hd,hbs,ok⟩:=UA af
 clear af
 subst ed
 obtain⟨v,u,rfl,rfl,p,q⟩:=vO rp rv
 clear rp
 have fin:∀ {o:Obj} (h':Heap) (tk:Nat),(∀ b ob,b ∉ [s.heap.objs.size]→(s.heap.push o).get? b=some ob→h'.get? b=some ob)→EP X pins σ Q (.bool (if any then bs.any id else bs.all id)) { s with heap:=h',toks:=tk }:=
  fun {o} h' tk k=>⟨.bl _,H,lG I k,rfl,xr ok r (by simp only[Rep])⟩
 clear rv ok
 have hh:X.A.in1.handled=none:=I.ok.hd hc
 cases hd with
 |tup ed =>
  subst ed
  obtain⟨a,ws,its,rfl,sq,t,rvi,ht,hl,_⟩:=vT I r p
  cases (show u=Value.ref a from q)
  have hi:=kU hbs t rvi
  have hlen:its.toArray.size=bs.length:=by rw[hi];simp
  have hne:a≠s.heap.objs.size:=by obtain⟨o,e,_⟩:=ht;exact Nat.ne_of_lt (Heap.lt_size e)
  have W:=Walks.tuple (prog:=X.prog) (w:=X.w) hh s.heap.objs.size a hne its.toArray
  have hT:∀ o,(s.heap.push o).IsTuple a its.toArray:=fun o=>by obtain⟨o,e,c⟩:=ht;exact⟨o,Heap.get?_push_of_some _ e,c⟩
  have ht':s.heap.IsTuple a its.toArray:=ht
  cases any with
  |false =>
   refine call_all_walk (wpAny_pyIter_tuple ht' ⟨s.heap.objs.size,_,_,_,_,_,_,rfl,W,⟨⟨_,Heap.get?_push_size _ rfl,rfl,rfl⟩,hT _⟩,jW hi,fun h' tk k=>?_⟩)
   rw[hlen,lM]
   exact fin h' tk k
  |true =>
   refine call_any_walk (wpAny_pyIter_tuple ht' ⟨s.heap.objs.size,_,_,_,_,_,_,rfl,W,⟨⟨_,Heap.get?_push_size _ rfl,rfl,rfl⟩,hT _⟩,jW hi,fun h' tk k=>?_⟩)
   rw[hlen,lN]
   exact fin h' tk k
 |lst ed =>
  subst ed
  obtain⟨a,ws,its,n,rfl,sq,t,rvi,ht,hl,_⟩:=uJ I r p
  cases (show u=Value.ref a from q)
  have hL:s.heap.IsList a its.toArray:=⟨_,ht,rfl,n,rfl⟩
  have hi:=kU hbs t rvi
  have hlen:its.toArray.size=bs.length:=by rw[hi];simp
  have hne:a≠s.heap.objs.size:=Nat.ne_of_lt (Heap.lt_size ht)
  have W:=Walks.list (prog:=X.prog) (w:=X.w) hh s.heap.objs.size a hne its.toArray
  have hL':∀ o,(s.heap.push o).IsList a its.toArray:=fun o=>⟨_,Heap.get?_push_of_some _ ht,rfl,n,rfl⟩
  cases any with
  |false =>
   refine call_all_walk (wpAny_pyIter_list hL ⟨s.heap.objs.size,_,_,_,_,_,_,rfl,W,⟨⟨_,Heap.get?_push_size _ rfl,rfl,rfl⟩,hL' _⟩,jW hi,fun h' tk k=>?_⟩)
   rw[hlen,lM]
   exact fin h' tk k
  |true =>
   refine call_any_walk (wpAny_pyIter_list hL ⟨s.heap.objs.size,_,_,_,_,_,_,rfl,W,⟨⟨_,Heap.get?_push_size _ rfl,rfl,rfl⟩,hL' _⟩,jW hi,fun h' tk k=>?_⟩)
   rw[hlen,lN]
   exact fin h' tk k
def sD:DF:=fun ds S=>match ds with
 |[.int i]=>.ok (.int i) S
 |[.bl b]=>.ok (.int (b01 b)) S
 |_=>.bad
inductive IntV (ds:List D)(S:Sto):Prop
 |bad (e:sD ds S=.bad)
 |int (i:Int) (e:ds=[.int i])
 |bl (b:Bool) (e:ds=[.bl b])
theorem SC (ds:List D)(S:Sto):IntV ds S:=by
 cases ds with
 |nil=>exact .bad rfl
 |cons d ds =>
  cases ds with
  |cons _ _=>cases d <;> exact .bad rfl
  |nil =>
   cases d with
   |int i=>exact .int i rfl
   |bl b=>exact .bl b rfl
   |_=>exact .bad rfl
theorem GK:y7 X (.type "int") sD:=by
 intro pins σ H s P α S vs us ds Q I r rv rp af
 cases SC ds S with
 |bad e=>rw[e] at af;exact False.elim af
 |int i e =>
  subst e
  obtain⟨v,u,rfl,rfl,p,q⟩:=vO rp rv
  exact l4 pins s σ H _ _ Q I rv (.inl ⟨_,by rw[wE p],xr af r (by simp only[Rep])⟩)
 |bl b e =>
  subst e
  obtain⟨v,u,rfl,rfl,p,q⟩:=vO rp rv
  simp only[Rep] at p;subst p
  exact l4 pins s σ H _ _ Q I rv (.inr ⟨_,rfl,xr af r (by simp only[Rep];rfl)⟩)
def wR:DF:=fun ds S=>match ds with
 |[d]=>match x0 d with
  |some xs=>.ok (.tup xs) S
  |none=>.bad
 |_=>.bad
theorem ZP:y7 X (.type "tuple") wR:=by
 intro pins σ H s P α S vs us ds Q I r rv rp af
 obtain⟨d,rfl,af1⟩:=rC (X:=X) (β:=D) (g:=fun d=>match x0 d with|some xs=>.ok (D.tup xs) S|none=>.bad) af
 obtain⟨xs,hx,af2⟩:∃ xs,x0 d=some xs∧OkV X P α Q (.tup xs) S:=by
  cases hx:x0 d with
  |none=>rw[hx] at af1;exact False.elim af1
  |some xs=>rw[hx] at af1;exact⟨xs,rfl,af1⟩
 obtain⟨v,u,rfl,rfl,p,q⟩:=vO rp rv
 cases itV hx with
 |tup e =>
  subst e
  have p0:=p
  simp only[Rep] at p
  obtain⟨a,ws,rfl,sq,t⟩:=p
  exact gZ pins s σ H _ _ Q I rv ⟨a,ws,rfl,.inr ⟨wF r.sub sq,xr af2 r p0⟩⟩
 |lst e =>
  subst e
  simp only[Rep] at p
  obtain⟨a,ws,rfl,sq,t⟩:=p
  exact gZ pins s σ H _ _ Q I rv ⟨a,ws,rfl,.inl ⟨(w6 r.sub sq).l,fun l hl=>gM r hl t af2⟩⟩
end
end _D
end
section
namespace _D
open PySem PySem.Spec PyProof.Rows _L
section
variable {X:Cx}
structure ClsK (K:PySem.W.Frag)(cl:List Addr):Prop where
 ex:∀ C∈cl,ExnK K C
 one:∀ C∈cl,∀ B∈cl,PySem.W.kitOne K (.ref C) (.ref B)=some (C == B)
 ve:∀ C∈cl,PySem.W.kitOne K (.ref C) (.type "ValueError")=some true
def RL (cl:List Addr):DF:=fun ds S=>match ds with
 |[.exn (.ref C),.obj B]=>if cl.contains C&&cl.contains B then .ok (.bl (C == B)) S else .bad
 |[.exn (.ref C),.ty b]=>if cl.contains C&&(b == "ValueError") then .ok (.bl true) S else .bad
 |_=>yX ds S
def MtD (X:Cx)(id:String)(g:D→List D→Sto→Res D):Prop:=
 ∀ (pins:List (Addr × Obj)) (σ : _L.St) (H:Hp) (s:Shared) (P:Hp) (α : List Addr) (S:Sto) (v:V) (vv:Value) (vs:List V) (us:List Value) (a:D) (ds:List D) (Q:VK),Inv X pins σ H s→Rel X.K H P α S→qJ v vv→Rep X.K P α a v→qN vs us→qE X.K P α ds vs→zC X P α (g a ds S) Q →
  wpAny (model X.prog X.w) X.A (call (.builtin id) (vv::us)) (EP X pins σ Q) X.xe s
def dBm (T:String)(g:D→List D→Sto→Res D)(fo:DE)(fa:DA):DE:=fun env S=>(fo env S).bind fun a S1=>if (tyD a S1 == some T)=true then (fa env S1).bind fun ds S2=>g a ds S2 else .bad
theorem Z9 {H P:Hp}{α : List Addr}{S:Sto}{a:D}{v:V}{T:String}(r:Rel X.K H P α S)(p:Rep X.K P α a v)(h:tyD a S=some T)(hT:T = "list" ∨ T = "dict" ∨ T = "int" ∨ T = "str"):tyV X.K T v H:=by
 cases a with
 |int i=>cases h;simp only[Rep] at p;subst p;rfl
 |str x=>cases h;simp only[Rep] at p;subst p;rfl
 |lst xs =>
  cases h
  simp only[Rep] at p
  obtain⟨b,vs,rfl,q,t⟩:=p
  exact .inl ⟨rfl,vs,(w6 r.sub q).l⟩
 |dct0 =>
  cases h
  simp only[Rep] at p
  obtain⟨b,rfl,q⟩:=p
  exact .inr (.inr (.inl ⟨rfl,.inl ⟨[],r.sub _ _ q⟩⟩))
 |loc i =>
  simp only[Rep] at p
  obtain⟨b,rfl,q⟩:=p
  rcases nE (f:=fun _=>some "list") (g:=fun _=>some "dict") h with⟨xs,hS,h⟩|⟨kvs,hS,h⟩
  ·cases h
   obtain⟨vs,z,t⟩:=r.at' i b _ q hS
   exact .inl ⟨rfl,vs,SqL.of z⟩
  ·cases h
   obtain⟨vs,z,t⟩:=r.at' i b _ q hS
   exact .inr (.inr (.inl ⟨rfl,.inl ⟨vs,z⟩⟩))
 |non=>cases h;exact absurd hT (by decide)
 |bl b=>cases h;exact absurd hT (by decide)
 |tup xs=>cases h;exact absurd hT (by decide)
 |_=>exact nn h
variable {o e:Expr}{es:List Expr}{fo:DE}{fa:DA}{name:Str}{apos cpos:Pos}{T id:String}{g:D→List D→Sto→Res D}
theorem GU {P:Hp}{α : List Addr}{a:D}{S:Sto}{β : Type}{k:Res β}{Ok:β→Sto→Prop}(h:qK X P α (if (tyD a S == some T)=true then k else .bad) Ok):tyD a S=some T∧qK X P α k Ok:=by
 by_cases z:(tyD a S == some T)=true
 ·rw[if_pos z] at h;exact⟨beq_iff_eq.mp z,h⟩
 ·rw[if_neg z] at h;exact False.elim h
theorem TW (pa:PlainAttrs T)(slot:Slot T name id)(hty:typeOf (.builtin id)=pure (.type "method_descriptor"))(hT:T = "list" ∨ T = "dict" ∨ T = "int" ∨ T = "str")(hm:MtD X id g)(ho:PE X o (tD X fo))(ha:PA X (e::es) (tDA X fa))
  (hbase:attributeBase o name X.env (eval o X.env)=eval o X.env:=by rfl)
  (hfew:((backTo cpos (starEach (e::es) X.env)).all (fun x=>!x.1)&&(backToKw cpos (keywordEach [] X.env)).all (fun x=>x.1.isSome)
   && decide ((e::es).length+([]:List Keyword).length+(if ([] : List Keyword).isEmpty then 0 else 1)<30))=true:=by rfl)
  (hline:(apos.endLine == cpos.line)=true:=by rfl) (hs:starEach (e::es) X.env=(false,eval e X.env)::starEach es X.env:=by rfl) (hplain:(backTo cpos (starEach es X.env)).any (·.1)=false:=by rfl) :
  PE X (.Call (.Attribute o name apos) (e::es) [] cpos) (tD X (dBm T g fo fa)):=by
 intro pins s σ H Q I h
 obtain⟨P,α,env,S,r,re,af⟩:=h
 refine wpAny_Call_method_late hbase hfew hline rfl (thn (xB ho I r re af) fun vv s1 ⟨v,H1,P1,α1,d,S1,G1,af1⟩=>?_)
 obtain⟨ht,af2⟩:=GU af1
 obtain⟨h1,h2⟩:=Z8 G1.inv G1.val (Z9 G1.rel G1.rep ht hT)
 refine⟨T,id,pa,slot,hty,h1,h2,?_⟩
 have hA:=yZ ha G1.inv G1.rel G1.env (P:=P1) (α:=α1) (Ok:=OkV X P1 α1 Q) (zC.base G1.same G1.pre (r:=(fa env S1).bind fun ds S2=>g d ds S2) af2) cpos
 rw[hs] at hA ⊢
 refine Calls.callWith_builtin (by show (false||(backTo cpos (starEach es X.env)).any (·.1))=false;rw[hplain] <;> rfl) (Calls.evalArgs_plain ?_)
 exact thn hA fun us s2 ⟨vs,H2,P2,α2,ds,S2,I2,rv,r2,re2,rp2,e1,e2,af3⟩=>hm pins σ H2 s2 P2 α2 S2 v vv vs us d ds Q I2 r2 G1.val (Rep.mono e1 e2 _ _ G1.rep) rv rp2 (zC.base e1 e2 af3)
def yT:D→List D→Sto→Res D:=fun a ds S=>match a,ds with
 |.loc i,[d]=>match S[i]? with
  |some (.lst xs)=>if xs.length<lim then .ok .non (S.set i (.lst (xs++[d]))) else .bad
  |_=>.bad
 |_,_=>.bad
inductive ApV (a:D)(ds:List D)(S:Sto):Prop
 |bad (e:yT a ds S=.bad)
 |of (i:Nat) (d:D) (xs:List D) (ea:a=.loc i) (ed:ds=[d]) (hS:S[i]? = some (.lst xs)) (hl:xs.length<lim) (e:yT a ds S=.ok .non (S.set i (.lst (xs++[d]))))
theorem apV (a:D)(ds:List D)(S:Sto):ApV a ds S:=by
 cases a with
 |loc i =>
  cases ds with
  |nil=>exact .bad rfl
  |cons d ds =>
   cases ds with
   |cons _ _=>exact .bad rfl
   |nil =>
    have z:yT (.loc i) [d] S=(match S[i]? with|some (.lst xs)=>(if xs.length<lim then .ok .non (S.set i (.lst (xs++[d]))) else .bad)|_=>.bad):=rfl
    cases hS:S[i]? with
    |none=>rw[hS] at z;exact .bad z
    |some m =>
     rw[hS] at z
     cases m with
     |lst xs =>
      by_cases hl:xs.length<lim
      ·exact .of i d xs rfl rfl hS hl (z.trans (if_pos hl))
      ·exact .bad (z.trans (if_neg hl))
     |_=>exact .bad z
 |_=>exact .bad rfl
theorem Q8:MtD X "list.append" yT:=by
 intro pins σ H s P α S v vv vs us a ds Q I r rv p rvs rps af
 cases apV a ds S with
 |bad e=>rw[e] at af;exact False.elim af
 |of i d xs ea ed hS hl e =>
  rw[e] at af
  subst ea ed
  obtain⟨w,u,rfl,rfl,p',q'⟩:=vO rps rvs
  simp only[Rep] at p
  obtain⟨b,rfl,q⟩:=p
  obtain⟨ws,z,t⟩:=r.at' i b _ q hS
  refine QD pins s σ H (.ref b) [w] vv [u] Q I rv (.cons q' .nil) ⟨b,ws,w,rfl,rfl,z,by rw[← t.length,← xJ];exact hl,?_⟩
  exact xr af (r.put (m':=.lst (xs++[d])) q hS (by intro z;cases z) ⟨ws++[w],z0,t.append (.cons p' .nil)⟩) (by simp only[Rep])
end
end _D
end
section
namespace _D
open PySem PySem.Spec PyProof.Rows _L
def vW:D→Option Key
 |.int i=>some (.inl i)
 |.str x=>some (.inr x)
 |_=>none
def wZ (kvs:List (Key × D))(k:Key):Option D:=(kvs.find? fun kv=>decide (kv.1=k)).map (·.2)
def vC (kvs:List (Key × D))(k:Key)(v:D):List (Key × D):=
 if (kvs.any fun kv=>decide (kv.1=k))=true then kvs.map (fun kv=>if kv.1=k then (kv.1,v) else kv) else kvs++[(k,v)]
section
variable {K:PySem.W.Frag}{P:Hp}{α : List Addr}
theorem hW {kvs:List (Key × D)}{vs:List (Key × V)}(r:KVs K P α kvs vs):kvs.length=vs.length:=Paired.length r
theorem c9 {k:Key}:∀ {kvs:List (Key × D)} {vs:List (Key × V)},KVs K P α kvs vs→(∀ d,wZ kvs k=some d→∃ v,vF vs k=some v∧Rep K P α d v)∧(wZ kvs k=none→vF vs k=none)
 |_,_,.nil=>⟨fun d h=>by simp[wZ] at h,fun _=>rfl⟩
 |(k1,d1)::kvs,(k2,v2)::vs,.cons z t=>by
  obtain⟨e,r⟩:=z
  dsimp only at e r
  subst e
  obtain⟨h1,h2⟩:=c9 (k:=k) t
  unfold wZ vF at *
  by_cases hk:k1=k
  ·subst hk
   constructor
   ·intro d h
    simp at h
    subst h
    exact⟨v2,by simp,r⟩
   ·intro h
    simp at h
  ·constructor
   ·intro d h
    rw[List.find?_cons_of_neg (by simpa using hk)] at h ⊢
    exact h1 d h
   ·intro h
    rw[List.find?_cons_of_neg (by simpa using hk)] at h ⊢
    exact h2 h
theorem UR {k:Key}{kvs:List (Key × D)}{vs:List (Key × V)}(h:KVs K P α kvs vs):(kvs.any fun kv=>decide (kv.1=k))=(vs.any fun kv=>decide (kv.1=k)):=by
 induction h with
 |nil=>rfl
 |cons z t ih=>rw[List.any_cons,List.any_cons,ih,z.1]
theorem UT {k:Key}{d:D}{v:V}(q:Rep K P α d v){kvs:List (Key × D)}{vs:List (Key × V)}(h:KVs K P α kvs vs):KVs K P α (kvs.map fun kv=>if kv.1=k then (kv.1,d) else kv) (vs.map fun kv=>if kv.1=k then (kv.1,v) else kv):=by
 induction h with
 |nil=>exact .nil
 |cons z t ih =>
  rw[List.map_cons,List.map_cons]
  refine .cons ?_ ih
  rw[← z.1]
  split
  ·exact⟨rfl,q⟩
  ·exact z
theorem US {k:Key}{d:D}{v:V}(q:Rep K P α d v){kvs:List (Key × D)}{vs:List (Key × V)}(h:KVs K P α kvs vs):KVs K P α (kvs++[(k,d)]) (vs++[(k,v)]):=by
 induction h with
 |nil=>exact .cons ⟨rfl,q⟩ .nil
 |cons z t ih=>exact .cons z ih
theorem hX {k:Key}{d:D}{v:V}(q:Rep K P α d v){kvs:List (Key × D)}{vs:List (Key × V)}(r:KVs K P α kvs vs):KVs K P α (vC kvs k d) (vD vs k v):=by
 unfold vC vD
 rw[UR r]
 split
 ·exact UT q r
 ·exact US q r
theorem oW {d:D}{k:Key}{v:V}(h:vW d=some k)(r:Rep K P α d v):v=kV k:=by
 cases d with
 |int i=>cases h;simp only[Rep] at r;exact r
 |str x=>cases h;simp only[Rep] at r;exact r
 |_=>cases h
end
section
variable {X:Cx}{o i e:Expr}{pos:Pos}{fo fi:DE}
def ZX:DE:=fun _ S=>.ok (.loc S.length) (S++[.dct []])
theorem GX:PE X (.Dict [] [] pos) (tD X ZX):=by
 refine peW WA fun σ H Q ⟨P,α,env,S,r,re,af⟩ p hp=>?_
 have hpre:α<+:α++[p]:=List.prefix_append _ _
 have r1:=r.new (o:=.dK []) (m:=.dct []) hp ⟨[],z0,.nil⟩
 refine af _ _ _ _ r1 (qG.refl _) hpre ?_
 simp only[Rep]
 exact⟨p,rfl,by rw[← r.len];simp⟩
def uD:G3:=fun o i d S=>match o with
 |.loc n=>match S[n]? with
  |some (.dct kvs)=>match vW i with
   |some k=>if kvs.length<lim then .ok () (S.set n (.dct (vC kvs k d))) else .bad
   |none=>.bad
  |_=>tU o i d S
 |_=>tU o i d S
inductive Set2V (a b d:D)(S:Sto):Prop
 |bad (e:uD a b d S=.bad)
 |old (e:uD a b d S=tU a b d S)
 |of (n:Nat) (kvs:List (Key × D)) (k:Key) (ea:a=.loc n) (hS:S[n]? = some (.dct kvs)) (hk:vW b=some k) (hl:kvs.length<lim) (e:uD a b d S=.ok () (S.set n (.dct (vC kvs k d))))
theorem LK (a b d:D)(S:Sto):Set2V a b d S:=by
 cases a with
 |loc n =>
  have z:uD (.loc n) b d S=(match S[n]? with|some (.dct kvs)=>(match vW b with|some k=>(if kvs.length<lim then .ok () (S.set n (.dct (vC kvs k d))) else .bad)|none=>.bad)|_=>tU (.loc n) b d S):=rfl
  cases hS:S[n]? with
  |none=>rw[hS] at z;exact .old z
  |some m =>
   rw[hS] at z
   cases m with
   |dct kvs =>
    cases hk:vW b with
    |none=>rw[hk] at z;exact .bad z
    |some k =>
     rw[hk] at z
     by_cases hl:kvs.length<lim
     ·exact .of n kvs k rfl hS hk hl (z.trans (if_pos hl))
     ·exact .bad (z.trans (if_neg hl))
   |_=>exact .old z
 |_=>exact .old rfl
theorem MR (hu:X.A.units+1<cLine):dL X (dI X uD):=by
 intro pins s σ H o i v ov iv u Q I ro ri rv h
 obtain⟨P,α,S,a,b,d,r,pa,pb,pd,af⟩:=h
 cases LK a b d S with
 |bad e=>rw[e] at af;exact False.elim af
 |old e =>
  rw[e] at af
  exact LL pins s σ H o i v ov iv u Q I ro ri rv ⟨P,α,S,a,b,d,r,pa,pb,pd,af⟩
 |of n kvs k ea hS hk hl e =>
  rw[e] at af
  subst ea
  simp only[Rep] at pa
  obtain⟨p,rfl,q⟩:=pa
  obtain⟨vs,z,t⟩:=r.at' n p _ q hS
  cases oW hk pb
  cases (show ov=Value.ref p from ro)
  refine oD hu I (tB.k (v:=v) z (by rw[← hW t,← xJ];exact hl)) ri rv fun s' I'=>⟨_,I',?_⟩
  exact af _ P α (r.put (m':=.dct (vC kvs k d)) q hS (by intro z;cases z) ⟨_,z0,hX pd t⟩) (qG.refl _) (List.prefix_refl _)
end
end _D
end
section
namespace _D
open PySem PySem.Spec PyProof.Rows _L
section
variable {X:Cx}{a b c e:Expr}{pos:Pos}{fa fe:DE}
def RP (i:Nat)(g:G2)(fe:DE):DS:=fun env S=>match env[i]? with
 |some (some x)=>(fe env S).toS env fun y S1=>(g x y S1).toS env fun z S2=>.nx (env.set i (some z)) S2
 |_=>.bad
def RM:G2:=i2 (fun _ _=>true) fun i j=>.int (i+j)
def cF (i j k:Nat)(env:qC)(S1:Sto):List D→Out
 |[x,y,z]=>.nx (((env.set i (some x)).set j (some y)).set k (some z)) S1
 |_=>.bad
def RN (i j k:Nat)(f:DA):DS:=fun env S=>(f env S).toS env fun ds S1=>cF i j k env S1 ds
def w5 (xs:List D)(lo hi:Option Int):List D:=(xs.drop (_H.sIx xs.length 0 lo)).take (_H.sIx xs.length xs.length hi-_H.sIx xs.length 0 lo)
abbrev DO:=qC→Sto→Res (Option Int)
def OkO (X:Cx)(P:Hp)(α : List Addr)(Q:Option Int→Hp→Prop)(o:Option Int)(S':Sto):Prop:=∀ H' P' α',Rel X.K H' P' α' S'→qG P P'→α<+:α'→Q o H'
def tDO (X:Cx)(f:DO):TO:=fun σ H Q=>∃ P α env S,Rel X.K H P α S∧zG X.K P α σ env∧qK X P α (f env S) (OkO X P α Q)
def xZ:DO:=fun _ S=>.ok none S
def zV (f:DE):DO:=fun env S=>(f env S).bind fun d S1=>match d with
 |.int i=>.ok (some i) S1
 |_=>.bad
theorem VW:PO X none (tDO X xZ):=fun pins s σ H Q I ⟨P,α,env,S,r,re,af⟩=>JK pins s σ H Q I (af H P α r (qG.refl _) (List.prefix_refl _))
theorem VX (he:PE X e (tD X fe)):PO X (some e) (tDO X (zV fe)):=by
 intro pins s σ H Q I h
 obtain⟨P,α,env,S,r,re,af⟩:=h
 refine JL (te:=tD X fe) he pins s σ H Q I ⟨P,α,env,S,r,re,?_⟩
 have af':qK X P α ((fe env S).bind fun d S1=>match d with|.int i=>.ok (some i) S1|_=>.bad) (OkO X P α Q):=af
 cases q:fe env S with
 |bad=>rw[q] at af';exact af'
 |ex c x S'=>rw[q] at af';exact af'
 |ok d S1 =>
  rw[q] at af'
  intro v H1 P1 α1 r1 e1 e2 rp
  cases d with
  |int i=>exact⟨i,wE rp,af' H1 P1 α1 r1 e1 e2⟩
  |_=>exact False.elim af'
theorem qE.cut {K:PySem.W.Frag}{P:Hp}{α : List Addr}{ds:List D}{vs:List V}(r:qE K P α ds vs)(lo hi:Option Int):qE K P α (w5 ds lo hi) (pE vs lo hi):=by
 unfold w5 pE
 rw[r.length]
 exact(r.drop _).take _
def gSl (d:D)(lo hi:Option Int)(S:Sto):Res D:=match d with
 |.lst xs=>.ok (.lst (w5 xs lo hi)) S
 |.loc i=>match S[i]? with
  |some (.lst xs)=>.ok (.lst (w5 xs lo hi)) S
  |_=>.bad
 |.tup xs=>.ok (.tup (w5 xs lo hi)) S
 |_=>.bad
def dSl (fe:DE)(fl fh:DO):DE:=fun env S=>(fe env S).bind fun d S1=>(fl env S1).bind fun lo S2=>(fh env S2).bind fun hi S3=>gSl d lo hi S3
end
end _D
end
section
namespace _D
open PySem PySem.Spec PyProof.Rows _L _H
section
variable {prog:Program}{w:World}{A:Around}{E:Value→Shared→Prop}{s:Shared}
theorem p8 {t sl:Addr}{items:Array Value}{vl vu:Value}{lo hi:Option Int}{Q:Value→Shared→Prop}(ht:IsTup s.heap t items)(hs:s.heap.IsSliceOf sl vl vu .none)(pl:IsPart vl lo)(pu:IsPart vu hi)
  (hw:sIx items.size 0 lo=0∧sIx items.size items.size hi=items.size) (h:Q (.ref t) s):wpAny (model prog w) A (getItem (.ref t) (.ref sl)) Q E s:=by
 obtain⟨ob,hob,hcb,_⟩:=id hs
 have hTs:s.TypeIs (.ref sl) "slice":=⟨ob,hob,hcb⟩
 unfold getItem
 try with_reducible refine wpAny_holding ?_
 first|refine wpAny_bind (wpAny_pure ?_)|skip
 refine wpAny_bind (wpAny_sequenceKey ht.typeIs (by decide) ?_)
 refine wpAny_bind (wpAny_callSpecial?_slot (name:=Str.ofString "__getitem__") ht.typeIs PyProof.Rows.slot_tuple_getitem
  (wpAny_call_entry PyProof.Rows.slot_tuple_getitem ht.typeIs entry_tuple_getitem ?_ (args_tuple_getitem _ _)))
 show wpAny _ _ (Builtin.Tuple.tupleItemsOf (.ref t) >>= _) _ _ s
 refine wpAny_bind (tupleItemsOf_ ht ?_)
 refine wpAny_bind (wpAny_typeOf hTs ?_)
 rw[if_pos (by decide)]
 refine wpAny_bind (jQ hs pl pu ?_)
 show wpAny _ _ (if (((sIx items.size 0 lo:Nat):Int) == 0&&(1:Int) == 1&&(sIx items.size items.size hi-sIx items.size 0 lo) == items.size)=true then _ else _) _ _ s
 rw[hw.1,hw.2,if_pos (by simp)]
 unfold Builtin.Tuple.tupleIsExact
 refine wpAny_bind (wpAny_bind (wpAny_typeOf ht.typeIs (wpAny_pure ?_)))
 rw[if_pos (by decide)]
 exact wpAny_bind (wpAny_rule (wpAny_pure ⟨_,rfl,wpAny_pure h⟩))
end
section
variable {X:Cx}{e:Expr}{fe:DE}{pos p2:Pos}
def SO (X:Cx):V→Option Int→Option Int→Hp→VK→Prop:=fun x lo hi H Q=>∃ P α S d,Rel X.K H P α S∧Rep X.K P α d x∧zC X P α (gSl d lo hi S) Q
theorem ST:SlR X (SO X):=by
 intro pins s σ H x v vl vu lo hi sl Q I rx hs pl pu h
 obtain⟨P,α,S,d,r,p,af⟩:=h
 cases d with
 |lst xs =>
  simp only[Rep] at p
  obtain⟨a,vs,rfl,q,t⟩:=p
  exact cT pins s σ H _ v vl vu lo hi sl Q I rx hs pl pu ⟨a,vs,rfl,(w6 r.sub q).l,fun b hb=>jL r hb (qE.cut t lo hi) af⟩
 |loc i =>
  obtain⟨xs,hS,af⟩:=gL (X:=X) (f:=fun xs=>Res.ok (D.lst (w5 xs lo hi)) S) af
  simp only[Rep] at p
  obtain⟨a,rfl,q⟩:=p
  obtain⟨vs,z,t⟩:=r.at' i a _ q hS
  exact cT pins s σ H _ v vl vu lo hi sl Q I rx hs pl pu ⟨a,vs,rfl,SqL.of z,fun b hb=>jL r hb (qE.cut t lo hi) af⟩
 |tup xs =>
  have p0:=p
  simp only[Rep] at p
  obtain⟨a,vs,rfl,q,t⟩:=p
  by_cases hw:sIx vs.length 0 lo=0∧sIx vs.length vs.length hi=vs.length
  ·cases rx
   obtain⟨its,rv,ht,hz⟩:=I.tuple (wF r.sub q)
   have hlen:its.toArray.size=vs.length:=by rw[List.size_toArray];exact rv.length.symm
   refine⟨"tuple",_,PyProof.Rows.slot_tuple_getitem.lookup,ht.typeIs,p8 ht hs pl pu (by rw[hlen];exact hw) ⟨.ref a,H,I,rfl,xr af r ?_⟩⟩
   have e:w5 xs lo hi=xs:=by
    unfold w5
    rw[t.length,hw.1,hw.2,← t.length]
    simp
   rw[e]
   exact p0
  ·exact MT pins s σ H _ v vl vu lo hi sl Q I rx hs pl pu ⟨a,vs,rfl,wF r.sub q,hw,fun b hb=>gM r hb (qE.cut t lo hi) af⟩
 |_=>exact False.elim af
theorem X3 {lo hi:Option Expr}{fl fh:DO}(he:PE X e (tD X fe))(hl:PO X lo (tDO X fl))(hu:PO X hi (tDO X fh)):PE X (.Subscript e (.Slice lo hi none p2) pos) (tD X (dSl fe fl fh)):=
 peW (WB ST he hl hu) fun σ H Q ⟨P,α,env,S,r,re,af⟩=>by
  refine⟨P,α,env,S,r,re,?_⟩
  have af':qK X P α ((fe env S).bind fun d S1=>(fl env S1).bind fun lo S2=>(fh env S2).bind fun hi S3=>gSl d lo hi S3) (OkV X P α Q):=af
  cases q:fe env S with
  |bad=>rw[q] at af';exact af'
  |ex c x S'=>rw[q] at af';exact af'
  |ok d S1 =>
   rw[q] at af'
   intro v H1 P1 α1 r1 e1 e2 rp
   refine⟨P1,α1,env,S1,r1,re.mono e1 e2,?_⟩
   have af2:qK X P1 α1 ((fl env S1).bind fun lo S2=>(fh env S2).bind fun hi S3=>gSl d lo hi S3) (OkV X P1 α1 Q):=zC.base e1 e2 af'
   cases q2:fl env S1 with
   |bad=>rw[q2] at af2;exact af2
   |ex c x S'=>rw[q2] at af2;exact af2
   |ok l S2 =>
    rw[q2] at af2
    intro H2 P2 α2 r2 e3 e4
    refine⟨P2,α2,env,S2,r2,(re.mono e1 e2).mono e3 e4,?_⟩
    have af3:qK X P2 α2 ((fh env S2).bind fun hi S3=>gSl d l hi S3) (OkV X P2 α2 Q):=zC.base e3 e4 af2
    cases q3:fh env S2 with
    |bad=>rw[q3] at af3;exact af3
    |ex c x S'=>rw[q3] at af3;exact af3
    |ok u S3 =>
     rw[q3] at af3
     intro H3 P3 α3 r3 e5 e6
     exact⟨P3,α3,S3,d,r3,Rep.mono (e3.trans e5) (e4.trans e6) _ _ rp,zC.base e5 e6 af3⟩
end
end _D
end
section
namespace _D
open PySem PySem.Spec PyProof.Rows _L
def zH (tp:Bool)(h:Heap)(it l:Addr)(k:Nat):Prop:=if tp then h.IsTupleIter it l k else h.IsListIter it l k
def xU (tp:Bool)(h:Heap)(l:Addr)(xs:Array Value):Prop:=if tp then h.IsTuple l xs else h.IsList l xs
theorem zH.keep {tp:Bool}{h h':Heap}{it l:Addr}{k:Nat}(x:zH tp h it l k)(q:∀ o,h.get? it=some o→h'.get? it=some o):zH tp h' it l k:=by
 cases tp <;> (obtain⟨o,e,r⟩:=x;exact⟨o,q o e,r⟩)
theorem xU.keep {tp:Bool}{h h':Heap}{l:Addr}{xs:Array Value}(x:xU tp h l xs)(q:∀ o,h.get? l=some o→h'.get? l=some o):xU tp h' l xs:=by
 cases tp <;> (obtain⟨o,e,r⟩:=x;exact⟨o,q o e,r⟩)
theorem zH.there {tp:Bool}{h:Heap}{it l:Addr}{k:Nat}(x:zH tp h it l k):∃ o,h.get? it=some o∧∀ v,o.data≠.cell v:=by
 cases tp <;> (obtain⟨o,e,_,d⟩:=x;exact⟨o,e,fun v z=>by rw[d] at z;cases z⟩)
section
variable {prog:Program}{w:World}{A:Around}{E:Value→Shared→Prop}{s:Shared}
theorem W6 {it t:Addr}{i:Nat}{items:Array Value}{x:Value}{Q:Value→Shared→Prop}(hit:s.heap.IsTupleIter it t i)(ht:s.heap.IsTuple t items)(hx:items[i]? = some x)
  (hQ:∀ h',h'.IsTupleIter it t (i+1)→Heap.SameBut it s.heap h'→Q x { s with heap:=h' }) : wpAny (model prog w) A (Builtin.SmallTypes.nextOf (.ref it)) Q E s:=by
 obtain⟨o,e,c,d⟩:=id hit
 obtain⟨u,eu,_,m,du⟩:=ht
 unfold Builtin.SmallTypes.nextOf
 refine wpAny_bind (wpAny_callSpecial?_slot (name:=Str.ofString "__next__") hit.typeIs F.slot_tuple_iterator_next (wpAny_call_entry F.slot_tuple_iterator_next hit.typeIs F.entry_tuple_iterator_next ?_ (F.args_tuple_iterator_next_1 _)))
 show wpAny _ _ (field (.ref it) 0 >>= _) _ _ s;refine wpAny_bind (wpAny_field e d (x:=.ref t) rfl ?_)
 show wpAny _ _ (if (Value.ref t == Value.none)=true then _ else _) _ _ s;rw[if_neg (show ¬ ((Value.ref t == Value.none)=true) from Bool.false_ne_true)]
 show wpAny _ _ (field (.ref it) 1 >>= _) _ _ s;refine wpAny_bind (wpAny_field e d (x:=.int i 0) rfl ?_)
 show wpAny _ _ (seqItems? (.ref t) >>= _) _ _ s;refine wpAny_bind (wpAny_seqItems eu du ?_)
 simp only[Int.toNat_natCast,hx]
 refine wpAny_bind (wpAny_setField e d (by simp) (wpAny_pure ⟨x,rfl,wpAny_pure (hQ _ ⟨_,Heap.get?_update_self _ e (Obj.isFreed_of_fields (Obj.data_mapFields d _)),(Obj.cls_mapFields ..).trans c,?_⟩ (Heap.SameBut.update ..))⟩))
 rw[Obj.data_mapFields d];simp[rawInt]
theorem sZ {it t:Addr}{i:Nat}{items:Array Value}{Q:Value→Shared→Prop}(hh:A.handled=none)(hit:s.heap.IsTupleIter it t i)(ht:s.heap.IsTuple t items)(hx:items[i]? = none)
  (hE:∀ h' e,Heap.ExtBut it s.heap h'→(∃ o,h'.get? e=some o∧o.cls=.type "StopIteration")→E (.ref e) { s with heap:=h' }) : wpAny (model prog w) A (Builtin.SmallTypes.nextOf (.ref it)) Q E s:=by
 obtain⟨o,e,c,d⟩:=id hit
 obtain⟨u,eu,_,m,du⟩:=ht
 unfold Builtin.SmallTypes.nextOf
 refine wpAny_bind (wpAny_callSpecial?_slot (name:=Str.ofString "__next__") hit.typeIs F.slot_tuple_iterator_next (wpAny_call_entry F.slot_tuple_iterator_next hit.typeIs F.entry_tuple_iterator_next ?_ (F.args_tuple_iterator_next_1 _)))
 show wpAny _ _ (field (.ref it) 0 >>= _) _ _ s;refine wpAny_bind (wpAny_field e d (x:=.ref t) rfl ?_)
 show wpAny _ _ (if (Value.ref t == Value.none)=true then _ else _) _ _ s;rw[if_neg (show ¬ ((Value.ref t == Value.none)=true) from Bool.false_ne_true)]
 show wpAny _ _ (field (.ref it) 1 >>= _) _ _ s;refine wpAny_bind (wpAny_field e d (x:=.int i 0) rfl ?_)
 show wpAny _ _ (seqItems? (.ref t) >>= _) _ _ s;refine wpAny_bind (wpAny_seqItems eu du ?_)
 simp only[Int.toNat_natCast,hx];refine wpAny_bind (wpAny_rule (wpAny_bind (wpAny_setField e d (by simp) ?_)))
 show wpAny _ _ (newExc (.type "StopIteration") [] >>= _) _ _ _;refine wpAny_bind ?_
 simp only[newExc,newTuple];refine wpAny_bind (wpAny_newObj_type ?_ (by size_fits))
 refine wpAny_bind (m:=firstArgMember _ _) (wpAny_of_eq (a:=Value.none) (by first|rfl|(simp only[firstArgMember];rfl)) (wpAny_newObj_type ?_ (by size_fits)))
 simp only[raiseNew];refine wpAny_bind (wpAny_handled ?_)
 first|rw[show A.in1.handled=none from hh]|rw[hh]
 exact wpAny_bind (wpAny_pure (wpAny_throw (hE _ _ (((Heap.SameBut.update ..).extBut.push _).push _) ⟨_,Heap.get?_push_size _ rfl,rfl⟩)))
theorem gK {tp:Bool}{it l:Addr}{k:Nat}{xs:Array Value}{x:Value}{Q:Value→Shared→Prop}(hit:zH tp s.heap it l k)(hl:xU tp s.heap l xs)(hx:xs[k]? = some x)
  (hQ:∀ h',zH tp h' it l (k+1)→Heap.SameBut it s.heap h'→Q x { s with heap:=h' }) : wpAny (model prog w) A (Builtin.SmallTypes.nextOf (.ref it)) Q E s:=by
 cases tp with
 |false=>exact wpAny_nextOf_list_item hit hl hx hQ
 |true=>exact W6 hit hl hx hQ
theorem jK {tp:Bool}{it l:Addr}{k:Nat}{xs:Array Value}{Q:Value→Shared→Prop}(hh:A.handled=none)(hit:zH tp s.heap it l k)(hl:xU tp s.heap l xs)(hx:xs[k]? = none)
  (hE:∀ h' e,Heap.ExtBut it s.heap h'→(∃ o,h'.get? e=some o∧o.cls=.type "StopIteration")→E (.ref e) { s with heap:=h' }) : wpAny (model prog w) A (Builtin.SmallTypes.nextOf (.ref it)) Q E s:=by
 cases tp with
 |false=>exact wpAny_nextOf_list_end hh hit hl hx hE
 |true=>exact sZ hh hit hl hx hE
structure ZA (z I O i j:Addr):Prop where
 Iz:I≠z
 Oz:O≠z
 iz:i≠z
 jz:j≠z
 IO:I≠O
 Ii:I≠i
 Ij:I≠j
 Oi:O≠i
 Oj:O≠j
 ij:i≠j
structure Off (z O i j a:Addr):Prop where
 z:a≠z
 O:a≠O
 i:a≠i
 j:a≠j
abbrev ZH (z O i j:Addr)(h h':Heap):Prop:=∀ c o,c≠z→c≠O→c≠i→c≠j→h.get? c=some o→h'.get? c=some o
theorem YF {tp tq:Bool}{z I O i j a b:Addr}{k:Nat}{xs ys:Array Value}{x y p q:Value}{Q:Value→Shared→Prop}(D:ZA z I O i j)(Da:Off z O i j a)(Db:Off z O i j b)
  (hz:IsZip s.heap z I O .none) (hI:IsPair s.heap I (.ref i) (.ref j)) (hO:IsPair s.heap O p q) (h1:zH tp s.heap i a k) (h2:zH tq s.heap j b k) (ha:xU tp s.heap a xs) (hb:xU tq s.heap b ys) (hx:xs[k]? = some x) (hy:ys[k]? = some y)
  (hQ:∀ h',IsZip h' z I O (rawInt s.heap.objs.size)→IsPair h' O x y→zH tp h' i a (k+1)→zH tq h' j b (k+1)→IsPair h' s.heap.objs.size x y→h'.objs.size=s.heap.objs.size+1→ZH z O i j s.heap h'→Q (.ref s.heap.objs.size) { s with heap:=h' }) :
  wpAny (model prog w) A (Builtin.«zip.__next__» ⟨[.ref z],[]⟩) (fun fin s'=>∃ v,fin=.done (.ret v)∧Q v s') E s:=by
 show wpAny _ _ (field (.ref z) 2 >>= _) _ _ _;refine wpAny_bind (wpAny_field hz rfl (x:=.bool false) rfl ?_)
 show wpAny _ _ (field (.ref z) 3 >>= _) _ _ _;refine wpAny_bind (wpAny_field hz rfl (x:=.ref I) rfl (wpAny_bind (wpAny_seqItems hI rfl ?_)))
 show wpAny _ _ (Builtin.SmallTypes.ownedTupleIsFree (.ref z) >>= _) _ _ _;refine wpAny_bind ?_
 unfold Builtin.SmallTypes.ownedTupleIsFree;refine wpAny_bind (wpAny_field hz rfl (x:=.none) rfl (wpAny_pure ?_))
 simp only[if_true];refine wpAny_bind (wpAny_rule (wpAny_bind (wpAny_field hz rfl (x:=.ref O) rfl (wpAny_bind (wpAny_setField_rec hz (by simp) fun g1 z1 s1=>?_)))))
 replace z1:IsZip g1 z I O .ellipsis:=z1
 refine wpAny_bind ?_;simp only[List.zipIdx_cons,List.zipIdx_nil,List.forIn_cons,List.forIn_nil]
 refine wpAny_bind (wpAny_bind (wpAny_onRaise ?_));show wpAny _ _ (Builtin.SmallTypes.nextOf (.ref i) >>= _) _ _ _
 refine wpAny_bind (gK (h1.keep fun o e=>s1.extBut _ _ D.iz e) (ha.keep fun o e=>s1.extBut _ _ Da.z e) hx fun g2 i2 s2=>wpAny_pure ?_)
 have O2:IsPair g2 O p q:=s2.extBut _ _ D.Oi (s1.extBut _ _ D.Oz hO)
 refine wpAny_bind (wpAny_seqItems O2 rfl (wpAny_bind (wpAny_updateSeq_pair O2 fun g3 O3 s3=>wpAny_bind (wpAny_letGo (wpAny_pure ?_)))))
 replace O3:IsPair g3 O x q:=O3
 refine wpAny_bind (wpAny_bind (wpAny_onRaise ?_));show wpAny _ _ (Builtin.SmallTypes.nextOf (.ref j) >>= _) _ _ _
 refine wpAny_bind (gK (h2.keep fun o e=>s3.extBut _ _ D.Oj.symm (s2.extBut _ _ D.ij.symm (s1.extBut _ _ D.jz e))) (hb.keep fun o e=>s3.extBut _ _ Db.O (s2.extBut _ _ Db.i (s1.extBut _ _ Db.z e))) hy fun g4 j4 s4=>wpAny_pure ?_)
 have O4:IsPair g4 O x q:=s4.extBut _ _ D.Oj O3
 refine wpAny_bind (wpAny_seqItems O4 rfl (wpAny_bind (wpAny_updateSeq_pair O4 fun g5 O5 s5=>wpAny_bind (wpAny_letGo (wpAny_pure (wpAny_pure ?_))))))
 replace O5:IsPair g5 O x y:=O5
 refine wpAny_bind (wpAny_seqItems O5 rfl (wpAny_bind (wpAny_newTuple ?_)))
 have sz:g5.objs.size=s.heap.objs.size:=by rw[s5.1,s4.1,s3.1,s2.1,s1.1]
 have z5:IsZip g5 z I O .ellipsis:=s5.extBut _ _ D.Oz.symm (s4.extBut _ _ D.jz.symm (s3.extBut _ _ D.Oz.symm (s2.extBut _ _ D.iz.symm z1)))
 have k5:ZH z O i j s.heap g5:=fun c o c1 c2 c3 c4 e=>s5.extBut _ _ c2 (s4.extBut _ _ c4 (s3.extBut _ _ c2 (s2.extBut _ _ c3 (s1.extBut _ _ c1 e))))
 have i5:zH tp g5 i a (k+1):=i2.keep fun o e=>s5.extBut _ _ D.Oi.symm (s4.extBut _ _ D.ij (s3.extBut _ _ D.Oi.symm e))
 have j5:zH tq g5 j b (k+1):=j4.keep fun o e=>s5.extBut _ _ D.Oj.symm e
 have zl:z<g5.objs.size:=Heap.lt_size z5
 show wpAny _ _ (Builtin.SmallTypes.ownedTupleHandOut (.ref z) (.ref g5.objs.size) >>= _) _ _ _
 refine wpAny_bind ?_;unfold Builtin.SmallTypes.ownedTupleHandOut
 have z6:IsZip (g5.push { cls:=.type "tuple",data:=.seq #[x,y] }) z I O .ellipsis:=Heap.get?_push_of_some _ z5
 refine wpAny_bind (wpAny_setField_rec z6 (by simp) fun g7 z7 s7=>?_)
 replace z7:IsZip g7 z I O (rawInt g5.objs.size):=z7
 refine wpAny_setField_rec z7 (by simp) fun g8 z8 s8=>?_
 replace z8:IsZip g8 z I O (rawInt g5.objs.size):=z8
 have up:∀ c o,c≠z→g5.get? c=some o→g8.get? c=some o:=fun c o c1 e=>s8.extBut _ _ c1 (s7.extBut _ _ c1 (Heap.get?_push_of_some _ e))
 have T8:IsPair g8 g5.objs.size x y:=s8.extBut _ _ (Nat.ne_of_gt zl) (s7.extBut _ _ (Nat.ne_of_gt zl) (Heap.get?_push_size _ rfl))
 have sz8:g8.objs.size=g5.objs.size+1:=by rw[s8.1,s7.1,Heap.size_push]
 rw[sz] at z8 T8 sz8
 refine wpAny_pure ⟨_,rfl,?_⟩
 show Q (.ref g5.objs.size) _
 rw[sz]
 exact hQ g8 z8 (up _ _ D.Oz O5) (i5.keep fun o e=>up _ o D.iz e) (j5.keep fun o e=>up _ o D.jz e) T8 sz8 fun c o c1 c2 c3 c4 e=>up c o c1 (k5 c o c1 c2 c3 c4 e)
end
end _D
end
section
namespace _D
open PySem PySem.Spec PyProof.Rows _L
section
variable {prog:Program}{w:World}{A:Around}{E:Value→Shared→Prop}{s:Shared}
theorem YG {tp tq:Bool}{z I O i j a b:Addr}{k:Nat}{xs ys:Array Value}{p q:Value}{Q:Fin→Shared→Prop}(hh:A.handled=none)(D:ZA z I O i j)(Da:Off z O i j a)(Db:Off z O i j b)
  (hz:IsZip s.heap z I O .none) (hI:IsPair s.heap I (.ref i) (.ref j)) (hO:IsPair s.heap O p q) (h1:zH tp s.heap i a k) (h2:zH tq s.heap j b k) (ha:xU tp s.heap a xs) (hb:xU tq s.heap b ys) (hend:xs[k]? = none∨ys[k]? = none)
  (hE:∀ h' e,ZH z O i j s.heap h'→(∃ o,h'.get? e=some o∧o.cls=.type "StopIteration")→E (.ref e) { s with heap:=h' }) : wpAny (model prog w) A (Builtin.«zip.__next__» ⟨[.ref z],[]⟩) Q E s:=by
 show wpAny _ _ (field (.ref z) 2 >>= _) _ _ _;refine wpAny_bind (wpAny_field hz rfl (x:=.bool false) rfl ?_)
 show wpAny _ _ (field (.ref z) 3 >>= _) _ _ _;refine wpAny_bind (wpAny_field hz rfl (x:=.ref I) rfl (wpAny_bind (wpAny_seqItems hI rfl ?_)))
 show wpAny _ _ (Builtin.SmallTypes.ownedTupleIsFree (.ref z) >>= _) _ _ _;refine wpAny_bind ?_
 unfold Builtin.SmallTypes.ownedTupleIsFree;refine wpAny_bind (wpAny_field hz rfl (x:=.none) rfl (wpAny_pure ?_))
 simp only[if_true];refine wpAny_bind (wpAny_rule (wpAny_bind (wpAny_field hz rfl (x:=.ref O) rfl (wpAny_bind (wpAny_setField_rec hz (by simp) fun g1 z1 s1=>?_)))))
 replace z1:IsZip g1 z I O .ellipsis:=z1
 refine wpAny_bind ?_;simp only[List.zipIdx_cons,List.zipIdx_nil,List.forIn_cons,List.forIn_nil]
 refine wpAny_bind (wpAny_bind (wpAny_onRaise ?_));show wpAny _ _ (Builtin.SmallTypes.nextOf (.ref i) >>= _) _ _ _
 have it1:zH tp g1 i a k:=h1.keep fun o e=>s1.extBut _ _ D.iz e
 have sq1:xU tp g1 a xs:=ha.keep fun o e=>s1.extBut _ _ Da.z e
 cases hx:xs[k]? with
 |none =>
  refine wpAny_bind (jK hh it1 sq1 hx fun g2 e x2 he=>?_)
  obtain⟨oe,h3,h4⟩:=he
  have z2:IsZip g2 z I O .ellipsis:=x2 _ _ D.iz.symm z1
  have ne:e≠z:=fun y=>by subst y;rw[z2] at h3;cases h3;simp at h4
  exact wpAny_setField_rec z2 (by simp) fun g3 _ s3=>hE g3 e (fun c o c1 _ c3 _ y=>s3.extBut _ _ c1 (x2 _ _ c3 (s1.extBut _ _ c1 y))) ⟨oe,s3.extBut _ _ ne h3,h4⟩
 |some x =>
  have hy:ys[k]? = none:=by
   rcases hend with y|y
   ·rw[hx] at y;cases y
   ·exact y
  refine wpAny_bind (gK it1 sq1 hx fun g2 i2 s2=>wpAny_pure ?_)
  have O2:IsPair g2 O p q:=s2.extBut _ _ D.Oi (s1.extBut _ _ D.Oz hO)
  refine wpAny_bind (wpAny_seqItems O2 rfl (wpAny_bind (wpAny_updateSeq_pair O2 fun g3 O3 s3=>wpAny_bind (wpAny_letGo (wpAny_pure ?_)))))
  refine wpAny_bind (wpAny_bind (wpAny_onRaise ?_));show wpAny _ _ (Builtin.SmallTypes.nextOf (.ref j) >>= _) _ _ _
  refine wpAny_bind (jK hh (h2.keep fun o e=>s3.extBut _ _ D.Oj.symm (s2.extBut _ _ D.ij.symm (s1.extBut _ _ D.jz e))) (hb.keep fun o e=>s3.extBut _ _ Db.O (s2.extBut _ _ Db.i (s1.extBut _ _ Db.z e))) hy fun g4 e x4 he=>?_)
  obtain⟨oe,h3,h4⟩:=he
  have z4:IsZip g4 z I O .ellipsis:=x4 _ _ D.jz.symm (s3.extBut _ _ D.Oz.symm (s2.extBut _ _ D.iz.symm z1))
  have ne:e≠z:=fun y=>by subst y;rw[z4] at h3;cases h3;simp at h4
  exact wpAny_setField_rec z4 (by simp) fun g5 _ s5=>hE g5 e (fun c o c1 c2 c3 c4 y=>s5.extBut _ _ c1 (x4 _ _ c4 (s3.extBut _ _ c2 (s2.extBut _ _ c3 (s1.extBut _ _ c1 y))))) ⟨oe,s5.extBut _ _ ne h3,h4⟩
abbrev uG (tp:Bool)(l:Addr):Obj:={ cls:=.type (if tp then "tuple_iterator" else "list_iterator"),data:=.fields #[.ref l,.int 0 0] }
abbrev zh1 (tp:Bool)(h:Heap)(a:Addr):Heap:=h.push (uG tp a)
abbrev zh2 (tp tq:Bool)(h:Heap)(a b:Addr):Heap:=(zh1 tp h a).push (uG tq b)
abbrev zh3 (tp tq:Bool)(h:Heap)(a b:Addr):Heap:=(zh2 tp tq h a b).push { cls:=.type "tuple",data:=.seq #[.ref h.objs.size,.ref (zh1 tp h a).objs.size] }
abbrev zh4 (tp tq:Bool)(h:Heap)(a b:Addr):Heap:=(zh3 tp tq h a b).push { cls:=.type "tuple",data:=.seq #[.none,.none] }
abbrev zh5 (tp tq:Bool)(h:Heap)(a b:Addr):Heap:=(zh4 tp tq h a b).push { cls:=.type "zip",data:=.fields #[.none,.bool false,.bool false,.ref (zh2 tp tq h a b).objs.size,.ref (zh3 tp tq h a b).objs.size] }
set_option maxHeartbeats 4000000 in
theorem KZ (tp:Bool)(a b:Addr)(xs ys:Array Value) :
  Meets (Builtin.«zip.__new__» ⟨[.type "zip",.ref a,.ref b],[]⟩) (fun _ R s=>xU tp s.heap a xs∧xU tp s.heap b ys∧R (.ok (.ret (.ref (zh4 tp tp s.heap a b).objs.size))) { s with heap:=zh5 tp tp s.heap a b }):=
 .of_wp fun prog w A R s h=>by
  obtain⟨hp,g,d,tk,os⟩:=s
  obtain⟨q1,q2,h⟩:=h
  have hsub:=sub_zip
  have e2:∀ ob:Obj,xU tp (hp.push ob) b ys:=fun ob=>q2.keep fun o e=>Heap.get?_push_of_some _ e
  cases tp
  ·have l1:Heap.IsList (Shared.heap ⟨hp,g,d,tk,os⟩) a xs:=q1
   have l2:Heap.IsList (Shared.heap ⟨hp.push { cls:=.type "list_iterator",data:=.fields #[.ref a,.int 0 0] },g,d,tk,os⟩) b ys:=e2 _
   wp_walk using wpAny_pyIter_list l1,wpAny_pyIter_list l2
   exact⟨_,rfl,h⟩
  ·have l1:Heap.IsTuple (Shared.heap ⟨hp,g,d,tk,os⟩) a xs:=q1
   have l2:Heap.IsTuple (Shared.heap ⟨hp.push { cls:=.type "tuple_iterator",data:=.fields #[.ref a,.int 0 0] },g,d,tk,os⟩) b ys:=e2 _
   wp_walk using wpAny_pyIter_tuple l1,wpAny_pyIter_tuple l2
   exact⟨_,rfl,h⟩
theorem gE {tp:Bool}{h:Heap}{it l:Addr}(e:h.get? it=some (uG tp l)):zH tp h it l 0:=by
 cases tp
 ·exact⟨_,e,rfl,rfl⟩
 ·exact⟨_,e,rfl,rfl⟩
theorem ZO {tp:Bool}{a b:Addr}{xs ys:Array Value}{Q:Value→Shared→Prop}(ha:xU tp s.heap a xs)(hb:xU tp s.heap b ys)
  (h:∀ h',IsZip h' (s.heap.objs.size+4) (s.heap.objs.size+2) (s.heap.objs.size+3) .none→IsPair h' (s.heap.objs.size+2) (.ref s.heap.objs.size) (.ref (s.heap.objs.size+1)) →
   IsPair h' (s.heap.objs.size+3) .none .none→zH tp h' s.heap.objs.size a 0→zH tp h' (s.heap.objs.size+1) b 0→h'.objs.size=s.heap.objs.size+5→(∀ c o,s.heap.get? c=some o→h'.get? c=some o)→Q (.ref (s.heap.objs.size+4)) { s with heap:=h' }) :
  wpAny (model prog w) A (call (.type "zip") [.ref a,.ref b]) Q E s:=by
 refine callType_new F.called_zip (by decide) (F.typeCall_zip_2 _ _) (F.newCall_zip_2 _ _) (fun obj=>F.args_object_init_3 obj _ _) F.entry_zip_new (KZ tp a b xs ys) ⟨ha,hb,?_⟩
 have y1:(zh1 tp s.heap a).objs.size=s.heap.objs.size+1:=Heap.size_push ..
 have y2:(zh2 tp tp s.heap a b).objs.size=s.heap.objs.size+2:=by rw[Heap.size_push,y1]
 have y3:(zh3 tp tp s.heap a b).objs.size=s.heap.objs.size+3:=by rw[Heap.size_push,y2]
 have y4:(zh4 tp tp s.heap a b).objs.size=s.heap.objs.size+4:=by rw[Heap.size_push,y3]
 have y5:(zh5 tp tp s.heap a b).objs.size=s.heap.objs.size+5:=by rw[Heap.size_push,y4]
 have g5:(zh5 tp tp s.heap a b).get? (zh4 tp tp s.heap a b).objs.size=some _:=Heap.get?_push_size _ rfl
 have g4:(zh5 tp tp s.heap a b).get? (zh3 tp tp s.heap a b).objs.size=some _:=Heap.get?_push_of_some _ (Heap.get?_push_size _ rfl)
 have g3:(zh5 tp tp s.heap a b).get? (zh2 tp tp s.heap a b).objs.size=some _:=Heap.get?_push_of_some _ (Heap.get?_push_of_some _ (Heap.get?_push_size _ rfl))
 have g2:(zh5 tp tp s.heap a b).get? (zh1 tp s.heap a).objs.size=some (uG tp b):=Heap.get?_push_of_some _ (Heap.get?_push_of_some _ (Heap.get?_push_of_some _ (Heap.get?_push_size _ rfl)))
 have g1:(zh5 tp tp s.heap a b).get? s.heap.objs.size=some (uG tp a):=Heap.get?_push_of_some _ (Heap.get?_push_of_some _ (Heap.get?_push_of_some _ (Heap.get?_push_of_some _ (Heap.get?_push_size _ rfl))))
 have kp:∀ c o,s.heap.get? c=some o→(zh5 tp tp s.heap a b).get? c=some o:=fun c o e=>Heap.get?_push_of_some _ (Heap.get?_push_of_some _ (Heap.get?_push_of_some _ (Heap.get?_push_of_some _ (Heap.get?_push_of_some _ e))))
 show _∧_
 rw[y2,y3,y4] at g5
 rw[y1,y2] at g3
 rw[y3] at g4
 rw[y1] at g2
 rw[y4]
 exact⟨⟨_,g5,rfl⟩,h _ g5 g3 g4 (gE g1) (gE g2) y5 kp⟩
end
end _D
end
section
namespace _D
open PySem PySem.Spec PyProof.Rows _L
def Sq (tp:Bool)(K:PySem.W.Frag)(H:Hp)(a:Addr)(xs:List V):Prop:=if tp then SqT K H a xs else SqL K H a xs
section
variable {X:Cx}{pins:List (Addr × Obj)}{σ : _L.St}{H:Hp}{s:Shared}
theorem Sq.at {tp:Bool}{a:Addr}{xs:List V}(I:Inv X pins σ H s)(q:Sq tp X.K H a xs):∃ its,qN xs its∧xU tp s.heap a its.toArray:=by
 cases tp with
 |true =>
  obtain⟨its,rv,p,_⟩:=I.tuple q
  exact⟨its,rv,p⟩
 |false =>
  obtain⟨its,rv,p,_⟩:=I.list q
  exact⟨its,rv,p.isList⟩
theorem Sq.inj {tp:Bool}{a:Addr}{xs ys:List V}(I:Inv X pins σ H s)(q:Sq tp X.K H a xs)(q':Sq tp X.K H a ys):xs=ys:=by
 cases tp with
 |true=>exact I.tuple_inj q q'
 |false=>exact I.list_inj q q'
theorem Sq.off {tp:Bool}{a b:Addr}{xs:List V}(I:Inv X pins σ H s)(q:Sq tp X.K H a xs)(f:xO X pins H b):a≠b:=by
 have key:H a≠none∨∃ o,X.K.lookup a=some o:=by
  cases tp with
  |true =>
   rcases q with (q|⟨o,q⟩)|⟨o,_,_,q,_⟩
   ·exact .inl (by rw[q];intro z;cases z)
   ·exact .inl (by rw[q];intro z;cases z)
   ·exact .inr ⟨_,q⟩
  |false =>
   rcases q with (q|⟨o,q⟩)|⟨o,_,_,q,_⟩
   ·exact .inl (by rw[q];intro z;cases z)
   ·exact .inl (by rw[q];intro z;cases z)
   ·exact .inr ⟨_,q⟩
 rintro rfl
 rcases key with k|⟨o,k⟩
 ·exact k f.1
 ·have e:=I.mod.kin a o k
  rcases f.2.2.2.1 with z|z
  ·exact I.ok.noex a o e z
  ·exact absurd (Heap.lt_size (I.ok.bs a o e).1) (Nat.not_lt.mpr z)
theorem Inv.turnLay {fp:List Addr}{h':Heap}{T:Addr}{xs:List V}{its:List Value}(I:Inv X pins σ H s)(hf:∀ b∈fp,xO X pins H b)(k:∀ b o,b ∉ fp→s.heap.get? b=some o→h'.get? b=some o)(th:∀ b∈fp,∃ o,h'.get? b=some o)
  (hT:s.heap.objs.size≤T) (rv:qN xs its) (hx:IsTup h' T its.toArray) (hz:xs.length≤sizeLine):Inv X pins σ (upd H T (.tup xs)) { s with heap:=h' }:=by
 have hn:H T=none:=I.hok.fresh hT
 have ne:∀ b o,s.heap.get? b=some o→b≠T:=fun b o e=>Nat.ne_of_lt (Nat.lt_of_lt_of_le (Heap.lt_size e) hT)
 refine I.step (g':=s.gens) (d':=s.drawn) (t':=s.toks) (ch:=fp) (fun b hb=>⟨(hf b hb).2.2.2.1,(hf b hb).2.1,(hf b hb).2.2.2.2.1,(hf b hb).2.2.2.2.2⟩) (fun b o _ _ hc e _=>k b o hc e) (fun b o _ _ hc e _=>⟨o.slots,k b o hc e⟩)
  (fun b o _ e n=>by rw[qS (ne b o e)];exact n) (fun b o hc e=>⟨o,k b o hc e⟩) (fun b ys e=>by rw[qS (zM e hn)];exact e) (fun b o u e=>by rw[qS (zM e hn)];exact e)
  (fun b ps e=>⟨#[],by rw[qS (zM e hn),e];simp⟩) (fun m hm=>?_) (fun b u e=>?_) I.bare
 ·obtain⟨o,es,ep,ho,r⟩:=hm
  exact⟨o,es,ep,k _ o (fun z=>(hf _ z).2.1 rfl) ho,r⟩
 ·by_cases hb:b=T
  ·subst hb
   rw[z0] at e;cases e
   exact⟨hz,its,rv,hx⟩
  ·rw[qS hb] at e
   refine(I.hok b u e).stay (fun c v hc q=>k c v (fun z=>?_) q) (fun c q=>by rw[qS (zM q hn)];exact q) fun c ys q=>by rw[qS (zM q hn)];exact q
   have hcn:=(hf c z).1
   rcases hc with rfl|hc
   ·rw[hcn] at e;cases e
   ·rw[hcn] at hc;cases hc
theorem Inv.turnL {fp:List Addr}{h':Heap}(I:Inv X pins σ H s)(hf:∀ b∈fp,xO X pins H b)(k:∀ b o,b ∉ fp→s.heap.get? b=some o→h'.get? b=some o):Inv X pins σ H { s with heap:=h' }:=by
 refine I.step (g':=s.gens) (d':=s.drawn) (t':=s.toks) (ch:=fp) (fun b hb=>⟨(hf b hb).2.2.2.1,(hf b hb).2.1,(hf b hb).2.2.2.2.1,(hf b hb).2.2.2.2.2⟩) (fun b o _ _ hc e _=>k b o hc e) (fun b o _ _ hc e _=>⟨o.slots,k b o hc e⟩)
  (fun b o _ e n=>n) (fun b o hc e=>⟨o,k b o hc e⟩) (fun b ys e=>e) (fun b o u e=>e) (fun b ps e=>⟨#[],by rw[e];simp⟩) (fun m hm=>?_) (fun b u e=>?_) I.bare
 ·obtain⟨o,es,ep,ho,r⟩:=hm
  exact⟨o,es,ep,k _ o (fun z=>(hf _ z).2.1 rfl) ho,r⟩
 ·refine(I.hok b u e).stay (fun c v hc q=>k c v (fun z=>?_) q) (fun c q=>q) fun c ys q=>q
  have hcn:=(hf c z).1
  rcases hc with rfl|hc
  ·rw[hcn] at e;cases e
  ·rw[hcn] at hc;cases hc
end
def Itz (tp:Bool)(K:PySem.W.Frag)(a b:Addr):It:=
  ⟨fun i H=>∃ xs ys x y,Sq tp K H a xs∧Sq tp K H b ys∧xs[i]? = some x∧ys[i]? = some y,
   fun i H v H'=>∃ T x y,v=.ref T∧H T=none∧H'=upd H T (.tup [x,y])∧(∀ xs,Sq tp K H a xs→xs[i]? = some x)∧∀ ys,Sq tp K H b ys→ys[i]? = some y,
   fun i H=>∃ xs ys,Sq tp K H a xs∧Sq tp K H b ys∧(xs.length≤i∨ys.length≤i)⟩
def aE (tp:Bool)(z I O i j a b:Addr)(k:Nat)(h:Heap):Prop:=∃ p q,IsZip h z I O .none∧IsPair h I (.ref i) (.ref j)∧IsPair h O p q∧zH tp h i a k∧zH tp h j b k
theorem pR {tp:Bool}{z I O i j a b:Addr}{k:Nat}{h:Heap}(st:aE tp z I O i j a b k h):∀ c∈[z,I,O,i,j],∃ o,h.get? c=some o∧∀ v,o.data≠.cell v:=fun c hc=>by
 obtain⟨p,q,s1,s2,s3,s4,s5⟩:=st
 simp only[List.mem_cons,List.not_mem_nil,or_false] at hc
 rcases hc with rfl|rfl|rfl|rfl|rfl
 ·exact⟨_,s1,fun v y=>by cases y⟩
 ·exact⟨_,s2,fun v y=>by cases y⟩
 ·exact⟨_,s3,fun v y=>by cases y⟩
 ·exact s4.there
 ·exact s5.there
theorem YY {c z I O i j:Addr}(h:c ∉ [z,I,O,i,j]):c≠z∧c≠O∧c≠i∧c≠j:=by
 simp only[List.mem_cons,List.not_mem_nil,or_false,not_or] at h
 exact⟨h.1,h.2.2.1,h.2.2.2.1,h.2.2.2.2⟩
theorem Y7 {P:Program}{w:World}{K:PySem.W.Frag}{elts:List Expr}{x1:Nat}{tpos:Pos}{tp:Bool}{z I O i j a b:Addr}(D:ZA z I O i j):Turn P w K (.Tuple elts x1 tpos) (Itz tp K a b) [z,I,O,i,j] z (aE tp z I O i j a b) where
 mem:=.head _
 obj:=fun k h st=>pR st
 keep:=fun k h h' st kp=>by
  obtain⟨p,q,s1,s2,s3,s4,s5⟩:=st
  exact⟨p,q,kp z (.head _) _ s1,kp I (.tail _ (.head _)) _ s2,kp O (.tail _ (.tail _ (.head _))) _ s3,s4.keep fun o e=>kp i (.tail _ (.tail _ (.tail _ (.head _)))) o e,s5.keep fun o e=>kp j (.tail _ (.tail _ (.tail _ (.tail _ (.head _))))) o e⟩
 item:=by
  intro X hP hw hK hc k pins s σ H E Iv hf st hg
  subst hP hw hK
  obtain⟨p,q,s1,s2,s3,s4,s5⟩:=st
  obtain⟨xs,ys,x,y,qa,qb,hx,hy⟩:=hg
  obtain⟨ia,ra,ha⟩:=qa.at Iv
  obtain⟨ib,rb,hb⟩:=qb.at Iv
  obtain⟨u,hu,ru⟩:=ra.get hx
  obtain⟨u',hu',ru'⟩:=rb.get hy
  have off:∀ {c:Addr} {zs:List V},Sq tp X.K H c zs→Off z O i j c:=fun {c zs} qc=>⟨qc.off Iv (hf z (.head _)),qc.off Iv (hf O (.tail _ (.tail _ (.head _)))),qc.off Iv (hf i (.tail _ (.tail _ (.tail _ (.head _))))),qc.off Iv (hf j (.tail _ (.tail _ (.tail _ (.tail _ (.head _))))))⟩
  have hT:s.TypeIs (.ref z) "zip":=⟨_,s1,rfl⟩
  unfold pyNext
  refine wpAny_bind (wpAny_attempt (wpAny_callSpecial?_slot (name:=Str.ofString "__next__") hT F.slot_zip_next (wpAny_call_entry F.slot_zip_next hT F.entry_zip_next
   (YF D (off qa) (off qb) s1 s2 s3 s4 s5 ha hb (by simpa using hu) (by simpa using hu') fun h' a1 a2 a3 a4 a5 a6 a7=>wpAny_pure ?_) (F.args_zip_next_1 _))))
  refine⟨_,rfl,wpAny_letOwnedTupleGo_zip (s:={ s with heap:=h' }) a1 fun h2 b1 b2=>?_⟩
  have up:∀ c o,c≠z→h'.get? c=some o→h2.get? c=some o:=fun c o n e=>(b2.2 c n).trans e
  have zl:z<s.heap.objs.size:=Heap.lt_size s1
  have T2:IsPair h2 s.heap.objs.size u u':=up _ _ (Nat.ne_of_gt zl) a5
  have st2:aE tp z I O i j a b (k+1) h2:=⟨u,u',b1,up _ _ D.Iz (a7 I _ D.Iz D.IO D.Ii D.Ij s2),up _ _ D.Oz a2,a3.keep fun o e=>up _ o D.iz e,a4.keep fun o e=>up _ o D.jz e⟩
  refine⟨.ref s.heap.objs.size,upd H s.heap.objs.size (.tup [x,y]),?_,rfl,⟨_,x,y,rfl,Iv.hok.fresh (Nat.le_refl _),rfl,fun zs qz=>by rw[qz.inj Iv qa];exact hx,fun zs qz=>by rw[qz.inj Iv qb];exact hy⟩,st2,fun c hc=>?_⟩
  ·show _L.Inv X pins σ (upd H s.heap.objs.size (.tup [x,y])) { s with heap:=h2 }
   refine Inv.turnLay (fp:=[z,I,O,i,j]) (its:=[u,u']) Iv hf (fun c o hc e=>?_) (fun c hc=>?_) (Nat.le_refl _) (.cons ru (.cons ru' .nil)) ⟨_,T2,rfl,_,rfl⟩ (by show 2≤sizeLine;decide)
   ·have hc:=YY hc
    exact up c o hc.1 (a7 c o hc.1 hc.2.1 hc.2.2.1 hc.2.2.2 e)
   ·obtain⟨o,e,_⟩:=pR st2 c hc
    exact⟨o,e⟩
  ·have hn:=(hf c hc).1
   rw[qS ?_]
   ·exact hn
   ·rintro rfl
    obtain⟨o,e,_⟩:=pR ⟨p,q,s1,s2,s3,s4,s5⟩ _ hc
    exact absurd (Heap.lt_size e) (Nat.lt_irrefl _)
 done:=by
  intro X hP hw hK hc k pins s σ H E Iv hf st hg
  subst hP hw hK
  obtain⟨p,q,s1,s2,s3,s4,s5⟩:=st
  obtain⟨xs,ys,qa,qb,hend⟩:=hg
  obtain⟨ia,ra,ha⟩:=qa.at Iv
  obtain⟨ib,rb,hb⟩:=qb.at Iv
  have off:∀ {c:Addr} {zs:List V},Sq tp X.K H c zs→Off z O i j c:=fun {c zs} qc=>⟨qc.off Iv (hf z (.head _)),qc.off Iv (hf O (.tail _ (.tail _ (.head _)))),qc.off Iv (hf i (.tail _ (.tail _ (.tail _ (.head _))))),qc.off Iv (hf j (.tail _ (.tail _ (.tail _ (.tail _ (.head _))))))⟩
  have hT:s.TypeIs (.ref z) "zip":=⟨_,s1,rfl⟩
  have l1:=ra.length
  have l2:=rb.length
  unfold pyNext
  refine wpAny_bind (wpAny_attempt (wpAny_callSpecial?_slot (name:=Str.ofString "__next__") hT F.slot_zip_next (wpAny_call_entry F.slot_zip_next hT F.entry_zip_next
   (YG (Iv.ok.hd hc) D (off qa) (off qb) s1 s2 s3 s4 s5 ha hb ?_ fun h' e kp he=>?_) (F.args_zip_next_1 _))))
  ·rcases hend with y|y
   ·exact .inl (by simp;omega)
   ·exact .inr (by simp;omega)
  ·obtain⟨o,ho,hcl⟩:=he
   refine wpAny_bind (wpAny_isInstance (T:="StopIteration") (b:=true) ⟨o,ho,hcl⟩ isSubtype_stop (wpAny_pure ⟨rfl,Inv.turnL (fp:=[z,I,O,i,j]) Iv hf fun c o hc e=>?_⟩))
   have hc:=YY hc
   exact kp c o hc.1 hc.2.1 hc.2.2.1 hc.2.2.2 e
 self:=fun _ _ _ _ _ st h=>by
  obtain⟨p,q,s1,_⟩:=st
  exact wpAny_pyIter_zip s1 h
end _D
end
section
namespace _D
open PySem PySem.Spec PyProof.Rows _L
def u8 (xs ys:List D):List D:=List.zipWith (fun x y=>D.tup [x,y]) xs ys
def TD (ds:List D):Option (List D):=match ds with
 |[.tup xs,.tup ys]=>some (u8 xs ys)
 |[.lst xs,.lst ys]=>some (u8 xs ys)
 |_=>none
def dZ (f:DA):DI:=fun env S=>(f env S).bind fun ds S1=>vP (TD ds) S1
theorem YE {xs ys:List D}{i:Nat}:(u8 xs ys)[i]? = match xs[i]?,ys[i]? with|some x,some y=>some (D.tup [x,y])|_,_=>none:=by
 unfold u8
 rw[List.getElem?_zipWith]
 cases xs[i]? <;> cases ys[i]? <;> rfl
theorem fU (xs ys:List D):(u8 xs ys).length=min xs.length ys.length:=by simp[u8]
section
variable {K:PySem.W.Frag}
theorem Sq.mono {tp:Bool}{P P':Hp}(e:qG P P'){a:Addr}{xs:List V}(q:Sq tp K P a xs):Sq tp K P' a xs:=by
 cases tp with
 |true=>exact u4 e q
 |false=>exact e.seq q
theorem UN {tp:Bool}{P:Hp}{α : List Addr}{a b:Addr}{xs ys:List D}{vs ws:List V}(qa:Sq tp K P a vs)(qb:Sq tp K P b ws)(ta:qE K P α xs vs)(tb:qE K P α ys ws):ItD K (Itz tp K a b) P α (u8 xs ys) where
 go:=fun i H P1 α1 S hi r e _=>by
  rw[fU] at hi
  have h1:i<vs.length:=by rw[← ta.length];omega
  have h2:i<ws.length:=by rw[← tb.length];omega
  exact⟨vs,ws,vs[i],ws[i],qa.mono (e.trans r.sub),qb.mono (e.trans r.sub),by simp,by simp⟩
 yld:=fun i H x H' P1 α1 S hi r e e2 y=>by
  obtain⟨T,u,w,rfl,hT,rfl,hu,hw⟩:=y
  rw[fU] at hi
  have h1:i<xs.length:=by omega
  have h2:i<ys.length:=by omega
  obtain⟨v1,z1,p1⟩:=ta.get (List.getElem?_eq_getElem h1)
  obtain⟨v2,z2,p2⟩:=tb.get (List.getElem?_eq_getElem h2)
  have eu:=hu vs (qa.mono (e.trans r.sub))
  have ew:=hw ws (qb.mono (e.trans r.sub))
  rw[z1] at eu;cases eu
  rw[z2] at ew;cases ew
  obtain⟨r1,s1⟩:=r.pure (o:=.tup [u,w]) hT
  refine⟨_,.tup [xs[i],ys[i]],?_,r1,s1,?_⟩
  ·rw[YE,List.getElem?_eq_getElem h1,List.getElem?_eq_getElem h2]
  ·exact bG (.of z0) (.cons (Rep.mono (e.trans s1) e2 _ _ p1) (.cons (Rep.mono (e.trans s1) e2 _ _ p2) .nil))
 stop:=fun i H P1 α1 S hi r e _=>by
  rw[fU] at hi
  have l1:=ta.length
  have l2:=tb.length
  exact⟨vs,ws,qa.mono (e.trans r.sub),qb.mono (e.trans r.sub),by omega⟩
end
section
variable {X:Cx}{e1 e2:Expr}{elts:List Expr}{x1:Nat}{tpos:Pos}{f:DA}{p pos:Pos}
theorem ZE {tp:Bool}{pins:List (Addr × Obj)}{σ : _L.St}{H P:Hp}{α : List Addr}{S:Sto}{s:Shared}{a b:Addr}{xs ys:List D}{vs ws:List V}{R:It→Hp→Prop}(I:Inv X pins σ H s)(r:Rel X.K H P α S)(qa:Sq tp X.K P a vs)(qb:Sq tp X.K P b ws)(ta:qE X.K P α xs vs)(tb:qE X.K P α ys ws)
  (q:OkI X P α R (u8 xs ys) S):wpAny (model X.prog X.w) X.A (call (.type "zip") [.ref a,.ref b]) (fun v s1=>wpAny (model X.prog X.w) X.A (pyIter v) (PIE X pins σ (.Tuple elts x1 tpos) R) X.xe s1) X.xe s:=by
 obtain⟨ia,ra,ha⟩:=(qa.mono r.sub).at I
 obtain⟨ib,rb,hb⟩:=(qb.mono r.sub).at I
 refine ZO ha hb fun h' z1 z2 z3 z4 z5 z6 z7=>?_
 refine wpAny_pyIter_zip (s:={ s with heap:=h' }) z1 ?_
 have D:ZA (s.heap.objs.size+4) (s.heap.objs.size+2) (s.heap.objs.size+3) s.heap.objs.size (s.heap.objs.size+1):=by constructor <;> (intro z;simp at z)
 refine⟨_,[s.heap.objs.size+4,s.heap.objs.size+2,s.heap.objs.size+3,s.heap.objs.size,s.heap.objs.size+1],_,_,H,rfl,I.kept (t':=s.toks) z7,Y7 (a:=a) (b:=b) D,⟨_,_,z1,z2,z3,z4,z5⟩,fun c hc=>?_,q _ _ P α r (qG.refl _) (List.prefix_refl _) (UN qa qb ta tb)⟩
 have hl:s.heap.objs.size≤c:=by
  simp only[List.mem_cons,List.not_mem_nil,or_false] at hc
  rcases hc with rfl|rfl|rfl|rfl|rfl <;> simp
 exact I.fpOk hl (I.hok.fresh hl)
inductive ZipV (ds:List D)(its:List D):Prop
 |tup (xs ys:List D) (ed:ds=[.tup xs,.tup ys]) (e:its=u8 xs ys)
 |lst (xs ys:List D) (ed:ds=[.lst xs,.lst ys]) (e:its=u8 xs ys)
theorem KY {ds its:List D}(h:TD ds=some its):ZipV ds its:=by
 cases ds with
 |nil=>exact nn h
 |cons a ds =>
  cases a with
  |tup xs =>
   cases ds with
   |nil=>exact nn h
   |cons b ds =>
    cases b with
    |tup ys =>
     cases ds with
     |nil=>exact .tup xs ys rfl (Option.some.inj h).symm
     |cons _ _=>exact nn h
    |_=>exact nn h
  |lst xs =>
   cases ds with
   |nil=>exact nn h
   |cons b ds =>
    cases b with
    |lst ys =>
     cases ds with
     |nil=>exact .lst xs ys rfl (Option.some.inj h).symm
     |cons _ _=>exact nn h
    |_=>exact nn h
  |_=>exact nn h
theorem PJ (hg:Gl X "zip")(hm:X.mg "zip" = none)(ha:PA X [e1,e2] (tDA X f))(hs:starEach [e1,e2] X.env=(false,eval e1 X.env)::starEach [e2] X.env:=by rfl)(hpl:(backTo pos (starEach [e2] X.env)).any (·.1)=false:=by rfl) :
  PI X (.Tuple elts x1 tpos) (.Call (.Name "zip" p) [e1,e2] [] pos) (tDI X (dZ f)):=by
 intro pins s σ H R I h
 obtain⟨P,α,env,S,r,re,af⟩:=h
 refine Call_ (uI I hg hm boot_zip (PyProof.Rows.callWith_type1 (thn (yZ ha I r re af pos) fun us s1 ⟨vs,H1,P1,α1,ds,S1,I1,rv,r1,re1,rp,e1,e2,af1⟩=>?_) hs hpl))
 obtain⟨its,hi,q⟩:=vZ af1
 cases KY hi with
 |tup xs ys ed e =>
  subst ed e
  obtain⟨v,w,u,x,rfl,rfl,p1,p2,q1,q2⟩:=dG rp rv
  simp only[Rep] at p1 p2
  obtain⟨a,va,rfl,qa,ta⟩:=p1
  obtain⟨b,vb,rfl,qb,tb⟩:=p2
  cases (show u=Value.ref a from q1)
  cases (show x=Value.ref b from q2)
  exact ZE (tp:=true) I1 r1 qa qb ta tb (q.base e1 e2)
 |lst xs ys ed e =>
  subst ed e
  obtain⟨v,w,u,x,rfl,rfl,p1,p2,q1,q2⟩:=dG rp rv
  simp only[Rep] at p1 p2
  obtain⟨a,va,rfl,qa,ta⟩:=p1
  obtain⟨b,vb,rfl,qb,tb⟩:=p2
  cases (show u=Value.ref a from q1)
  cases (show x=Value.ref b from q2)
  exact ZE (tp:=false) I1 r1 qa.l qb.l ta tb (q.base e1 e2)
end
end _D
end
section
namespace _D
open PySem PySem.Spec PyProof.Rows _L
def Src (K:PySem.W.Frag)(mg:Str→Option Value)(x:Str)(st:Stmt)(ps:List Str):Prop:=∃ f fd,mg x=some (.ref f)∧Fun K x x st f fd∧uW K fd ps []
def Lk (K:PySem.W.Frag)(f:Addr)(fd:FuncData):Prop:=∃ oc od osl,K.lookup f=some ⟨oc,od,.func fd,osl⟩
theorem i9 {K:PySem.W.Frag}{x q:Str}{st:Stmt}{f:Addr}{fd:FuncData}(F:Fun K x q st f fd):Lk K f fd:=by
 obtain⟨oc,od,kV,doc,pm,an,cdv,ct,osl,_,lk,_⟩:=F.ex
 exact⟨oc,od,osl,lk⟩
theorem Lk.one {K:PySem.W.Frag}{f:Addr}{fd fd':FuncData}(h:Lk K f fd)(h':Lk K f fd'):fd=fd':=by
 obtain⟨oc,od,osl,e⟩:=h
 obtain⟨oc',od',osl',e'⟩:=h'
 rw[e] at e'
 cases e'
 rfl
def Def (P:Program)(w:World)(K:PySem.W.Frag)(mg:Str→Option Value)(base:Heap)(cm:Bool)(k:Nat)(x:Str)(n:Nat)(F:DF):Prop:=
 ∃ f fd ps,ps.length=n∧mg x=some (.ref f)∧PySem.W.keepIn K (.ref f)=true∧uW K fd ps [] ∧ Lk K f fd∧FnX P w K mg base cm k f fd ps (spD K n F)
def dJ (P:Program)(w:World)(K:PySem.W.Frag)(mg:Str→Option Value)(base:Heap)(cm:Bool)(k:Nat)(x:Str)(ps:List Str)(F:DF):Prop:=
 ∃ f fd,mg x=some (.ref f)∧PySem.W.keepIn K (.ref f)=true∧uW K fd ps [] ∧ Lk K f fd∧FnX P w K mg base cm k f fd ps (spD K ps.length F)
section
variable {P:Program}{w:World}{K:PySem.W.Frag}{mg:Str→Option Value}{base:Heap}{cm:Bool}
theorem PC {x:Str}{st:Stmt}{N ps:List Str}{k:Nat}{g:DS}(h:Src K mg x st ps)(S:FnScope N ps (qI st))
  (hbody:∀ (f:Addr) (cdv:Value) (A:Around) (outer:List Env) (s:Shared) (H:Hp) (E:XK),RoomC cm k (A.deeper (envOfC x (qI st) s.heap.objs.size f cdv)) →
   PSs (cxC cm P w K mg base N x (qI st) f cdv A outer s H E) (zT st) (tDS (cxC cm P w K mg base N x (qI st) f cdv A outer s H E) g)):Def P w K mg base cm (k+1) x ps.length (qV N.length g):=by
 obtain⟨f,fd,hm,F,hb⟩:=h
 exact⟨f,fd,ps,rfl,hm,F.kp,hb,i9 F,fnX F S fun cdv A outer s H E hr=>hbody f cdv A outer s H E hr⟩
theorem VR {x:Str}{st:Stmt}{N ps:List Str}{k:Nat}{g:DS}(h:Src K mg x st ps)(S:FnScope N ps (qI st))
  (hbody:∀ (f:Addr) (cdv:Value) (A:Around) (outer:List Env) (s:Shared) (H:Hp) (E:XK),RoomC cm k (A.deeper (envOfC x (qI st) s.heap.objs.size f cdv)) →
   PSs (cxC cm P w K mg base N x (qI st) f cdv A outer s H E) (zT st) (tDS (cxC cm P w K mg base N x (qI st) f cdv A outer s H E) g)):dJ P w K mg base cm (k+1) x ps (qV N.length g):=by
 obtain⟨f,fd,hm,F,hb⟩:=h
 exact⟨f,fd,hm,F.kp,hb,i9 F,fnX F S fun cdv A outer s H E hr=>hbody f cdv A outer s H E hr⟩
theorem Def.any {x:Str}{k n:Nat}{F:DF}(h:Def P w K mg base false k x n F):Def P w K mg base cm k x n F:=by
 obtain⟨f,fd,ps,hn,hm,kp,hb,hl,X⟩:=h
 exact⟨f,fd,ps,hn,hm,kp,hb,hl,X.any⟩
end
section
variable {X:Cx}{cm:Bool}{k n:Nat}{F:DF}{x:Str}{p pos:Pos}{e:Expr}{es:List Expr}{fa:DA}
theorem dcN (G:Def X.prog X.w X.K X.mg X.base cm k x n F)(hr:RoomC cm k X.A)(hF:Fn1 X)(hg:Gl X x)(ha:PA X (e::es) (tDA X fa))(hdb:(x == ("__debug__" : Str))=false:=by decide)(he:starEach (e::es) X.env=(false,eval e X.env)::starEach es X.env:=by rfl)(hpl:(backTo pos (starEach es X.env)).any (·.1)=false:=by rfl) :
  PE X (.Call (.Name x p) (e::es) [] pos) (tD X (qD n F fa)):=by
 obtain⟨f,fd,ps,hn,hm,kp,hb,hl,G⟩:=G
 exact VO G hr hF hg hm kp hb ha hdb he hpl
end
def zR:DF:=fun ds S=>match ds with
 |[.dct0]=>.bad
 |_=>sE ds S
theorem VF {X:Cx}:y7 X (.builtin "len") zR:=GN trivial
theorem YJ:∃ C:Int→Int→Bool,C=dQ:=⟨_,rfl⟩
noncomputable def YI:Int→Int→Bool:=Classical.choose YJ
theorem dR:YI=dQ:=Classical.choose_spec YJ
noncomputable def xH:G2:=i2 YI fun i j=>.int (i*j)
theorem JA {X:Cx}:OpD X (binaryOp .Mult) xH:=by
 unfold xH
 rw[dR]
 exact J9
theorem hu1 {cm:Bool}{k:Nat}{A:Around}(hr:RoomC cm k A):A.units+1<cLine:=by have:=hr.units;omega
end _D
end
section
namespace _D
open PySem PySem.Spec PyProof.Rows _L
def okO (F:DF):DF:=fun ds S=>match F ds S with
 |.ok d S'=>.ok d S'
 |_=>.bad
theorem r9 {F:DF}{ds:List D}{S S':Sto}{d:D}(h:F ds S=.ok d S'):okO F ds S=.ok d S':=by unfold okO;rw[h]
section
variable {X:Cx}{cm:Bool}{k n:Nat}{F:DF}{x:Str}{p pos:Pos}{e:Expr}{es:List Expr}{fa:DA}{f:Addr}{fd:FuncData}{ps:List Str}
theorem K5 {pins:List (Addr × Obj)}{σ : _L.St}{H:Hp}{s:Shared}{Q:VK}{us:List Value}{vs:List V}{P:Hp}{α : List Addr}{ds:List D}{S:Sto}(G:FnX X.prog X.w X.K X.mg X.base cm k f fd ps (spD X.K n F))(hr:RoomC cm k X.A)(hb:uW X.K fd ps [])
  (I:Inv X pins σ H s) (r:Rel X.K H P α S) (rv:qN vs us) (rp:qE X.K P α ds vs) (hn:ds.length=n) (af:zC X P α (okO F ds S) Q):wpAny (model X.prog X.w) X.A (call (.ref f) us) (EP X pins σ Q) X.xe s:=by
 have hvn:vs.length=n:=by rw[← rp.length];exact hn
 have hsp:spD X.K n F vs H Q fun _ _ _=>False:=by
  refine⟨hvn,P,α,ds,S,r,rp,?_⟩
  unfold okO at af
  cases q:F ds S with
  |ok d S'=>rw[q] at af;exact af
  |ex c x S'=>rw[q] at af;exact False.elim af
  |bad=>rw[q] at af;exact af
 have hl:us.length=ps.length:=by rw[← rv.length];exact G.len _ _ _ _ hsp
 have hb':=hb s us I.kIn (by rw[List.append_nil];exact hl)
 rw[List.append_nil] at hb'
 refine wpAny_call (codeAny_mono (G.run X.A X.stack s H ⟨us,[]⟩ us vs Q _ hr I.env0 hb' rv hsp) fun r s' hq=>?_)
 cases r with
 |error u =>
  obtain⟨_,_,_,_,_,_,_,_,_,_,_,_,z⟩:=hq
  exact False.elim z
 |ok fl =>
  cases fl with
  |ret u=>exact I.after hq
  |next=>exact False.elim hq
  |brk=>exact False.elim hq
  |cont=>exact False.elim hq
theorem dcO (G:Def X.prog X.w X.K X.mg X.base cm k x n F)(hr:RoomC cm k X.A)(hg:Gl X x)(ha:PA X (e::es) (tDA X fa))(hdb:(x == ("__debug__" : Str))=false:=by decide)(he:starEach (e::es) X.env=(false,eval e X.env)::starEach es X.env:=by rfl)(hpl:(backTo pos (starEach es X.env)).any (·.1)=false:=by rfl) :
  PE X (.Call (.Name x p) (e::es) [] pos) (tD X (qD n (okO F) fa)):=by
 obtain⟨f,fd,ps,hn0,hm,hk,hb,hl,G⟩:=G
 intro pins s σ H Q I h
 obtain⟨P,α,env,S,r,re,af⟩:=h
 refine wpAny_Call_Name_kw (b8 I hg hm ?_ hdb)
 refine PySem.W.callWith_K (h₀:=X.base) I.ok.mod.kin hk (thn (yZ ha I r re af pos) fun us s1 ⟨vs,H1,P1,α1,ds,S1,I1,rv,r1,re1,rp,e1,e2,af1⟩=>⟨I1.kIn,?_⟩) he hpl
 obtain⟨hn,af2⟩:=l8 (env:=env) (S:=S) af1
 exact K5 G hr hb I1 r1 rv rp hn (zC.base e1 e2 af2)
end
end _D
end
section
namespace _D
open PySem PySem.Spec PyProof.Rows _L
structure QE (X:Cx)(e:Expr)(f:DE):Prop where
 get:PE X e (tD X f)
structure QT (X:Cx)(e:Expr)(t:DT):Prop where
 get:PT X e (tDT X t)
structure QW (X:Cx)(e:Expr)(t:DT):Prop where
 get:PWD X e t
structure QA (X:Cx)(es:List Expr)(f:DA):Prop where
 get:PA X es (tDA X f)
structure QO (X:Cx)(e:Option Expr)(f:DO):Prop where
 get:PO X e (tDO X f)
structure QG (X:Cx)(t:Expr)(g:DG):Prop where
 get:PG X t (tDG X g)
structure QGs (X:Cx)(ts:List Expr)(g:DGs):Prop where
 get:PGs X ts (rR X g)
structure QI (X:Cx)(tg it:Expr)(f:DI):Prop where
 get:PI X tg it (tDI X f)
structure QS (X:Cx)(s:Stmt)(f:DS):Prop where
 get:PS X s (tDS X f)
structure QB (X:Cx)(ss:List Stmt)(f:DS):Prop where
 get:PSs X ss (tDS X f)
structure ZOp (X:Cx)(f:Value→Value→Sem Value)(g:G2):Prop where
 get:OpD X f g
structure ZUn (X:Cx)(f:Value→Sem Value)(g:D→Sto→Res D):Prop where
 get:UnD X f g
structure ZIx (X:Cx)(g:G2):Prop where
 get:IxD X g
structure ZCall (X:Cx)(f:Value)(F:DF):Prop where
 get:y7 X f F
structure ZMt (X:Cx)(id:String)(g:D→List D→Sto→Res D):Prop where
 get:MtD X id g
structure ZSet (X:Cx)(g:G3):Prop where
 get:dL X (dI X g)
structure ZPass (X:Cx):Prop where
 get:PassesOwn (model X.prog X.w) X.A X.env X.xe
section
variable {X:Cx}{a b c e e1 e2 o i:Expr}{es rest:List Expr}{fa fb fc fe fo fi:DE}{ta tb:DT}{fA:DA}{f g:DS}{st:Stmt}{sts:List Stmt}{x:Str}{p pos:Pos}{n k:Nat}{cm:Bool}{F:DF}{G2':G2}
theorem L5 {v j}:QE X (.Constant (.bool v) j pos) (dC (.bl v)):=⟨TV⟩
theorem FY {v j}:QE X (.Constant (.int v) j pos) (dC (.int v)):=⟨GY⟩
theorem M4 {v j}:QE X (.Constant (.str v) j pos) (dC (.str v)):=⟨P9⟩
theorem M6 (m:Nat)(hN:X.N[m]? = some x)(hv:Vis X.env.scope x)(hd:(x == ("__debug__" : Str))=false)(hcd:(x == ("__classdict__" : Str))=false):QE X (.Name x pos) (qA m):=⟨dv m hN hv hd hcd⟩
theorem JQ {nm:String}(hg:Gl X x)(hm:X.mg x=none)(hv:bootBuiltins x=some (.type nm))(hn:x ≠ "__name__")(hd:(x == ("__debug__" : Str))=false):QE X (.Name x pos) (dC (.ty nm)):=⟨VN hg hm hv hn hd⟩
theorem JR {v:Int}(hg:Gl X x)(hm:∃ t,X.mg x=some (.int v t))(hd:(x == ("__debug__" : Str))=false):QE X (.Name x pos) (dC (.int v)):=⟨let ⟨_,h⟩:=hm;VP (v:=.int v) hg h ⟨_,rfl⟩ (fun _ _=>by simp only[Rep]) hd⟩
theorem L9 {op:UnaryOp}{h:D→Sto→Res D}(ho:ZUn X (unaryOp op) h)(ha:QE X a fa):QE X (.UnaryOp op a pos) (d1 h fa):=⟨N0 ho.1 ha.1⟩
theorem M0 (ha:QE X a fa):QE X (.UnaryOp .Not a pos) (ZY fa):=⟨P7 ha.1⟩
theorem L7 {op:Operator}(ho:ZOp X (binaryOp op) G2')(ha:QE X a fa)(hb:QE X b fb):QE X (.BinOp a op b pos) (d2 G2' fa fb):=⟨TY ho.1 ha.1 hb.1⟩
theorem FW {op:CmpOp}(ho:ZOp X (compareOp op) G2')(ha:QE X a fa)(hb:QE X b fb)(hm:behindInMarks op b=false:=by first|exact pL _|with_unfolding_all rfl):QE X (.Compare a [op] [b] pos) (d2 G2' fa fb):=⟨GW ho.1 ha.1 hb.1 hm⟩
theorem WI {op op':CmpOp}{g':G2}(ho:ZOp X (compareOp op) G2')(ho':ZOp X (compareOp op') g')(ha:QE X a fa)(hb:QE X b fb)(hc:QE X c fc)(hm:lastMarks [op,op'] [b,c]=false:=by with_unfolding_all rfl):QE X (.Compare a [op,op'] [b,c] pos) (wQ G2' g' fa fb fc):=⟨X1 ho.1 ho'.1 ha.1 hb.1 hc.1 hm⟩
theorem M3 {op} (h:QE X a fa):QE X (.BoolOp op [a] pos) fa:=⟨P8 h.1⟩
theorem FV (ha:QE X a fa)(hb:QE X (.BoolOp .And (b::rest) pos) fb):QE X (.BoolOp .And (a::b::rest) pos) (fB fa fb):=⟨GV ha.1 hb.1⟩
theorem L8 (ha:QE X a fa)(hb:QE X (.BoolOp .Or (b::rest) pos) fb):QE X (.BoolOp .Or (a::b::rest) pos) (dOr fa fb):=⟨TZ ha.1 hb.1⟩
theorem M5 {x1} (h:QA X es fA):QE X (.Tuple es x1 pos) (zP fA):=⟨PB h.1⟩
theorem FZ (h:QA X es fA):QE X (.List es pos) (uP fA):=⟨GZ h.1⟩
theorem JS (h:QA X es fA):QE X (.List es pos) (dD fA):=⟨VQ h.1⟩
theorem FX:QE X (.Dict [] [] pos) ZX:=⟨GX⟩
theorem L6 (ho:ZIx X G2')(ha:QE X a fa)(hb:QE X b fb)(hs:tE b:=by intro _ _;rfl):QE X (.Subscript a b pos) (d2 G2' fa fb):=⟨TX ho.1 ha.1 hb.1 hs⟩
theorem WK {lo hi:Option Expr}{fl fh:DO}{p2:Pos}(he:QE X e fe)(hl:QO X lo fl)(hu:QO X hi fh):QE X (.Subscript e (.Slice lo hi none p2) pos) (dSl fe fl fh):=⟨X3 he.1 hl.1 hu.1⟩
theorem JX:QO X none xZ:=⟨VW⟩
theorem JY (he:QE X e fe):QO X (some e) (zV fe):=⟨VX he.1⟩
theorem FT:QA X [] qB:=⟨GT⟩
theorem JP (ha:QE X e fa)(hr:QA X es fA)(hs:starEach (e::es) X.env=(false,eval e X.env)::starEach es X.env:=by rfl):QA X (e::es) (q9 fa fA):=⟨VM ha.1 hr.1 hs⟩
theorem qcN (G:Def X.prog X.w X.K X.mg X.base cm k x n F)(hr:RoomC cm k X.A)(hF:Fn1 X)(hg:Gl X x)(ha:QA X (e::es) fA)(hdb:(x == ("__debug__" : Str))=false)(he:starEach (e::es) X.env=(false,eval e X.env)::starEach es X.env:=by rfl)(hpl:(backTo pos (starEach es X.env)).any (·.1)=false:=by rfl):QE X (.Call (.Name x p) (e::es) [] pos) (qD n F fA):=⟨dcN G hr hF hg ha.1 hdb he hpl⟩
theorem WH {id:String}(hc:ZCall X (.builtin id) F)(hg:Gl X x)(hm:X.mg x=none)(hv:bootBuiltins x=some (.builtin id))(ha:QA X (e::es) fA)(hn:x ≠ "__name__")(hdb:(x == ("__debug__" : Str))=false)(he:starEach (e::es) X.env=(false,eval e X.env)::starEach es X.env:=by rfl)(hpl:(backTo pos (starEach es X.env)).any (·.1)=false:=by rfl):QE X (.Call (.Name x p) (e::es) [] pos) (qH F fA):=⟨X0 hc.1 hg hm hv ha.1 hn hdb he hpl⟩
theorem QQ {T:String}(hc:ZCall X (.type T) F)(hg:Gl X x)(hm:X.mg x=none)(hv:bootBuiltins x=some (.type T))(ha:QA X (e::es) fA)(hn:x ≠ "__name__")(hdb:(x == ("__debug__" : Str))=false)(he:starEach (e::es) X.env=(false,eval e X.env)::starEach es X.env:=by rfl)(hpl:(backTo pos (starEach es X.env)).any (·.1)=false:=by rfl):QE X (.Call (.Name x p) (e::es) [] pos) (qH F fA):=⟨oE hc.1 hg hm hv ha.1 hn hdb he hpl⟩
theorem V4 {T id:String}{name:Str}{apos:Pos}{h:D→List D→Sto→Res D}(pa:PlainAttrs T)(slot:Slot T name id)(hty:typeOf (.builtin id)=pure (.type "method_descriptor"))(hT:T = "list" ∨ T = "dict" ∨ T = "int" ∨ T = "str")(hm:ZMt X id h)(ho:QE X o fo)(ha:QA X (e::es) fA)
  (hbase:attributeBase o name X.env (eval o X.env)=eval o X.env:=by rfl)
  (hfew:((backTo pos (starEach (e::es) X.env)).all (fun x=>!x.1)&&(backToKw pos (keywordEach [] X.env)).all (fun x=>x.1.isSome)&&decide ((e::es).length+([]:List Keyword).length+(if ([] : List Keyword).isEmpty then 0 else 1)<30))=true:=by rfl)
  (hline:(apos.endLine == pos.line)=true:=by rfl) (hs:starEach (e::es) X.env=(false,eval e X.env)::starEach es X.env:=by rfl) (hplain:(backTo pos (starEach es X.env)).any (·.1)=false:=by rfl):QE X (.Call (.Attribute o name apos) (e::es) [] pos) (dBm T h fo fA):=⟨TW pa slot hty hT hm.1 ho.1 ha.1 hbase hfew hline hs hplain⟩
theorem LB (h:QW X e ta):QT X e ta:=⟨PWD.pt h.1⟩
theorem cK (ha:QT X a ta):QW X (.BoolOp .And [a] pos) ta:=⟨U3 ha.1⟩
theorem QV (ha:QT X a ta):QW X (.BoolOp .Or [a] pos) ta:=⟨B0 ha.1⟩
theorem QU (ha:QT X a ta)(hb:QW X (.BoolOp .And (b::rest) pos) tb):QW X (.BoolOp .And (a::b::rest) pos) (xY ta tb):=⟨PZ ha.1 hb.1⟩
theorem V5 (ha:QT X a ta)(hb:QW X (.BoolOp .Or (b::rest) pos) tb):QW X (.BoolOp .Or (a::b::rest) pos) (yW ta tb):=⟨N7 ha.1 hb.1⟩
theorem MJ (ha:QT X a ta):QT X (.UnaryOp .Not a pos) (xR ta):=⟨PX ha.1⟩
theorem MI {op:CmpOp}(ho:ZOp X (compareOp op) G2')(ha:QE X a fa)(hb:QE X b fb)(hm:behindInMarks op b=false:=by first|exact pL _|with_unfolding_all rfl):QT X (.Compare a [op] [b] pos) (dTr (d2 G2' fa fb)):=⟨PV ho.1 ha.1 hb.1 hm⟩
theorem WQ {op op':CmpOp}{g':G2}(ho:ZOp X (compareOp op) G2')(ho':ZOp X (compareOp op') g')(ha:QE X a fa)(hb:QE X b fb)(hc:QE X c fc)(hm:lastMarks [op,op'] [b,c]=false:=by with_unfolding_all rfl):QT X (.Compare a [op,op'] [b,c] pos) (dTr (wQ G2' g' fa fb fc)):=⟨XB ho.1 ho'.1 ha.1 hb.1 hc.1 hm⟩
theorem MK (ha:QE X a fa)(he:∀ whole,isTrue a X.env whole=(do let v ← whole;standAt a.pos;holding [v] (truthy v)):=by intro _;rfl):QT X a (dTr fa):=⟨PY ha.1 he⟩
theorem JT {m:Nat}(hN:X.N.Nodup)(hi:X.N[m]? = some x)(hx:Loc X.env.scope x)(hf:X.fn x=true∨X.env.scope.names.lookup x=some .local):QG X (.Name x pos) (gNm m):=⟨VS hN hi hx hf⟩
theorem JU:QGs X [] qY:=⟨VT⟩
theorem WL {h:DG}{gs:DGs}(h1:QG X e h)(h2:QGs X es gs)(hs:(assignEach (e::es) X.env).map (·.2)=assign e X.env::(assignEach es X.env).map (·.2):=by rfl):QGs X (e::es) (qF h gs):=⟨X4 h1.1 h2.1 hs⟩
theorem M8 {kk:Nat}{gs:DGs}(hc:X.calm=true)(h:QGs X es gs)(hn:(assignEach es X.env).length=n:=by rfl)(hst:(assignEach es X.env).findIdx? (·.1)=none:=by rfl):QG X (.Tuple es kk pos) (gTp n gs):=⟨PF hc h.1 hn hst⟩
theorem M7 {h:G3}(ho:QE X o fo)(hi:QE X i fi)(hs:ZSet X h)
  (ha:∀ v,assign (.Subscript o i pos) X.env v=(do
   let ov ← holding [v] (eval o X.env)
   let iv ← holding [v,ov] (eval i X.env)
   standAt pos
   holding [v,ov,iv] (setItem ov iv v)
   release [v,ov,iv] []):=by intro _;rfl):QG X (.Subscript o i pos) (gSb fo fi h):=⟨PD ho.1 hi.1 hs.1 ha⟩
theorem MB {tg:Expr}(ha:QE X e fa):QI X tg e (vK fa):=⟨PH ha.1⟩
theorem WN {tg:Expr}(hg:Gl X "range")(hm:X.mg "range" = none)(ha:QA X (e::es) fA)(hs:starEach (e::es) X.env=(false,eval e X.env)::starEach es X.env:=by rfl)(hpl:(backTo pos (starEach es X.env)).any (·.1)=false:=by rfl):QI X tg (.Call (.Name "range" p) (e::es) [] pos) (uQ fA):=⟨X6 hg hm ha.1 hs hpl⟩
theorem MC {elts:List Expr}{x1:Nat}{tpos:Pos}(hg:Gl X "zip")(hm:X.mg "zip" = none)(ha:QA X [e1,e2] fA)(hs:starEach [e1,e2] X.env=(false,eval e1 X.env)::starEach [e2] X.env:=by rfl)(hpl:(backTo pos (starEach [e2] X.env)).any (·.1)=false:=by rfl):QI X (.Tuple elts x1 tpos) (.Call (.Name "zip" p) [e1,e2] [] pos) (dZ fA):=⟨PJ hg hm ha.1 hs hpl⟩
theorem FU:QB X [] zO:=⟨PN⟩
theorem QP (h:QS X st f):QB X [st] f:=⟨PP h.1⟩
theorem cJ (h1:QS X st f)(h2:QB X sts g):QB X (st::sts) (qT f g):=⟨VY h1.1 h2.1⟩
theorem JZ (he:QE X e fa)(hs:swapsWith e none pos.line X.env=pure false:=by rfl):QS X (.Expr e pos) (x9 fa):=⟨VZ he.1 hs⟩
theorem MG (he:QE X e fa):QS X (.Return (some e) pos) (zA fa):=⟨PR he.1⟩
theorem LA {as bs:List Stmt}(hc:QT X c ta)(ha:QB X as f)(hb:QB X bs g):QS X (.If c as bs pos) (sIf ta f g):=⟨N4 hc.1 ha.1 hb.1⟩
theorem ME {tg iter:Expr}{body:List Stmt}{fI:DI}{h:DG}(hp:ZPass X)(hc:X.calm=true)(hi:QI X tg iter fI)(hg:QG X tg h)(hb:QB X body f)(hs:∀ x,foldedSetIterable iter X.env x=pure x:=by intro _;rfl):QS X (.For tg iter body [] pos) (jO fI h f):=⟨PM hp.1 hc hi.1 hg.1 hb.1 hs⟩
theorem MH {m:Nat}{pos':Pos}(hN:X.N.Nodup)(he:QE X e fa)(hi:X.N[m]? = some x)(hx:Loc X.env.scope x)(hs:swapsWith e (some (.Name x pos')) pos.line X.env=pure false)(hf:X.fn x=true∨X.env.scope.names.lookup x=some .local):QS X (.Assign [.Name x pos'] e pos) (zE fa (gNm m)):=⟨PU hN he.1 hi hx hs hf⟩
theorem MD {tg:Expr}{h:DG}(he:QE X e fa)(hg:QG X tg h)(hs:swapsWithSole [tg] e pos.line X.env=pure false:=by rfl)(hw:swappedStores [tg] e X.env=pure none:=by rfl)(h1:(assignEach [tg] X.env).map (·.2)=[assign tg X.env]:=by rfl):QS X (.Assign [tg] e pos) (zE fa h):=⟨PL he.1 hg.1 hs hw h1⟩
theorem MF {m l:Nat}{y:Str}{px py pt:Pos} {kt k2 pt2} (hc:X.calm=true) (hN:X.N.Nodup) (ha:QA X [a,b] fA) (hi:X.N[m]? = some x) (hj:X.N[l]? = some y) (hij:m≠l) (hx:X.env.scope.names.lookup x=some .local) (hy:X.env.scope.names.lookup y=some .local)
  (hw:swappedStores [.Tuple [.Name x px,.Name y py] kt pt] (.Tuple [a,b] k2 pt2) X.env=pure (some [x,y]):=by rfl) (hs:swapsWithSole [.Tuple [.Name x px,.Name y py] kt pt] (.Tuple [a,b] k2 pt2) pos.line X.env=pure false:=by rfl) :
  QS X (.Assign [.Tuple [.Name x px,.Name y py] kt pt] (.Tuple [a,b] k2 pt2) pos) (nN m l fA):=⟨PQ hc hN ha.1 hi hj hij hx hy hw hs⟩
theorem WP {C Ae:Addr}{np cpos:Pos}(hc:X.calm=true)(hF:Fn1 X)(hg:Gl X x)(hm:X.mg x=some (.ref C))(hx:f9 X.K C Ae=true)(ha:QA X (e::rest) fA)(hdb:(x == ("__debug__" : Str))=false)(he:starEach (e::rest) X.env=(false,eval e X.env)::starEach rest X.env:=by rfl)(hpl:(backTo cpos (starEach rest X.env)).any (·.1)=false:=by rfl) :
  QS X (.Raise (some (.Call (.Name x np) (e::rest) [] cpos)) none pos) (v4 (.ref C) fA):=⟨XA hc hF hg hm hx ha.1 hdb he hpl⟩
theorem LU:ZOp X (binaryOp .Add) qZ:=⟨BZ⟩
theorem D6:ZOp X (binaryOp .Sub) zK:=⟨F4⟩
theorem D2:ZOp X (binaryOp .Mult) xH:=⟨JA⟩
theorem LW:ZOp X (binaryOp .FloorDiv) vB:=⟨F0⟩
theorem D1:ZOp X (binaryOp .Mod) uR:=⟨F2⟩
theorem D4:ZOp X (binaryOp .Pow) aX:=⟨F3⟩
theorem R7:ZOp X (compareOp .Lt) gLt:=⟨YZ⟩
theorem R6:ZOp X (compareOp .LtE) gLe:=⟨NS⟩
theorem R4:ZOp X (compareOp .GtE) gGe:=⟨NR⟩
theorem R0 (hr:RoomC cm k X.A):ZOp X (compareOp .Eq) gEq:=⟨NQ hr.units⟩
theorem R8 (hr:RoomC cm k X.A):ZOp X (compareOp .NotEq) gNe:=⟨NT hr.units⟩
theorem D3:ZUn X (unaryOp .USub) XO:=⟨T7⟩
theorem R5:ZIx X gIx:=⟨SG⟩
theorem LY:ZCall X (.builtin "isinstance") yX:=⟨GM⟩
theorem LZ:ZCall X (.builtin "len") zR:=⟨VF⟩
theorem LV (hc:X.calm=true):ZCall X (.builtin "all") (g9 false):=⟨GJ false hc⟩
theorem LX:ZCall X (.type "int") sD:=⟨GK⟩
theorem KW:ZCall X (.type "tuple") wR:=⟨ZP⟩
theorem YA:ZMt X "list.append" yT:=⟨Q8⟩
theorem D5 (hr:RoomC cm k X.A):ZSet X uD:=⟨MR (hu1 hr)⟩
end
section
variable {P:Program}{w:World}{K:PySem.W.Frag}{mg:Str→Option Value}{base:Heap}{cm:Bool}
theorem G6 {N:List Str}{qual:Str}{scope:Scope}{f:Addr}{cd:Value}{A:Around}{outer:List Env}{s:Shared}{H:Hp}{E:XK}:ZPass (cxC cm P w K mg base N qual scope f cd A outer s H E):=⟨ZV⟩
theorem DX {x:Str}{st:Stmt}{N ps:List Str}{k:Nat}{g:DS}{body:List Stmt}(h:Src K mg x st ps)(S:FnScope N ps (qI st))(hbd:zT st=body)
  (hbody:∀ (f:Addr) (cdv:Value) (A:Around) (outer:List Env) (s:Shared) (H:Hp) (E:XK),RoomC cm k (A.deeper (envOfC x (qI st) s.heap.objs.size f cdv)) →
   QB (cxC cm P w K mg base N x (qI st) f cdv A outer s H E) body g):Def P w K mg base cm (k+1) x ps.length (qV N.length g):=
 PC h S fun f cdv A outer s H E hr=>hbd▸(hbody f cdv A outer s H E hr).1
theorem N1 {x:Str}{st:Stmt}{N ps:List Str}{k:Nat}{g:DS}{body:List Stmt}(h:Src K mg x st ps)(S:FnScope N ps (qI st))(hbd:zT st=body)
  (hbody:∀ (f:Addr) (cdv:Value) (A:Around) (outer:List Env) (s:Shared) (H:Hp) (E:XK),RoomC cm k (A.deeper (envOfC x (qI st) s.heap.objs.size f cdv)) →
   QB (cxC cm P w K mg base N x (qI st) f cdv A outer s H E) body g):dJ P w K mg base cm (k+1) x ps (qV N.length g):=
 VR h S fun f cdv A outer s H E hr=>hbd▸(hbody f cdv A outer s H E hr).1
end
end _D
end
section
namespace _D
open PySem PySem.Spec PyProof.Rows _L
structure QTs (X:Cx)(ifs:List Expr)(t:DT):Prop where
 get:PTs X ifs t
section
variable {X:Cx}{elt tg iter e:Expr}{ifs es:List Expr}{scope:Scope}{pos p:Pos}{N':List Str}{cap:List (Option Nat)}{fi:DI}{g:DG}{t u:DT}{fe:DE}{fa:DA}{x:Str}{cm:Bool}{k n:Nat}{F:DF}
theorem K0:QTs X [] qU:=⟨U2⟩
theorem WR (h1:QT X e t)(h2:QTs X es u):QTs X (e::es) (xY t u):=⟨XC h1.1 h2.1⟩
theorem qcO (G:Def X.prog X.w X.K X.mg X.base cm k x n F)(hr:RoomC cm k X.A)(hg:Gl X x)(ha:QA X (e::es) fa)(hdb:(x == ("__debug__" : Str))=false)(he:starEach (e::es) X.env=(false,eval e X.env)::starEach es X.env:=by rfl)(hpl:(backTo pos (starEach es X.env)).any (·.1)=false:=by rfl) :
  QE X (.Call (.Name x p) (e::es) [] pos) (qD n (okO F) fa):=⟨dcO G hr hg ha.1 hdb he hpl⟩
end
end _D
end
section
namespace _D
open PySem PySem.Spec PyProof.Rows _L
def stn (o:Option (Nat × MO))(S:Sto):Prop:=match o with
 |none=>True
 |some p=>S[p.1]? = some p.2
open Classical in
noncomputable def nQ (o:Option (Nat × MO))(S:Sto):Bool:=decide (stn o S)
theorem wN {o:Option (Nat × MO)}{S:Sto}:nQ o S=true↔stn o S:=by simp[nQ]
structure ItD2 (K:PySem.W.Frag)(J:It)(P:Hp)(α : List Addr)(o:Option (Nat × MO))(ds:List D):Prop where
 go:∀ i H P1 α1 S,i<ds.length→Rel K H P1 α1 S→stn o S→qG P P1→α<+:α1→J.go i H
 yld:∀ i H x H' P1 α1 S,i<ds.length→Rel K H P1 α1 S→stn o S→qG P P1→α<+:α1→J.yld i H x H'→∃ P2 d,ds[i]? = some d∧Rel K H' P2 α1 S∧qG P1 P2∧Rep K P2 α1 d x
 stop:∀ i H P1 α1 S,ds.length≤i→Rel K H P1 α1 S→stn o S→qG P P1→α<+:α1→J.stop i H
theorem ItD.two {K:PySem.W.Frag}{J:It}{P:Hp}{α : List Addr}{ds:List D}(h:ItD K J P α ds):ItD2 K J P α none ds:=
 ⟨fun i H P1 α1 S a b _ c d=>h.go i H P1 α1 S a b c d,fun i H x H' P1 α1 S a b _ c d e=>h.yld i H x H' P1 α1 S a b c d e,fun i H P1 α1 S a b _ c d=>h.stop i H P1 α1 S a b c d⟩
abbrev DI2:=qC→Sto→Res (Option (Nat × MO) × List D)
inductive tDI2 (X:Cx)(f:DI2)(σ : _L.St)(H:Hp)(R:It→Hp→Prop):Prop
 |mk (P:Hp) (α : List Addr) (env:qC) (S:Sto) (r:Rel X.K H P α S) (re:zG X.K P α σ env) (af:qK X P α (f env S) (fun p S'=>∀ J H' P' α',Rel X.K H' P' α' S'→qG P P'→α<+:α'→ItD2 X.K J P' α' p.1 p.2→R J H')):tDI2 X f σ H R
def w8 (f:DI):DI2:=fun env S=>(f env S).bind fun ds S1=>.ok (none,ds) S1
section
variable {X:Cx}{K:PySem.W.Frag}{tg e:Expr}{fa:DE}{pos:Pos}
theorem VV {f:DI}(h:PI X tg e (tDI X f)):PI X tg e (tDI2 X (w8 f)):=PI.weak h fun σ H R ⟨P,α,env,S,r,re,af⟩=>by
 refine⟨P,α,env,S,r,re,?_⟩
 unfold w8 at af
 cases q:f env S with
 |bad=>rw[q] at af;exact af
 |ex c x S'=>rw[q] at af;exact af
 |ok ds S1 =>
  rw[q] at af
  exact fun J H' P' α' r' e1 e2 it=>af J H' P' α' r' e1 e2 it.two
theorem UL {P:Hp}{α : List Addr}{a:Addr}{n:Nat}{ds:List D}(hα:α[n]? = some a):ItD2 K (Itl K a) P α (some (n,.lst ds)) ds where
 go:=fun i H P1 α1 S hi r st e e2=>by
  obtain⟨vs,z,t⟩:=r.at' n a _ (bE e2 hα) st
  exact⟨vs,vs[i]'(by rw[← t.length];exact hi),.of z,by simp⟩
 yld:=fun i H x H' P1 α1 S hi r st e e2 y=>by
  obtain⟨rfl,y⟩:=y
  obtain⟨vs,z,t⟩:=r.at' n a _ (bE e2 hα) st
  have hx:=y vs (.of z)
  obtain⟨v,h1,h2⟩:=t.get (List.getElem?_eq_getElem hi)
  rw[hx] at h1;cases h1
  exact⟨P1,_,List.getElem?_eq_getElem hi,r,qG.refl _,h2⟩
 stop:=fun i H P1 α1 S hi r st e e2=>by
  obtain⟨vs,z,t⟩:=r.at' n a _ (bE e2 hα) st
  exact⟨vs,.of z,by rw[← t.length];exact hi⟩
def itD (d:D)(S:Sto):Res (Option (Nat × MO) × List D):=match d with
 |.tup xs=>.ok (none,xs) S
 |.lst xs=>.ok (none,xs) S
 |.loc n=>match S[n]? with
  |some (.lst xs)=>.ok (some (n,.lst xs),xs) S
  |_=>.bad
 |_=>.bad
def dIt (f:DE):DI2:=fun env S=>(f env S).bind fun d S1=>itD d S1
theorem N2 (ha:PE X e (tD X fa)):PI X tg e (tDI2 X (dIt fa)):=by
 intro pins s σ H R I h
 obtain⟨P,α,env,S,r,re,af⟩:=h
 refine thn (xB ha I r re af) fun vv s1 ⟨v,H1,P1,α1,d,S1,G1,af1⟩=>?_
 have seq:∀ ds,x0 d=some ds→(∀ J H' P' α',Rel X.K H' P' α' S1→qG P P'→α<+:α'→ItD2 X.K J P' α' none ds→R J H')→wpAny (model X.prog X.w) X.A (pyIter vv) (PIE X pins σ tg R) X.xe s1:=fun ds e1 q =>
  sN G1.inv G1.rel G1.val G1.rep e1 fun J H' P' α' r' h1 h2 it=>q J H' P' α' r' (G1.same.trans h1) (G1.pre.trans h2) it.two
 cases d with
 |tup xs=>exact seq xs rfl af1
 |lst xs=>exact seq xs rfl af1
 |loc n =>
  obtain⟨xs,hS,af1⟩:=gL (X:=X) (f:=fun xs=>Res.ok (some (n,MO.lst xs),xs) S1) af1
  have rp:=G1.rep
  simp only[Rep] at rp
  obtain⟨a,rfl,ha⟩:=rp
  cases (show vv=Value.ref a from G1.val)
  obtain⟨vs,z,t⟩:=G1.rel.at' n a _ ha hS
  obtain⟨its,rv,p,hz⟩:=G1.inv.list (SqL.of z)
  refine wpAny_pyIter_list p.isList ?_
  refine⟨s1.heap.objs.size,[s1.heap.objs.size],_,_,H1,rfl,G1.inv.kept (t':=s1.toks) fun b o e=>Heap.get?_push_of_some _ e,lU a _,⟨_,Heap.get?_push_size _ rfl,rfl,rfl⟩,fun b hb=>?_,af1 _ _ P1 α1 G1.rel G1.same G1.pre (UL ha)⟩
  have e:b=s1.heap.objs.size:=by simpa using hb
  subst e
  exact G1.inv.fpOk (Nat.le_refl _) (G1.inv.hok.fresh (Nat.le_refl _))
 |_=>exact False.elim af1
end
end _D
end
section
namespace _D
open PySem PySem.Spec PyProof.Rows _L
def xL (elt:Expr)(gens:List Comprehension)(scope:Scope)(pos:Pos)(k:Nat)(acc:Value)(env:Env):Sem Unit:=
 match gens[k+1]? with
 |some g'=>do
  let x ← eval g'.iter env
  standAt g'.iter.pos
  let x ← foldedSetIterable g'.iter env x
  let it ← holding [x] (pyIter x)
  let _ ← runOwn (.compStart (.ListComp elt gens scope pos) (k+1) it acc env) env
 |none=>do let _ ← call (.builtin "list.append") [acc,← eval elt env]
theorem Y6 (elt target iter:Expr)(ifs:List Expr)(gens:List Comprehension)(scope:Scope)(pos:Pos)(it acc:Value)(env:Env)(k:Nat)(hg:gens[k]? = some ⟨target,iter,ifs,0⟩)(ha:∀ g',gens[k+1]? = some g'→g'.is_async=0) :
  compTurn (.ListComp elt gens scope pos) k it acc env=(do
   standAt iter.pos
   match ← pyNext it with
   |none=>pure (.done .next)
   |some v =>
    letOwnedTupleGo target it v
    assign target env v
    let mut ok:=true
    for c in ifs do
     if ok then ok ← isTrue c env (eval c env)
    if ok then xL elt gens scope pos k acc env
    again (.compLoop (.ListComp elt gens scope pos) k it acc env)):=by
 unfold compTurn xL
 simp only[hg]
 cases q:gens[k+1]? with
 |none=>rfl
 |some g' =>
  have h0:=ha g' q
  have e0:(g'.is_async != 0)=false:=by rw[h0];rfl
  simp only[e0,Bool.false_eq_true,if_false,bind_assoc,pure_bind]
  rfl
abbrev DK:=qC→Sto→List D→Res (qC × List D)
noncomputable def goL (o:Option (Nat × MO))(g:DG)(t:DT)(k:DK):List D→DK
 |[],env,S,acc=>if nQ o S then .ok (env,acc) S else .bad
 |d::ds,env,S,acc=>if nQ o S then (g d env S).bind fun env1 S1=>(t env1 S1).bind fun b S2 =>
   if b then (k env1 S2 acc).bind fun p S3=>goL o g t k ds p.1 S3 p.2 else goL o g t k ds env1 S2 acc
  else .bad
def qP (fe:DE):DK:=fun env S acc=>(fe env S).bind fun x S1=>if acc.length<lim then .ok (env,acc++[x]) S1 else .bad
def YH (Y:Cx)(pins:List (Addr × Obj))(P1:Hp)(α1:List Addr)(acc:Addr)(env:qC)(S:Sto)(ds:List D)(s:Shared):Prop:=
 ∃ σ H P α o,TurnSt Y pins P1 α1 [] acc env S ds s σ H P α o
def PK (Y:Cx)(step:Value→Sem Unit)(k:DK):Prop:=
 ∀ (pins:List (Addr × Obj)) (P1:Hp) (α1:List Addr) (acc:Addr) (env env':qC) (S S':Sto) (ds ds':List D) (s:Shared),(∀ H:Hp,H acc=none→xO Y pins H acc)→YH Y pins P1 α1 acc env S ds s→k env S ds=.ok (env',ds') S' →
  wpAny (model Y.prog Y.w) Y.A (step (.ref acc)) (fun _ s'=>YH Y pins P1 α1 acc env' S' ds' s') (fun _ _=>False) s
section
variable {Y:Cx}{elt tg iter:Expr}{ifs:List Expr}{gens:List Comprehension}{scope:Scope}{pos:Pos}{k:Nat}{g:DG}{t:DT}{fe:DE}{it acc:Addr}{fp:List Addr}{J:It}{tn:Nat→Heap→Prop}{items:List D}{P1:Hp}{α1:List Addr}{pins:List (Addr × Obj)}
theorem oO {X:Cx}{pins:List (Addr × Obj)}{H:Hp}{b:Addr}{fp:List Addr}{h:Heap}(f:xO X pins H b)(hn:b ∉ fp):xO X (pins++vN fp h) H b:=by
 obtain⟨f0,f1,f2,f3,f4,f5⟩:=f
 refine⟨f0,f1,f2,f3,f4,fun p hp=>?_⟩
 rcases List.mem_append.mp hp with z|z
 ·exact f5 p (List.mem_append_left _ z)
 ·rcases List.mem_append.mp z with z|z
  ·exact f5 p (List.mem_append_right _ z)
  ·rintro rfl
   exact hn (lK z).1
theorem Res.bind_inv {β γ:Type}{r:Res β}{f:β→Sto→Res γ}{x:γ}{S:Sto}(h:r.bind f=.ok x S):∃ b S1,r=.ok b S1∧f b S1=.ok x S:=by
 cases r with
 |ok b S1=>exact⟨b,S1,rfl,h⟩
 |_=>cases h
inductive GoC (o:Option (Nat × MO))(g:DG)(t:DT)(k:DK)(d:D)(ds acc:List D)(env:qC)(S SF:Sto)(x:qC × List D):Prop
 |no (env1:qC) (S1 S2:Sto) (z:stn o S) (q1:g d env S=.ok env1 S1) (q2:t env1 S1=.ok false S2) (r:goL o g t k ds env1 S2 acc=.ok x SF):GoC o g t k d ds acc env S SF x
 |yes (env1:qC) (S1 S2:Sto) (env5:qC) (ds5:List D) (S5:Sto) (z:stn o S) (q1:g d env S=.ok env1 S1) (q2:t env1 S1=.ok true S2) (q3:k env1 S2 acc=.ok (env5,ds5) S5) (r:goL o g t k ds env5 S5 ds5=.ok x SF):GoC o g t k d ds acc env S SF x
set_option tactic.hygienic true in
theorem XS {o:Option (Nat × MO)}{g:DG}{t:DT}{k:DK}{d:D}{ds acc:List D}{env:qC}{S SF:Sto}{x:qC × List D}(h:goL o g t k (d::ds) env S acc=.ok x SF):GoC o g t k d ds acc env S SF x:=by
 simp only[goL] at h
 split at h
 ·rename_i z
  obtain⟨env1,S1,q1,h⟩:=Res.bind_inv h
  obtain⟨b,S2,q2,h⟩:=Res.bind_inv h
  cases b with
  |false=>exact .no env1 S1 S2 (wN.mp z) q1 q2 h
  |true =>
   obtain⟨⟨env5,ds5⟩,S5,q3,h⟩:=Res.bind_inv h
   exact .yes env1 S1 S2 env5 ds5 S5 (wN.mp z) q1 q2 q3 h
 ·cases h
set_option tactic.hygienic true in
theorem UG {o:Option (Nat × MO)}{g:DG}{t:DT}{k:DK}{acc dsF:List D}{env envF:qC}{S SF:Sto}(h:goL o g t k [] env S acc=.ok (envF,dsF) SF):stn o S∧env=envF∧acc=dsF∧S=SF:=by
 simp only[goL] at h
 split at h
 ·rename_i z
  cases h
  exact⟨wN.mp z,rfl,rfl,rfl⟩
 ·cases h
inductive LpI (Y:Cx)(pins:List (Addr × Obj))(P1:Hp)(α1:List Addr)(fp:List Addr)(acc:Addr)(tn:Nat→Heap→Prop)(G:List D→DK)(items:List D)(x:qC × List D)(SF:Sto)(n:Nat)(s:Shared):Prop
 |mk (i:Nat) (σ : _L.St) (H P:Hp) (α : List Addr) (o:Obj) (env:qC) (S:Sto) (ds:List D) (hn:n=items.length-i) (hi:i≤items.length) (st:TurnSt Y pins P1 α1 fp acc env S ds s σ H P α o) (st1:tn i s.heap) (run:G (items.drop i) env S ds=.ok x SF):LpI Y pins P1 α1 fp acc tn G items x SF n s
theorem KH {M:Model}{A:Around}{Q:Fin→Shared→Prop}{Qa Qd:Shared→Prop}{E:Value→Shared→Prop}{s:Shared}{it acc:Value}{en:Env}(hgk:gens[k]? = some ⟨tg,iter,ifs,0⟩)(has:∀ g',gens[k+1]? = some g'→g'.is_async=0)
  (ha:∀ s,Qa s→Q (.again (.compLoop (.ListComp elt gens scope pos) k it acc en)) s) (hd:∀ s,Qd s→Q (.done .next) s)
  (h:wpAny M A (pyNext it) (fun r s1=>(r=none→Qd s1)∧∀ v,r=some v→wpAny M A (letOwnedTupleGo tg it v) (fun _ s2=>wpAny M A (assign tg en v) (fun _ s3=>wpAny M A (jR ifs en) (fun b s4=>(b=false→Qa s4)∧(b=true→wpAny M A (xL elt gens scope pos k acc en) (fun _ s5=>Qa s5) E s4)) E s3) E s2) E s1) E s) :
  wpAny M A (compTurn (.ListComp elt gens scope pos) k it acc en) Q E s:=by
 rw[Y6 elt tg iter ifs gens scope pos it acc en k hgk has]
 refine wpAny_bind (wpAny_standAt (wpAny_bind (thn h fun r s1 ⟨h0,h1⟩=>?_)))
 cases r with
 |none=>exact wpAny_pure (hd _ (h0 rfl))
 |some v =>
  refine wpAny_bind (thn (h1 v rfl) fun _ s2 h2=>wpAny_bind (thn h2 fun _ s3 h3=>wpAny_bind (thn h3 fun b s4 h4=>?_)))
  cases b with
  |false=>exact wpAny_pure (ha _ (h4.1 rfl))
  |true=>exact wpAny_bind (thn (h4.2 rfl) fun _ s5 h5=>wpAny_pure (ha _ h5))
theorem UD (hfp:∀ H:Hp,(∀ b∈fp,H b=none)→∀ b∈fp,xO Y pins H b)(hne:acc ∉ fp)(o:Obj)(H':Hp)(hn:∀ b∈fp,H' b=none):∀ b∈fp,xO Y (pins++[(acc,o)]) H' b:=fun b hb=>by
 obtain⟨f0,f1,f2,f3,f4,f5⟩:=hfp H' hn b hb
 refine⟨f0,f1,f2,f3,f4,fun p hp=>?_⟩
 rcases List.mem_append.mp hp with z|z
 ·exact f5 p (List.mem_append_left _ z)
 ·rcases List.mem_append.mp z with z|z
  ·exact f5 p (List.mem_append_right _ z)
  ·rw[List.mem_singleton.mp z]
   rintro rfl
   exact hne hb
theorem jX {i:Nat}{h:Heap}(T:Turn Y.prog Y.w Y.K tg J fp it tn)(st2:tn (i+1) h)(pl:∀ b∈fp,∃ o,h.get? b=some o∧∀ v,o.data≠.cell v){s5:Shared}{σ5:_L.St}{H5:Hp}(I5:Inv Y (pins++vN fp h) σ5 H5 s5):tn (i+1) s5.heap∧(∀ b∈fp,H5 b=none):=by
 refine⟨T.keep _ _ _ st2 fun b hb o' e=>(I5.pin (b,o') (List.mem_append_right _ (List.mem_append_right _ (j3 hb e)))).1,fun b hb=>?_⟩
 obtain⟨o',e,d'⟩:=pl b hb
 exact(I5.pin (b,o') (List.mem_append_right _ (List.mem_append_right _ (j3 hb e)))).2.1
theorem aP {o':Option (Nat × MO)}{kk:DK}{Qa Qd:Shared→Prop}{E:Value→Shared→Prop}{s:Shared}{σ : _L.St}{H P:Hp}{α : List Addr}{env envF:qC}{S SF:Sto}{ds dsF:List D}{o:Obj}{i:Nat}(hc:Y.calm=true)(hx:Y.xe=fun _ _=>False)
  (T:Turn Y.prog Y.w Y.K tg J fp it tn) (hit:ItD2 Y.K J P1 α1 o' items) (hg:PG Y tg (tDG Y g)) (ht:PTs Y ifs t) (he:PK Y (fun acc=>xL elt gens scope pos k acc Y.env) kk) (hacc:∀ H:Hp,H acc=none→xO Y pins H acc) (hfp:∀ H:Hp,(∀ b∈fp,H b=none)→∀ b∈fp,xO Y pins H b) (hne:acc ∉ fp)
  (hi:i≤items.length) (st:TurnSt Y pins P1 α1 fp acc env S ds s σ H P α o) (st1:tn i s.heap) (run:goL o' g t kk (items.drop i) env S ds=.ok (envF,dsF) SF)
  (hA:∀ s' σ' H' P' α' o1 env1 S' ds',i<items.length→TurnSt Y pins P1 α1 fp acc env1 S' ds' s' σ' H' P' α' o1→tn (i+1) s'.heap→goL o' g t kk (items.drop (i+1)) env1 S' ds'=.ok (envF,dsF) SF→Qa s')
  (hD:∀ s' σ' H' P' α' o',TurnSt Y pins P1 α1 fp acc envF SF dsF s' σ' H' P' α' o'→Qd s') :
  wpAny (model Y.prog Y.w) Y.A (pyNext (.ref it)) (fun r s1=>(r=none→Qd s1)∧∀ v,r=some v→wpAny (model Y.prog Y.w) Y.A (letOwnedTupleGo tg (.ref it) v) (fun _ s2=>wpAny (model Y.prog Y.w) Y.A (assign tg Y.env v) (fun _ s3=>wpAny (model Y.prog Y.w) Y.A (jR ifs Y.env) (fun b s4=>(b=false→Qa s4)∧(b=true→wpAny (model Y.prog Y.w) Y.A (xL elt gens scope pos k (.ref acc) Y.env) (fun _ s5=>Qa s5) E s4)) E s3) E s2) E s1) E s:=by
 have I1:=_D.Inv.pin1 st.inv (hacc H st.acn) st.at' st.acc.cell
 have fp1:=UD hfp hne o
 by_cases hlt:i<items.length
 ·have hdr:items.drop i=items[i]::items.drop (i+1):=List.drop_eq_getElem_cons hlt
  rw[hdr] at run
  have run:=XS run
  have hst:stn o' S:=by cases run with|no _ _ _ z=>exact z|yes _ _ _ _ _ _ z=>exact z
  refine fP (T.item Y rfl rfl rfl hc i _ s σ H (fun _ _=>False) I1 (fp1 H st.fpn) st1 (hit.go i H P α S hlt st.rel hst st.same st.pre)) fun r s1 ⟨u,hr,h1⟩=>⟨fun z=>(by rw[hr] at z;cases z),fun v hv=>?_⟩
  obtain rfl:v=u:=Option.some.inj (hv.symm.trans hr)
  refine fP h1 fun _ s2 ⟨x,H2,I2,rx,y,st2,fr2⟩=>?_
  obtain⟨P2,d,hd,r2,e2,rp⟩:=hit.yld i H x H2 P α S hlt st.rel hst st.same st.pre y
  cases (List.getElem?_eq_getElem hlt).symm.trans hd
  have pl:=T.obj _ _ st2
  have I2':=I2.pinned (fp1 _ fr2) pl
  have two:∀ env1 S1 b S2,g items[i] env S=.ok env1 S1→t env1 S1=.ok b S2→(∀ s4 σ3 H4 P4 α4 (I4:Inv Y (pins++vN fp s2.heap) σ3 H4 s4),TurnSt Y pins P1 α1 fp acc env1 S2 ds s4 σ3 H4 P4 α4 o→tn (i+1) s4.heap→(b=false→Qa s4)∧(b=true→wpAny (model Y.prog Y.w) Y.A (xL elt gens scope pos k (.ref acc) Y.env) (fun _ s5=>Qa s5) E s4))→wpAny (model Y.prog Y.w) Y.A (assign tg Y.env v) (fun _ s3=>wpAny (model Y.prog Y.w) Y.A (jR ifs Y.env) (fun b s4=>(b=false→Qa s4)∧(b=true→wpAny (model Y.prog Y.w) Y.A (xL elt gens scope pos k (.ref acc) Y.env) (fun _ s5=>Qa s5) E s4)) E s3) E s2:=by
   intro env1 S1 b S2 q1 q2 next
   refine fP (hx▸SL hg I2' r2 (st.env.mono e2 (List.prefix_refl _)) rx rp q1) fun _ s3 ⟨σ3,H3,P3,α3,I3,r3,re3,e3,e3'⟩=>?_
   refine fP (hx▸L4 ht I3 r3 re3 q2) fun b' s4 ⟨hb,H4,P4,α4,I4,r4,re4,e4,e4'⟩=>?_
   have I4':Inv Y (pins++vN fp s2.heap) σ3 H4 s4:=I4.pins_of fun p hp=>I4.pin p (List.mem_append_right _ ((List.mem_append.mp hp).elim (fun z=>List.mem_append_left _ (List.mem_append_left _ z)) fun z=>List.mem_append_right _ z))
   have a4:=I4.pin (acc,o) (List.mem_append_right _ (List.mem_append_left _ (List.mem_append_right _ (List.mem_singleton.mpr rfl))))
   rw[hb]
   exact next s4 σ3 H4 P4 α4 I4' ⟨I4'.unpinned,r4,re4,((st.same.trans e2).trans e3).trans e4,(st.pre.trans e3').trans e4',(jX T st2 pl I4').2,a4.2.1,a4.1,st.acc.mono ((e2.trans e3).trans e4) (e3'.trans e4')⟩ (jX T st2 pl I4').1
  cases run with
  |no env1 S1 S2 _ q1 q2 run=>exact two env1 S1 false S2 q1 q2 fun s4 σ3 H4 P4 α4 I4 st4 tn4=>⟨fun _=>hA s4 σ3 H4 P4 α4 o env1 S2 ds hlt st4 tn4 run,fun z=>(by cases z)⟩
  |yes env1 S1 S2 env5 ds5 S5 _ q1 q2 q3 run =>
   refine two env1 S1 true S2 q1 q2 fun s4 σ3 H4 P4 α4 I4 st4 tn4=>⟨fun z=>(by cases z),fun _=>?_⟩
   refine fP (he (pins++vN fp s2.heap) P1 α1 acc env1 env5 S2 S5 ds ds5 s4 (fun H hn=>oO (hacc H hn) hne) ⟨σ3,H4,P4,α4,o,I4,st4.rel,st4.env,st4.same,st4.pre,fun b hb=>(by cases hb),st4.acn,st4.at',st4.acc⟩ q3) fun _ s5 ⟨σ5,H5,P5,α5,o5,T5⟩=>?_
   exact hA s5 σ5 H5 P5 α5 o5 env5 S5 ds5 hlt ⟨T5.inv.unpinned,T5.rel,T5.env,T5.same,T5.pre,(jX T st2 pl T5.inv).2,T5.acn,T5.at',T5.acc⟩ (jX T st2 pl T5.inv).1 run
 ·rw[List.drop_eq_nil_of_le (by omega)] at run
  obtain⟨z,rfl,rfl,rfl⟩:=UG run
  refine fP (T.done Y rfl rfl rfl hc i _ s σ H (fun _ _=>False) I1 (fp1 H st.fpn) st1 (hit.stop i H P α _ (by omega) st.rel z st.same st.pre)) fun r s1 ⟨hr,I2⟩=>⟨fun _=>?_,fun v hv=>(by rw[hr] at hv;cases hv)⟩
  have a:=_D.Inv.pinned1 I2
  exact hD s1 σ H P α o ⟨I2.unpinned,st.rel,st.env,st.same,st.pre,st.fpn,a.2,a.1,st.acc⟩
theorem aM {o':Option (Nat × MO)}{kk:DK}{R:Result→Shared→Prop}{s:Shared}{σ : _L.St}{H P:Hp}{α : List Addr}{env envF:qC}{S SF:Sto}{ds0 dsF:List D}{o:Obj}(hc:Y.calm=true)(hx:Y.xe=fun _ _=>False)(hgk:gens[k]? = some ⟨tg,iter,ifs,0⟩)(has:∀ g',gens[k+1]? = some g'→g'.is_async=0)
  (T:Turn Y.prog Y.w Y.K tg J fp it tn) (hit:ItD2 Y.K J P1 α1 o' items) (hg:PG Y tg (tDG Y g)) (ht:PTs Y ifs t) (he:PK Y (fun acc=>xL elt gens scope pos k acc Y.env) kk) (hacc:∀ H:Hp,H acc=none→xO Y pins H acc) (hfp:∀ H:Hp,(∀ b∈fp,H b=none)→∀ b∈fp,xO Y pins H b) (hne:acc ∉ fp)
  (st:TurnSt Y pins P1 α1 fp acc env S ds0 s σ H P α o) (st0:tn 0 s.heap) (run:goL o' g t kk items env S ds0=.ok (envF,dsF) SF)
  (hR:∀ s' σ' H' P' α' o',TurnSt Y pins P1 α1 fp acc envF SF dsF s' σ' H' P' α' o'→R (.ok .next) s') :
  codeAny (model Y.prog Y.w) Y.A (.compLoop (.ListComp elt gens scope pos) k (.ref it) (.ref acc) Y.env) R s:=by
 refine codeAny_loop rfl (LpI Y pins P1 α1 fp acc tn (goL o' g t kk) items (envF,dsF) SF) (fun n s hI=>?_) items.length ⟨0,σ,H,P,α,o,env,S,ds0,rfl,Nat.zero_le _,st,st0,run⟩
 obtain⟨i,σ,H,P,α,o,env,S,ds,hn,hi,st,st1,run⟩:=hI
 subst hn
 refine wpAny_noted (KH hgk has (Qa:=fun s'=>∃ m,m<items.length-i∧LpI Y pins P1 α1 fp acc tn (goL o' g t kk) items (envF,dsF) SF m s') (Qd:=R (.ok .next)) (fun _ h=>⟨rfl,h⟩) (fun _ h=>h) ?_)
 exact aP hc hx T hit hg ht he hacc hfp hne hi st st1 run (fun s' σ' H' P' α' o1 env1 S' ds' hlt st' tn' run'=>⟨_,Nat.sub_succ_lt_self _ _ hlt,i+1,σ',H',P',α',o1,env1,S',ds',rfl,hlt,st',tn',run'⟩) hR
set_option tactic.hygienic true in
theorem JJ (hx:Y.xe=fun _ _=>False)(hlast:gens[k+1]? = none)(he:PE Y elt (tD Y fe)):PK Y (fun acc=>xL elt gens scope pos k acc Y.env) (qP fe):=by
 intro pins P1 α1 acc env env' S S' ds ds' s hacc ⟨σ,H,P,α,o,st⟩ run
 show wpAny _ _ (xL elt gens scope pos k (.ref acc) Y.env) _ _ s
 unfold xL
 rw[hlast]
 dsimp only
 unfold qP at run
 cases q3:fe env S with
 |bad=>rw[q3] at run;cases run
 |ex c z S'=>rw[q3] at run;cases run
 |ok d5 S5 =>
  rw[q3,Res.bind_ok] at run
  split at run
  ·rename_i hlen
   cases run
   have fA:=hacc H st.acn
   have I1:=_D.Inv.pin1 st.inv fA st.at' st.acc.cell
   refine wpAny_bind (fP (hx▸SK he I1 st.rel st.env q3) fun u5 s5 ⟨v5,H5,P5,α5,G5⟩=>?_)
   have J:=_D.Inv.pinned1 G5.inv
   have J1:=G5.inv.unpinned
   obtain⟨J4,J5⟩:=J
   obtain⟨its,n5,vs,ho,rvs,rps,hz⟩:=st.acc
   subst ho
   have hlen':vs.length=ds.length:=rps.length.symm
   have hl2:=rvs.length
   refine wpAny_bind (call_meets F.slot_list_append ⟨_,J4,rfl⟩ F.entry_list_append (F.args_list_append_2 _ _) (PySem.list_append acc its.toArray n5 u5 (by rw[List.size_toArray];rw[← xJ];omega)) ⟨J4,?_⟩)
   have q:=PySem.IsL.update J4 (·.push u5)
   have fA5:=hacc H5 J5
   have keep:∀ b o,b≠acc→s5.heap.get? b=some o→(s5.heap.update acc (Obj.mapSeq (·.push u5))).get? b=some o:=fun b o hb e=>(Heap.get?_update_other s5.heap _ (Ne.symm hb)).trans e
   have I6:=J1.turned (t':=s5.toks) keep J5 fA5.2.1 fA5.2.2.2.1 fA5.2.2.2.2.1 fA5.2.2.2.2.2
   refine wpAny_pure ⟨σ,H5,P5,α5,_,I6,G5.rel,G5.env,st.same.trans G5.same,st.pre.trans G5.pre,fun b hb=>(by simp at hb),J5,q,?_⟩
   refine⟨its++[u5],_,vs++[v5],by simp <;> rfl,rvs.append (.cons G5.val .nil),?_,by simp;omega⟩
   exact(qE.mono G5.same G5.pre _ _ rps).append (.cons G5.rep .nil)
  ·cases run
end
end _D
end
section
namespace _D
open PySem PySem.Spec PyProof.Rows _L
def mkM (m:Bool)(r:Res (qC × List D)):Res D:=match r with
 |.ok p S2=>if m then .ok (.loc S2.length) (S2++[.lst p.2]) else .ok (.lst p.2) S2
 |_=>.bad
noncomputable def qO (m:Bool)(cap:List (Option Nat))(fi:DI2)(g:DG)(t:DT)(k:DK):DE:=fun env S=>(fi env S).bind fun p S1=>mkM m (goL p.1 g t k p.2 (zW cap env) S1 [])
section
variable {X:Cx}{elt tg iter:Expr}{ifs:List Expr}{scope:Scope}{pos:Pos}{N':List Str}{cap:List (Option Nat)}{fi:DI2}{g:DG}{t:DT}{kk:DK}{rest:List Comprehension}{mm:Bool}
theorem QC {P:Hp}{α : List Addr}{r:Res (qC × List D)}{Ok:D→Sto→Prop}(h:qK X P α (mkM mm r) Ok):∃ envF ds SF,r=.ok (envF,ds) SF∧(if mm then Ok (.loc SF.length) (SF++[.lst ds]) else Ok (.lst ds) SF):=by
 cases r with
 |ok p S =>
  obtain⟨envF,ds⟩:=p
  refine⟨envF,ds,S,rfl,?_⟩
  cases mm <;> exact h
 |ex c x S=>exact False.elim h
 |bad=>exact False.elim h
theorem XD {pins:List (Addr × Obj)}{σ : _L.St}{P1:Hp}{α1:List Addr}{ds:List D}{SF:Sto}{acc C:Addr}{s:Shared}{Q:VK}(c:pS X pins σ P1 α1 ds SF acc C s)(ok:if mm then OkV X P1 α1 Q (.loc SF.length) (SF++[.lst ds]) else OkV X P1 α1 Q (.lst ds) SF):EP X pins σ Q (.ref acc) s:=by
 cases mm with
 |false=>exact U5 c ok
 |true =>
  obtain⟨H',P',α',vs,I,r,hn,e1,e2,rp,_⟩:=c
  exact⟨.ref acc,_,I,rfl,cE r hn rp fun v H2 P2 α2 r2 q1 q2 q3=>ok v H2 P2 α2 r2 (e1.trans q1) (e2.trans q2) q3⟩
theorem bS {o':Option (Nat × MO)}{kk:DK}{pins:List (Addr × Obj)}{σ : _L.St}{H2 P1:Hp}{α1:List Addr}{s2:Shared}{S1 SF:Sto}{env envF:qC}{ds items:List D}{it:Addr}{fp:List Addr}{tn:Nat→Heap→Prop}{J:It}{E:Value→Shared→Prop}{RR:Value→Addr→Result→Shared→Prop}{rest:List Comprehension}
  (hc:X.calm=true) (S:CompSc X.env.scope X.N scope N' cap) (has:∀ g',(⟨tg,iter,ifs,0⟩::rest:List Comprehension)[0+1]? = some g'→g'.is_async=0)
  (hg:∀ cl C ex s₀ H₀,PG (qW X N' scope cl C ex s₀ H₀) tg (tDG (qW X N' scope cl C ex s₀ H₀) g))
  (ht:∀ cl C ex s₀ H₀,PTs (qW X N' scope cl C ex s₀ H₀) ifs t) (he:∀ cl C ex s₀ H₀,PK (qW X N' scope cl C ex s₀ H₀) (fun acc=>xL elt (⟨tg,iter,ifs,0⟩::rest) scope pos 0 acc (qW X N' scope cl C ex s₀ H₀).env) kk)
  (I2:Inv X pins σ H2 s2) (r:Rel X.K H2 P1 α1 S1) (re:zG X.K P1 α1 σ env) (T:Turn X.prog X.w X.K tg J fp it tn) (st0:tn 0 s2.heap) (hf:∀ b∈fp,xO X pins H2 b) (hit:ItD2 X.K J P1 α1 o' items) (run:goL o' g t kk items (zW cap env) S1 [] = .ok (envF,ds) SF)
  (hRR:∀ acc C s',s2.heap.objs.size≤acc→(∃ m,s'.heap.Ns C m)→s2.heap.objs.size≤C→acc≠C→(∀ h',Heap.SameBut C s'.heap h'→pS X pins σ P1 α1 ds SF acc C { s' with heap:=h' }) → RR (.ref acc) C (.ok .next) s') :
  wpAny (model X.prog X.w) X.A (newList []) (fun acc s₃=>wpAny (model X.prog X.w) X.A (newFunctionEnv scope X.env.globals (wI X.env.cells scope.names []) [] X.env.qual none .none (some X.env)) (fun cenv s₄ =>
   codeAny (model X.prog X.w) X.A (.compStart (.ListComp elt (⟨tg,iter,ifs,0⟩::rest) scope pos) 0 (.ref it) acc { cenv with scope:=relabel scope X.env }) (RR acc cenv.locals) s₄) E s₃) E s2:=by
 have hlt:∀ b∈fp,b<s2.heap.objs.size:=fun b hb=>by
  obtain⟨o,e,_⟩:=T.obj 0 _ st0 b hb
  exact Heap.lt_size e
 refine wpAny_newObj_type (wpAny_newFunctionEnv S.nocell (by intro y hy;simp at hy) (fun h₁ hns₁ hsb₁=>?_) S.kind)
 dsimp only at hns₁ hsb₁ ⊢
 generalize hH2:s2.heap.push { cls:=.type "list",dict:=none,data:=.seq ([] : List Value).toArray } = Hh at hns₁ hsb₁ ⊢
 have hsz:Hh.objs.size=s2.heap.objs.size+1:=by rw[← hH2,Heap.size_push]
 have hC:s2.heap.objs.size≤Hh.objs.size:=by rw[hsz];exact Nat.le_succ _
 have hne:s2.heap.objs.size≠Hh.objs.size:=by rw[hsz];exact Nat.ne_of_lt (Nat.lt_succ_self _)
 have keep:∀ b o,s2.heap.get? b=some o→h₁.get? b=some o:=fun b o e=>by
  have hb:b≠Hh.objs.size:=by rw[hsz];exact Nat.ne_of_lt (Nat.lt_succ_of_lt (Heap.lt_size e))
  exact hsb₁.extBut b o hb (Heap.get?_push_of_some _ (hH2▸Heap.get?_push_of_some _ e))
 have hacc:h₁.get? s2.heap.objs.size=some { cls:=.type "list",data:=.seq ([] : List Value).toArray }:=hsb₁.extBut _ _ hne (Heap.get?_push_of_some _ (hH2▸Heap.get?_push_size _ rfl))
 have I4:∀ tk,Inv (qW X N' scope (wI X.env.cells scope.names []) Hh.objs.size fp s2 H2) [] (vS cap σ) H2 { s2 with heap:=h₁,toks:=tk }:=fun tk =>
  ZT (s4:={ s2 with heap:=h₁,toks:=tk }) S I2 hf hlt hC hns₁ rfl rfl keep
 have loop:∀ tk,codeAny (model X.prog X.w) X.A (.compLoop (.ListComp elt (⟨tg,iter,ifs,0⟩::rest) scope pos) 0 (.ref it) (.ref s2.heap.objs.size) (compEnvC scope (wI X.env.cells scope.names []) Hh.objs.size X.env)) (RR (.ref s2.heap.objs.size) Hh.objs.size) { s2 with heap:=h₁,toks:=tk }:=fun tk=>by
  refine aM (kk:=kk) (o':=o') (Y:=qW X N' scope (wI X.env.cells scope.names []) Hh.objs.size fp s2 H2) (pins:=[]) (fp:=fp) (acc:=s2.heap.objs.size) (P1:=P1) (α1:=α1) (σ:=vS cap σ) (H:=H2) (P:=P1) (α:=α1) (o:={ cls:=.type "list",data:=.seq ([] : List Value).toArray }) hc rfl rfl has T hit
   (hg _ _ _ _ _) (ht _ _ _ _ _) (he _ _ _ _ _) (fun H hn=>?_) (fun H hn b hb=>?_) (fun hm=>Nat.lt_irrefl _ (hlt _ hm)) ⟨I4 tk,r,QX re cap,qG.refl _,List.prefix_refl _,fun b hb=>(hf b hb).1,I2.hok.fresh (Nat.le_refl _),hacc,⟨[],0,[],rfl,.nil,.nil,Nat.zero_le _⟩⟩ (T.keep _ _ _ st0 fun b hb o e=>keep b o e) run fun s' σ' H' P' α' o' st=>?_
  ·refine⟨hn,hne,fun hm=>?_,.inr (Nat.le_refl _),fun x c h z=>?_,fun p hp=>absurd (show p∈([]:List (Addr × Obj)) from hp) (by simp)⟩
   ·obtain⟨_,o,ho,_⟩:=I2.stack.mem hm
    exact Nat.lt_irrefl _ (Heap.lt_size ho)
   ·obtain⟨v,ob,hob,_⟩:=I2.cell x c (xX S I2.ok h)
    rw[z] at hob
    exact Nat.lt_irrefl _ (Heap.lt_size hob)
  ·obtain⟨_,h1,h2,h3,h4,h5⟩:=hf b hb
   refine⟨hn b hb,Nat.ne_of_lt (Nat.lt_of_lt_of_le (hlt b hb) hC),fun hm=>?_,.inl hb,fun x c h=>h4 x c (xX S I2.ok h),fun p hp=>absurd (show p∈([]:List (Addr × Obj)) from hp) (by simp)⟩
   rcases List.mem_cons.mp (I2.stkSub b hm) with z|z
   ·exact h1 z
   ·exact h2 z
  ·obtain⟨m,hm,_⟩:=st.inv.loc
   exact hRR _ _ s' (Nat.le_refl _) ⟨m,hm⟩ hC hne fun h' sb=>ZS I2 hf rfl hC (Nat.le_refl _) hne st sb
 exact codeAny_compStart_list (loop _) (T.self X.A 0 _ _ _ (T.keep _ _ _ st0 fun b hb o e=>keep b o e) (loop _))
theorem X2 (hc:X.calm=true)(S:CompSc X.env.scope X.N scope N' cap)(hi:PI X tg iter (tDI2 X fi))
  (hg:∀ cl C ex s₀ H₀,PG (qW X N' scope cl C ex s₀ H₀) tg (tDG (qW X N' scope cl C ex s₀ H₀) g))
  (ht:∀ cl C ex s₀ H₀,PTs (qW X N' scope cl C ex s₀ H₀) ifs t) (has:∀ g',(⟨tg,iter,ifs,0⟩::rest:List Comprehension)[0+1]? = some g'→g'.is_async=0) (he:∀ cl C ex s₀ H₀,PK (qW X N' scope cl C ex s₀ H₀) (fun acc=>xL elt (⟨tg,iter,ifs,0⟩::rest) scope pos 0 acc (qW X N' scope cl C ex s₀ H₀).env) kk)
  (hs:∀ x,foldedSetIterable iter X.env x=pure x:=by intro _;rfl):PE X (.ListComp elt (⟨tg,iter,ifs,0⟩::rest) scope pos) (tD X (qO mm cap fi g t kk)):=by
 intro pins s σ H Q I h
 obtain⟨P,α,env,S0,r,re,af⟩:=h
 rw[eval_ListComp]
 have af':qK X P α ((fi env S0).bind fun p S1=>mkM mm (goL p.1 g t kk p.2 (zW cap env) S1 [])) (OkV X P α Q):=af
 refine wpAny_comprehension_free (use:=none) rfl hs (eK S I.ok) S.kind S.names ?_
 refine thn (hi pins s σ H (fun J H1=>∃ (P1:Hp) (α1:List Addr) (p:Option (Nat × MO) × List _D.D) (S1:Sto),Rel X.K H1 P1 α1 S1∧qG P P1∧α<+:α1∧ItD2 X.K J P1 α1 p.1 p.2∧qK X P α (mkM mm (goL p.1 g t kk p.2 (zW cap env) S1 [])) (OkV X P α Q)) I ⟨P,α,env,S0,r,re,?_⟩) fun xv s1 h1=>thn h1 fun itv s2 h2=>?_
 ·cases q:fi env S0 with
  |bad=>rw[q] at af';exact af'
  |ex c x S'=>rw[q] at af';exact af'
  |ok p S1=>rw[q] at af';exact fun J H1 P1 α1 r1 e1 e2 it=>⟨P1,α1,p,S1,r1,e1,e2,it,af'⟩
 obtain⟨it,fp,tn,J,H2,rfl,I2,T,st0,hf,P1,α1,p,S1,r1,e1,e2,hit,af1⟩:=h2
 obtain⟨envF,ds,SF,run,ok⟩:=QC af1
 refine bS (RR:=fun acc C=>compPost (model X.prog X.w) X.A X.xe none (EP X pins σ Q) acc C) hc S has hg ht he I2 r1 (re.mono e1 e2) T st0 hf hit run ?_
 intro acc C s' hA ⟨m,hm⟩ hC hne fin
 refine⟨m,hm,fun h' sb=>XD (mm:=mm) (fin h' sb) ?_⟩
 cases mm with
 |false=>exact fun v H3 P3 α3 r3 q1 q2 q3=>ok v H3 P3 α3 r3 (e1.trans q1) (e2.trans q2) q3
 |true=>exact fun v H3 P3 α3 r3 q1 q2 q3=>ok v H3 P3 α3 r3 (e1.trans q1) (e2.trans q2) q3
theorem X9 {i:Nat}{y:Str}{py spos:Pos}(hc:X.calm=true)(hN:X.N.Nodup)(S:CompSc X.env.scope X.N scope N' cap)(hi:PI X tg iter (tDI2 X fi))
  (hg:∀ cl C ex s₀ H₀,PG (qW X N' scope cl C ex s₀ H₀) tg (tDG (qW X N' scope cl C ex s₀ H₀) g))
  (ht:∀ cl C ex s₀ H₀,PTs (qW X N' scope cl C ex s₀ H₀) ifs t) (has:∀ g',(⟨tg,iter,ifs,0⟩::rest:List Comprehension)[0+1]? = some g'→g'.is_async=0) (he:∀ cl C ex s₀ H₀,PK (qW X N' scope cl C ex s₀ H₀) (fun acc=>xL elt (⟨tg,iter,ifs,0⟩::rest) scope pos 0 acc (qW X N' scope cl C ex s₀ H₀).env) kk)
  (hy:X.N[i]? = some y:=by rfl) (hyl:Loc X.env.scope y:=by first|exact Or.inl rfl|exact Or.inr rfl) (hf:X.fn y=true∨X.env.scope.names.lookup y=some .local:=by first|exact .inl rfl|exact .inr rfl|assumption)
  (hsw:swapsWith (.ListComp elt (⟨tg,iter,ifs,0⟩::rest) scope pos) (some (.Name y py)) spos.line X.env=pure true:=by rfl)
  (hs:∀ x,foldedSetIterable iter X.env x=pure x:=by intro _;rfl):PS X (.Assign [.Name y py] (.ListComp elt (⟨tg,iter,ifs,0⟩::rest) scope pos) spos) (tDS X (zE (qO mm cap fi g t kk) (gNm i))):=by
 intro pins s σ H D I h
 obtain⟨P,α,env,S0,r,re,af⟩:=h
 have af0:=yH af
 have af':qK X P α ((fi env S0).bind fun p S1=>mkM mm (goL p.1 g t kk p.2 (zW cap env) S1 [])) (fun d S=>zF X P α (.nx (env.set i (some d)) S) D):=af0
 rw[exec_Assign_Name_used _ _ _ _ hsw]
 refine wpAny_bind (wpAny_standAt (wpAny_bind ?_))
 show wpAny _ X.A (do let _ ← comprehension (.ListComp elt (⟨tg,iter,ifs,0⟩::rest) scope pos) scope X.env _ (newList []) false (eval iter X.env) (some (assign (.Name y py) X.env))) _ _ s
 refine wpAny_bind (wpAny_mono (wpAny_comprehension_free (use:=some (assign (.Name y py) X.env)) (Q:=fun _ s'=>SP X pins D .next s') rfl hs (eK S I.ok) S.kind S.names ?_) (fun _ s' hq=>wpAny_pure (wpAny_pure hq)) fun _ _ e=>e)
 refine thn (hi pins s σ H (fun J H1=>∃ (P1:Hp) (α1:List Addr) (p:Option (Nat × MO) × List _D.D) (S1:Sto),Rel X.K H1 P1 α1 S1∧qG P P1∧α<+:α1∧ItD2 X.K J P1 α1 p.1 p.2∧qK X P α (mkM mm (goL p.1 g t kk p.2 (zW cap env) S1 [])) (fun d S=>zF X P α (.nx (env.set i (some d)) S) D)) I ⟨P,α,env,S0,r,re,?_⟩) fun xv s1 h1=>thn h1 fun itv s2 h2=>?_
 ·cases q:fi env S0 with
  |bad=>rw[q] at af';exact af'
  |ex c x S'=>rw[q] at af';exact af'
  |ok p S1=>rw[q] at af';exact fun J H1 P1 α1 r1 e1 e2 it=>⟨P1,α1,p,S1,r1,e1,e2,it,af'⟩
 obtain⟨it,fp,tn,J,H2,rfl,I2,T,st0,hfp,P1,α1,p,S1,r1,e1,e2,hit,af1⟩:=h2
 obtain⟨envF,ds,SF,run,ok⟩:=QC af1
 refine bS (RR:=fun acc C=>compPost (model X.prog X.w) X.A X.xe (some (assign (.Name y py) X.env)) (fun _ s'=>SP X pins D .next s') acc C) hc S has hg ht he I2 r1 (re.mono e1 e2) T st0 hfp hit run ?_
 intro acc C s' hA ⟨m,hm⟩ hC hne fin
 show wpAny _ X.A (assign (.Name y py) X.env (.ref acc)) _ _ s'
 obtain⟨H3,P3,α3,vs,I3,r3,hn3,q1,q2,rp,hCn⟩:=fin s'.heap (Heap.SameBut.refl _ _)
 obtain⟨r4,e4⟩:=r3.pure (o:=.lst vs) hn3
 have hCn':(upd H3 acc (.lst vs)) C=none:=by rw[qS (Ne.symm hne)];exact hCn
 have fC:=I2.fpOk hC hCn'
 refine wpAny_assign_Name (lR I3 hN hy hyl (show qJ (V.ref acc) (Value.ref acc) from rfl) (fun s5 I5 ⟨a,sb,ha⟩=>?_) hf)
 have hCa:C≠a:=by
  rcases ha with rfl|ha
  ·exact fC.2.1
  ·exact fun z=>fC.2.2.2.2.1 _ _ ha z.symm
 refine⟨m,hm.sameBut sb hCa,fun h' sb'=>?_⟩
 have I6:Inv X pins (σ.set i (some (V.ref acc))) (upd H3 acc (.lst vs)) { s5 with heap:=h' }:=I5.turned (t':=s5.toks) (fun b o hb e=>(sb'.2 b hb).trans e) hCn' fC.2.1 fC.2.2.2.1 fC.2.2.2.2.1 fC.2.2.2.2.2
 cases mm with
 |false =>
  refine⟨_,_,I6,ok _ _ (upd P3 acc (.lst vs)) α3 r4 ?_ ((e1.trans q1).trans e4) (e2.trans q2)⟩
  exact((re.mono e1 e2).mono (q1.trans e4) q2).set i (kN (.inl (.inl z0)) (qE.mono e4 (List.prefix_refl _) _ _ rp))
 |true =>
  have hpre:α3<+:α3++[acc]:=List.prefix_append _ _
  have r5:=r3.new (o:=.lst vs) (m:=.lst ds) hn3 ⟨vs,z0,qE.mono (qG.refl _) hpre _ _ rp⟩
  refine⟨_,_,I6,ok _ _ P3 (α3++[acc]) r5 ?_ (e1.trans q1) ((e2.trans q2).trans hpre)⟩
  refine((re.mono e1 e2).mono q1 (q2.trans hpre)).set i ?_
  simp only[Rep]
  exact⟨acc,rfl,by rw[← r3.len];simp⟩
end
end _D
end
section
namespace _D
open PySem PySem.Spec PyProof.Rows _L
section
variable {prog:Program}{w:World}{A:Around}{E:Value→Shared→Prop}{s:Shared}
theorem oJ {tp:Bool}{e it l:Addr}{i:Nat}{xs:Array Value}{x old:Value}{Q:Value→Shared→Prop}(he:IsEnum s.heap e it i old)(hit:zH tp s.heap it l i)(hl:xU tp s.heap l xs)(hx:xs[i]? = some x)(ne:e≠it)
  (hQ:∀ g,IsEnumOut g e it ((i:Int)+1) x s.heap.objs.size→zH tp g it l (i+1)→IsPair g s.heap.objs.size (.int i s.toks) x→g.objs.size=s.heap.objs.size+1→(∀ b o,b≠e→b≠it→s.heap.get? b=some o→g.get? b=some o)→Q (.ref s.heap.objs.size) { s with heap:=g,toks:=s.toks+1 }) :
  wpAny (model prog w) A (Builtin.«enumerate.__next__» ⟨[.ref e],[]⟩) (fun fin s'=>∃ v,fin=.done (.ret v)∧Q v s') E s:=by
 obtain⟨hp,gn,dr,tk,os⟩:=s
 show wpAny _ _ (field (.ref e) 2 >>= _) _ _ _;refine wpAny_bind (wpAny_field he rfl (x:=.ref it) rfl (wpAny_bind (gK hit hl hx fun g1 i1 s1=>?_)))
 replace s1:Heap.SameBut it hp g1:=s1
 have e1:IsEnum g1 e it i old:=(s1.2 e ne).trans he
 show wpAny _ _ (field (.ref e) 3 >>= _) _ _ ⟨g1,gn,dr,tk,os⟩;refine wpAny_bind (wpAny_field e1 rfl (x:=rawInt i) rfl ?_)
 show wpAny _ _ (field (.ref e) 4 >>= _) _ _ ⟨g1,gn,dr,tk,os⟩;refine wpAny_bind (wpAny_field e1 rfl (x:=.none) rfl ?_)
 show wpAny _ _ (mkInt i >>= _) _ _ ⟨g1,gn,dr,tk,os⟩;refine wpAny_bind (wpAny_mkInt ?_)
 show wpAny _ _ (setField (.ref e) 3 (rawInt ((i:Int)+1)) >>= _) _ _ ⟨g1,gn,dr,tk+1,os⟩
 refine wpAny_bind (wpAny_setField_rec e1 (by simp) fun g2 e2 s2=>?_)
 replace s2:Heap.SameBut e g1 g2:=s2
 replace e2:IsEnum g2 e it ((i:Int)+1) old:=e2
 show wpAny _ _ (setField (.ref e) 4 .none >>= _) _ _ ⟨g2,gn,dr,tk+1,os⟩;refine wpAny_bind (wpAny_setField_rec e2 (by simp) fun g3 e3 s3=>?_)
 replace s3:Heap.SameBut e g2 g3:=s3
 replace e3:IsEnum g3 e it ((i:Int)+1) old:=e3
 show wpAny _ _ (newTuple [.int i tk,x] >>= _) _ _ ⟨g3,gn,dr,tk+1,os⟩;refine wpAny_bind (wpAny_newTuple ?_)
 have e4:IsEnum (g3.push { cls:=.type "tuple",data:=.seq #[.int i tk,x] }) e it ((i:Int)+1) old:=Heap.get?_push_of_some _ e3
 generalize q4:g3.push { cls:=.type "tuple",data:=.seq #[.int i tk,x] } = g4 at e4
 have sz:g3.objs.size=hp.objs.size:=by rw[s3.1,s2.1,s1.1]
 have el:e<hp.objs.size:=Heap.lt_size he
 have t4:IsPair g4 hp.objs.size (.int i tk) x:=by rw[← q4,← sz];exact Heap.get?_push_size _ rfl
 have z4:g4.objs.size=hp.objs.size+1:=by rw[← q4,Heap.size_push,sz]
 have k4:∀ b o,b≠e→b≠it→hp.get? b=some o→g4.get? b=some o:=fun b o b1 b2 q=>by
  rw[← q4];exact Heap.get?_push_of_some _ (s3.extBut b o b1 (s2.extBut b o b1 (s1.extBut b o b2 q)))
 have i4:zH tp g4 it l (i+1):=i1.keep fun o q=>by rw[← q4];exact Heap.get?_push_of_some _ (s3.extBut _ o ne.symm (s2.extBut _ o ne.symm q))
 show wpAny _ _ (Builtin.SmallTypes.ownedTupleIsFree (.ref e) >>= _) _ _ ⟨g4,gn,dr,tk+1,os⟩
 rw[sz]
 refine wpAny_bind ?_;unfold Builtin.SmallTypes.ownedTupleIsFree
 refine wpAny_bind (wpAny_field e4 rfl (x:=.none) rfl (wpAny_pure ?_));simp only[if_true]
 refine wpAny_bind (wpAny_rule (wpAny_bind (wpAny_field e4 rfl (x:=old) rfl (wpAny_bind (wpAny_setField_rec e4 (by simp) fun g5 e5 s5=>?_)))))
 replace s5:Heap.SameBut e g4 g5:=s5
 replace e5:IsEnum g5 e it ((i:Int)+1) x:=e5
 show wpAny _ _ (Builtin.SmallTypes.ownedTupleHandOut (.ref e) (.ref hp.objs.size) >>= _) _ _ ⟨g5,gn,dr,tk+1,os⟩
 refine wpAny_bind ?_;unfold Builtin.SmallTypes.ownedTupleHandOut
 refine wpAny_bind (wpAny_setField_rec e5 (by simp) fun g6 e6 s6=>?_)
 replace s6:Heap.SameBut e g5 g6:=s6
 replace e6:IsEnumOut g6 e it ((i:Int)+1) x hp.objs.size:=e6
 refine wpAny_setField_rec e6 (by simp) fun g7 e7 s7=>?_
 replace s7:Heap.SameBut e g6 g7:=s7
 replace e7:IsEnumOut g7 e it ((i:Int)+1) x hp.objs.size:=e7
 have up:∀ b o,b≠e→g4.get? b=some o→g7.get? b=some o:=fun b o b1 q=>s7.extBut b o b1 (s6.extBut b o b1 (s5.extBut b o b1 q))
 exact wpAny_bind (wpAny_letGo (wpAny_pure ⟨_,rfl,hQ g7 e7 (i4.keep fun o q=>up _ o ne.symm q) (up _ _ (Nat.ne_of_gt el) t4) (by rw[s7.1,s6.1,s5.1,z4]) fun b o b1 b2 q=>up b o b1 (k4 b o b1 b2 q)⟩))
set_option maxHeartbeats 4000000 in
set_option tactic.hygienic true in
theorem XG (tp:Bool)(l:Addr)(xs:Array Value) :
  Meets (Builtin.«enumerate.__new__» ⟨[.type "enumerate",.ref l],[]⟩) (fun _ R s=>(∃ n dct sl,s.heap.get? l=some { cls:=.type (if tp then "tuple" else "list"),dict:=dct,data:=.seq xs n,slots:=sl }) ∧ R (.ok (.ret (.ref (s.heap.push (uG tp l)).objs.size))) { s with heap:=(s.heap.push (uG tp l)).push { cls:=.type "enumerate",data:=.fields #[.none,.bool false,.ref s.heap.objs.size,rawInt 0,.none,.none] } }):=
 .of_wp fun prog w A R s h=>by
  obtain⟨hp,gn,dr,tk,os⟩:=s
  obtain⟨⟨n,dct,sl,hl⟩,h⟩:=h
  have hsub:=sub_enumerate
  cases tp
  ·have L1:Heap.IsList (Shared.heap ⟨hp,gn,dr,tk,os⟩) l xs:=⟨_,hl,rfl,n,rfl⟩
   wp_walk using AutoSeq1.wpAny_loadPart' hl
   refine wpAny_stack_any fun st=>wpAny_pure ?_
   split
   ·rename_i c _ _ _ _ _
    cases (c == Value.type "enumerate") <;> (wp_walk using AutoSeq1.wpAny_loadPart' hl,wpAny_pyIter_list L1;exact⟨_,rfl,h⟩)
   ·wp_walk using AutoSeq1.wpAny_loadPart' hl,wpAny_pyIter_list L1;exact⟨_,rfl,h⟩
  ·have L1:Heap.IsTuple (Shared.heap ⟨hp,gn,dr,tk,os⟩) l xs:=⟨_,hl,rfl,n,rfl⟩
   wp_walk using AutoSeq1.wpAny_loadPart' hl
   refine wpAny_stack_any fun st=>wpAny_pure ?_
   split
   ·rename_i c _ _ _ _ _
    cases (c == Value.type "enumerate") <;> (wp_walk using AutoSeq1.wpAny_loadPart' hl,wpAny_pyIter_tuple L1;exact⟨_,rfl,h⟩)
   ·wp_walk using AutoSeq1.wpAny_loadPart' hl,wpAny_pyIter_tuple L1;exact⟨_,rfl,h⟩
theorem o4 {tp:Bool}{l:Addr}{xs:Array Value}{Q:Value→Shared→Prop}(hl:∃ n dct sl,s.heap.get? l=some { cls:=.type (if tp then "tuple" else "list"),dict:=dct,data:=.seq xs n,slots:=sl })
  (h:∀ g,IsEnum g (s.heap.objs.size+1) s.heap.objs.size 0 .none→zH tp g s.heap.objs.size l 0→(∀ b o,s.heap.get? b=some o→g.get? b=some o)→Q (.ref (s.heap.objs.size+1)) { s with heap:=g }) :
  wpAny (model prog w) A (call (.type "enumerate") [.ref l]) Q E s:=by
 refine callType_new F.called_enumerate (by decide) (F.typeCall_enumerate_1 _) (F.newCall_enumerate_1 _) (fun obj=>F.args_object_init_2 obj _) F.entry_enumerate_new (XG tp l xs) ⟨hl,?_⟩
 have hz:(s.heap.push (uG tp l)).objs.size=s.heap.objs.size+1:=Heap.size_push ..
 show _∧_
 have he:((s.heap.push (uG tp l)).push { cls:=.type "enumerate",data:=.fields #[.none,.bool false,.ref s.heap.objs.size,rawInt 0,.none,.none] }).get? (s.heap.push (uG tp l)).objs.size=some _:=Heap.get?_push_size _ rfl
 rw[hz] at he ⊢
 exact⟨⟨_,he,rfl⟩,h _ he (gE (Heap.get?_push_of_some _ (Heap.get?_push_size _ rfl))) fun b o x=>Heap.get?_push_of_some _ (Heap.get?_push_of_some _ x)⟩
end
end _D
end
section
namespace _D
open PySem PySem.Spec PyProof.Rows _L
def Ite (tp:Bool)(K:PySem.W.Frag)(a:Addr):It:=
  ⟨fun i H=>∃ xs x,Sq tp K H a xs∧xs[i]? = some x,
   fun i H v H'=>∃ T x,v=.ref T∧H T=none∧H'=upd H T (.tup [.int i,x])∧∀ xs,Sq tp K H a xs→xs[i]? = some x,
   fun i H=>∃ xs,Sq tp K H a xs∧xs.length≤i⟩
def iW (tp:Bool)(e it l:Addr)(k:Nat)(h:Heap):Prop:=∃ old,IsEnum h e it k old∧zH tp h it l k
theorem Z6 {P:Program}{w:World}{K:PySem.W.Frag}{elts:List Expr}{x1:Nat}{tpos:Pos}{tp:Bool}{e it a:Addr}(ne:e≠it):Turn P w K (.Tuple elts x1 tpos) (Ite tp K a) [e,it] e (iW tp e it a) where
 mem:=by simp
 obj:=fun k h st c hc=>by
  obtain⟨old,s1,s2⟩:=st
  simp only[List.mem_cons,List.not_mem_nil,or_false] at hc
  rcases hc with rfl|rfl
  ·exact⟨_,s1,fun v y=>by cases y⟩
  ·exact s2.there
 keep:=fun k h h' st kp=>by
  obtain⟨old,s1,s2⟩:=st
  exact⟨old,kp e (by simp) _ s1,s2.keep fun o q=>kp it (by simp) o q⟩
 item:=by
  intro X hP hw hK hc k pins s σ H E Iv hf st hg
  subst hP hw hK
  obtain⟨old,s1,s2⟩:=st
  obtain⟨xs,x,qa,hx⟩:=hg
  obtain⟨ia,ra,ha⟩:=qa.at Iv
  obtain⟨u,hu,ru⟩:=ra.get hx
  have hT:s.TypeIs (.ref e) "enumerate":=⟨_,s1,rfl⟩
  unfold pyNext
  refine wpAny_bind (wpAny_attempt (wpAny_callSpecial?_slot (name:=Str.ofString "__next__") hT F.slot_enumerate_next (wpAny_call_entry F.slot_enumerate_next hT F.entry_enumerate_next
   (oJ s1 s2 ha (by simpa using hu) ne fun h' a1 a2 a3 a4 a5=>wpAny_pure ?_) (F.args_enumerate_next_1 _))))
  refine⟨_,rfl,wpAny_letOwnedTupleGo_enum (s:={ s with heap:=h',toks:=s.toks+1 }) a1 fun h2 b1 b2=>?_⟩
  have up:∀ c o,c≠e→h'.get? c=some o→h2.get? c=some o:=fun c o n q=>(b2.2 c n).trans q
  have el:e<s.heap.objs.size:=Heap.lt_size s1
  have T2:IsPair h2 s.heap.objs.size (.int k s.toks) u:=up _ _ (Nat.ne_of_gt el) a3
  have st2:iW tp e it a (k+1) h2:=⟨u,b1,a2.keep fun o q=>up _ o ne.symm q⟩
  refine⟨.ref s.heap.objs.size,upd H s.heap.objs.size (.tup [.int k,x]),?_,rfl,⟨_,x,rfl,Iv.hok.fresh (Nat.le_refl _),rfl,fun zs qz=>by rw[qz.inj Iv qa];exact hx⟩,st2,fun c hc=>?_⟩
  ·have:=Inv.turnLay (fp:=[e,it]) (its:=[.int k s.toks,u]) (h':=h2) (xs:=[.int k,x]) Iv hf (fun c o hc q=>by
    simp only[List.mem_cons,List.not_mem_nil,or_false,not_or] at hc
    exact up c o hc.1 (a5 c o hc.1 hc.2 q)) (fun c hc=>by
    obtain⟨old',t1,t2⟩:=st2
    simp only[List.mem_cons,List.not_mem_nil,or_false] at hc
    rcases hc with rfl|rfl
    ·exact⟨_,t1⟩
    ·obtain⟨o,q,_⟩:=t2.there;exact⟨o,q⟩) (Nat.le_refl _) (.cons ⟨_,rfl⟩ (.cons ru .nil)) ⟨_,T2,rfl,_,rfl⟩ (by show 2≤sizeLine;decide)
   exact this.tok (s.toks+1)
  ·have hn:=(hf c hc).1
   rw[qS ?_]
   ·exact hn
   ·rintro rfl
    obtain⟨o,q,_⟩:∃ o,s.heap.get? s.heap.objs.size=some o∧True:=by
     simp only[List.mem_cons,List.not_mem_nil,or_false] at hc
     rcases hc with z|z
     ·exact⟨_,z▸s1,trivial⟩
     ·obtain⟨o,e',_⟩:=s2.there;exact⟨o,z▸e',trivial⟩
    exact absurd (Heap.lt_size q) (Nat.lt_irrefl _)
 done:=by
  intro X hP hw hK hc k pins s σ H E Iv hf st hg
  subst hP hw hK
  obtain⟨old,s1,s2⟩:=st
  obtain⟨xs,qa,hend⟩:=hg
  obtain⟨ia,ra,ha⟩:=qa.at Iv
  have hT:s.TypeIs (.ref e) "enumerate":=⟨_,s1,rfl⟩
  have l1:=ra.length
  unfold pyNext
  refine wpAny_bind (wpAny_attempt (wpAny_callSpecial?_slot (name:=Str.ofString "__next__") hT F.slot_enumerate_next (wpAny_call_entry F.slot_enumerate_next hT F.entry_enumerate_next ?_ (F.args_enumerate_next_1 _))))
  show wpAny _ _ (field (.ref e) 2 >>= _) _ _ _
  refine wpAny_bind (wpAny_field s1 rfl (x:=.ref it) rfl (wpAny_bind (jK (Iv.ok.hd hc) s2 ha (by simp;omega) fun h' x kp hx'=>?_)))
  obtain⟨o,ho,hcl⟩:=hx'
  refine wpAny_bind (wpAny_isInstance (T:="StopIteration") (b:=true) ⟨o,ho,hcl⟩ isSubtype_stop (wpAny_pure ⟨rfl,Inv.turnL (fp:=[e,it]) Iv hf fun c o hc q=>?_⟩))
  simp only[List.mem_cons,List.not_mem_nil,or_false,not_or] at hc
  exact kp c o hc.2 q
 self:=fun _ _ _ _ _ st h=>by
  obtain⟨old,s1,_⟩:=st
  exact wpAny_pyIter_enum s1 h
def v7 (xs:List D):List D:=xs.mapIdx fun i x=>D.tup [.int i,x]
def YK (ds:List D):Option (List D):=match ds with
 |[.tup xs]=>some (v7 xs)
 |[.lst xs]=>some (v7 xs)
 |_=>none
def aQ (f:DA):DI:=fun env S=>(f env S).bind fun ds S1=>vP (YK ds) S1
theorem oI (xs:List D)(i:Nat):(v7 xs)[i]? = (xs[i]?).map fun x=>D.tup [.int i,x]:=by
 unfold v7
 rw[List.getElem?_mapIdx]
theorem pG (xs:List D):(v7 xs).length=xs.length:=by simp[v7]
theorem XX {K:PySem.W.Frag}{tp:Bool}{P:Hp}{α : List Addr}{a:Addr}{xs:List D}{vs:List V}(qa:Sq tp K P a vs)(ta:qE K P α xs vs):ItD K (Ite tp K a) P α (v7 xs) where
 go:=fun i H P1 α1 S hi r e _=>by
  rw[pG] at hi
  have h1:i<vs.length:=by rw[← ta.length];omega
  exact⟨vs,vs[i],qa.mono (e.trans r.sub),by simp⟩
 yld:=fun i H x H' P1 α1 S hi r e e2 y=>by
  obtain⟨T,u,rfl,hT,rfl,hu⟩:=y
  rw[pG] at hi
  obtain⟨v1,z1,p1⟩:=ta.get (List.getElem?_eq_getElem hi)
  have eu:=hu vs (qa.mono (e.trans r.sub))
  rw[z1] at eu;cases eu
  obtain⟨r1,s1⟩:=r.pure (o:=.tup [.int i,u]) hT
  refine⟨_,.tup [.int i,xs[i]],?_,r1,s1,?_⟩
  ·rw[oI,List.getElem?_eq_getElem hi];rfl
  ·exact bG (.of z0) (.cons (by simp only[Rep]) (.cons (Rep.mono (e.trans s1) e2 _ _ p1) .nil))
 stop:=fun i H P1 α1 S hi r e _=>by
  rw[pG] at hi
  have l1:=ta.length
  exact⟨vs,qa.mono (e.trans r.sub),by omega⟩
section
variable {X:Cx}{e1:Expr}{elts:List Expr}{x1:Nat}{tpos:Pos}{f:DA}{p pos:Pos}
theorem Sq.obj {tp:Bool}{pins:List (Addr × Obj)}{σ : _L.St}{H:Hp}{s:Shared}{a:Addr}{xs:List V}(I:Inv X pins σ H s)(q:Sq tp X.K H a xs):∃ its:List Value,qN xs its∧∃ n dct sl,s.heap.get? a=some { cls:=.type (if tp then "tuple" else "list"),dict:=dct,data:=.seq its.toArray n,slots:=sl }:=by
 obtain⟨its,rv,h⟩:=q.at I
 refine⟨its,rv,?_⟩
 cases tp with
 |true =>
  obtain⟨o,ho,hc,n,hd⟩:=h
  obtain⟨c,d,dt,sl⟩:=o
  dsimp only at hc hd
  subst hc;subst hd
  exact⟨n,_,_,ho⟩
 |false =>
  obtain⟨o,ho,hc,n,hd⟩:=h
  obtain⟨c,d,dt,sl⟩:=o
  dsimp only at hc hd
  subst hc;subst hd
  exact⟨n,_,_,ho⟩
theorem eQ {tp:Bool}{pins:List (Addr × Obj)}{σ : _L.St}{H P:Hp}{α : List Addr}{S:Sto}{s:Shared}{a:Addr}{xs:List D}{vs:List V}{R:It→Hp→Prop}(I:Inv X pins σ H s)(r:Rel X.K H P α S)(qa:Sq tp X.K P a vs)(ta:qE X.K P α xs vs)
  (q:OkI X P α R (v7 xs) S):wpAny (model X.prog X.w) X.A (call (.type "enumerate") [.ref a]) (fun v s1=>wpAny (model X.prog X.w) X.A (pyIter v) (PIE X pins σ (.Tuple elts x1 tpos) R) X.xe s1) X.xe s:=by
 obtain⟨ia,ra,ha⟩:=Sq.obj I (qa.mono r.sub)
 refine o4 (tp:=tp) ha fun h' z1 z2 z7=>?_
 refine wpAny_pyIter_enum (s:={ s with heap:=h' }) z1 ?_
 refine⟨_,[s.heap.objs.size+1,s.heap.objs.size],_,_,H,rfl,I.kept (t':=s.toks) z7,Z6 (tp:=tp) (a:=a) (by intro z;simp at z),⟨_,z1,z2⟩,fun c hc=>?_,q _ _ P α r (qG.refl _) (List.prefix_refl _) (XX qa ta)⟩
 have hl:s.heap.objs.size≤c:=by
  simp only[List.mem_cons,List.not_mem_nil,or_false] at hc
  rcases hc with rfl|rfl <;> simp
 exact I.fpOk hl (I.hok.fresh hl)
theorem tH:bootBuiltins "enumerate" = some (.type "enumerate"):=by decide +kernel
theorem XF {ds its:List D}(h:YK ds=some its):∃ d xs,ds=[d]∧ItV d xs∧its=v7 xs:=by
 cases ds with
 |nil=>exact nn h
 |cons d ds =>
  cases ds with
  |cons _ _=>cases d <;> exact nn h
  |nil =>
   cases d with
   |tup xs=>exact⟨_,xs,rfl,.tup rfl,(Option.some.inj h).symm⟩
   |lst xs=>exact⟨_,xs,rfl,.lst rfl,(Option.some.inj h).symm⟩
   |_=>exact nn h
theorem VU (hg:Gl X "enumerate")(hm:X.mg "enumerate" = none)(ha:PA X [e1] (tDA X f))(hs:starEach [e1] X.env=(false,eval e1 X.env)::starEach [] X.env:=by rfl)(hpl:(backTo pos (starEach [] X.env)).any (·.1)=false:=by rfl) :
  PI X (.Tuple elts x1 tpos) (.Call (.Name "enumerate" p) [e1] [] pos) (tDI X (aQ f)):=by
 intro pins s σ H R I h
 obtain⟨P,α,env,S,r,re,af⟩:=h
 refine Call_ (uI I hg hm tH (PyProof.Rows.callWith_type1 (thn (yZ ha I r re af pos) fun us s1 ⟨vs,H1,P1,α1,ds,S1,I1,rv,r1,re1,rp,e1,e2,af1⟩=>?_) hs hpl))
 obtain⟨its,hi,q⟩:=vZ af1
 obtain⟨d,xs,rfl,hd,rfl⟩:=XF hi
 obtain⟨v,u,rfl,rfl,p1,q1⟩:=vO rp rv
 cases hd with
 |tup ed =>
  subst ed
  simp only[Rep] at p1
  obtain⟨a,va,rfl,qa,ta⟩:=p1
  cases (show u=Value.ref a from q1)
  exact eQ (tp:=true) I1 r1 qa ta (q.base e1 e2)
 |lst ed =>
  subst ed
  simp only[Rep] at p1
  obtain⟨a,va,rfl,qa,ta⟩:=p1
  cases (show u=Value.ref a from q1)
  exact eQ (tp:=false) I1 r1 qa.l ta (q.base e1 e2)
end
end _D
end
section
namespace _D
open PySem PySem.Spec PyProof.Rows _L
section
variable {X:Cx}
def wC:D→List D→Sto→Res D:=fun a ds S=>match a,ds with
 |.loc n,[i,x]=>match S[n]? with
  |some (.dct kvs)=>match vW i with
   |some k=>match wZ kvs k with
    |some d=>.ok d S
    |none=>if kvs.length<lim then .ok x (S.set n (.dct (vC kvs k x))) else .bad
   |none=>.bad
  |_=>.bad
 |_,_=>.bad
theorem bN (a b c:Value):argsOk "dict.setdefault" ⟨[a,b,c],[]⟩:=by unfold argsOk;kernel_rfl
inductive SdV (a:D)(ds:List D)(S:Sto):Prop
 |bad (e:wC a ds S=.bad)
 |of (n:Nat) (i x:D) (kvs:List (Key × D)) (k:Key) (ea:a=.loc n) (ed:ds=[i,x]) (hS:S[n]? = some (.dct kvs)) (hk:vW i=some k) (e:wC a ds S=(match wZ kvs k with|some d=>.ok d S|none=>if kvs.length<lim then .ok x (S.set n (.dct (vC kvs k x))) else .bad))
theorem sdV (a:D)(ds:List D)(S:Sto):SdV a ds S:=by
 cases a with
 |loc n =>
  cases ds with
  |nil=>exact .bad rfl
  |cons i ds =>
   cases ds with
   |nil=>exact .bad rfl
   |cons x ds =>
    cases ds with
    |cons _ _=>exact .bad rfl
    |nil =>
     have z:wC (.loc n) [i,x] S=(match S[n]? with|some (.dct kvs)=>(match vW i with|some k=>(match wZ kvs k with|some d=>.ok d S|none=>if kvs.length<lim then .ok x (S.set n (.dct (vC kvs k x))) else .bad)|none=>.bad)|_=>.bad):=rfl
     cases hS:S[n]? with
     |none=>rw[hS] at z;exact .bad z
     |some m =>
      rw[hS] at z
      cases m with
      |dct kvs =>
       cases hk:vW i with
       |none=>rw[hk] at z;exact .bad z
       |some k=>rw[hk] at z;exact .of n i x kvs k rfl rfl hS hk z
      |_=>exact .bad z
 |_=>exact .bad rfl
theorem Q9:MtD X "dict.setdefault" wC:=by
 intro pins σ H s P α S v vv vs us a ds Q I r rv p rvs rps af
 cases sdV a ds S with
 |bad e=>rw[e] at af;exact False.elim af
 |of n i x kvs k ea ed hS hk e =>
  rw[e] at af
  subst ea ed
  clear e
  obtain⟨vi,vx,ui,ux,rfl,rfl,pi,px,qi,qx⟩:=dG rps rvs
  simp only[Rep] at p
  obtain⟨b,rfl,q⟩:=p
  obtain⟨ws,z,t⟩:=r.at' n b _ q hS
  cases oW hk pi
  cases (show vv=Value.ref b from rv)
  obtain⟨hz,hd,us',rel,dd⟩:=aS I.hok z
  have hz':us'.length≤sizeLine:=by rw[← rel.length];exact hz
  obtain⟨k1,k2⟩:=c9 (k:=k) t
  have er:=rel.val k
  refine call_meetsIn PySem.F.slot_dict_setdefault dd.typeIs PySem.F.entry_dict_setdefault (bN _ _ _) (kt_meets_setdefault (zS X.prog X.w) b (mI qi) hd ux) ⟨us',dd,hz',fun v' hv'=>?_,fun hn h' dd' hs=>?_⟩
  ·cases hv:wZ kvs k with
   |none =>
    rw[k2 hv,hv'] at er
    exact False.elim er
   |some d =>
    obtain⟨w',e1,e2⟩:=k1 d hv
    rw[hv] at af
    rw[e1,hv'] at er
    exact⟨w',H,I.tok _,er,xr af r e2⟩
  ·cases hv:wZ kvs k with
   |some d =>
    obtain⟨w',e1,e2⟩:=k1 d hv
    rw[e1,hn] at er
    exact False.elim er
   |none =>
    rw[hv] at af
    obtain⟨hl,af⟩:=pJ (X:=X) af
    have hl':(vD ws k vx).length≤sizeLine:=by
     have:=k7 ws k vx
     have e3:=hW t
     rw[← xJ];omega
    have he:∃ q,h'.get? b=some q:=let ⟨q,_,_,hq,_⟩:=dd';⟨q,hq⟩
    have I':=tL (t':=s.toks+1) I (by rw[z];exact True.intro) hs he (oF hl' hd (rel.put k qx) dd')
    exact⟨vx,_,I',qx,af _ _ P α (r.put (m':=.dct (vC kvs k x)) q hS (by intro z;cases z) ⟨_,z0,hX px t⟩) (qG.refl _) (List.prefix_refl _) px⟩
def zN:List D→Option (List Int)
 |[]=>some []
 |.int i::r=>(zN r).map (i::·)
 |_::_=>none
theorem uH (ns:List Int):zN (ns.map D.int)=some ns:=by
 induction ns with
 |nil=>rfl
 |cons n r ih=>exact congrArg (Option.map (n::·)) ih
theorem wJ:∀ {ds:List D} {ns:List Int},zN ds=some ns→ds=ns.map D.int
 |[],ns,h=>by cases h;rfl
 |d::r,ns,h=>by
  cases d with
  |int i =>
   obtain⟨m,h1,rfl⟩:=Option.map_eq_some_iff.mp (show (zN r).map (i::·)=some ns from h)
   rw[wJ h1];rfl
  |_=>exact nn h
theorem xN {K:PySem.W.Frag}{P:Hp}{α : List Addr}:∀ {ns:List Int} {vs:List V},qE K P α (ns.map D.int) vs→vs=ns.map V.int
 |[],vs,r=>by rw[r.nil_inv];rfl
 |n::ns,vs,r=>by
  obtain⟨w,ws,rfl,p,t⟩:=r.cons_inv
  simp only[Rep] at p
  rw[p,xN t];rfl
def fG:G2:=fun a b S=>match a,b with
 |.tup xs,.tup ys=>match zN xs,zN ys with
  |some ns,some ms=>.ok (.bl (_H.lexLt ns ms)) S
  |_,_=>.bad
 |_,_=>gLt a b S
end
section
variable {X:Cx}
theorem rS {pins:List (Addr × Obj)}{σ : _L.St}{H P:Hp}{α : List Addr}{S:Sto}{s:Shared}{xs:List D}{v:V}{vv:Value}{ns:List Int}(I:Inv X pins σ H s)(r:Rel X.K H P α S)(rv:qJ v vv)(p:Rep X.K P α (.tup xs) v)(h:zN xs=some ns) :
  ∃ a its,vv=.ref a∧IsTup s.heap a (List.toArray its)∧IntsAre its ns:=by
 have:=wJ h
 subst this
 obtain⟨a,vs,its,rfl,q1,t1,rv1,h1,l1,_⟩:=vT I r p
 have:=xN t1
 subst this
 exact⟨a,its,rv,h1,by simpa using vM rv1⟩
set_option tactic.hygienic true in
theorem F1 (hu:X.A.units<cLine):OpD X (compareOp .Lt) fG:=by
 intro pins σ H s P α S v u vv uu a b Q I r rv ru pa pb af
 unfold fG at af
 split at af
 ·rename_i xs ys
  split at af
  ·rename_i ns ms h1 h2
   obtain⟨a,its,rfl,t1,i1⟩:=rS I r rv pa h1
   obtain⟨b,its2,rfl,t2,i2⟩:=rS I r ru pb h2
   exact _H.lt_tupInts t1 t2 (by simpa using i1) (by simpa using i2) hu ⟨.bl _,H,I,rfl,xr af r (by simp only[Rep])⟩
  ·exact False.elim af
 ·exact YZ pins σ H s P α S v u vv uu a b Q I r rv ru pa pb af
end
end _D
end
section
namespace _D
open PySem PySem.Spec PyProof.Rows _L
section
variable {X:Cx}
def sF:DF:=fun ds S=>match ds with
 |[d]=>match (x0 d).bind zN with
  |some ns=>.ok (.int ns.sum) S
  |none=>.bad
 |_=>.bad
theorem UC {ds:List D}{S:Sto}{P:Hp}{α : List Addr}{Ok:D→Sto→Prop}(h:qK X P α (sF ds S) Ok):∃ d xs ns,ds=[d]∧ItV d xs∧zN xs=some ns∧Ok (.int ns.sum) S:=by
 obtain⟨d,rfl,h1⟩:=rC (X:=X) (β:=D) (g:=fun d=>match (x0 d).bind zN with|some ns=>.ok (D.int ns.sum) S|none=>.bad) h
 cases hb:(x0 d).bind zN with
 |none=>rw[hb] at h1;exact False.elim h1
 |some ns =>
  rw[hb] at h1
  obtain⟨xs,hx,hns⟩:=Option.bind_eq_some_iff.mp hb
  exact⟨d,xs,ns,rfl,itV hx,hns,h1⟩
theorem eV {ns:List Int}{us:List Value}(rv:qN (ns.map V.int) us){i:Nat}{v:Value}(h:us.toArray[i]? = some v):∃ t,v=.int (ns.getD i 0) t:=by
 have hu:us[i]? = some v:=by simpa using h
 have hl:=rv.length
 rw[List.length_map] at hl
 have hi:i<us.length:=(List.getElem?_eq_some_iff.mp hu).1
 have hn:i<ns.length:=by omega
 obtain⟨u,h1,h2⟩:=rv.get (i:=i) (x:=.int ns[i]) (by rw[List.getElem?_map,List.getElem?_eq_getElem hn];rfl)
 cases h1.symm.trans hu
 obtain⟨t,rfl⟩:=h2
 exact⟨t,by simp[List.getD,hn]⟩
theorem GO (hc:X.calm=true):y7 X (.builtin "sum") sF:=by
 intro pins σ H s P α S vs us ds Q I r rv rp af
 obtain⟨d,xs,ns,ed,hd,hns,ok⟩:=UC af
 clear af
 subst ed
 obtain⟨v,u,rfl,rfl,p,q⟩:=vO rp rv
 clear rp rv
 have fin:∀ {o:Obj} (h':Heap) (tk t':Nat),(∀ b ob,b ∉ [s.heap.objs.size]→(s.heap.push o).get? b=some ob→h'.get? b=some ob)→EP X pins σ Q (.int (preSum (fun i=>ns.getD i 0) ns.length) t') { s with heap:=h',toks:=tk }:=
  fun {o} h' tk t' k=>⟨.int _,H,lG I k,⟨t',rfl⟩,xr ok r (by simp only[Rep];rw[preSum_getD,List.take_length])⟩
 clear ok
 have hh:X.A.in1.handled=none:=I.ok.hd hc
 cases hd with
 |tup ed =>
  subst ed
  obtain⟨a,ws,its,rfl,sq,t,rvi,ht,hl,_⟩:=vT I r p
  cases (show u=Value.ref a from q)
  cases wJ hns
  cases xN t
  have hlen:its.toArray.size=ns.length:=by have:=rvi.length;rw[List.length_map] at this;rw[List.size_toArray,this]
  have hne:a≠s.heap.objs.size:=by obtain⟨o,e,_⟩:=ht;exact Nat.ne_of_lt (Heap.lt_size e)
  have W:=Walks.tuple (prog:=X.prog) (w:=X.w) hh s.heap.objs.size a hne its.toArray
  have hT:∀ o,(s.heap.push o).IsTuple a its.toArray:=fun o=>by obtain⟨o,e,c⟩:=ht;exact⟨o,Heap.get?_push_of_some _ e,c⟩
  have ht':s.heap.IsTuple a its.toArray:=ht
  refine call_sum_walkG (wpAny_pyIter_tuple ht' ⟨s.heap.objs.size,_,_,_,_,_,fun i=>ns.getD i 0,rfl,W,⟨⟨_,Heap.get?_push_size _ rfl,rfl,rfl⟩,hT _⟩,?_,fun i v h=>eV rvi h,fun h' tk t' k=>?_⟩)
  ·intro b hb
   have:b<s.heap.objs.size+1:=by
    simp only[List.mem_cons,List.not_mem_nil,or_false] at hb
    rcases hb with rfl|rfl
    ·exact Nat.lt_succ_self _
    ·obtain⟨o,e,_⟩:=ht
     exact Nat.lt_succ_of_lt (Heap.lt_size e)
   rw[Heap.size_push]
   exact this
  ·rw[hlen]
   exact fin h' tk t' k
 |lst ed =>
  subst ed
  obtain⟨a,ws,its,n,rfl,sq,t,rvi,ht,hl,_⟩:=uJ I r p
  cases (show u=Value.ref a from q)
  cases wJ hns
  cases xN t
  have hL:s.heap.IsList a its.toArray:=⟨_,ht,rfl,n,rfl⟩
  have hlen:its.toArray.size=ns.length:=by have:=rvi.length;rw[List.length_map] at this;rw[List.size_toArray,this]
  have hne:a≠s.heap.objs.size:=Nat.ne_of_lt (Heap.lt_size ht)
  have W:=Walks.list (prog:=X.prog) (w:=X.w) hh s.heap.objs.size a hne its.toArray
  have hL':∀ o,(s.heap.push o).IsList a its.toArray:=fun o=>⟨_,Heap.get?_push_of_some _ ht,rfl,n,rfl⟩
  refine call_sum_walkG (wpAny_pyIter_list hL ⟨s.heap.objs.size,_,_,_,_,_,fun i=>ns.getD i 0,rfl,W,⟨⟨_,Heap.get?_push_size _ rfl,rfl,rfl⟩,hL' _⟩,?_,fun i v h=>eV rvi h,fun h' tk t' k=>?_⟩)
  ·intro b hb
   have:b<s.heap.objs.size+1:=by
    simp only[List.mem_cons,List.not_mem_nil,or_false] at hb
    rcases hb with rfl|rfl
    ·exact Nat.lt_succ_self _
    ·exact Nat.lt_succ_of_lt (Heap.lt_size ht)
   rw[Heap.size_push]
   exact this
  ·rw[hlen]
   exact fin h' tk t' k
end
end _D
end
section
namespace _D
open PySem PySem.Spec PyProof.Rows _L PySem.SeqAt
section
variable {X:Cx}{pins:List (Addr × Obj)}{σ : _L.St}{H P:Hp}{α : List Addr}{S:Sto}{s:Shared}
inductive Same2 (X:Cx)(P:Hp)(α : List Addr)(d d':D):Prop
 |eq (h:d=d')
 |tt (xs ys:List D) (its:List Value) (ed:d=.tup xs) (ed':d'=.tup ys) (q:Seqs X P α xs ys its its)
 |ll (xs ys:List D) (its:List Value) (ed:d=.lst xs) (ed':d'=.lst ys) (q:Seqs X P α xs ys its its)
theorem V8 {d d':D}{u:Value}(k1:Kd X P α s d u)(k2:Kd X P α s d' u):Same2 X P α d d':=by
 cases k1 with
 |non=>cases k2;exact .eq rfl
 |bl b=>cases k2;exact .eq rfl
 |int i t=>cases k2;exact .eq rfl
 |str x t=>cases k2;exact .eq rfl
 |tup a xs its vs rp rv h q =>
  cases k2 with
  |tup _ ys its2 ws rp2 rv2 h2 q2 =>
   cases eX h h2
   exact .tt xs ys its rfl rfl ⟨vs,ws,rp,rv,rp2,rv2⟩
  |lst _ ys its2 ws rp2 rv2 h2 q2=>exact(i6 h h2).elim
 |lst a xs its vs rp rv h q =>
  cases k2 with
  |lst _ ys its2 ws rp2 rv2 h2 q2 =>
   cases eW h h2
   exact .ll xs ys its rfl rfl ⟨vs,ws,rp,rv,rp2,rv2⟩
  |tup _ ys its2 ws rp2 rv2 h2 q2=>exact(i6 h2 h).elim
theorem l9 (I:Inv X pins σ H s)(r:Rel X.K H P α S){m:Nat}(ih:∀ (d d' e:D) (u:Value),pl m d=true→pl m d'=true→Kd X P α s d u→Kd X P α s d' u→eqD d e=eqD d' e){xs ys zs:List D}{its:List Value}(h1:xs.all (pl m)=true)(h2:ys.all (pl m)=true)(q:Seqs X P α xs ys its its):zY xs zs=zY ys zs:=by
 obtain⟨vs,ws,rp,rv,rp2,rv2⟩:=q
 have l1:=rp.length.trans rv.length
 have l2:=rp2.length.trans rv2.length
 rw[vA,vA,l1,l2]
 congr 1
 have key:∀ j∈List.range (min its.length zs.length),eqD (xs.getD j .non) (zs.getD j .non)=eqD (ys.getD j .non) (zs.getD j .non):=fun j hj=>by
  have hj':=List.mem_range.mp hj
  have hj:j<its.toArray.size:=by rw[List.size_toArray];omega
  obtain⟨w1,y1,z1,m1⟩:=wK rp rv hj
  obtain⟨w2,y2,z2,m2⟩:=wK rp2 rv2 hj
  exact ih _ _ _ _ (w9 h1 m1) (w9 h2 m2) (v8 I r (w9 h1 m1) y1 z1) (v8 I r (w9 h2 m2) y2 z2)
 rw[Bool.eq_iff_iff,List.all_eq_true,List.all_eq_true]
 exact⟨fun h j hj=>(key j hj)▸h j hj,fun h j hj=>(key j hj).symm▸h j hj⟩
theorem U6 (I:Inv X pins σ H s)(r:Rel X.K H P α S):∀ (n:Nat) (d d' e:D) (u:Value),pl n d=true→pl n d'=true→Kd X P α s d u→Kd X P α s d' u→eqD d e=eqD d' e:=by
 intro n
 induction n with
 |zero =>
  intro d d' e u h1 h2 k1 k2
  cases V8 k1 k2 with
  |eq h=>rw[h]
  |tt _ _ _ ed=>subst ed;exact Bool.noConfusion h1
  |ll _ _ _ ed=>subst ed;exact Bool.noConfusion h1
 |succ m ih =>
  intro d d' e u h1 h2 k1 k2
  cases V8 k1 k2 with
  |eq h=>rw[h]
  |tt xs ys its ed ed' q =>
   subst ed ed'
   cases e with
   |tup zs=>exact l9 I r ih h1 h2 q
   |_=>rfl
  |ll xs ys its ed ed' q =>
   subst ed ed'
   cases e with
   |lst zs=>exact l9 I r ih h1 h2 q
   |_=>rfl
open Classical in
noncomputable def eOf (X:Cx)(P:Hp)(α : List Addr)(s:Shared)(xs:List D)(d:D)(y:Value):Bool:=if h:∃ z,z∈xs∧Kd X P α s z y then eqD (Classical.choose h) d else false
theorem oG (I:Inv X pins σ H s)(r:Rel X.K H P α S){n:Nat}{xs:List D}{vs:List V}{its:List Value}{d:D}(h:xs.all (pl n)=true)(rp:qE X.K P α xs vs)(rv:qN vs its){j:Nat}(hj:j<its.length):∃ z,z∈xs∧Kd X P α s z its[j]∧eOf X P α s xs d its[j]=eqD z d∧eqD z d=eqD (xs.getD j .non) d:=by
 obtain⟨w,y,z,m⟩:=wK rp rv (j:=j) (by rw[List.size_toArray];exact hj)
 have k:=v8 I r (w9 h m) y z
 have ex:∃ z,z∈xs∧Kd X P α s z its[j]:=⟨_,m,k⟩
 have hs:=Classical.choose_spec ex
 refine⟨Classical.choose ex,hs.1,hs.2,?_,U6 I r n _ _ d _ (w9 h hs.1) (w9 h m) hs.2 k⟩
 unfold eOf
 rw[dif_pos ex]
theorem U4 (I:Inv X pins σ H s)(r:Rel X.K H P α S){n:Nat}{xs:List D}{vs:List V}{its:List Value}{d:D}(h:xs.all (pl n)=true)(rp:qE X.K P α xs vs)(rv:qN vs its):its.map (eOf X P α s xs d)=xs.map fun x=>eqD x d:=by
 have l:=rp.length.trans rv.length
 refine List.ext_getElem (by rw[List.length_map,List.length_map,l]) fun j h1 h2=>?_
 rw[List.length_map] at h1 h2
 rw[List.getElem_map,List.getElem_map]
 obtain⟨z,_,_,e1,e2⟩:=oG (d:=d) I r h rp rv h1
 rw[e1,e2]
 simp[List.getD,h2]
theorem oH (I:Inv X pins σ H s)(r:Rel X.K H P α S){n:Nat}{A:Around}{xs:List D}{vs:List V}{its:List Value}{d:D}{v:V}{u:Value}(hu:A.units+n<cLine)(h:xs.all (pl n)=true)(hd:pl n d=true)(rp:qE X.K P α xs vs)(rv:qN vs its)(p:Rep X.K P α d v)(q:qJ v u):∀ y,y∈its.toArray→EqAt A s y u (eOf X P α s xs d y):=fun y hy=>by
 obtain⟨j,hj,rfl⟩:=List.mem_iff_getElem.mp (show y∈its by simpa using hy)
 obtain⟨z,hz,k,e1,_⟩:=oG (d:=d) I r h rp rv hj
 rw[e1]
 exact(sA I r n A z d _ u hu (w9 h hz) hd k (v8 I r hd p q)).eq
def inI (a b:D):Option Bool:=match x0 b with
 |some xs=>if xs.all (pl zL)&&pl zL a then some (xs.any fun x=>eqD x a) else none
 |none=>none
def gIn:G2:=fun a b S=>match inI a b with
 |some k=>.ok (.bl k) S
 |none=>.bad
def vL:G2:=fun a b S=>match inI a b with
 |some k=>.ok (.bl (!k)) S
 |none=>.bad
theorem XV {a b:D}{k:Bool}(h:inI a b=some k):∃ xs,ItV b xs∧xs.all (pl zL)=true∧pl zL a=true∧k=xs.any fun x=>eqD x a:=by
 unfold inI at h
 cases e:x0 b with
 |none=>rw[e] at h;exact nn h
 |some xs =>
  rw[e] at h
  obtain⟨c,rfl⟩:=jJ h
  have c':=Bool.and_eq_true_iff.mp c
  exact⟨xs,itV e,c'.1,c'.2,rfl⟩
theorem NG (hu:X.A.units+64<cLine)(I:Inv X pins σ H s)(r:Rel X.K H P α S){a b:D}{v u:V}{vv uu:Value}{k:Bool}(rv:qJ v vv)(ru:qJ u uu)(pa:Rep X.K P α a v)(pb:Rep X.K P α b u)(h:inI a b=some k) :
  (∀ {Q:Value→Shared→Prop} {E:Value→Shared→Prop},Q (.bool k) s→wpAny (model X.prog X.w) X.A (compareOp .In vv uu) Q E s)∧∀ {Q:Value→Shared→Prop} {E:Value→Shared→Prop},Q (.bool (!k)) s→wpAny (model X.prog X.w) X.A (compareOp .NotIn vv uu) Q E s:=by
 obtain⟨xs,hb,h1,h2,rfl⟩:=XV h
 have hu':X.A.in1.units+zL<cLine:=by show X.A.units+1+zL<cLine;unfold zL;omega
 have any:∀ {vs:List V} {its:List Value},qE X.K P α xs vs→qN vs its→its.toArray.any (eOf X P α s xs a)=xs.any fun x=>eqD x a:=fun rp rvi=>by
  rw[← Array.any_toList]
  have e:=congrArg (fun l=>l.any id) (U4 (d:=a) I r h1 rp rvi)
  rw[List.any_map,List.any_map] at e
  exact e
 cases hb with
 |tup ed =>
  subst ed
  obtain⟨l,ws,its,rfl,sq,t,rvi,ht,_,_⟩:=vT I r pb
  cases (show uu=Value.ref l from ru)
  have he:=oH I r hu' h1 h2 t rvi pa rv
  exact⟨fun q=>in_tupleAt (eOf X P α s xs a) ht he (by rw[any t rvi];exact q),fun q=>notIn_tupleAt (eOf X P α s xs a) ht he (by rw[any t rvi];exact q)⟩
 |lst ed =>
  subst ed
  obtain⟨l,ws,its,n,rfl,sq,t,rvi,ht,_,_⟩:=uJ I r pb
  cases (show uu=Value.ref l from ru)
  have hL:s.heap.IsList l its.toArray:=⟨_,ht,rfl,n,rfl⟩
  have he:=oH I r hu' h1 h2 t rvi pa rv
  exact⟨fun q=>in_listAt (eOf X P α s xs a) hL he (by rw[any t rvi];exact q),fun q=>notIn_listAt (eOf X P α s xs a) hL he (by rw[any t rvi];exact q)⟩
theorem W7 (hu:X.A.units+64<cLine):OpD X (compareOp .NotIn) vL:=by
 intro pins σ H s P α S v u vv uu a b Q I r rv ru pa pb af
 have af1:qK X P α (match inI a b with|some k=>Res.ok (D.bl (!k)) S|none=>.bad) (OkV X P α Q):=af
 clear af
 cases e:inI a b with
 |none=>rw[e] at af1;exact False.elim af1
 |some k =>
  rw[e] at af1
  exact(NG hu I r rv ru pa pb e).2 ⟨.bl _,H,I,rfl,xr af1 r (by simp only[Rep])⟩
end
end _D
end
section
namespace _D
open PySem PySem.Spec PyProof.Rows _L
section
variable {K:PySem.W.Frag}{H P:Hp}{α : List Addr}{S:Sto}
theorem Rel.still {a:Addr}{n:Nat}{m:MO}{o:HO}(r:Rel K H P α S)(ha:α[n]? = some a)(hs:S[n]? = some m)(hd:m≠.dead):Rel K (upd H a o) (upd P a o) α (S.set n .dead)∧qG P (upd P a o):=by
 have hP:=r.sep n a m ha hs hd
 have sP:qG P (upd P a o):=gQ hP
 have r1:=r.put (o:=o) (m':=.dead) ha hs hd trivial
 have hn:n<S.length:=(List.getElem?_eq_some_iff.mp hs).1
 refine⟨⟨fun b u e=>?_,r1.len,r1.nd,fun i b u q1 q2 q3=>?_,fun i b u q1 q2=>(r1.at' i b u q1 q2).mono sP (List.prefix_refl _),r1.own⟩,sP⟩
 ·by_cases hb:b=a
  ·subst hb;rw[z0] at e ⊢;exact e
  ·rw[qS hb] at e ⊢;exact r.sub _ _ e
 ·have hb:b≠a:=by
   rintro rfl
   have:=lJ r.nd q1 ha
   subst this
   rw[List.getElem?_set_self hn] at q2
   cases q2
   exact q3 rfl
  rw[qS hb]
  exact r1.sep i b u q1 q2 q3
end
def RK (f:DE):DI:=fun env S=>(f env S).bind fun d S1=>match d with
 |.loc n=>match S1[n]? with
  |some (.dct kvs)=>.ok (kvs.map (·.2)) (S1.set n .dead)
  |_=>.bad
 |_=>.bad
theorem hZ {K:PySem.W.Frag}{P:Hp}{α : List Addr}:∀ {kvs:List (Key × D)} {vs:List (Key × V)},KVs K P α kvs vs→qE K P α (kvs.map (·.2)) (vs.map (·.2))
 |_,_,.nil=>.nil
 |_,_,.cons z t=>.cons z.2 (hZ t)
section
variable {X:Cx}{tg o:Expr}{fo:DE}{apos cpos:Pos}
theorem ZB {S:Sto}{n:Nat}{kvs:List (Key × D)}(h:S[n]? = some (.dct kvs)):tyD (.loc n) S=some "dict":=by
 show (match S[n]? with|some (.lst _)=>some "list" | some (.dct _)=>some "dict" | _=>none)=_
 rw[h]
end
end _D
end
section
namespace _D
open PySem PySem.Spec PyProof.Rows _L
section
variable {X:Cx}
theorem ZL:bootBuiltins "set" = some (.type "set"):=by decide +kernel
variable {e:Expr}{fa:DE}{p1 p2 pos1 pos2:Pos}
end
end _D
end
section
namespace _D
open PySem PySem.Spec PyProof.Rows _L
structure QI2 (X:Cx)(tg it:Expr)(f:DI2):Prop where
 get:PI X tg it (tDI2 X f)
structure QK (Y:Cx)(step:Value→Sem Unit)(k:DK):Prop where
 get:PK Y step k
section
variable {X Y:Cx}{tg it e o elt iter ie:Expr}{es ifs rest:List Expr}{fa fo fe fi:DE}{fA:DA}{fI:DI}{f2:DI2}{g:DG}{t:DT}{kk:DK}{p pos:Pos}{n k:Nat}{x:Str}{cm:Bool}{F:DF}{f:DS}{gens grest:List Comprehension}{scope:Scope}{N':List Str}{cap:List (Option Nat)}{mm:Bool}
theorem MA (h:QI X tg it fI):QI2 X tg it (w8 fI):=⟨VV h.1⟩
theorem M9 (h:QE X e fa):QI2 X tg e (dIt fa):=⟨N2 h.1⟩
theorem JV {e1:Expr}{elts:List Expr}{x1:Nat}{tpos:Pos}(hg:Gl X "enumerate")(hm:X.mg "enumerate" = none)(ha:QA X [e1] fA)(hs:starEach [e1] X.env=(false,eval e1 X.env)::starEach [] X.env:=by rfl)(hpl:(backTo pos (starEach [] X.env)).any (·.1)=false:=by rfl) :
  QI X (.Tuple elts x1 tpos) (.Call (.Name "enumerate" p) [e1] [] pos) (aQ fA):=⟨VU hg hm ha.1 hs hpl⟩
theorem JW (hx:Y.xe=fun _ _=>False)(hlast:gens[k+1]? = none)(he:QE Y elt fe):QK Y (fun acc=>xL elt gens scope pos k acc Y.env) (qP fe):=⟨JJ hx hlast he.1⟩
theorem WJ (hc:X.calm=true)(S:CompSc X.env.scope X.N scope N' cap)(hi:QI2 X tg iter f2)(hg:∀ cl C ex s₀ H₀,QG (qW X N' scope cl C ex s₀ H₀) tg g)(ht:∀ cl C ex s₀ H₀,QTs (qW X N' scope cl C ex s₀ H₀) ifs t)
  (has:∀ g',(⟨tg,iter,ifs,0⟩::grest:List Comprehension)[0+1]? = some g'→g'.is_async=0)
  (he:∀ cl C ex s₀ H₀,QK (qW X N' scope cl C ex s₀ H₀) (fun acc=>xL elt (⟨tg,iter,ifs,0⟩::grest) scope pos 0 acc (qW X N' scope cl C ex s₀ H₀).env) kk) (hs:∀ x,foldedSetIterable iter X.env x=pure x) :
  QE X (.ListComp elt (⟨tg,iter,ifs,0⟩::grest) scope pos) (qO mm cap f2 g t kk):=
 ⟨X2 hc S hi.1 (fun cl C ex s H=>(hg cl C ex s H).1) (fun cl C ex s H=>(ht cl C ex s H).1) has (fun cl C ex s H=>(he cl C ex s H).1) hs⟩
theorem WO {m:Nat}{y:Str}{py spos:Pos}(hc:X.calm=true)(hN:X.N.Nodup)(S:CompSc X.env.scope X.N scope N' cap)(hi:QI2 X tg iter f2)(hg:∀ cl C ex s₀ H₀,QG (qW X N' scope cl C ex s₀ H₀) tg g)(ht:∀ cl C ex s₀ H₀,QTs (qW X N' scope cl C ex s₀ H₀) ifs t)
  (has:∀ g',(⟨tg,iter,ifs,0⟩::grest:List Comprehension)[0+1]? = some g'→g'.is_async=0)
  (he:∀ cl C ex s₀ H₀,QK (qW X N' scope cl C ex s₀ H₀) (fun acc=>xL elt (⟨tg,iter,ifs,0⟩::grest) scope pos 0 acc (qW X N' scope cl C ex s₀ H₀).env) kk) (hy:X.N[m]? = some y) (hyl:Loc X.env.scope y) (hf:X.fn y=true∨X.env.scope.names.lookup y=some .local)
  (hsw:swapsWith (.ListComp elt (⟨tg,iter,ifs,0⟩::grest) scope pos) (some (.Name y py)) spos.line X.env=pure true) (hs:∀ x,foldedSetIterable iter X.env x=pure x):QS X (.Assign [.Name y py] (.ListComp elt (⟨tg,iter,ifs,0⟩::grest) scope pos) spos) (zE (qO mm cap f2 g t kk) (gNm m)):=
 ⟨X9 hc hN S hi.1 (fun cl C ex s H=>(hg cl C ex s H).1) (fun cl C ex s H=>(ht cl C ex s H).1) has (fun cl C ex s H=>(he cl C ex s H).1) hy hyl hf hsw hs⟩
theorem YC:ZMt X "dict.setdefault" wC:=⟨Q9⟩
theorem D0 (hr:RoomC cm k X.A):ZOp X (compareOp .Lt) fG:=⟨F1 (by have:=hu1 hr;omega)⟩
end
end _D
end
section
namespace _D
open PySem PySem.Spec PyProof.Rows _L
def vE (H:Hp):List (Addr × HO)→Hp
 |[]=>H
 |p::ps=>vE (upd H p.1 p.2) ps
theorem bK {b:Addr}:∀ {L:List (Addr × HO)} {H:Hp},b ∉ L.map (·.1)→vE H L b=H b
 |[],_,_=>rfl
 |p::ps,H,h=>by
  simp only[List.map_cons,List.mem_cons,not_or] at h
  show vE (upd H p.1 p.2) ps b=H b
  rw[bK h.2,qS h.1]
theorem fR {a:Addr}{o:HO}:∀ {L:List (Addr × HO)} {H:Hp},(L.map (·.1)).Nodup→(a,o)∈L→vE H L a=some o
 |p::ps,H,nd,h=>by
  simp only[List.map_cons,List.nodup_cons] at nd
  show vE (upd H p.1 p.2) ps a=some o
  rcases List.mem_cons.mp h with rfl|h
  ·rw[bK nd.1,z0]
  ·exact fR nd.2 h
theorem rT {b:Addr}{u:HO}:∀ {L:List (Addr × HO)} {H:Hp},vE H L b=some u→(b,u)∈L∨H b=some u
 |[],_,h=>.inr h
 |p::ps,H,h=>by
  rcases rT (L:=ps) (H:=upd H p.1 p.2) h with h|h
  ·exact .inl (List.mem_cons_of_mem _ h)
  ·by_cases hb:b=p.1
   ·subst hb
    rw[z0] at h
    cases h
    exact .inl (List.mem_cons_self ..)
   ·rw[qS hb] at h
    exact .inr h
section
variable {K:PySem.W.Frag}
theorem Rel.pureL {α : List Addr}{S:Sto}:∀ {L:List (Addr × HO)} {H P:Hp},(∀ p∈L,H p.1=none)→(L.map (·.1)).Nodup→Rel K H P α S→Rel K (vE H L) (vE P L) α S∧qG P (vE P L)
 |[],_,_,_,_,r=>⟨r,qG.refl _⟩
 |p::ps,H,P,hn,nd,r=>by
  simp only[List.map_cons,List.nodup_cons] at nd
  obtain⟨r1,e1⟩:=r.pure (o:=p.2) (hn p (List.mem_cons_self ..))
  obtain⟨r2,e2⟩:=Rel.pureL (L:=ps) (fun q hq=>by
   have:q.1≠p.1:=fun e=>nd.1 (e▸List.mem_map.mpr ⟨q,hq,rfl⟩)
   rw[qS this]
   exact hn q (List.mem_cons_of_mem _ hq)) nd.2 r1
  exact⟨r2,e1.trans e2⟩
end
section
variable {X:Cx}{pins:List (Addr × Obj)}{σ : _L.St}{H:Hp}{s:Shared}
theorem Inv.laidL {L:List (Addr × HO)}{h':Heap}{t':Nat}(I:Inv X pins σ H s)(k:∀ b u,s.heap.get? b=some u→h'.get? b=some u)(hp:∀ p∈L,s.heap.objs.size≤p.1)(new:∀ p∈L,zI X.prog X.w (vE H L) h' p.1 p.2) :
  Inv X pins σ (vE H L) { s with heap:=h',toks:=t' }:=by
 have old:∀ b u,H b=some u→vE H L b=some u:=fun b u e=>by
  rw[bK (L:=L)]
  ·exact e
  ·intro hb
   obtain⟨p,hp',rfl⟩:=List.mem_map.mp hb
   rw[I.hok.fresh (hp p hp')] at e
   cases e
 have low:∀ b,b<s.heap.objs.size→vE H L b=H b:=fun b hb=>bK fun hm=>by
  obtain⟨p,hp',rfl⟩:=List.mem_map.mp hm
  exact absurd (Nat.lt_of_lt_of_le hb (hp p hp')) (Nat.lt_irrefl _)
 refine I.un ⟨fun b u q _ _ _=>k b u q,fun b u q _ _ _=>⟨u.slots,k b u q⟩,fun b u q n _=>by rw[low b (Heap.lt_size q)];exact n,fun b u q _=>⟨u,k b u q⟩,fun b xs q=>old b _ q,fun b o xs q=>old b _ q,fun b ps q=>⟨#[],by rw[old b _ q];simp⟩⟩ fun b u e=>?_
 rcases rT e with hm|hb
 ·exact new (b,u) hm
 ·exact(I.hok b u hb).stay (fun c v _ q=>k c v q) (fun c q=>old c _ q) fun c xs q=>old c _ q
end
def kD:Key→D
 |.inl i=>.int i
 |.inr x=>.str x
theorem B8 {K:PySem.W.Frag}{P:Hp}{α : List Addr}(k:Key):Rep K P α (kD k) (kV k):=by
 cases k <;> simp only[kD,kV,Rep]
theorem NI {k:Key}{u:Value}(h:gG k u=true):qJ (kV k) u:=by
 rcases xA h with⟨i,t,rfl,rfl⟩|⟨x,t,rfl,rfl⟩
 ·exact⟨t,rfl⟩
 ·exact⟨t,rfl⟩
theorem Q0 {κ : Type}:∀ {vs:List (κ × V)} {us:List (κ × Value)},KV vs us→∀ {j:Nat} {q:κ × V},vs[j]? = some q→∃ u,us[j]? = some (q.1,u)∧qJ q.2 u
 |_,_,.nil,j,q,h=>by simp at h
 |_,_,.cons (a:=x) (b:=y) z t,j,q,h=>by
  cases j with
  |zero =>
   simp at h
   subst h
   exact⟨y.2,by simp;exact Prod.ext z.1.symm rfl,z.2⟩
  |succ j =>
   obtain⟨u,e1,e2⟩:=Q0 t (j:=j) (q:=q) (by simpa using h)
   exact⟨u,by simpa using e1,e2⟩
end _D
end
section
namespace _D
open PySem PySem.Spec PyProof.Rows _L
section
variable {X:Cx}{cm:Bool}{k:Nat}
theorem D7 (hc:X.calm=true):ZCall X (.builtin "sum") sF:=⟨GO hc⟩
theorem KU (hr:RoomC cm k X.A):ZOp X (compareOp .NotIn) vL:=⟨W7 hr.units⟩
end
end _D
end
section
namespace _S
open PySem
def Rs (xs:Array Nat):Prop:=xs.toList.Pairwise (· < ·)
theorem Rs.lt {xs:Array Nat}(h:Rs xs){a b:Nat}{x y:Nat}(hab:a<b)(ha:xs[a]? = some x)(hb:xs[b]? = some y):x<y:=by
 obtain⟨h1,e1⟩:=Array.getElem?_eq_some_iff.mp ha
 obtain⟨h2,e2⟩:=Array.getElem?_eq_some_iff.mp hb
 have:=List.pairwise_iff_getElem.mp h a b (by simpa using h1) (by simpa using h2) hab
 rw[← e1,← e2];simpa using this
theorem getD_some {xs:Array Nat}{i x d:Nat}(h:xs[i]? = some x):xs.getD i d=x:=by
 obtain⟨h1,e1⟩:=Array.getElem?_eq_some_iff.mp h
 simp[Array.getD,h1,e1]
structure Bel (xs:Array Nat)(j p:Nat):Prop where
 le:p≤xs.size
 lo:∀ i x,i<p→xs[i]? = some x→x<j
 hi:∀ i x,p≤i→xs[i]? = some x→j≤x
set_option tactic.hygienic true in
theorem f8 {xs:Array Nat}(h:Rs xs)(j:Nat):∀ (fuel lo hi:Nat),hi-lo≤fuel→lo≤hi→hi≤xs.size →
  (∀ i x,i<lo→xs[i]? = some x→x<j)→(∀ i x,hi≤i→xs[i]? = some x→j≤x)→Bel xs j (SetTable.below.go xs j fuel lo hi)
 |0,lo,hi,h1,h2,h3,h4,h5=>by
  have:lo=hi:=by omega
  subst this
  exact⟨h3,h4,h5⟩
 |fuel+1,lo,hi,h1,h2,h3,h4,h5=>by
  unfold SetTable.below.go
  by_cases hlt:lo<hi
  ·rw[if_pos hlt]
   have hm:(lo+hi)/2<xs.size:=by omega
   have e:xs[(lo+hi)/2]? = some xs[(lo+hi)/2]:=Array.getElem?_eq_getElem hm
   simp only[getD_some e]
   split
   ·rename_i hc
    refine f8 h j fuel _ hi (by omega) (by omega) h3 (fun i x hi' ex=>?_) h5
    by_cases q:i=(lo+hi)/2
    ·subst q;rw[e] at ex;cases ex;exact hc
    ·exact Nat.lt_trans (h.lt (by omega) ex e) hc
   ·rename_i hc
    refine f8 h j fuel lo _ (by omega) (by omega) (by omega) h4 (fun i x hi' ex=>?_)
    by_cases q:i=(lo+hi)/2
    ·subst q;rw[e] at ex;cases ex;omega
    ·have:=h.lt (show (lo+hi)/2<i by omega) e ex
     omega
  ·rw[if_neg hlt]
   have:lo=hi:=by omega
   subst this
   exact⟨h3,h4,h5⟩
theorem jF {xs:Array Nat}(h:Rs xs)(j:Nat):Bel xs j (SetTable.below xs j):=
 f8 h j _ _ _ (by omega) (by omega) (Nat.le_refl _) (fun i x hi=>by omega) fun i x hi ex=>by
  have:=(Array.getElem?_eq_some_iff.mp ex).1
  omega
theorem f7 {xs:Array Nat}(h:Rs xs){i j:Nat}(e:xs[i]? = some j):SetTable.below xs j=i:=by
 have b:=jF h j
 have hi:=(Array.getElem?_eq_some_iff.mp e).1
 by_cases h1:SetTable.below xs j<i
 ·have e2:xs[SetTable.below xs j]? = some xs[SetTable.below xs j]:=Array.getElem?_eq_getElem (by omega)
  have:=h.lt h1 e2 e
  have:=b.hi _ _ (Nat.le_refl _) e2
  omega
 ·by_cases h2:i<SetTable.below xs j
  ·have:=b.lo _ _ h2 e
   omega
  ·omega
theorem aH {xs:Array Nat}(h:Rs xs){i j:Nat}(e:xs[i]? = some j):SetTable.below xs (j+1)=i+1:=by
 have b:=jF h (j+1)
 have hi:=(Array.getElem?_eq_some_iff.mp e).1
 have h1:i<SetTable.below xs (j+1):=by
  apply Classical.byContradiction
  intro q
  have:=b.hi _ _ (by omega) e
  omega
 by_cases h2:i+1<SetTable.below xs (j+1)
 ·have hz:i+1<xs.size:=by have:=b.le;omega
  have e2:xs[i+1]? = some xs[i+1]:=Array.getElem?_eq_getElem hz
  have:=b.lo _ _ h2 e2
  have:=h.lt (Nat.lt_succ_self i) e e2
  omega
 ·omega
theorem aI {xs:Array Nat}(h:Rs xs):SetTable.below xs 0=0:=by
 have b:=jF h 0
 apply Classical.byContradiction
 intro q
 have hz:0<xs.size:=by have:=b.le;omega
 have e2:xs[0]? = some xs[0]:=Array.getElem?_eq_getElem hz
 have:=b.lo _ _ (by omega) e2
 omega
structure Tb (t:SetTable):Prop where
 rs:Rs t.place
 dm:t.dummies=#[]
theorem eT (j:Nat):SetTable.has #[] j=false:=by simp[SetTable.has]
theorem lO {t:SetTable}(T:Tb t){i j:Nat}(e:t.place[i]? = some j):t.slot j=.live i:=by
 unfold SetTable.slot
 simp only[f7 T.rs e,e]
 simp
theorem iK {t:SetTable}(T:Tb t)(j:Nat):(∃ i,t.slot j=.live i∧t.place[i]? = some j)∨(t.slot j=.empty∧j ∉ t.place.toList):=by
 by_cases h:j∈t.place.toList
 ·obtain⟨i,hi,e⟩:=List.mem_iff_getElem.mp h
  have e':t.place[i]? = some j:=by rw[← Array.getElem?_toList,List.getElem?_eq_getElem hi,e]
  exact .inl ⟨i,lO T e',e'⟩
 ·refine .inr ⟨?_,h⟩
  unfold SetTable.slot
  simp only[T.dm,eT]
  rw[if_neg,if_neg (by simp)]
  intro q
  apply h
  have:t.place[SetTable.below t.place j]? = some j:=by simpa using q
  obtain⟨h1,e1⟩:=Array.getElem?_eq_some_iff.mp this
  rw[← e1]
  simp
theorem Z2 {xs:Array Nat}(h:Rs xs){j:Nat}(hj:j ∉ xs.toList):Rs (SetTable.insertAt xs (SetTable.below xs j) j):=by
 have b:=jF h j
 unfold Rs
 rw[SetTable.toList_insertAt]
 have key:∀ (i:Nat) (x:Nat),xs.toList[i]? = some x→(i<SetTable.below xs j→x<j)∧(SetTable.below xs j≤i→j<x):=fun i x e=>by
  have e':xs[i]? = some x:=by rw[← Array.getElem?_toList];exact e
  refine⟨fun q=>b.lo _ _ q e',fun q=>?_⟩
  have h1:=b.hi _ _ q e'
  have:x≠j:=by
   rintro rfl
   exact hj (List.mem_of_getElem? e)
  omega
 have tk:∀ x∈xs.toList.take (SetTable.below xs j),x<j:=fun x hx=>by
  obtain⟨i,hi,e⟩:=List.mem_iff_getElem.mp hx
  rw[List.length_take] at hi
  rw[List.getElem_take] at e
  exact(key i x (by rw[List.getElem?_eq_getElem (by omega),e])).1 (by omega)
 have dr:∀ x∈xs.toList.drop (SetTable.below xs j),j<x:=fun x hx=>by
  obtain⟨i,hi,e⟩:=List.mem_iff_getElem.mp hx
  rw[List.length_drop] at hi
  rw[List.getElem_drop] at e
  exact(key (SetTable.below xs j+i) x (by rw[List.getElem?_eq_getElem (by omega),e])).2 (by omega)
 rw[List.pairwise_append,List.pairwise_cons]
 refine⟨List.Pairwise.take h,⟨dr,List.Pairwise.drop h⟩,fun x hx y hy=>?_⟩
 rcases List.mem_cons.mp hy with rfl|hy
 ·exact tk x hx
 ·exact Nat.lt_trans (tk x hx) (dr y hy)
theorem m9 {α : Type}(xs:Array α){p:Nat}(hp:p≤xs.size)(x:α)(i:Nat):(SetTable.insertAt xs p x)[i]? = if i<p then xs[i]? else if i=p then some x else xs[i-1]?:=by
 rw[← Array.getElem?_toList,SetTable.toList_insertAt]
 have hl:(xs.toList.take p).length=p:=by simp;omega
 by_cases h1:i<p
 ·rw[if_pos h1,List.getElem?_append_left (by omega),List.getElem?_take_of_lt h1,Array.getElem?_toList]
 ·rw[if_neg h1,List.getElem?_append_right (by omega),hl]
  by_cases h2:i=p
  ·subst h2;simp
  ·rw[if_neg h2]
   obtain⟨k,hk⟩:∃ k,i-p=k+1:=⟨i-p-1,by omega⟩
   rw[hk,List.getElem?_cons_succ,List.getElem?_drop,Array.getElem?_toList]
   congr 1;omega
theorem uE {α : Type}(xs:Array α)(p:Nat)(x:α):(SetTable.insertAt xs p x).size=xs.size+1:=by
 have:=(SetTable.insertAt_perm xs p x).length_eq
 simpa using this
theorem FR {t:SetTable}(T:Tb t){j:Nat}(hj:j ∉ t.place.toList):Tb (t.put j).1:=by
 refine⟨Z2 T.rs hj,?_⟩
 show (if SetTable.has t.dummies j then _ else t.dummies)=#[]
 rw[T.dm,eT]
 rfl
end _S
end
section
namespace _S
open PySem
open PySem.SetTable (Probe leap runEnd turns bits)
def adv (mask:Nat)(p:Probe):Probe:=if p.more>0 then { p with j:=p.j+1,more:=p.more-1 } else { p with j:=(leap mask p.i p.perturb).1,more:=runEnd mask (leap mask p.i p.perturb).1-(leap mask p.i p.perturb).1,i:=(leap mask p.i p.perturb).1,perturb:=(leap mask p.i p.perturb).2 }
theorem GC (t:SetTable)(p:Probe):t.advance p=adv t.mask p:=rfl
def it (mask:Nat):Nat→Probe→Probe
 |0,p=>p
 |n+1,p=>it mask n (adv mask p)
theorem b7 (mask:Nat):∀ (n:Nat) (p:Probe),it mask (n+1) p=adv mask (it mask n p)
 |0,p=>rfl
 |n+1,p=>b7 mask n (adv mask p)
theorem mF (mask:Nat):∀ (m n:Nat) (p:Probe),it mask (m+n) p=it mask n (it mask m p)
 |0,n,p=>by rw[Nat.zero_add];rfl
 |m+1,n,p=>by rw[Nat.add_right_comm];exact mF mask m n (adv mask p)
def rs (mask i pert:Nat):Probe:={ j:=i,more:=runEnd mask i-i,i,perturb:=pert,dummy:=none }
def st (mask:Nat)(h:Int):Probe:=rs mask (bits h % (mask+1)) (bits h)
theorem LN (t:SetTable)(h:Int):t.probeStart h=st t.mask h:=rfl
theorem pI (mask i pert:Nat):∀ k,k≤runEnd mask i-i→it mask k (rs mask i pert)={ j:=i+k,more:=runEnd mask i-i-k,i,perturb:=pert,dummy:=none }
 |0,_=>rfl
 |k+1,hk=>by
  rw[b7,pI mask i pert k (by omega)]
  unfold adv
  rw[if_pos (by show runEnd mask i-i-k>0;omega)]
  simp only[Probe.mk.injEq,and_true,true_and]
  omega
theorem eY (mask i pert:Nat):it mask (runEnd mask i-i+1) (rs mask i pert)=rs mask (leap mask i pert).1 (leap mask i pert).2:=by
 rw[b7,pI mask i pert _ (Nat.le_refl _)]
 unfold adv
 rw[if_neg (by show ¬ (runEnd mask i-i-(runEnd mask i-i)>0);omega)]
 rfl
theorem MN (mask i:Nat):runEnd mask i-i+1≤10:=by
 unfold runEnd
 split <;> omega
def lp (mask:Nat):Nat→Nat × Nat→Nat × Nat
 |0,q=>q
 |n+1,q=>lp mask n (leap mask q.1 q.2)
theorem Q6 (mask:Nat):∀ (m n:Nat) (q:Nat × Nat),lp mask (m+n) q=lp mask n (lp mask m q)
 |0,n,p=>by rw[Nat.zero_add];rfl
 |m+1,n,p=>by rw[Nat.add_right_comm];exact Q6 mask m n _
theorem YQ (mask:Nat):∀ (n i pert:Nat),∃ k,k≤10*n∧it mask k (rs mask i pert)=rs mask (lp mask n (i,pert)).1 (lp mask n (i,pert)).2
 |0,i,pert=>⟨0,by omega,rfl⟩
 |n+1,i,pert=>by
  obtain⟨k,hk,e⟩:=YQ mask n (leap mask i pert).1 (leap mask i pert).2
  refine⟨(runEnd mask i-i+1)+k,by have:=MN mask i;omega,?_⟩
  rw[mF,eY,e]
  rfl
theorem cD (mask:Nat):∀ (n i pert:Nat),(lp mask n (i,pert)).2=pert/32 ^ n
 |0,i,pert=>by simp[lp]
 |n+1,i,pert=>by
  show (lp mask n ((leap mask i pert).1,pert/32)).2=_
  rw[cD mask n _ (pert/32),Nat.div_div_eq_div_mul,← Nat.pow_succ']
theorem tZ (mask i pert:Nat):(leap mask i pert).1≤mask:=Nat.le_of_lt_succ (Nat.mod_lt _ (Nat.succ_pos _))
theorem YT (mask:Nat):∀ (n i pert:Nat),i≤mask→(lp mask n (i,pert)).1≤mask
 |0,i,pert,h=>h
 |n+1,i,pert,h=>YT mask n _ _ (tZ mask i pert)
theorem eI (h:Int):bits h<2 ^ 64:=by
 unfold bits
 have h1:(0:Int)≤h % 2 ^ 64:=Int.emod_nonneg _ (by decide)
 have h2:h % 2 ^ 64<(2 ^ 64:Int):=Int.emod_lt_of_pos _ (by decide)
 omega
def cyc (mask:Nat):Nat→Nat→Nat
 |0,i=>i
 |n+1,i=>cyc mask n ((i*5+1) % (mask+1))
theorem pV (mask:Nat):∀ (m n i:Nat),cyc mask (m+n) i=cyc mask n (cyc mask m i)
 |0,n,p=>by rw[Nat.zero_add];rfl
 |m+1,n,p=>by rw[Nat.add_right_comm];exact pV mask m n _
theorem Q7 (mask:Nat):∀ (n i:Nat),(lp mask n (i,0)).1=cyc mask n i
 |0,i=>rfl
 |n+1,i=>by
  show (lp mask n (leap mask i 0)).1=_
  have:leap mask i 0=((i*5+1) % (mask+1),0):=by simp[leap]
  rw[this,Q7 mask n]
  rfl
def Msk (mask:Nat):Prop:=mask=7∨mask=31∨mask=127
def oB (mask:Nat):Bool:=(List.range (mask+1)).all (fun e=>(List.range (mask+1)).any fun n=>cyc mask n 0 == e)&&cyc mask (mask+1) 0 == 0
theorem oC {mask:Nat}(h:Msk mask):oB mask=true:=by
 rcases h with rfl|rfl|rfl <;> decide +kernel
theorem ZW {mask:Nat}(h:Msk mask){i e:Nat}(hi:i≤mask)(he:e≤mask):∃ n,n≤mask∧cyc mask n i=e:=by
 have a:=oC h
 unfold oB at a
 rw[Bool.and_eq_true,List.all_eq_true] at a
 obtain⟨a1,a2⟩:=a
 have g:∀ e,e≤mask→∃ n,n≤mask∧cyc mask n 0=e:=fun e he=>by
  obtain⟨n,hn,q⟩:=List.any_eq_true.mp (a1 e (List.mem_range.mpr (by omega)))
  exact⟨n,by have:=List.mem_range.mp hn;omega,by simpa using q⟩
 have a3:cyc mask (mask+1) 0=0:=by simpa using a2
 obtain⟨m,hm,em⟩:=g i hi
 obtain⟨n,hn,en⟩:=g e he
 by_cases q:m≤n
 ·refine⟨n-m,by omega,?_⟩
  rw[← em,← pV,show m+(n-m)=n by omega]
  exact en
 ·refine⟨n+(mask+1)-m,by omega,?_⟩
  rw[← em,← pV,show m+(n+(mask+1)-m)=(mask+1)+n by omega,pV,a3]
  exact en
theorem sV {mask:Nat}(h:Msk mask){i pert e:Nat}(hi:i≤mask)(hp:pert<2 ^ 64)(he:e≤mask):∃ n,n≤mask+13∧(lp mask n (i,pert)).1=e:=by
 have h0:(lp mask 13 (i,pert)).2=0:=by
  rw[cD]
  apply Nat.div_eq_of_lt
  exact Nat.lt_trans hp (by decide)
 obtain⟨n,hn,q⟩:=ZW h (YT mask 13 i pert hi) he
 refine⟨13+n,by omega,?_⟩
 rw[Q6]
 have:lp mask 13 (i,pert)=((lp mask 13 (i,pert)).1,0):=by rw[← h0]
 rw[this,Q7]
 exact q
theorem sL {mask:Nat}(h:Msk mask)(hs:Int){e:Nat}(he:e≤mask):∃ n,n<10*turns mask∧(it mask n (st mask hs)).j=e:=by
 obtain⟨n,hn,q⟩:=sV h (i:=bits hs % (mask+1)) (Nat.le_of_lt_succ (Nat.mod_lt _ (Nat.succ_pos _))) (eI hs) he
 obtain⟨k,hk,e1⟩:=YQ mask n (bits hs % (mask+1)) (bits hs)
 refine⟨k,by unfold turns;omega,?_⟩
 show (it mask k (rs mask _ _)).j=e
 rw[e1]
 exact q
theorem fJ (mask:Nat):∀ (n:Nat) (p:Probe),(it mask n p).dummy=p.dummy
 |0,p=>rfl
 |n+1,p=>by
  show (it mask n (adv mask p)).dummy=_
  rw[fJ mask n]
  unfold adv
  split <;> rfl
def Way (t:SetTable)(p:Probe)(n:Nat):Prop:=∀ m,m<n→(it t.mask m p).j∈t.place.toList
inductive Meets (t:SetTable)(hashAt:Nat→Int)(h:Int)(p:Probe)(fuel:Nat):Option SetTable.Met→Prop
 |emp (n:Nat) (hn:n<fuel) (w:Way t p n) (e:(it t.mask n p).j ∉ t.place.toList) (q:∀ m i,m<n→t.place[i]? = some (it t.mask m p).j→hashAt i≠h):Meets t hashAt h p fuel (some (.empty (it t.mask n p).j none))
 |cand (n i:Nat) (hn:n<fuel) (w:Way t p n) (e:t.place[i]? = some (it t.mask n p).j) (hh:hashAt i=h) (q:∀ m i,m<n→t.place[i]? = some (it t.mask m p).j→hashAt i≠h):Meets t hashAt h p fuel (some (.candidate (it t.mask n p).j i (it t.mask (n+1) p)))
theorem QZ {xs:Array Nat}(h:Rs xs){a b x:Nat}(ha:xs[a]? = some x)(hb:xs[b]? = some x):a=b:=by rw[← f7 h ha,f7 h hb]
set_option tactic.hygienic true in
theorem gB {t:SetTable}(T:Tb t)(hashAt:Nat→Int)(h:Int):∀ (fuel:Nat) (p:Probe),p.dummy=none→(∃ n,n<fuel∧(it t.mask n p).j ∉ t.place.toList)→Meets t hashAt h p fuel (SetTable.probe.go t hashAt h fuel p)
 |0,p,_,⟨n,hn,_⟩=>by omega
 |fuel+1,p,hd,⟨n,hn,hne⟩=>by
  unfold SetTable.probe.go
  rcases iK T p.j with⟨i,e,ei⟩|⟨e,q⟩
  ·rw[e]
   simp only
   split
   ·rename_i hh
    exact Meets.cand 0 i (by omega) (fun m hm=>by omega) ei (by simpa using hh) fun m i hm=>by omega
   ·rename_i hh
    have hh':hashAt i≠h:=by simpa using hh
    have hn0:n≠0:=by
     rintro rfl
     exact hne (List.mem_of_getElem? (by rw[Array.getElem?_toList];exact ei))
    obtain⟨n',rfl⟩:∃ n',n=n'+1:=⟨n-1,by omega⟩
    have ih:=gB T hashAt h fuel (adv t.mask p) (by rw[← hd];exact fJ t.mask 1 p) ⟨n',by omega,hne⟩
    rw[GC]
    have mem0:p.j∈t.place.toList:=List.mem_of_getElem? (by rw[Array.getElem?_toList];exact ei)
    have up:∀ {k:Nat},Way t (adv t.mask p) k→Way t p (k+1):=fun {k} w m hm=>by
     cases m with
     |zero=>exact mem0
     |succ m=>exact w m (by omega)
    have upq:∀ {k:Nat},(∀ m i,m<k→t.place[i]? = some (it t.mask m (adv t.mask p)).j→hashAt i≠h)→∀ m i,m<k+1→t.place[i]? = some (it t.mask m p).j→hashAt i≠h:=fun {k} q m i' hm e'=>by
     cases m with
     |zero=>rw[QZ T.rs e' ei];exact hh'
     |succ m=>exact q m i' (by omega) e'
    generalize hg:SetTable.probe.go t hashAt h fuel (adv t.mask p)=r at ih
    cases ih with
    |emp k hk w e1 q1=>exact Meets.emp (p:=p) (k+1) (by omega) (up w) e1 (upq q1)
    |cand k i' hk w e1 hh1 q1=>exact Meets.cand (p:=p) (k+1) i' (by omega) (up w) e1 hh1 (upq q1)
  ·rw[e]
   simp only[hd]
   exact Meets.emp (p:=p) 0 (by omega) (fun m hm=>by omega) q fun m i hm=>by omega
end _S
end
section
namespace _S
open PySem
open PySem.SetTable (Probe leap runEnd turns bits)
structure Own (mask:Nat)(owner:Array (Option Nat))(us:List Nat):Prop where
 size:owner.size=mask+1
 nd:us.Nodup
 le:∀ u∈us,u≤mask
 at':∀ j k,j≤mask→(owner.getD j (some 0)=some k↔us[k]? = some j)
theorem nL {mask i:Nat}(hi:i≤mask):runEnd mask i≤mask:=by
 unfold runEnd
 split <;> omega
theorem nM (mask i:Nat):i≤runEnd mask i:=by
 unfold runEnd
 split <;> omega
theorem Own.none {mask:Nat}{owner:Array (Option Nat)}{us:List Nat}(O:Own mask owner us){j:Nat}(hj:j≤mask):(owner.getD j (some 0)).isNone=true↔j ∉ us:=by
 constructor
 ·intro h hm
  obtain⟨k,hk,e⟩:=List.mem_iff_getElem.mp hm
  have:=(O.at' j k hj).mpr (by rw[List.getElem?_eq_getElem hk,e])
  rw[this] at h
  cases h
 ·intro h
  cases q:owner.getD j (some 0) with
  |none=>rfl
  |some k=>exact absurd (List.mem_of_getElem? ((O.at' j k hj).mp q)) h
theorem lC {mask:Nat}{owner:Array (Option Nat)}{us:List Nat}(O:Own mask owner us):∀ (fuel i pert:Nat),i≤mask→(∃ L,L<fuel∧(lp mask L (i,pert)).1 ∉ us) →
  ∃ n,SetTable.layClean.free mask owner fuel i pert=some (it mask n (rs mask i pert)).j∧(it mask n (rs mask i pert)).j≤mask∧(it mask n (rs mask i pert)).j ∉ us∧∀ m,m<n→(it mask m (rs mask i pert)).j∈us
 |0,i,pert,hi,⟨L,hL,_⟩=>by omega
 |fuel+1,i,pert,hi,⟨L,hL,hne⟩=>by
  unfold SetTable.layClean.free
  have hmx:=nL hi
  have hmn:=nM mask i
  cases hf:(List.range (runEnd mask i+1-i)).find? fun k=>(owner.getD (i+k) (some 0)).isNone with
  |some k =>
   obtain⟨h1,h2,h3⟩:=List.find?_range_eq_some.mp hf
   have hk:k<runEnd mask i+1-i:=List.mem_range.mp h2
   have ej:(it mask k (rs mask i pert)).j=i+k:=by rw[pI mask i pert k (by omega)]
   refine⟨k,?_,?_,?_,fun m hm=>?_⟩
   ·rw[ej]
   ·rw[ej];omega
   ·rw[ej];exact(O.none (by omega)).mp h1
   ·rw[pI mask i pert m (by omega)]
    have:=h3 m hm
    apply Classical.byContradiction
    intro q
    rw[(O.none (show i+m≤mask by omega)).mpr q] at this
    cases this
  |none =>
   have hall:∀ k,k<runEnd mask i+1-i→i+k∈us:=fun k hk=>by
    have:=List.find?_eq_none.mp hf k (List.mem_range.mpr hk)
    apply Classical.byContradiction
    intro q
    exact this ((O.none (show i+k≤mask by omega)).mpr q)
   have hL0:L≠0:=by
    rintro rfl
    exact hne (hall 0 (by omega))
   obtain⟨L',rfl⟩:∃ L',L=L'+1:=⟨L-1,by omega⟩
   obtain⟨n,q1,q2,q3,q4⟩:=lC O fuel (leap mask i pert).1 (leap mask i pert).2 (tZ mask i pert) ⟨L',by omega,hne⟩
   have e:∀ m,it mask (runEnd mask i-i+1+m) (rs mask i pert)=it mask m (rs mask (leap mask i pert).1 (leap mask i pert).2):=fun m=>by rw[mF,eY]
   refine⟨runEnd mask i-i+1+n,?_,?_,?_,fun m hm=>?_⟩
   ·rw[e];exact q1
   ·rw[e];exact q2
   ·rw[e];exact q3
   ·by_cases hlt:m<runEnd mask i-i+1
    ·rw[pI mask i pert m (by omega)]
     exact hall m (by omega)
    ·obtain⟨m',rfl⟩:∃ m',m=runEnd mask i-i+1+m':=⟨m-(runEnd mask i-i+1),by omega⟩
     rw[e]
     exact q4 m' (by omega)
theorem gap {mask:Nat}{us:List Nat}(h:us.length≤mask):∃ e,e≤mask∧e ∉ us:=by
 apply Classical.byContradiction
 intro q
 have:List.range (mask+1) ⊆ us:=fun e he=>by
  apply Classical.byContradiction
  intro r
  exact q ⟨e,by have:=List.mem_range.mp he;omega,r⟩
 have:=List.Nodup.length_le_of_subset List.nodup_range this
 rw[List.length_range] at this
 omega
theorem JE (mask:Nat):Own mask (Array.replicate (mask+1) none) []:=by
 refine⟨by simp,List.nodup_nil,fun u hu=>by simp at hu,fun j k hj=>?_⟩
 have:j<mask+1:=by omega
 simp[Array.getD,this]
theorem W9 {mask:Nat}{owner:Array (Option Nat)}{us:List Nat}(O:Own mask owner us){j:Nat}(hj:j≤mask)(hn:j ∉ us):Own mask (owner.setIfInBounds j (some us.length)) (us++[j]):=by
 refine⟨by simp[O.size],?_,fun u hu=>?_,fun i k hi=>?_⟩
 ·rw[List.nodup_append]
  refine⟨O.nd,by simp,fun a ha b hb=>?_⟩
  simp at hb
  rintro rfl
  subst hb
  exact hn ha
 ·rcases List.mem_append.mp hu with h|h
  ·exact O.le u h
  ·simp at h;omega
 ·have hsz:=O.size
  have hi':i<owner.size:=by omega
  have hk:∀ {k},us[k]? = some i→k<us.length:=fun q=>(List.getElem?_eq_some_iff.mp q).1
  by_cases hij:j=i
  ·subst hij
   have e1:(owner.setIfInBounds j (some us.length)).getD j (some 0)=some us.length:=by simp[Array.getD,hi']
   rw[e1]
   constructor
   ·intro q;cases q;simp
   ·intro q
    by_cases h1:k<us.length
    ·rw[List.getElem?_append_left h1] at q
     exact absurd (List.mem_of_getElem? q) hn
    ·rw[List.getElem?_append_right (by omega)] at q
     have:k-us.length=0:=by
      cases hz:k-us.length with
      |zero=>rfl
      |succ z=>rw[hz] at q;simp at q
     congr 1;omega
  ·have e1:(owner.setIfInBounds j (some us.length)).getD i (some 0)=owner.getD i (some 0):=by
    simp[Array.getD,hi',Array.getElem_setIfInBounds,hij]
   rw[e1,O.at' i k hi]
   constructor
   ·intro q;rw[List.getElem?_append_left (hk q)];exact q
   ·intro q
    by_cases h1:k<us.length
    ·rw[List.getElem?_append_left h1] at q;exact q
    ·rw[List.getElem?_append_right (by omega)] at q
     cases hz:k-us.length with
     |zero=>rw[hz] at q;simp at q;exact absurd q hij
     |succ z=>rw[hz] at q;simp at q
def a9 (mask:Nat)(us:List Nat)(hs:List Int):Prop:=∀ (k:Nat) (h:Int),hs[k]? = some h→∃ n,us[k]? = some (it mask n (st mask h)).j∧∀ m,m<n→(it mask m (st mask h)).j∈us
theorem lB {mask:Nat}(hM:Msk mask):∀ (hs done:List Int) (owner:Array (Option Nat)) (us:List Nat),Own mask owner us→us.length=done.length→done.length+hs.length≤mask→a9 mask us done →
  ∃ owner' us',hs.foldl (fun acc h=>do
   let (owner,k) ← acc
   let j ← SetTable.layClean.free mask owner (turns mask) (bits h % (mask+1)) (bits h)
   pure (owner.setIfInBounds j (some k),k+1)) (some (owner,us.length))=some (owner',us'.length)∧Own mask owner' us'∧us'.length=done.length+hs.length∧a9 mask us' (done++hs)
 |[],done,owner,us,O,hl,_,hL=>⟨owner,us,rfl,O,by simpa using hl,by simpa using hL⟩
 |h::hs,done,owner,us,O,hl,hlen,hL=>by
  rw[List.length_cons] at hlen
  obtain⟨e,he,hne⟩:=gap (mask:=mask) (us:=us) (by omega)
  obtain⟨L,hLn,hLe⟩:=sV hM (i:=bits h % (mask+1)) (Nat.le_of_lt_succ (Nat.mod_lt _ (Nat.succ_pos _))) (eI h) he
  obtain⟨n,q1,q2,q3,q4⟩:=lC O (turns mask) (bits h % (mask+1)) (bits h) (Nat.le_of_lt_succ (Nat.mod_lt _ (Nat.succ_pos _))) ⟨L,by unfold turns;omega,by rw[hLe];exact hne⟩
  have O':=W9 O q2 q3
  have hL':a9 mask (us++[(it mask n (rs mask (bits h % (mask+1)) (bits h))).j]) (done++[h]):=fun k h' e'=>by
   by_cases hk:k<done.length
   ·rw[List.getElem?_append_left hk] at e'
    obtain⟨n',w1,w2⟩:=hL k h' e'
    exact⟨n',by rw[List.getElem?_append_left (by omega)];exact w1,fun m hm=>List.mem_append_left _ (w2 m hm)⟩
   ·rw[List.getElem?_append_right (by omega)] at e'
    cases hz:k-done.length with
    |succ z=>rw[hz] at e';simp at e'
    |zero =>
     rw[hz] at e'
     simp at e'
     subst e'
     refine⟨n,?_,fun m hm=>List.mem_append_left _ (q4 m hm)⟩
     rw[List.getElem?_append_right (by omega),hl,hz]
     rfl
  obtain⟨owner',us',r1,r2,r3,r4⟩:=lB hM hs (done++[h]) _ _ O' (by simp[hl]) (by simp;omega) hL'
  refine⟨owner',us',?_,r2,by simpa [Nat.add_assoc,Nat.add_comm 1] using r3,by simpa using r4⟩
  rw[List.foldl_cons]
  rw[List.length_append] at r1
  have e0:(do
   let (owner,k) ← some (owner,us.length)
   let j ← SetTable.layClean.free mask owner (turns mask) (bits h % (mask+1)) (bits h)
   pure (owner.setIfInBounds j (some k),k+1))=some (owner.setIfInBounds (it mask n (rs mask (bits h % (mask+1)) (bits h))).j (some us.length),us.length+1):=by
   show (SetTable.layClean.free mask owner (turns mask) (bits h % (mask+1)) (bits h)).bind _=_
   rw[q1]
   rfl
  rw[e0]
  exact r1
theorem lW {mask:Nat}(hM:Msk mask)(hs:Array Int)(hlen:hs.size≤mask):∃ owner us,SetTable.layClean mask hs=some owner∧Own mask owner us∧us.length=hs.size∧a9 mask us hs.toList:=by
 obtain⟨owner',us',r1,r2,r3,r4⟩:=lB hM hs.toList [] _ [] (JE mask) rfl (by simpa using hlen) (fun k h e=>by simp at e)
 refine⟨owner',us',?_,r2,by simpa using r3,by simpa using r4⟩
 unfold SetTable.layClean
 rw[← Array.foldl_toList]
 have:(([]:List Nat).length)=0:=rfl
 rw[this] at r1
 erw [r1]
 rfl
structure Laid (mask:Nat)(hs:Array Int)(t:SetTable)(qR:Array Nat):Prop where
 msk:t.mask=mask
 tb:Tb t
 size:t.place.size=hs.size
 le:∀ x∈t.place.toList,x≤mask
 perm:qR.toList.Perm (List.range hs.size)
 way:∀ (i k:Nat) (h:Int),qR[i]? = some k→hs[k]? = some h→∃ n,t.place[i]? = some (it mask n (st mask h)).j∧Way t (st mask h) n
theorem Q1 {mask:Nat}(hM:Msk mask)(hs:Array Int)(hlen:hs.size≤mask)(finger moves:Nat)(led plain:Bool) :
  ∃ t qR,SetTable.laid mask finger moves led plain hs=some (t,qR)∧t.led=led∧t.plain=plain∧Laid mask hs t qR:=by
 obtain⟨owner,us,e,O,hl,hL⟩:=lW hM hs hlen
 have hg:∀ j,j≤mask→owner.getD j none=owner.getD j (some 0):=fun j hj=>by
  have:j<owner.size:=by rw[O.size];omega
  simp[Array.getD,this]
 generalize hlv:((List.range (mask+1)).filterMap fun j=>(owner.getD j none).map (j,·))=live
 have mem:∀ (j k:Nat),(j,k)∈live↔us[k]? = some j:=fun j k=>by
  rw[← hlv,List.mem_filterMap]
  constructor
  ·rintro⟨j',hj',q⟩
   have hj'':j'≤mask:=by have:=List.mem_range.mp hj';omega
   rw[hg j' hj''] at q
   cases hz:owner.getD j' (some 0) with
   |none=>rw[hz] at q;cases q
   |some k' =>
    rw[hz] at q
    simp at q
    obtain⟨rfl,rfl⟩:=q
    exact(O.at' _ _ hj'').mp hz
  ·intro q
   have hj:j≤mask:=O.le j (List.mem_of_getElem? q)
   refine⟨j,List.mem_range.mpr (by omega),?_⟩
   rw[hg j hj,(O.at' j k hj).mpr q]
   rfl
 have hfst:live.map (·.1)=(List.range (mask+1)).filter fun j=>(owner.getD j none).isSome:=by
  rw[← hlv,List.map_filterMap]
  generalize owner.getD=f
  induction List.range (mask+1) with
  |nil=>rfl
  |cons a l ih =>
   rw[List.filterMap_cons,List.filter_cons]
   cases hz:f a none with
   |none=>simpa using ih
   |some k=>simpa using ih
 have hR:(live.map (·.1)).Pairwise (· < ·):=by
  rw[hfst]
  exact List.Pairwise.filter _ List.pairwise_lt_range
 have ndl:(live.map (·.2)).Nodup:=by
  unfold List.Nodup
  rw[List.pairwise_map]
  have h1:=List.pairwise_map.mp hR
  refine List.Pairwise.imp_of_mem (fun {a b} ha hb hab=>?_) h1
  intro q
  have ea:=(mem a.1 a.2).mp ha
  have eb:=(mem b.1 b.2).mp hb
  rw[← q,ea] at eb
  simp at eb
  omega
 have pm:(live.map (·.2)).Perm (List.range hs.size):=by
  rw[List.perm_ext_iff_of_nodup ndl List.nodup_range]
  intro k
  rw[List.mem_map,List.mem_range,← hl]
  constructor
  ·rintro⟨⟨j,k'⟩,h1,rfl⟩
   exact(List.getElem?_eq_some_iff.mp ((mem j k').mp h1)).1
  ·intro hk
   exact⟨(us[k],k),(mem _ _).mpr (List.getElem?_eq_getElem hk),rfl⟩
 have hmem:∀ j,j∈live.map (·.1)↔j∈us:=fun j=>by
  rw[List.mem_map]
  constructor
  ·rintro⟨⟨j',k⟩,h1,rfl⟩
   exact List.mem_of_getElem? ((mem _ _).mp h1)
  ·intro h1
   obtain⟨k,hk,e⟩:=List.mem_iff_getElem.mp h1
   exact⟨(j,k),(mem _ _).mpr (by rw[List.getElem?_eq_getElem hk,e]),rfl⟩
 refine⟨{ mask,place:=(live.map (·.1)).toArray,dummies:=#[],finger,led,moves,plain },(live.map (·.2)).toArray,?_,rfl,rfl,rfl,⟨?_,rfl⟩,?_,fun x hx=>?_,?_,fun i k h e1 e2=>?_⟩
 ·unfold SetTable.laid
  rw[e,← hlv]
  rfl
 ·exact hR
 ·have:=pm.length_eq
  simp at this ⊢
  exact this
 ·exact O.le x ((hmem x).mp hx)
 ·exact pm
 ·have e1':(live.map (·.2))[i]? = some k:=by simpa using e1
  rw[List.getElem?_map] at e1'
  cases hz:live[i]? with
  |none=>rw[hz] at e1';cases e1'
  |some jk =>
   rw[hz] at e1'
   simp at e1'
   have hin:=List.mem_of_getElem? hz
   have hu:=(mem jk.1 jk.2).mp hin
   obtain⟨n,w1,w2⟩:=hL k h (by rw[Array.getElem?_toList];exact e2)
   rw[← e1'] at w1
   rw[hu] at w1
   refine⟨n,?_,fun m hm=>?_⟩
   ·rw[← w1]
    simp[hz]
   ·have:=(hmem _).mpr (w2 m hm)
    simpa using this
theorem K9 {t:SetTable}{hs:Array Int}{w:Nat}:SetTable.relaid t hs w=SetTable.laid (SetTable.sizeAbove w-1) t.finger (t.movedTo (SetTable.sizeAbove w-1)) t.led t.plain hs:=rfl
end _S
end
section
namespace _S
open PySem
open PySem.SetTable (Probe leap runEnd turns bits)
structure Set0 {K:Type}(is:K→Value→Prop)(hash:K→Int)(es:Array (Int × Value))(seen:List K):Prop where
 good:∀ e∈es.toList,∃ k,e.1=hash k∧is k e.2
 nd:es.toList.Pairwise fun a b=>∀ k,is k a.2→¬ is k b.2
 mem:∀ k,k∈seen↔∃ e∈es.toList,is k e.2
section
variable {K:Type}{is:K→Value→Prop}{hash:K→Int}{es es':Array (Int × Value)}{seen seen':List K}
theorem Set0.perm (Z:Set0 is hash es seen)(p:es'.toList.Perm es.toList):Set0 is hash es' seen:=
 ⟨fun e he=>Z.good e (p.mem_iff.mp he),(p.pairwise_iff fun {x y} h k hy hx=>h k hx hy).mpr Z.nd,fun k=>(Z.mem k).trans ⟨fun ⟨e,he,q⟩=>⟨e,p.mem_iff.mpr he,q⟩,fun ⟨e,he,q⟩=>⟨e,p.mem_iff.mp he,q⟩⟩⟩
theorem Set0.nil:Set0 is hash #[] []:=⟨fun e he=>by simp at he,by simp,fun k=>by simp⟩
theorem Set0.push (Z:Set0 is hash es seen)(inj:∀ {k k':K} {v:Value},is k v→is k' v→k=k'){k:K}{x:Value}(hk:is k x)(hn:k ∉ seen)(p:es'.toList.Perm (es.toList++[(hash k,x)])):Set0 is hash es' (k::seen):=by
 refine Set0.perm (es:=es.push (hash k,x)) ⟨fun e he=>?_,?_,fun k'=>?_⟩ (by simpa using p)
 ·rw[Array.toList_push] at he
  rcases List.mem_append.mp he with he|he
  ·exact Z.good e he
  ·simp at he;subst he;exact⟨k,rfl,hk⟩
 ·rw[Array.toList_push,List.pairwise_append]
  refine⟨Z.nd,by simp,fun a ha b hb k' h1 h2=>?_⟩
  simp at hb;subst hb
  have:=inj hk h2
  subst this
  exact hn ((Z.mem k).mpr ⟨a,ha,h1⟩)
 ·rw[List.mem_cons,Z.mem,Array.toList_push]
  constructor
  ·rintro (rfl|⟨e,he,q⟩)
   ·exact⟨(hash k',x),by simp,hk⟩
   ·exact⟨e,List.mem_append_left _ he,q⟩
  ·rintro⟨e,he,q⟩
   rcases List.mem_append.mp he with he|he
   ·exact .inr ⟨e,he,q⟩
   ·simp at he;subst he;exact .inl (inj q hk)
theorem Set0.again (Z:Set0 is hash es seen){k:K}(hk:k∈seen):Set0 is hash es (k::seen):=
 ⟨Z.good,Z.nd,fun k'=>by rw[List.mem_cons,Z.mem];exact⟨fun h=>h.elim (fun e=>by subst e;exact(Z.mem _).mp hk) id,.inr⟩⟩
end
section
open Classical in
theorem fL {K:Type}{is:K→Value→Prop}:∀ (L:List (Int × Value)) (U:List K),L.Pairwise (fun a b=>∀ k,is k a.2→¬ is k b.2)→(∀ e∈L,∃ k∈U,is k e.2)→L.length≤U.length
 |[],U,_,_=>Nat.zero_le _
 |e::L,U,nd,h=>by
  rw[List.pairwise_cons] at nd
  obtain⟨k0,hk0,q0⟩:=h e (by simp)
  have ih:=fL L (U.erase k0) nd.2 fun e' he'=>by
   obtain⟨k,hk,q⟩:=h e' (by simp[he'])
   have:k≠k0:=fun z=>nd.1 e' he' k0 q0 (z▸q)
   exact⟨k,(List.mem_erase_of_ne this).mpr hk,q⟩
  rw[List.length_erase_of_mem hk0] at ih
  have:0<U.length:=List.length_pos_of_mem hk0
  rw[List.length_cons]
  omega
open Classical in
theorem Set0.few {K:Type}{is:K→Value→Prop}{hash:K→Int}{es:Array (Int × Value)}{seen U:List K}{k:K}(Z:Set0 is hash es seen)(hU:∀ k'∈seen,k'∈U)(hk:k∈U)(hn:k ∉ seen):es.size<U.length:=by
 have:=fL es.toList (U.erase k) Z.nd fun e he=>by
  obtain⟨k',_,q⟩:=Z.good e he
  have hs:=(Z.mem k').mpr ⟨e,he,q⟩
  have hne:k'≠k:=fun z=>hn (z▸hs)
  exact⟨k',(List.mem_erase_of_ne hne).mpr (hU k' hs),q⟩
 rw[List.length_erase_of_mem hk,Array.length_toList] at this
 have:0<U.length:=List.length_pos_of_mem hk
 omega
end
structure TabT (t:SetTable)(es:Array (Int × Value)):Prop where
 tb:Tb t
 msk:Msk t.mask
 size:t.place.size=es.size
 le:∀ x∈t.place.toList,x≤t.mask
 few:es.size*5<t.mask*3
 way:∀ (i:Nat) (e:Int × Value),es[i]? = some e→∃ n,t.place[i]? = some (it t.mask n (st t.mask e.1)).j∧Way t (st t.mask e.1) n
 plain:t.plain=true
theorem TabT.fits {t:SetTable}{es:Array (Int × Value)}(T:TabT t es):t.fits es.size=true:=by
 have h1:=T.size
 have h2:=T.few
 have h3:t.fill=es.size:=by unfold SetTable.fill;rw[T.tb.dm,h1];rfl
 unfold SetTable.fits
 rw[h3,h1]
 rcases T.msk with h|h|h <;> rw[h] at h2 ⊢ <;> simp <;> omega
theorem TabT.gap {t:SetTable}{es:Array (Int × Value)}(T:TabT t es):∃ e,e≤t.mask∧e ∉ t.place.toList:=by
 apply _S.gap
 rw[Array.length_toList,T.size]
 have h2:=T.few
 rcases T.msk with h|h|h <;> rw[h] at h2 ⊢ <;> omega
theorem TabT.odd {t:SetTable}{es:Array (Int × Value)}(T:TabT t es):t.gaveWay=false:=by
 unfold SetTable.gaveWay
 rcases T.msk with h|h|h <;> rw[h] <;> rfl
theorem TabT.put {t:SetTable}{es:Array (Int × Value)}(T:TabT t es){h:Int}{x:Value}{n:Nat}(w:Way t (st t.mask h) n)(hn:(it t.mask n (st t.mask h)).j ∉ t.place.toList)(hle:(it t.mask n (st t.mask h)).j≤t.mask) :
  let es':=SetTable.insertAt es (t.put (it t.mask n (st t.mask h)).j).2 (h,x)
  Tb (t.put (it t.mask n (st t.mask h)).j).1∧(t.put (it t.mask n (st t.mask h)).j).1.place.size=es'.size∧(∀ y∈(t.put (it t.mask n (st t.mask h)).j).1.place.toList,y≤t.mask) ∧
  (∀ (i:Nat) (e:Int × Value),es'[i]? = some e→∃ m,(t.put (it t.mask n (st t.mask h)).j).1.place[i]? = some (it t.mask m (st t.mask e.1)).j∧Way (t.put (it t.mask n (st t.mask h)).j).1 (st t.mask e.1) m):=by
 generalize hj:(it t.mask n (st t.mask h)).j=j at *
 have pm:∀ y,y∈(t.put j).1.place.toList↔y=j∨y∈t.place.toList:=fun y=>by
  show y∈(SetTable.insertAt t.place (SetTable.below t.place j) j).toList↔_
  rw[(SetTable.insertAt_perm _ _ _).mem_iff]
  simp[or_comm]
 have hb:SetTable.below t.place j≤t.place.size:=(jF T.tb.rs j).le
 have wm:∀ {p:Probe} {m:Nat},Way t p m→Way (t.put j).1 p m:=fun {p m} w q hq=>(pm _).mpr (.inr (w q hq))
 refine⟨FR T.tb hn,?_,fun y hy=>?_,fun i e he=>?_⟩
 ·show (SetTable.insertAt t.place _ j).size=(SetTable.insertAt es _ (h,x)).size
  rw[uE,uE,T.size]
 ·rcases (pm y).mp hy with rfl|hy
  ·exact hle
  ·exact T.le y hy
 ·have he':(if i<SetTable.below t.place j then es[i]? else if i=SetTable.below t.place j then some (h,x) else es[i-1]?)=some e:=by
   rw[← m9 es (by rw[← T.size];exact hb)]
   exact he
  have pl:(t.put j).1.place[i]? = if i<SetTable.below t.place j then t.place[i]? else if i=SetTable.below t.place j then some j else t.place[i-1]?:=m9 t.place hb j i
  rw[pl]
  by_cases h1:i<SetTable.below t.place j
  ·rw[if_pos h1] at he' ⊢
   obtain⟨m,q1,q2⟩:=T.way i e he'
   exact⟨m,q1,wm q2⟩
  ·rw[if_neg h1] at he' ⊢
   by_cases h2:i=SetTable.below t.place j
   ·rw[if_pos h2] at he' ⊢
    cases he'
    exact⟨n,by rw[hj],wm w⟩
   ·rw[if_neg h2] at he' ⊢
    obtain⟨m,q1,q2⟩:=T.way _ e he'
    exact⟨m,q1,wm q2⟩
theorem YO {mask:Nat}(p:Probe)(hp:p.j+p.more≤mask):∀ n,(it mask n p).j+(it mask n p).more≤mask
 |0=>hp
 |n+1=>by
  rw[b7]
  have ih:=YO p hp n
  unfold adv
  split
  ·show (it mask n p).j+1+((it mask n p).more-1)≤mask
   omega
  ·show (leap mask _ _).1+(runEnd mask (leap mask _ _).1-(leap mask _ _).1)≤mask
   have h1:=nL (tZ mask (it mask n p).i (it mask n p).perturb)
   have h2:=nM mask (leap mask (it mask n p).i (it mask n p).perturb).1
   omega
theorem VB (mask:Nat)(h:Int)(n:Nat):(it mask n (st mask h)).j≤mask:=by
 have h0:bits h % (mask+1)≤mask:=Nat.le_of_lt_succ (Nat.mod_lt _ (Nat.succ_pos _))
 have:=YO (mask:=mask) (st mask h) (by
  show bits h % (mask+1)+(runEnd mask (bits h % (mask+1))-bits h % (mask+1))≤mask
  have h1:=nL h0
  have h2:=nM mask (bits h % (mask+1))
  omega) n
 omega
theorem bV {t:SetTable}{es:Array (Int × Value)}(hM:Msk t.mask)(hp:t.plain=true)(h1:t.place.size=es.size)(h2:es.size≤64)(hf:t.tooFull=true)(hd:t.dummies=#[])(h3:(es.size-1)*5<t.mask*3)(h4:0<es.size) :
  SetTable.sizeAbove (SetTable.grown es.size)≤128∧∃ t' qR,t.relaid (es.map (·.1)) (SetTable.grown es.size)=some (t',qR)∧t'.led=t.led∧(qR.filterMap (es[·]?)).toList.Perm es.toList∧TabT t' (qR.filterMap (es[·]?))∧qR.toList.Perm (List.range es.size):=by
 have hfill:t.fill=es.size:=by unfold SetTable.fill;rw[hd,h1];rfl
 have hful:t.mask*3≤es.size*5:=by
  unfold SetTable.tooFull at hf
  rw[hfill] at hf
  simpa using hf
 have hcase:(es.size=5∧SetTable.sizeAbove (SetTable.grown es.size)=32)∨(es.size=19∧SetTable.sizeAbove (SetTable.grown es.size)=128):=by
  rcases hM with h|h|h <;> rw[h] at hful h3
  ·have:es.size=5:=by omega
   exact .inl ⟨this,by rw[this];decide⟩
  ·have:es.size=19:=by omega
   exact .inr ⟨this,by rw[this];decide⟩
  ·omega
 have hM':Msk (SetTable.sizeAbove (SetTable.grown es.size)-1):=by
  rcases hcase with⟨_,h⟩|⟨_,h⟩ <;> rw[h]
  ·exact .inr (.inl rfl)
  ·exact .inr (.inr rfl)
 have hle:(es.map (·.1)).size≤SetTable.sizeAbove (SetTable.grown es.size)-1:=by
  rw[Array.size_map]
  rcases hcase with⟨h5,h⟩|⟨h5,h⟩ <;> rw[h,h5] <;> omega
 obtain⟨t',qR,e,l1,l2,L⟩:=Q1 hM' (es.map (·.1)) hle t.finger (t.movedTo (SetTable.sizeAbove (SetTable.grown es.size)-1)) t.led t.plain
 have hosz:qR.size=es.size:=by
  have:=L.perm.length_eq
  simpa using this
 have hord:∀ i k,qR[i]? = some k→k<es.size:=fun i k q=>by
  have:k∈List.range (es.map (·.1)).size:=L.perm.mem_iff.mp (List.mem_of_getElem? (by rw[Array.getElem?_toList];exact q))
  simpa using this
 have hfm:(qR.filterMap (es[·]?)).toList=qR.toList.map fun k=>es.toList.getD k (0,.none):=by
  rw[Array.toList_filterMap]
  have:∀ l:List Nat,(∀ k∈l,k<es.size)→l.filterMap (es[·]?)=l.map fun k=>es.toList.getD k (0,.none):=by
   intro l
   induction l with
   |nil=>intro _;rfl
   |cons a l ih =>
    intro hl
    have ha:=hl a (by simp)
    rw[List.filterMap_cons,List.map_cons,ih fun k hk=>hl k (by simp[hk])]
    rw[Array.getElem?_eq_getElem ha]
    simp[ha]
  refine this _ fun k hk=>?_
  obtain⟨i,hi,q⟩:=List.mem_iff_getElem.mp hk
  exact hord i k (by rw[← Array.getElem?_toList,List.getElem?_eq_getElem hi,q])
 have hperm:(qR.filterMap (es[·]?)).toList.Perm es.toList:=by
  rw[hfm]
  have p1:=L.perm.map fun k=>es.toList.getD k (0,Value.none)
  refine p1.trans ?_
  have e2:(List.range (es.map (·.1)).size).map (fun k=>es.toList.getD k (0,Value.none))=es.toList:=by
   apply List.ext_getElem
   ·simp
   ·intro i a1 a2
    have a3:i<es.size:=by simpa using a2
    simp[a3]
  rw[e2]
 have hsz:(qR.filterMap (es[·]?)).size=es.size:=by rw[← Array.length_toList,hperm.length_eq,Array.length_toList]
 have hentry:∀ i,(qR.filterMap (es[·]?))[i]? = (qR[i]?).map fun k=>es.toList.getD k (0,.none):=fun i=>by
  rw[← Array.getElem?_toList,hfm,List.getElem?_map,Array.getElem?_toList]
 refine⟨by rcases hcase with⟨_,h⟩|⟨_,h⟩ <;> rw[h] <;> decide,t',qR,by rw[K9];exact e,l1,hperm,⟨L.tb,by rw[L.msk];exact hM',by rw[L.size,hsz,Array.size_map],by rw[L.msk];exact L.le,?_,fun i en q=>?_,by rw[l2];exact hp⟩,by have:=L.perm;rwa [Array.size_map] at this⟩
 ·rw[hsz,L.msk]
  rcases hcase with⟨h5,h⟩|⟨h5,h⟩ <;> rw[h,h5] <;> omega
 ·rw[hentry] at q
  cases hz:qR[i]? with
  |none=>rw[hz] at q;cases q
  |some k =>
   rw[hz] at q
   simp only[Option.map_some,Option.some.injEq] at q
   have hk:=hord i k hz
   have:(es.map (·.1))[k]? = some en.1:=by
    rw[Array.getElem?_map,Array.getElem?_eq_getElem hk]
    rw[← q]
    simp[hk]
   rw[L.msk]
   exact L.way i k en.1 hz this
end _S
end
section
namespace _S
open PySem
open PySem.SetTable (Probe leap runEnd turns bits)
def Sup (h0 h:Heap):Prop:=∀ b o,h0.get? b=some o→h.get? b=some o
def isT (prog:Program)(w:World)(h0:Heap)(ks:List Int)(v:Value):Prop:=∃ a,v=.ref a∧IsTupleKey (intKind prog w) h0 ks a
section
variable {prog:Program}{w:World}{h0:Heap}
theorem isT.inj {x y:List Int}{v:Value}(hx:isT prog w h0 x v)(hy:isT prog w h0 y v):x=y:=by
 obtain⟨a,rfl,h1⟩:=hx
 obtain⟨b,e,h2⟩:=hy
 cases e
 exact h1.inj h2
theorem uM {h:Heap}{ks:List Int}{a:Addr}(hS:Sup h0 h)(hx:IsTupleKey (intKind prog w) h0 ks a):IsTupleKey (intKind prog w) h ks a:=by
 obtain⟨o,items,n,ho,r⟩:=hx
 exact⟨o,items,n,hS _ _ ho,r⟩
variable {A:Around}{E:Value→Shared→Prop}{s:Shared}
theorem NF {k:List Int}{v:Value}{Q:Int→Shared→Prop}(hu:A.units<cLine)(hS:Sup h0 s.heap)(hx:isT prog w h0 k v)(h:Q (tupleKeyHash (intKind prog w) k) { s with toks:=s.toks+(k.length+1) }) : wpAny (model prog w) A (pyHash v) Q E s:=by
 obtain⟨a,rfl,hx⟩:=hx
 exact wpAny_pyHash_tuple hu (uM hS hx) h
theorem eqT {k k':List Int}{v v':Value}{Q:Bool→Shared→Prop}(hu:A.units<cLine)(hS:Sup h0 s.heap)(hx:isT prog w h0 k v)(hy:isT prog w h0 k' v')(h:Q (decide (k=k')) s):wpAny (model prog w) A (eqBool v v') Q E s:=by
 obtain⟨a,rfl,hx⟩:=hx
 obtain⟨b,rfl,hy⟩:=hy
 exact wpAny_eqBool_tuple hu (uM hS hx) (uM hS hy) h
theorem mG {prog:Program}{w:World}:∀ {ks:List Int} {vs:List Value},ItemsAre (intKind prog w) ks vs→∀ v∈vs,∃ i t,v=.int i t:=by
 intro ks vs h
 induction h with
 |nil=>intro v hv;simp at hv
 |@cons k v' ks vs h1 _ ih =>
  intro v hv
  rcases List.mem_cons.mp hv with rfl|hv
  ·cases v <;> first|exact⟨_,_,rfl⟩|exact absurd h1 (by rintro⟨⟩)
  ·exact ih v hv
theorem DQ {k:List Int}{v:Value}{Q:Bool→Shared→Prop}(hS:Sup h0 s.heap)(hx:isT prog w h0 k v)(h:Q true s):wpAny (model prog w) A (hashByValue 8 v) Q E s:=by
 obtain⟨a,rfl,hx⟩:=hx
 have hx:=uM hS hx
 have hT:=hx.typeIs
 obtain⟨o,items,n,ho,_,hd,hi⟩:=hx
 unfold hashByValue
 refine wpAny_bind (wpAny_specialOf hT F.slot_tuple_hash.lookup ?_)
 show wpAny _ _ (seqItems? (.ref a) >>= _) Q E s
 refine wpAny_bind (wpAny_seqItems ho hd ?_)
 refine wpAny_bind ?_
 show wpAny _ _ (forIn items _ _) _ _ s
 rw[← Array.forIn_toList]
 refine wpAny_forIn_list _ (fun rest r s'=>r.1=none∧s'=s∧∀ v∈rest,∃ i t,v=.int i t) _ ?_ ?_ _ _ ⟨rfl,rfl,mG hi⟩
 ·rintro v rest r s' ⟨hr,rfl,hall⟩
  obtain⟨i,t,rfl⟩:=hall v List.mem_cons_self
  show wpAny _ _ (hashByValue 7 (.int i t) >>= _) _ _ _
  rw[show hashByValue 7 (.int i t)=pure true from rfl]
  refine wpAny_bind (wpAny_pure ?_)
  simp only[Bool.not_true,Bool.false_eq_true,if_false]
  exact wpAny_pure ⟨rfl,rfl,fun u hu'=>hall u (List.mem_cons_of_mem _ hu')⟩
 ·rintro⟨r1,r2⟩ s' ⟨hr,rfl,_⟩
  simp only at hr
  subst hr
  exact wpAny_pure h
theorem o8 {k:List Int}{v:Value}{Q:Bool→Shared→Prop}(hS:Sup h0 s.heap)(hx:isT prog w h0 k v)(h:Q false s):wpAny (model prog w) A (ofAClassStatement 8 v) Q E s:=by
 obtain⟨a,rfl,hx⟩:=hx
 have hx:=uM hS hx
 have hT:=hx.typeIs
 obtain⟨o,items,n,ho,_,hd,hi⟩:=hx
 unfold ofAClassStatement
 refine wpAny_bind (wpAny_typeOf hT ?_)
 dsimp only
 refine wpAny_bind (wpAny_pure ?_)
 simp only[Bool.not_true,Bool.false_eq_true,if_false]
 refine wpAny_bind (wpAny_seqItems ho hd ?_)
 refine wpAny_bind ?_
 show wpAny _ _ (forIn items _ _) _ _ s
 rw[← Array.forIn_toList]
 refine wpAny_forIn_list _ (fun rest r s'=>r.1=none∧s'=s∧∀ v∈rest,∃ i t,v=.int i t) _ ?_ ?_ _ _ ⟨rfl,rfl,mG hi⟩
 ·rintro v rest r s' ⟨hr,rfl,hall⟩
  obtain⟨i,t,rfl⟩:=hall v List.mem_cons_self
  show wpAny _ _ (ofAClassStatement 7 (.int i t) >>= _) _ _ _
  rw[show ofAClassStatement 7 (.int i t)=pure false from rfl]
  refine wpAny_bind (wpAny_pure ?_)
  simp only[Bool.false_eq_true,if_false]
  exact wpAny_pure ⟨rfl,rfl,fun u hu'=>hall u (List.mem_cons_of_mem _ hu')⟩
 ·rintro⟨r1,r2⟩ s' ⟨hr,rfl,_⟩
  simp only at hr
  subst hr
  exact wpAny_pure h
theorem QR {k:List Int}{v:Value}{Q:Bool→Shared→Prop}(hS:Sup h0 s.heap)(hx:isT prog w h0 k v)(h:Q true s):wpAny (model prog w) A (eqIsQuiet 8 v) Q E s:=by
 obtain⟨a,rfl,hx⟩:=hx
 exact wpAny_eqIsQuiet_tuple (uM hS hx) h
theorem i7 {α : Type}{c:Prop}[Decidable c]{M:Model}{t u:Sem α}{Q:α→Shared→Prop}(h1:c→wpAny M A t Q E s)(h2:¬ c→wpAny M A u Q E s):wpAny M A (if c then t else u) Q E s:=by
 by_cases h:c
 ·rw[if_pos h];exact h1 h
 ·rw[if_neg h];exact h2 h
theorem LJ {k:List Int}{x:Value}{ys:List Value}{Q:Bool→Shared→Prop}(hS:Sup h0 s.heap)(hx:isT prog w h0 k x)(hy:∀ y∈ys,∃ k',isT prog w h0 k' y)(h:Q false s):wpAny (model prog w) A (searchCouldBeSeen x ys) Q E s:=by
 unfold searchCouldBeSeen
 refine wpAny_bind ?_
 refine wpAny_forIn_list _ (fun rest r s'=>r.1=none∧s'=s∧∀ v∈rest,∃ k',isT prog w h0 k' v) _ ?_ ?_ _ _ ⟨rfl,rfl,hy⟩
 ·rintro v rest r s' ⟨hr,rfl,hall⟩
  obtain⟨k',hv⟩:=hall v List.mem_cons_self
  have hrest:∀ u∈rest,∃ k',isT prog w h0 k' u:=fun u hu'=>hall u (List.mem_cons_of_mem _ hu')
  dsimp only
  refine i7 (fun _=>wpAny_pure ⟨rfl,rfl,hrest⟩) fun _=>?_
  ·refine wpAny_bind (QR hS hx ?_)
   simp only[Bool.not_true,Bool.false_eq_true,if_false]
   refine wpAny_bind (QR hS hv ?_)
   simp only[Bool.not_true,Bool.false_eq_true,if_false]
   refine wpAny_bind (o8 hS hx ?_)
   simp only[Bool.false_eq_true,if_false]
   refine wpAny_bind (o8 hS hv ?_)
   simp only[Bool.false_eq_true,if_false]
   exact wpAny_pure ⟨rfl,rfl,hrest⟩
 ·rintro⟨r1,r2⟩ s' ⟨hr,rfl,_⟩
  simp only at hr
  subst hr
  exact wpAny_pure h
theorem LI {k:List Int}{v:Value}{Q:Bool→Shared→Prop}(hx:isT prog w h0 k v)(h:Q true s):wpAny (model prog w) A (isSame v v) Q E s:=by
 obtain⟨a,rfl,hx⟩:=hx
 unfold isSame
 simp only[beq_self_eq_true,if_true]
 exact wpAny_pure h
theorem YM {k:List Int}{x:Value}{S:Addr}{o:Obj}{es:Array (Int × Value)}{ep:Nat}{t:SetTable}{seen:List (List Int)}(hu:A.units<cLine)(hS:Sup h0 s.heap)(ho:s.heap.get? S=some o)(hd:o.data=.set es ep t)
  (T:TabT t es) (Z:Set0 (isT prog w h0) (tupleKeyHash (intKind prog w)) es seen) (hx:isT prog w h0 k x) (N:Nat) (hNw:Way t (st t.mask (tupleKeyHash (intKind prog w) k)) N)
  (hNe:(it t.mask N (st t.mask (tupleKeyHash (intKind prog w) k))).j ∉ t.place.toList) (hNf:N<10*turns t.mask) {Q:SetFound→Shared→Prop}
  (h1:k∈seen→Q (.there none) s) (h2:k ∉ seen→Q (.free (it t.mask N (st t.mask (tupleKeyHash (intKind prog w) k))).j false) s) :
  ∀ (fuel n:Nat) (stand:Option Probe),stand.getD (t.probeStart (tupleKeyHash (intKind prog w) k))=it t.mask n (st t.mask (tupleKeyHash (intKind prog w) k))→n≤N→N-n<fuel →
   (∀ (m i:Nat) (e:Int × Value),m<n→t.place[i]? = some (it t.mask m (st t.mask (tupleKeyHash (intKind prog w) k))).j→es[i]? = some e→¬ isT prog w h0 k e.2) →
   wpAny (model prog w) A (setSearchFrom S x (tupleKeyHash (intKind prog w) k) true fuel stand) Q E s
 |0,n,stand,_,_,hf,_=>by omega
 |fuel+1,n,stand,hst,hn,hf,hq=>by
  unfold setSearchFrom
  refine wpAny_bind (wpAny_setState_of ho hd T.fits ?_)
  dsimp only
  rw[T.odd]
  simp only[Bool.false_eq_true,if_false]
  rw[hst]
  generalize hg:t.probe _ (tupleKeyHash (intKind prog w) k) (it t.mask n (st t.mask (tupleKeyHash (intKind prog w) k)))=r
  obtain⟨H,hH,hg⟩:∃ H:Nat→Int,(∀ i,H i=(es[i]?.map (·.1)).getD 0)∧t.probe H (tupleKeyHash (intKind prog w) k) (it t.mask n (st t.mask (tupleKeyHash (intKind prog w) k)))=r:=⟨_,fun i=>rfl,hg⟩
  have itn:∀ m,it t.mask m (it t.mask n (st t.mask (tupleKeyHash (intKind prog w) k)))=it t.mask (n+m) (st t.mask (tupleKeyHash (intKind prog w) k)):=fun m=>(mF _ _ _ _).symm
  have gm:Meets t H (tupleKeyHash (intKind prog w) k) (it t.mask n (st t.mask (tupleKeyHash (intKind prog w) k))) (10*turns t.mask) r:=by
   rw[← hg]
   refine gB T.tb H _ _ _ (by rw[fJ];rfl) ⟨N-n,by omega,?_⟩
   rw[itn,show n+(N-n)=N by omega]
   exact hNe
  have miss:∀ j:Nat,(∀ m i:Nat,m<j→t.place[i]? = some (it t.mask m (it t.mask n (st t.mask (tupleKeyHash (intKind prog w) k)))).j→H i≠tupleKeyHash (intKind prog w) k) →
    ∀ (m i:Nat) (e:Int × Value),m<n+j→t.place[i]? = some (it t.mask m (st t.mask (tupleKeyHash (intKind prog w) k))).j→es[i]? = some e→¬ isT prog w h0 k e.2:=fun j qj m i e hm ei ee hk=>by
   by_cases hmn:m<n
   ·exact hq m i e hmn ei ee hk
   ·refine qj (m-n) i (by omega) (by rw[itn,show n+(m-n)=m by omega];exact ei) ?_
    rw[hH,ee]
    obtain⟨k',e1,e2⟩:=Z.good e (List.mem_of_getElem? (by rw[Array.getElem?_toList];exact ee))
    rw[isT.inj hk e2]
    simpa using e1
  cases gm with
  |emp j hj w' e' q =>
   rw[itn] at e'
   have hjN:n+j=N:=by
    rcases Nat.lt_trichotomy (n+j) N with h|h|h
    ·exact absurd (hNw _ h) e'
    ·exact h
    ·have:=w' (N-n) (by omega)
     rw[itn,show n+(N-n)=N by omega] at this
     exact absurd this hNe
   dsimp only
   rw[itn,hjN]
   refine wpAny_pure (h2 fun hk=>?_)
   obtain⟨e,he,hke⟩:=(Z.mem k).mp hk
   obtain⟨i,hi,ei⟩:=List.mem_iff_getElem.mp he
   have ei':es[i]? = some e:=by rw[← Array.getElem?_toList,List.getElem?_eq_getElem hi,ei]
   obtain⟨m,w1,w2⟩:=T.way i e ei'
   obtain⟨k',g1,g2⟩:=Z.good e he
   have:=isT.inj hke g2
   subst this
   rw[g1] at w1 w2
   have hmN:m<N:=by
    apply Classical.byContradiction
    intro hc
    by_cases hmN:m=N
    ·subst hmN
     exact hNe (List.mem_of_getElem? (by rw[Array.getElem?_toList];exact w1))
    ·exact hNe (w2 N (by omega))
   exact miss j q m i e (by omega) w1 ei' hke
  |cand j i hj w' e' hh q =>
   rw[itn] at e'
   have hi:i<es.size:=by
    rw[← T.size]
    exact(Array.getElem?_eq_some_iff.mp e').1
   have ei:es[i]? = some es[i]:=Array.getElem?_eq_getElem hi
   have hjN:n+j<N:=by
    rcases Nat.lt_trichotomy (n+j) N with h|h|h
    ·exact h
    ·rw[h] at e'
     exact absurd (List.mem_of_getElem? (by rw[Array.getElem?_toList];exact e')) hNe
    ·have:=w' (N-n) (by omega)
     rw[itn,show n+(N-n)=N by omega] at this
     exact absurd this hNe
   obtain⟨k',g1,g2⟩:=Z.good es[i] (by simp)
   dsimp only
   have main:wpAny (model prog w) A (do
     let some (_,y):=es[i]?|unsupported "internal:set-entry"
     let equal ← holding [y] (eqBool y x)
     let (es',_,t') ← setState S
     if true&&equal then return .there none
     let some same:=t'.sameMemory t.moves t.mask|unsupported "set.changed-during-lookup:is-the-new-block-at-the-old-address"
     let still ← match (if same then t'.slot (it t.mask j (it t.mask n (st t.mask (tupleKeyHash (intKind prog w) k)))).j else .empty) with
      |.live i'=>match es'[i']? with
       |some (_,y')=>do pure (if ← isSame y' y then some i' else none)
       |none=>pure none
      |_=>pure none
     match still with
     |none=>rule "set.search.anew";setSearchFrom S x (tupleKeyHash (intKind prog w) k) true fuel none
     |some i'=>if equal then return .there (some i') else setSearchFrom S x (tupleKeyHash (intKind prog w) k) true fuel (some (it t.mask (j+1) (it t.mask n (st t.mask (tupleKeyHash (intKind prog w) k)))))) Q E s:=by
    rw[ei]
    dsimp only
    refine wpAny_bind (wpAny_holding (eqT hu hS g2 hx ?_))
    refine wpAny_bind (wpAny_setState_of ho hd T.fits ?_)
    by_cases hkk:k'=k
    ·subst hkk
     simp only[decide_true,Bool.and_self,if_true]
     exact wpAny_pure (h1 ((Z.mem k').mpr ⟨es[i],by simp,g2⟩))
    ·simp only[hkk,decide_false,Bool.and_false,Bool.false_eq_true,if_false]
     have hm:t.sameMemory t.moves t.mask=some true:=by simp[SetTable.sameMemory]
     rw[hm]
     dsimp only
     rw[itn,lO T.tb e']
     simp only[if_true,ei]
     refine wpAny_bind (LI g2 ?_)
     simp only[if_true]
     refine wpAny_bind (wpAny_pure ?_)
     dsimp only
     refine YM hu hS ho hd T Z hx N hNw hNe hNf h1 h2 fuel (n+j+1) _ ?_ (by omega) (by omega) fun m i' e hm ei' ee hk=>?_
     ·rw[Option.getD_some,itn]
      rfl
     ·by_cases hmj:m<n+j
      ·exact miss j q m i' e hmj ei' ee hk
      ·have:m=n+j:=by omega
       subst this
       have:=QZ T.tb.rs ei' e'
       subst this
       rw[ei] at ee
       cases ee
       exact hkk (isT.inj g2 hk)
   refine i7 (fun _=>?_) fun _=>?_
   ·refine wpAny_bind (LJ hS hx (fun y hy=>?_) ?_)
    ·obtain⟨e,he,rfl⟩:=List.mem_map.mp hy
     have:e∈es.toList:=by
      have:=(Array.mem_toList_iff.mp he)
      exact Array.mem_toList_iff.mpr (Array.mem_filter.mp this).1
     obtain⟨k2,_,g⟩:=Z.good e this
     exact⟨k2,g⟩
    ·simp only[Bool.false_eq_true,if_false]
     exact main
   ·exact main
end
end _S
end
section
namespace _S
open PySem
open PySem.SetTable (Probe leap runEnd turns bits)
@[reducible] def jP (es:Array (Int × Value))(ep:Nat)(t:SetTable):Obj:={ cls:=.type "set",dict:=none,data:=.set es ep t }
theorem bF {h:Heap}{S:Addr}{es es':Array (Int × Value)}{ep:Nat}{t t':SetTable}(ho:h.get? S=some (jP es ep t)):(h.update S (Obj.putSet es' t')).get? S=some (jP es' (ep+1) t'):=Heap.get?_update_self _ ho rfl
structure SetK {K:Type}(is:K→Value→Prop)(hash:K→Int)(S:Addr)(led:Bool)(V:List Value)(seen:List K)(h:Heap):Prop where
 ex:∃ es ep t,h.get? S=some (jP es ep t)∧Set0 is hash es seen∧TabT t es∧t.led=led∧∀ e∈es.toList,e.2∈V
section
variable {prog:Program}{w:World}{h0:Heap}{A:Around}{E:Value→Shared→Prop}{s:Shared}{S:Addr}{led:Bool}{V:List Value}
theorem WX (a:Addr)(wanted:Nat):setRelay a wanted=(do
  let (es,_,t) ← setState a
  if SetTable.sizeAbove wanted>sizeLine then unsupported "set:memory"
  let (es,t) ← (do
   let some (t,qR):=t.relaid (es.map (·.1)) wanted|unsupported "internal:set-table-without-room"
   let es':=qR.filterMap (es[·]?)
   if es'.size != es.size then unsupported "internal:set-table-lost-an-element"
   pure (es',t))
  storeSet a es t):=rfl
theorem DM {seen:List (List Int)}{k:List Int}{x:Value}{Q:Bool→Shared→Prop}(hu:A.units<cLine)(hS:Sup h0 s.heap)(Z:SetK (isT prog w h0) (tupleKeyHash (intKind prog w)) S led V seen s.heap)(hx:isT prog w h0 k x)(hV:x∈V){U:List (List Int)}(hU:U.length≤63)(hU1:∀ k'∈seen,k'∈U)(hU2:k∈U)
  (h:∀ (b:Bool) (h':Heap) (tk:Nat),s.toks≤tk→Heap.SameBut S s.heap h'→SetK (isT prog w h0) (tupleKeyHash (intKind prog w)) S led V (k::seen) h'→Q b { s with heap:=h',toks:=tk }) : wpAny (model prog w) A (setAdd S x) Q E s:=by
 obtain⟨es,ep,t,ho,Z,T,hl,hm⟩:=Z
 unfold setAdd
 refine wpAny_holding (wpAny_bind (NF hu hS hx ?_))
 unfold setAddHashed setAddHashedIn
 refine wpAny_holding (wpAny_bind (wpAny_setState_of (s:={ s with toks:=s.toks+(k.length+1) }) ho rfl T.fits ?_))
 dsimp only
 have hsc:byScan x es=false:=by
  obtain⟨a,rfl,_⟩:=hx
  rfl
 rw[hsc]
 simp only[Bool.false_eq_true,if_false]
 obtain⟨e,he,hne⟩:=T.gap
 have first:∃ N,Way t (st t.mask (tupleKeyHash (intKind prog w) k)) N∧(it t.mask N (st t.mask (tupleKeyHash (intKind prog w) k))).j ∉ t.place.toList∧N<10*turns t.mask:=by
  obtain⟨N,hN,eN⟩:=sL T.msk (tupleKeyHash (intKind prog w) k) he
  have gm:=gB T.tb (fun _=>tupleKeyHash (intKind prog w) k+1) (tupleKeyHash (intKind prog w) k) (10*turns t.mask) (st t.mask (tupleKeyHash (intKind prog w) k)) rfl ⟨N,hN,by rw[eN];exact hne⟩
  generalize SetTable.probe.go t _ _ _ _=r at gm
  cases gm with
  |emp j hj w' e' q=>exact⟨j,w',e',hj⟩
  |cand j i hj w' e' hh q=>exact absurd hh (by omega)
 obtain⟨N,hNw,hNe,hNf⟩:=first
 have hNt:N<100000:=by
  have:turns t.mask≤142:=by
   unfold turns
   rcases T.msk with h|h|h <;> rw[h] <;> omega
  omega
 refine wpAny_bind (YM (s:={ s with toks:=s.toks+(k.length+1) }) hu hS ho rfl T Z hx N hNw hNe hNf (fun hk=>?_) (fun hk=>?_) 100000 0 none rfl (by omega) (by omega) fun m i e hm=>by omega)
 ·exact wpAny_pure (h _ s.heap _ (by omega) (Heap.SameBut.refl _ _) ⟨es,ep,t,ho,Z.again hk,T,hl,hm⟩)
 ·have hle:es.size<63:=Nat.lt_of_lt_of_le (Z.few hU1 hU2 hk) hU
  dsimp only
  refine wpAny_bind (wpAny_setState_of (s:={ s with toks:=s.toks+(k.length+1) }) ho rfl T.fits ?_)
  obtain⟨p1,p2,p3,p4⟩:=T.put (h:=tupleKeyHash (intKind prog w) k) (x:=x) hNw hNe (VB _ _ _)
  generalize hj:(it t.mask N (st t.mask (tupleKeyHash (intKind prog w) k))).j=j at *
  have m1:(t.put j).1.mask=t.mask:=rfl
  have m2:(t.put j).1.plain=true:=T.plain
  have m3:(t.put j).1.led=led:=hl
  generalize hp:t.put j=tp at *
  obtain⟨t1,p⟩:=tp
  dsimp only at p1 p2 p3 p4 m1 m2 m3 ⊢
  rw[m2]
  simp only[if_true]
  refine wpAny_bind (DQ (s:={ s with toks:=s.toks+(k.length+1) }) hS hx ?_)
  simp only[if_true,Bool.not_false,Bool.true_and]
  have hsz:(SetTable.insertAt es p (tupleKeyHash (intKind prog w) k,x)).size=es.size+1:=uE _ _ _
  have hline:es.size+1≤sizeLine:=by rw[sizeLine_eq];omega
  refine wpAny_bind (wpAny_storeSet_of (s:={ s with toks:=s.toks+(k.length+1) }) ho rfl ?_ (by rw[hsz];exact hline))
  have Z1:Set0 (isT prog w h0) (tupleKeyHash (intKind prog w)) (SetTable.insertAt es p (tupleKeyHash (intKind prog w) k,x)) (k::seen):=by
   refine Z.push (fun a b=>isT.inj a b) hx hk ?_
   have:=SetTable.insertAt_perm es p (tupleKeyHash (intKind prog w) k,x)
   rw[Array.toList_push] at this
   exact this
  have hm1:∀ e∈(SetTable.insertAt es p (tupleKeyHash (intKind prog w) k,x)).toList,e.2∈V:=fun e he=>by
   have:=(SetTable.insertAt_perm es p (tupleKeyHash (intKind prog w) k,x)).mem_iff.mp he
   rw[Array.toList_push] at this
   rcases List.mem_append.mp this with h1|h1
   ·exact hm e h1
   ·simp at h1;subst h1;exact hV
  have ho1:=bF (es':=SetTable.insertAt es p (tupleKeyHash (intKind prog w) k,x)) (t':=t1) ho
  have sb1:=Heap.SameBut.update s.heap S (Obj.putSet (SetTable.insertAt es p (tupleKeyHash (intKind prog w) k,x)) t1)
  have hfit:t1.fits (SetTable.insertAt es p (tupleKeyHash (intKind prog w) k,x)).size=true:=by
   have h3:t1.fill=es.size+1:=by unfold SetTable.fill;rw[p1.dm,p2,hsz];rfl
   have h2:=T.few
   unfold SetTable.fits
   rw[h3,p2,hsz,m1]
   rcases T.msk with h|h|h <;> rw[h] at h2 ⊢ <;> simp <;> omega
  refine i7 (fun hf=>?_) fun hf=>?_
  ·have hM1:Msk t1.mask:=by rw[m1];exact T.msk
   have h3:((SetTable.insertAt es p (tupleKeyHash (intKind prog w) k,x)).size-1)*5<t1.mask*3:=by rw[hsz,m1];exact T.few
   obtain⟨q1,t2,qR,q2,q3,q4,q5,_⟩:=bV hM1 m2 p2 (by rw[hsz];omega) (by simpa using hf) p1.dm h3 (by rw[hsz];omega)
   rw[hsz] at q1 q2
   rw[WX]
   refine wpAny_bind ?_
   refine wpAny_bind (wpAny_setState_of (s:={ s with heap:=_,toks:=s.toks+(k.length+1) }) ho1 rfl hfit ?_)
   dsimp only
   rw[if_neg (by rw[sizeLine_eq];omega)]
   refine wpAny_bind ?_
   rw[q2]
   dsimp only
   have hs2:(qR.filterMap fun x_1=>(SetTable.insertAt es p (tupleKeyHash (intKind prog w) k,x))[x_1]?).size=es.size+1:=by rw[← Array.length_toList,q4.length_eq,Array.length_toList,hsz]
   rw[if_neg (by rw[hs2,hsz];simp)]
   refine wpAny_pure ?_
   refine wpAny_storeSet_of (s:={ s with heap:=_,toks:=s.toks+(k.length+1) }) ho1 rfl ?_ (by rw[hs2];exact hline)
   refine wpAny_pure (h _ _ _ (Nat.le_add_right _ _) (sb1.trans (Heap.SameBut.update _ S _)) ⟨_,_,t2,bF ho1,Z1.perm q4,q5,by rw[q3];exact m3,fun e he=>hm1 e (q4.mem_iff.mp he)⟩)
  ·refine wpAny_pure (h _ _ _ (Nat.le_add_right _ _) sb1 ⟨_,_,t1,ho1,Z1,⟨p1,by rw[m1];exact T.msk,p2,by rw[m1];exact p3,?_,by rw[m1];exact p4,m2⟩,m3,hm1⟩)
   have h3:t1.fill=es.size+1:=by unfold SetTable.fill;rw[p1.dm,p2,hsz];rfl
   unfold SetTable.tooFull at hf
   rw[h3] at hf
   rw[hsz]
   simpa using hf
end
end _S
end
section
namespace _S
open PySem
open PySem.SetTable (Probe leap runEnd turns bits)
def isI (prog:Program)(w:World)(k:Int)(v:Value):Prop:=(intKind prog w).is k v=true
section
variable {prog:Program}{w:World}{A:Around}{E:Value→Shared→Prop}{s:Shared}{S:Addr}{led:Bool}{V:List Value}
set_option tactic.hygienic true in
theorem wW {k:Int}{v:Value}(h:isI prog w k v):∃ t,v=.int k t:=by
 cases v <;> first|(exact absurd h (by rintro⟨⟩)) | skip
 rename_i i t
 refine⟨t,?_⟩
 have:i=k:=(intKind prog w).inj (.int i t) i k (intKind_is _ _ _ _) h
 rw[this]
theorem s9 {es:Array (Int × Value)}{seen:List Int}(Z:Set0 (isI prog w) (intKind prog w).hash es seen):ElemsOf (intKind prog w) es.toList:=fun e he=>by
 obtain⟨k,h1,h2⟩:=Z.good e he
 refine⟨⟨k,h2,h1⟩,?_⟩
 obtain⟨t,q⟩:=wW h2
 rw[q];rfl
theorem DJ {seen:List Int}{k:Int}{x:Value}{Q:Bool→Shared→Prop}(Z:SetK (isI prog w) (intKind prog w).hash S led V seen s.heap)(hx:isI prog w k x)(hV:x∈V){U:List Int}(hU:U.length≤63)(hU1:∀ k'∈seen,k'∈U)(hU2:k∈U)
  (h:∀ (b:Bool) (h':Heap) (tk:Nat),s.toks≤tk→Heap.SameBut S s.heap h'→SetK (isI prog w) (intKind prog w).hash S led V (k::seen) h'→Q b { s with heap:=h',toks:=tk }) : wpAny (model prog w) A (setAdd S x) Q E s:=by
 obtain⟨es,ep,t,ho,Z,T,hl,hm⟩:=Z
 have hsc:x.scannable=true:=by
  obtain⟨tk,q⟩:=wW hx
  rw[q];rfl
 have hf:=T.fits
 have hb:es.size<scanBound:=by
  have h1:=T.few
  have:scanBound=4096:=rfl
  rcases T.msk with h|h|h <;> rw[h] at h1 <;> omega
 unfold setAdd
 refine wpAny_holding (wpAny_bind ((intKind prog w).pyHash (k:=k) hx ?_))
 unfold setAddHashed setAddHashedIn
 refine wpAny_holding (wpAny_bind (wpAny_setState_of (s:={ s with toks:=s.toks+1 }) ho rfl hf ?_))
 dsimp only
 rw[byScan_of hsc hb (s9 Z)]
 simp only[if_true]
 unfold setAddByScan
 refine wpAny_bind (wpAny_bind (wpAny_rule (wpAny_bind (wpAny_setScan_of (s:={ s with toks:=s.toks+1 }) hx ho rfl hf (s9 Z) ?_))))
 cases hr:es.toList.findIdx? (fun e=>(intKind prog w).is k e.2) with
 |some j =>
  dsimp only
  obtain⟨hj,hpj,_⟩:=List.findIdx?_eq_some_iff_getElem.mp hr
  have hk:k∈seen:=(Z.mem k).mpr ⟨es.toList[j],List.getElem_mem hj,hpj⟩
  exact wpAny_pure (wpAny_pure (h _ s.heap _ (Nat.le_add_right _ _) (Heap.SameBut.refl _ _) ⟨es,ep,t,ho,Z.again hk,T,hl,hm⟩))
 |none =>
  dsimp only
  have hk:k ∉ seen:=fun hk=>by
   obtain⟨e,he,q⟩:=(Z.mem k).mp hk
   have:=List.findIdx?_eq_none_iff.mp hr e he
   rw[show (intKind prog w).is k e.2=true from q] at this
   cases this
  have hle:es.size<63:=Nat.lt_of_lt_of_le (Z.few hU1 hU2 hk) hU
  obtain⟨e,he,hne⟩:=T.gap
  have first:∃ N,Way t (st t.mask ((intKind prog w).hash k)) N∧(it t.mask N (st t.mask ((intKind prog w).hash k))).j ∉ t.place.toList∧t.freeSlot ((intKind prog w).hash k)=some ((it t.mask N (st t.mask ((intKind prog w).hash k))).j,false):=by
   obtain⟨N,hN,eN⟩:=sL T.msk ((intKind prog w).hash k) he
   have gm:=gB T.tb (fun _=>(intKind prog w).hash k+1) ((intKind prog w).hash k) (10*turns t.mask) (st t.mask ((intKind prog w).hash k)) rfl ⟨N,hN,by rw[eN];exact hne⟩
   unfold SetTable.freeSlot SetTable.probe
   rw[LN]
   generalize SetTable.probe.go t _ _ _ _=r at gm
   cases gm with
   |emp j hj w' e' q=>exact⟨j,w',e',rfl⟩
   |cand j i hj w' e' hh q=>exact absurd hh (by omega)
  obtain⟨N,hNw,hNe,hfs⟩:=first
  obtain⟨p1,p2,p3,p4⟩:=T.put (h:=(intKind prog w).hash k) (x:=x) hNw hNe (VB _ _ _)
  generalize hj:(it t.mask N (st t.mask ((intKind prog w).hash k))).j=j at *
  have m1:(t.put j).1.mask=t.mask:=rfl
  have m2:(t.put j).1.plain=true:=T.plain
  have m3:(t.put j).1.led=led:=hl
  generalize hp:t.put j=tp at *
  obtain⟨t1,p⟩:=tp
  dsimp only at p1 p2 p3 p4 m1 m2 m3 ⊢
  have hsz:(SetTable.insertAt es p ((intKind prog w).hash k,x)).size=es.size+1:=uE _ _ _
  have hfit:t1.fits (SetTable.insertAt es p ((intKind prog w).hash k,x)).size=true:=by
   have h3:t1.fill=es.size+1:=by unfold SetTable.fill;rw[p1.dm,p2,hsz];rfl
   have h2:=T.few
   unfold SetTable.fits
   rw[h3,p2,hsz,m1]
   rcases T.msk with h|h|h <;> rw[h] at h2 ⊢ <;> simp <;> omega
  have lay:layNew t es ((intKind prog w).hash k) x=(SetTable.insertAt es p ((intKind prog w).hash k,x),t1,false,false):=by
   unfold layNew
   rw[hfs]
   dsimp only
   rw[hp]
   dsimp only
   unfold SetTable.orStandIn
   rw[hfit]
   rfl
  rw[lay]
  dsimp only
  refine wpAny_bind (wpAny_pure (a:=()) ?_)
  have hbv:hashByValue 8 x=pure true:=by
   rw[hashByValue_scannable 8 hsc]
   obtain⟨tk,q⟩:=wW hx
   subst q
   rfl
  rw[hbv,ite_self]
  refine wpAny_bind (wpAny_pure ?_)
  simp only[if_true]
  have hline:es.size+1≤sizeLine:=by rw[sizeLine_eq];omega
  refine wpAny_bind (wpAny_storeSet_of (s:={ s with toks:=s.toks+1 }) ho rfl ?_ (by rw[hsz];exact hline))
  have pm:(SetTable.insertAt es p ((intKind prog w).hash k,x)).toList.Perm (es.toList++[((intKind prog w).hash k,x)]):=by
   have:=SetTable.insertAt_perm es p ((intKind prog w).hash k,x)
   rw[Array.toList_push] at this
   exact this
  have Z1:Set0 (isI prog w) (intKind prog w).hash (SetTable.insertAt es p ((intKind prog w).hash k,x)) (k::seen):=Z.push (fun a b=>(intKind prog w).inj _ _ _ a b) hx hk pm
  have hm1:∀ e∈(SetTable.insertAt es p ((intKind prog w).hash k,x)).toList,e.2∈V:=fun e he=>by
   rcases List.mem_append.mp (pm.mem_iff.mp he) with h1|h1
   ·exact hm e h1
   ·simp at h1;subst h1;exact hV
  have ho1:=bF (es':=SetTable.insertAt es p ((intKind prog w).hash k,x)) (t':=t1) ho
  have sb1:=Heap.SameBut.update s.heap S (Obj.putSet (SetTable.insertAt es p ((intKind prog w).hash k,x)) t1)
  refine i7 (fun hf=>?_) fun hf=>?_
  ·have hM1:Msk t1.mask:=by rw[m1];exact T.msk
   have h3:((SetTable.insertAt es p ((intKind prog w).hash k,x)).size-1)*5<t1.mask*3:=by rw[hsz,m1];exact T.few
   obtain⟨q1,t2,qR,q2,q3,q4,q5,q6⟩:=bV hM1 m2 p2 (by rw[hsz];omega) (by simpa using hf) p1.dm h3 (by rw[hsz];omega)
   have hs2:(qR.filterMap fun x_1=>(SetTable.insertAt es p ((intKind prog w).hash k,x))[x_1]?).size=es.size+1:=by rw[← Array.length_toList,q4.length_eq,Array.length_toList,hsz]
   have rl:relayAll t1 (SetTable.insertAt es p ((intKind prog w).hash k,x)) (SetTable.grown (SetTable.insertAt es p ((intKind prog w).hash k,x)).size)=(qR.filterMap fun x_1=>(SetTable.insertAt es p ((intKind prog w).hash k,x))[x_1]?,t2,false):=by
    unfold relayAll
    rw[q2]
    dsimp only
    have c1:coversAll qR (SetTable.insertAt es p ((intKind prog w).hash k,x)).size=true:=by
     unfold coversAll
     exact List.isPerm_iff.mpr q6
    rw[c1,q5.fits]
    rfl
   rw[rl]
   dsimp only
   refine wpAny_bind (wpAny_pure (a:=()) ?_)
   refine wpAny_bind (wpAny_storeSet_of (s:={ s with heap:=_,toks:=s.toks+1 }) ho1 rfl ?_ (by rw[hs2];exact hline))
   exact wpAny_pure (wpAny_pure (h _ _ _ (Nat.le_add_right _ _) (sb1.trans (Heap.SameBut.update _ S _)) ⟨_,_,t2,bF ho1,Z1.perm q4,q5,by rw[q3];exact m3,fun e he=>hm1 e (q4.mem_iff.mp he)⟩))
  ·refine wpAny_pure (wpAny_pure (h _ _ _ (Nat.le_add_right _ _) sb1 ⟨_,_,t1,ho1,Z1,⟨p1,by rw[m1];exact T.msk,p2,by rw[m1];exact p3,?_,by rw[m1];exact p4,m2⟩,m3,hm1⟩))
   have h3:t1.fill=es.size+1:=by unfold SetTable.fill;rw[p1.dm,p2,hsz];rfl
   unfold SetTable.tooFull at hf
   rw[h3] at hf
   rw[hsz]
   simpa using hf
end
end _S
end
section
namespace _S
open PySem
structure AddS (prog:Program)(w:World){K:Type}(is:K→Value→Prop)(hash:K→Int)(h0:Heap):Prop where
 add:∀ {A:Around} {E:Value→Shared→Prop} {s:Shared} {S:Addr} {led:Bool} {V:List Value} {seen U:List K} {k:K} {x:Value} {Q:Bool→Shared→Prop},A.units<cLine→Sup h0 s.heap→SetK is hash S led V seen s.heap→is k x→x∈V→U.length≤63→(∀ k'∈seen,k'∈U)→k∈U →
  (∀ (b:Bool) (h':Heap) (tk:Nat),s.toks≤tk→Heap.SameBut S s.heap h'→SetK is hash S led V (k::seen) h'→Q b { s with heap:=h',toks:=tk }) → wpAny (model prog w) A (setAdd S x) Q E s
theorem G9 {prog:Program}{w:World}(h0:Heap):AddS prog w (isT prog w h0) (tupleKeyHash (intKind prog w)) h0:=⟨fun hu hS Z hx hV h1 h2 h3 h=>DM hu hS Z hx hV h1 h2 h3 h⟩
theorem G8 {prog:Program}{w:World}(h0:Heap):AddS prog w (isI prog w) (intKind prog w).hash h0:=⟨fun _ _ Z hx hV h1 h2 h3 h=>DJ Z hx hV h1 h2 h3 h⟩
def yQ {K:Type}(key:Nat→K):Nat→List K
 |0=>[]
 |i+1=>key i::yQ key i
theorem jU {K:Type}{key:Nat→K}{k:K}:∀ {n:Nat},k∈yQ key n↔∃ i,i<n∧key i=k
 |0=>by simp[yQ]
 |n+1=>by
  rw[yQ,List.mem_cons,jU]
  constructor
  ·rintro (rfl|⟨i,h,e⟩)
   ·exact⟨n,by omega,rfl⟩
   ·exact⟨i,by omega,e⟩
  ·rintro⟨i,h,e⟩
   by_cases hi:i=n
   ·subst hi;exact .inl e.symm
   ·exact .inr ⟨i,by omega,e⟩
section
variable {prog:Program}{w:World}{A:Around}{R:Result→Shared→Prop}{I:Addr}{fp wr:List Addr}{G:Array GenState→Array GenState→Prop}{n:Nat}{P:Nat→Value→Prop}{St:Nat→Shared→Prop}
variable {K:Type}{is:K→Value→Prop}{hash:K→Int}{h0:Heap}{led:Bool}{V:List Value}{U:List K}
theorem SetK.sup {S:Addr}{seen:List K}{h h':Heap}(Z:SetK is hash S led V seen h)(e:∀ o,h.get? S=some o→h'.get? S=some o):SetK is hash S led V seen h':=by
 obtain⟨es,ep,t,ho,r⟩:=Z
 exact⟨es,ep,t,e _ ho,r⟩
theorem cS (a:AddS prog w is hash h0)(W:WalksS prog w A.in1 I fp wr G n P St)(S:Addr)(hSf:S ∉ fp)(hu:A.in1.units<cLine)(key:Nat→K)(hkey:∀ i v,P i v→is (key i) v∧v∈V)(hU:U.length≤63)(hUk:∀ i,i<n→key i∈U)
  (hS0:h0.get? S=none) (hw0:∀ b∈wr,h0.get? b=none):∀ (k i:Nat) (s:Shared),n-i=k→i≤n→St i s→Sup h0 s.heap→SetK is hash S led V (yQ key i) s.heap →
   (∀ s',Moved (S::wr) G s s'→SetK is hash S led V (yQ key n) s'.heap→R (.ok (.ret .none)) s')→codeAny (model prog w) A (.builtin "set.update.loop" ⟨[.ref S,.ref I],[]⟩) R s:=by
 have hSw:S ∉ wr:=fun h=>hSf (W.sub _ h)
 have hsub:∀ b∈wr,b∈S::wr:=fun b hb=>List.mem_cons_of_mem _ hb
 intro k
 induction k with
 |zero =>
  intro i s hk hi hst hS Z hR
  have hin:i=n:=by omega
  subst hin
  refine codeAny_builtin PyProof.Rows.F.entry_set_update_loop ?_
  rw[Around.under_plainId PyProof.Rows.F.plain_set_update_loop _]
  show wpAny _ A.in1 (pyNext (.ref I) >>= _) _ _ s
  refine wpAny_bind (W.done s _ _ hst fun s' hm=>?_)
  exact wpAny_pure (hR s' (hm.mono hsub) (Z.sup fun o e=>hm.heap S _ hSw e))
 |succ k ih =>
  intro i s hk hi hst hS Z hR
  have hlt:i<n:=by omega
  refine codeAny_builtin PyProof.Rows.F.entry_set_update_loop ?_
  rw[Around.under_plainId PyProof.Rows.F.plain_set_update_loop _]
  show wpAny _ A.in1 (pyNext (.ref I) >>= _) _ _ s
  refine wpAny_bind (W.item i s _ _ hlt hst fun v s' hP hst' hm=>?_)
  obtain⟨q1,q2⟩:=hkey i v hP
  have hS':Sup h0 s'.heap:=fun b o e=>hm.heap b o (fun hb=>by rw[hw0 b hb] at e;cases e) (hS b o e)
  show wpAny _ A.in1 (holding [v] (setAdd S v) >>= _) _ _ s'
  refine wpAny_bind (wpAny_holding (a.add hu hS' (Z.sup fun o e=>hm.heap S _ hSw e) q1 q2 hU (fun k' hk'=>?_) (hUk i hlt) fun b h' tk htk hsb Z'=>?_))
  ·obtain⟨j,hj,e⟩:=jU.mp hk'
   exact e▸hUk j (by omega)
  ·refine wpAny_pure ⟨plainId_quiet PyProof.Rows.F.plain_set_update_loop _,ih (i+1) _ (by omega) hlt (W.frame _ s' _ _ hst' htk fun b hb o e=>?_) (fun b o e=>?_) Z' fun s'' hm'' Z''=>?_⟩
   ·rw[hsb.2 b (fun h:b=S=>hSf (by rw[← h];exact hb))];exact e
   ·rw[hsb.2 b (fun h:b=S=>by rw[h,hS0] at e;cases e)];exact hS' b o e
   ·refine hR s'' (Moved.trans W.gtrans ((hm.mono hsub).then_heap htk fun b o hb e=>?_) hm'') Z''
    rw[hsb.2 b (fun h:b=S=>hb (by rw[h];exact List.mem_cons_self))];exact e
end
section
variable {prog:Program}{w:World}{A:Around}{E:Value→Shared→Prop}{s:Shared}
def wS (w:World):Bool:=!w.params.followText "set-order"
@[reducible] def yF (w:World):Obj:=jP #[] 0 (.fresh 0 0 (wS w))
theorem bU (a:Value){Q₁:Value→Shared→Prop}(h:Q₁ (.ref s.heap.objs.size) { s with heap:=s.heap.push (yF w) }) : codeAny (model prog w) A (.call (.builtin "set.__new__") ⟨[.type "set",a],[]⟩) (wants Q₁ E) s:=by
 refine codeAny_of_tree ?_
 show wpAny _ A.in1 (do checkBuiltinCall "set.__new__" ⟨[.type "set",a],[]⟩;again (.builtin "set.__new__" ⟨[.type "set",a],[]⟩)) _ _ s
 refine wpAny_bind (wpAny_of_eq (PySem.F.newCall_set_1 a) (wpAny_pure ⟨plainId_quiet PySem.F.plain_set_new _,codeAny_builtin PySem.F.entry_set_new ?_⟩))
 rw[Around.under_plainId PySem.F.plain_set_new _]
 unfold Builtin.«set.__new__» Builtin.Frozenset.newClass
 have hsub:=PySem.sub_set_self
 obtain⟨hp,g,d,tk,os⟩:=s
 dsimp only
 wp_walk
 refine wpAny_askSetting (wpAny_pure ?_)
 dsimp only
 simp only[newObj]
 exact wpAny_bind (wpAny_alloc (wpAny_pure (wpAny_pure h)))
theorem lT (w:World):TabT (.fresh 0 0 (wS w)) #[]:=⟨⟨by unfold Rs;exact List.Pairwise.nil,rfl⟩,.inl rfl,rfl,fun x hx=>(by cases hx),(show 0*5<7*3 by decide),fun i e h=>(by simp at h),rfl⟩
variable {K:Type}{is:K→Value→Prop}{hash:K→Int}{U:List K}
theorem ZN (a:AddS prog w is hash s.heap){l:Addr}{items:Array Value}{Q:Value→Shared→Prop}(hh:A.handled=none)(hu:A.units+8<cLine)(hl:s.heap.IsList l items)(key:Nat→K)(hkey:∀ i v,items[i]? = some v→is (key i) v)(hU:U.length≤63)(hUk:∀ i,i<items.size→key i∈U)
  (h:∀ (h':Heap) (tk:Nat),SetK is hash s.heap.objs.size (wS w) items.toList (yQ key items.size) h'→(∀ b o,s.heap.get? b=some o→h'.get? b=some o)→Q (.ref s.heap.objs.size) { s with heap:=h',toks:=tk }) :
  wpAny (model prog w) A (call (.type "set") [.ref l]) Q E s:=by
 obtain⟨c,tl,hmro⟩:=PySem.F.called_set.mro
 have hmade:=PySem.F.called_set.made
 have hsub:=PySem.F.called_set.sub
 refine wpAny_call (codeAny_of_tree ?_)
 show wpAny _ _ (callAny (.type "set") _) _ _ _
 refine wpAny_pure ⟨Code.quiet_builtin _ (by decide +kernel),codeAny_builtin PySem.F.entry_type_call ?_⟩
 rw[Around.under_plain (weight_type_call_type "set" [.ref l] []) rfl]
 have h1:=PySem.F.called_set.notType
 have h2:=PySem.F.called_set.canCreate
 have hct:=PySem.F.typeCall_set_1 (.ref l)
 repeat (any_goals (first|assumption|wp_step))
 refine codeAny_mono (bU (.ref l) (E:=E) (Q₁:=fun obj s₁=>obj=.ref s.heap.objs.size∧s₁={ s with heap:=s.heap.push (yF w) }) ⟨rfl,rfl⟩) fun r s₁ hr=>?_
 cases r with
 |error e=>exact hr
 |ok fl =>
  cases fl with
  |ret obj =>
   obtain⟨rfl,rfl⟩:=hr
   have hS:(s.heap.push (yF w)).get? s.heap.objs.size=some (yF w):=Heap.get?_push_size _ rfl
   have hT:Shared.TypeIs { s with heap:=s.heap.push (yF w) } (.ref s.heap.objs.size) "set":=⟨_,hS,rfl⟩
   have hli:=PySem.F.called_set.init.lookup
   have hbi:=PySem.F.called_set.init.bind (.ref s.heap.objs.size)
   repeat (any_goals (first|assumption|wp_step))
   refine codeAny_mono (codeAny_call_builtin (R:=wants (fun r s₂=>r=.none∧∃ h' tk,s₂={ s with heap:=h',toks:=tk } ∧ SetK is hash s.heap.objs.size (wS w) items.toList (yQ key items.size) h'∧∀ b o,s.heap.get? b=some o→h'.get? b=some o) E) PySem.F.called_set.init.plain PySem.F.entry_set_init (check_set_init_1 hT ?_)) fun r₂ s₂ hr₂=>?_
   ·obtain⟨ol,hol,hcl,nl,hdl⟩:=hl
    obtain⟨ocls,odict,odata,oslots⟩:=ol
    simp only at hcl hdl
    subst hcl;subst hdl
    have hol':(s.heap.push (yF w)).get? l=some { cls:=.type "list",dict:=odict,data:=.seq items nl,slots:=oslots }:=Heap.get?_push_of_some _ hol
    have hsls:=PySem.F.sub_list_set
    have hslf:=PySem.F.sub_list_frozenset
    have hne:(Value.type "list" == Value.type "dict")=false:=by decide
    have hl1:(s.heap.push (yF w)).IsList l items:=⟨_,hol',rfl,nl,rfl⟩
    unfold Builtin.«set.__init__» noKeywords Builtin.Frozenset.updateFrom
    generalize hPI:pyIter=PI
    wp_walk
    subst hPI
    refine wpAny_pyIter_list hl1 ?_
    refine wpAny_bind (wpAny_runValue ?_)
    have hlS:l<s.heap.objs.size:=Heap.lt_size hol
    have hneI:l≠(s.heap.push (yF w)).objs.size:=by
     rw[Heap.size_push];exact Nat.ne_of_lt (Nat.lt_succ_of_lt hlS)
    have nS:s.heap.get? s.heap.objs.size=none:=Heap.get?_none_of_le (Nat.le_refl _)
    have nI:s.heap.get? (s.heap.push (yF w)).objs.size=none:=Heap.get?_none_of_le (by rw[Heap.size_push];exact Nat.le_succ _)
    refine cS (led:=wS w) (V:=items.toList) a ((Walks.list (A:=A.in1.in1.in1) (by simp[hh]) _ l hneI items).toS) s.heap.objs.size ?_ (by show A.units+3<cLine;omega) key (fun i v hv=>⟨hkey i v hv,?_⟩) hU hUk nS (fun b hb=>?_) (items.size-0) 0 _ (by omega) (Nat.zero_le _)
     ⟨⟨_,Heap.get?_push_size _ rfl,rfl,rfl⟩,hl1.push _⟩ (fun b o e=>Heap.get?_push_of_some _ (Heap.get?_push_of_some _ e)) ?_ fun s' hm hS'=>?_
    ·rw[Heap.size_push];simp only[List.mem_cons,List.mem_singleton,List.not_mem_nil,or_false,not_or]
     exact⟨Nat.ne_of_lt (Nat.lt_succ_self _),Nat.ne_of_gt hlS⟩
    ·exact List.mem_of_getElem? (by rw[Array.getElem?_toList];exact hv)
    ·rw[List.mem_singleton.mp hb];exact nI
    ·exact⟨#[],0,_,Heap.get?_push_of_some _ hS,Set0.nil,lT w,rfl,fun e he=>by simp at he⟩
    ·obtain⟨h',g',d',tk',os'⟩:=s'
     have eg:g'=s.gens:=hm.gens
     have ed:d'=s.drawn:=hm.drawn
     have eo:os'=s.os:=hm.os
     subst eg;subst ed;subst eo
     refine wpAny_pure (wpAny_pure ⟨rfl,h',tk',rfl,hS',fun b o e=>?_⟩)
     refine hm.heap b o (fun hb=>?_) (Heap.get?_push_of_some _ (Heap.get?_push_of_some _ e))
     rcases List.mem_cons.mp hb with rfl|hb
     ·rw[nS] at e;cases e
     ·rw[List.mem_singleton.mp hb,nI] at e;cases e
   ·cases r₂ with
    |error e=>exact hr₂
    |ok fl₂ =>
     cases fl₂ with
     |ret r =>
      obtain⟨rfl,h',tk,rfl,hS',hk'⟩:=hr₂
      repeat (any_goals (first|assumption|wp_step))
      exact h _ _ hS' hk'
     |_=>exact hr₂.elim
  |_=>exact hr.elim
theorem o6 (a:AddS prog w is hash s.heap){l:Addr}{items:Array Value}{Q:Value→Shared→Prop}(hh:A.handled=none)(hu:A.units+8<cLine)(hl:s.heap.IsTuple l items)(key:Nat→K)(hkey:∀ i v,items[i]? = some v→is (key i) v)(hU:U.length≤63)(hUk:∀ i,i<items.size→key i∈U)
  (h:∀ (h':Heap) (tk:Nat),SetK is hash s.heap.objs.size (wS w) items.toList (yQ key items.size) h'→(∀ b o,s.heap.get? b=some o→h'.get? b=some o)→Q (.ref s.heap.objs.size) { s with heap:=h',toks:=tk }) :
  wpAny (model prog w) A (call (.type "set") [.ref l]) Q E s:=by
 obtain⟨c,tl,hmro⟩:=PySem.F.called_set.mro
 have hmade:=PySem.F.called_set.made
 have hsub:=PySem.F.called_set.sub
 refine wpAny_call (codeAny_of_tree ?_)
 show wpAny _ _ (callAny (.type "set") _) _ _ _
 refine wpAny_pure ⟨Code.quiet_builtin _ (by decide +kernel),codeAny_builtin PySem.F.entry_type_call ?_⟩
 rw[Around.under_plain (weight_type_call_type "set" [.ref l] []) rfl]
 have h1:=PySem.F.called_set.notType
 have h2:=PySem.F.called_set.canCreate
 have hct:=PySem.F.typeCall_set_1 (.ref l)
 repeat (any_goals (first|assumption|wp_step))
 refine codeAny_mono (bU (.ref l) (E:=E) (Q₁:=fun obj s₁=>obj=.ref s.heap.objs.size∧s₁={ s with heap:=s.heap.push (yF w) }) ⟨rfl,rfl⟩) fun r s₁ hr=>?_
 cases r with
 |error e=>exact hr
 |ok fl =>
  cases fl with
  |ret obj =>
   obtain⟨rfl,rfl⟩:=hr
   have hS:(s.heap.push (yF w)).get? s.heap.objs.size=some (yF w):=Heap.get?_push_size _ rfl
   have hT:Shared.TypeIs { s with heap:=s.heap.push (yF w) } (.ref s.heap.objs.size) "set":=⟨_,hS,rfl⟩
   have hli:=PySem.F.called_set.init.lookup
   have hbi:=PySem.F.called_set.init.bind (.ref s.heap.objs.size)
   repeat (any_goals (first|assumption|wp_step))
   refine codeAny_mono (codeAny_call_builtin (R:=wants (fun r s₂=>r=.none∧∃ h' tk,s₂={ s with heap:=h',toks:=tk } ∧ SetK is hash s.heap.objs.size (wS w) items.toList (yQ key items.size) h'∧∀ b o,s.heap.get? b=some o→h'.get? b=some o) E) PySem.F.called_set.init.plain PySem.F.entry_set_init (check_set_init_1 hT ?_)) fun r₂ s₂ hr₂=>?_
   ·obtain⟨ol,hol,hcl,nl,hdl⟩:=hl
    obtain⟨ocls,odict,odata,oslots⟩:=ol
    simp only at hcl hdl
    subst hcl;subst hdl
    have hol':(s.heap.push (yF w)).get? l=some { cls:=.type "tuple",dict:=odict,data:=.seq items nl,slots:=oslots }:=Heap.get?_push_of_some _ hol
    have hsls:=PySem.F.sub_tuple_set
    have hslf:=PySem.F.sub_tuple_frozenset
    have hne:(Value.type "tuple" == Value.type "dict")=false:=by decide
    have hl1:(s.heap.push (yF w)).IsTuple l items:=⟨_,hol',rfl,nl,rfl⟩
    unfold Builtin.«set.__init__» noKeywords Builtin.Frozenset.updateFrom
    generalize hPI:pyIter=PI
    wp_walk
    subst hPI
    refine wpAny_pyIter_tuple hl1 ?_
    refine wpAny_bind (wpAny_runValue ?_)
    have hlS:l<s.heap.objs.size:=Heap.lt_size hol
    have hneI:l≠(s.heap.push (yF w)).objs.size:=by
     rw[Heap.size_push];exact Nat.ne_of_lt (Nat.lt_succ_of_lt hlS)
    have nS:s.heap.get? s.heap.objs.size=none:=Heap.get?_none_of_le (Nat.le_refl _)
    have nI:s.heap.get? (s.heap.push (yF w)).objs.size=none:=Heap.get?_none_of_le (by rw[Heap.size_push];exact Nat.le_succ _)
    refine cS (led:=wS w) (V:=items.toList) a ((Walks.tuple (A:=A.in1.in1.in1) (by simp[hh]) _ l hneI items).toS) s.heap.objs.size ?_ (by show A.units+3<cLine;omega) key (fun i v hv=>⟨hkey i v hv,?_⟩) hU hUk nS (fun b hb=>?_) (items.size-0) 0 _ (by omega) (Nat.zero_le _)
     ⟨⟨_,Heap.get?_push_size _ rfl,rfl,rfl⟩,hl1.push _⟩ (fun b o e=>Heap.get?_push_of_some _ (Heap.get?_push_of_some _ e)) ?_ fun s' hm hS'=>?_
    ·rw[Heap.size_push];simp only[List.mem_cons,List.mem_singleton,List.not_mem_nil,or_false,not_or]
     exact⟨Nat.ne_of_lt (Nat.lt_succ_self _),Nat.ne_of_gt hlS⟩
    ·exact List.mem_of_getElem? (by rw[Array.getElem?_toList];exact hv)
    ·rw[List.mem_singleton.mp hb];exact nI
    ·exact⟨#[],0,_,Heap.get?_push_of_some _ hS,Set0.nil,lT w,rfl,fun e he=>by simp at he⟩
    ·obtain⟨h',g',d',tk',os'⟩:=s'
     have eg:g'=s.gens:=hm.gens
     have ed:d'=s.drawn:=hm.drawn
     have eo:os'=s.os:=hm.os
     subst eg;subst ed;subst eo
     refine wpAny_pure (wpAny_pure ⟨rfl,h',tk',rfl,hS',fun b o e=>?_⟩)
     refine hm.heap b o (fun hb=>?_) (Heap.get?_push_of_some _ (Heap.get?_push_of_some _ e))
     rcases List.mem_cons.mp hb with rfl|hb
     ·rw[nS] at e;cases e
     ·rw[List.mem_singleton.mp hb,nI] at e;cases e
   ·cases r₂ with
    |error e=>exact hr₂
    |ok fl₂ =>
     cases fl₂ with
     |ret r =>
      obtain⟨rfl,h',tk,rfl,hS',hk'⟩:=hr₂
      repeat (any_goals (first|assumption|wp_step))
      exact h _ _ hS' hk'
     |_=>exact hr₂.elim
  |_=>exact hr.elim
theorem aK (a:AddS prog w is hash s.heap){l:Addr}{items:Array Value}{Q:Value→Shared→Prop}(hh:A.handled=none)(hu:A.units+8<cLine)(hl:s.heap.IsList l items∨s.heap.IsTuple l items)(key:Nat→K)(hkey:∀ i v,items[i]? = some v→is (key i) v)(hU:U.length≤63)(hUk:∀ i,i<items.size→key i∈U)
  (h:∀ (h':Heap) (tk:Nat),SetK is hash s.heap.objs.size (wS w) items.toList (yQ key items.size) h'→(∀ b o,s.heap.get? b=some o→h'.get? b=some o)→Q (.ref s.heap.objs.size) { s with heap:=h',toks:=tk }) :
  wpAny (model prog w) A (call (.type "set") [.ref l]) Q E s:=by
 rcases hl with hl|hl
 ·exact ZN a hh hu hl key hkey hU hUk h
 ·exact o6 a hh hu hl key hkey hU hUk h
end
end _S
end
section
namespace _S
open PySem
theorem m8 {α : Type}:∀ {l:List α} {i:Nat} (h:i<l.length),(l[i]::l.eraseIdx i).Perm l
 |a::l,0,h=>by simp
 |a::l,i+1,h=>by
  rw[List.eraseIdx_cons_succ,List.getElem_cons_succ]
  exact(List.Perm.swap _ _ _).trans ((m8 (l:=l) (i:=i) (by simpa using h)).cons a)
theorem lL {α : Type}(next:Nat→Nat):∀ (fuel k:Nat) (left:List α) (out:Array α),left.length=fuel→(pickOrder.go next fuel k left out).toList.Perm (out.toList++left)
 |0,k,left,out,h=>by
  have:left=[]:=List.eq_nil_of_length_eq_zero h
  subst this
  unfold pickOrder.go
  simp
 |fuel+1,k,left,out,h=>by
  unfold pickOrder.go
  have hlt:next k % left.length<left.length:=Nat.mod_lt _ (by omega)
  rw[List.getElem?_eq_getElem hlt]
  dsimp only
  refine(lL next fuel (k+1) _ _ (by rw[List.length_eraseIdx,if_pos hlt];omega)).trans ?_
  rw[Array.toList_push,List.append_assoc]
  refine List.Perm.append_left _ ?_
  exact m8 hlt
theorem nH {α : Type}(next:Nat→Nat)(xs:Array α) : (pickOrder next xs).toList.Perm xs.toList:=by
 have:=lL next xs.size 0 xs.toList #[] (by simp)
 simpa [pickOrder] using this
theorem vJ:Slot "set_iterator" "__next__" "set_iterator.__next__":=
 .of (owner:="set_iterator") (n:="__next__") (by rw[typeLookup_type,builtinLookup_eq_fast];kernel_rfl) (by decide +kernel) (by decide +kernel) (by decide +kernel) (.inl (by decide +kernel)) (by rw[isSubtype_type];kernel_rfl)
theorem m6:entryFor table "set_iterator.__next__" = some Builtin.«set_iterator.__next__»:=entryFor_of_fast (by kernel_rfl)
theorem nV (a:Value):argsOk "set_iterator.__next__" ⟨[a],[]⟩:=by unfold argsOk;kernel_rfl
theorem lP:Slot "set_iterator" "__iter__" "set_iterator.__iter__":=
 .of (owner:="set_iterator") (n:="__iter__") (by rw[typeLookup_type,builtinLookup_eq_fast];kernel_rfl) (by decide +kernel) (by decide +kernel) (by decide +kernel) (.inl (by decide +kernel)) (by rw[isSubtype_type];kernel_rfl)
theorem aW:entryFor table "set_iterator.__iter__" = some Builtin.«dict_keyiterator.__iter__»:=entryFor_alias (id':="dict_keyiterator.__iter__") (by kernel_rfl) rfl (by decide +kernel) (by kernel_rfl)
theorem iY (a:Value):argsOk "set_iterator.__iter__" ⟨[a],[]⟩:=by unfold argsOk;kernel_rfl
theorem aU:entryFor table "set.__iter__" = some Builtin.«frozenset.__iter__»:=entryFor_alias (id':="frozenset.__iter__") (by kernel_rfl) rfl (by decide +kernel) (by kernel_rfl)
theorem J6 (a:Addr)(slot given epochThen:Nat):setNext a slot given epochThen=(do
  let (es,epoch,t) ← setState a
  if ← setsByText then
   if epoch != epochThen then unsupported "set_iterator.__next__:elements-changed"
   return ((← setWalk a)[given]?).map fun e=>(e.2,slot)
  if !t.plain&&es.size>1 then unsupported "set_iterator.__next__:the-table-is-plain-no-more"
  (do if !t.led&&!es.isEmpty then unsupported "set:maker-not-led")
  return match es[SetTable.below t.place slot]?,t.place[SetTable.below t.place slot]? with
   |some (_,x),some j=>some (x,j+1)
   |_,_=>none):=rfl
theorem KK (a:Addr):setWalk a=(do
  let (es,epoch,t) ← setState a
  if ← setsByText then return pickOrder ((← ask).params.setOrder a epoch) es
  if !t.plain&&es.size>1 then return (← drawOrder es.size es.toList).toArray
  (do if !t.led&&es.size>1 then unsupported "set:maker-not-led")
  return es):=rfl
theorem X8 (a:Addr):setDrawn a=(do
  let (es,_,t) ← setState a
  let byText ← setsByText
  return !byText&&(!t.plain&&es.size>1)):=rfl
structure Still (w:World)(S:Addr)(es:Array (Int × Value))(ep:Nat)(t:SetTable):Prop where
 tab:TabT t es
 led:t.led=wS w
noncomputable def qR (w:World)(S:Addr)(ep:Nat)(es:Array (Int × Value)):Array (Int × Value):=if w.params.followText "set-order" = true then pickOrder (w.params.setOrder S ep) es else es
theorem mQ (w:World)(S:Addr)(ep:Nat)(es:Array (Int × Value)):(qR w S ep es).toList.Perm es.toList:=by
 unfold qR
 split
 ·exact nH _ _
 ·exact List.Perm.refl _
theorem j6 (w:World)(S:Addr)(ep:Nat)(es:Array (Int × Value)):(qR w S ep es).size=es.size:=by
 rw[← Array.length_toList,(mQ w S ep es).length_eq,Array.length_toList]
def itO (slot i:Nat)(S:Addr)(n ep:Nat):Obj:={ cls:=.type "set_iterator",data:=.fields #[.int slot 0,.int i 0,.ref S,.int n 0,.int ep 0] }
def At (w:World)(I S:Addr)(es:Array (Int × Value))(ep:Nat)(t:SetTable)(i:Nat)(h:Heap):Prop:=
 ∃ slot,h.get? I=some (itO slot i S es.size ep)∧h.get? S=some (jP es ep t)∧(w.params.followText "set-order" = true∨SetTable.below t.place slot=i)
section
variable {prog:Program}{w:World}{A:Around}{E:Value→Shared→Prop}{s:Shared}{S I:Addr}{es:Array (Int × Value)}{ep:Nat}{t:SetTable}
theorem iJ {slot i:Nat}{Q:Option (Value × Nat)→Shared→Prop}(Z:Still w S es ep t)(ho:s.heap.get? S=some (jP es ep t))(hs:w.params.followText "set-order" = true∨SetTable.below t.place slot=i)
  (h1:∀ e slot',(qR w S ep es)[i]? = some e→(w.params.followText "set-order" = true∨SetTable.below t.place slot'=i+1)→Q (some (e.2,slot')) s) (h2:(qR w S ep es)[i]? = none→Q none s):wpAny (model prog w) A (setNext S slot i ep) Q E s:=by
 rw[J6]
 refine wpAny_bind (wpAny_setState_of ho rfl Z.tab.fits ?_)
 dsimp only
 refine wpAny_bind (wpAny_bind (wpAny_askSetting (wpAny_pure ?_)))
 cases hf:w.params.followText "set-order" with
 |true =>
  show wpAny _ _ (if (w.params.followText "set-order")=true then _ else _) _ _ _
  rw[if_pos hf]
  have hb:(ep != ep)=false:=by simp
  rw[hb]
  simp only[Bool.false_eq_true,if_false]
  refine wpAny_bind ?_
  rw[KK]
  refine wpAny_bind (wpAny_setState_of ho rfl Z.tab.fits ?_)
  dsimp only
  refine wpAny_bind (wpAny_bind (wpAny_askSetting (wpAny_pure ?_)))
  show wpAny _ _ (if (w.params.followText "set-order")=true then _ else _) _ _ _
  rw[if_pos hf]
  refine wpAny_bind (wpAny_askSetting (wpAny_pure (wpAny_pure ?_)))
  show Q (((pickOrder (w.params.setOrder S ep) es)[i]?).map fun e=>(e.2,slot)) s
  have ho':qR w S ep es=pickOrder (w.params.setOrder S ep) es:=by unfold qR;rw[if_pos hf]
  rw[ho'] at h1 h2
  cases hx:(pickOrder (w.params.setOrder S ep) es)[i]? with
  |none=>exact h2 hx
  |some e=>exact h1 e slot hx (.inl hf)
 |false =>
  show wpAny _ _ (if (w.params.followText "set-order")=true then _ else _) _ _ _
  rw[if_neg (by rw[hf];decide),Z.tab.plain,Z.led]
  unfold wS
  rw[hf]
  simp only[Bool.not_true,Bool.false_and,Bool.false_eq_true,if_false,Bool.not_false]
  have hb:SetTable.below t.place slot=i:=by
   rcases hs with h|h
   ·rw[hf] at h;cases h
   ·exact h
  rw[hb]
  have ho':qR w S ep es=es:=by unfold qR;rw[if_neg (by rw[hf];decide)]
  rw[ho'] at h1 h2
  refine wpAny_pure ?_
  cases hx:es[i]? with
  |none=>exact h2 hx
  |some e =>
   have hi:i<t.place.size:=by rw[Z.tab.size];exact(Array.getElem?_eq_some_iff.mp hx).1
   have hp:t.place[i]? = some t.place[i]:=Array.getElem?_eq_getElem hi
   rw[hp]
   exact h1 e _ hx (.inr (aH Z.tab.tb.rs hp))
theorem At.type {i:Nat}(h:At w I S es ep t i s.heap):s.TypeIs (.ref I) "set_iterator":=by
 obtain⟨slot,h,_⟩:=h
 exact⟨_,h,rfl⟩
theorem lH {i:Nat}{Q:Value→Shared→Prop}(Z:Still w S es ep t)(hI:At w I S es ep t i s.heap)
  (h1:∀ e slot' slot,(qR w S ep es)[i]? = some e→s.heap.get? I=some (itO slot i S es.size ep)→s.heap.get? S=some (jP es ep t)→(w.params.followText "set-order" = true∨SetTable.below t.place slot'=i+1) →
   Q e.2 { s with heap:=(s.heap.update I (Obj.mapFields (·.setIfInBounds 0 (rawInt slot')))).update I (Obj.mapFields (·.setIfInBounds 1 (rawInt ((i:Int)+1)))) })
  (h2:(qR w S ep es)[i]? = none→wpAny (model prog w) A (do setField (.ref I) 2 .none;raiseNew (← newExc (.type "StopIteration") [])) (fun (fin:PySem.Fin) s'=>∃ r,fin=.done (.ret r)∧Q r s') E s) :
  wpAny (model prog w) A (Builtin.«set_iterator.__next__» ⟨[.ref I],[]⟩) (fun fin s'=>∃ r,fin=.done (.ret r)∧Q r s') E s:=by
 obtain⟨slot,hg,hS,hb⟩:=hI
 show wpAny _ _ (fieldsOf (.ref I) >>= _) _ _ s
 refine wpAny_bind (wpAny_fieldsOf hg rfl ?_)
 show wpAny _ _ (setEntries S >>= _) _ _ s
 refine wpAny_bind (wpAny_setEntries_of hS rfl Z.tab.fits ?_)
 have hne:(((es.size:Nat):Int) != ((es.size:Nat):Int))=false:=by simp
 rw[hne]
 simp only[Bool.false_eq_true,if_false]
 show wpAny _ _ (setNext S (slot:Int).toNat (i:Int).toNat (ep:Int).toNat >>= _) _ _ s
 rw[Int.toNat_natCast,Int.toNat_natCast,Int.toNat_natCast]
 refine wpAny_bind (iJ Z hS hb (fun e slot' he hb'=>?_) fun he=>?_)
 ·dsimp only
  refine wpAny_bind (wpAny_setField hg rfl (by show 0<5;decide) ?_)
  have hg2:=Heap.get?_update_self (Obj.mapFields (·.setIfInBounds 0 (rawInt slot'))) hg rfl
  refine wpAny_bind (wpAny_setField hg2 rfl (by show 1<5;decide) ?_)
  exact wpAny_pure ⟨_,rfl,h1 e slot' slot he hg hS hb'⟩
 ·exact h2 he
theorem KJ (hh:A.handled=none)(hne:S≠I)(Z:Still w S es ep t):Walks prog w A I [I,S] [I] es.size (fun i v=>∃ e,(qR w S ep es)[i]? = some e∧e.2=v) (fun i h=>At w I S es ep t i h) where
 sub:=fun b hb=>by simp at hb;simp[hb]
 frame:=fun i h h' ⟨slot,h1,h2,h3⟩ hk=>⟨slot,hk I (by simp) _ h1,hk S (by simp) _ h2,h3⟩
 item:=fun i s Q E hi st hQ=>by
  unfold pyNext
  refine wpAny_bind (wpAny_attempt (wpAny_callSpecial?_slot (name:=Str.ofString "__next__") st.type vJ (wpAny_call_entry vJ st.type m6 (lH Z st (fun e slot' slot he hg hS hb=>?_) fun he=>?_) (nV _))))
  ·refine wpAny_pure (hQ e.2 _ s.toks ⟨e,he,rfl⟩ ⟨slot',?_,?_,hb⟩ fun b o hb e=>?_)
   ·exact Heap.get?_update_self _ (Heap.get?_update_self _ hg rfl) rfl
   ·rw[Heap.get?_update_other _ _ hne.symm,Heap.get?_update_other _ _ hne.symm];exact hS
   ·have hb:I≠b:=fun z=>hb (by simp[z])
    rw[Heap.get?_update_other _ _ hb,Heap.get?_update_other _ _ hb];exact e
  ·have:=Array.getElem?_eq_none_iff.mp he
   rw[j6] at this
   omega
 done:=fun s Q E st hQ=>by
  unfold pyNext
  refine wpAny_bind (wpAny_attempt (wpAny_callSpecial?_slot (name:=Str.ofString "__next__") st.type vJ (wpAny_call_entry vJ st.type m6 (lH Z st (fun e slot' slot he hg hS hb=>?_) fun he=>?_) (nV _))))
  ·have:=(Array.getElem?_eq_some_iff.mp he).1
   rw[j6] at this
   omega
  ·obtain⟨slot,hg,hS,hb⟩:=st
   refine wpAny_bind (wpAny_setField hg rfl (by show 2<5;decide) ?_)
   refine wpAny_bind ?_
   simp only[newExc,newTuple]
   refine wpAny_bind (wpAny_newObj_type ?_ (by size_fits))
   refine wpAny_bind (m:=firstArgMember _ _) (wpAny_of_eq (a:=Value.none) (by first|rfl|(simp only[firstArgMember];rfl)) ?_)
   refine wpAny_newObj_type ?_ (by size_fits)
   simp only[raiseNew]
   refine wpAny_bind (wpAny_handled ?_)
   rw[show A.in1.handled=none from hh]
   refine wpAny_bind (wpAny_pure (wpAny_throw ?_))
   refine wpAny_bind (wpAny_isInstance (T:="StopIteration") (b:=true) ⟨_,Heap.get?_push_size _ rfl,rfl⟩ isSubtype_stop ?_)
   refine wpAny_pure (hQ _ s.toks fun b o hb e=>?_)
   exact(((Heap.SameBut.update ..).extBut.push _).push _) b o (fun z=>hb (by simp[z])) e
 self:=fun i s Q E st hQ=>by
  refine wpAny_pyIter_slot st.type lP (wpAny_call_entry lP st.type aW ?_ (iY _))
  show wpAny _ _ (ret (.ref I)) _ _ s
  exact wpAny_pure ⟨_,rfl,"set_iterator",_,st.type,vJ.lookup,hQ⟩
theorem XZ {Q:Value→Shared→Prop}(Z:Still w S es ep t)(ho:s.heap.get? S=some (jP es ep t))(h:Q (.ref s.heap.objs.size) { s with heap:=s.heap.push (itO 0 0 S es.size ep) }) : wpAny (model prog w) A (pyIter (.ref S)) Q E s:=by
 have hT:s.TypeIs (.ref S) "set":=⟨_,ho,rfl⟩
 refine wpAny_pyIter_slot hT PySem.F.slot_set_iter (wpAny_call_entry PySem.F.slot_set_iter hT aU ?_ (PySem.F.args_set_iter_1 _))
 show wpAny _ _ (Builtin.Frozenset.sizeOf S >>= _) _ _ s
 unfold Builtin.Frozenset.sizeOf
 refine wpAny_bind (wpAny_bind (wpAny_setEntries_of ho rfl Z.tab.fits (wpAny_pure ?_)))
 refine wpAny_bind ?_
 rw[X8]
 refine wpAny_bind (wpAny_setState_of ho rfl Z.tab.fits ?_)
 dsimp only
 refine wpAny_bind (wpAny_bind (wpAny_askSetting (wpAny_pure (wpAny_pure ?_))))
 rw[Z.tab.plain]
 simp only[Bool.not_true,Bool.false_and,Bool.and_false,Bool.false_eq_true,if_false]
 refine wpAny_bind (wpAny_pure ?_)
 unfold setEpoch
 refine wpAny_bind (wpAny_bind (wpAny_setState_of ho rfl Z.tab.fits (wpAny_pure ?_)))
 refine wpAny_bind (wpAny_newObj_type (wpAny_pure ⟨_,rfl,"set_iterator",_,⟨_,Heap.get?_push_size _ rfl,rfl⟩,vJ.lookup,h⟩))
theorem VE (Z:Still w S es ep t)(ho:s.heap.get? S=some (jP es ep t)):At w s.heap.objs.size S es ep t 0 (s.heap.push (itO 0 0 S es.size ep)):=
 ⟨0,Heap.get?_push_size _ rfl,Heap.get?_push_of_some _ ho,.inr (aI Z.tab.tb.rs)⟩
end
end _S
end
section
namespace _S
open PySem PySem.W PyProof.Rows
structure Ord {K:Type}(lt:K→K→Bool):Prop where
 irr:∀ a,lt a a=false
 tr:∀ {a b c},lt a b=true→lt b c=true→lt a c=true
 tri:∀ {a b},lt a b=false→a=b∨lt b a=true
def ltI (a b:Int):Bool:=decide (a<b)
theorem SI:Ord ltI:=⟨fun a=>by simp[ltI],fun {a b c} h1 h2=>by simp only[ltI,decide_eq_true_eq] at *;omega,fun {a b} h=>by simp only[ltI,decide_eq_true_eq,decide_eq_false_iff_not] at *;omega⟩
theorem cA:∀ a:List Int,_H.lexLt a a=false
 |[]=>rfl
 |x::xs=>by rw[_H.lexLt_cons,if_pos rfl];exact cA xs
theorem Q4:∀ {a b c:List Int},_H.lexLt a b=true→_H.lexLt b c=true→_H.lexLt a c=true
 |_,[],[],_,h=>by cases h
 |_,_::_,[],_,h=>by cases h
 |[],_,_::_,_,_=>rfl
 |_::_,[],_::_,h,_=>by cases h
 |x::xs,y::ys,z::zs,h1,h2=>by
  rw[_H.lexLt_cons] at h1 h2 ⊢
  by_cases e1:x=y
  ·subst e1
   rw[if_pos rfl] at h1
   by_cases e2:x=z
   ·rw[if_pos e2] at h2 ⊢;exact Q4 h1 h2
   ·rw[if_neg e2] at h2 ⊢;exact h2
  ·rw[if_neg e1] at h1
   have h1:=of_decide_eq_true h1
   by_cases e2:y=z
   ·subst e2;rw[if_neg e1];exact decide_eq_true h1
   ·rw[if_neg e2] at h2
    have h2:=of_decide_eq_true h2
    rw[if_neg (by omega)]
    exact decide_eq_true (by omega)
theorem cB:∀ {a b:List Int},_H.lexLt a b=false→a=b∨_H.lexLt b a=true
 |[],[],_=>.inl rfl
 |[],_::_,h=>by cases h
 |_::_,[],_=>.inr rfl
 |x::xs,y::ys,h=>by
  rw[_H.lexLt_cons] at h ⊢
  by_cases e:x=y
  ·subst e
   rw[if_pos rfl] at h ⊢
   rcases cB h with h|h
   ·exact .inl (by rw[h])
   ·exact .inr h
  ·rw[if_neg e] at h
   have h:=of_decide_eq_false h
   rw[if_neg (Ne.symm e)]
   exact .inr (decide_eq_true (by omega))
theorem uS:Ord _H.lexLt:=⟨cA,Q4,cB⟩
theorem l7 {α : Type}{p q:α→Bool}:∀ {l:List α},(∀ x∈l,p x=true→q x=true)→(∃ x∈l,q x=true∧p x=false)→l.countP p<l.countP q
 |[],_,⟨x,h,_⟩=>by simp at h
 |a::l,h,⟨x,hx,h1,h2⟩=>by
  have le:l.countP p≤l.countP q:=List.countP_mono_left fun y hy=>h y (by simp[hy])
  rw[List.countP_cons,List.countP_cons]
  rcases List.mem_cons.mp hx with rfl|hx
  ·rw[if_neg (by rw[h2];decide),if_pos h1];omega
  ·have ih:=l7 (l:=l) (fun y hy=>h y (by simp[hy])) ⟨x,hx,h1,h2⟩
   have:=h a (by simp)
   cases hp:p a with
   |false=>rw[if_neg (by decide)];split <;> omega
   |true=>rw[if_pos rfl,if_pos (this hp)];omega
section
variable {K:Type}{lt':K→K→Bool}
def gO (lt':K→K→Bool)(ks:List K)(x:K):Int:=(ks.countP (fun k=>lt' k x):Nat)
theorem rN (O:Ord lt'){ks:List K}{x y:K}(hx:x∈ks):lt' x y=decide (gO lt' ks x<gO lt' ks y):=by
 unfold gO
 cases h:lt' x y with
 |true =>
  refine(decide_eq_true ?_).symm
  have:=l7 (l:=ks) (p:=fun k=>lt' k x) (q:=fun k=>lt' k y) (fun z _ hz=>O.tr hz h) ⟨x,hx,h,O.irr x⟩
  omega
 |false =>
  refine(decide_eq_false ?_).symm
  have:ks.countP (fun k=>lt' k y)≤ks.countP (fun k=>lt' k x):=by
   rcases O.tri h with e|h'
   ·rw[e];exact Nat.le_refl _
   ·exact List.countP_mono_left fun z _ hz=>O.tr hz h'
  omega
def dN (lt':K→K→Bool)(ks:List K)(d:K)(i j:Nat):Bool:=lt' (ks.getD i d) (ks.getD j d)
def Nf (lt':K→K→Bool)(l:List K):Prop:=l.Pairwise fun a b=>lt' b a=false
theorem nF (O:Ord lt'):∀ {a b:List K},Nf lt' a→Nf lt' b→a.Perm b→a=b
 |[],b,_,_,p=>(List.nil_perm.mp p).symm
 |x::a,b,ha,hb,p=>by
  cases b with
  |nil=>exact absurd p.symm (by simp)
  |cons y b =>
   unfold Nf at ha hb
   rw[List.pairwise_cons] at ha hb
   have e:x=y:=by
    rcases List.mem_cons.mp (p.mem_iff.mp (.head _)) with e|e
    ·exact e
    ·rcases List.mem_cons.mp (p.mem_iff.mpr (.head _)) with e'|e'
     ·exact e'.symm
     ·have h1:=ha.1 y e'
      have h2:=hb.1 x e
      rcases O.tri h1 with e|h
      ·exact e.symm
      ·rw[h2] at h;cases h
   subst e
   rw[nF O ha.2 hb.2 (List.Perm.cons_inv p)]
theorem lI (O:Ord lt'){l:List K}(h:Nf lt' l)(nd:l.Nodup):l.Pairwise fun a b=>lt' a b=true:=by
 refine List.Pairwise.imp₂ (fun {a b} h1 h2=>?_) h nd
 exact(O.tri h1).elim (fun e=>absurd e.symm h2) id
def wY (lt':K→K→Bool)(l:List K):List K:=l.mergeSort fun a b=>!lt' b a
theorem yG (l:List K):(wY lt' l).Perm l:=List.mergeSort_perm _ _
theorem bI (O:Ord lt')(l:List K):Nf lt' (wY lt' l):=by
 have:=List.pairwise_mergeSort (le:=fun a b=>!lt' b a) (fun a b c h1 h2=>?_) (fun a b=>?_) l
 ·exact this.imp fun h=>by simpa using h
 ·have h1:lt' b a=false:=by simpa using h1
  have h2:lt' c b=false:=by simpa using h2
  cases h3:lt' c a with
  |false=>rfl
  |true =>
   rcases O.tri h1 with e|h
   ·rw[← e] at h3;rw[h3] at h2;cases h2
   ·have:=O.tr h3 h;rw[h2] at this;cases this
 ·cases h:lt' b a with
  |false=>rfl
  |true =>
   cases h':lt' a b with
   |false=>rfl
   |true=>have:=O.tr h h';rw[O.irr] at this;cases this
def jI (lt':K→K→Bool)(x:K):List K→List K
 |[]=>[x]
 |y::l=>if lt' x y then x::y::l else if lt' y x then y::jI lt' x l else y::l
def srt (lt':K→K→Bool):List K→List K
 |[]=>[]
 |x::xs=>jI lt' x (srt lt' xs)
set_option tactic.hygienic true in
theorem fH (O:Ord lt')(x y:K):∀ l:List K,y∈jI lt' x l↔y=x∨y∈l
 |[]=>by simp[jI]
 |z::l=>by
  unfold jI
  split
  ·simp
  ·rename_i h1
   split
   ·rw[List.mem_cons,fH O x y l,List.mem_cons]
    exact⟨fun h=>by rcases h with h|h|h <;> simp[h],fun h=>by rcases h with h|h|h <;> simp[h]⟩
   ·rename_i h2
    have:x=z:=(O.tri (by simpa using h1)).elim id fun h=>absurd h h2
    subst this
    simp
set_option tactic.hygienic true in
theorem eU (O:Ord lt')(x:K):∀ l:List K,l.Pairwise (fun a b=>lt' a b=true)→(jI lt' x l).Pairwise (fun a b=>lt' a b=true)
 |[],_=>by simp[jI]
 |z::l,h=>by
  rw[List.pairwise_cons] at h
  unfold jI
  split
  ·rename_i h1
   refine List.pairwise_cons.mpr ⟨fun y hy=>?_,List.pairwise_cons.mpr h⟩
   rcases List.mem_cons.mp hy with rfl|hy
   ·exact h1
   ·exact O.tr h1 (h.1 y hy)
  ·split
   ·rename_i h2
    refine List.pairwise_cons.mpr ⟨fun y hy=>?_,eU O x l h.2⟩
    rcases (fH O x y l).mp hy with rfl|hy
    ·exact h2
    ·exact h.1 y hy
   ·exact List.pairwise_cons.mpr h
theorem u6 (O:Ord lt')(y:K):∀ l:List K,y∈srt lt' l↔y∈l
 |[]=>by simp[srt]
 |x::l=>by rw[srt,fH O,u6 O y l,List.mem_cons]
theorem pO (O:Ord lt'):∀ l:List K,(srt lt' l).Pairwise (fun a b=>lt' a b=true)
 |[]=>by simp[srt]
 |x::l=>eU O x _ (pO O l)
theorem bJ (O:Ord lt'):∀ {a b:List K},a.Pairwise (fun a b=>lt' a b=true)→b.Pairwise (fun a b=>lt' a b=true)→(∀ x,x∈a↔x∈b)→a=b
 |[],[],_,_,_=>rfl
 |[],y::b,_,_,h=>by have:=(h y).mpr (by simp);simp at this
 |x::a,[],_,_,h=>by have:=(h x).mp (by simp);simp at this
 |x::a,y::b,ha,hb,h=>by
  rw[List.pairwise_cons] at ha hb
  have asym:∀ {u v},lt' u v=true→lt' v u=true→False:=fun p q=>by have:=O.tr p q;rw[O.irr] at this;cases this
  have e:x=y:=by
   rcases List.mem_cons.mp ((h x).mp (by simp)) with e|e
   ·exact e
   ·rcases List.mem_cons.mp ((h y).mpr (by simp)) with e'|e'
    ·exact e'.symm
    ·exact(asym (hb.1 x e) (ha.1 y e')).elim
  subst e
  have ne:∀ {z:K} {l:List K},(∀ y∈l,lt' x y=true)→z∈l→z≠x:=fun h hz e=>by subst e;have:=h _ hz;rw[O.irr] at this;cases this
  rw[bJ O ha.2 hb.2 fun z=>⟨fun hz=>?_,fun hz=>?_⟩]
  ·exact(List.mem_cons.mp ((h z).mp (by simp[hz]))).elim (fun e=>absurd e (ne ha.1 hz)) id
  ·exact(List.mem_cons.mp ((h z).mpr (by simp[hz]))).elim (fun e=>absurd e (ne hb.1 hz)) id
theorem BQ (O:Ord lt'){l xs:List K}(h:Nf lt' l)(nd:l.Nodup)(m:∀ x,x∈l↔x∈xs):l=srt lt' xs:=
 bJ O (lI O h nd) (pO O xs) fun x=>by rw[m,u6 O]
end
end _S
end
section
namespace _S
open PySem PySem.W PyProof.Rows
theorem UX:typeLookup (.type "set") "__len__" = pure (some (.builtin "set.__len__")):=PySem.F.slot_set_len.lookup
section
variable {prog:Program}{w:World}{A:Around}{E:Value→Shared→Prop}{s:Shared}{S:Addr}{es:Array (Int × Value)}{ep:Nat}{t:SetTable}
theorem XU {r:Addr}(hT:s.TypeIs (.ref r) "set"){Q:Bool→Shared→Prop}(h:Q false s):wpAny (model prog w) A (Builtin.List.listLengthHint (.ref r)) Q E s:=by
 unfold Builtin.List.listLengthHint
 refine wpAny_bind (wpAny_specialOf hT UX ?_)
 generalize hid:("set.__len__" : String)=id0
 wp_delta
 rw[show splitId id0=some ("set","__len__") from by subst hid;decide +kernel]
 subst hid
 refine wpAny_bind (wpAny_isInstance (T:="set") (b:=true) hT (by rw[isSubtype_type];kernel_rfl) ?_)
 refine wpAny_ite_split (fun hab=>absurd hab (by decide)) (fun _=>?_)
 refine wpAny_ite_split (fun _=>?_) (fun hab=>absurd (by decide +kernel) hab)
 exact wpAny_bind (wpAny_typeOf hT (wpAny_pure h))
theorem rX {Q:List Value→Shared→Prop}(hh:A.handled=none)(Z:Still w S es ep t)(ho:s.heap.get? S=some (jP es ep t))(hn:es.size≤1000)
  (h:∀ h' tk,(∀ b o,s.heap.get? b=some o→h'.get? b=some o)→s.heap.objs.size<h'.objs.size→Q ((qR w S ep es).toList.map (·.2)) { s with heap:=h',toks:=tk }) : wpAny (model prog w) A (collect (.ref S)) Q E s:=by
 have hS:S<s.heap.objs.size:=Heap.lt_size ho
 unfold collect
 refine wpAny_bind (wpAny_runValue (codeAny_builtin PySem.F.entry_proto_collect ?_))
 rw[Around.under_plainId PySem.F.plain_proto_collect _]
 show wpAny _ A.in1 (newList [] >>= fun l=>again (.builtin "list.__iadd__" ⟨[l,.ref S],[]⟩)) _ _ s
 refine wpAny_bind (wpAny_newObj_type (wpAny_pure ⟨plainId_quiet PySem.F.plain_list_iadd _,codeAny_builtin PySem.F.entry_list_iadd ?_⟩))
 rw[Around.under_plainId PySem.F.plain_list_iadd _]
 have hD:(s.heap.push { cls:=.type "list",data:=.seq ([] : List Value).toArray }).get? s.heap.objs.size=some { cls:=.type "list",data:=.seq #[] }:=Heap.get?_push_size _ rfl
 have ho1:(s.heap.push { cls:=.type "list",data:=.seq ([] : List Value).toArray }).get? S=some (jP es ep t):=Heap.get?_push_of_some _ ho
 show wpAny _ A.in1 (Builtin.List.listExtendWith (.ref s.heap.objs.size) (.ref S) (.ref s.heap.objs.size)) _ _ _
 unfold Builtin.List.listExtendWith
 have hT1:Shared.TypeIs { s with heap:=s.heap.push { cls:=.type "list",data:=.seq ([] : List Value).toArray } } (.ref S) "set":=⟨_,ho1,rfl⟩
 refine wpAny_bind (wpAny_typeOf hT1 ?_)
 have h1:Builtin.List.listSameRef (.ref s.heap.objs.size) (.ref S)=false:=by simp[Builtin.List.listSameRef];exact Nat.ne_of_gt hS
 rw[if_neg (by rw[h1];decide)]
 refine wpAny_bind (XZ (s:={ s with heap:=s.heap.push { cls:=.type "list",data:=.seq ([] : List Value).toArray } }) Z ho1 ?_)
 have hD2:=Heap.get?_push_of_some (itO 0 0 S es.size ep) hD
 have hT2:Shared.TypeIs { s with heap:=(s.heap.push { cls:=.type "list",data:=.seq ([] : List Value).toArray }).push (itO 0 0 S es.size ep) } (.ref S) "set":=⟨_,Heap.get?_push_of_some _ ho1,rfl⟩
 refine wpAny_bind (wpAny_holding (XU hT2 ?_))
 refine wpAny_ite_split (fun _=>?_) (fun hab=>absurd (by decide) hab)
 refine wpAny_bind (wpAny_rule (wpAny_bind ?_))
 show wpAny _ _ (updateSeq s.heap.objs.size (·.push .none) >>= fun _=>updateSeq s.heap.objs.size (·.pop)) _ _ _
 refine wpAny_bind (wpAny_updateSeq hD2 rfl ?_)
 have hD3:=Heap.get?_update_self (Obj.mapSeq (·.push Value.none)) hD2 rfl
 refine wpAny_updateSeq (hz:=by seq_fits) hD3 rfl ?_
 have hD4:=Heap.get?_update_self (Obj.mapSeq (·.pop)) hD3 rfl
 have sz:(s.heap.push { cls:=.type "list",data:=.seq ([] : List Value).toArray }).objs.size=s.heap.objs.size+1:=Heap.size_push ..
 have oth:∀ {b:Addr} {o:Obj},b≠s.heap.objs.size→((s.heap.push { cls:=.type "list",data:=.seq ([] : List Value).toArray }).push (itO 0 0 S es.size ep)).get? b=some o →
   ((((s.heap.push { cls:=.type "list",data:=.seq ([] : List Value).toArray }).push (itO 0 0 S es.size ep)).update s.heap.objs.size (Obj.mapSeq (·.push Value.none))).update s.heap.objs.size (Obj.mapSeq (·.pop))).get? b=some o:=
  fun hb e=>(Heap.get?_update_other _ _ (Ne.symm hb)).trans ((Heap.get?_update_other _ _ (Ne.symm hb)).trans e)
 have at0:=VE (w:=w) (s:={ s with heap:=s.heap.push { cls:=.type "list",data:=.seq ([] : List Value).toArray } }) Z ho1
 refine wpAny_pure ⟨plainId_quiet PySem.F.plain_extend_loop _,?_⟩
 refine codeAny_extend_loopS ((KJ (prog:=prog) (A:=A.in1) (I:=(s.heap.push { cls:=.type "list",data:=.seq ([] : List Value).toArray }).objs.size) hh (by rw[sz];exact Nat.ne_of_lt (Nat.lt_succ_of_lt hS)) Z).toS) (by rw[sizeLine_eq];omega) s.heap.objs.size ?_ _ es.size 0 _ #[] _ rfl (Nat.zero_le _) ?_ hD4 (ItemsOf.nil _) fun s' acc c hm hS' hacc=>?_
 ·rw[sz]
  simp only[List.mem_cons,List.not_mem_nil,or_false,not_or]
  exact⟨Nat.ne_of_lt (Nat.lt_succ_self _),Nat.ne_of_gt hS⟩
 ·obtain⟨slot,a1,a2,a3⟩:=at0
  exact⟨slot,oth (by rw[sz];exact Nat.ne_of_gt (Nat.lt_succ_self _)) a1,oth (Nat.ne_of_lt hS) a2,a3⟩
 ·show wpAny _ A (load s.heap.objs.size >>= _) _ _ s'
  refine wpAny_bind (wpAny_load hS' ?_)
  obtain⟨h',g',d',tk',os'⟩:=s'
  have eg:g'=s.gens:=hm.gens
  have ed:d'=s.drawn:=hm.drawn
  have eo:os'=s.os:=hm.os
  subst eg;subst ed;subst eo
  have e:acc.toList=(qR w S ep es).toList.map (·.2):=by
   refine List.ext_getElem? fun i=>?_
   rw[Array.getElem?_toList,List.getElem?_map,Array.getElem?_toList]
   by_cases hi:i<es.size
   ·have hi':i<acc.size:=by rw[hacc.1];exact hi
    obtain⟨e,he,q⟩:=hacc.2 i acc[i] (Array.getElem?_eq_getElem hi')
    rw[Array.getElem?_eq_getElem hi',he,Option.map_some,q]
   ·rw[Array.getElem?_eq_none (by rw[hacc.1];omega),Array.getElem?_eq_none (by rw[j6];omega)]
    rfl
  refine wpAny_pure ?_
  show Q acc.toList _
  rw[e]
  refine h h' tk' (fun b o q=>?_) (Heap.lt_size hS')
  have hb:b<s.heap.objs.size:=Heap.lt_size q
  refine hm.heap b o (fun hx=>?_) (oth (Nat.ne_of_lt hb) (Heap.get?_push_of_some _ (Heap.get?_push_of_some _ q)))
  simp only[List.mem_cons,List.not_mem_nil,or_false] at hx
  rcases hx with hx|hx
  ·exact absurd hb (by rw[hx];exact Nat.lt_irrefl _)
  ·exact absurd hb (by rw[hx,sz];exact Nat.not_lt.mpr (Nat.le_succ _))
end
end _S
end
section
namespace _S
open PySem PySem.W PyProof.Rows
def tV:Bool→Keyed→Array Keyed→Nat→Nat→Nat→StateT SortSt Sem (Option Nat):=sortPriv% PySem.Builtin.gallop
def W5:Array Keyed→Array Keyed→StateT SortSt Sem (Array Keyed):=sortPriv% PySem.Builtin.mergeLo
def W4:Array Keyed→Array Keyed→StateT SortSt Sem (Array Keyed):=sortPriv% PySem.Builtin.mergeHi
def nv:Keyed:=(Value.none,Value.none)
section
variable {M:Model}{A:Around}{E:Value→Shared→Prop}{s:Shared}{κ : SortKind}{U:Keyed→Prop}{r:Keyed→Int}
structure Cm (M:Model)(A:Around)(s:Shared)(κ : SortKind)(U:Keyed→Prop)(r:Keyed→Int):Prop where
 lt:∀ {x y:Keyed},U x→U y→∀ {E:Value→Shared→Prop} {Q:Option Bool→SortSt→Prop} {st:SortSt},kindOf st=κ→Q (some (decide (r x<r y))) st→wpS M A E s (lt' x y) Q st
theorem zB {arr:Array Keyed}{i:Nat}{Q:Keyed→SortSt→Prop}{st:SortSt}(h:i<arr.size)(q:Q (arr.getD i nv) st):wpS M A E s (elem' arr i) Q st:=by
 rw[elem'_eq,getElem?_pos arr i h]
 have e:arr.getD i nv=arr[i]:=by simp[Array.getD,h]
 rw[e] at q
 exact wpS_pure q
theorem iV (C:Cm M A s κ U r){left:Bool}{key:Keyed}{arr:Array Keyed}{i:Nat}{Q:Option Bool→SortSt→Prop}{st:SortSt}(hk:kindOf st=κ)(hi:i<arr.size)(hU:U (arr.getD i nv))(hkU:U key)
  (q:Q (some (if left then decide (r (arr.getD i nv)<r key) else !decide (r key<r (arr.getD i nv)))) st) :
  wpS M A E s (do let x ← elem' arr i;if left then lt' x key else (do let a ← lt' key x;pure (a.map (fun b=>!b)))) Q st:=by
 refine wpS_bind (zB hi ?_)
 cases left with
 |true=>exact C.lt hU hkU hk q
 |false=>exact wpS_bind (C.lt hkU hU hk (wpS_pure q))
theorem t8 (C:Cm M A s κ U r){left:Bool}{key:Keyed}{arr:Array Keyed}{base n hint cut:Nat}{Q:Option Nat→SortSt→Prop}{st:SortSt}(hk:kindOf st=κ)(hh:hint<n)(hb:base+n≤arr.size)(hU:∀ i,i<n→U (arr.getD (base+i) nv))(hkU:U key)(hc:cut≤n)
  (hB:∀ i,i<n→(if left then decide (r (arr.getD (base+i) nv)<r key) else !decide (r key<r (arr.getD (base+i) nv)))=decide (i<cut)) (h:Q (some cut) st):wpS M A E s (tV left key arr base n hint) Q st:=by
 have B:∀ {i:Nat} {E:Value→Shared→Prop} {Q:Option Bool→SortSt→Prop},i<n→Q (some (decide (i<cut))) st→wpS M A E s (do let x ← elem' arr (base+i);if left then lt' x key else (do let a ← lt' key x;pure (a.map (fun b=>!b)))) Q st:=by
  intro i E Q hi q
  exact iV C hk (by omega) (hU i hi) hkU (by rw[hB i hi];exact q)
 have bin:∀ {lo hi:Nat} {f:Nat→Option (Option Nat) × Nat × Nat→StateT SortSt Sem (ForInStep (Option (Option Nat) × Nat × Nat))},lo≤cut→cut≤hi→hi≤n →
   (∀ x a b,f x (none,a,b)=if a≥b then pure (.done (none,a,b)) else ((do let x ← elem' arr (base+(a+(b-a)/2));if left then lt' x key else (do let a ← lt' key x;pure (a.map (fun b=>!b)))) >>= fun o=>match o with
    |some more=>if more then pure (.yield (none,a+(b-a)/2+1,b)) else pure (.yield (none,a,a+(b-a)/2))
    |_=>pure (.done (some none,a,b))))→wpS M A E s (forIn [0:n] (none,lo,hi) f) (fun c st'=>st'=st∧∃ a,c=(none,a,cut)) st:=by
  intro lo hi f h1 h2 h3 hf
  refine wpS_forRange (I:=fun x c st'=>st'=st∧∃ a b,c=(none,a,b)∧a≤cut∧cut≤b∧b≤n∧b-a≤n-x) ?_ ?_ ⟨rfl,lo,hi,rfl,h1,h2,h3,by omega⟩
  ·rintro x c st' _ hx ⟨rfl,a,b,rfl,q1,q2,q3,q4⟩
   rw[hf]
   by_cases g:a≥b
   ·rw[if_pos g];exact wpS_pure ⟨rfl,a,by rw[show b=cut by omega]⟩
   ·rw[if_neg g]
    refine wpS_bind (B (by omega) ?_)
    by_cases z:a+(b-a)/2<cut
    ·simp only[z,decide_true,if_true]
     exact wpS_pure ⟨rfl,_,_,rfl,by omega,q2,q3,by omega⟩
    ·simp only[z,decide_false,Bool.false_eq_true,if_false]
     exact wpS_pure ⟨rfl,_,_,rfl,q1,by omega,by omega,by omega⟩
  ·rintro c st' ⟨rfl,a,b,rfl,q1,q2,q3,q4⟩
   exact⟨rfl,a,by rw[show b=cut by omega]⟩
 refine wpS_bind (B hh ?_)
 dsimp only
 by_cases hr:hint<cut
 ·simp only[hr,decide_true,if_true]
  refine wpS_bind (wpS_mono (wpS_forRange (I:=fun x c st'=>st'=st∧∃ a b,c=(none,a,b)∧hint+a<cut∧a<b∧x<b)
   (Q:=fun c st'=>st'=st∧∃ a b,c=(none,a,b)∧hint+a<cut∧cut≤hint+min b (n-hint)) ?_ ?_ ⟨rfl,0,1,rfl,hr,by omega,by omega⟩) ?_)
  ·rintro x c st' _ hx ⟨rfl,a,b,rfl,q1,q2,q3⟩
   dsimp only
   by_cases g:b≥n-hint
   ·rw[if_pos g];exact wpS_pure ⟨rfl,a,b,rfl,q1,by omega⟩
   ·rw[if_neg g]
    refine wpS_bind (B (by omega) ?_)
    by_cases z:hint+b<cut
    ·simp only[z,decide_true,Bool.not_true,Bool.false_eq_true,if_false]
     exact wpS_pure ⟨rfl,_,_,rfl,z,by omega,by omega⟩
    ·simp only[z,decide_false,Bool.not_false,if_true]
     exact wpS_pure ⟨rfl,a,b,rfl,q1,by omega⟩
  ·rintro c st' ⟨rfl,a,b,rfl,q1,q2,q3⟩
   exact⟨rfl,a,b,rfl,q1,by omega⟩
  ·rintro c st' ⟨rfl,a,b,rfl,q1,q2⟩
   dsimp only
   refine wpS_bind (wpS_mono (bin (lo:=hint+a+1) (hi:=hint+min b (n-hint)) (by omega) q2 (by omega) fun _ _ _=>rfl) ?_)
   rintro c st' ⟨rfl,a',rfl⟩
   exact wpS_pure h
 ·simp only[hr,decide_false,Bool.false_eq_true,if_false]
  refine wpS_bind (wpS_mono (wpS_forRange (I:=fun x c st'=>st'=st∧∃ a b,c=(none,a,b)∧cut+a≤hint∧a<b∧x<b)
   (Q:=fun c st'=>st'=st∧∃ a b,c=(none,a,b)∧cut+a≤hint∧hint+1≤cut+min b (hint+1)) ?_ ?_ ⟨rfl,0,1,rfl,by omega,by omega,by omega⟩) ?_)
  ·rintro x c st' _ hx ⟨rfl,a,b,rfl,q1,q2,q3⟩
   dsimp only
   by_cases g:b≥hint+1
   ·rw[if_pos g];exact wpS_pure ⟨rfl,a,b,rfl,q1,by omega⟩
   ·rw[if_neg g]
    refine wpS_bind (B (by omega) ?_)
    by_cases z:hint-b<cut
    ·simp only[z,decide_true,if_true]
     exact wpS_pure ⟨rfl,a,b,rfl,q1,by omega⟩
    ·simp only[z,decide_false,Bool.false_eq_true,if_false]
     exact wpS_pure ⟨rfl,_,_,rfl,by omega,by omega,by omega⟩
  ·rintro c st' ⟨rfl,a,b,rfl,q1,q2,q3⟩
   exact⟨rfl,a,b,rfl,q1,by omega⟩
  ·rintro c st' ⟨rfl,a,b,rfl,q1,q2⟩
   dsimp only
   refine wpS_bind (wpS_mono (bin (lo:=hint+1-min b (hint+1)) (hi:=hint-a) (by omega) (by omega) (by omega) fun _ _ _=>rfl) ?_)
   rintro c st' ⟨rfl,a',rfl⟩
   exact wpS_pure h
end
end _S
end
section
namespace _S
open PySem PySem.W PyProof.Rows
def Le (r:Keyed→Int)(x y:Keyed):Prop:=r x≤r y
structure Mg (r:Keyed→Int)(o A B T:List Keyed):Prop where
 p1:(o++A).Pairwise (Le r)
 p2:(o++B).Pairwise (Le r)
 pm:(o++A++B).Perm T
structure Mh (r:Keyed→Int)(A B o T:List Keyed):Prop where
 p1:(A++o).Pairwise (Le r)
 p2:(B++o).Pairwise (Le r)
 pm:(A++B++o).Perm T
section
variable {r:Keyed→Int}{o A B A1 A2 B1 B2 T:List Keyed}
theorem Mg.b (h:Mg r o A (B1++B2) T)(l:∀ x∈B1,∀ y∈A,Le r x y):Mg r (o++B1) A B2 T:=by
 obtain⟨p1,p2,pm⟩:=h
 refine⟨?_,by rw[List.append_assoc];exact p2,?_⟩
 ·rw[List.append_assoc]
  rw[List.pairwise_append] at p1 p2 ⊢
  refine⟨p1.1,?_,fun x hx y hy=>?_⟩
  ·rw[List.pairwise_append]
   exact⟨(List.pairwise_append.mp p2.2.1).1,p1.2.1,l⟩
  ·rcases List.mem_append.mp hy with hy|hy
   ·exact p2.2.2 x hx y (List.mem_append_left _ hy)
   ·exact p1.2.2 x hx y hy
 ·refine List.Perm.trans ?_ pm
  simp only[List.append_assoc]
  refine List.Perm.append_left _ ?_
  simp only[← List.append_assoc]
  exact List.Perm.append_right _ List.perm_append_comm
theorem Mg.a (h:Mg r o (A1++A2) B T)(l:∀ x∈A1,∀ y∈B,Le r x y):Mg r (o++A1) A2 B T:=by
 obtain⟨p1,p2,pm⟩:=h
 refine⟨by rw[List.append_assoc];exact p1,?_,by simpa only [List.append_assoc] using pm⟩
 rw[List.append_assoc]
 rw[List.pairwise_append] at p1 p2 ⊢
 refine⟨p2.1,?_,fun x hx y hy=>?_⟩
 ·rw[List.pairwise_append]
  exact⟨(List.pairwise_append.mp p1.2.1).1,p2.2.1,l⟩
 ·rcases List.mem_append.mp hy with hy|hy
  ·exact p1.2.2 x hx y (List.mem_append_left _ hy)
  ·exact p2.2.2 x hx y hy
theorem Mh.a (h:Mh r (A1++A2) B o T)(l:∀ x∈B,∀ y∈A2,Le r x y):Mh r A1 B (A2++o) T:=by
 obtain⟨p1,p2,pm⟩:=h
 refine⟨by rw[← List.append_assoc];exact p1,?_,?_⟩
 ·rw[List.append_assoc] at p1
  rw[List.pairwise_append] at p1 p2 ⊢
  refine⟨p2.1,p1.2.1,fun x hx y hy=>?_⟩
  rcases List.mem_append.mp hy with hy|hy
  ·exact l x hx y hy
  ·exact p2.2.2 x hx y hy
 ·refine List.Perm.trans ?_ pm
  simp only[List.append_assoc]
  refine List.Perm.append_left _ ?_
  simp only[← List.append_assoc]
  exact List.Perm.append_right _ List.perm_append_comm
theorem Mh.b (h:Mh r A (B1++B2) o T)(l:∀ x∈A,∀ y∈B2,Le r x y):Mh r A B1 (B2++o) T:=by
 obtain⟨p1,p2,pm⟩:=h
 refine⟨?_,by rw[← List.append_assoc];exact p2,by simpa only [List.append_assoc] using pm⟩
 rw[List.append_assoc] at p2
 rw[List.pairwise_append] at p1 p2 ⊢
 refine⟨p1.1,p2.2.1,fun x hx y hy=>?_⟩
 rcases List.mem_append.mp hy with hy|hy
 ·exact l x hx y hy
 ·exact p1.2.2 x hx y hy
end
structure Mo (r:Keyed→Int)(T:List Keyed)(m:Array Keyed):Prop where
 pm:m.toList.Perm T
 up:m.toList.Pairwise (Le r)
abbrev vQ (st:SortSt)(g:Nat):SortSt:=SortSt.mk' (kindOf st) (arrOf st) (pendingOf st) g (failedOf st)
theorem tN {a:Array Keyed}{i:Nat}(h:i<a.size):a.toList.drop i=a.getD i nv::a.toList.drop (i+1):=by
 rw[List.drop_eq_getElem_cons (by simpa using h)]
 congr 1
 simp[Array.getD,h]
theorem zQ {a:Array Keyed}{i:Nat}(h:i<a.size):a.getD i nv∈a.toList:=by
 have e:a.getD i nv=a[i]:=by simp[Array.getD,h]
 rw[e]
 exact Array.getElem_mem_toList h
theorem yM {r:Keyed→Int}{a:Array Keyed}(s:a.toList.Pairwise (Le r)){i j:Nat}(h:i≤j)(hj:j<a.size):r (a.getD i nv)≤r (a.getD j nv):=by
 rcases Nat.lt_or_ge i j with l|l
 ·have e:=List.pairwise_iff_getElem.mp s i j (by simpa using Nat.lt_trans l hj) (by simpa using hj) l
  have hi:i<a.size:=Nat.lt_trans l hj
  simpa [Array.getD,hi,hj,Le] using e
 ·rw[Nat.le_antisymm h l];exact Int.le_refl _
theorem gH {a:Array Keyed}{i:Nat}{x:Keyed}(h:x∈a.toList.drop i):∃ j,i≤j∧j<a.size∧x=a.getD j nv:=by
 obtain⟨k,hk,e⟩:=List.mem_iff_getElem.mp h
 rw[List.getElem_drop] at e
 have hk':k<a.size-i:=by simpa using hk
 refine⟨i+k,by omega,by omega,?_⟩
 have:i+k<a.size:=by omega
 simp[Array.getD,this,← e]
theorem gJ {a:Array Keyed}{n:Nat}{x:Keyed}(h:x∈a.toList.take n):∃ j,j<n∧j<a.size∧x=a.getD j nv:=by
 obtain⟨k,hk,e⟩:=List.mem_iff_getElem.mp h
 rw[List.getElem_take] at e
 have hk':k<n∧k<a.size:=by rw[List.length_take,Array.length_toList] at hk;omega
 refine⟨k,hk'.1,hk'.2,?_⟩
 simp[Array.getD,hk'.2,← e]
theorem fD {a:Array Keyed}{i k:Nat}:(a.extract i (i+k)).toList++a.toList.drop (i+k)=a.toList.drop i:=by
 rw[Array.toList_extract,List.extract_eq_take_drop,Nat.add_sub_cancel_left,← List.drop_drop]
 exact List.take_append_drop _ _
theorem pW {a:Array Keyed}{i:Nat}:(a.extract i a.size).toList=a.toList.drop i:=by
 rw[Array.toList_extract,List.extract_eq_take_drop]
 exact List.take_of_length_le (by simp)
theorem nD {a:Array Keyed}{i k:Nat}{x:Keyed}(h:x∈(a.extract i (i+k)).toList):∃ j,i≤j∧j<i+k∧j<a.size∧x=a.getD j nv:=by
 rw[Array.toList_extract,List.extract_eq_take_drop,Nat.add_sub_cancel_left] at h
 obtain⟨m,hm,e⟩:=List.mem_iff_getElem.mp h
 rw[List.getElem_take,List.getElem_drop] at e
 have hm':m<k∧i+m<a.size:=by rw[List.length_take,List.length_drop,Array.length_toList] at hm;omega
 refine⟨i+m,by omega,by omega,hm'.2,?_⟩
 simp[Array.getD,hm'.2,← e]
def GL (r:Keyed→Int)(a b o:Array Keyed)(i j:Nat):Prop:=Mg r o.toList (a.toList.drop i) (b.toList.drop j) (a.toList++b.toList)
section
variable {r:Keyed→Int}{a b o:Array Keyed}{i j k:Nat}
theorem GL.pb (sa:a.toList.Pairwise (Le r))(h:GL r a b o i j)(hj:j<b.size)(l:i<a.size→r (b.getD j nv)≤r (a.getD i nv)):GL r a b (o.push (b.getD j nv)) i (j+1):=by
 have h':Mg r o.toList (a.toList.drop i) ([b.getD j nv]++b.toList.drop (j+1)) (a.toList++b.toList):=by rw[List.singleton_append,← tN hj];exact h
 have:=h'.b fun x hx y hy=>by
  cases List.mem_singleton.mp hx
  obtain⟨m,h1,h2,rfl⟩:=gH hy
  exact Int.le_trans (l (by omega)) (yM sa h1 h2)
 unfold GL
 rw[Array.toList_push]
 exact this
theorem GL.pa (sb:b.toList.Pairwise (Le r))(h:GL r a b o i j)(hi:i<a.size)(l:j<b.size→r (a.getD i nv)≤r (b.getD j nv)):GL r a b (o.push (a.getD i nv)) (i+1) j:=by
 have h':Mg r o.toList ([a.getD i nv]++a.toList.drop (i+1)) (b.toList.drop j) (a.toList++b.toList):=by rw[List.singleton_append,← tN hi];exact h
 have:=h'.a fun x hx y hy=>by
  cases List.mem_singleton.mp hx
  obtain⟨m,h1,h2,rfl⟩:=gH hy
  exact Int.le_trans (l (by omega)) (yM sb h1 h2)
 unfold GL
 rw[Array.toList_push]
 exact this
theorem GL.ea (sb:b.toList.Pairwise (Le r))(h:GL r a b o i j)(hj:j<b.size)(l:∀ m,m<k→r (a.getD (i+m) nv)≤r (b.getD j nv)):GL r a b (o++a.extract i (i+k)) (i+k) j:=by
 have h':Mg r o.toList ((a.extract i (i+k)).toList++a.toList.drop (i+k)) (b.toList.drop j) (a.toList++b.toList):=by rw[fD];exact h
 have:=h'.a fun x hx y hy=>by
  obtain⟨m,h1,h2,h3,rfl⟩:=nD hx
  obtain⟨m',h4,h5,rfl⟩:=gH hy
  have:=l (m-i) (by omega)
  rw[show i+(m-i)=m by omega] at this
  exact Int.le_trans this (yM sb h4 h5)
 unfold GL
 rw[Array.toList_append]
 exact this
theorem GL.eb (sa:a.toList.Pairwise (Le r))(h:GL r a b o i j)(hi:i<a.size)(l:∀ m,m<k→r (b.getD (j+m) nv)≤r (a.getD i nv)):GL r a b (o++b.extract j (j+k)) i (j+k):=by
 have h':Mg r o.toList (a.toList.drop i) ((b.extract j (j+k)).toList++b.toList.drop (j+k)) (a.toList++b.toList):=by rw[fD];exact h
 have:=h'.b fun x hx y hy=>by
  obtain⟨m,h1,h2,h3,rfl⟩:=nD hx
  obtain⟨m',h4,h5,rfl⟩:=gH hy
  have:=l (m-j) (by omega)
  rw[show j+(m-j)=m by omega] at this
  exact Int.le_trans this (yM sa h4 h5)
 unfold GL
 rw[Array.toList_append]
 exact this
theorem GL.fin (h:GL r a b o i j)(e:i=a.size∨j=b.size):Mo r (a.toList++b.toList) (o++a.extract i a.size++b.extract j b.size):=by
 refine⟨?_,?_⟩ <;> rw[Array.toList_append,Array.toList_append,pW,pW]
 ·exact h.pm
 ·rcases e with rfl|rfl
  ·rw[List.drop_of_length_le (by simp),List.append_nil];exact h.p2
  ·rw[List.drop_of_length_le (l:=b.toList) (by simp),List.append_nil];exact h.p1
theorem GL.last (h:GL r a b o i j)(e:i+1=a.size)(l:∀ x∈b.toList,Le r x (a.getD (a.size-1) nv)):Mo r (a.toList++b.toList) (o++b.extract j b.size++a.extract i a.size):=by
 have hi:i<a.size:=by omega
 have hd:a.toList.drop i=[a.getD i nv]:=by rw[tN hi,List.drop_of_length_le (by simp;omega)]
 refine⟨?_,?_⟩ <;> rw[Array.toList_append,Array.toList_append,pW,pW]
 ·refine List.Perm.trans ?_ h.pm
  rw[List.append_assoc,List.append_assoc]
  exact List.Perm.append_left _ List.perm_append_comm
 ·have p1:=h.p1
  rw[hd] at p1 ⊢
  rw[List.pairwise_append] at p1 ⊢
  refine⟨h.p2,List.pairwise_singleton _ _,fun x hx y hy=>?_⟩
  rcases List.mem_append.mp hx with hx|hx
  ·exact p1.2.2 x hx y hy
  ·cases List.mem_singleton.mp hy
   have:=l x (List.mem_of_mem_drop hx)
   rw[show a.size-1=i by omega] at this
   exact this
end
end _S
end
section
namespace _S
open PySem PySem.W PyProof.Rows
theorem dX {p:Nat→Bool}:∀ (n:Nat),(∀ i j,i≤j→j<n→p j=true→p i=true)→∃ c,c≤n∧∀ i,i<n→p i=decide (i<c)
 |0,_=>⟨0,Nat.le_refl _,fun i h=>by omega⟩
 |n+1,h=>by
  obtain⟨c,hc,e⟩:=dX n fun i j a b=>h i j a (by omega)
  by_cases q:p n=true
  ·refine⟨n+1,Nat.le_refl _,fun i hi=>?_⟩
   rw[h i n (by omega) (by omega) q]
   simp[hi]
  ·refine⟨c,by omega,fun i hi=>?_⟩
   rcases Nat.lt_or_ge i n with l|l
   ·exact e i l
   ·have:i=n:=by omega
    subst this
    have:¬ i<c:=by omega
    simp[this,q]
section
variable {M:Model}{A:Around}{E:Value→Shared→Prop}{s:Shared}{κ : SortKind}{U:Keyed→Prop}{r:Keyed→Int}
theorem qL {σ α:Type}{c:Prop}[Decidable c]{x y:StateT σ Sem α}{Q:α→σ→Prop}{st:σ}(h1:c→wpS M A E s x Q st)(h2:¬ c→wpS M A E s y Q st):wpS M A E s (if c then x else y) Q st:=by
 by_cases h:c
 ·rw[if_pos h];exact h1 h
 ·rw[if_neg h];exact h2 h
theorem XQ (C:Cm M A s κ U r){key:Keyed}{arr:Array Keyed}{base n hint:Nat}{Q:Option Nat→SortSt→Prop}{st:SortSt}(hk:kindOf st=κ)(hh:hint<n)(hb:base+n≤arr.size)(hU:∀ i,i<n→U (arr.getD (base+i) nv))(hkU:U key)
  (sa:∀ i j,i≤j→j<n→r (arr.getD (base+i) nv)≤r (arr.getD (base+j) nv)) (h:∀ c,c≤n→(∀ i,i<c→r (arr.getD (base+i) nv)≤r key)→(∀ i,c≤i→i<n→r key<r (arr.getD (base+i) nv))→Q (some c) st):wpS M A E s (tV false key arr base n hint) Q st:=by
 obtain⟨c,hc,e⟩:=dX (p:=fun i=>!decide (r key<r (arr.getD (base+i) nv))) n fun i j a b q=>by
  have:=sa i j a b
  simp only[Bool.not_eq_true',decide_eq_false_iff_not] at q ⊢
  omega
 refine t8 C hk hh hb hU hkU hc (fun i hi=>by simpa using e i hi) (h c hc (fun i hi=>?_) fun i hi hn=>?_)
 ·have:=e i (by omega)
  simp only[hi,decide_true,Bool.not_eq_true',decide_eq_false_iff_not] at this
  omega
 ·have:=e i hn
  simp only[show ¬ i<c by omega,decide_false,Bool.not_eq_false',decide_eq_true_eq] at this
  exact this
theorem XR (C:Cm M A s κ U r){key:Keyed}{arr:Array Keyed}{base n hint:Nat}{Q:Option Nat→SortSt→Prop}{st:SortSt}(hk:kindOf st=κ)(hh:hint<n)(hb:base+n≤arr.size)(hU:∀ i,i<n→U (arr.getD (base+i) nv))(hkU:U key)
  (sa:∀ i j,i≤j→j<n→r (arr.getD (base+i) nv)≤r (arr.getD (base+j) nv)) (h:∀ c,c≤n→(∀ i,i<c→r (arr.getD (base+i) nv)<r key)→(∀ i,c≤i→i<n→r key≤r (arr.getD (base+i) nv))→Q (some c) st):wpS M A E s (tV true key arr base n hint) Q st:=by
 obtain⟨c,hc,e⟩:=dX (p:=fun i=>decide (r (arr.getD (base+i) nv)<r key)) n fun i j a b q=>by
  have:=sa i j a b
  simp only[decide_eq_true_eq] at q ⊢
  omega
 refine t8 C hk hh hb hU hkU hc (fun i hi=>by simpa using e i hi) (h c hc (fun i hi=>?_) fun i hi hn=>?_)
 ·have:=e i (by omega)
  simp only[hi,decide_true,decide_eq_true_eq] at this
  exact this
 ·have:=e i hn
  simp only[show ¬ i<c by omega,decide_false,decide_eq_false_iff_not] at this
  omega
end
section
variable {prog:Program}{w:World}{A:Around}{E:Value→Shared→Prop}{s:Shared}{κ : SortKind}{U:Keyed→Prop}{r:Keyed→Int}
theorem eF (C:Cm (model prog w) A s κ U r){a b:Array Keyed}{Q:Array Keyed→SortSt→Prop}{st:SortSt}(hk:kindOf st=κ)(ua:∀ x∈a.toList,U x)(ub:∀ x∈b.toList,U x)(sa:a.toList.Pairwise (Le r))(sb:b.toList.Pairwise (Le r))
  (h:∀ m g,Mo r (a.toList++b.toList) m→Q m (vQ st g)) (ha:0<a.size) (hb:0<b.size) (h0:r (b.getD 0 nv)≤r (a.getD 0 nv)) (h1:∀ x∈b.toList,Le r x (a.getD (a.size-1) nv)):wpS (model prog w) A E s (W5 a b) Q st:=by
 have G0:GL r a b #[] 0 0:=⟨by simpa using sa,by simpa using sb,by simp⟩
 have G1:=G0.pb sa hb fun _=>h0
 refine wpS_bind (wpS_lift (wpAny_rule ⟨rfl,?_⟩))
 refine wpS_bind (zB hb ?_)
 dsimp only
 refine qL (fun e=>wpS_pure (h _ (gallopOf st) (G1.fin (.inr (by simpa using e))))) fun e1=>?_
 refine qL (fun e=>wpS_pure (h _ (gallopOf st) (G1.last (by simpa using e) h1))) fun e2=>?_
 have e1:1<b.size:=by
  have:¬ 1=b.size:=by simpa using e1
  omega
 have e2:0+1<a.size:=by
  have:¬ 0+1=a.size:=by simpa using e2
  omega
 refine wpS_bind (wpS_get ?_)
 refine wpS_bind (wpS_mono (wpS_forRange (I:=fun x c st'=>(∃ g,st'=vQ st g)∧∃ o i j g,c=(none,o,i,j,g)∧GL r a b o i j∧i+1<a.size∧j<b.size∧x<i+j)
  (Q:=fun c st'=>(∃ g,st'=vQ st g)∧∃ m,c.1=some m∧Mo r (a.toList++b.toList) m) ?_ ?_ ⟨⟨gallopOf st,rfl⟩,_,0,1,_,rfl,G1,e2,e1,by omega⟩) ?_)
 ·rintro x c st' _ hx ⟨⟨g,rfl⟩,o,i,j,mg,rfl,G,hi,hj,hp⟩
  dsimp only
  refine wpS_bind (wpS_mono (wpS_forRange (I:=fun y c st'=>(∃ g,st'=vQ st g)∧∃ o i' j' p q,c=(none,o,i',j',p,q)∧GL r a b o i' j'∧i'+1<a.size∧j'<b.size∧i+j+y≤i'+j')
   (Q:=fun c st'=>(∃ g,st'=vQ st g)∧((∃ m,c.1=some m∧Mo r (a.toList++b.toList) m)∨∃ o i' j' p q,c=(none,o,i',j',p,q)∧GL r a b o i' j'∧i'+1<a.size∧j'<b.size∧x+1<i'+j')) ?_ ?_ ⟨⟨g,rfl⟩,o,i,j,0,0,rfl,G,hi,hj,by omega⟩) ?_)
  ·rintro y c st' _ hy ⟨⟨g,rfl⟩,o,i',j',p,q,rfl,G,hi,hj,hq⟩
   dsimp only
   refine wpS_bind (zB hj (wpS_bind (zB (i:=i') (by omega) (wpS_bind (C.lt (ub _ (zQ hj)) (ua _ (zQ (i:=i') (by omega))) hk ?_)))))
   dsimp only
   refine qL (fun l=>?_) fun l=>?_
   ·have l:r (b.getD j' nv)<r (a.getD i' nv):=by simpa using l
    have G2:=G.pb sa hj fun _=>Int.le_of_lt l
    refine wpS_bind (zB hj ?_)
    refine qL (fun e=>?_) fun e=>?_
    ·exact wpS_pure ⟨⟨g,rfl⟩,.inl ⟨_,rfl,G2.fin (.inr (by simpa using e))⟩⟩
    ·have e:¬ j'+1=b.size:=by simpa using e
     refine qL (fun _=>?_) fun _=>?_
     ·exact wpS_pure ⟨⟨g,rfl⟩,.inr ⟨_,_,_,_,_,rfl,G2,hi,by omega,by omega⟩⟩
     ·exact wpS_pure ⟨⟨g,rfl⟩,_,_,_,_,_,rfl,G2,hi,by omega,by omega⟩
   ·have l:¬ r (b.getD j' nv)<r (a.getD i' nv):=by simpa using l
    have G2:=G.pa sb (by omega) fun _=>Int.not_lt.mp l
    refine wpS_bind (zB (i:=i') (by omega) ?_)
    refine qL (fun e=>?_) fun e=>?_
    ·exact wpS_pure ⟨⟨g,rfl⟩,.inl ⟨_,rfl,G2.last (by simpa using e) h1⟩⟩
    ·have e:¬ i'+1+1=a.size:=by simpa using e
     refine qL (fun _=>?_) fun _=>?_
     ·exact wpS_pure ⟨⟨g,rfl⟩,.inr ⟨_,_,_,_,_,rfl,G2,by omega,hj,by omega⟩⟩
     ·exact wpS_pure ⟨⟨g,rfl⟩,_,_,_,_,_,rfl,G2,by omega,hj,by omega⟩
  ·rintro c st' ⟨z,o,i',j',p,q,rfl,G,hi,hj,hq⟩
   exact⟨z,.inr ⟨_,_,_,_,_,rfl,G,hi,hj,by omega⟩⟩
  ·rintro c st' ⟨⟨g,rfl⟩,⟨m,hc,hm⟩|⟨o,i',j',p,q,rfl,G,hi,hj,hq⟩⟩
   ·obtain⟨c0,c1⟩:=c
    cases hc
    exact wpS_pure ⟨⟨g,rfl⟩,m,rfl,hm⟩
   dsimp only
   refine wpS_bind (wpS_lift (wpAny_rule ⟨rfl,?_⟩))
   refine wpS_bind (wpS_mono (wpS_forRange (I:=fun y c st'=>(∃ g,st'=vQ st g)∧∃ o i' j' p q t,c=(none,o,i',j',p,q,t)∧GL r a b o i' j'∧i'+1<a.size∧j'<b.size∧x+1<i'+j')
    (Q:=fun c st'=>(∃ g,st'=vQ st g)∧((∃ m,c.1=some m∧Mo r (a.toList++b.toList) m)∨∃ o i' j' p q t,c=(none,o,i',j',p,q,t)∧GL r a b o i' j'∧i'+1<a.size∧j'<b.size∧x+1<i'+j')) ?_ ?_ ⟨⟨g,rfl⟩,o,i',j',_,_,_,rfl,G,hi,hj,hq⟩) ?_)
   ·rintro y c st' _ hy ⟨⟨g,rfl⟩,o,i,j,p,q,t,rfl,G,hi,hj,hq⟩
    dsimp only
    refine qL (fun _=>?_) fun _=>?_
    all_goals
     refine wpS_bind (wpS_modify ?_)
     refine wpS_bind (zB hj ?_)
     refine wpS_bind (XQ C hk (by omega) (by omega) (fun i hi=>ua _ (zQ (by omega))) (ub _ (zQ hj)) (fun i j a b=>yM sa (by omega) (by omega)) fun k k1 k2 k3=>?_)
     dsimp only
     apply qL
     case' h1 =>
      intro kp
      have G2:=G.ea sb hj k2
      refine qL (fun e=>wpS_pure ⟨⟨_,rfl⟩,.inl ⟨_,rfl,G2.last (by simpa using e) h1⟩⟩) fun e3=>?_
      refine qL (fun e=>wpS_pure ⟨⟨_,rfl⟩,.inl ⟨_,rfl,G2.fin (.inl (by simpa using e))⟩⟩) fun e4=>?_
      have e3:¬ i+k+1=a.size:=by simpa using e3
      have e4:¬ i+k=a.size:=by simpa using e4
      have hl:i+k+1<a.size:=by omega
      have hc:=k3 k (Nat.le_refl _) (by omega)
      have hq:x+1<i+k+j:=by omega
     case' h2 =>
      intro kp
      have G2:=G
      have hl:=hi
      have hc:r (b.getD j nv)<r (a.getD i nv):=k3 0 (by omega) (by omega)
     all_goals
      refine wpS_bind (zB hj ?_)
      have G3:=G2.pb sa hj fun _=>Int.le_of_lt hc
      refine qL (fun e=>wpS_pure ⟨⟨_,rfl⟩,.inl ⟨_,rfl,G3.fin (.inr (by simpa using e))⟩⟩) fun e5=>?_
      have e5:¬ j+1=b.size:=by simpa using e5
      refine wpS_bind (zB (Nat.lt_of_succ_lt hl) ?_)
      refine wpS_bind (XR C hk (by omega) (by omega) (fun i hi=>ub _ (zQ (by omega))) (ua _ (zQ (Nat.lt_of_succ_lt hl))) (fun i j a b=>yM sb (by omega) (by omega)) fun m m1 m2 m3=>?_)
      dsimp only
      apply qL
      case' h1 =>
       intro mp
       have G4:=G3.eb sa (Nat.lt_of_succ_lt hl) fun i hi=>Int.le_of_lt (m2 i hi)
       refine qL (fun e=>wpS_pure ⟨⟨_,rfl⟩,.inl ⟨_,rfl,G4.fin (.inr (by simpa using e))⟩⟩) fun e6=>?_
       have e6:¬ j+1+m=b.size:=by simpa using e6
       have hj4:j+1+m<b.size:=by omega
       have hc4:=m3 m (Nat.le_refl _) (by omega)
      case' h2 =>
       intro mp
       have G4:=G3
       have hj4:j+1<b.size:=by omega
       have hc4:=m3 0 (by omega) (by omega)
      all_goals
       refine wpS_bind (zB (Nat.lt_of_succ_lt hl) ?_)
       have G5:=G4.pa sb (Nat.lt_of_succ_lt hl) fun _=>hc4
       refine qL (fun e=>wpS_pure ⟨⟨_,rfl⟩,.inl ⟨_,rfl,G5.last (by simpa using e) h1⟩⟩) fun e7=>?_
       simp only[beq_iff_eq] at e7
       exact qL (fun _=>wpS_pure ⟨⟨_,rfl⟩,.inr ⟨_,_,_,_,_,_,rfl,G5,by omega,by omega,by omega⟩⟩) fun _=>wpS_pure ⟨⟨_,rfl⟩,_,_,_,_,_,_,rfl,G5,by omega,by omega,by omega⟩
   ·rintro c st' ⟨z,o,i',j',p,q,t,rfl,G,hi,hj,hq⟩
    exact⟨z,.inr ⟨_,_,_,_,_,_,rfl,G,hi,hj,by omega⟩⟩
   ·rintro c st' ⟨⟨g,rfl⟩,⟨m,hc,hm⟩|⟨o,i',j',p,q,t,rfl,G,hi,hj,hq⟩⟩
    ·obtain⟨c0,c1⟩:=c
     cases hc
     exact wpS_pure ⟨⟨g,rfl⟩,m,rfl,hm⟩
    dsimp only
    refine wpS_bind (wpS_modify ?_)
    exact wpS_pure ⟨⟨_,rfl⟩,_,_,_,_,rfl,G,hi,hj,by omega⟩
 ·rintro c st' ⟨z,o,i',j',p,rfl,G,hi,hj,hq⟩
  exfalso
  omega
 ·rintro c st' ⟨⟨g,rfl⟩,m,hc,hm⟩
  obtain⟨c0,c1⟩:=c
  cases hc
  exact wpS_pure (h m g hm)
end
end _S
end
section
namespace _S
open PySem PySem.W PyProof.Rows
theorem nR {a:Array Keyed}{n:Nat}(h:0<n)(hn:n≤a.size):a.toList.take n=a.toList.take (n-1)++[a.getD (n-1) nv]:=by
 obtain⟨m,rfl⟩:∃ m,n=m+1:=⟨n-1,by omega⟩
 rw[Nat.add_sub_cancel,List.take_add_one]
 have hm:m<a.size:=by omega
 simp[Array.getD,hm]
theorem sC {a:Array Keyed}{i n:Nat}(h:i≤n):a.toList.take i++(a.extract i n).toList=a.toList.take n:=by
 rw[Array.toList_extract,List.extract_eq_take_drop]
 conv=>rhs;rw[show n=i+(n-i) by omega,List.take_add]
theorem kZ {a:Array Keyed}{n:Nat}:(a.extract 0 n).toList=a.toList.take n:=by
 rw[Array.toList_extract,List.extract_eq_take_drop]
 simp
theorem gI {a:Array Keyed}{i n:Nat}{x:Keyed}(hn:i≤n)(h:x∈(a.extract i n).toList):∃ j,i≤j∧j<n∧j<a.size∧x=a.getD j nv:=by
 obtain⟨k,rfl⟩:∃ k,n=i+k:=⟨n-i,by omega⟩
 exact nD h
def GH (r:Keyed→Int)(a b o:Array Keyed)(i j:Nat):Prop:=Mh r (a.toList.take i) (b.toList.take j) o.toList.reverse (a.toList++b.toList)
section
variable {r:Keyed→Int}{a b o:Array Keyed}{i j k:Nat}
theorem GH.pa (sb:b.toList.Pairwise (Le r))(h:GH r a b o i j)(h1:0<i)(h2:i≤a.size)(hj:j≤b.size)(l:0<j→r (b.getD (j-1) nv)≤r (a.getD (i-1) nv)):GH r a b (o.push (a.getD (i-1) nv)) (i-1) j:=by
 have h':Mh r (a.toList.take (i-1)++[a.getD (i-1) nv]) (b.toList.take j) o.toList.reverse (a.toList++b.toList):=by rw[← nR h1 h2];exact h
 have:=h'.a fun x hx y hy=>by
  cases List.mem_singleton.mp hy
  obtain⟨m,q1,q2,rfl⟩:=gJ hx
  exact Int.le_trans (yM sb (by omega) (by omega)) (l (by omega))
 unfold GH
 rw[Array.toList_push,List.reverse_append]
 exact this
theorem GH.pb (sa:a.toList.Pairwise (Le r))(h:GH r a b o i j)(h1:0<j)(h2:j≤b.size)(hi:i≤a.size)(l:0<i→r (a.getD (i-1) nv)≤r (b.getD (j-1) nv)):GH r a b (o.push (b.getD (j-1) nv)) i (j-1):=by
 have h':Mh r (a.toList.take i) (b.toList.take (j-1)++[b.getD (j-1) nv]) o.toList.reverse (a.toList++b.toList):=by rw[← nR h1 h2];exact h
 have:=h'.b fun x hx y hy=>by
  cases List.mem_singleton.mp hy
  obtain⟨m,q1,q2,rfl⟩:=gJ hx
  exact Int.le_trans (yM sa (by omega) (by omega)) (l (by omega))
 unfold GH
 rw[Array.toList_push,List.reverse_append]
 exact this
theorem GH.ea (sb:b.toList.Pairwise (Le r))(h:GH r a b o i j)(hk:k≤i)(hj:j≤b.size)(l:0<j→∀ m,k≤m→m<i→m<a.size→r (b.getD (j-1) nv)≤r (a.getD m nv)):GH r a b (o++(a.extract k i).reverse) k j:=by
 have h':Mh r (a.toList.take k++(a.extract k i).toList) (b.toList.take j) o.toList.reverse (a.toList++b.toList):=by rw[sC hk];exact h
 have:=h'.a fun x hx y hy=>by
  obtain⟨m,q1,q2,rfl⟩:=gJ hx
  obtain⟨m',q3,q4,q5,rfl⟩:=gI hk hy
  exact Int.le_trans (yM sb (by omega) (by omega)) (l (by omega) m' q3 q4 q5)
 unfold GH
 rw[Array.toList_append,Array.toList_reverse,List.reverse_append,List.reverse_reverse]
 exact this
theorem GH.eb (sa:a.toList.Pairwise (Le r))(h:GH r a b o i j)(hk:k≤j)(hi:i≤a.size)(l:0<i→∀ m,k≤m→m<j→m<b.size→r (a.getD (i-1) nv)≤r (b.getD m nv)):GH r a b (o++(b.extract k j).reverse) i k:=by
 have h':Mh r (a.toList.take i) (b.toList.take k++(b.extract k j).toList) o.toList.reverse (a.toList++b.toList):=by rw[sC hk];exact h
 have:=h'.b fun x hx y hy=>by
  obtain⟨m,q1,q2,rfl⟩:=gJ hx
  obtain⟨m',q3,q4,q5,rfl⟩:=gI hk hy
  exact Int.le_trans (yM sa (by omega) (by omega)) (l (by omega) m' q3 q4 q5)
 unfold GH
 rw[Array.toList_append,Array.toList_reverse,List.reverse_append,List.reverse_reverse]
 exact this
theorem GH.fin (h:GH r a b o i j)(e:i=0∨j=0):Mo r (a.toList++b.toList) (a.extract 0 i++b.extract 0 j++o.reverse):=by
 refine⟨?_,?_⟩ <;> rw[Array.toList_append,Array.toList_append,kZ,kZ,Array.toList_reverse]
 ·exact h.pm
 ·rcases e with rfl|rfl
  ·rw[List.take_zero,List.nil_append];exact h.p2
  ·rw[List.take_zero,List.append_nil];exact h.p1
theorem GH.first (h:GH r a b o i j)(e:j=1)(hb:0<b.size)(l:∀ x∈a.toList,Le r (b.getD 0 nv) x):Mo r (a.toList++b.toList) (b.extract 0 j++a.extract 0 i++o.reverse):=by
 subst e
 have hd:b.toList.take 1=[b.getD 0 nv]:=by rw[nR (by omega) (by omega)];rfl
 refine⟨?_,?_⟩ <;> rw[Array.toList_append,Array.toList_append,kZ,kZ,Array.toList_reverse]
 ·refine List.Perm.trans ?_ h.pm
  exact List.Perm.append_right _ List.perm_append_comm
 ·have p2:=h.p2
  rw[hd] at p2 ⊢
  rw[List.append_assoc]
  rw[List.pairwise_append] at p2 ⊢
  refine⟨p2.1,h.p1,fun x hx y hy=>?_⟩
  rcases List.mem_append.mp hy with hy|hy
  ·cases List.mem_singleton.mp hx
   exact l y (List.mem_of_mem_take hy)
  ·exact p2.2.2 x hx y hy
end
section
variable {prog:Program}{w:World}{A:Around}{E:Value→Shared→Prop}{s:Shared}{κ : SortKind}{U:Keyed→Prop}{r:Keyed→Int}
theorem eE (C:Cm (model prog w) A s κ U r){a b:Array Keyed}{Q:Array Keyed→SortSt→Prop}{st:SortSt}(hk:kindOf st=κ)(ua:∀ x∈a.toList,U x)(ub:∀ x∈b.toList,U x)(sa:a.toList.Pairwise (Le r))(sb:b.toList.Pairwise (Le r))
  (h:∀ m g,Mo r (a.toList++b.toList) m→Q m (vQ st g)) (ha:0<a.size) (hb:0<b.size) (h0:∀ x∈a.toList,Le r (b.getD 0 nv) x) (h1:r (b.getD (b.size-1) nv)≤r (a.getD (a.size-1) nv)):wpS (model prog w) A E s (W4 a b) Q st:=by
 have G0:GH r a b #[] a.size b.size:=by
  unfold GH
  rw[List.take_of_length_le (by simp),List.take_of_length_le (by simp)]
  exact⟨by simpa using sa,by simpa using sb,by simp⟩
 have G1:=G0.pa sb ha (Nat.le_refl _) (Nat.le_refl _) fun _=>h1
 refine wpS_bind (wpS_lift (wpAny_rule ⟨rfl,?_⟩))
 refine wpS_bind (zB (i:=a.size-1) (by omega) ?_)
 dsimp only
 refine qL (fun e=>wpS_pure (h _ (gallopOf st) (G1.fin (.inl (by simpa using e))))) fun e1=>?_
 refine qL (fun e=>wpS_pure (h _ (gallopOf st) (G1.first (by simpa using e) hb h0))) fun e2=>?_
 have e1:¬ a.size-1=0:=by simpa using e1
 have e2:¬ b.size=1:=by simpa using e2
 refine wpS_bind (wpS_get ?_)
 refine wpS_bind (wpS_mono (wpS_forRange (I:=fun x c st'=>(∃ g,st'=vQ st g)∧∃ o i j g,c=(none,i,j,o,g)∧GH r a b o i j∧0<i∧i≤a.size∧1<j∧j≤b.size∧x+i+j<a.size+b.size)
  (Q:=fun c st'=>(∃ g,st'=vQ st g)∧∃ m,c.1=some m∧Mo r (a.toList++b.toList) m) ?_ ?_ ⟨⟨gallopOf st,rfl⟩,_,a.size-1,b.size,_,rfl,G1,by omega,by omega,by omega,by omega,by omega⟩) ?_)
 ·rintro x c st' _ hx ⟨⟨g,rfl⟩,o,i,j,mg,rfl,G,hi,hi2,hj,hj2,hp⟩
  dsimp only
  refine wpS_bind (wpS_mono (wpS_forRange (I:=fun y c st'=>(∃ g,st'=vQ st g)∧∃ o i' j' p q,c=(none,i',j',o,p,q)∧GH r a b o i' j'∧0<i'∧i'≤a.size∧1<j'∧j'≤b.size∧i'+j'+y≤i+j)
   (Q:=fun c st'=>(∃ g,st'=vQ st g)∧((∃ m,c.1=some m∧Mo r (a.toList++b.toList) m)∨∃ o i' j' p q,c=(none,i',j',o,p,q)∧GH r a b o i' j'∧0<i'∧i'≤a.size∧1<j'∧j'≤b.size∧x+1+i'+j'<a.size+b.size)) ?_ ?_ ⟨⟨g,rfl⟩,o,i,j,0,0,rfl,G,hi,hi2,hj,hj2,by omega⟩) ?_)
  ·rintro y c st' _ hy ⟨⟨g,rfl⟩,o,i',j',p,q,rfl,G,hi,hi2,hj,hj2,hq⟩
   dsimp only
   refine wpS_bind (zB (i:=j'-1) (by omega) (wpS_bind (zB (i:=i'-1) (by omega) (wpS_bind (C.lt (ub _ (zQ (i:=j'-1) (by omega))) (ua _ (zQ (i:=i'-1) (by omega))) hk ?_)))))
   dsimp only
   refine qL (fun l=>?_) fun l=>?_
   ·have l:r (b.getD (j'-1) nv)<r (a.getD (i'-1) nv):=by simpa using l
    have G2:=G.pa sb hi hi2 hj2 fun _=>Int.le_of_lt l
    refine wpS_bind (zB (i:=i'-1) (by omega) ?_)
    refine qL (fun e=>wpS_pure ⟨⟨g,rfl⟩,.inl ⟨_,rfl,G2.fin (.inl (by simpa using e))⟩⟩) fun e=>?_
    have e:¬ i'-1=0:=by simpa using e
    exact qL (fun _=>wpS_pure ⟨⟨g,rfl⟩,.inr ⟨_,_,_,_,_,rfl,G2,by omega,by omega,hj,hj2,by omega⟩⟩) fun _=>wpS_pure ⟨⟨g,rfl⟩,_,_,_,_,_,rfl,G2,by omega,by omega,hj,hj2,by omega⟩
   ·have l:¬ r (b.getD (j'-1) nv)<r (a.getD (i'-1) nv):=by simpa using l
    have G2:=G.pb sa (by omega) hj2 hi2 fun _=>Int.not_lt.mp l
    refine wpS_bind (zB (i:=j'-1) (by omega) ?_)
    refine qL (fun e=>wpS_pure ⟨⟨g,rfl⟩,.inl ⟨_,rfl,G2.first (by simpa using e) hb h0⟩⟩) fun e=>?_
    have e:¬ j'-1=1:=by simpa using e
    exact qL (fun _=>wpS_pure ⟨⟨g,rfl⟩,.inr ⟨_,_,_,_,_,rfl,G2,hi,hi2,by omega,by omega,by omega⟩⟩) fun _=>wpS_pure ⟨⟨g,rfl⟩,_,_,_,_,_,rfl,G2,hi,hi2,by omega,by omega,by omega⟩
  ·rintro c st' ⟨z,o,i',j',p,q,rfl,G,hi,hi2,hj,hj2,hq⟩
   exact⟨z,.inr ⟨_,_,_,_,_,rfl,G,hi,hi2,hj,hj2,by omega⟩⟩
  ·rintro c st' ⟨⟨g,rfl⟩,⟨m,hc,hm⟩|⟨o,i',j',p,q,rfl,G,hi,hi2,hj,hj2,hq⟩⟩
   ·obtain⟨c0,c1⟩:=c
    cases hc
    exact wpS_pure ⟨⟨g,rfl⟩,m,rfl,hm⟩
   dsimp only
   refine wpS_bind (wpS_lift (wpAny_rule ⟨rfl,?_⟩))
   refine wpS_bind (wpS_mono (wpS_forRange (I:=fun y c st'=>(∃ g,st'=vQ st g)∧∃ o i' j' p q t,c=(none,i',j',o,p,q,t)∧GH r a b o i' j'∧0<i'∧i'≤a.size∧1<j'∧j'≤b.size∧x+1+i'+j'<a.size+b.size)
    (Q:=fun c st'=>(∃ g,st'=vQ st g)∧((∃ m,c.1=some m∧Mo r (a.toList++b.toList) m)∨∃ o i' j' p q t,c=(none,i',j',o,p,q,t)∧GH r a b o i' j'∧0<i'∧i'≤a.size∧1<j'∧j'≤b.size∧x+1+i'+j'<a.size+b.size)) ?_ ?_ ⟨⟨g,rfl⟩,o,i',j',_,_,_,rfl,G,hi,hi2,hj,hj2,hq⟩) ?_)
   ·rintro y c st' _ hy ⟨⟨g,rfl⟩,o,i,j,p,q,t,rfl,G,hi,hi2,hj,hj2,hq⟩
    dsimp only
    refine qL (fun _=>?_) fun _=>?_
    all_goals
     refine wpS_bind (wpS_modify ?_)
     refine wpS_bind (zB (i:=j-1) (by omega) ?_)
     refine wpS_bind (XQ C hk (by omega) (by omega) (fun i hi=>ua _ (zQ (by omega))) (ub _ (zQ (i:=j-1) (by omega))) (fun i j a b=>yM sa (by omega) (by omega)) fun k k1 k2 k3=>?_)
     simp only[Nat.zero_add] at k2 k3
     dsimp only
     apply qL
     case' h1 =>
      intro kp
      have G2:=G.ea sb k1 hj2 fun _ m q1 q2 _=>Int.le_of_lt (k3 m q1 q2)
      refine qL (fun e=>wpS_pure ⟨⟨_,rfl⟩,.inl ⟨_,rfl,G2.fin (.inl (by simpa using e))⟩⟩) fun e3=>?_
      have e3:¬ k=0:=by simpa using e3
      have hl:0<k:=by omega
      have hl2:k≤a.size:=by omega
      have hc:=k2 (k-1) (by omega)
      have hq:x+1+k+j<a.size+b.size:=by omega
     case' h2 =>
      intro kp
      have G2:=G
      have hl:=hi
      have hl2:=hi2
      have hc:=k2 (i-1) (by omega)
     all_goals
      refine wpS_bind (zB (i:=j-1) (by omega) ?_)
      have G3:=G2.pb sa (by omega) hj2 hl2 fun _=>hc
      refine qL (fun e=>wpS_pure ⟨⟨_,rfl⟩,.inl ⟨_,rfl,G3.first (by simpa using e) hb h0⟩⟩) fun e5=>?_
      have e5:¬ j-1=1:=by simpa using e5
      refine wpS_bind (zB (Nat.lt_of_lt_of_le (Nat.sub_lt hl Nat.one_pos) hl2) ?_)
      refine wpS_bind (XR C hk (by omega) (by omega) (fun i hi=>ub _ (zQ (by omega))) (ua _ (zQ (Nat.lt_of_lt_of_le (Nat.sub_lt hl Nat.one_pos) hl2))) (fun i j a b=>yM sb (by omega) (by omega)) fun m m1 m2 m3=>?_)
      simp only[Nat.zero_add] at m2 m3
      dsimp only
      apply qL
      case' h1 =>
       intro mp
       have G4:=G3.eb sa m1 hl2 fun _ m q1 q2 _=>m3 m q1 q2
       refine qL (fun e=>wpS_pure ⟨⟨_,rfl⟩,.inl ⟨_,rfl,G4.first (by simpa using e) hb h0⟩⟩) fun e6=>?_
       refine qL (fun e=>wpS_pure ⟨⟨_,rfl⟩,.inl ⟨_,rfl,G4.fin (.inr (by simpa using e))⟩⟩) fun e7=>?_
       have e6:¬ m=1:=by simpa using e6
       have e7:¬ m=0:=by simpa using e7
       have hj4:1<m:=by omega
       have hj5:m≤b.size:=by omega
       have hc4:=Int.le_of_lt (m2 (m-1) (by omega))
      case' h2 =>
       intro mp
       have G4:=G3
       have hj4:1<j-1:=by omega
       have hj5:j-1≤b.size:=by omega
       have hc4:=Int.le_of_lt (m2 (j-1-1) (by omega))
      all_goals
       refine wpS_bind (zB (Nat.lt_of_lt_of_le (Nat.sub_lt hl Nat.one_pos) hl2) ?_)
       have G5:=G4.pa sb hl hl2 hj5 fun _=>hc4
       refine qL (fun e=>wpS_pure ⟨⟨_,rfl⟩,.inl ⟨_,rfl,G5.fin (.inl (by simpa using e))⟩⟩) fun e7=>?_
       simp only[beq_iff_eq] at e7
       exact qL (fun _=>wpS_pure ⟨⟨_,rfl⟩,.inr ⟨_,_,_,_,_,_,rfl,G5,by omega,by omega,by omega,by omega,by omega⟩⟩) fun _=>wpS_pure ⟨⟨_,rfl⟩,_,_,_,_,_,_,rfl,G5,by omega,by omega,by omega,by omega,by omega⟩
   ·rintro c st' ⟨z,o,i',j',p,q,t,rfl,G,hi,hi2,hj,hj2,hq⟩
    exact⟨z,.inr ⟨_,_,_,_,_,_,rfl,G,hi,hi2,hj,hj2,by omega⟩⟩
   ·rintro c st' ⟨⟨g,rfl⟩,⟨m,hc,hm⟩|⟨o,i',j',p,q,t,rfl,G,hi,hi2,hj,hj2,hq⟩⟩
    ·obtain⟨c0,c1⟩:=c
     cases hc
     exact wpS_pure ⟨⟨g,rfl⟩,m,rfl,hm⟩
    dsimp only
    refine wpS_bind (wpS_modify ?_)
    exact wpS_pure ⟨⟨_,rfl⟩,_,_,_,_,rfl,G,hi,hi2,hj,hj2,by omega⟩
 ·rintro c st' ⟨z,o,i',j',p,rfl,G,hi,hi2,hj,hj2,hq⟩
  exfalso
  omega
 ·rintro c st' ⟨⟨g,rfl⟩,m,hc,hm⟩
  obtain⟨c0,c1⟩:=c
  cases hc
  exact wpS_pure (h m g hm)
end
end _S
end
section
namespace _S
open PySem PySem.W PyProof.Rows
theorem iU:∀ (l:List Keyed) (arr:Array Keyed) (o d:Nat),o+d+l.length≤arr.size→∀ k,((l.zipIdx d).foldl (fun a p=>a.setIfInBounds (o+p.2) p.1) arr)[k]? = if o+d≤k∧k<o+d+l.length then l[k-(o+d)]? else arr[k]?
 |[],arr,o,d,h,k=>by
  rw[if_neg (by simp only[List.length_nil];omega)];rfl
 |x::l,arr,o,d,h,k=>by
  rw[List.length_cons] at h
  rw[List.zipIdx_cons,List.foldl_cons,iU l _ o (d+1) (by rw[Array.size_setIfInBounds];omega) k,List.length_cons]
  by_cases h1:k=o+d
  ·subst h1
   rw[if_neg (by omega),if_pos (by omega),Nat.sub_self,Array.getElem?_setIfInBounds_self_of_lt (by omega)]
   rfl
  ·by_cases h2:o+(d+1)≤k∧k<o+(d+1)+l.length
   ·rw[if_pos h2,if_pos (by omega),show k-(o+d)=(k-(o+(d+1)))+1 by omega,List.getElem?_cons_succ]
   ·rw[if_neg h2,if_neg (by omega),Array.getElem?_setIfInBounds_ne (by omega)]
def wb (arr:Array Keyed)(o:Nat)(m:Array Keyed):Array Keyed:=m.toList.zipIdx.foldl (fun a p=>a.setIfInBounds (o+p.2) p.1) arr
theorem KP {arr m:Array Keyed}{o:Nat}(h:o+m.size≤arr.size)(k:Nat):(wb arr o m).getD k nv=if o≤k∧k<o+m.size then m.getD (k-o) nv else arr.getD k nv:=by
 have e:=iU m.toList arr o 0 (by simpa using h) k
 simp only[Nat.add_zero,Array.length_toList,Array.getElem?_toList] at e
 rw[Array.getD_eq_getD_getElem?,Array.getD_eq_getD_getElem?,Array.getD_eq_getD_getElem?]
 unfold wb
 rw[e]
 split <;> rfl
theorem KQ {arr m:Array Keyed}{o:Nat}(h:o+m.size≤arr.size):(wb arr o m).toList=arr.toList.take o++(m.toList++arr.toList.drop (o+m.size)):=by
 apply List.ext_getElem?
 intro k
 have e:=iU m.toList arr o 0 (by simpa using h) k
 simp only[Nat.add_zero,Array.length_toList,Array.getElem?_toList] at e
 unfold wb
 rw[Array.getElem?_toList,e]
 have lt:(arr.toList.take o).length=o:=by rw[List.length_take,Array.length_toList];omega
 by_cases h1:k<o
 ·rw[if_neg (by omega),List.getElem?_append_left (by omega),List.getElem?_take_of_lt h1,Array.getElem?_toList]
 ·rw[List.getElem?_append_right (by omega),lt]
  by_cases h2:k<o+m.size
  ·rw[if_pos (by omega),List.getElem?_append_left (by rw[Array.length_toList];omega),Array.getElem?_toList]
  ·rw[if_neg (by omega),List.getElem?_append_right (by rw[Array.length_toList];omega),List.getElem?_drop,Array.length_toList,Array.getElem?_toList]
   congr 1
   omega
theorem KR {arr m:Array Keyed}{o n:Nat}(h:o+n≤arr.size)(p:m.toList.Perm (arr.extract o (o+n)).toList):(wb arr o m).toList.Perm arr.toList:=by
 have hm:m.size=n:=by
  have:=p.length_eq
  rw[Array.length_toList,Array.length_toList,Array.size_extract] at this
  omega
 rw[KQ (by omega),hm]
 have e:arr.toList=arr.toList.take o++((arr.extract o (o+n)).toList++arr.toList.drop (o+n)):=by rw[fD,List.take_append_drop]
 conv=>rhs;rw[e]
 exact List.Perm.append_left _ (List.Perm.append_right _ p)
def Seg (r:Keyed→Int)(a:Array Keyed)(lo n:Nat):Prop:=∀ i j,lo≤i→i≤j→j<lo+n→r (a.getD i nv)≤r (a.getD j nv)
theorem cQ {r:Keyed→Int}{a:Array Keyed}{lo n:Nat}(h:Seg r a lo n){i k:Nat}(h1:lo≤i)(h2:i+k≤lo+n)(h3:i+k≤a.size):(a.extract i (i+k)).toList.Pairwise (Le r):=by
 rw[List.pairwise_iff_getElem]
 intro x y hx hy l
 have hx':x<k:=by rw[Array.length_toList,Array.size_extract] at hx;omega
 have hy':y<k:=by rw[Array.length_toList,Array.size_extract] at hy;omega
 have e:=h (i+x) (i+y) (by omega) (by omega) (by omega)
 have q1:i+x<a.size:=by omega
 have q2:i+y<a.size:=by omega
 simpa [Array.getD,q1,q2,Le] using e
theorem sB {a:Array Keyed}{i k m:Nat}(h:m<k)(h3:i+k≤a.size):(a.extract i (i+k)).getD m nv=a.getD (i+m) nv:=by
 have q1:i+m<a.size:=by omega
 have q2:m<(a.extract i (i+k)).size:=by rw[Array.size_extract];omega
 have q3:m<min (i+k) a.size-i:=by omega
 simp[Array.getD,q1,q3]
theorem XJ {a:Array Keyed}{i j k:Nat}(h1:i≤j)(h2:j≤k):(a.extract i j).toList++(a.extract j k).toList=(a.extract i k).toList:=by
 rw[← Array.toList_append,Array.extract_append_extract]
 congr 2 <;> omega
section
variable {prog:Program}{w:World}{A:Around}{E:Value→Shared→Prop}{s:Shared}{κ : SortKind}{U:Keyed→Prop}{r:Keyed→Int}
theorem KS {M:Model}{σ : Type}{Q:PUnit→σ→Prop}{st st':σ}(h:Q ⟨⟩ st'):wpS M A E s (set st':StateT σ Sem PUnit) Q st:=by
 unfold wpS;rw[StateT.run_set];exact wpAny_pure ⟨rfl,h⟩
theorem eD (C:Cm (model prog w) A s κ U r){i sa na pw nb pz:Nat}{Q:Bool→SortSt→Prop}{arr:Array Keyed}{pd:Array (Nat × Nat × Nat)}{g:Nat}(ua:∀ x∈arr.toList,U x)(e1:pd[i]? = some (sa,na,pw))(e2:pd[i+1]? = some (sa+na,nb,pz))(p1:0<na)(p2:0<nb)(hz:sa+na+nb≤arr.size)
  (s1:Seg r arr sa na) (s2:Seg r arr (sa+na) nb)
  (h:∀ arr' g,arr'.toList.Perm arr.toList→(∀ k,k<sa∨sa+na+nb≤k→arr'.getD k nv=arr.getD k nv)→Seg r arr' sa (na+nb)→Q true (SortSt.mk' κ arr' ((pd.setIfInBounds i (sa,na+nb,pw)).eraseIdxIfInBounds (i+1)) g none)) :
  wpS (model prog w) A E s (mergeAt' i) Q (SortSt.mk' κ arr pd g none):=by
 refine wpS_bind (wpS_get ?_)
 dsimp only
 rw[e1,e2]
 dsimp only
 refine wpS_bind (KS ?_)
 refine wpS_bind (zB (i:=sa+na) (by omega) ?_)
 refine wpS_bind (XQ C rfl (by omega) (by omega) (fun i hi=>ua _ (zQ (by omega))) (ua _ (zQ (by omega))) (fun i j a b=>s1 _ _ (by omega) (by omega) (by omega)) fun k k1 k2 k3=>?_)
 dsimp only
 refine qL (fun e=>wpS_pure (h arr g (List.Perm.refl _) (fun _ _=>rfl) fun i j a b c=>?_)) fun e=>?_
 ·have e:na-k=0:=by simpa using e
  by_cases q1:j<sa+na
  ·exact s1 i j a b q1
  ·by_cases q2:sa+na≤i
   ·exact s2 i j q2 b (by omega)
   ·have:=k2 (i-sa) (by omega)
    rw[show sa+(i-sa)=i by omega] at this
    exact Int.le_trans this (s2 _ _ (Nat.le_refl _) (by omega) (by omega))
 have e:¬ na-k=0:=by simpa using e
 refine wpS_bind (zB (i:=sa+k+(na-k)-1) (by omega) ?_)
 refine wpS_bind (XR C rfl (by omega) (by omega) (fun i hi=>ua _ (zQ (by omega))) (ua _ (zQ (by omega))) (fun i j a b=>s2 _ _ (by omega) (by omega) (by omega)) fun m m1 m2 m3=>?_)
 dsimp only
 rw[show sa+k+(na-k)-1=sa+na-1 by omega] at m2 m3
 have hk3:=k3 k (Nat.le_refl _) (by omega)
 refine qL (fun e=>?_) fun e'=>?_
 ·exfalso
  have e:m=0:=by simpa using e
  subst e
  have q1:=m3 0 (Nat.le_refl _) p2
  have q2:=s1 (sa+k) (sa+na-1) (by omega) (by omega) (by omega)
  rw[Nat.add_zero] at q1
  omega
 have e':¬ m=0:=by simpa using e'
 have ex:arr.extract (sa+k) (sa+na)=arr.extract (sa+k) (sa+k+(na-k)):=by rw[show sa+k+(na-k)=sa+na by omega]
 have zx:(arr.extract (sa+k) (sa+na)).size=na-k:=by rw[Array.size_extract];omega
 have zy:(arr.extract (sa+na) (sa+na+m)).size=m:=by rw[Array.size_extract];omega
 have gx:∀ i,i<na-k→(arr.extract (sa+k) (sa+na)).getD i nv=arr.getD (sa+k+i) nv:=fun i hi=>by rw[ex];exact sB hi (by omega)
 have gy:∀ i,i<m→(arr.extract (sa+na) (sa+na+m)).getD i nv=arr.getD (sa+na+i) nv:=fun i hi=>sB hi (by omega)
 have px:(arr.extract (sa+k) (sa+na)).toList.Pairwise (Le r):=by rw[ex];exact cQ s1 (by omega) (by omega) (by omega)
 have py:(arr.extract (sa+na) (sa+na+m)).toList.Pairwise (Le r):=cQ s2 (by omega) (by omega) (by omega)
 have mx:∀ x∈(arr.extract (sa+k) (sa+na)).toList,∃ j,sa+k≤j∧j<sa+na∧x=arr.getD j nv:=fun x hx=>by
  obtain⟨j,q1,q2,q3,q4⟩:=gI (by omega) hx
  exact⟨j,q1,q2,q4⟩
 have my:∀ x∈(arr.extract (sa+na) (sa+na+m)).toList,∃ j,sa+na≤j∧j<sa+na+m∧x=arr.getD j nv:=fun x hx=>by
  obtain⟨j,q1,q2,q3,q4⟩:=gI (by omega) hx
  exact⟨j,q1,q2,q4⟩
 have lox:∀ x∈(arr.extract (sa+k) (sa+na)).toList,r (arr.getD (sa+na) nv)≤r x∧r x≤r (arr.getD (sa+na-1) nv):=fun x hx=>by
  obtain⟨j,q1,q2,rfl⟩:=mx x hx
  have:=s1 (sa+k) j (by omega) q1 q2
  exact⟨by omega,s1 j _ (by omega) (by omega) (by omega)⟩
 have loy:∀ x∈(arr.extract (sa+na) (sa+na+m)).toList,r (arr.getD (sa+na) nv)≤r x∧r x≤r (arr.getD (sa+na-1) nv):=fun x hx=>by
  obtain⟨j,q1,q2,rfl⟩:=my x hx
  have:=m2 (j-(sa+na)) (by omega)
  rw[show sa+na+(j-(sa+na))=j by omega] at this
  exact⟨s2 _ _ (Nat.le_refl _) q1 (by omega),by omega⟩
 have fin:∀ mg g',Mo r ((arr.extract (sa+k) (sa+na)).toList++(arr.extract (sa+na) (sa+na+m)).toList) mg→Q true (SortSt.mk' κ (wb arr (sa+k) mg) ((pd.setIfInBounds i (sa,na+nb,pw)).eraseIdxIfInBounds (i+1)) g' none):=by
  intro mg g' M
  have ej:(arr.extract (sa+k) (sa+na)).toList++(arr.extract (sa+na) (sa+na+m)).toList=(arr.extract (sa+k) (sa+k+(na-k+m))).toList:=by
   rw[XJ (by omega) (by omega),show sa+k+(na-k+m)=sa+na+m by omega]
  have hm:mg.size=na-k+m:=by
   have:=M.pm.length_eq
   rw[List.length_append,Array.length_toList,Array.length_toList,Array.length_toList,zx,zy] at this
   exact this
  have gd:=fun j=>KP (arr:=arr) (m:=mg) (o:=sa+k) (by omega) j
  refine h _ g' (KR (n:=na-k+m) (by omega) (ej▸M.pm)) (fun j hj=>?_) fun i j a b c=>?_
  ·rw[gd,if_neg (by omega)]
  ·have bd:∀ j,sa+k≤j→j<sa+na+m→r (arr.getD (sa+na) nv)≤r (mg.getD (j-(sa+k)) nv)∧r (mg.getD (j-(sa+k)) nv)≤r (arr.getD (sa+na-1) nv):=fun j h1 h2=>by
    have:=M.pm.mem_iff.mp (zQ (a:=mg) (i:=j-(sa+k)) (by omega))
    rcases List.mem_append.mp this with q|q
    ·exact lox _ q
    ·exact loy _ q
   rw[gd,gd,hm]
   by_cases i1:i<sa+k
   ·rw[if_neg (by omega)]
    have u:=k2 (i-sa) (by omega)
    rw[show sa+(i-sa)=i by omega] at u
    by_cases j1:j<sa+k
    ·rw[if_neg (by omega)];exact s1 i j a b (by omega)
    ·by_cases j2:j<sa+na+m
     ·rw[if_pos (by omega)];exact Int.le_trans u (bd j (by omega) j2).1
     ·rw[if_neg (by omega)];exact Int.le_trans u (s2 _ _ (Nat.le_refl _) (by omega) (by omega))
   ·by_cases i2:i<sa+na+m
    ·rw[if_pos (by omega)]
     by_cases j2:j<sa+na+m
     ·rw[if_pos (by omega)];exact yM M.up (by omega) (by omega)
     ·rw[if_neg (by omega)]
      have v:=m3 (j-(sa+na)) (by omega) (by omega)
      rw[show sa+na+(j-(sa+na))=j by omega] at v
      exact Int.le_trans (bd i (by omega) i2).2 v
    ·rw[if_neg (by omega),if_neg (by omega)]
     exact s2 i j (by omega) b (by omega)
 have ux:∀ x∈(arr.extract (sa+k) (sa+na)).toList,U x:=fun x hx=>by obtain⟨j,q1,q2,rfl⟩:=mx x hx;exact ua _ (zQ (by omega))
 have uy:∀ x∈(arr.extract (sa+na) (sa+na+m)).toList,U x:=fun x hx=>by obtain⟨j,q1,q2,rfl⟩:=my x hx;exact ua _ (zQ (by omega))
 have y0:(arr.extract (sa+na) (sa+na+m)).getD 0 nv=arr.getD (sa+na) nv:=gy 0 (by omega)
 have xl:(arr.extract (sa+k) (sa+na)).getD ((arr.extract (sa+k) (sa+na)).size-1) nv=arr.getD (sa+na-1) nv:=by rw[zx,gx _ (by omega)];congr 1;omega
 refine qL (fun _=>?_) fun _=>?_
 ·refine wpS_bind (eF C rfl ux uy px py (fun mg g' M=>?_) (by rw[zx];omega) (by rw[zy];omega) ?_ fun x hx=>?_)
  ·refine wpS_bind (wpS_modify (wpS_bind (wpS_get (wpS_pure ?_))))
   exact fin mg g' M
  ·rw[y0];exact(lox _ (zQ (by rw[zx];omega))).1
  ·rw[xl];exact(loy x hx).2
 ·refine wpS_bind (eE C rfl ux uy px py (fun mg g' M=>?_) (by rw[zx];omega) (by rw[zy];omega) (fun x hx=>?_) ?_)
  ·refine wpS_bind (wpS_modify (wpS_bind (wpS_get (wpS_pure ?_))))
   exact fin mg g' M
  ·rw[y0];exact(lox x hx).1
  ·rw[xl];exact(loy _ (zQ (by rw[zy];omega))).2
end
end _S
end
section
namespace _S
open PySem PySem.W PyProof.Rows
def mir (a:Array Keyed)(i j:Nat):Array Keyed:=mirror a i j ((j-i)/2)
theorem yD {a:Array Keyed}{i j:Nat}(hj:j≤a.size)(k:Nat):(mir a i j).getD k nv=if i≤k∧k<j then a.getD (i+j-1-k) nv else a.getD k nv:=by
 rw[Array.getD_eq_getD_getElem?,Array.getD_eq_getD_getElem?,Array.getD_eq_getD_getElem?]
 unfold mir
 rw[getElem?_mirror_all hj]
 split <;> rfl
structure Cr (a b:Array Keyed)(lo n:Nat):Prop where
 pm:b.toList.Perm a.toList
 out:∀ k,k<lo∨lo+n≤k→b.getD k nv=a.getD k nv
theorem Cr.z {a b:Array Keyed}{lo n:Nat}(h:Cr a b lo n):b.size=a.size:=by
 have:=h.pm.length_eq
 simpa using this
theorem Cr.rfl' {a:Array Keyed}{lo n:Nat}:Cr a a lo n:=⟨List.Perm.refl _,fun _ _=>rfl⟩
theorem Cr.mir {a b:Array Keyed}{lo n i j:Nat}(h:Cr a b lo n)(h1:lo≤i)(h2:j≤lo+n)(h3:j≤a.size):Cr a (mir b i j) lo n:=
 ⟨(Array.perm_iff_toList_perm.mp (mirror_perm _ _ _ _)).trans h.pm,fun k hk=>by rw[yD (by rw[h.z];exact h3),if_neg (by omega)];exact h.out k hk⟩
def Dsg (r:Keyed→Int)(a:Array Keyed)(lo n:Nat):Prop:=∀ i j,lo≤i→i≤j→j<lo+n→r (a.getD j nv)≤r (a.getD i nv)
theorem WY {r:Keyed→Int}{a:Array Keyed}{lo n:Nat}(h:Seg r a lo n)(h1:1≤n)(l:r (a.getD (lo+n-1) nv)≤r (a.getD (lo+n) nv)):Seg r a lo (n+1):=fun i j h2 h3 h4=>by
 by_cases q:j<lo+n
 ·exact h i j h2 h3 q
 ·have:j=lo+n:=by omega
  subst this
  by_cases q2:i=lo+n
  ·subst q2;exact Int.le_refl _
  ·exact Int.le_trans (h i (lo+n-1) h2 (by omega) (by omega)) l
theorem jH {r:Keyed→Int}{a:Array Keyed}{lo n:Nat}(h:Dsg r a lo n)(h1:1≤n)(l:r (a.getD (lo+n) nv)≤r (a.getD (lo+n-1) nv)):Dsg r a lo (n+1):=fun i j h2 h3 h4=>by
 by_cases q:j<lo+n
 ·exact h i j h2 h3 q
 ·have:j=lo+n:=by omega
  subst this
  by_cases q2:i=lo+n
  ·subst q2;exact Int.le_refl _
  ·exact Int.le_trans l (h i (lo+n-1) h2 (by omega) (by omega))
theorem cR {r:Keyed→Int}{a:Array Keyed}{lo:Nat}:Seg r a lo 1:=fun i j h2 h3 h4=>by
 have:i=j:=by omega
 subst this;exact Int.le_refl _
theorem U1 {r:Keyed→Int}{a:Array Keyed}{lo:Nat}:Dsg r a lo 1:=fun i j h2 h3 h4=>by
 have:i=j:=by omega
 subst this;exact Int.le_refl _
def ZG (r:Keyed→Int)(a:Array Keyed)(lo n q:Nat):Prop:=q+1≤n∧∀ k,lo+n-(q+1)≤k→k<lo+n→r (a.getD k nv)=r (a.getD (lo+n-1) nv)
set_option tactic.hygienic true in
theorem kY {r:Keyed→Int}{a:Array Keyed}{lo n q:Nat}(hn:lo+n≤a.size)(h:ZG r a lo n q)(k:Nat):r ((mir a (lo+n-(q+1)) (lo+n)).getD k nv)=r (a.getD k nv):=by
 rw[yD hn]
 have:=h.1
 split
 ·rename_i c
  rw[h.2 k (by omega) c.2,h.2 _ (by omega) (by omega)]
 ·rfl
theorem U0 {r:Keyed→Int}{a:Array Keyed}{lo n:Nat}(hn:lo+n≤a.size)(h:Dsg r a lo n):Seg r (mir a lo (lo+n)) lo n:=fun i j h2 h3 h4=>by
 rw[yD hn,yD hn,if_pos (by omega),if_pos (by omega)]
 exact h _ _ (by omega) (by omega) (by omega)
section
variable {prog:Program}{w:World}{A:Around}{E:Value→Shared→Prop}{s:Shared}{κ : SortKind}{U:Keyed→Prop}{r:Keyed→Int}
theorem kO (C:Cm (model prog w) A s κ U r){i j:Nat}{arr:Array Keyed}{pd:Array (Nat × Nat × Nat)}{g:Nat}{Q:Option Bool→SortSt→Prop}(ua:∀ x∈arr.toList,U x)(hi:i<arr.size)(hj:j<arr.size)
  (q:Q (some (decide (r (arr.getD i nv)<r (arr.getD j nv)))) (SortSt.mk' κ arr pd g none)):wpS (model prog w) A E s (ltAt' i j) Q (SortSt.mk' κ arr pd g none):=by
 refine wpS_bind (wpS_get ?_)
 exact wpS_bind (zB hi (wpS_bind (zB hj (C.lt (ua _ (zQ hi)) (ua _ (zQ hj)) rfl q))))
theorem bL {i j:Nat}{arr:Array Keyed}{pd:Array (Nat × Nat × Nat)}{g:Nat}{Q:PUnit→SortSt→Prop}(q:Q ⟨⟩ (SortSt.mk' κ (mir arr i j) pd g none)):wpS (model prog w) A E s (reverseSlice' i j) Q (SortSt.mk' κ arr pd g none):=wpS_modify q
theorem d7 (C:Cm (model prog w) A s κ U r){lo N:Nat}{arr:Array Keyed}{pd:Array (Nat × Nat × Nat)}{g:Nat}{Q:Option Nat→SortSt→Prop}(ua:∀ x∈arr.toList,U x)(h1:1≤N)(hz:lo+N≤arr.size)
  (h:∀ n b,1≤n→n≤N→Cr arr b lo N→Seg r b lo n→Q (some n) (SortSt.mk' κ b pd g none)):wpS (model prog w) A E s (countRun' lo N) Q (SortSt.mk' κ arr pd g none):=by
 have uc:∀ {b:Array Keyed},Cr arr b lo N→∀ x∈b.toList,U x:=fun h x hx=>ua x (h.pm.mem_iff.mp hx)
 have asc:∀ {b:Array Keyed} {n:Nat} {f:Nat→Option (Option Nat) × Nat→StateT SortSt Sem (ForInStep (Option (Option Nat) × Nat))},Cr arr b lo N→1≤n→n≤N→Seg r b lo n →
   (∀ x m,f x (none,m)=(ltAt' (lo+m) (lo+m-1) >>= fun o=>match o with
    |some z=>if z then pure (.done (none,m)) else pure (.yield (none,m+1))
    |_=>pure (.done (some none,m))))→wpS (model prog w) A E s (forIn [n:N] (none,n) f) (fun c st'=>st'=SortSt.mk' κ b pd g none∧∃ m,c=(none,m)∧n≤m∧m≤N∧Seg r b lo m∧(m=N∨r (b.getD (lo+m) nv)<r (b.getD (lo+m-1) nv))) (SortSt.mk' κ b pd g none):=by
  intro b n f cr hn hN sg hf
  have zb:=cr.z
  refine wpS_forRange (I:=fun x c st'=>st'=SortSt.mk' κ b pd g none∧c=(none,x)∧n≤x∧Seg r b lo x) ?_ ?_ ⟨rfl,rfl,Nat.le_refl _,sg⟩
  ·rintro x c st' hx1 hx ⟨rfl,rfl,hx3,sg⟩
   rw[hf]
   refine wpS_bind (kO C (uc cr) (by omega) (by omega) ?_)
   by_cases l:r (b.getD (lo+x) nv)<r (b.getD (lo+x-1) nv)
   ·simp only[l,decide_true,if_true]
    exact wpS_pure ⟨rfl,x,rfl,hx1,by omega,sg,.inr l⟩
   ·simp only[l,decide_false,Bool.false_eq_true,if_false]
    exact wpS_pure ⟨rfl,rfl,by omega,WY sg (by omega) (by omega)⟩
  ·rintro c st' ⟨rfl,rfl,hx3,sg⟩
   rw[show max n N=N by omega] at sg ⊢
   exact⟨rfl,N,rfl,hN,Nat.le_refl _,sg,.inl rfl⟩
 refine wpS_bind (wpS_mono (asc Cr.rfl' (Nat.le_refl 1) h1 cR fun _ _=>rfl) ?_)
 rintro c st' ⟨rfl,n,rfl,n1,n2,sg,nd⟩
 dsimp only
 refine qL (fun e=>wpS_pure (h n arr n1 n2 Cr.rfl' sg)) fun e=>?_
 have e:¬ n=N:=by simpa using e
 have nd:r (arr.getD (lo+n) nv)<r (arr.getD (lo+n-1) nv):=by omega
 apply qL
 case' h1 =>
  intro np
  refine wpS_bind (kO C ua (by omega) (by omega) ?_)
  dsimp only
  refine qL (fun e=>wpS_pure (h n arr n1 n2 Cr.rfl' sg)) fun l=>?_
  have l:¬ r (arr.getD lo nv)<r (arr.getD (lo+n-1) nv):=by simpa using l
  refine wpS_bind (bL ?_)
  have cr:Cr arr (mir arr lo (lo+n)) lo N:=Cr.rfl'.mir (Nat.le_refl _) (by omega) (by omega)
  have ds:Dsg r (mir arr lo (lo+n)) lo (n+1):=by
   refine jH (fun i j a b c=>?_) n1 ?_
   ·rw[yD (by omega),yD (by omega),if_pos (by omega),if_pos (by omega)]
    exact sg _ _ (by omega) (by omega) (by omega)
   ·rw[yD (by omega),yD (by omega),if_neg (by omega),if_pos (by omega),show lo+(lo+n)-1-(lo+n-1)=lo by omega]
    omega
 case' h2 =>
  intro np
  have cr:Cr arr arr lo N:=Cr.rfl'
  have ds:Dsg r arr lo (n+1):=by
   have:n=1:=by omega
   subst this
   exact jH U1 (Nat.le_refl _) (Int.le_of_lt nd)
 all_goals
  refine wpS_bind (wpS_lift (wpAny_rule ⟨rfl,?_⟩))
  refine wpS_bind (wpS_mono (wpS_forRange (I:=fun x c st'=>∃ b q,st'=SortSt.mk' κ b pd g none∧c=(none,x,q)∧Cr arr b lo N∧Dsg r b lo x∧ZG r b lo x q)
   (Q:=fun c st'=>∃ b m q,st'=SortSt.mk' κ b pd g none∧c=(none,m,q)∧1≤m∧m≤N∧Cr arr b lo N∧Dsg r b lo m∧ZG r b lo m q) ?_ ?_ ⟨_,0,rfl,rfl,cr,ds,by omega,fun k a b=>by rw[show k=lo+(n+1)-1 by omega]⟩) ?_)
  ·rintro x c st' hx1 hx ⟨b,q,rfl,rfl,cr,ds,eq⟩
   dsimp only
   have zb:=cr.z
   refine wpS_bind (kO C (uc cr) (by omega) (by omega) ?_)
   dsimp only
   refine qL (fun l=>?_) fun l=>?_
   ·have l:r (b.getD (lo+x) nv)<r (b.getD (lo+x-1) nv):=by simpa using l
    refine qL (fun qp=>wpS_bind (bL (wpS_pure ⟨_,0,rfl,rfl,cr.mir (by have:=eq.1;omega) (by omega) (by omega),fun i j a c d=>?_,by omega,fun k a b=>by rw[show k=lo+(x+1)-1 by omega]⟩))) fun qp=>wpS_pure ⟨_,0,rfl,rfl,cr,jH ds (by omega) (Int.le_of_lt l),by omega,fun k a b=>by rw[show k=lo+(x+1)-1 by omega]⟩
    rw[kY (by omega) eq,kY (by omega) eq]
    exact jH ds (by omega) (Int.le_of_lt l) i j a c d
   ·have l:¬ r (b.getD (lo+x) nv)<r (b.getD (lo+x-1) nv):=by simpa using l
    refine wpS_bind (kO C (uc cr) (by omega) (by omega) ?_)
    dsimp only
    refine qL (fun l2=>wpS_pure ⟨b,x,q,rfl,rfl,by omega,by omega,cr,ds,eq⟩) fun l2=>?_
    have l2:¬ r (b.getD (lo+x-1) nv)<r (b.getD (lo+x) nv):=by simpa using l2
    have ee:r (b.getD (lo+x) nv)=r (b.getD (lo+x-1) nv):=by omega
    refine wpS_pure ⟨b,q+1,rfl,rfl,cr,jH ds (by omega) (by omega),by have:=eq.1;omega,fun k a c=>?_⟩
    rw[show lo+(x+1)-1=lo+x by omega]
    by_cases kx:k=lo+x
    ·rw[kx]
    ·rw[ee];exact eq.2 k (by omega) (by omega)
  ·rintro c st' ⟨b,q,rfl,rfl,cr,ds,eq⟩
   rw[show max (n+1) N=N by omega] at ds eq ⊢
   exact⟨b,N,q,rfl,rfl,h1,Nat.le_refl _,cr,ds,eq⟩
  ·rintro c st' ⟨b,m,q,rfl,rfl,m1,m2,cr,ds,eq⟩
   dsimp only
   have zb:=cr.z
   apply qL
   case' h1 =>
    intro qp
    refine wpS_bind (bL ?_)
    have cr2:=cr.mir (i:=lo+m-(q+1)) (j:=lo+m) (by have:=eq.1;omega) (by omega) (by omega)
    have ds2:Dsg r (mir b (lo+m-(q+1)) (lo+m)) lo m:=fun i j a c d=>by
     rw[kY (by omega) eq,kY (by omega) eq]
     exact ds i j a c d
   case' h2 =>
    intro qp
    have cr2:=cr
    have ds2:=ds
   all_goals
    have z2:=cr2.z
    refine wpS_bind (bL ?_)
    refine wpS_bind (wpS_mono (asc (cr2.mir (Nat.le_refl _) (by omega) (by omega)) m1 m2 (U0 (by omega) ds2) fun _ _=>rfl) ?_)
    rintro c st' ⟨rfl,n',rfl,q1,q2,q3,_⟩
    exact wpS_pure (h n' _ (by omega) q2 (cr2.mir (Nat.le_refl _) (by omega) (by omega)) q3)
end
end _S
end
section
namespace _S
open PySem PySem.W PyProof.Rows
theorem dP {a:Array Keyed}{src d:Nat}(hs:src<a.size)(hd:d≤src)(k:Nat):(bubble a src d).getD k nv=if k=src-d then a.getD src nv else if src-d<k∧k≤src then a.getD (k-1) nv else a.getD k nv:=by
 simp only[Array.getD_eq_getD_getElem?]
 rw[getElem?_bubble hs d hd]
 repeat' split
 all_goals rfl
section
variable {prog:Program}{w:World}{A:Around}{E:Value→Shared→Prop}{s:Shared}{κ : SortKind}{U:Keyed→Prop}{r:Keyed→Int}
theorem rW (C:Cm (model prog w) A s κ U r){lo n ok:Nat}{arr:Array Keyed}{pd:Array (Nat × Nat × Nat)}{g:Nat}{Q:Bool→SortSt→Prop}(ua:∀ x∈arr.toList,U x)(h1:ok≤n)(hz:lo+n≤arr.size)(sg:Seg r arr lo ok)
  (h:∀ b,Cr arr b lo n→Seg r b lo n→Q true (SortSt.mk' κ b pd g none)):wpS (model prog w) A E s (binarySort' lo n ok) Q (SortSt.mk' κ arr pd g none):=by
 have uc:∀ {b:Array Keyed},Cr arr b lo n→∀ x∈b.toList,U x:=fun h x hx=>ua x (h.pm.mem_iff.mp hx)
 have sg1:Seg r arr lo (max ok 1):=by
  by_cases q:ok=0
  ·rw[q];exact cR
  ·rw[show max ok 1=ok by omega];exact sg
 refine wpS_bind (wpS_mono (wpS_forRange (I:=fun k c st'=>c=(none,())∧∃ b,st'=SortSt.mk' κ b pd g none∧Cr arr b lo n∧Seg r b lo (min k (max ok (max n 1))))
  (Q:=fun c st'=>c=(none,())∧∃ b,st'=SortSt.mk' κ b pd g none∧Cr arr b lo n∧Seg r b lo n) ?_ ?_ ⟨rfl,arr,rfl,Cr.rfl',?_⟩) ?_)
 ·rintro k c st' hk hkn ⟨rfl,b,rfl,cr,sg⟩
  have zb:=cr.z
  rw[show min k (max ok (max n 1))=k by omega] at sg
  dsimp only
  refine wpS_bind (wpS_mono (wpS_forRange (I:=fun x c st'=>st'=SortSt.mk' κ b pd g none∧∃ l u,c=(none,l,u)∧l≤u∧u≤k∧u-l≤k-x∧(∀ i,i<l→r (b.getD (lo+i) nv)≤r (b.getD (lo+k) nv))∧∀ i,u≤i→i<k→r (b.getD (lo+k) nv)<r (b.getD (lo+i) nv))
   (Q:=fun c st'=>st'=SortSt.mk' κ b pd g none∧∃ l u,c=(none,l,u)∧l≤k∧(∀ i,i<l→r (b.getD (lo+i) nv)≤r (b.getD (lo+k) nv))∧∀ i,l≤i→i<k→r (b.getD (lo+k) nv)<r (b.getD (lo+i) nv)) ?_ ?_
   ⟨rfl,0,k,rfl,by omega,by omega,by omega,fun i hi=>by omega,fun i a b=>by omega⟩) ?_)
  ·rintro x c st' _ hx ⟨rfl,l,u,rfl,q1,q2,q3,q4,q5⟩
   dsimp only
   refine qL (fun e=>wpS_pure ⟨rfl,l,u,rfl,by omega,q4,fun i a b=>q5 i (by omega) b⟩) fun e=>?_
   refine wpS_bind (kO C (uc cr) (by omega) (by omega) ?_)
   dsimp only
   refine qL (fun z=>?_) fun z=>?_
   ·have z:r (b.getD (lo+k) nv)<r (b.getD (lo+(l+u)/2) nv):=by simpa using z
    exact wpS_pure ⟨rfl,_,_,rfl,by omega,by omega,by omega,q4,fun i a c=>Int.lt_of_lt_of_le z (sg _ _ (by omega) (by omega) (by omega))⟩
   ·have z:¬ r (b.getD (lo+k) nv)<r (b.getD (lo+(l+u)/2) nv):=by simpa using z
    exact wpS_pure ⟨rfl,_,_,rfl,by omega,by omega,by omega,fun i a=>Int.le_trans (sg _ _ (by omega) (by omega) (by omega)) (Int.not_lt.mp z),q5⟩
  ·rintro c st' ⟨rfl,l,u,rfl,q1,q2,q3,q4,q5⟩
   exact⟨rfl,l,u,rfl,by omega,q4,fun i a b=>q5 i (by omega) b⟩
  ·rintro c st' ⟨rfl,l,u,rfl,q1,q4,q5⟩
   dsimp only
   refine wpS_bind (wpS_modify (wpS_pure ⟨rfl,_,rfl,⟨(Array.perm_iff_toList_perm.mp (bubble_perm _ _ _)).trans cr.pm,fun j hj=>?_⟩,?_⟩))
   ·show (bubble b (lo+k) (lo+k-(lo+l))).getD j nv=_
    rw[dP (by omega) (by omega),if_neg (by omega),if_neg (by omega)]
    exact cr.out j hj
   ·rw[show min (k+1) (max ok (max n 1))=k+1 by omega]
    have e:∀ j,(bubble b (lo+k) (lo+k-(lo+l))).getD j nv=if j=lo+l then b.getD (lo+k) nv else if lo+l<j∧j≤lo+k then b.getD (j-1) nv else b.getD j nv:=fun j=>by
     rw[dP (by omega) (by omega),show lo+k-(lo+k-(lo+l))=lo+l by omega]
    intro i j a c d
    show r ((bubble b (lo+k) (lo+k-(lo+l))).getD i nv)≤r ((bubble b (lo+k) (lo+k-(lo+l))).getD j nv)
    rw[e,e]
    by_cases i1:i<lo+l
    ·rw[if_neg (by omega),if_neg (by omega)]
     have u1:=q4 (i-lo) (by omega)
     rw[show lo+(i-lo)=i by omega] at u1
     by_cases j1:j<lo+l
     ·rw[if_neg (by omega),if_neg (by omega)];exact sg i j a c (by omega)
     ·by_cases j2:j=lo+l
      ·rw[if_pos j2];exact u1
      ·rw[if_neg j2,if_pos (by omega)];exact sg _ _ a (by omega) (by omega)
    ·by_cases i2:i=lo+l
     ·rw[if_pos i2]
      by_cases j2:j=lo+l
      ·rw[if_pos j2];exact Int.le_refl _
      ·rw[if_neg j2,if_pos (by omega)]
       have:=q5 (j-1-lo) (by omega) (by omega)
       rw[show lo+(j-1-lo)=j-1 by omega] at this
       exact Int.le_of_lt this
     ·rw[if_neg i2,if_pos (by omega),if_neg (by omega),if_pos (by omega)]
      exact sg _ _ (by omega) (by omega) (by omega)
 ·rintro c st' ⟨rfl,b,rfl,cr,sg⟩
  refine⟨rfl,b,rfl,cr,?_⟩
  intro i j a c d
  exact sg i j a c (by omega)
 ·rw[show min (max ok 1) (max ok (max n 1))=max ok 1 by omega];exact sg1
 ·rintro c st' ⟨rfl,b,rfl,cr,sg⟩
  exact wpS_pure (h b cr sg)
end
end _S
end
section
namespace _S
open PySem PySem.W PyProof.Rows
def Rn (r:Keyed→Int)(a:Array Keyed):List (Nat × Nat × Nat)→Nat→Nat→Prop
 |[],x,y=>x=y
 |(s,n,_)::t,x,y=>s=x∧0<n∧Seg r a s n∧Rn r a t (x+n) y
section
variable {r:Keyed→Int}{a b:Array Keyed}
theorem Rn.app:∀ {L1 L2:List (Nat × Nat × Nat)} {x y:Nat},Rn r a (L1++L2) x y↔∃ m,Rn r a L1 x m∧Rn r a L2 m y
 |[],L2,x,y=>⟨fun h=>⟨x,rfl,h⟩,fun ⟨m,h1,h2⟩=>by cases h1;exact h2⟩
 |(s,n,p)::t,L2,x,y=>by
  show s=x∧0<n∧Seg r a s n∧Rn r a (t++L2) (x+n) y↔∃ m,(s=x∧0<n∧Seg r a s n∧Rn r a t (x+n) m)∧Rn r a L2 m y
  rw[Rn.app]
  exact⟨fun ⟨h1,h2,h3,m,h4,h5⟩=>⟨m,⟨h1,h2,h3,h4⟩,h5⟩,fun ⟨m,⟨h1,h2,h3,h4⟩,h5⟩=>⟨h1,h2,h3,m,h4,h5⟩⟩
theorem Rn.le:∀ {L:List (Nat × Nat × Nat)} {x y:Nat},Rn r a L x y→x+L.length≤y
 |[],x,y,h=>by cases h;simp
 |(s,n,p)::t,x,y,h=>by have:=Rn.le h.2.2.2;have:=h.2.1;simp only[List.length_cons];omega
theorem Rn.congr:∀ {L:List (Nat × Nat × Nat)} {x y:Nat},Rn r a L x y→(∀ k,x≤k→k<y→b.getD k nv=a.getD k nv)→Rn r b L x y
 |[],x,y,h,_=>h
 |(s,n,p)::t,x,y,h,e=>by
  obtain⟨rfl,h2,h3,h4⟩:=h
  have l:=Rn.le h4
  refine⟨rfl,h2,fun i j a c d=>?_,Rn.congr h4 fun k h1 h2=>e k (by omega) h2⟩
  rw[e i (by omega) (by omega),e j (by omega) (by omega)]
  exact h3 i j a c d
theorem Rn.mod {f:Nat × Nat × Nat→Nat × Nat × Nat}(hf:∀ u v p,∃ p',f (u,v,p)=(u,v,p')):∀ {L:List (Nat × Nat × Nat)} {i x y:Nat},Rn r a L x y→Rn r a (L.modify i f) x y
 |[],i,x,y,h=>by simpa using h
 |(s,n,p)::t,0,x,y,h=>by
  obtain⟨p',e⟩:=hf s n p
  rw[List.modify_zero_cons,e]
  exact h
 |(s,n,p)::t,i+1,x,y,h=>by
  rw[List.modify_succ_cons]
  exact⟨h.1,h.2.1,h.2.2.1,Rn.mod hf h.2.2.2⟩
end
theorem t0 {α : Type}{l:List α}{i:Nat}(h:i+1<l.length):∃ L1 x y L2,l=L1++x::y::L2∧L1.length=i:=by
 refine⟨l.take i,l[i],l[i+1],l.drop (i+2),?_,by rw[List.length_take];omega⟩
 rw[← List.drop_eq_getElem_cons h,← List.drop_eq_getElem_cons (by omega),List.take_append_drop]
section
variable {prog:Program}{w:World}{A:Around}{E:Value→Shared→Prop}{s:Shared}{κ : SortKind}{U:Keyed→Prop}{r:Keyed→Int}
theorem mJ (C:Cm (model prog w) A s κ U r){i e:Nat}{Q:Bool→SortSt→Prop}{arr:Array Keyed}{pd:Array (Nat × Nat × Nat)}{g:Nat}(ua:∀ x∈arr.toList,U x)(hi:i+1<pd.size)(R:Rn r arr pd.toList 0 e)(he:e≤arr.size)
  (h:∀ b pd' g,b.toList.Perm arr.toList→(∀ k,e≤k→b.getD k nv=arr.getD k nv)→Rn r b pd'.toList 0 e→pd'.size+1=pd.size→Q true (SortSt.mk' κ b pd' g none)):wpS (model prog w) A E s (mergeAt' i) Q (SortSt.mk' κ arr pd g none):=by
 obtain⟨L1,⟨sa,na,pa⟩,⟨sb,nb,pb⟩,L2,el,hl⟩:=t0 (l:=pd.toList) (i:=i) (by simpa using hi)
 rw[el] at R
 obtain⟨m,R1,rfl,p1,s1,rfl,p2,s2,R2⟩:=Rn.app.mp R
 have l2:=Rn.le R2
 have e1:pd[i]? = some (sa,na,pa):=by
  rw[← Array.getElem?_toList,el,← hl,List.getElem?_append_right (Nat.le_refl _),Nat.sub_self];rfl
 have e2:pd[i+1]? = some (sa+na,nb,pb):=by
  rw[← Array.getElem?_toList,el,← hl,List.getElem?_append_right (by omega),Nat.add_sub_cancel_left];rfl
 refine eD C ua e1 e2 p1 p2 (by omega) s1 s2 fun b g pm out sg=>?_
 have ep:((pd.setIfInBounds i (sa,na+nb,pa)).eraseIdxIfInBounds (i+1)).toList=L1++(sa,na+nb,pa)::L2:=by
  rw[Array.toList_eraseIdxIfInBounds,Array.toList_setIfInBounds,el,← hl,List.set_append_right _ _ (Nat.le_refl _),Nat.sub_self,List.set_cons_zero,List.eraseIdx_append_of_length_le (by omega),Nat.add_sub_cancel_left]
  rfl
 refine h b _ g pm (fun k hk=>out k (by omega)) ?_ ?_
 ·rw[ep]
  refine Rn.app.mpr ⟨sa,R1.congr fun k _ hk=>out k (by omega),rfl,by omega,sg,?_⟩
  rw[← Nat.add_assoc]
  exact R2.congr fun k hk _=>out k (by omega)
 ·have:=congrArg List.length ep
  have q:=congrArg List.length el
  simp only[Array.length_toList,List.length_append,List.length_cons] at this q
  omega
theorem d8 (C:Cm (model prog w) A s κ U r){Q:Unit→SortSt→Prop}{arr:Array Keyed}{g:Nat}(ua:∀ x∈arr.toList,U x)(h2:0<arr.size)
  (h:∀ b pd g,b.toList.Perm arr.toList→b.toList.Pairwise (Le r)→Q () (SortSt.mk' κ b pd g none)):wpS (model prog w) A E s sortRuns' Q (SortSt.mk' κ arr #[] g none):=by
 have uc:∀ {b:Array Keyed},b.toList.Perm arr.toList→∀ x∈b.toList,U x:=fun h x hx=>ua x (h.mem_iff.mp hx)
 have zc:∀ {b:Array Keyed},b.toList.Perm arr.toList→b.size=arr.size:=fun h=>by simpa using h.length_eq
 refine wpS_bind (wpS_get ?_)
 dsimp only
 refine wpS_bind (wpS_mono (wpS_forRange (I:=fun x c st'=>∃ b pd g lo,st'=SortSt.mk' κ b pd g none∧c=(none,lo)∧b.toList.Perm arr.toList∧lo≤arr.size∧min x arr.size≤lo∧Rn r b pd.toList 0 lo)
  (Q:=fun c st'=>∃ b pd g,st'=SortSt.mk' κ b pd g none∧c=(none,arr.size)∧b.toList.Perm arr.toList∧Rn r b pd.toList 0 arr.size) ?_ ?_ ⟨arr,#[],g,0,rfl,rfl,List.Perm.refl _,by omega,by omega,rfl⟩) ?_)
 ·rintro x c st' _ hx ⟨b,pd,g,lo,rfl,rfl,pm,lo1,lo2,R⟩
  have zb:=zc pm
  dsimp only
  refine qL (fun e=>wpS_pure ⟨b,pd,g,rfl,by rw[show lo=arr.size by omega],pm,by rw[show arr.size=lo by omega];exact R⟩) fun e=>?_
  refine wpS_bind (d7 C (uc pm) (by omega) (by omega) fun n b2 n1 n2 cr sg=>?_)
  have R2:Rn r b2 pd.toList 0 lo:=R.congr fun k _ hk=>cr.out k (.inl hk)
  have pm2:=cr.pm.trans pm
  have z2:=zc pm2
  dsimp only
  apply qL
  case' h1 =>
   intro lt
   refine wpS_bind (wpS_lift (wpAny_rule ⟨rfl,?_⟩))
   refine wpS_bind (rW C (uc pm2) (by omega) (by omega) sg fun b3 cr3 sg3=>?_)
   have R3:Rn r b3 pd.toList 0 lo:=R2.congr fun k _ hk=>cr3.out k (.inl hk)
   have pm3:=cr3.pm.trans pm2
   refine qL (fun e=>by simp at e) fun _=>?_
   have n3:lo+min (arr.size-lo) ((sortPriv% PySem.Builtin.minRun) arr.size arr.size 0)≤arr.size:=by omega
   have n4:0<min (arr.size-lo) ((sortPriv% PySem.Builtin.minRun) arr.size arr.size 0):=by omega
  case' h2 =>
   intro lt
   have R3:=R2
   have pm3:=pm2
   have sg3:=sg
   have n3:lo+n≤arr.size:=by omega
   have n4:0<n:=n1
  all_goals
   refine wpS_bind (wpS_get ?_)
   dsimp only
   rcases hb:pd.back? with _|⟨s1,l1,p1⟩
   ·dsimp only
    refine wpS_bind (wpS_modify (wpS_pure ⟨_,_,_,_,rfl,rfl,pm3,n3,by omega,?_⟩))
    show Rn r _ (pd.push _).toList 0 _
    rw[Array.toList_push]
    exact Rn.app.mpr ⟨lo,R3,rfl,n4,sg3,rfl⟩
   ·dsimp only
    refine wpS_bind (wpS_mono (wpS_forRange (I:=fun _ c st'=>c=(none,())∧∃ b pd g,st'=SortSt.mk' κ b pd g none∧b.toList.Perm arr.toList∧Rn r b pd.toList 0 lo∧Seg r b lo _)
     (Q:=fun c st'=>c=(none,())∧∃ b pd g,st'=SortSt.mk' κ b pd g none∧b.toList.Perm arr.toList∧Rn r b pd.toList 0 lo∧Seg r b lo _) ?_ (fun _ _ z=>z) ⟨rfl,_,pd,g,rfl,pm3,R3,sg3⟩) ?_)
    ·rintro y c st' _ hy ⟨rfl,b,pd,g,rfl,pm,R,sg⟩
     have zb:=zc pm
     refine wpS_bind (wpS_get ?_)
     dsimp only
     by_cases hp:pd.size>1
     ·rw[if_pos hp]
      rcases hq:pd[pd.size-2]? with _|⟨u,v,old⟩
      ·exact wpS_pure ⟨rfl,b,pd,g,rfl,pm,R,sg⟩
      ·dsimp only
       refine qL (fun _=>wpS_pure ⟨rfl,b,pd,g,rfl,pm,R,sg⟩) fun _=>?_
       refine wpS_bind (mJ C (uc pm) (by omega) R (by omega) fun b' pd' g' p' out R' _=>?_)
       refine qL (fun e=>by simp at e) fun _=>wpS_pure ⟨rfl,b',pd',g',rfl,p'.trans pm,R',fun i j a c d=>?_⟩
       rw[out i a,out j (by omega)]
       exact sg i j a c d
     ·rw[if_neg hp]
      exact wpS_pure ⟨rfl,b,pd,g,rfl,pm,R,sg⟩
    ·rintro c st' ⟨rfl,b,pd,g,rfl,pm,R,sg⟩
     dsimp only
     refine wpS_bind (wpS_modify (wpS_bind (wpS_modify (wpS_pure ⟨_,_,_,_,rfl,rfl,pm,n3,by omega,?_⟩))))
     show Rn r b ((pd.modify (pd.size-1) _).push _).toList 0 _
     rw[Array.toList_push,Array.toList_modify]
     exact Rn.app.mpr ⟨lo,Rn.mod (fun _ _ _=>⟨_,rfl⟩) R,rfl,n4,sg,rfl⟩
 ·rintro c st' ⟨b,pd,g,lo,rfl,rfl,pm,lo1,lo2,R⟩
  have:lo=arr.size:=by omega
  subst this
  exact⟨b,pd,g,rfl,rfl,pm,R⟩
 ·rintro c st' ⟨b,pd,g,rfl,rfl,pm,R⟩
  dsimp only
  have hl:=R.le
  rw[Array.length_toList] at hl
  refine wpS_bind (wpS_mono (wpS_forRange (I:=fun x c st'=>c=(none,())∧∃ b pd g,st'=SortSt.mk' κ b pd g none∧b.toList.Perm arr.toList∧Rn r b pd.toList 0 arr.size∧(pd.size≤1∨pd.size+x≤arr.size))
   (Q:=fun c st'=>c=(none,())∧∃ b pd g,st'=SortSt.mk' κ b pd g none∧b.toList.Perm arr.toList∧Rn r b pd.toList 0 arr.size∧pd.size≤1) ?_ ?_ ⟨rfl,b,pd,g,rfl,pm,R,by omega⟩) ?_)
  ·rintro x c st' _ hx ⟨rfl,b,pd,g,rfl,pm,R,hs⟩
   have zb:=zc pm
   refine wpS_bind (wpS_get ?_)
   dsimp only
   refine qL (fun e=>wpS_pure ⟨rfl,b,pd,g,rfl,pm,R,e⟩) fun e=>?_
   refine wpS_bind (mJ C (uc pm) ?_ R (by omega) fun b' pd' g' p' out R' z'=>?_)
   ·have e:¬ pd.size≤1:=e
    have q:∀ (c:Prop) [Decidable c],(if c then pd.size-2-1 else pd.size-2)+1<pd.size:=fun c _=>by split <;> omega
    exact q _
   exact qL (fun e=>by simp at e) fun _=>wpS_pure ⟨rfl,b',pd',g',rfl,p'.trans pm,R',by omega⟩
  ·rintro c st' ⟨rfl,b,pd,g,rfl,pm,R,hs⟩
   exact⟨rfl,b,pd,g,rfl,pm,R,by omega⟩
  ·rintro c st' ⟨rfl,b,pd,g,rfl,pm,R,hs⟩
   have zb:=zc pm
   refine wpS_pure (h b pd g pm ?_)
   have hs:pd.toList.length≤1:=by simpa using hs
   revert R hs
   cases pd.toList with
   |nil=>intro R;have:0=arr.size:=R;omega
   |cons q t =>
    obtain⟨s0,n0,p0⟩:=q
    intro R hs
    have:t=[]:=by cases t with|nil=>rfl|cons _ _=>simp at hs
    subst this
    obtain⟨rfl,_,sg,e⟩:=R
    have e:n0=arr.size:=by have:0+n0=arr.size:=e;omega
    subst e
    rw[List.pairwise_iff_getElem]
    intro i j hi hj l
    have hi':i<b.size:=by simpa using hi
    have hj':j<b.size:=by simpa using hj
    have:=sg i j (by omega) (by omega) (by omega)
    simpa [Array.getD,hi',hj',Le] using this
end
end _S
end
section
namespace _S
open PySem PySem.W PyProof.Rows
structure Cmps (prog:Program)(w:World)(h0:Heap)(vs:List Value)(f:Nat→Nat→Bool):Prop where
 ex:∃ κ,∀ (A:Around),A.units<cLine→∀ (s:Shared),Sup h0 s.heap→(∀ (Q:SortKind→Shared→Prop) (E:Value→Shared→Prop),Q κ s→wpAny (model prog w) A (keyKind' vs.toArray) Q E s)∧∀ i j (C:Bool→Shared→Prop),i<vs.length→j<vs.length→C (f i j) s→kas_ask prog w A κ vs i j C s
open Classical in
noncomputable def kV {K:Type}(is:K→Value→Prop)(d:K)(v:Value):K:=if h:∃ k,is k v then choose h else d
open Classical in
theorem mI {K:Type}{is:K→Value→Prop}{d:K}{v:Value}(h:∃ k,is k v):is (kV is d v) v:=by
 unfold kV
 rw[dif_pos h]
 exact choose_spec h
section
variable {prog:Program}{w:World}{A:Around}{E:Value→Shared→Prop}{s:Shared}
theorem YU {K:Type}{is:K→Value→Prop}{lt':K→K→Bool}{d:K}(O:Ord lt')(inj:∀ {k k':K} {v:Value},is k v→is k' v→k=k'){a:Addr}{vs:List Value}{ks:List K}{n:Nat}{h0:Heap}{P:PySem.Fin→Shared→Prop}(hlen:vs.length=ks.length)(hks:∀ i v,vs[i]? = some v→is (ks.getD i d) v)(ho:s.heap.get? a=some (seqObj "list" vs.toArray n))(hu:A.units<cLine)(hz:vs.length≤100000)(c:2≤vs.length→Cmps prog w h0 vs (dN lt' ks d))(hS:Sup h0 s.heap)(ha:h0.get? a=none)
  (h:∀ ps:List (K × Value),ps.Perm (ks.zip vs)→Nf lt' (ps.map (·.1))→P (.done (.ret .none)) { s with heap:=sortedHeap s.heap a vs (ps.map (·.2)).toArray }) : wpAny (model prog w) A (Builtin.«list.sort» ⟨[.ref a],[]⟩) P E s:=by
 rw[list_sort_plain]
 have hb:a<s.heap.objs.size:=Heap.lt_size ho
 have hsz:vs.toArray.size=vs.length:=by simp
 refine wpAny_bind (listItems_at ho rfl (wpAny_bind (listUpdate_at ho rfl ?_ (by rw[hsz,sizeLine_eq];omega) (Nat.zero_le _))))
 obtain⟨e1,ho1⟩:∃ e1,(s.heap.update a (Obj.mapSeq fun _=>#[])).get? a=some (seqObj "list" #[] e1):=⟨_,get?_update_seq ho (fun _=>#[])⟩
 refine wpAny_bind (seqEpoch_at ho1 rfl (wpAny_bind (wpAny_newTuple (wpAny_bind (wpAny_newList (wpAny_holding ?_) (Nat.zero_le _))) (by show vs.length≤_;rw[sizeLine_eq];omega))))
 have ho6:(((s.heap.update a (Obj.mapSeq fun _=>#[])).push (seqObj "tuple" vs.toArray 0)).push (seqObj "list" #[] 0)).get? a=some (seqObj "list" #[] e1):=
  Heap.get?_push_of_some _ (Heap.get?_push_of_some _ ho1)
 have S6:Sup h0 (((s.heap.update a (Obj.mapSeq fun _=>#[])).push (seqObj "tuple" vs.toArray 0)).push (seqObj "list" #[] 0)):=fun b o e =>
  Heap.get?_push_of_some _ (Heap.get?_push_of_some _ ((Heap.get?_update_other _ _ (fun z:a=b=>by rw[← z,ha] at e;cases e)).trans (hS b o e)))
 show wpAny (model prog w) A _ P E { s with heap:=((s.heap.update a (Obj.mapSeq fun _=>#[])).push (seqObj "tuple" vs.toArray 0)).push (seqObj "list" #[] 0) }
 dsimp only
 have fin:∀ (st':SortSt) (ps:List (K × Value)),(arrOf st').map (·.2)=(ps.map (·.2)).toArray→failedOf st'=none→ps.Perm (ks.zip vs)→Nf lt' (ps.map (·.1))→wpAny (model prog w) A (do
   let touched:=(← seqEpoch a) != e1
   Builtin.List.listUpdate (.ref a) fun _=>(arrOf st').map (·.2)
   if let some e:=failedOf st' then rule "list.sort.comparison-raised";throw e
   if touched then rule "list.sort.modified";raiseError "ValueError" "list modified during sort"
   ret .none) P E { s with heap:=((s.heap.update a (Obj.mapSeq fun _=>#[])).push (seqObj "tuple" vs.toArray 0)).push (seqObj "list" #[] 0) }:=by
  intro st' ps h1 h2 h3 h4
  have hl:(ps.map (·.2)).length=vs.length:=by rw[List.length_map,h3.length_eq,List.length_zip,hlen,Nat.min_self]
  refine wpAny_bind (seqEpoch_at ho6 rfl ?_)
  rw[h1]
  refine wpAny_bind (listUpdate_at ho6 rfl ?_ (Nat.zero_le _) (by show (ps.map (·.2)).toArray.size≤_;rw[List.size_toArray,hl,sizeLine_eq];omega))
  rw[h2]
  simp only[bne_self_eq_false,Bool.false_eq_true,if_false]
  exact wpAny_pure (h ps h3 h4)
 by_cases h2:vs.toArray.size<2
 ·rw[if_pos h2,if_pos h2]
  refine wpAny_bind (wpAny_pure ?_)
  rw[StateT.run_pure]
  refine wpAny_bind (wpAny_pure ?_)
  refine fin (SortSt.mk' general' (vs.toArray.zip vs.toArray) #[] 7 none) (ks.zip vs) ?_ rfl (List.Perm.refl _) ?_
  ·show (vs.toArray.zip vs.toArray).map (·.2)=_
   apply Array.toList_inj.mp
   simp[List.map_snd_zip,hlen]
  ·rw[List.map_fst_zip (by omega)]
   match ks,hlen with
   |[],_=>exact List.Pairwise.nil
   |[_],_=>exact List.pairwise_singleton _ _
   |_::_::_,e=>simp at e h2;omega
 ·rw[if_neg h2,if_neg h2]
  have h2':2≤vs.length:=by omega
  obtain⟨κ,C⟩:=c h2'
  obtain⟨k1,k2⟩:=C A hu { s with heap:=((s.heap.update a (Obj.mapSeq fun _=>#[])).push (seqObj "tuple" vs.toArray 0)).push (seqObj "list" #[] 0) } S6
  have kv:∀ i,i<vs.length→kV is d (vs.getD i Value.none)=ks.getD i d:=fun i hi=>by
   have q:=hks i (vs.getD i Value.none) (by rw[List.getD_eq_getElem?_getD,List.getElem?_eq_getElem hi];rfl)
   exact inj (mI ⟨_,q⟩) q
  have km:∀ i,i<vs.length→ks.getD i d∈ks:=fun i hi=>by
   have:i<ks.length:=by omega
   simp[List.getD,this]
  have cm:Cm (model prog w) A { s with heap:=((s.heap.update a (Obj.mapSeq fun _=>#[])).push (seqObj "tuple" vs.toArray 0)).push (seqObj "list" #[] 0) } κ (fun x=>∃ i,i<vs.length∧x=(vs.getD i Value.none,vs.getD i Value.none)) (fun x=>gO lt' ks (kV is d x.1)):=by
   refine⟨?_⟩
   rintro x y ⟨i,hi,rfl⟩ ⟨j,hj,rfl⟩ E Q st hk q
   rw[lt'_eq]
   refine wpS_bind (wpS_get ?_)
   rw[hk]
   rw[kv i hi,kv j hj,← rN O (km i hi)] at q
   refine wpS_bind (wpS_lift (wpAny_attempt (wpAny_mono (k2 i j (fun b s'=>s'=_∧b=dN lt' ks d i j) hi hj ⟨rfl,rfl⟩) ?_ fun _ _ e=>e.elim)))
   rintro b s' ⟨rfl,rfl⟩
   exact⟨rfl,wpS_pure q⟩
  have pl:(vs.toArray.zip vs.toArray).toList=(List.range vs.length).map fun i=>(vs.getD i Value.none,vs.getD i Value.none):=by
   apply List.ext_getElem
   ·simp
   ·intro i h1 h2
    have:i<vs.length:=by simpa using h2
    simp[this]
  refine wpAny_bind (k1 _ _ ?_)
  refine wpAny_bind (wpAny_mono (d8 (E:=E) (Q:=fun _ st'=>∃ b pd g,st'=SortSt.mk' κ b pd g none∧b.toList.Perm (vs.toArray.zip vs.toArray).toList∧b.toList.Pairwise (Le fun x=>gO lt' ks (kV is d x.1))) cm (arr:=vs.toArray.zip vs.toArray) (g:=7) ?_ ?_ fun b pd g p q=>⟨b,pd,g,rfl,p,q⟩) ?_ fun _ _ e=>e)
  ·intro x hx
   rw[pl] at hx
   obtain⟨i,hi,rfl⟩:=List.mem_map.mp hx
   exact⟨i,List.mem_range.mp hi,rfl⟩
  ·simp;omega
  ·rintro⟨⟨⟩,st'⟩ s' ⟨rfl,b,pd,g,rfl,pm,up⟩
   refine fin _ (b.toList.map fun x=>(kV is d x.1,x.2)) ?_ rfl ?_ ?_
   ·show b.map (·.2)=_
    apply Array.toList_inj.mp
    simp
   ·refine(pm.map _).trans ?_
    rw[pl,List.map_map]
    have:ks.zip vs=(List.range vs.length).map fun i=>(ks.getD i d,vs.getD i Value.none):=by
     apply List.ext_getElem
     ·simp[hlen]
     ·intro i h1 h2
      have h3:i<vs.length:=by simpa using h2
      have h4:i<ks.length:=by omega
      simp[h3,h4]
    rw[this]
    refine List.Perm.of_eq (List.map_congr_left fun i hi=>?_)
    show (kV is d (vs.getD i Value.none),_)=_
    rw[kv i (List.mem_range.mp hi)]
   ·unfold Nf
    rw[List.map_map,List.pairwise_map]
    refine up.imp_of_mem fun {x y} hx hy h=>?_
    have hx:=pm.mem_iff.mp hx
    have hy:=pm.mem_iff.mp hy
    rw[pl] at hx hy
    obtain⟨i,hi,rfl⟩:=List.mem_map.mp hx
    obtain⟨j,hj,rfl⟩:=List.mem_map.mp hy
    have h:gO lt' ks (kV is d (vs.getD i Value.none))≤gO lt' ks (kV is d (vs.getD j Value.none)):=h
    show lt' (kV is d (vs.getD j Value.none)) (kV is d (vs.getD i Value.none))=false
    have hj:=List.mem_range.mp hj
    rw[rN O (ks:=ks) (by rw[kv j hj];exact km j hj)]
    exact decide_eq_false (by omega)
end
end _S
end
section
namespace _S
open PySem PySem.W PyProof.Rows
section
variable {prog:Program}{w:World}{h0:Heap}
theorem UZ {A:Around}{s:Shared}{b:Bool}{Q:Bool→Shared→Prop}:∀ {xs ys:List Int} {us vs:List Value} {i:Nat} {N M:Nat},ItemsAre (intKind prog w) xs us→ItemsAre (intKind prog w) ys vs→N+ys.length=M+xs.length→Q (_H.lexLt xs ys) s→KatLex prog w A b (decide (N<M)) Q (us.zip vs) i s:=by
 intro xs ys us vs i N M hx
 induction hx generalizing ys vs i with
 |nil =>
  intro hy hl h
  cases hy with
  |nil =>
   have:decide (N<M)=false:=decide_eq_false (by simp at hl;omega)
   rw[this];exact h
  |@cons k v ys vs q r =>
   have:decide (N<M)=true:=decide_eq_true (by simp at hl;omega)
   rw[this];exact h
 |@cons x u xs us qx rx ih =>
  intro hy hl h
  cases hy with
  |nil =>
   have:decide (N<M)=false:=decide_eq_false (by simp at hl;omega)
   rw[this];exact h
  |@cons y v ys vs qy ry =>
   obtain⟨t,rfl⟩:=wW (prog:=prog) (w:=w) qx
   obtain⟨t',rfl⟩:=wW (prog:=prog) (w:=w) qy
   rw[List.zip_cons_cons]
   refine kat_cons (wpAny_eqBool_int ?_)
   rw[_H.lexLt_cons] at h
   refine kat_go (fun e=>kat_yes ?_) fun e=>kat_no ?_
   ·rw[if_pos (by simpa using e)] at h
    exact ih ry (by simp at hl;omega) h
   ·rw[if_neg (by simpa using e)] at h
    cases b&&i == 0 with
    |true=>exact oneLt_int h
    |false=>exact kat_one _ _ (PyProof.Rows.lt_int h)
theorem cX {h:Heap}:∀ {vs:List Value} {ks:List (List Int)},vs.length=ks.length→(∀ i v,vs[i]? = some v→isT prog w h (ks.getD i []) v)→(∀ k∈ks,k≠[])→∃ fs,KatTups h vs fs∧fs.length=vs.length∧∀ f∈fs,∃ n t,f=Value.int n t
 |[],[],_,_,_=>⟨[],trivial,rfl,fun f hf=>by simp at hf⟩
 |v::vs,k::ks,hl,hv,hne=>by
  obtain⟨fs,a1,a2,a3⟩:=cX (vs:=vs) (ks:=ks) (by simpa using hl) (fun i u hu=>by simpa using hv (i+1) u (by simpa using hu)) fun k hk=>hne k (by simp[hk])
  obtain⟨a,rfl,o,items,n,ho,hc,hd,hi⟩:=hv 0 v rfl
  have hk:k≠[]:=hne k (by simp)
  have hi':ItemsAre (intKind prog w) k items.toList:=hi
  cases hz:items.toList with
  |nil=>rw[hz] at hi';cases hi';exact absurd rfl hk
  |cons f rest =>
   rw[hz] at hi'
   cases hi' with
   |cons q _ =>
    obtain⟨t,rfl⟩:=wW (prog:=prog) (w:=w) q
    refine⟨_::fs,KatTups.cons ho hc hd (by rw[← Array.getElem?_toList,hz];rfl) a1,by simp[a2],fun f hf=>?_⟩
    rcases List.mem_cons.mp hf with rfl|hf
    ·exact⟨_,_,rfl⟩
    ·exact a3 f hf
theorem GS {vs:List Value}{ks:List (List Int)}(hl:vs.length=ks.length)(hv:∀ i v,vs[i]? = some v→isT prog w h0 (ks.getD i []) v)(hne:∀ k∈ks,k≠[])(h2:2≤vs.length):Cmps prog w h0 vs (dN _H.lexLt ks []):=by
 refine⟨tuples' (Value.type "int" != Value.type "tuple"),fun A hu s hS=>⟨fun Q E h=>?_,fun i j C hi hj h=>?_⟩⟩
 ·obtain⟨fs,a1,a2,a3⟩:=cX (h:=s.heap) hl (fun i v hv'=>by obtain⟨a,e,q⟩:=hv i v hv';exact⟨a,e,uM hS q⟩) hne
  refine kat_kind a1 (by omega) (fun v hv'=>?_) (by decide) h
  obtain⟨n,t,rfl⟩:=a3 v hv'
  exact Looks.of_pure rfl
 ·have g:∀ k (hk:k<vs.length),∃ a,vs.getD k Value.none=.ref a∧IsTupleKey (intKind prog w) s.heap (ks.getD k []) a:=fun k hk=>by
   obtain⟨a,e,q⟩:=hv k vs[k] (List.getElem?_eq_getElem hk)
   exact⟨a,by rw[← e];simp[List.getD,hk],uM hS q⟩
  obtain⟨a,ea,oa,ia,na,ha,_,da,qa⟩:=g i hi
  obtain⟨b,eb,ob,ib,nb,hb,_,db,qb⟩:=g j hj
  unfold kas_ask
  rw[ea,eb]
  refine kat_lt ha da hb db (UZ qa qb ?_ h)
  have la:=qa.length
  have lb:=qb.length
  simp only[Array.length_toList] at la lb
  omega
theorem GR {vs:List Value}{ks:List Int}(hl:vs.length=ks.length)(hv:∀ i v,vs[i]? = some v→isI prog w (ks.getD i 0) v)(h2:2≤vs.length):Cmps prog w h0 vs (dN ltI ks 0):=by
 have hi:∀ v∈vs,∃ n t,v=Value.int n t:=fun v hm=>by
  obtain⟨i,hi,e⟩:=List.mem_iff_getElem.mp hm
  obtain⟨t,q⟩:=wW (hv i v (by rw[List.getElem?_eq_getElem hi,e]))
  exact⟨_,t,q⟩
 refine⟨oneType',fun A hu s hS=>⟨fun Q E h=>?_,fun i j C hi hj h=>?_⟩⟩
 ·obtain⟨v₁,v₂,rest,rfl⟩:∃ v₁ v₂ rest,vs=v₁::v₂::rest:=by
   match vs,h2 with
   |v₁::v₂::rest,_=>exact⟨v₁,v₂,rest,rfl⟩
  rw[keyKind_ints (intsAre_map _ hi)]
  exact wpAny_pure h
 ·have g:∀ k (hk:k<vs.length),∃ t,vs.getD k Value.none=.int (ks.getD k 0) t:=fun k hk=>by
   obtain⟨t,q⟩:=wW (hv k vs[k] (List.getElem?_eq_getElem hk))
   exact⟨t,by rw[← q];simp[List.getD,hk]⟩
  obtain⟨t,et⟩:=g i hi
  obtain⟨u,eu⟩:=g j hj
  unfold kas_ask
  rw[et,eu]
  exact kat_lt_int h
end
section
variable {K:Type}{lt':K→K→Bool}
theorem ZD {α : Type}{ks:List K}{vs:List α}{d:K}(hl:vs.length=ks.length){p:K × α}(h:p∈ks.zip vs):∃ i,vs[i]? = some p.2∧ks.getD i d=p.1:=by
 obtain⟨i,hi,e⟩:=List.mem_iff_getElem.mp h
 have h1:i<ks.length:=by rw[List.length_zip] at hi;omega
 have h2:i<vs.length:=by omega
 rw[List.getElem_zip] at e
 subst e
 exact⟨i,List.getElem?_eq_getElem h2,by simp[h1]⟩
end
structure Kind (prog:Program)(w:World){K:Type}(is:K→Value→Prop)(hash:K→Int)(lt':K→K→Bool)(d:K)(Fit:K→Prop)(h0:Heap):Prop where
 ord:Ord lt'
 inj:∀ {k k':K} {v:Value},is k v→is k' v→k=k'
 cmps:∀ {vs:List Value} {ks:List K},vs.length=ks.length→(∀ i v,vs[i]? = some v→is (ks.getD i d) v)→(∀ k∈ks,Fit k)→2≤vs.length→Cmps prog w h0 vs (dN lt' ks d)
theorem YS (prog:Program)(w:World)(h0:Heap):Kind prog w (isT prog w h0) (tupleKeyHash (intKind prog w)) _H.lexLt [] (·≠[]) h0:=⟨uS,isT.inj,fun h1 h2 h3 h4=>GS h1 h2 h3 h4⟩
theorem YR (prog:Program)(w:World)(h0:Heap):Kind prog w (isI prog w) (intKind prog w).hash ltI 0 (fun _=>True) h0:=⟨SI,fun a b=>(intKind prog w).inj _ _ _ a b,fun h1 h2 _ h4=>GR h1 h2 h4⟩
section
variable {prog:Program}{w:World}{A:Around}{E:Value→Shared→Prop}{s:Shared}{K:Type}{is:K→Value→Prop}{hash:K→Int}{lt':K→K→Bool}{d:K}{Fit:K→Prop}{h0:Heap}{S:Addr}{V:List Value}{seen:List K}
open Classical in
noncomputable def kOf (is:K→Value→Prop)(d:K)(e:Int × Value):K:=if h:∃ k,is k e.2 then choose h else d
open Classical in
theorem B9 {e:Int × Value}(h:∃ k,is k e.2):is (kOf is d e) e.2:=by
 unfold kOf
 rw[dif_pos h]
 exact choose_spec h
theorem iO {Q:Value→Shared→Prop}(kd:Kind prog w is hash lt' d Fit h0)(hh:A.handled=none)(hu:A.units+8<cLine)(hS:Sup h0 s.heap)(Z:SetK is hash S (wS w) V seen s.heap)(hf:∀ k∈seen,Fit k){U:List K}(hU:U.length≤63)(hU1:∀ k∈seen,k∈U)
  (h:∀ h' tk D c (ps:List (K × Value)),(∀ b o,s.heap.get? b=some o→h'.get? b=some o)→s.heap.objs.size≤D→h'.get? D=some (seqObj "list" (ps.map (·.2)).toArray c)→ps.map (·.1)=srt lt' seen→(∀ p∈ps,is p.1 p.2∧p.2∈V)→ps.length<64→Q (.ref D) { s with heap:=h',toks:=tk }) :
  wpAny (model prog w) A (call (.builtin "sorted") [.ref S]) Q E s:=by
 obtain⟨es,ep,t,ho,Z0,T,hl,hV⟩:=Z
 have st:Still w S es ep t:=⟨T,hl⟩
 have hn:es.size<64:=by
  have:=fL es.toList U Z0.nd fun e he=>by
   obtain⟨k',_,q⟩:=Z0.good e he
   exact⟨k',hU1 k' ((Z0.mem k').mpr ⟨e,he,q⟩),q⟩
  rw[Array.length_toList] at this
  omega
 have op:=mQ w S ep es
 have osz:=j6 w S ep es
 have good:∀ e∈(qR w S ep es).toList,is (kOf is d e) e.2∧e.2∈V:=fun e he=>by
  have he':=op.mem_iff.mp he
  obtain⟨k,_,q⟩:=Z0.good e he'
  exact⟨B9 ⟨k,q⟩,hV e he'⟩
 have nd0:(qR w S ep es).toList.Pairwise fun a b=>∀ k,is k a.2→¬ is k b.2:=(op.pairwise_iff fun {x y} h k hy hx=>h k hx hy).mpr Z0.nd
 generalize hoe:(qR w S ep es).toList=oe at *
 have hoel:oe.length<64:=by rw[op.length_eq,Array.length_toList];exact hn
 have hks:∀ i v,(oe.map (·.2))[i]? = some v→is ((oe.map (kOf is d)).getD i d) v∧v∈V:=fun i v hv=>by
  rw[List.getElem?_map] at hv
  cases hi:oe[i]? with
  |none=>rw[hi] at hv;cases hv
  |some e =>
   rw[hi] at hv
   cases hv
   have g:=good e (List.mem_of_getElem? hi)
   have:(oe.map (kOf is d)).getD i d=kOf is d e:=by rw[List.getD_eq_getElem?_getD,List.getElem?_map,hi];rfl
   rw[this];exact g
 have nd:(oe.map (kOf is d)).Nodup:=by
  unfold List.Nodup
  rw[List.pairwise_map]
  refine List.Pairwise.imp_of_mem (fun {a b} ha hb h e=>?_) nd0
  exact h _ (good a ha).1 (e▸(good b hb).1)
 have mem:∀ x,x∈oe.map (kOf is d)↔x∈seen:=fun x=>by
  rw[Z0.mem,List.mem_map]
  constructor
  ·rintro⟨e,he,rfl⟩
   exact⟨e,op.mem_iff.mp he,(good e he).1⟩
  ·rintro⟨e,he,q⟩
   exact⟨e,op.mem_iff.mpr he,kd.inj (good e (op.mem_iff.mpr he)).1 q⟩
 have hlen:(oe.map (·.2)).length=(oe.map (kOf is d)).length:=by simp
 refine Calls.call_function_entry kind_sorted plain_sorted entry_sorted (args_sorted1 _) ?_
 unfold Builtin.«sorted»
 refine wpAny_bind (m:=checkCount "sorted" 1 1 _) (wpAny_pure ?_)
 refine wpAny_bind (rX hh st ho (by omega) fun h1 tk1 kp1 hlt=>?_)
 rw[hoe]
 refine wpAny_bind (wpAny_newList ?_ (by rw[sizeLine_eq,List.length_map];omega))
 have hD:(h1.push (seqObj "list" (oe.map (·.2)).toArray 0)).get? h1.objs.size=some (seqObj "list" (oe.map (·.2)).toArray 0):=Heap.get?_push_size _ rfl
 have n0:h0.get? h1.objs.size=none:=by
  cases q:h0.get? h1.objs.size with
  |none=>rfl
  |some o=>exact absurd (Heap.lt_size (hS _ _ q)) (Nat.not_lt.mpr (Nat.le_of_lt hlt))
 show wpAny _ _ _ _ _ { s with heap:=h1.push (seqObj "list" (oe.map (·.2)).toArray 0),toks:=tk1 }
 refine wpAny_bind (wpAny_holding (wpAny_call_entry slot_list_sort ⟨_,hD,rfl⟩ entry_list_sort (YU (h0:=h0) (is:=is) kd.ord kd.inj (d:=d) (vs:=oe.map (·.2)) hlen (fun i v hv=>(hks i v hv).1) hD (by show A.units+2<cLine;omega) (by rw[List.length_map];omega) (fun h2=>kd.cmps hlen (fun i v hv=>(hks i v hv).1) (fun k hk=>hf k ((mem k).mp hk)) h2) (fun b o e=>Heap.get?_push_of_some _ (kp1 b o (hS b o e))) n0 fun ps pm nf=>⟨_,rfl,?_⟩) (args_list_sort _)))
 refine wpAny_pure ⟨_,rfl,?_⟩
 have hz:(h1.push (seqObj "list" (oe.map (·.2)).toArray 0)).objs.size=h1.objs.size+1:=size_push' ..
 have old:∀ b o,b≠h1.objs.size→(h1.push (seqObj "list" (oe.map (·.2)).toArray 0)).get? b=some o→((((h1.push (seqObj "list" (oe.map (·.2)).toArray 0)).update h1.objs.size (Obj.mapSeq fun _=>#[])).push (seqObj "tuple" (oe.map (·.2)).toArray 0)).push (seqObj "list" #[] 0)).get? b=some o:=fun b o hb e =>
  Heap.get?_push_of_some _ (Heap.get?_push_of_some _ ((Heap.get?_update_other _ _ (Ne.symm hb)).trans e))
 obtain⟨e1,he1⟩:∃ e1,((h1.push (seqObj "list" (oe.map (·.2)).toArray 0)).update h1.objs.size (Obj.mapSeq fun _=>#[])).get? h1.objs.size=some (seqObj "list" #[] e1):=⟨_,get?_update_seq hD (fun _=>#[])⟩
 have he6:=get?_update_seq (Heap.get?_push_of_some (seqObj "list" #[] 0) (Heap.get?_push_of_some (seqObj "tuple" (oe.map (·.2)).toArray 0) he1)) (fun _=>(ps.map (·.2)).toArray)
 have pk:(ps.map (·.1)).Perm (oe.map (kOf is d)):=by
  have:=pm.map (·.1)
  rwa [List.map_fst_zip (by omega)] at this
 refine h _ tk1 h1.objs.size _ ps (fun b o e=>?_) (Nat.le_of_lt hlt) he6 (BQ kd.ord nf (pk.nodup_iff.mpr nd) fun x=>by rw[pk.mem_iff,mem]) (fun p hp=>?_) (by have:=pk.length_eq;rw[List.length_map,List.length_map] at this;omega)
 ·have hb:b≠h1.objs.size:=fun z=>by
   subst z
   exact absurd (Heap.lt_size e) (Nat.not_lt.mpr (Nat.le_of_lt hlt))
  exact(Heap.get?_update_other _ _ (Ne.symm hb)).trans (old b o hb (Heap.get?_push_of_some _ (kp1 b o e)))
 ·obtain⟨i,e1,e2⟩:=ZD (d:=d) hlen (pm.mem_iff.mp hp)
  exact e2▸hks i _ e1
end
end _S
end
section
namespace _D
open PySem PySem.Spec PyProof.Rows _L
def y8:List D→Option (List (List Int))
 |[]=>some []
 |.tup ys::r=>(zN ys).bind fun k=>(y8 r).map (k::·)
 |_::_=>none
def tpD (k:List Int):D:=.tup (k.map D.int)
theorem fQ:∀ {ds:List D} {ks:List (List Int)},y8 ds=some ks→ds=ks.map tpD
 |[],ks,h=>by cases h;rfl
 |d::r,ks,h=>by
  cases d with
  |tup ys =>
   obtain⟨k,h1,h2⟩:=Option.bind_eq_some_iff.mp (show (zN ys).bind (fun k=>(y8 r).map (k::·))=some ks from h)
   obtain⟨m,h3,rfl⟩:=Option.map_eq_some_iff.mp h2
   rw[fQ h3,wJ h1];rfl
  |_=>cases h
theorem yI (ks:List (List Int)):y8 (ks.map tpD)=some ks:=by
 induction ks with
 |nil=>rfl
 |cons k ks ih =>
  show (zN (k.map D.int)).bind (fun k=>(y8 (ks.map tpD)).map (k::·))=_
  rw[uH,ih];rfl
def u3 (xs:List D):Option (List D):=match zN xs with
 |some ns=>if (_S.srt _S.ltI ns).length<64 then some ((_S.srt _S.ltI ns).map D.int) else none
 |none=>match y8 xs with
  |some ks=>if ((_S.srt _H.lexLt ks).length<64&&ks.all fun k=>!k.isEmpty) then some ((_S.srt _H.lexLt ks).map tpD) else none
  |none=>none
def nO:D→Option (List D)
 |.lst xs=>some xs
 |.tup xs=>some xs
 |_=>none
def jG (f:DE):DE:=fun env S=>(f env S).bind fun d S1=>match (nO d).bind u3 with
 |some ys=>.ok (.lst ys) S1
 |none=>.bad
theorem Y1 {K:Type}{lt':K→K→Bool}(O:_S.Ord lt')(ks:List K)(d:K):_S.srt lt' (_S.yQ (fun i=>ks.getD i d) ks.length)=_S.srt lt' ks:=
 _S.bJ O (_S.pO O _) (_S.pO O _) fun x=>by
  rw[_S.u6 O,_S.u6 O,_S.jU]
  constructor
  ·rintro⟨i,hi,rfl⟩
   simp[List.getD,hi]
  ·intro hx
   obtain⟨i,hi,e⟩:=List.mem_iff_getElem.mp hx
   exact⟨i,hi,by simp[List.getD,hi,e]⟩
section
variable {X:Cx}{pins:List (Addr × Obj)}{σ : _L.St}{H P:Hp}{α : List Addr}{S:Sto}{s:Shared}
inductive NewL (X:Cx)(pins:List (Addr × Obj))(σ : _L.St)(P:Hp)(α : List Addr)(S:Sto)(ys:List D)(u:Value)(s':Shared):Prop
 |mk (v:V) (H' P':Hp) (I:Inv X pins σ H' s') (rv:qJ v u) (r:Rel X.K H' P' α S) (e:qG P P') (rp:Rep X.K P' α (.lst ys) v):NewL X pins σ P α S ys u s'
theorem mY {K:Type}{is:K→Value→Prop}{hash:K→Int}{lt':K→K→Bool}{d:K}{Fit:K→Prop}(kd:_S.Kind X.prog X.w is hash lt' d Fit s.heap)(ad:_S.AddS X.prog X.w is hash s.heap)(hc:X.calm=true)(hu:X.A.units+64<cLine)(I:Inv X pins σ H s)(r:Rel X.K H P α S){a:Addr}{its:List Value}
  (ha:s.heap.IsList a its.toArray∨s.heap.IsTuple a its.toArray) (ks:List K) (hl:ks.length=its.length) (hk:∀ i v,its[i]? = some v→is (ks.getD i d) v) (hn:(_S.srt lt' ks).length<64) (hf:∀ k∈ks,Fit k) (enc:K→D)
  (back:∀ k v,is k v→v∈its→∃ vv,qJ vv v∧Rep X.K P α (enc k) vv) {E:Value→Shared→Prop} :
  wpAny (model X.prog X.w) X.A (call (.type "set") [.ref a]) (fun u s1=>wpAny (model X.prog X.w) X.A (call (.builtin "sorted") [u]) (NewL X pins σ P α S ((_S.srt lt' ks).map enc)) E s1) E s:=by
 have hsz:its.toArray.size=ks.length:=by rw[List.size_toArray,hl]
 have mem:∀ k,k∈_S.srt lt' ks↔k∈ks:=fun k=>_S.u6 kd.ord k ks
 have inn:∀ i,i<ks.length→ks.getD i d∈ks:=fun i hi=>by simp[List.getD,hi]
 refine _S.aK (U:=_S.srt lt' ks) ad (I.ok.hd hc) (by omega) ha (fun i=>ks.getD i d) (fun i v hv=>hk i v (by simpa using hv)) (by omega) (fun i hi=>(mem _).mpr (inn i (by rw[← hsz];exact hi))) fun h1 tk1 Z kp=>?_
 have seen:∀ k∈_S.yQ (fun i=>ks.getD i d) its.toArray.size,k∈ks:=fun k hk'=>by
  obtain⟨i,hi,rfl⟩:=_S.jU.mp hk'
  exact inn i (by rw[← hsz];exact hi)
 have I1:Inv X pins σ H { s with heap:=h1,toks:=tk1 }:=I.kept kp
 refine _S.iO (s:={ s with heap:=h1,toks:=tk1 }) kd (I.ok.hd hc) (by omega) kp Z (fun k hk'=>hf k (seen k hk')) (U:=_S.srt lt' ks) (by omega) (fun k hk'=>(mem k).mpr (seen k hk')) fun h2 tk2 D c ps kp2 hD hob hps hp hpl=>?_
 rw[hsz,Y1 kd.ord] at hps
 have vv:∀ (ps:List (K × Value)),(∀ p∈ps,is p.1 p.2∧p.2∈its)→∃ vs,qN vs (ps.map (·.2))∧qE X.K P α ((ps.map (·.1)).map enc) vs:=by
  intro ps
  induction ps with
  |nil=>exact fun _=>⟨[],.nil,.nil⟩
  |cons p ps ih =>
   intro h
   obtain⟨vs,a1,a2⟩:=ih fun q hq=>h q (by simp[hq])
   obtain⟨v,b1,b2⟩:=back p.1 p.2 (h p (by simp)).1 (h p (by simp)).2
   exact⟨v::vs,.cons b1 a1,.cons b2 a2⟩
 obtain⟨vs,a1,a2⟩:=vv ps fun p hpm=>by simpa using hp p hpm
 rw[hps] at a2
 have nd:([(D,HO.lst vs)].map (·.1)).Nodup:=by simp
 have I2:Inv X pins σ (vE H [(D,HO.lst vs)]) { s with heap:=h2,toks:=tk2 }:=Inv.laidL (s:={ s with heap:=h1,toks:=tk1 }) (L:=[(D,HO.lst vs)]) (t':=tk2) I1 kp2 (fun p hpm=>by
  have:p=(D,HO.lst vs):=by simpa using hpm
  subst this;exact hD) fun p hpm=>by
  have:p=(D,HO.lst vs):=by simpa using hpm
  subst this
  refine⟨?_,ps.map (·.2),c,a1,hob⟩
  have:=a1.length
  rw[List.length_map] at this
  rw[this,sizeLine_eq]
  omega
 obtain⟨r2,e2⟩:=r.pureL (L:=[(D,HO.lst vs)]) (fun p hpm=>I1.hok.fresh (by
  have:p=(D,HO.lst vs):=by simpa using hpm
  subst this;exact hD)) nd
 exact⟨.ref D,_,_,I2,rfl,r2,e2,kN (.inl (.inl (fR nd (by simp)))) (qE.mono e2 (List.prefix_refl _) _ _ a2)⟩
end
section
variable {X:Cx}{e:Expr}{fa:DE}{p1 p2 pos1 pos2:Pos}
theorem o2:bootBuiltins "sorted" = some (.builtin "sorted"):=by decide +kernel
theorem tW {prog:Program}{w:World}:∀ {k:List Int} {us:List Value},qN (k.map V.int) us→ItemsAre (intKind prog w) k us
 |[],us,h=>by cases h;exact .nil
 |i::k,us,h=>by
  cases h with
  |cons q t =>
   obtain⟨tk,rfl⟩:=q
   exact .cons (intKind_is _ _ _ _) (tW t)
theorem Z5 {pins:List (Addr × Obj)}{σ : _L.St}{H P:Hp}{α : List Addr}{S:Sto}{s:Shared}{d:D}{xs:List D}{v:V}{vv:Value}(I:Inv X pins σ H s)(r:Rel X.K H P α S)(p:Rep X.K P α d v)(q:qJ v vv)(h:nO d=some xs) :
  ∃ a vs its,vv=.ref a∧qE X.K P α xs vs∧qN vs its∧(s.heap.IsList a its.toArray∨s.heap.IsTuple a its.toArray)∧xs.length=its.length:=by
 cases d with
 |lst ys =>
  cases h
  obtain⟨a,vs,its,n,rfl,_,t,rv,e,l,_⟩:=uJ I r p
  exact⟨a,vs,its,q,t,rv,.inl ⟨_,e,rfl,n,rfl⟩,l⟩
 |tup ys =>
  cases h
  obtain⟨a,vs,its,rfl,_,t,rv,⟨o,e,hc,n,hd⟩,l,_⟩:=vT I r p
  exact⟨a,vs,its,q,t,rv,.inr ⟨o,e,hc,n,hd⟩,l⟩
 |_=>cases h
set_option tactic.hygienic true in
theorem aR (hc:X.calm=true)(hu:X.A.units+64<cLine)(hg:Gl X "sorted")(hm:X.mg "sorted" = none)(hg2:Gl X "set")(hm2:X.mg "set" = none)(ha:PE X e (tD X fa))(he:starEach [e] X.env=(false,eval e X.env)::starEach [] X.env:=by rfl) :
  PE X (.Call (.Name "sorted" p1) [.Call (.Name "set" p2) [e] [] pos2] [] pos1) (tD X (jG fa)):=by
 intro pins s σ H Q I h
 obtain⟨P,α,env,S,r,re,af⟩:=h
 refine wpAny_Call_Name_kw (uI I hg hm o2 ?_)
 refine PyProof.Rows.callWith_builtin1 ?_ rfl rfl
 refine Calls.spliced_cons ?_
 refine Call_ (uI I hg2 hm2 ZL (PyProof.Rows.callWith_type1 ?_ he rfl))
 rw[he]
 refine Calls.spliced_cons (thn (xB ha I r re af) fun vv s1 ⟨v,H1,P1,α1,d,S1,G1,af1⟩=>Calls.spliced_nil ?_)
 cases hq:(nO d).bind u3 with
 |none=>simp only[hq] at af1;exact False.elim af1
 |some ys =>
   simp only[hq] at af1
   obtain⟨xs,hd,hs⟩:=Option.bind_eq_some_iff.mp hq
   obtain⟨a,vs,its,rfl,t1,rv1,e1,l1⟩:=Z5 G1.inv G1.rel G1.rep G1.val hd
   have main:wpAny (model X.prog X.w) X.A (call (.type "set") [.ref a]) (fun u s1=>wpAny (model X.prog X.w) X.A (call (.builtin "sorted") [u]) (NewL X pins σ P1 α1 S1 ys) X.xe s1) X.xe s1:=by
    unfold u3 at hs
    cases hi:zN xs with
    |some ns =>
     rw[hi] at hs
     dsimp only at hs
     split at hs
     ·rename_i hlt
      cases hs
      have:=wJ hi
      subst this
      have:=xN t1
      subst this
      refine mY (d:=0) (_S.YR X.prog X.w s1.heap) (_S.G8 s1.heap) hc hu G1.inv G1.rel e1 ns (by simpa using l1) (fun i u hu'=>?_) hlt (fun _ _=>trivial) D.int fun k u hk _=>?_
      ·have hi:IntsAre its ns:=by simpa using vM rv1
       obtain⟨t,rfl⟩:=PyProof.Rows.IntsAre.int_at hi i u hu'
       exact intKind_is _ _ _ _
      ·obtain⟨t,rfl⟩:=_S.wW hk
       exact⟨.int k,⟨t,rfl⟩,by simp only[Rep]⟩
     ·cases hs
    |none =>
     rw[hi] at hs
     dsimp only at hs
     cases ht:y8 xs with
     |none=>rw[ht] at hs;cases hs
     |some ks =>
      rw[ht] at hs
      dsimp only at hs
      split at hs
      ·rename_i hlt
       cases hs
       have hlt':=Bool.and_eq_true_iff.mp hlt
       have:=fQ ht
       subst this
       have at':∀ (i:Nat) (u:Value),its[i]? = some u→∃ b,u=.ref b∧IsTupleKey (intKind X.prog X.w) s1.heap (ks.getD i []) b∧∃ vv,qJ vv u∧Rep X.K P1 α1 (tpD (ks.getD i [])) vv:=fun i u hu'=>by
        have hii:i<its.length:=(List.getElem?_eq_some_iff.mp hu').1
        have hik:i<ks.length:=by rw[List.length_map] at l1;omega
        obtain⟨v,p,q,_⟩:=wK t1 rv1 (j:=i) (by rw[List.size_toArray];exact hii)
        have hd:(ks.map tpD).getD i D.non=tpD (ks.getD i []):=by simp[List.getD,hik]
        rw[hd] at p
        have hu2:its.toArray[i]'(by rw[List.size_toArray];exact hii)=u:=by
         rw[List.getElem?_eq_getElem hii] at hu'
         simpa using hu'
        rw[hu2] at q
        obtain⟨b,ws,us,rfl,sq,t,rv,⟨o,ho,hcl,m,hd⟩,_,_⟩:=vT G1.inv G1.rel (show Rep X.K P1 α1 (.tup ((ks.getD i []).map D.int)) v from p)
        cases (show u=Value.ref b from q)
        have:=xN t
        subst this
        exact⟨b,rfl,⟨o,us.toArray,m,ho,hcl,hd,by simpa using tW rv⟩,.ref b,rfl,p⟩
       refine mY (d:=[]) (_S.YS X.prog X.w s1.heap) (_S.G9 s1.heap) hc hu G1.inv G1.rel e1 ks (by simpa using l1) (fun i u hu'=>?_) (of_decide_eq_true hlt'.1) (fun k hk=>?_) tpD fun k u hk hm'=>?_
       ·obtain⟨b,rfl,q,_⟩:=at' i u hu'
        exact⟨b,rfl,q⟩
       ·have:=List.all_eq_true.mp hlt'.2 k hk
        intro z
        subst z
        cases this
       ·obtain⟨i,hi',rfl⟩:=List.mem_iff_getElem.mp hm'
        obtain⟨b,eb,q,w,rw',pw⟩:=at' i _ (List.getElem?_eq_getElem hi')
        have:k=ks.getD i []:=_S.isT.inj hk ⟨b,eb,q⟩
        rw[this]
        exact⟨w,rw',pw⟩
      ·cases hs
   refine thn main fun u s2 h2=>Calls.spliced_nil (thn h2 fun u' s3 ⟨v,H',P',I',rv,r',e',rp⟩=>?_)
   exact⟨v,H',I',rv,af1 v H' P' α1 r' (G1.same.trans e') G1.pre rp⟩
end
end _D
end
section
namespace _D
open PySem PySem.Spec PyProof.Rows _L
section
variable {X:Cx}{cm:Bool}{k:Nat}{e:Expr}{fa:DE}{p1 p2 pos1 pos2:Pos}
theorem iH (hc:X.calm=true)(hr:RoomC cm k X.A)(hg:Gl X "sorted")(hm:X.mg "sorted" = none)(hg2:Gl X "set")(hm2:X.mg "set" = none)(ha:QE X e fa)(he:starEach [e] X.env=(false,eval e X.env)::starEach [] X.env:=by rfl) :
  QE X (.Call (.Name "sorted" p1) [.Call (.Name "set" p2) [e] [] pos2] [] pos1) (jG fa):=⟨aR hc hr.units hg hm hg2 hm2 ha.1 he⟩
end
end _D
end
section
namespace _D
open PySem PySem.Spec PyProof.Rows _L
mutual
def pyD:D→Option PyData
 |.non=>some .none
 |.bl b=>some (.bool b)
 |.int i=>some (.int i)
 |.str x=>some (.str x)
 |.tup xs=>(fN xs).map .tuple
 |.lst xs=>(fN xs).map .list
 |.dct0=>some (.dict [])
 |_=>none
def fN:List D→Option (List PyData)
 |[]=>some []
 |d::ds=>(pyD d).bind fun x=>(fN ds).map (x::·)
end
end _D
end
section
namespace _S
open PySem PySem.W PyProof.Rows
section
variable {prog:Program}{w:World}{A:Around}{E:Value→Shared→Prop}{s:Shared}{K:Type}{is:K→Value→Prop}{hash:K→Int}{lt':K→K→Bool}{d:K}{Fit:K→Prop}{h0:Heap}
theorem iN {Q:Value→Shared→Prop}(kd:Kind prog w is hash lt' d Fit h0)(hu:A.units+8<cLine)(hS:Sup h0 s.heap){l:Addr}{vs:List Value}(hl:s.heap.IsList l vs.toArray∨s.heap.IsTuple l vs.toArray)(ks:List K)(hlen:vs.length=ks.length)(hks:∀ i v,vs[i]? = some v→is (ks.getD i d) v)(hf:∀ k∈ks,Fit k)(hoel:vs.length≤100000)
  (h:∀ (h1 h':Heap) (tk:Nat) (D:Addr) (c:Nat) (ps:List (K × Value)),(∀ b o,s.heap.get? b=some o→h1.get? b=some o)→(∀ b o,h1.get? b=some o→h'.get? b=some o)→h1.objs.size≤D→h'.get? D=some (seqObj "list" (ps.map (·.2)).toArray c)→ps.map (·.1)=wY lt' ks→(∀ p∈ps,is p.1 p.2∧p.2∈vs)→ps.length=ks.length→Q (.ref D) { s with heap:=h',toks:=tk }) :
  wpAny (model prog w) A (call (.builtin "sorted") [.ref l]) Q E s:=by
 refine Calls.call_function_entry kind_sorted plain_sorted entry_sorted (args_sorted1 _) ?_
 unfold Builtin.«sorted»
 refine wpAny_bind (m:=checkCount "sorted" 1 1 _) (wpAny_pure ?_)
 have hcol:∀ {R:List Value→Shared→Prop},(∀ h1:Heap,(∀ b o,s.heap.get? b=some o→h1.get? b=some o)→R vs { s with heap:=h1 }) → wpAny (model prog w) A.in1 (collect (.ref l)) R E s:=fun {R} hR=>by
  have e:vs.toArray.toList=vs:=by simp
  rcases hl with⟨o,ho,hc,n,hd⟩|⟨o,ho,hc,n,hd⟩
  ·exact wpAny_collect_seq l (.inl rfl) ho hc hd (fun h' hk=>by rw[e];exact hR h' hk) (by rw[List.size_toArray,sizeLine_eq];omega)
  ·exact wpAny_collect_seq l (.inr rfl) ho hc hd (fun h' hk=>by rw[e];exact hR h' hk) (by rw[List.size_toArray,sizeLine_eq];omega)
 refine wpAny_bind (hcol fun h1 kp1=>?_)
 refine wpAny_bind (wpAny_newList ?_ (by rw[sizeLine_eq];omega))
 have hD:(h1.push (seqObj "list" vs.toArray 0)).get? h1.objs.size=some (seqObj "list" vs.toArray 0):=Heap.get?_push_size _ rfl
 have n0:h0.get? h1.objs.size=none:=by
  cases q:h0.get? h1.objs.size with
  |none=>rfl
  |some o=>exact absurd (Heap.lt_size (kp1 _ _ (hS _ _ q))) (Nat.lt_irrefl _)
 show wpAny _ _ _ _ _ { s with heap:=h1.push (seqObj "list" vs.toArray 0),toks:=s.toks }
 refine wpAny_bind (wpAny_holding (wpAny_call_entry slot_list_sort ⟨_,hD,rfl⟩ entry_list_sort (YU (h0:=h0) (is:=is) kd.ord kd.inj (d:=d) (vs:=vs) hlen hks hD (by show A.units+2<cLine;omega) hoel (fun h2=>kd.cmps hlen hks hf h2) (fun b o e=>Heap.get?_push_of_some _ (kp1 b o (hS b o e))) n0 fun ps pm nf=>⟨_,rfl,?_⟩) (args_list_sort _)))
 refine wpAny_pure ⟨_,rfl,?_⟩
 have hz:(h1.push (seqObj "list" vs.toArray 0)).objs.size=h1.objs.size+1:=size_push' ..
 have old:∀ b o,b≠h1.objs.size→(h1.push (seqObj "list" vs.toArray 0)).get? b=some o→((((h1.push (seqObj "list" vs.toArray 0)).update h1.objs.size (Obj.mapSeq fun _=>#[])).push (seqObj "tuple" vs.toArray 0)).push (seqObj "list" #[] 0)).get? b=some o:=fun b o hb e =>
  Heap.get?_push_of_some _ (Heap.get?_push_of_some _ ((Heap.get?_update_other _ _ (Ne.symm hb)).trans e))
 obtain⟨e1,he1⟩:∃ e1,((h1.push (seqObj "list" vs.toArray 0)).update h1.objs.size (Obj.mapSeq fun _=>#[])).get? h1.objs.size=some (seqObj "list" #[] e1):=⟨_,get?_update_seq hD (fun _=>#[])⟩
 have he6:=get?_update_seq (Heap.get?_push_of_some (seqObj "list" #[] 0) (Heap.get?_push_of_some (seqObj "tuple" vs.toArray 0) he1)) (fun _=>(ps.map (·.2)).toArray)
 have pk:(ps.map (·.1)).Perm ks:=by
  have:=pm.map (·.1)
  rwa [List.map_fst_zip (by omega)] at this
 refine h h1 _ s.toks h1.objs.size _ ps kp1 (fun b o e=>?_) (Nat.le_refl _) he6 (nF kd.ord nf (bI kd.ord ks) (pk.trans (yG ks).symm)) (fun p hp=>?_) (by have:=pk.length_eq;rwa [List.length_map] at this)
 ·have hb:b≠h1.objs.size:=fun z=>by
   subst z
   exact absurd (Heap.lt_size e) (Nat.lt_irrefl _)
  exact(Heap.get?_update_other _ _ (Ne.symm hb)).trans (old b o hb (Heap.get?_push_of_some _ e))
 ·obtain⟨i,e1,e2⟩:=ZD (d:=d) hlen (pm.mem_iff.mp hp)
  exact⟨e2▸hks i _ e1,List.mem_of_getElem? e1⟩
end
end _S
end
section
namespace _D
open PySem PySem.Spec PyProof.Rows _L
def j8 (xs:List D):Option (List D):=match zN xs with
 |some ns=>if ns.length≤100000 then some ((_S.wY _S.ltI ns).map D.int) else none
 |none=>match y8 xs with
  |some ks=>if (decide (ks.length≤100000)&&ks.all fun k=>!k.isEmpty) then some ((_S.wY _H.lexLt ks).map tpD) else none
  |none=>none
def wV:DF:=fun ds S=>match ds with
 |[d]=>match (nO d).bind j8 with
  |some ys=>.ok (.lst ys) S
  |none=>.bad
 |_=>.bad
section
variable {X:Cx}{pins:List (Addr × Obj)}{σ : _L.St}{H P:Hp}{α : List Addr}{S:Sto}{s:Shared}
theorem lQ {K:Type}{is:K→Value→Prop}{hash:K→Int}{lt':K→K→Bool}{d:K}{Fit:K→Prop}(kd:_S.Kind X.prog X.w is hash lt' d Fit s.heap)(hu:X.A.units+64<cLine)(I:Inv X pins σ H s)(r:Rel X.K H P α S){a:Addr}{its:List Value}
  (ha:s.heap.IsList a its.toArray∨s.heap.IsTuple a its.toArray) (ks:List K) (hl:ks.length=its.length) (hk:∀ i v,its[i]? = some v→is (ks.getD i d) v) (hn:ks.length≤100000) (hf:∀ k∈ks,Fit k) (enc:K→D)
  (back:∀ k v,is k v→v∈its→∃ vv,qJ vv v∧Rep X.K P α (enc k) vv) {E:Value→Shared→Prop} :
  wpAny (model X.prog X.w) X.A (call (.builtin "sorted") [.ref a]) (NewL X pins σ P α S ((_S.wY lt' ks).map enc)) E s:=by
 refine _S.iN kd (by omega) (fun _ _ e=>e) ha ks hl.symm hk hf (by omega) fun h1 h2 tk2 D c ps kp1 kp2 hD hob hps hp hpl=>?_
 have I1:Inv X pins σ H { s with heap:=h1,toks:=s.toks }:=I.kept kp1
 have vv:∀ (ps:List (K × Value)),(∀ p∈ps,is p.1 p.2∧p.2∈its)→∃ vs,qN vs (ps.map (·.2))∧qE X.K P α ((ps.map (·.1)).map enc) vs:=by
  intro ps
  induction ps with
  |nil=>exact fun _=>⟨[],.nil,.nil⟩
  |cons p ps ih =>
   intro h
   obtain⟨vs,a1,a2⟩:=ih fun q hq=>h q (by simp[hq])
   obtain⟨v,b1,b2⟩:=back p.1 p.2 (h p (by simp)).1 (h p (by simp)).2
   exact⟨v::vs,.cons b1 a1,.cons b2 a2⟩
 obtain⟨vs,a1,a2⟩:=vv ps hp
 rw[hps] at a2
 have nd:([(D,HO.lst vs)].map (·.1)).Nodup:=by simp
 have I2:Inv X pins σ (vE H [(D,HO.lst vs)]) { s with heap:=h2,toks:=tk2 }:=Inv.laidL (s:={ s with heap:=h1,toks:=s.toks }) (L:=[(D,HO.lst vs)]) (t':=tk2) I1 kp2 (fun p hpm=>by
  have:p=(D,HO.lst vs):=by simpa using hpm
  subst this;exact hD) fun p hpm=>by
  have:p=(D,HO.lst vs):=by simpa using hpm
  subst this
  refine⟨?_,ps.map (·.2),c,a1,hob⟩
  have:=a1.length
  rw[List.length_map] at this
  rw[this,sizeLine_eq]
  omega
 obtain⟨r2,e2⟩:=r.pureL (L:=[(D,HO.lst vs)]) (fun p hpm=>I1.hok.fresh (by
  have:p=(D,HO.lst vs):=by simpa using hpm
  subst this;exact hD)) nd
 exact⟨.ref D,_,_,I2,rfl,r2,e2,kN (.inl (.inl (fR nd (by simp)))) (qE.mono e2 (List.prefix_refl _) _ _ a2)⟩
set_option tactic.hygienic true in
theorem o7 (hu:X.A.units+64<cLine):y7 X (.builtin "sorted") wV:=by
 intro pins σ H s P α S vs us ds Q I r rv rp af
 match ds,af,rp with
 |[],af,_=>exact False.elim af
 |_::_::_,af,_=>exact False.elim af
 |[d],af,rp =>
  simp only[wV] at af
  cases hq:(nO d).bind j8 with
  |none=>rw[hq] at af;exact False.elim af
  |some ys =>
   rw[hq] at af
   obtain⟨xs,hd,hs⟩:=Option.bind_eq_some_iff.mp hq
   obtain⟨v,u,rfl,rfl,p,q⟩:=vO rp rv
   obtain⟨a,vs,its,rfl,t1,rv1,e1,l1⟩:=Z5 I r p q hd
   have main:wpAny (model X.prog X.w) X.A (call (.builtin "sorted") [.ref a]) (NewL X pins σ P α S ys) X.xe s:=by
    unfold j8 at hs
    cases hi:zN xs with
    |some ns =>
     rw[hi] at hs
     dsimp only at hs
     split at hs
     ·rename_i hlt
      cases hs
      have:=wJ hi
      subst this
      have:=xN t1
      subst this
      refine lQ (d:=0) (_S.YR X.prog X.w s.heap) hu I r e1 ns (by simpa using l1) (fun i u hu'=>?_) hlt (fun _ _=>trivial) D.int fun k u hk _=>?_
      ·have hi:IntsAre its ns:=by simpa using vM rv1
       obtain⟨t,rfl⟩:=PyProof.Rows.IntsAre.int_at hi i u hu'
       exact intKind_is _ _ _ _
      ·obtain⟨t,rfl⟩:=_S.wW hk
       exact⟨.int k,⟨t,rfl⟩,by simp only[Rep]⟩
     ·cases hs
    |none =>
     rw[hi] at hs
     dsimp only at hs
     cases ht:y8 xs with
     |none=>rw[ht] at hs;cases hs
     |some ks =>
      rw[ht] at hs
      dsimp only at hs
      split at hs
      ·rename_i hlt
       cases hs
       rw[Bool.and_eq_true,decide_eq_true_eq] at hlt
       have:=fQ ht
       subst this
       have at':∀ (i:Nat) (u:Value),its[i]? = some u→∃ b,u=.ref b∧IsTupleKey (intKind X.prog X.w) s.heap (ks.getD i []) b∧∃ vv,qJ vv u∧Rep X.K P α (tpD (ks.getD i [])) vv:=fun i u hu'=>by
        have hii:i<its.length:=(List.getElem?_eq_some_iff.mp hu').1
        have hik:i<ks.length:=by rw[List.length_map] at l1;omega
        obtain⟨v,p,q,_⟩:=wK t1 rv1 (j:=i) (by rw[List.size_toArray];exact hii)
        have hd:(ks.map tpD).getD i D.non=tpD (ks.getD i []):=by simp[List.getD,hik]
        rw[hd] at p
        have hu2:its.toArray[i]'(by rw[List.size_toArray];exact hii)=u:=by
         rw[List.getElem?_eq_getElem hii] at hu'
         simpa using hu'
        rw[hu2] at q
        obtain⟨b,ws,us,rfl,sq,t,rv,⟨o,ho,hcl,m,hd⟩,_,_⟩:=vT I r (show Rep X.K P α (.tup ((ks.getD i []).map D.int)) v from p)
        cases (show u=Value.ref b from q)
        have:=xN t
        subst this
        exact⟨b,rfl,⟨o,us.toArray,m,ho,hcl,hd,by simpa using tW rv⟩,.ref b,rfl,p⟩
       refine lQ (d:=[]) (_S.YS X.prog X.w s.heap) hu I r e1 ks (by simpa using l1) (fun i u hu'=>?_) hlt.1 (fun k hk=>?_) tpD fun k u hk hm'=>?_
       ·obtain⟨b,rfl,q,_⟩:=at' i u hu'
        exact⟨b,rfl,q⟩
       ·have:=List.all_eq_true.mp hlt.2 k hk
        intro z
        subst z
        cases this
       ·obtain⟨i,hi',rfl⟩:=List.mem_iff_getElem.mp hm'
        obtain⟨b,eb,q,w,rw',pw⟩:=at' i _ (List.getElem?_eq_getElem hi')
        have:k=ks.getD i []:=_S.isT.inj hk ⟨b,eb,q⟩
        rw[this]
        exact⟨w,rw',pw⟩
      ·cases hs
   refine thn main fun u' s3 ⟨v,H',P',I',rv,r',e',rp⟩=>?_
   exact⟨v,H',I',rv,af v H' P' α r' e' (List.prefix_refl _) rp⟩
end
def pX:DF:=fun ds S=>match ds with
 |[.lst (.int i::xs)]=>match zN xs with
  |some ns=>.ok (.int (ns.foldl max i)) S
  |none=>.bad
 |_=>.bad
def pY:DF:=fun ds S=>match ds with
 |[.lst (.int i::xs)]=>match zN xs with
  |some ns=>.ok (.int (ns.foldl min i)) S
  |none=>.bad
 |_=>.bad
theorem mC {its:List Value}{ns:List Int}(h:IntsAre its ns):∃ xs:List (Int × Tok),its=xs.map (fun p=>Value.int p.1 p.2)∧ns=xs.map (·.1):=by
 induction h with
 |nil=>exact⟨[],rfl,rfl⟩
 |cons n t h ih =>
  obtain⟨xs,rfl,rfl⟩:=ih
  exact⟨(n,t)::xs,rfl,rfl⟩
theorem sH:∀ (ns:List Int) (i:Int),ns.foldl max i∈i::ns∧∀ a∈i::ns,a≤ns.foldl max i
 |[],i=>⟨by simp,fun a ha=>by simp at ha;subst ha;exact Int.le_refl _⟩
 |n::ns,i=>by
  obtain⟨h1,h2⟩:=sH ns (max i n)
  refine⟨?_,fun a ha=>?_⟩
  ·rcases List.mem_cons.mp h1 with h|h
   ·rcases Int.le_total i n with z|z
    ·rw[List.foldl_cons,h,Int.max_eq_right z];simp
    ·rw[List.foldl_cons,h,Int.max_eq_left z];simp
   ·exact List.mem_cons_of_mem _ (List.mem_cons_of_mem _ h)
  ·have h3:=h2 (max i n) (by simp)
   rcases List.mem_cons.mp ha with rfl|ha
   ·exact Int.le_trans (Int.le_max_left _ _) h3
   ·rcases List.mem_cons.mp ha with rfl|ha
    ·exact Int.le_trans (Int.le_max_right _ _) h3
    ·exact h2 a (List.mem_cons_of_mem _ ha)
theorem sI:∀ (ns:List Int) (i:Int),ns.foldl min i∈i::ns∧∀ a∈i::ns,ns.foldl min i≤a
 |[],i=>⟨by simp,fun a ha=>by simp at ha;subst ha;exact Int.le_refl _⟩
 |n::ns,i=>by
  obtain⟨h1,h2⟩:=sI ns (min i n)
  refine⟨?_,fun a ha=>?_⟩
  ·rcases List.mem_cons.mp h1 with h|h
   ·rcases Int.le_total i n with z|z
    ·rw[List.foldl_cons,h,Int.min_eq_left z];simp
    ·rw[List.foldl_cons,h,Int.min_eq_right z];simp
   ·exact List.mem_cons_of_mem _ (List.mem_cons_of_mem _ h)
  ·have h3:=h2 (min i n) (by simp)
   rcases List.mem_cons.mp ha with rfl|ha
   ·exact Int.le_trans h3 (Int.min_le_left _ _)
   ·rcases List.mem_cons.mp ha with rfl|ha
    ·exact Int.le_trans h3 (Int.min_le_right _ _)
    ·exact h2 a (List.mem_cons_of_mem _ ha)
theorem bA (xs:List (Int × Tok))(i:Nat)(hi:i<xs.length):numAt xs.toArray i=(xs.map (·.1))[i]'(by simpa using hi):=by
 simp[numAt,hi]
section
variable {X:Cx}
set_option tactic.hygienic true in
theorem VG (hc:X.calm=true):y7 X (.builtin "max") pX:=by
 intro pins σ H s P α S vs us ds Q I r rv rp af
 unfold pX at af
 split at af
 ·rename_i i xs
  cases hi:zN xs with
  |none=>rw[hi] at af;exact False.elim af
  |some ns =>
   rw[hi] at af
   have:=wJ hi
   subst this
   obtain⟨v,u,rfl,rfl,p,q⟩:=vO rp rv
   obtain⟨a,ws,its,n,rfl,_,t,rvi,e,l,_⟩:=uJ I r p
   cases (show u=Value.ref a from q)
   have t':qE X.K P α ((i::ns).map D.int) ws:=t
   cases xN t'
   obtain⟨ps,rfl,hps⟩:=mC (show IntsAre its (i::ns) by simpa using vM rvi)
   have hpl:0<ps.length:=by
    have:=congrArg List.length hps
    simp at this
    omega
   have hL:s.heap.IsList a (intItems ps.toArray):=⟨_,e,rfl,n,by simp[intItems]⟩
   refine max_intList (I.ok.hd hc) hL (by simpa using hpl) fun v h' tk hv hk=>?_
   obtain⟨tk',rfl⟩:=intItems_at hv
   obtain⟨b1,b2⟩:=argBest_gt (numAt ps.toArray) (ps.toArray.size-1)
   have hz:ps.toArray.size=ps.length:=by simp
   generalize argBest (fun i j=>decide (numAt ps.toArray i>numAt ps.toArray j)) (ps.toArray.size-1)=m at b1 b2 hv
   have hm:m<ps.length:=by omega
   obtain⟨f1,f2⟩:=sH ns i
   have hM:numAt ps.toArray m=ns.foldl max i:=by
    have h1:numAt ps.toArray m∈i::ns:=by rw[bA ps m hm,hps];exact List.getElem_mem _
    refine Int.le_antisymm (f2 _ h1) ?_
    rw[hps] at f1
    obtain⟨j,hj,ej⟩:=List.mem_iff_getElem.mp f1
    have hj':j<ps.length:=by simpa using hj
    have:=b2 j (by omega)
    rw[bA ps j hj',ej] at this
    exact this
   exact⟨.int _,H,I.kept (t':=tk) hk,⟨tk',rfl⟩,xr af r (by simp only[Rep];rw[hM])⟩
 ·exact False.elim af
set_option tactic.hygienic true in
theorem VH (hc:X.calm=true):y7 X (.builtin "min") pY:=by
 intro pins σ H s P α S vs us ds Q I r rv rp af
 unfold pY at af
 split at af
 ·rename_i i xs
  cases hi:zN xs with
  |none=>rw[hi] at af;exact False.elim af
  |some ns =>
   rw[hi] at af
   have:=wJ hi
   subst this
   obtain⟨v,u,rfl,rfl,p,q⟩:=vO rp rv
   obtain⟨a,ws,its,n,rfl,_,t,rvi,e,l,_⟩:=uJ I r p
   cases (show u=Value.ref a from q)
   have t':qE X.K P α ((i::ns).map D.int) ws:=t
   cases xN t'
   obtain⟨ps,rfl,hps⟩:=mC (show IntsAre its (i::ns) by simpa using vM rvi)
   have hpl:0<ps.length:=by
    have:=congrArg List.length hps
    simp at this
    omega
   have hL:s.heap.IsList a (intItems ps.toArray):=⟨_,e,rfl,n,by simp[intItems]⟩
   refine min_intList (I.ok.hd hc) hL (by simpa using hpl) fun v h' tk hv hk=>?_
   obtain⟨tk',rfl⟩:=intItems_at hv
   obtain⟨b1,b2⟩:=argBest_lt (numAt ps.toArray) (ps.toArray.size-1)
   have hz:ps.toArray.size=ps.length:=by simp
   generalize argBest (fun i j=>decide (numAt ps.toArray i<numAt ps.toArray j)) (ps.toArray.size-1)=m at b1 b2 hv
   have hm:m<ps.length:=by omega
   obtain⟨f1,f2⟩:=sI ns i
   have hM:numAt ps.toArray m=ns.foldl min i:=by
    have h1:numAt ps.toArray m∈i::ns:=by rw[bA ps m hm,hps];exact List.getElem_mem _
    refine Int.le_antisymm ?_ (f2 _ h1)
    rw[hps] at f1
    obtain⟨j,hj,ej⟩:=List.mem_iff_getElem.mp f1
    have hj':j<ps.length:=by simpa using hj
    have:=b2 j (by omega)
    rw[bA ps j hj',ej] at this
    exact this
   exact⟨.int _,H,I.kept (t':=tk) hk,⟨tk',rfl⟩,xr af r (by simp only[Rep];rw[hM])⟩
 ·exact False.elim af
end
end _D
end
section
namespace _D
open PySem PySem.Spec PyProof.Rows _L
section
variable {X:Cx}{cm:Bool}{k:Nat}
theorem YD (hr:RoomC cm k X.A):ZCall X (.builtin "sorted") wV:=⟨o7 hr.units⟩
theorem TB (hc:X.calm=true):ZCall X (.builtin "max") pX:=⟨VG hc⟩
theorem TC (hc:X.calm=true):ZCall X (.builtin "min") pY:=⟨VH hc⟩
end
end _D
end
section
namespace _D
open PySem PySem.Spec PyProof.Rows _L
theorem MU {K:PySem.W.Frag}{h:Heap}{mg:Str→Option Value}(X:K.In h)(G:h.Ns mainGlobals mg){x:Str}{st:Stmt}{ps:List Str}{f:Addr}{oc:Value}{od an:Option Addr}{osl:Array (Option Value)}{kV doc pm cdv ct:Value}
  (a:PySem.W.nsIn K mainGlobals x=some (some (.ref f)))
  (l:K.lookup f=some ⟨oc,od,.func (PySem.W.fnOf x x (yP st) (zT st) (qI st) .none kV doc pm an cdv ct),osl⟩) (c:PySem.W.codeIn K cdv x=true) (k:PySem.W.keepIn K (.ref f)=true)
  (hb:∀ (kV doc pm:Value) (an:Option Addr) (cdv ct:Value) (us:List Value),us.length=ps.length→bindArgs (PySem.W.fnOf x x (yP st) (zT st) (qI st) .none kV doc pm an cdv ct) ⟨us,[]⟩=pure (ps.zip us)):Src K mg x st ps:=
 have F:=B6 (st:=st) l c k
 ⟨f,_,PySem.W.mg_of X G a,F,F.binds hb⟩
def dU (K:PySem.W.Frag)(C:Addr):Bool:=
 decide (PySem.W.findIn K (.ref C) "__getattribute__" = some (some (.builtin "BaseException.__getattribute__")))&&decide (PySem.W.findIn K (.ref C) "__getattr__" = some none)
 && decide (PySem.W.findIn K (.ref C) "__class__" = some (some (.builtin "object.__class__")))&&decide (PySem.W.mroIn K C (.type "object")=some true)&&decide (PySem.W.mroIn K C (.type "BaseException")=some true)
 && (PySem.W.clsIn K C).isSome&&decide (PySem.W.kitOne K (.ref C) (.type "ValueError")=some true)
def ZR (K:PySem.W.Frag):Bool:=
 decide (PySem.W.specialIn K (.builtin "object.__class__") "__get__" = some (some (.builtin "getset_descriptor.__get__")))&&decide (PySem.W.takesIn K (.builtin "object.__class__")=some true)
def GP (K:PySem.W.Frag)(cl:List Addr):Bool:=cl.all fun C=>cl.all fun B=>decide (PySem.W.kitOne K (.ref C) (.ref B)=some (C == B))
theorem GQ {K:PySem.W.Frag}{cl:List Addr}(h1:cl.all (dU K)=true)(h2:ZR K=true)(h3:GP K cl=true):ClsK K cl:=by
 have g:=h2
 unfold ZR at g
 simp only[Bool.and_eq_true,decide_eq_true_eq] at g
 have k1:∀ C∈cl,dU K C=true:=List.all_eq_true.mp h1
 refine⟨fun C hC=>?_,fun C hC B hB=>?_,fun C hC=>?_⟩
 ·have e:=k1 C hC
  unfold dU at e
  simp only[Bool.and_eq_true,decide_eq_true_eq] at e
  obtain⟨⟨⟨⟨⟨⟨e1,e2⟩,e3⟩,e4⟩,e5⟩,e6⟩,e7⟩:=e
  exact⟨e1,e2,e3,g.1,g.2,e4,e5,e6⟩
 ·have e:=List.all_eq_true.mp (List.all_eq_true.mp h3 C hC) B hB
  exact of_decide_eq_true e
 ·have e:=k1 C hC
  unfold dU at e
  simp only[Bool.and_eq_true,decide_eq_true_eq] at e
  exact e.2
def DW (K:PySem.W.Frag)(cs:List Value)(A:Addr):Bool:=cs.all fun v=>decide (PySem.W.exmOne K v (.ref A)=some true)
def DU (K:PySem.W.Frag)(cs:List Addr)(A:Addr):Bool:=cs.all fun C=>f9 K C A
def DV (K:PySem.W.Frag)(cs:List Addr):Bool:=cs.all fun C=>PySem.W.keepIn K (.ref C)
def dH (K:PySem.W.Frag):Sp:=fun vs H Q E=>∃ a ns,vs=[.ref a]∧SqX K H a (List.map V.int ns)∧ns.length≤63∧∀ H',Q (.bl true) H'
theorem rO {K:PySem.W.Frag}{P:Hp}{α : List Addr}:∀ ns:List Int,qE K P α (ns.map D.int) (ns.map V.int)
 |[]=>.nil
 |n::ns=>.cons (by simp only[Rep]) (rO ns)
theorem UV {P:Program}{w:World}{K:PySem.W.Frag}{mg:Str→Option Value}{fa:Addr}{st:Stmt}{k:Nat}{x:Str}(hs:Src K mg "law" st [x])(hfa:mg "law" = some (.ref fa))
  (hbd:∀ (kV doc pm:Value) (an:Option Addr) (cdv ct:Value) (s:Shared) (v:Value),BindsTo s (PySem.W.fnOf "law" "law" (yP st) (zT st) (qI st) .none kV doc pm an cdv ct) ⟨[v],[]⟩ [(x,v)])
  (hall:∀ base:Heap,∃ F,dJ P w K mg base true k "law" [x] F∧∀ ns:List Int,ns.length≤63→∃ S,F [.lst (ns.map D.int)] [] = .ok (.bl true) S) :
  ∃ fd:FuncData,(∀ (s:Shared) (v:Value),BindsTo s fd ⟨[v],[]⟩ [(x,v)])∧∀ base:Heap,K.In base→base.Ns mainGlobals mg→FnOk P w K mg base (CXd P w) k fa fd [x] (dH K):=by
 obtain⟨f,fd,hm,F,hb⟩:=hs
 cases hfa.symm.trans hm
 refine⟨fd,?_,fun base _ _=>?_⟩
 ·obtain⟨oc,od,kV,doc,pm,an,cdv,ct,osl,rfl,_,_⟩:=F.ex
  exact hbd kV doc pm an cdv ct
 ·obtain⟨G,⟨f',fd',hm',_,hb',hl,X⟩,hG⟩:=hall base
  cases hm.symm.trans hm'
  cases hl.one (i9 F)
  refine(X.imp fun vs H Q E h=>?_).ok
  obtain⟨a,ns,rfl,hS,hl,k⟩:=h
  obtain⟨S,e⟩:=hG ns hl
  refine⟨rfl,H,[],[.lst (ns.map D.int)],[],⟨qG.refl _,rfl,.nil,by simp,by simp,by simp⟩,.cons (kN hS (rO ns)) .nil,?_⟩
  rw[e]
  intro v H' P' α' _ _ _ rv
  simp only[Rep] at rv
  subst rv
  exact k H'
theorem LS {l:PySem.W.OpenLaw}{q:Program}{loose:List Str}{XP:(Str→Option Value)→Heap→Prop}{YP:World→Heap→Prop}{d:DefRec}{K:Params→PySem.W.Frag}{k:Nat}{x:Str}(hn:l.most=some 63)(hdf:d.params.defaults=[])(hr:Room k callerA)
  (hY:∀ (w:World) (h:Heap),YP w h→(K w.params).In h)
  (F:∀ (w:World) (mg:Str→Option Value) (fa:Addr) (h:Heap),(K w.params).In h→h.Ns mainGlobals mg→mg d.name=some (.ref fa) →
   ∃ fd:FuncData,(∀ (s:Shared) (u:Value),BindsTo s fd ⟨[u],[]⟩ [(x,u)])∧∀ base:Heap,(K w.params).In base→base.Ns mainGlobals mg→FnOk l.prog w (K w.params) mg base (CXd l.prog w) k fa fd [x] (dH (K w.params))) :
  PySem.W.WalkO q loose XP YP l.row.toRowW d [] (fun f vs=>PySem.call f vs):=
 _L.KL (n:=63) (k:=k) (x:=x) (CX:=fun w=>CXd l.prog w) (sp:=fun w=>dH (K w.params)) hn (by decide) hdf hr hY F (fun _ _ a ns hl _ hS=>⟨a,ns,rfl,hS,hl,fun _=>rfl⟩) fun w H s e s' h=>by
  obtain⟨_,_,_,_,_,_,_,_,_,_,_,_,z⟩:=h
  exact z
end _D
end
section
namespace _D
open PySem
theorem us0 {us:List Value}(h:us.length=0):us=[]:=List.eq_nil_of_length_eq_zero h
theorem usS {us:List Value}{n:Nat}(h:us.length=n+1):∃ a vs,us=a::vs∧vs.length=n:=by
 cases us with
 |nil=>exact absurd h (by simp)
 |cons a vs=>exact⟨a,vs,rfl,by simpa using h⟩
theorem us1 {us:List Value}(h:us.length=1):∃ a,us=[a]:=by
 obtain⟨a,vs,rfl,h'⟩:=usS h
 exact⟨a,by rw[us0 h']⟩
theorem us2 {us:List Value}(h:us.length=2):∃ a b,us=[a,b]:=by
 obtain⟨a,vs,rfl,h'⟩:=usS h
 obtain⟨b,rfl⟩:=us1 h'
 exact⟨a,b,rfl⟩
theorem us3 {us:List Value}(h:us.length=3):∃ a b c,us=[a,b,c]:=by
 obtain⟨a,vs,rfl,h'⟩:=usS h
 obtain⟨b,c,rfl⟩:=us2 h'
 exact⟨a,b,c,rfl⟩
end _D
end
section
namespace _D
open PySem PySem.Spec PyProof.Rows _L
theorem VA (F:DF):∃ G:DF,G=F:=⟨F,rfl⟩
noncomputable def sh (F:DF):DF:=Classical.choose (VA F)
theorem xE (F:DF):sh F=F:=Classical.choose_spec (VA F)
def isV:Option NameKind→Bool
 |some .local => true
 |some .cell=>true
 |some .free=>true
 |_=>false
def isL:Option NameKind→Bool
 |some .local => true
 |some .cell=>true
 |_=>false
def isG:Option NameKind→Bool
 |some .globalImplicit=>true
 |_=>false
def okN (x:Str):Bool:=!(x == ("__debug__" : Str))&&(!(x == ("__classdict__" : Str))&&!decide (x = "__name__"))
def okG (X:Cx)(x:Str):Bool:=isG (X.env.kindOf x)&&okN x
def okB (v:Value)(x:Str):Bool:=decide (bootBuiltins x=some v)
def n9 (sc:Scope):List Str:=sc.names.filterMap fun y=>if isL (some y.2) then some y.1 else none
def v9 (sc:Scope):List Str:=(sc.names.filterMap fun y=>if isL (some y.2)&&!(y.1 == (".0" : Str)) then some y.1 else none)++sc.names.filterMap fun y=>if y.2 == .free then some y.1 else none
def Ck (b:Bool):Prop:=b=true
theorem ck {b:Bool}(h:b=true:=by kernel_rfl):Ck b:=h
structure DfS (F:DF)(P:Program)(w:World)(K:PySem.W.Frag)(mg:Str→Option Value)(base:Heap)(cm:Bool)(k:Nat)(x:Str)(n:Nat):Prop where
 get:Def P w K mg base cm k x n F
def okT (X:Cx)(m:Nat)(x:Str):Bool:=decide (X.N[m]? = some x)&&(isL (X.env.scope.names.lookup x)&&(decide X.N.Nodup&&(X.fn x||decide (X.env.scope.names.lookup x=some .local))))
def okP (X:Cx)(m:Nat)(x:Str):Bool:=decide (X.N[m]? = some x)&&decide (X.env.scope.names.lookup x=some .local)
def dA (scX:Scope)(NX:List Str)(scope:Scope)(cap:List (Option Nat)):Bool:=
 decide (scope.kind=.function)&&(decide (∀ y∈scope.names,y.2=.local → scope.names.lookup y.1=some .local)&&(decide (∀ y∈scope.names,y.2≠.cell)&&(decide (∀ y∈scope.names,y.2=.free→scX.names.lookup y.1=some .cell∨scX.names.lookup y.1=some .free)
 && (decide (∀ y∈scope.names,y.2=.free→scope.names.lookup y.1=some .free)&&(decide (cap.length=(v9 scope).length)&&(((cap.zip (v9 scope)).all fun p=>match p.1 with|none=>true|some i=>NX[i]? == some p.2&&scope.names.lookup p.2 == some .free)&&decide (v9 scope).Nodup))))))
def fnB (N P:List Str)(sc:Scope):Bool:=
 decide (sc.kind=.function)&&(decide (sc.isCoroutine=false)&&(decide (sc.isGenerator=false)&&(decide N.Nodup&&(decide (N.take P.length=P)&&(decide (∀ x∈P,sc.names.lookup x=some .local ∨ sc.names.lookup x=some .cell)&&decide (∀ y∈sc.names,y.2≠.free))))))
theorem dW {scX:Scope}{NX:List Str}{scope:Scope}{cap:List (Option Nat)}(h:dA scX NX scope cap=true):CompSc scX NX scope (v9 scope) cap:=by
 simp only[dA,Bool.and_eq_true,decide_eq_true_eq] at h
 obtain⟨a,b,c,d,e,f,g,k⟩:=h
 exact⟨a,b,c,d,e,f,g,k⟩
theorem oN {N P:List Str}{sc:Scope}(h:fnB N P sc=true):FnScope N P sc:=by
 simp only[fnB,Bool.and_eq_true,decide_eq_true_eq] at h
 obtain⟨a,b,c,d,e,f,g⟩:=h
 exact⟨a,b,c,d,e,f,g⟩
section
variable {X:Cx}{a b c e o elt tg iter:Expr}{ifs rest:List Expr}{f g:DS}{fa:DE}{f2:DI2}{dg:DG}{t:DT}{kk:DK}{gens grest:List Comprehension}{scope:Scope}{cap:List (Option Nat)}{mm:Bool}{l q:Nat}{y z:Str}{G2':G2}{es:List Expr}{fA:DA}{x:Str}{p pos:Pos}{cm:Bool}{k n m:Nat}{F:DF}
theorem UK {sc:Scope}(h:isV (sc.names.lookup x)=true):Vis sc x:=by
 unfold Vis
 revert h
 cases sc.names.lookup x with
 |none=>intro h;cases h
 |some y=>cases y <;> intro h <;> first|cases h;done|exact .inl rfl|exact .inr (.inl rfl)|exact .inr (.inr rfl)
theorem UJ {sc:Scope}(h:isL (sc.names.lookup x)=true):_L.Loc sc x:=by
 unfold _L.Loc
 revert h
 cases sc.names.lookup x with
 |none=>intro h;cases h
 |some y=>cases y <;> intro h <;> first|cases h;done|exact .inl rfl|exact .inr rfl
theorem mL (h:okN x=true):(x == ("__debug__" : Str))=false∧(x == ("__classdict__" : Str))=false∧x ≠ "__name__":=by
 unfold okN at h
 rw[Bool.and_eq_true,Bool.and_eq_true] at h
 exact⟨by simpa using h.1,by simpa using h.2.1,by simpa using h.2.2⟩
theorem uL (h:okG X x=true):Gl X x∧(x == ("__debug__" : Str))=false∧x ≠ "__name__":=by
 have h:=(Bool.and_eq_true _ _).mp h
 refine⟨?_,(mL h.2).1,(mL h.2).2.2⟩
 have z:=h.1
 unfold Gl
 revert z
 cases X.env.kindOf x with
 |none=>intro z;cases z
 |some y=>cases y <;> intro z <;> first|cases z;done|rfl
theorem rA (h:okT X m x=true):X.N[m]? = some x∧_L.Loc X.env.scope x∧X.N.Nodup∧(X.fn x=true∨X.env.scope.names.lookup x=some .local):=by
 simp only[okT,Bool.and_eq_true,decide_eq_true_eq,Bool.or_eq_true] at h
 exact⟨h.1,UJ h.2.1,h.2.2⟩
theorem mM (h:okP X m x=true):X.N[m]? = some x∧X.env.scope.names.lookup x=some .local:=by
 simp only[okP,Bool.and_eq_true,decide_eq_true_eq] at h
 exact h
theorem NE (h:Ck (okG X x)):Gl X x:=(uL h).1
theorem aV (h:Ck (decide (X.N[m]? = some x)&&(isV (X.env.scope.names.lookup x)&&okN x))):QE X (.Name x pos) (qA m):=by
 unfold Ck at h
 simp only[Bool.and_eq_true,decide_eq_true_eq] at h
 exact M6 m h.1 (UK h.2.1) (mL h.2.2).1 (mL h.2.2).2.1
theorem aBt {nm:String}(h:Ck (okG X x))(hm:X.mg x=none)(hb:Ck (okB (.type nm) x)):QE X (.Name x pos) (dC (.ty nm)):=
 have h:=uL h
 JQ h.1 hm (of_decide_eq_true hb) h.2.2 h.2.1
theorem aGi {v:Int}(h:Ck (okG X x))(hm:∃ t,X.mg x=some (.int v t)):QE X (.Name x pos) (dC (.int v)):=
 have h:=uL h
 JR h.1 hm h.2.1
abbrev St1 (X:Cx)(e:Expr)(es:List Expr)(pos:Pos):Prop:=starEach (e::es) X.env=(false,eval e X.env)::starEach es X.env∧(backTo pos (starEach es X.env)).any (·.1)=false
theorem aN (G:DfS F X.prog X.w X.K X.mg X.base cm k x n)(hr:RoomC cm k X.A)(hF:Fn1 X)(h:Ck (okG X x))(ha:QA X (e::es) fA)(s:St1 X e es pos):QE X (.Call (.Name x p) (e::es) [] pos) (qD n F fA):=
 have h:=uL h
 qcN G.1 hr hF h.1 ha h.2.1 s.1 s.2
theorem aO (G:DfS F X.prog X.w X.K X.mg X.base cm k x n)(hr:RoomC cm k X.A)(h:Ck (okG X x))(ha:QA X (e::es) fA)(s:St1 X e es pos):QE X (.Call (.Name x p) (e::es) [] pos) (qD n (okO F) fA):=
 have h:=uL h
 qcO G.1 hr h.1 ha h.2.1 s.1 s.2
theorem aB {id:String}(hc:ZCall X (.builtin id) F)(h:Ck (okG X x))(hm:X.mg x=none)(hb:Ck (okB (.builtin id) x))(ha:QA X (e::es) fA)(s:St1 X e es pos):QE X (.Call (.Name x p) (e::es) [] pos) (qH F fA):=
 have h:=uL h
 WH hc h.1 hm (of_decide_eq_true hb) ha h.2.2 h.2.1 s.1 s.2
theorem aT {T:String}(hc:ZCall X (.type T) F)(h:Ck (okG X x))(hm:X.mg x=none)(hb:Ck (okB (.type T) x))(ha:QA X (e::es) fA)(s:St1 X e es pos):QE X (.Call (.Name x p) (e::es) [] pos) (qH F fA):=
 have h:=uL h
 QQ hc h.1 hm (of_decide_eq_true hb) ha h.2.2 h.2.1 s.1 s.2
theorem aC (S:Ck (dA X.env.scope X.N scope cap))(hc:X.calm=true)(hi:QI2 X tg iter f2)(hg:∀ cl C ex s₀ H₀,QG (qW X (v9 scope) scope cl C ex s₀ H₀) tg dg)(ht:∀ cl C ex s₀ H₀,QTs (qW X (v9 scope) scope cl C ex s₀ H₀) ifs t)
  (has:∀ g',(⟨tg,iter,ifs,0⟩::grest:List Comprehension)[0+1]? = some g'→g'.is_async=0)
  (he:∀ cl C ex s₀ H₀,QK (qW X (v9 scope) scope cl C ex s₀ H₀) (fun acc=>xL elt (⟨tg,iter,ifs,0⟩::grest) scope pos 0 acc (qW X (v9 scope) scope cl C ex s₀ H₀).env) kk) (hs:∀ x,foldedSetIterable iter X.env x=pure x) :
  QE X (.ListComp elt (⟨tg,iter,ifs,0⟩::grest) scope pos) (qO mm cap f2 dg t kk):=WJ hc (dW S) hi hg ht has he hs
theorem aCs {py spos:Pos}(hsw:swapsWith (.ListComp elt (⟨tg,iter,ifs,0⟩::grest) scope pos) (some (.Name y py)) spos.line X.env=pure true)(S:Ck (dA X.env.scope X.N scope cap))(hN:Ck (okT X m y))(hc:X.calm=true)(hi:QI2 X tg iter f2)(hg:∀ cl C ex s₀ H₀,QG (qW X (v9 scope) scope cl C ex s₀ H₀) tg dg)(ht:∀ cl C ex s₀ H₀,QTs (qW X (v9 scope) scope cl C ex s₀ H₀) ifs t)
  (has:∀ g',(⟨tg,iter,ifs,0⟩::grest:List Comprehension)[0+1]? = some g'→g'.is_async=0)
  (he:∀ cl C ex s₀ H₀,QK (qW X (v9 scope) scope cl C ex s₀ H₀) (fun acc=>xL elt (⟨tg,iter,ifs,0⟩::grest) scope pos 0 acc (qW X (v9 scope) scope cl C ex s₀ H₀).env) kk) (hs:∀ x,foldedSetIterable iter X.env x=pure x) :
  QS X (.Assign [.Name y py] (.ListComp elt (⟨tg,iter,ifs,0⟩::grest) scope pos) spos) (zE (qO mm cap f2 dg t kk) (gNm m)):=
 have h:=rA hN
 WO hc h.2.2.1 (dW S) hi hg ht has he h.1 h.2.1 h.2.2.2 hsw hs
theorem aNm (h:Ck (okT X m x)):QG X (.Name x pos) (gNm m):=
 have h:=rA h
 JT h.2.2.1 h.1 h.2.1 h.2.2.2
theorem aSt {pos':Pos}(hs:swapsWith e (some (.Name x pos')) pos.line X.env=pure false)(he:QE X e fa)(h:Ck (okT X m x)):QS X (.Assign [.Name x pos'] e pos) (zE fa (gNm m)):=
 have h:=rA h
 MH h.2.2.1 he h.1 h.2.1 hs h.2.2.2
theorem aP2 {px py pt:Pos} {kt k2 pt2} (h:Ck (decide X.N.Nodup&&(okP X m x&&(okP X l y&&!decide (m=l))))) (hc:X.calm=true) (ha:QA X [a,b] fA)
  (hw:swappedStores [.Tuple [.Name x px,.Name y py] kt pt] (.Tuple [a,b] k2 pt2) X.env=pure (some [x,y])) (hs:swapsWithSole [.Tuple [.Name x px,.Name y py] kt pt] (.Tuple [a,b] k2 pt2) pos.line X.env=pure false) :
  QS X (.Assign [.Tuple [.Name x px,.Name y py] kt pt] (.Tuple [a,b] k2 pt2) pos) (nN m l fA):=by
 unfold Ck at h
 simp only[Bool.and_eq_true,decide_eq_true_eq,Bool.not_eq_true',decide_eq_false_iff_not] at h
 exact MF hc h.1 ha (mM h.2.1).1 (mM h.2.2.1).1 h.2.2.2 (mM h.2.1).2 (mM h.2.2.1).2 hw hs
theorem aRs {C:Addr}{np cpos:Pos}(h:Ck (okG X x))(hc:X.calm=true)(hF:Fn1 X)(hm:∃ Ae,X.mg x=some (.ref C)∧f9 X.K C Ae=true)(ha:QA X (e::rest) fA)(s:St1 X e rest cpos) :
  QS X (.Raise (some (.Call (.Name x np) (e::rest) [] cpos)) none pos) (v4 (.ref C) fA):=
 have h:=uL h
 let ⟨_,hm,hx⟩:=hm
 WP hc hF h.1 hm hx ha h.2.1 s.1 s.2
end
structure TxS (K:PySem.W.Frag)(mg:Str→Option Value)(tp:Nat→Stmt)(tab:List (Str × Nat × List Str))(bl:List Str)(clt plt:List (Str × Addr))(cs:List Value)(exl:List Addr)(cst:List (Str × Int)):Prop where
 src:∀ (j:Nat) {x:Str} {i:Nat} {ps:List Str},tab[j]? = some (x,i,ps)→Src K mg x (tp i) ps
 nb:∀ {x:Str},Ck (bl.contains x)→mg x=none
 cl:∀ {x:Str} {C:Addr},clt.lookup x=some C→mg x=some (.ref C)∧PySem.W.keepIn K (.ref C)=true
 rz:∀ {x:Str} {C:Addr},plt.lookup x=some C→∃ Ae,mg x=some (.ref C)∧f9 K C Ae=true
 ct:∃ C0,mg "FarError" = some (.ref C0)∧∀ c∈cs,PySem.W.exmOne K c (.ref C0)=some true
 cls:ClsK K exl
 gi:∀ {x:Str} {v:Int},cst.lookup x=some v→∃ t,mg x=some (.int v t)
end _D
end
section
namespace _D
open PySem PySem.Spec PyProof.Rows _L
section
variable {K:PySem.W.Frag}{mg:Str→Option Value}{cm:Bool}{tp:Nat→Stmt}{tab:List (Str × Nat × List Str)}{bl:List Str}{clt plt:List (Str × Addr)}{cs:List Value}{exl:List Addr}{cst:List (Str × Int)}{x:Str}{i m:Nat}{ps:List Str}{F:DF}{g:DS}
theorem dq (P:Program)(w:World)(base:Heap)(k j:Nat)(T:TxS K mg tp tab bl clt plt cs exl cst)(hj:tab[j]? = some (x,i,ps))(h:Ck (fnB (n9 (qI (tp i))) ps (qI (tp i))&&decide ((n9 (qI (tp i))).length=m)))(hF:F=qV m g)
  (hb:∀ (f:Addr) (cdv:Value) (A:Around) (outer:List Env) (s:Shared) (H:Hp) (E:XK),RoomC cm k (A.deeper (envOfC x (qI (tp i)) s.heap.objs.size f cdv)) →
   QB (cxC cm P w K mg base (n9 (qI (tp i))) x (qI (tp i)) f cdv A outer s H E) (zT (tp i)) g):DfS F P w K mg base cm (k+1) x ps.length:=by
 unfold Ck at h
 simp only[Bool.and_eq_true,decide_eq_true_eq] at h
 obtain⟨h,rfl⟩:=h
 exact⟨hF▸DX (T.src j hj) (oN h) rfl hb⟩
theorem dqP {P:Program}{w:World}{base:Heap}(k j:Nat)(T:TxS K mg tp tab bl clt plt cs exl cst)(hj:tab[j]? = some (x,i,ps))(h:Ck (fnB (n9 (qI (tp i))) ps (qI (tp i))&&decide ((n9 (qI (tp i))).length=m)))
  (hb:∀ (f:Addr) (cdv:Value) (A:Around) (outer:List Env) (s:Shared) (H:Hp) (E:XK),RoomC cm k (A.deeper (envOfC x (qI (tp i)) s.heap.objs.size f cdv)) →
   QB (cxC cm P w K mg base (n9 (qI (tp i))) x (qI (tp i)) f cdv A outer s H E) (zT (tp i)) g):dJ P w K mg base cm (k+1) x ps (qV m g):=by
 unfold Ck at h
 simp only[Bool.and_eq_true,decide_eq_true_eq] at h
 obtain⟨h,rfl⟩:=h
 exact N1 (T.src j hj) (oN h) rfl hb
end
theorem hv {a b:Prop}(f:a→b)(h:a):b:=f h
end _D
end
section
namespace _D
open PySem PySem.Spec PyProof.Rows _L
inductive SrcF (K:PySem.W.Frag)(x:Str)(st:Stmt)(ps:List Str):Prop
 |mk {f:Addr} {oc:Value} {od an:Option Addr} {osl:Array (Option Value)} {kV doc pm cdv ct:Value} (a:PySem.W.nsIn K mainGlobals x=some (some (.ref f)))
  (l:K.lookup f=some ⟨oc,od,.func (PySem.W.fnOf x x (yP st) (zT st) (qI st) .none kV doc pm an cdv ct),osl⟩) (c:PySem.W.codeIn K cdv x=true) (k:PySem.W.keepIn K (.ref f)=true):SrcF K x st ps
def aA (K:PySem.W.Frag)(tp:Nat→Stmt):List (Str × Nat × List Str)→Prop
 |[]=>True
 |(x,i,ps)::t=>SrcF K x (tp i) ps∧aA K tp t
def BdF (tp:Nat→Stmt):List (Str × Nat × List Str)→Prop
 |[]=>True
 |(x,i,ps)::t=>(∀ (kV doc pm:Value) (an:Option Addr) (cdv ct:Value) (us:List Value),us.length=ps.length→bindArgs (PySem.W.fnOf x x (yP (tp i)) (zT (tp i)) (qI (tp i)) .none kV doc pm an cdv ct) ⟨us,[]⟩=pure (ps.zip us))∧BdF tp t
def cY (K:PySem.W.Frag):List (Str × Addr)→Prop
 |[]=>True
 |(x,C)::t=>PySem.W.nsIn K mainGlobals x=some (some (.ref C))∧cY K t
def cZ (K:PySem.W.Frag):List (Str × Int)→Prop
 |[]=>True
 |(x,v)::t=>(∃ k,PySem.W.nsIn K mainGlobals x=some (some (.int v k)))∧cZ K t
def SD:Option (Option Value)→Bool
 |some none=>true
 |_=>false
section
variable {K:PySem.W.Frag}{h:Heap}{mg:Str→Option Value}{tp:Nat→Stmt}
theorem cU (X:K.In h)(G:h.Ns mainGlobals mg):∀ (tab:List (Str × Nat × List Str)),aA K tp tab→BdF tp tab→∀ (j:Nat) {x:Str} {i:Nat} {ps:List Str},tab[j]? = some (x,i,ps)→Src K mg x (tp i) ps
 |[],_,_,_,_,_,_,e=>by cases e
 |(x,i,ps)::t,H,B,0,_,_,_,e=>by
  cases e
  obtain⟨a,l,c,k⟩:=H.1
  exact MU X G a l c k B.1
 |(x,i,ps)::t,H,B,j+1,_,_,_,e=>cU X G t H.2 B.2 j e
theorem yC {β : Type}{p:Str→β→Prop}{x:Str}{C:β}:∀ {l:List (Str × β)},(∀ y∈l,p y.1 y.2)→l.lookup x=some C→p x C
 |[],_,e=>by cases e
 |(y,b)::t,H,e=>by
  rw[List.lookup_cons] at e
  cases q:x == y with
  |true =>
   rw[q] at e
   cases e
   rw[eq_of_beq q]
   exact H (y,_) (.head _)
  |false =>
   rw[q] at e
   exact yC (fun z hz=>H z (.tail _ hz)) e
theorem pU (X:K.In h)(G:h.Ns mainGlobals mg):∀ {l:List (Str × Addr)},cY K l→∀ y∈l,mg y.1=some (.ref y.2)
 |(x,C)::t,H,y,hy=>by
  rcases List.mem_cons.mp hy with rfl|hy
  ·exact PySem.W.mg_of X G H.1
  ·exact pU X G H.2 y hy
theorem eO (X:K.In h)(G:h.Ns mainGlobals mg):∀ {l:List (Str × Int)},cZ K l→∀ y∈l,∃ k,mg y.1=some (.int y.2 k)
 |(x,C)::t,H,y,hy=>by
  rcases List.mem_cons.mp hy with rfl|hy
  ·obtain⟨k,e⟩:=H.1
   exact⟨k,PySem.W.mg_of X G e⟩
  ·exact eO X G H.2 y hy
theorem LQ {tab:List (Str × Nat × List Str)}{bl:List Str}{clt plt:List (Str × Addr)}{cs:List Value}{exl:List Addr}{cst:List (Str × Int)}{far:Addr}(B:BdF tp tab)(hp:∀ y∈plt,y∈clt)(hf:clt.lookup ("FarError" : Str)=some far)(X:K.In h)(G:h.Ns mainGlobals mg)
  (s:aA K tp tab) (z:(bl.all fun x=>SD (PySem.W.nsIn K mainGlobals x))=true) (q:cY K clt) (g:cZ K cst) (e1:exl.all (dU K)=true) (e2:ZR K=true) (e3:GP K exl=true) (e4:DW K cs far=true) (e5:DU K (plt.map (·.2)) far=true) (e6:DV K (clt.map (·.2))=true):TxS K mg tp tab bl clt plt cs exl cst where
 src:=cU X G tab s B
 nb:=fun {x} hx=>by
  have e:=List.all_eq_true.mp z x (by simpa using List.contains_iff_mem.mp hx)
  refine PySem.W.mg_none_of X G ?_
  revert e
  cases PySem.W.nsIn K mainGlobals x with
  |none=>intro e;cases e
  |some y=>cases y with
   |none=>intro _;rfl
   |some y=>intro e;cases e
 cl:=fun h=>⟨yC (p:=fun x C=>mg x=some (.ref C)) (pU X G q) h,yC (p:=fun _ C=>PySem.W.keepIn K (.ref C)=true) (fun y hy=>List.all_eq_true.mp e6 y.2 (List.mem_map_of_mem hy)) h⟩
 rz:=fun h=>⟨far,yC (p:=fun x C=>mg x=some (.ref C)) (fun y hy=>pU X G q y (hp y hy)) h,yC (p:=fun _ C=>f9 K C far=true) (fun y hy=>List.all_eq_true.mp e5 y.2 (List.mem_map_of_mem hy)) h⟩
 ct:=⟨far,yC (p:=fun x C=>mg x=some (.ref C)) (pU X G q) hf,fun v hv=>of_decide_eq_true (List.all_eq_true.mp e4 v hv)⟩
 cls:=GQ e1 e2 e3
 gi:=fun h=>yC (p:=fun x v=>∃ k,mg x=some (.int v k)) (eO X G g) h
end
theorem LT {q:Program}{loose:List Str}{XP:(Str→Option Value)→Heap→Prop}{r:PySem.W.RowW}{d:DefRec}{kwd:List (Str × Expr)}{run:Value→List Value→Sem Value}{K:Params→PySem.W.Frag}{as:List Addr}{n t:Nat}(e:∀ P,as=(K P).map (·.1))
  (h:PySem.W.WalkO q loose XP (fun w h=>(K w.params).In h) r d kwd run):PySem.W.WalkX q loose XP (PySem.W.X.obsZ as) (PySem.W.X.valZ K n t) r d kwd run:=
 fun w s₀ s₁ mg mb G Y a o pm cd doc dV kV h1 h2 h3 h4 h5 h6 args vals as' L=>h w s₀ s₁ mg mb G (PySem.W.InK.keeps w _ _ (PySem.W.X.z_facts e Y).2.1 L.keeps) a o pm cd doc dV kV h1 h2 h3 h4 h5 h6 args vals as'
end _D
end
section
namespace _D
open PySem PySem.Spec PyProof.Rows _L
def Iti (a:Addr)(o:Obj)(vs:List (Key × V)):It:=
 ⟨fun i H=>(∃ u,H a=some (.frz o u))∧i<vs.length,fun i H v H'=>∃ T q,v=.ref T∧H T=none∧H'=upd H T (.tup [kV q.1,q.2])∧vs[i]? = some q,fun i H=>(∃ u,H a=some (.frz o u))∧vs.length≤i⟩
theorem iP {P:Program}{w:World}{K:PySem.W.Frag}{elts:List Expr}{x1:Nat}{tpos:Pos}{a it:Addr}{o:Obj}{vs:List (Key × V)}{us:List (Key × Value)}{ep:Nat}(kv:KV vs us)(at':∀ h:Heap,h.get? a=some o→h.DictAt (zS P w) a us ep) :
  Turn P w K (.Tuple elts x1 tpos) (Iti a o vs) [it] it (fun i h=>∃ ok ov,IsItemIter h it a i us.length ep ok ov) where
 mem:=by simp
 obj:=fun i h st b hb=>by
  have e:b=it:=by simpa using hb
  subst e
  obtain⟨ok,ov,e⟩:=st
  exact⟨_,e,fun v z=>by cases z⟩
 keep:=fun i h h' st k=>by
  obtain⟨ok,ov,e⟩:=st
  exact⟨ok,ov,k it (by simp) _ e⟩
 item:=by
  intro X hP hw hK hc i pins s σ H E I hf st hg
  subst hP hw hK
  obtain⟨⟨u0,hu⟩,hlt⟩:=hg
  obtain⟨ok,ov,st⟩:=st
  have ho:s.heap.get? a=some o:=(I.hok a _ hu).1
  obtain⟨u,e1,e2⟩:=Q0 kv (List.getElem?_eq_getElem hlt)
  refine wpAny_pyNext_items_item st (at' _ ho) e1 fun key h' hk a1 a2 a3 a4=>?_
  refine⟨_,rfl,wpAny_letOwnedTupleGo_items (s:={ s with heap:=h' }) a1 fun h2 b1 b2=>?_⟩
  have up:∀ c o,c≠it→h'.get? c=some o→h2.get? c=some o:=fun c o n q=>(b2.2 c n).trans q
  have el:it<s.heap.objs.size:=Heap.lt_size st
  have T2:=up _ _ (Nat.ne_of_gt el) a2
  refine⟨.ref s.heap.objs.size,upd H s.heap.objs.size (.tup [kV (vs[i]).1,(vs[i]).2]),?_,rfl,⟨_,vs[i],rfl,I.hok.fresh (Nat.le_refl _),rfl,List.getElem?_eq_getElem hlt⟩,⟨_,_,b1⟩,fun c hc=>?_⟩
  ·have:=Inv.turnLay (s:=s) (fp:=[it]) (its:=[key,u]) (h':=h2) (xs:=[kV (vs[i]).1,(vs[i]).2]) I hf (fun c o hc q=>by
    have hc:c≠it:=by simpa using hc
    exact up c o hc (a4 c o hc q)) (fun c hc=>by
    have:c=it:=by simpa using hc
    subst this
    exact⟨_,b1⟩) (Nat.le_refl _) (.cons (NI hk) (.cons e2 .nil)) ⟨_,T2,rfl,_,rfl⟩ (by show 2≤sizeLine;decide)
   exact this
  ·have hn:=(hf c hc).1
   rw[qS ?_]
   ·exact hn
   ·rintro rfl
    have:s.heap.objs.size=it:=by simpa using hc
    rw[this] at el
    exact absurd el (Nat.lt_irrefl _)
 done:=by
  intro X hP hw hK hc i pins s σ H E I hf st hg
  subst hP hw hK
  obtain⟨⟨u0,hu⟩,hle⟩:=hg
  obtain⟨ok,ov,st⟩:=st
  have ho:s.heap.get? a=some o:=(I.hok a _ hu).1
  obtain⟨f0,f1,f2,f3,f4,f5⟩:=hf it (by simp)
  have hl:=kv.length
  exact wpAny_pyNext_items_end (I.ok.hd hc) st (at' _ ho) (by simp;omega) fun h' eb=>⟨rfl,I.turned (t':=s.toks) (fun b o hb e=>eb b o hb e) f0 f1 f3 f4 f5⟩
 self:=fun _ _ _ _ _ st h=>by
  obtain⟨ok,ov,st⟩:=st
  exact PySem.W.kcp_self st h
def tX (kvs:List (Key × D)):List D:=kvs.map fun p=>D.tup [kD p.1,p.2]
def fZ (f:DE):DI:=fun env S=>(f env S).bind fun d S1=>match d with
 |.loc n=>match S1[n]? with
  |some (.dct kvs)=>.ok (tX kvs) (S1.set n .dead)
  |_=>.bad
 |_=>.bad
theorem hJ {K:PySem.W.Frag}{P:Hp}{α : List Addr}:∀ {kvs:List (Key × D)} {vs:List (Key × V)},KVs K P α kvs vs→∀ {i:Nat} {q:Key × D},kvs[i]? = some q→∃ v,vs[i]? = some (q.1,v)∧Rep K P α q.2 v
 |_,_,.nil,i,q,h=>by simp at h
 |_,_,.cons (a:=x) (b:=y) z t,i,q,h=>by
  cases i with
  |zero =>
   simp at h
   subst h
   exact⟨y.2,by simp;exact Prod.ext z.1.symm rfl,z.2⟩
  |succ i =>
   obtain⟨v,e1,e2⟩:=hJ t (i:=i) (q:=q) (by simpa using h)
   exact⟨v,by simpa using e1,e2⟩
theorem oT {K:PySem.W.Frag}{P:Hp}{α : List Addr}{a:Addr}{o:Obj}{u:HO}{kvs:List (Key × D)}{vs:List (Key × V)}(q:P a=some (.frz o u))(t:KVs K P α kvs vs)(hl:kvs.length=vs.length):ItD K (Iti a o vs) P α (tX kvs) where
 go:=fun i H P1 α1 S hi r e _=>⟨⟨u,r.sub _ _ (e _ _ q)⟩,by unfold tX at hi;rw[List.length_map] at hi;omega⟩
 yld:=fun i H x H' P1 α1 S hi r e e2 y=>by
  obtain⟨T,p,rfl,hT,rfl,hp⟩:=y
  unfold tX at hi
  rw[List.length_map] at hi
  obtain⟨v,h1,h2⟩:=hJ t (List.getElem?_eq_getElem hi)
  rw[hp] at h1;cases h1
  obtain⟨r1,s1⟩:=r.pure (o:=.tup [kV (kvs[i]).1,v]) hT
  refine⟨_,.tup [kD (kvs[i]).1,(kvs[i]).2],?_,r1,s1,?_⟩
  ·unfold tX;rw[List.getElem?_map,List.getElem?_eq_getElem hi];rfl
  ·exact bG (.of z0) (.cons (B8 _) (.cons (Rep.mono (e.trans s1) e2 _ _ h2) .nil))
 stop:=fun i H P1 α1 S hi r e _=>⟨⟨u,r.sub _ _ (e _ _ q)⟩,by unfold tX at hi;rw[List.length_map] at hi;omega⟩
section
variable {X:Cx}{o:Expr}{fo:DE}{apos cpos:Pos}{elts:List Expr}{x1:Nat}{tpos:Pos}
set_option tactic.hygienic true in
theorem X5 (ho:PE X o (tD X fo))(hbase:attributeBase o "items" X.env (eval o X.env)=eval o X.env:=by rfl)(hline:(apos.endLine == cpos.line)=true:=by rfl):PI X (.Tuple elts x1 tpos) (.Call (.Attribute o "items" apos) [] [] cpos) (tDI X (fZ fo)):=by
 intro pins s σ H R I h
 obtain⟨P,α,env,S,r,re,af⟩:=h
 refine wpAny_Call_method0_late hbase hline (thn (xB ho I r re af) fun vv s1 ⟨v,H1,P1,α1,d,S1,G1,af1⟩=>?_)
 cases d with
 |loc n =>
  simp only at af1
  split at af1
  ·rename_i kvs hS
   have rp:=G1.rep
   have I1:=G1.inv
   have r1:=G1.rel
   have ht:tyD (.loc n) S1=some "dict":=ZB hS
   obtain⟨h1,h2⟩:=Z8 I1 G1.val (Z9 r1 rp ht (by simp))
   simp only[Rep] at rp
   obtain⟨a,rfl,ha⟩:=rp
   cases (show vv=Value.ref a from G1.val)
   obtain⟨vs,z,t⟩:=r1.at' n a _ ha hS
   obtain⟨hz,hd,us,rel,dd⟩:=aS I1.hok z
   refine⟨"dict","dict.items",PySem.F.plainAttrs_dict,PySem.F.slot_dict_items,PySem.F.type_dict_items,h1,h2,Calls.callWith_builtin rfl (PySem.evalArgs_none ?_)⟩
   refine call_meetsIn PySem.F.slot_dict_items dd.typeIs PySem.F.entry_dict_items (PySem.F.args_dict_items_1 _) (meets_dict_items (zS X.prog X.w) a hd) ⟨⟨us,dd⟩,?_⟩
   obtain⟨ep,oa,es,hoa,rest⟩:=dd.dictAt
   have at':∀ h:Heap,h.get? a=some oa→h.DictAt (zS X.prog X.w) a us ep:=fun h e=>⟨oa,es,e,rest⟩
   obtain⟨r2,e2⟩:=r1.still (o:=.frz oa (.dK vs)) ha hS (by intro q;cases q)
   have I2:Inv X pins σ (upd H1 a (.frz oa (.dK vs))) { s1 with heap:=s1.heap,toks:=s1.toks }:=I1.write (x:=a) (e:=a) (by rw[z];exact True.intro) (.inl rfl) (fun b q hb e=>e) ⟨oa,hoa⟩ ⟨hoa,hz,hd,us,rel,dd⟩
   have I3:=I2.kept (t':=s1.toks) (h':=s1.heap.push { cls:=.type "dict_items",data:=.fields #[.ref a] }) fun b u e=>Heap.get?_push_of_some _ e
   refine wpAny_pyIter_items (s:={ s1 with heap:=s1.heap.push { cls:=.type "dict_items",data:=.fields #[.ref a] } }) (knd:=zS X.prog X.w) (d:=a) (kvs:=us) (ep:=ep) ⟨_,Heap.get?_push_size _ rfl,rfl,rfl⟩ (at' _ (Heap.get?_push_of_some _ hoa)) ?_
   have I4:=I3.kept (t':=s1.toks) (h':=(s1.heap.push { cls:=.type "dict_items",data:=.fields #[.ref a] }).push { cls:=.type "dict_itemiterator",data:=.fields #[.none,.bool false,.ref a,.int 0 0,.int us.length 0,.int ep 0,.none,.none] }) fun b u e=>Heap.get?_push_of_some _ e
   refine⟨_,[_],_,_,_,rfl,I4,iP rel at',⟨_,_,Heap.get?_push_size _ rfl⟩,fun b hb=>?_,af1 _ _ _ α1 r2 (G1.same.trans e2) G1.pre (oT (u:=.dK vs) z0 (KVs.mono e2 (List.prefix_refl _) t) (by have:=hZ t;have:=this.length;simpa using this))⟩
   have e:b=(s1.heap.push { cls:=.type "dict_items",data:=.fields #[.ref a] }).objs.size:=by simpa using hb
   subst e
   exact I3.fpOk (Nat.le_refl _) (I3.hok.fresh (Nat.le_refl _))
  ·exact False.elim af1
 |_=>exact False.elim af1
theorem WM (ho:QE X o fo)(hbase:attributeBase o "items" X.env (eval o X.env)=eval o X.env:=by rfl)(hline:(apos.endLine == cpos.line)=true:=by rfl):QI X (.Tuple elts x1 tpos) (.Call (.Attribute o "items" apos) [] [] cpos) (fZ fo):=⟨X5 ho.1 hbase hline⟩
def b0:G2:=fun a b S=>match a,b with
 |.bl x,.bl y=>.ok (.bl (x != y)) S
 |_,_=>.bad
theorem QH:OpD X (compareOp .IsNot) b0:=by
 intro pins σ H s P α S v u vv uu a b Q I r rv ru pa pb af
 cases a with
 |bl x =>
  cases b with
  |bl y =>
   simp only[Rep] at pa pb
   subst pa pb
   cases (show vv=Value.bool x from rv)
   cases (show uu=Value.bool y from ru)
   have h:EP X pins σ Q (.bool (x != y)) s:=⟨.bl _,H,I,rfl,xr af r (by simp only[Rep])⟩
   cases x <;> cases y <;> exact wpAny_pure h
  |_=>exact False.elim af
 |_=>exact False.elim af
theorem YB:ZOp X (compareOp .IsNot) b0:=⟨QH⟩
end
end _D
end
section
namespace _D
open PySem
def Nx (o:Out)(Q:qC→Sto→Prop):Prop:=∃ env S,o=.nx env S∧Q env S
def Rt (o:Out)(Q:D→Sto→Prop):Prop:=∃ d S,o=.rt d S∧Q d S
def Ok {β : Type}(r:Res β)(Q:β→Sto→Prop):Prop:=∃ d S,r=.ok d S∧Q d S
theorem jV {o:Out}{Q:qC→Sto→Prop}{env:qC}{S:Sto}(h:o=.nx env S)(q:Q env S):Nx o Q:=⟨env,S,h,q⟩
theorem xD {β : Type}{r:Res β}{Q:β→Sto→Prop}{d:β}{S:Sto}(h:r=.ok d S)(q:Q d S):Ok r Q:=⟨d,S,h,q⟩
theorem xP {f g:DS}{env:qC}{S:Sto}{Q:qC→Sto→Prop}(h:Nx (f env S) fun env1 S1=>Nx (g env1 S1) Q):Nx (qT f g env S) Q:=by
 obtain⟨env1,S1,e,env2,S2,e2,q⟩:=h
 exact⟨env2,S2,by unfold qT;rw[e];exact e2,q⟩
theorem xF {f g:DS}{env:qC}{S:Sto}{Q:D→Sto→Prop}(h:Nx (f env S) fun env1 S1=>Rt (g env1 S1) Q):Rt (qT f g env S) Q:=by
 obtain⟨env1,S1,e,env2,S2,e2,q⟩:=h
 exact⟨env2,S2,by unfold qT;rw[e];exact e2,q⟩
theorem bB {t:DT}{f g:DS}{env:qC}{S S1:Sto}{b:Bool}{Q:qC→Sto→Prop}(h:t env S=.ok b S1)(k:Nx ((if b then f else g) env S1) Q):Nx (sIf t f g env S) Q:=by
 obtain⟨env2,S2,e2,q⟩:=k
 refine⟨env2,S2,?_,q⟩
 unfold sIf
 rw[h]
 cases b <;> exact e2
theorem yE {f:DE}{i:Nat}{env:qC}{S:Sto}{Q:qC→Sto→Prop}(h:Ok (f env S) fun d S1=>Q (env.set i (some d)) S1):Nx (zE f (gNm i) env S) Q:=by
 obtain⟨d,S1,e,q⟩:=h
 exact⟨_,S1,by unfold zE gNm;rw[e];rfl,q⟩
theorem J8 {f:DE}{env:qC}{S:Sto}{Q:qC→Sto→Prop}(h:Ok (f env S) fun _ S1=>Q env S1):Nx (x9 f env S) Q:=by
 obtain⟨d,S1,e,q⟩:=h
 exact⟨_,S1,by unfold x9;rw[e];rfl,q⟩
theorem v3 {f:DE}{env:qC}{S:Sto}{Q:D→Sto→Prop}(h:Ok (f env S) Q):Rt (zA f env S) Q:=by
 obtain⟨d,S1,e,q⟩:=h
 exact⟨_,S1,by unfold zA;rw[e];rfl,q⟩
theorem mK {fi:DI}{g:DG}{f:DS}{env:qC}{S S1:Sto}{ds:List D}{Q:qC→Sto→Prop}(h:fi env S=.ok ds S1)(k:Nx (wL g f ds env S1) Q):Nx (jO fi g f env S) Q:=by
 obtain⟨env2,S2,e2,q⟩:=k
 exact⟨env2,S2,by unfold jO;rw[h];exact e2,q⟩
theorem kJ {g:DG}{f:DS}{Q:qC→Sto→Prop}(I:List D→qC→Sto→Prop)(turn:∀ d ds env S,I (d::ds) env S→∃ env1 S1,g d env S=.ok env1 S1∧Nx (f env1 S1) (I ds))(last:∀ env S,I [] env S→Q env S) :
  ∀ {ds:List D} {env:qC} {S:Sto},I ds env S→Nx (wL g f ds env S) Q
 |[],env,S,h=>⟨env,S,rfl,last env S h⟩
 |d::ds,env,S,h=>by
  obtain⟨env1,S1,e1,env2,S2,e2,h2⟩:=turn d ds env S h
  obtain⟨env3,S3,e3,q⟩:=kJ I turn last (ds:=ds) h2
  refine⟨env3,S3,?_,q⟩
  unfold wL
  simp only[e1,Res.toS,e2]
  exact e3
theorem b5 {o:Option (Nat × MO)}{g:DG}{t:DT}{k:DK}(out:D→List D)(C:qC→Sto→Prop)(hC:∀ env S,C env S→stn o S) :
  ∀ (items:List D) (env:qC) (S:Sto) (acc:List D),C env S→acc.length+(items.flatMap out).length≤lim →
  (∀ d∈items,∀ env S acc,C env S→acc.length+(out d).length≤lim→∃ env1 S1 b S2,g d env S=.ok env1 S1∧t env1 S1=.ok b S2∧((b=false∧out d=[]∧C env1 S2)∨(b=true∧∃ env3 S3,k env1 S2 acc=.ok (env3,acc++out d) S3∧C env3 S3))) →
  ∃ env' S',goL o g t k items env S acc=.ok (env',acc++items.flatMap out) S'∧C env' S'
 |[],env,S,acc,h,hl,_=>⟨env,S,by simp[goL,wN.mpr (hC _ _ h)],h⟩
 |d::ds,env,S,acc,h,hl,step=>by
  rw[List.flatMap_cons,List.length_append] at hl
  obtain⟨env1,S1,b,S2,e1,e2,r⟩:=step d (List.mem_cons_self ..) env S acc h (by omega)
  have hst:=wN.mpr (hC _ _ h)
  rcases r with⟨rfl,h0,h2⟩|⟨rfl,env3,S3,e3,h3⟩
  ·obtain⟨env',S',e,q⟩:=b5 out C hC ds env1 S2 acc h2 (by omega) fun d hd=>step d (List.mem_cons_of_mem _ hd)
   refine⟨env',S',?_,q⟩
   simp only[goL,hst,if_true,e1,e2,Res.bind,Bool.false_eq_true,if_false,List.flatMap_cons,h0,List.nil_append]
   exact e
  ·obtain⟨env',S',e,q⟩:=b5 out C hC ds env3 S3 (acc++out d) h3 (by rw[List.length_append];omega) fun d hd=>step d (List.mem_cons_of_mem _ hd)
   refine⟨env',S',?_,q⟩
   simp only[goL,hst,if_true,e1,e2,Res.bind,e3,List.flatMap_cons]
   rw[e,List.append_assoc]
theorem gF {fe:DE}{env:qC}{S S1:Sto}{acc:List D}{x:D}(h:fe env S=.ok x S1)(hl:acc.length<lim):qP fe env S acc=.ok (env,acc++[x]) S1:=by
 unfold qP
 rw[h]
 simp[Res.bind,hl]
theorem vH {cap:List (Option Nat)}{fi:DI2}{g:DG}{t:DT}{k:DK}{env env':qC}{S S1 S':Sto}{o:Option (Nat × MO)}{items ds:List D}(h:fi env S=.ok (o,items) S1)(e:goL o g t k items (zW cap env) S1 [] = .ok (env',ds) S'):qO false cap fi g t k env S=.ok (.lst ds) S':=by
 unfold qO
 rw[h]
 simp only[Res.bind,e,mkM]
 rfl
end _D
end
section
namespace _D
open PySem
theorem cO {n:Nat}{f:DE}{ds:List D}{S S':Sto}{d:D}{env:qC}(hs:vR n ds=env)(h:f env S=.ok d S'):qV n (zA f) ds S=.ok d S':=by
 subst hs
 unfold qV zA
 rw[h]
 rfl
theorem pN {n:Nat}{g:DS}{ds:List D}{S S':Sto}{d:D}{env:qC}(hs:vR n ds=env)(h:g env S=.rt d S'):qV n g ds S=.ok d S':=by
 subst hs
 unfold qV
 rw[h]
 rfl
theorem KD {o:Option (Nat × MO)}{S S':Sto}(h:stn o S)(e:S<+:S'):stn o S':=by
 cases o with
 |none=>trivial
 |some p =>
  obtain⟨r,rfl⟩:=e
  have h':S[p.1]? = some p.2:=h
  show (S++r)[p.1]? = some p.2
  rw[List.getElem?_append_left (List.getElem?_eq_some_iff.mp h').1]
  exact h'
theorem jA {α β:Type}(sel:α→Bool)(val:α→β)(l:List α) : (l.flatMap fun d=>if sel d then [val d] else []) = (l.filter sel).map val:=by
 induction l with
 |nil=>rfl
 |cons d l ih =>
  rw[List.flatMap_cons,ih]
  cases h:sel d <;> simp[h]
section
variable {cap:List (Option Nat)}{fi:DI2}{g:DG}{t:DT}{fe:DE}{env:qC}{S S0:Sto}{o:Option (Nat × MO)}{items:List D}
theorem go1 (hst:stn o S)(sel:D→Bool)(val:D→D)(C:qC→Prop)(h0:C env)(hl:items.length≤lim)
  (step:∀ d∈items,∀ env S',C env→S<+:S'→∃ env1 S1,g d env S'=.ok env1 S'∧C env1∧t env1 S'=.ok (sel d) S1∧S'<+:S1∧(sel d=true→∃ S2,fe env1 S1=.ok (val d) S2∧S1<+:S2)) :
  ∃ env' S',goL o g t (qP fe) items env S [] = .ok (env',(items.filter sel).map val) S'∧S<+:S':=by
 have lf:(items.flatMap fun d=>if sel d then [val d] else []).length≤lim:=by
  rw[jA,List.length_map]
  exact Nat.le_trans (List.length_filter_le _ _) hl
 obtain⟨env',S',e,_,q⟩:=b5 (o:=o) (g:=g) (t:=t) (k:=qP fe) (fun d=>if sel d then [val d] else []) (fun env S'=>C env∧S<+:S') (fun _ _ h=>KD hst h.2) items env S [] ⟨h0,List.prefix_refl _⟩ (by simpa using lf) (fun d hd env S' acc hC hl=>by
  obtain⟨env1,S1,e1,c1,e2,p1,k⟩:=step d hd env S' hC.1 hC.2
  refine⟨env1,S',sel d,S1,e1,e2,?_⟩
  cases hs:sel d with
  |false=>exact .inl ⟨rfl,by simp,c1,hC.2.trans p1⟩
  |true =>
   obtain⟨S2,e3,p2⟩:=k hs
   refine .inr ⟨rfl,env1,S2,?_,c1,(hC.2.trans p1).trans p2⟩
   simp only[if_true]
   exact gF e3 (by simp only[hs,if_true,List.length_singleton] at hl;omega))
 refine⟨env',S',?_,q⟩
 rw[e,List.nil_append,jA]
theorem TQ (h:fi env S0=.ok (o,items) S)(hst:stn o S)(sel:D→Bool)(val:D→D)(C:qC→Prop)(h0:C (zW cap env))(hl:items.length≤lim)
  (step:∀ d∈items,∀ env S',C env→S<+:S'→∃ env1 S1,g d env S'=.ok env1 S'∧C env1∧t env1 S'=.ok (sel d) S1∧S'<+:S1∧(sel d=true→∃ S2,fe env1 S1=.ok (val d) S2∧S1<+:S2)) :
  ∃ S',qO false cap fi g t (qP fe) env S0=.ok (.lst ((items.filter sel).map val)) S'∧S<+:S':=by
 obtain⟨env',S',e,q⟩:=go1 hst sel val C h0 hl step
 exact⟨S',vH h e,q⟩
theorem SB (hst:stn o S)(sel:D→Bool)(val:D→D)(C:qC→Prop)(h0:C env)(hl:items.length≤lim)
  (step:∀ d∈items,∀ env,C env→∃ env1,g d env S=.ok env1 S∧C env1∧t env1 S=.ok (sel d) S∧(sel d=true→fe env1 S=.ok (val d) S)) :
  ∃ env',goL o g t (qP fe) items env S [] = .ok (env',(items.filter sel).map val) S:=by
 have lf:(items.flatMap fun d=>if sel d then [val d] else []).length≤lim:=by
  rw[jA,List.length_map]
  exact Nat.le_trans (List.length_filter_le _ _) hl
 obtain⟨env',S',e,_,q⟩:=b5 (o:=o) (g:=g) (t:=t) (k:=qP fe) (fun d=>if sel d then [val d] else []) (fun env S'=>C env∧S'=S) (fun _ _ h=>h.2▸hst) items env S [] ⟨h0,rfl⟩ (by simpa using lf) (fun d hd env S' acc hC hl=>by
  obtain⟨hc,rfl⟩:=hC
  obtain⟨env1,e1,c1,e2,k⟩:=step d hd env hc
  refine⟨env1,S',sel d,S',e1,e2,?_⟩
  cases hs:sel d with
  |false=>exact .inl ⟨rfl,by simp,c1,rfl⟩
  |true =>
   refine .inr ⟨rfl,env1,S',?_,c1,rfl⟩
   simp only[if_true]
   exact gF (k hs) (by simp only[hs,if_true,List.length_singleton] at hl;omega))
 subst q
 refine⟨env',?_⟩
 rw[e,List.nil_append,jA]
theorem o9 (h:fi env S=.ok (o,items) S)(hst:stn o S)(sel:D→Bool)(val:D→D)(C:qC→Prop)(h0:C (zW cap env))(hl:items.length≤lim)
  (step:∀ d∈items,∀ env,C env→∃ env1,g d env S=.ok env1 S∧C env1∧t env1 S=.ok (sel d) S∧(sel d=true→fe env1 S=.ok (val d) S)) :
  qO false cap fi g t (qP fe) env S=.ok (.lst ((items.filter sel).map val)) S:=by
 obtain⟨env',e⟩:=SB hst sel val C h0 hl step
 exact vH h e
end
end _D
end
section
namespace _D
open PySem
theorem goT {α : Type}{enc:α→D}{o:Option (Nat × MO)}{g:DG}{t:DT}{k:DK}(out:α→List D)(C:qC→Sto→Prop)(hC:∀ env S,C env S→stn o S) :
  ∀ (xs:List α) (env:qC) (S:Sto) (acc:List D),C env S→acc.length+(xs.flatMap out).length≤lim →
  (∀ x∈xs,∀ env S acc,C env S→acc.length+(out x).length≤lim→∃ env1 S1 b S2,g (enc x) env S=.ok env1 S1∧t env1 S1=.ok b S2∧((b=false∧out x=[]∧C env1 S2)∨(b=true∧∃ env3 S3,k env1 S2 acc=.ok (env3,acc++out x) S3∧C env3 S3))) →
  ∃ env' S',goL o g t k (xs.map enc) env S acc=.ok (env',acc++xs.flatMap out) S'∧C env' S'
 |[],env,S,acc,h,hl,_=>⟨env,S,by simp[goL,wN.mpr (hC _ _ h)],h⟩
 |x::xs,env,S,acc,h,hl,step=>by
  rw[List.flatMap_cons,List.length_append] at hl
  obtain⟨env1,S1,b,S2,e1,e2,r⟩:=step x (List.mem_cons_self ..) env S acc h (by omega)
  have hst:=wN.mpr (hC _ _ h)
  rcases r with⟨rfl,h0,h2⟩|⟨rfl,env3,S3,e3,h3⟩
  ·obtain⟨env',S',e,q⟩:=goT out C hC xs env1 S2 acc h2 (by omega) fun d hd=>step d (List.mem_cons_of_mem _ hd)
   refine⟨env',S',?_,q⟩
   simp only[List.map_cons,goL,hst,if_true,e1,e2,Res.bind,Bool.false_eq_true,if_false,List.flatMap_cons,h0,List.nil_append]
   exact e
  ·obtain⟨env',S',e,q⟩:=goT out C hC xs env3 S3 (acc++out x) h3 (by rw[List.length_append];omega) fun d hd=>step d (List.mem_cons_of_mem _ hd)
   refine⟨env',S',?_,q⟩
   simp only[List.map_cons,goL,hst,if_true,e1,e2,Res.bind,e3,List.flatMap_cons]
   rw[e,List.append_assoc]
section
variable {α β:Type}{enc:α→D}{enc2:β→D}{cap:List (Option Nat)}{fi:DI2}{g:DG}{t:DT}{fe:DE}{env:qC}{S S0:Sto}{o:Option (Nat × MO)}{xs:List α}
theorem aY (hst:stn o S)(sel:α→Bool)(val:α→D)(C:qC→Prop)(h0:C env)(hl:xs.length≤lim)
  (step:∀ x∈xs,∀ env,C env→∃ env1,g (enc x) env S=.ok env1 S∧C env1∧t env1 S=.ok (sel x) S∧(sel x=true→fe env1 S=.ok (val x) S)) :
  ∃ env',goL o g t (qP fe) (xs.map enc) env S [] = .ok (env',(xs.filter sel).map val) S:=by
 have lf:(xs.flatMap fun d=>if sel d then [val d] else []).length≤lim:=by
  rw[jA,List.length_map]
  exact Nat.le_trans (List.length_filter_le _ _) hl
 obtain⟨env',S',e,_,q⟩:=goT (enc:=enc) (o:=o) (g:=g) (t:=t) (k:=qP fe) (fun d=>if sel d then [val d] else []) (fun env S'=>C env∧S'=S) (fun _ _ h=>h.2▸hst) xs env S [] ⟨h0,rfl⟩ (by simpa using lf) (fun d hd env S' acc hC hl=>by
  obtain⟨hc,rfl⟩:=hC
  obtain⟨env1,e1,c1,e2,k⟩:=step d hd env hc
  refine⟨env1,S',sel d,S',e1,e2,?_⟩
  cases hs:sel d with
  |false=>exact .inl ⟨rfl,by simp,c1,rfl⟩
  |true =>
   refine .inr ⟨rfl,env1,S',?_,c1,rfl⟩
   simp only[if_true]
   exact gF (k hs) (by simp only[hs,if_true,List.length_singleton] at hl;omega))
 subst q
 refine⟨env',?_⟩
 rw[e,List.nil_append,jA]
theorem tI (h:fi env S=.ok (o,xs.map enc) S)(hst:stn o S)(sel:α→Bool)(val:α→D)(C:qC→Prop)(h0:C (zW cap env))(hl:xs.length≤lim)
  (step:∀ x∈xs,∀ env,C env→∃ env1,g (enc x) env S=.ok env1 S∧C env1∧t env1 S=.ok (sel x) S∧(sel x=true→fe env1 S=.ok (val x) S)) :
  qO false cap fi g t (qP fe) env S=.ok (.lst ((xs.filter sel).map val)) S:=by
 obtain⟨env',e⟩:=aY hst sel val C h0 hl step
 exact vH h e
end
end _D
end
section
namespace _D
open PySem
theorem qQ {o:G2}{f g:DE}{env:qC}{S S1 S2:Sto}{a b:D}(h1:f env S=.ok a S1)(h2:g env S1=.ok b S2):d2 o f g env S=o a b S2:=by
 unfold d2
 rw[h1]
 simp only[Res.bind]
 rw[h2]
theorem x8 {F:DF}{f1:DE}{env:qC}{S S1:Sto}{a:D}(h1:f1 env S=.ok a S1):qD 1 F (q9 f1 (qB)) env S=F [a] S1:=by
 simp only[qD,q9,qB,h1,Res.bind,List.length_cons,List.length_nil,if_true]
theorem uC {F:DF}{f1 f2:DE}{env:qC}{S S1 S2:Sto}{a b:D}(h1:f1 env S=.ok a S1)(h2:f2 env S1=.ok b S2):qD 2 F (q9 f1 (q9 f2 (qB))) env S=F [a,b] S2:=by
 simp only[qD,q9,qB,h1,h2,Res.bind,List.length_cons,List.length_nil,if_true]
theorem aJ {F:DF}{f1 f2 f3:DE}{env:qC}{S S1 S2 S3:Sto}{a b c:D}(h1:f1 env S=.ok a S1)(h2:f2 env S1=.ok b S2)(h3:f3 env S2=.ok c S3):qD 3 F (q9 f1 (q9 f2 (q9 f3 (qB)))) env S=F [a,b,c] S3:=by
 simp only[qD,q9,qB,h1,h2,h3,Res.bind,List.length_cons,List.length_nil,if_true]
theorem xW {F:DF}{f1:DE}{env:qC}{S S1:Sto}{a:D}(h1:f1 env S=.ok a S1):qH F (q9 f1 (qB)) env S=F [a] S1:=by
 simp only[qH,q9,qB,h1,Res.bind]
theorem o3 {F:DF}{f1 f2:DE}{env:qC}{S S1 S2:Sto}{a b:D}(h1:f1 env S=.ok a S1)(h2:f2 env S1=.ok b S2):qH F (q9 f1 (q9 f2 (qB))) env S=F [a,b] S2:=by
 simp only[qH,q9,qB,h1,h2,Res.bind]
theorem zX {f:DE}{env:qC}{S S1:Sto}{b:Bool}(h:f env S=.ok (.bl b) S1):dTr f env S=.ok b S1:=by
 unfold dTr
 rw[h]
 rfl
theorem pM {f:DT}{env:qC}{S S1:Sto}{b:Bool}(h:f env S=.ok b S1):xR f env S=.ok (!b) S1:=by
 unfold xR
 rw[h]
 rfl
theorem dF {f g:DT}{env:qC}{S S1 S2:Sto}{a b:Bool}(h:f env S=.ok a S1)(k:a=false→g env S1=.ok b S2)(e:a=true→S1=S2):yW f g env S=.ok (a||b) S2:=by
 unfold yW
 rw[h]
 cases a with
 |true=>cases e rfl;rfl
 |false=>exact k rfl
theorem GD {f g:DE}{env:qC}{S S1 S2:Sto}{a b:Bool}(h:f env S=.ok (.bl a) S1)(k:a=true→g env S1=.ok (.bl b) S2)(e:a=false→S1=S2):fB f g env S=.ok (.bl (a&&b)) S2:=by
 unfold fB
 rw[h]
 cases a with
 |false=>cases e rfl;rfl
 |true=>exact k rfl
theorem m5 {f1:DE}{env:qC}{S S1:Sto}{a:D}(h1:f1 env S=.ok a S1):q9 f1 (qB) env S=.ok [a] S1:=by
 simp only[q9,qB,h1,Res.bind]
theorem xI {f1 f2:DE}{env:qC}{S S1 S2:Sto}{a b:D}(h1:f1 env S=.ok a S1)(h2:f2 env S1=.ok b S2):q9 f1 (q9 f2 (qB)) env S=.ok [a,b] S2:=by
 simp only[q9,qB,h1,h2,Res.bind]
theorem sW {g:DA}{env:qC}{S S1:Sto}{as:List D}(k:g env S=.ok as S1)(h:as.length≤lim):uP g env S=.ok (.lst as) S1:=by
 simp only[uP,k,Res.bind,h,if_true]
theorem xQ {g:DA}{env:qC}{S S1:Sto}{as:List D}(k:g env S=.ok as S1)(h:as.length≤lim):zP g env S=.ok (.tup as) S1:=by
 simp only[zP,k,Res.bind,h,if_true]
theorem w4 {env:qC}{i:Nat}{d:D}{S:Sto}(h:env[i]? = some (some d)):qA i env S=.ok d S:=by simp only[qA,h]
theorem yB {α : Type}(l:List α) : l.filter (fun _=>true)=l:=by simp
theorem o0 {α : Type}(p:α→Bool)(l:List α) : yA (l.map fun x=>D.bl (p x))=some (l.map p):=by
 induction l with
 |nil=>rfl
 |cons x l ih =>
  show (yA (l.map fun x=>D.bl (p x))).map (p x::·)=_
  rw[ih];rfl
theorem dM {α : Type}{f:DE}{env:qC}{S S1:Sto}{l:List α}{p:α→Bool}(h:f env S=.ok (.lst (l.map fun x=>D.bl (p x))) S1):qH (g9 false) (q9 f (qB)) env S=.ok (.bl (l.all p)) S1:=by
 rw[xW h]
 show (match (x0 (.lst (l.map fun x=>D.bl (p x)))).bind yA with|some bs=>Res.ok (D.bl (bs.all id)) S1|none=>.bad)=_
 rw[show (x0 (.lst (l.map fun x=>D.bl (p x)))).bind yA=some (l.map p) from o0 p l]
 simp only[List.all_map]
 rfl
theorem BX {i j:Nat}{f1 f2:DE}{env:qC}{S S1 S2:Sto}{a b:D}{Q:qC→Sto→Prop}(h1:f1 env S=.ok a S1)(h2:f2 env S1=.ok b S2)(q:Q ((env.set i (some a)).set j (some b)) S2):Nx (nN i j (q9 f1 (q9 f2 (qB))) env S) Q:=by
 unfold nN
 rw[xI h1 h2]
 exact jV rfl q
theorem yU {f:DE}{g:DG}{env env1:qC}{S S1 S2:Sto}{d:D}{Q:qC→Sto→Prop}(h1:f env S=.ok d S1)(h2:g d env S1=.ok env1 S2)(q:Q env1 S2):Nx (zE f g env S) Q:=by
 unfold zE
 rw[h1]
 simp only[Res.toS]
 rw[h2]
 exact jV rfl q
theorem mW {t:DT}{f g:DS}{env:qC}{S S1:Sto}{b:Bool}{Q:D→Sto→Prop}(h:t env S=.ok b S1)(k:Rt ((if b then f else g) env S1) Q):Rt (sIf t f g env S) Q:=by
 unfold sIf
 rw[h]
 cases b <;> exact k
end _D
end
section
namespace _K
open PySem _D
theorem RF (b:Bool)(S:Sto):xM (.bl b) S=some b:=rfl
theorem RD (i:Int)(S:Sto):xM (.int i) S=some (i != 0):=rfl
theorem T4 (i:Int)(S:Sto):tyD (.int i) S=some "int":=rfl
theorem RO (b:Bool)(S:Sto):tyD (.bl b) S=some "bool":=rfl
theorem RH (S:Sto):tyD .non S=some "NoneType":=rfl
theorem RI (x:Str)(S:Sto):tyD (.str x) S=some "str":=rfl
theorem RJ (x:List D)(S:Sto):tyD (.tup x) S=some "tuple":=rfl
theorem RG (x:List D)(S:Sto):tyD (.lst x) S=some "list":=rfl
theorem RA (x:List D):x0 (.tup x)=some x:=rfl
theorem R9 (x:List D):x0 (.lst x)=some x:=rfl
theorem JD (d:D)(S:Sto):uT (.rt d S)=.ok d S:=rfl
theorem RC (e:qC)(S:Sto):uT (.nx e S)=.ok .non S:=rfl
theorem RB (c:Value)(x:D)(e:qC)(S:Sto):uT (.ex c x e S)=.ex c x S:=rfl
theorem SJ (i j:Nat)(env:qC)(S:Sto)(x y:D):rE i j env S [x,y]=.nx ((env.set i (some x)).set j (some y)) S:=rfl
theorem D8 (i j k:Nat)(env:qC)(S:Sto)(x y z:D):cF i j k env S [x,y,z]=.nx (((env.set i (some x)).set j (some y)).set k (some z)) S:=rfl
theorem RE (C:Int→Int→Bool)(f:Int→Int→D)(i j:Int)(S:Sto):i2 C f (.int i) (.int j) S=if C i j=true then .ok (f i j) S else .bad:=rfl
theorem UB (b:Bool)(S:Sto):sD [.bl b] S=.ok (.int (b01 b)) S:=rfl
theorem UE {xs:List D}{k:Int}{d:D}(h:_L.atI xs k=some d)(S:Sto):gIx (.lst xs) (.int k) S=.ok d S:=by
 show _D.vP (_L.atI xs k) S=_
 rw[h]
 rfl
end _K
end
open PySem _D _K
section
namespace _K
open PySem PySem.Spec PyProof.Rows _L _D
def top (i:Nat):Stmt:=PySem.Challenge.pw_fewdistances_k03_whole_tables_and_moves.main.body.getD i (.Pass ⟨0,0,0,0⟩)
structure Cl where
 (FarError NoPoint NoLot NoNumber:Addr)
def aL (c:Cl):List Addr:=[c.NoPoint,c.NoLot,c.NoNumber]
def GG (c:Cl):List Value:=[.ref c.NoPoint,.ref c.NoLot,.ref c.NoNumber]
abbrev clt (c:Cl):List (Str × Addr):=[("FarError",c.FarError),("NoPoint",c.NoPoint),("NoLot",c.NoLot),("NoNumber",c.NoNumber)]
abbrev plt (c:Cl):List (Str × Addr):=[("NoPoint",c.NoPoint),("NoLot",c.NoLot),("NoNumber",c.NoNumber)]
abbrev cst:List (Str × Int):=[("LEAST_NUMBER",-1000),("MOST_NUMBER",1000),("MOST_POINTS",40)]
abbrev bl:List Str:=["ValueError","all","bool","enumerate","int","isinstance","len","max","min","range","set","sorted","sum","tuple","zip"]
abbrev tab:List (Str × Nat × List Str):=[("is_whole",6,["thing"]),("is_within",7,["thing","least","most"]),("is_rising",8,["some"]),("need_number",9,["thing"]),("is_point",14,["thing"]),("is_lot",15,["thing"]),("need_point",16,["thing"]),("need_lot",17,["thing"]),("far_between",18,["one","other"]),("far_of",19,["one","other"]),("pairs_by_far",20,["points"]),("far_table",21,["lot"]),("fars",22,["lot"]),("moved",24,["lot","across","up"]),("turned_about",25,["lot"]),("mirrored",26,["lot"]),("_law_cell",28,["_law_script","_law_k"]),("_law_pen",29,["_law_cell_here"]),("_law_draw",30,["_law_pen_here","_law_many"]),("_law_point",31,["_law_pen_here","_law_wide"]),("_law_lot",32,["_law_pen_here","_law_most"]),("_law_pairs_right",33,["_law_pen_here","_law_lot_here"]),("law",34,["_law_script"])]
abbrev Txt (K:PySem.W.Frag)(mg:Str→Option Value)(c:Cl):Prop:=TxS K mg top tab bl (clt c) (plt c) (GG c) (aL c) cst
@[reducible] noncomputable def kT:DS:=zA (fB (qH yX (q9 (qA 0) (q9 (dC (.ty "int")) (qB)))) (ZY (qH yX (q9 (qA 0) (q9 (dC (.ty "bool")) (qB))))))
@[irreducible] noncomputable def yK:DF:=sh (qV 1 kT)
theorem uN:yK=qV 1 kT:=by delta yK;exact xE _
@[reducible] noncomputable def uB:DS:=zA (fB (qD 1 yK (q9 (qA 0) (qB))) (wQ gLe gLe (qA 1) (qA 0) (qA 2)))
@[irreducible] noncomputable def wU:DF:=sh (qV 3 uB)
theorem vV:wU=qV 3 uB:=by delta wU;exact xE _
@[reducible] noncomputable def bQ:DS:=zA (qH (g9 false) (q9 (qO false [none,none] (w8 (dZ (q9 (qA 0) (q9 (dSl (qA 0) (zV (dC (.int 1))) (xZ)) (qB))))) (gTp 2 (qF (gNm 0) (qF (gNm 1) (qY)))) (qU) (qP (d2 fG (qA 0) (qA 1)))) (qB)))
@[irreducible] noncomputable def u9:DF:=sh (qV 1 bQ)
theorem kE:u9=qV 1 bQ:=by delta u9;exact xE _
@[reducible] noncomputable def gY (c:Cl):DS:=sIf (xR (dTr (qD 1 yK (q9 (qA 0) (qB))))) (v4 (.ref c.NoNumber) (q9 (dC (.str "a whole number is needed")) (qB))) (zO)
@[irreducible] noncomputable def wP (c:Cl):DF:=sh (qV 1 (gY c))
theorem jE (c:Cl):wP c=qV 1 (gY c):=by delta wP;exact xE _
@[reducible] noncomputable def fX:DS:=qT (sIf (yW (xR (dTr (qH yX (q9 (qA 0) (q9 (dC (.ty "tuple")) (qB)))))) (dTr (d2 gNe (qH zR (q9 (qA 0) (qB))) (dC (.int 2))))) (zA (dC (.bl false))) (zO)) (zA (qH (g9 false) (q9 (qO false [none] (dIt (qA 0)) (gNm 0) (qU) (qP (qD 3 (okO wU) (q9 (qA 0) (q9 (dC (.int (-1000))) (q9 (dC (.int (1000))) (qB))))))) (qB))))
@[irreducible] noncomputable def yJ:DF:=sh (qV 1 fX)
theorem gV:yJ=qV 1 fX:=by delta yJ;exact xE _
@[reducible] noncomputable def f6:DS:=qT (sIf (yW (xR (dTr (qH yX (q9 (qA 0) (q9 (dC (.ty "tuple")) (qB)))))) (xR (dTr (wQ gLe gLe (dC (.int 1)) (qH zR (q9 (qA 0) (qB))) (dC (.int (40))))))) (zA (dC (.bl false))) (zO)) (zA (fB (qH (g9 false) (q9 (qO false [none] (dIt (qA 0)) (gNm 0) (qU) (qP (qD 1 (okO yJ) (q9 (qA 0) (qB))))) (qB))) (qD 1 u9 (q9 (qA 0) (qB)))))
@[irreducible] noncomputable def vU:DF:=sh (qV 1 f6)
theorem bP:vU=qV 1 f6:=by delta vU;exact xE _
@[reducible] noncomputable def pB (c:Cl):DS:=sIf (xR (dTr (qD 1 yJ (q9 (qA 0) (qB))))) (v4 (.ref c.NoPoint) (q9 (dC (.str "a point is needed")) (qB))) (zO)
@[irreducible] noncomputable def zJ (c:Cl):DF:=sh (qV 1 (pB c))
theorem jT (c:Cl):zJ c=qV 1 (pB c):=by delta zJ;exact xE _
@[reducible] noncomputable def fY (c:Cl):DS:=sIf (xR (dTr (qD 1 vU (q9 (qA 0) (qB))))) (v4 (.ref c.NoLot) (q9 (dC (.str "a lot is needed")) (qB))) (zO)
@[irreducible] noncomputable def wH (c:Cl):DF:=sh (qV 1 (fY c))
theorem gX (c:Cl):wH c=qV 1 (fY c):=by delta wH;exact xE _
@[reducible] noncomputable def uO:DS:=qT (zE (d2 zK (d2 gIx (qA 0) (dC (.int 0))) (d2 gIx (qA 1) (dC (.int 0)))) (gNm 2)) (qT (zE (d2 zK (d2 gIx (qA 0) (dC (.int 1))) (d2 gIx (qA 1) (dC (.int 1)))) (gNm 3)) (zA (d2 qZ (d2 xH (qA 2) (qA 2)) (d2 xH (qA 3) (qA 3)))))
@[irreducible] noncomputable def wO:DF:=sh (qV 4 uO)
theorem jD:wO=qV 4 uO:=by delta wO;exact xE _
@[reducible] noncomputable def kS (c:Cl):DS:=qT (x9 (qD 1 (zJ c) (q9 (qA 0) (qB)))) (qT (x9 (qD 1 (zJ c) (q9 (qA 1) (qB)))) (zA (qD 2 wO (q9 (qA 0) (q9 (qA 1) (qB))))))
@[irreducible] noncomputable def wG (c:Cl):DF:=sh (qV 2 (kS c))
theorem bO (c:Cl):wG c=qV 2 (kS c):=by delta wG;exact xE _
@[reducible] noncomputable def yN:DS:=qT (zE (ZX) (gNm 1)) (qT (jO (aQ (q9 (qA 0) (qB))) (gTp 2 (qF (gNm 2) (qF (gNm 3) (qY)))) (jO (vK (dSl (qA 0) (zV (d2 qZ (qA 2) (dC (.int 1)))) (xZ))) (gNm 4) (x9 (dBm "list" yT (dBm "dict" wC (qA 1) (q9 (qD 2 wO (q9 (qA 3) (q9 (qA 4) (qB)))) (q9 (dD (qB)) (qB)))) (q9 (zP (q9 (qA 3) (q9 (qA 4) (qB)))) (qB)))))) (zA (qA 1)))
@[irreducible] noncomputable def wB:DF:=sh (qV 5 yN)
theorem uU:wB=qV 5 yN:=by delta wB;exact xE _
@[reducible] noncomputable def uA (c:Cl):DS:=qT (x9 (qD 1 (wH c) (q9 (qA 0) (qB)))) (zA (qH wV (q9 (qO false [none,none] (w8 (fZ (qD 1 wB (q9 (qA 0) (qB))))) (gTp 2 (qF (gNm 0) (qF (gNm 1) (qY)))) (qU) (qP (zP (q9 (qA 0) (q9 (qH zR (q9 (qA 1) (qB))) (qB)))))) (qB))))
@[irreducible] noncomputable def zU (c:Cl):DF:=sh (qV 1 (uA c))
theorem kB (c:Cl):zU c=qV 1 (uA c):=by delta zU;exact xE _
@[reducible] noncomputable def fW (c:Cl):DS:=zA (qO false [none,none] (dIt (qD 1 (zU c) (q9 (qA 0) (qB)))) (gTp 2 (qF (gNm 0) (qF (gNm 1) (qY)))) (qU) (qP (qA 0)))
@[irreducible] noncomputable def xT (c:Cl):DF:=sh (qV 1 (fW c))
theorem nU (c:Cl):xT c=qV 1 (fW c):=by delta xT;exact xE _
@[reducible] noncomputable def pT (c:Cl):DS:=qT (x9 (qD 1 (wH c) (q9 (qA 0) (qB)))) (qT (x9 (qD 1 (wP c) (q9 (qA 1) (qB)))) (qT (x9 (qD 1 (wP c) (q9 (qA 2) (qB)))) (qT (zE (qH wR (q9 (qO false [none,none,some 1,some 2] (dIt (qA 0)) (gTp 2 (qF (gNm 0) (qF (gNm 1) (qY)))) (qU) (qP (zP (q9 (d2 qZ (qA 0) (qA 2)) (q9 (d2 qZ (qA 1) (qA 3)) (qB)))))) (qB))) (gNm 3)) (qT (jO (vK (qA 3)) (gNm 4) (x9 (qD 1 (zJ c) (q9 (qA 4) (qB))))) (zA (qA 3))))))
@[irreducible] noncomputable def j9 (c:Cl):DF:=sh (qV 5 (pT c))
theorem fV (c:Cl):j9 c=qV 5 (pT c):=by delta j9;exact xE _
@[reducible] noncomputable def yO (c:Cl):DS:=qT (x9 (qD 1 (wH c) (q9 (qA 0) (qB)))) (zA (qH wR (q9 (qH wV (q9 (qO false [none,none] (dIt (qA 0)) (gTp 2 (qF (gNm 0) (qF (gNm 1) (qY)))) (qU) (qP (zP (q9 (d1 XO (qA 1)) (q9 (qA 0) (qB)))))) (qB))) (qB))))
@[irreducible] noncomputable def xG (c:Cl):DF:=sh (qV 1 (yO c))
theorem uV (c:Cl):xG c=qV 1 (yO c):=by delta xG;exact xE _
@[reducible] noncomputable def j0 (c:Cl):DS:=qT (x9 (qD 1 (wH c) (q9 (qA 0) (qB)))) (zA (qH wR (q9 (qH wV (q9 (qO false [none,none] (dIt (qA 0)) (gTp 2 (qF (gNm 0) (qF (gNm 1) (qY)))) (qU) (qP (zP (q9 (qA 1) (q9 (qA 0) (qB)))))) (qB))) (qB))))
@[irreducible] noncomputable def yL (c:Cl):DF:=sh (qV 1 (j0 c))
theorem gW (c:Cl):yL c=qV 1 (j0 c):=by delta yL;exact xE _
@[reducible] noncomputable def jY:DS:=qT (sIf (dTr (d2 gLt (qA 1) (qH zR (q9 (qA 0) (qB))))) (zA (d2 gIx (qA 0) (qA 1))) (zO)) (zA (dC (.int 0)))
@[irreducible] noncomputable def wT:DF:=sh (qV 2 jY)
theorem k9:wT=qV 2 jY:=by delta wT;exact xE _
@[reducible] noncomputable def kR:DS:=zA (dD (q9 (qA 0) (q9 (qH sD (q9 (d2 gGe (qA 0) (d2 aX (dC (.int 10)) (dC (.int 18)))) (qB))) (qB))))
@[irreducible] noncomputable def uY:DF:=sh (qV 1 kR)
theorem gU:uY=qV 1 kR:=by delta uY;exact xE _
@[reducible] noncomputable def jZ:DS:=qT (sIf (dTr (d2 gEq (d2 gIx (qA 0) (dC (.int 1))) (dC (.int 1)))) (qT (zE (d2 uR (d2 gIx (qA 0) (dC (.int 0))) (qA 1)) (gNm 2)) (qT (zE (d2 vB (d2 gIx (qA 0) (dC (.int 0))) (qA 1)) (gSb (qA 0) (dC (.int 0)) uD)) (zA (qA 2)))) (zO)) (qT (zE (d2 uR (d2 qZ (d2 xH (d2 uR (d2 gIx (qA 0) (dC (.int 0))) (dC (.int 2147483629))) (dC (.int 48271))) (dC (.int 11))) (dC (.int 2147483629))) (gSb (qA 0) (dC (.int 0)) uD)) (zA (d2 uR (d2 vB (d2 uR (d2 qZ (d2 xH (d2 gIx (qA 0) (dC (.int 0))) (d2 gIx (qA 0) (dC (.int 0)))) (d2 xH (dC (.int 40692)) (d2 gIx (qA 0) (dC (.int 0))))) (dC (.int 2147483647))) (dC (.int 8))) (qA 1))))
@[irreducible] noncomputable def z9:DF:=sh (qV 3 jZ)
theorem kA:z9=qV 3 jZ:=by delta z9;exact xE _
@[reducible] noncomputable def pA:DS:=zA (zP (q9 (d2 zK (qD 2 z9 (q9 (qA 0) (q9 (d2 qZ (d2 xH (dC (.int 2)) (qA 1)) (dC (.int 1))) (qB)))) (qA 1)) (q9 (d2 zK (qD 2 z9 (q9 (qA 0) (q9 (d2 qZ (d2 xH (dC (.int 2)) (qA 1)) (dC (.int 1))) (qB)))) (qA 1)) (qB))))
@[irreducible] noncomputable def wA:DF:=sh (qV 2 pA)
theorem jS:wA=qV 2 pA:=by delta wA;exact xE _
@[reducible] noncomputable def uZ:DS:=qT (nN 2 3 (q9 (qD 2 z9 (q9 (qA 0) (q9 (dC (.int 7)) (qB)))) (q9 (d2 qZ (dC (.int 1)) (qD 2 z9 (q9 (qA 0) (q9 (qA 1) (qB))))) (qB)))) (qT (zE (zP (q9 (d2 gIx (uP (q9 (dC (.int 1)) (q9 (dC (.int 2)) (q9 (dC (.int 4)) (q9 (dC (.int 12)) (q9 (dC (.int 1000)) (qB))))))) (qD 2 z9 (q9 (qA 0) (q9 (dC (.int 5)) (qB))))) (q9 (qD 2 wA (q9 (qA 0) (q9 (dC (.int 400)) (qB)))) (qB)))) (gTp 2 (qF (gNm 4) (qF (gNm 5) (qY))))) (qT (zE (d2 qZ (dC (.int 1)) (qD 2 z9 (q9 (qA 0) (q9 (dC (.int 9)) (qB))))) (gNm 6)) (qT (zE (qO false [none,some 0,some 4] (w8 (uQ (q9 (qA 3) (qB)))) (gNm 0) (qU) (qP (qD 2 (okO wA) (q9 (qA 1) (q9 (qA 2) (qB)))))) (gNm 7)) (qT (sIf (dTr (d2 gEq (qA 2) (dC (.int 0)))) (zE (qO false [none,some 5] (w8 (uQ (q9 (qA 3) (qB)))) (gNm 0) (qU) (qP (zP (q9 (d2 qZ (d2 gIx (qA 1) (dC (.int 0))) (d2 uR (qA 0) (dC (.int 4)))) (q9 (d2 qZ (d2 gIx (qA 1) (dC (.int 1))) (d2 vB (qA 0) (dC (.int 4)))) (qB)))))) (gNm 7)) (zO)) (qT (sIf (dTr (d2 gEq (qA 2) (dC (.int 1)))) (zE (qO false [none,some 5,some 6] (w8 (uQ (q9 (qA 3) (qB)))) (gNm 0) (qU) (qP (zP (q9 (d2 qZ (d2 gIx (qA 1) (dC (.int 0))) (d2 xH (qA 2) (qA 0))) (q9 (d2 zK (d2 gIx (qA 1) (dC (.int 1))) (qA 0)) (qB)))))) (gNm 7)) (zO)) (qT (sIf (dTr (d2 gEq (qA 2) (dC (.int 2)))) (qT (zE (dSl (qA 7) (xZ) (zV (d2 qZ (dC (.int 1)) (d2 vB (qA 3) (dC (.int 4)))))) (gNm 8)) (qT (zE (d2 qZ (d2 qZ (qA 8) (qO false [none,none] (dIt (qA 8)) (gTp 2 (qF (gNm 0) (qF (gNm 1) (qY)))) (qU) (qP (zP (q9 (d2 zK (dC (.int 0)) (qA 1)) (q9 (qA 0) (qB))))))) (qO false [none,none] (dIt (qA 8)) (gTp 2 (qF (gNm 0) (qF (gNm 1) (qY)))) (qU) (qP (zP (q9 (d2 zK (dC (.int 0)) (qA 0)) (q9 (d2 zK (dC (.int 0)) (qA 1)) (qB))))))) (gNm 7)) (zE (d2 qZ (qA 7) (qO false [none,none] (dIt (qA 8)) (gTp 2 (qF (gNm 0) (qF (gNm 1) (qY)))) (qU) (qP (zP (q9 (qA 1) (q9 (d2 zK (dC (.int 0)) (qA 0)) (qB))))))) (gNm 7)))) (zO)) (zA (qH wR (q9 (jG (dSl (qA 7) (xZ) (zV (qA 3)))) (qB))))))))))
@[irreducible] noncomputable def uX:DF:=sh (qV 9 uZ)
theorem gT:uX=qV 9 uZ:=by delta uX;exact xE _
@[reducible] noncomputable def xV (c:Cl):DS:=qT (zE (qD 1 (zU c) (q9 (qA 1) (qB))) (gNm 2)) (qT (sIf (dTr (d2 gNe (qH sF (q9 (qO false [none,none] (dIt (qA 2)) (gTp 2 (qF (gNm 0) (qF (gNm 1) (qY)))) (qU) (qP (qA 1))) (qB))) (d2 vB (d2 xH (qH zR (q9 (qA 1) (qB))) (d2 zK (qH zR (q9 (qA 1) (qB))) (dC (.int 1)))) (dC (.int 2))))) (zA (dC (.bl false))) (zO)) (qT (sIf (yW (dTr (d2 gNe (qO false [none,none] (dIt (qA 2)) (gTp 2 (qF (gNm 0) (qF (gNm 1) (qY)))) (qU) (qP (qA 0))) (qD 1 (xT c) (q9 (qA 1) (qB))))) (dTr (d2 gNe (qO false [none,none] (dIt (qA 2)) (gTp 2 (qF (gNm 0) (qF (gNm 1) (qY)))) (xY (dTr (d2 gLt (qA 1) (dC (.int 1)))) (qU)) (qP (qA 1))) (uP (qB))))) (zA (dC (.bl false))) (zO)) (qT (zE (zP (q9 (d2 gIx (qA 1) (qD 2 z9 (q9 (qA 0) (q9 (qH zR (q9 (qA 1) (qB))) (qB))))) (q9 (d2 gIx (qA 1) (qD 2 z9 (q9 (qA 0) (q9 (qH zR (q9 (qA 1) (qB))) (qB))))) (qB)))) (gTp 2 (qF (gNm 3) (qF (gNm 4) (qY))))) (qT (sIf (yW (xY (dTr (d2 gNe (qA 3) (qA 4))) (dTr (d2 vL (qD 2 (wG c) (q9 (qA 3) (q9 (qA 4) (qB)))) (qD 1 (xT c) (q9 (qA 1) (qB)))))) (dTr (d2 gNe (qD 2 (wG c) (q9 (qA 3) (q9 (qA 4) (qB)))) (qD 2 (wG c) (q9 (qA 4) (q9 (qA 3) (qB))))))) (zA (dC (.bl false))) (zO)) (qT (zE (qH wR (q9 (qO false [none,some 3] (dIt (qA 1)) (gNm 0) (xY (dTr (d2 gNe (qA 0) (qA 1))) (qU)) (qP (qA 0))) (qB))) (gNm 5)) (zA (dOr (d2 gEq (qA 5) (zP (qB))) (d2 gEq (qO false [none,some 1] (dIt (qD 1 (xT c) (q9 (qA 5) (qB)))) (gNm 0) (xY (dTr (d2 vL (qA 0) (qD 1 (okO (xT c)) (q9 (qA 1) (qB))))) (qU)) (qP (qA 0))) (uP (qB))))))))))
@[irreducible] noncomputable def xS (c:Cl):DF:=sh (qV 6 (xV c))
theorem vG (c:Cl):xS c=qV 6 (xV c):=by delta xS;exact xE _
@[reducible] noncomputable def aG (c:Cl):DS:=qT (jO (vK (d2 qZ (uP (q9 (qD 2 wT (q9 (qA 0) (q9 (dC (.int 0)) (qB)))) (qB))) (dSl (qA 0) (zV (dC (.int 1))) (zV (dC (.int 6)))))) (gNm 1) (qT (zE (qD 1 uY (q9 (qA 1) (qB))) (gNm 2)) (qT (zE (qD 2 uX (q9 (qA 2) (q9 (dC (.int 30)) (qB)))) (gNm 3)) (qT (zE (qD 1 (zU c) (q9 (qA 3) (qB))) (gNm 4)) (qT (sIf (xR (dTr (qD 2 (xS c) (q9 (qA 2) (q9 (qA 3) (qB)))))) (zA (dC (.bl false))) (zO)) (qT (zE (qA 3) (gNm 5)) (qT (jO (uQ (q9 (dC (.int 4)) (qB))) (gNm 6) (qT (zE (qD 1 (xG c) (q9 (qA 5) (qB))) (gNm 5)) (sIf (yW (dTr (d2 b0 (qD 1 vU (q9 (qA 5) (qB))) (dC (.bl true)))) (dTr (d2 gNe (qD 1 (zU c) (q9 (qA 5) (qB))) (qA 4)))) (zA (dC (.bl false))) (zO)))) (qT (sIf (yW (dTr (d2 gNe (qA 5) (qA 3))) (yW (dTr (d2 gNe (qD 1 (zU c) (q9 (qD 1 (yL c) (q9 (qA 3) (qB))) (qB))) (qA 4))) (dTr (d2 gNe (qD 1 (yL c) (q9 (qD 1 (yL c) (q9 (qA 3) (qB))) (qB))) (qA 3))))) (zA (dC (.bl false))) (zO)) (qT (sIf (dTr (d2 gNe (qD 1 (xG c) (q9 (qD 1 (xG c) (q9 (qA 3) (qB))) (qB))) (qH wR (q9 (qH wV (q9 (qO false [none,none] (dIt (qA 3)) (gTp 2 (qF (gNm 0) (qF (gNm 1) (qY)))) (qU) (qP (zP (q9 (d2 zK (dC (.int 0)) (qA 0)) (q9 (d2 zK (dC (.int 0)) (qA 1)) (qB)))))) (qB))) (qB))))) (zA (dC (.bl false))) (zO)) (qT (zE (qD 2 z9 (q9 (qA 2) (q9 (d2 zK (dC (.int 1001)) (qH pX (q9 (qO false [none,none] (dIt (qA 3)) (gTp 2 (qF (gNm 0) (qF (gNm 1) (qY)))) (qU) (qP (qA 0))) (qB)))) (qB)))) (gNm 7)) (qT (zE (d2 zK (dC (.int 0)) (qD 2 z9 (q9 (qA 2) (q9 (d2 qZ (dC (.int 1001)) (qH pY (q9 (qO false [none,none] (dIt (qA 3)) (gTp 2 (qF (gNm 0) (qF (gNm 1) (qY)))) (qU) (qP (qA 1))) (qB)))) (qB))))) (gNm 8)) (qT (zE (qD 3 (j9 c) (q9 (qA 3) (q9 (qA 7) (q9 (qA 8) (qB))))) (gNm 9)) (qT (sIf (yW (dTr (d2 gNe (qD 1 (zU c) (q9 (qA 9) (qB))) (qA 4))) (dTr (d2 gNe (qD 3 (j9 c) (q9 (qA 9) (q9 (d2 zK (dC (.int 0)) (qA 7)) (q9 (d2 zK (dC (.int 0)) (qA 8)) (qB))))) (qA 3)))) (zA (dC (.bl false))) (zO)) (sIf (dTr (d2 gNe (d2 gIx (qA 9) (dC (.int 0))) (zP (q9 (d2 qZ (d2 gIx (d2 gIx (qA 3) (dC (.int 0))) (dC (.int 0))) (qA 7)) (q9 (d2 qZ (d2 gIx (d2 gIx (qA 3) (dC (.int 0))) (dC (.int 1))) (qA 8)) (qB)))))) (zA (dC (.bl false))) (zO))))))))))))))) (zA (dC (.bl true)))
end _K
end
section
namespace _K
open PySem _D
theorem tS (i j:Int)(S:Sto):gEq (.int i) (.int j) S=.ok (.bl (decide (i=j))) S:=by kernel_rfl!
theorem tT (i j:Int)(S:Sto):gNe (.int i) (.int j) S=.ok (.bl (decide (i≠j))) S:=by
 have h:gNe (.int i) (.int j) S=.ok (.bl (!decide (i=j))) S:=by kernel_rfl!
 rw[h,← decide_not]
theorem vI (i j:Int)(S:Sto)(h : -(2 ^ 64)<i∧i<2 ^ 64):xH (.int i) (.int j) S=.ok (.int (i*j)) S:=by
 unfold xH i2
 rw[dR]
 unfold dQ
 simp only[h,and_self,decide_true,Bool.true_or,if_true]
theorem xC (i j:Int)(S:Sto):qZ (.int i) (.int j) S=.ok (.int (i+j)) S:=rfl
theorem gA {xs ys:List D}(h:xs.length+ys.length≤lim)(S:Sto):qZ (.lst xs) (.lst ys) S=.ok (.lst (xs++ys)) S:=if_pos h
theorem VD {S:Sto}{j:Nat}{xs:List D}(h:S[j]? = some (.lst xs)):tyD (.loc j) S=some "list":=by
 show (match S[j]? with|some (.lst _)=>some "list" | some (.dct _)=>some "dict" | _=>none)=_
 rw[h]
theorem iX {S:Sto}{j:Nat}{xs:List D}(h:S[j]? = some (.lst xs))(hl:xs.length<lim)(d:D):yT (.loc j) [d] S=.ok .non (S.set j (.lst (xs++[d]))):=by
 show (match S[j]? with|some (.lst xs)=>(if xs.length<lim then Res.ok D.non (S.set j (.lst (xs++[d]))) else .bad)|_=>.bad)=_
 rw[h]
 exact if_pos hl
theorem mE (d:D)(b a:String)(S:Sto)(ho:vX b=true)(h:tyD d S=some a):yX [d,.ty b] S=.ok (.bl (xK a b)) S:=by
 unfold yX
 simp[ho,h]
theorem sT (xs:List D)(S:Sto):zR [.lst xs] S=.ok (.int xs.length) S:=rfl
theorem fK (xs:List D)(S:Sto):zR [.tup xs] S=.ok (.int xs.length) S:=rfl
theorem bC:vX "int" = true∧vX "bool" = true∧vX "tuple" = true∧vX "list" = true∧vX "str" = true:=kd
theorem KE:xK "int" "tuple" = false∧xK "int" "list" = false∧xK "int" "str" = false∧xK "int" "bool" = false∧xK "int" "int" = true∧xK "tuple" "tuple" = true∧xK "tuple" "list" = false∧xK "list" "tuple" = false∧xK "list" "list" = true:=kd
theorem jB (i j:Int)(S:Sto)(h:0<j):uR (.int i) (.int j) S=.ok (.int (i % j)) S:=by
 unfold uR i2
 simp[h]
theorem pZ (i j:Int)(S:Sto)(h:0<j∧j<1073741824):vB (.int i) (.int j) S=.ok (.int (i/j)) S:=by
 unfold vB i2 GF
 simp[h]
def yY (d:D):Prop:=∀ S,tyD d S=some "NoneType" ∨ tyD d S=some "bool" ∨ tyD d S=some "str" ∨ tyD d S=some "tuple" ∨ tyD d S=some "list" ∨ tyD d S=some "dict"
theorem kM (i:Int)(S:Sto):yK [.int i] S=.ok (.bl true) S:=by
 rw[uN]
 kernel_rfl!
theorem lX (d:D)(S:Sto)(h:yY d):yK [d] S=.ok (.bl false) S:=by
 rw[uN]
 unfold kT
 rcases h S with h|h|h|h|h|h <;> simp[qV,vR,JD,RC,RB,qT,sIf,zA,zO,x9,zE,gNm,gSb,gTp,qF,qY,nN,SJ,RN,D8,dC,qA,d1,d2,q9,qB,qH,qD,dTr,xR,yW,qU,fB,ZY,dIf,wQ,zP,uP,dD,dBm,dSl,zV,xZ,vK,uQ,Res.bind,Res.toS,_D.k8,_D.vP,RF,RD,T4,RO,RH,RI,RJ,RG,RA,R9,RE,gLt,gLe,gGt,gGe,_D.zK,RM,mE _ _ _ _ bC.1 h,mE _ _ _ _ bC.2.1 h,xK]
theorem WT (i a b:Int)(S:Sto):wU [.int i,.int a,.int b] S=.ok (.bl (decide (a≤i∧i≤b))) S:=by
 rw[vV]
 unfold uB
 simp[qV,vR,JD,RC,RB,qT,sIf,zA,zO,x9,zE,gNm,gSb,gTp,qF,qY,nN,SJ,RN,D8,dC,qA,d1,d2,q9,qB,qH,qD,dTr,xR,yW,qU,fB,ZY,dIf,wQ,zP,uP,dD,dBm,dSl,zV,xZ,vK,uQ,Res.bind,Res.toS,_D.k8,_D.vP,RF,RD,T4,RO,RH,RI,RJ,RG,RA,R9,RE,gLt,gLe,gGt,gGe,_D.zK,RM,kM]
 by_cases h:a≤i <;> simp[h,JD]
theorem eC (d:D)(a b:Int)(S:Sto)(h:yY d):wU [d,.int a,.int b] S=.ok (.bl false) S:=by
 rw[vV]
 unfold uB
 simp[qV,vR,JD,RC,RB,qT,sIf,zA,zO,x9,zE,gNm,gSb,gTp,qF,qY,nN,SJ,RN,D8,dC,qA,d1,d2,q9,qB,qH,qD,dTr,xR,yW,qU,fB,ZY,dIf,wQ,zP,uP,dD,dBm,dSl,zV,xZ,vK,uQ,Res.bind,Res.toS,_D.k8,_D.vP,RF,RD,T4,RO,RH,RI,RJ,RG,RA,R9,RE,gLt,gLe,gGt,gGe,_D.zK,RM,lX d S h]
theorem BU:yY .non:=fun _=>.inl rfl
theorem NP (b:Bool):yY (.bl b):=fun _=>.inr (.inl rfl)
theorem BV (x:Str):yY (.str x):=fun _=>.inr (.inr (.inl rfl))
theorem BW (x:List D):yY (.tup x):=fun _=>.inr (.inr (.inr (.inl rfl)))
theorem BT (x:List D):yY (.lst x):=fun _=>.inr (.inr (.inr (.inr (.inl rfl))))
theorem BS:yY .dct0:=fun _=>.inr (.inr (.inr (.inr (.inr rfl))))
def x5 (S:Sto)(p:Nat):Prop:=∃ v f:Int,S[p]? = some (.lst [.int v,.int f])
theorem sO (p:Nat)(k:Int)(xs:List D)(d:D)(S:Sto)(h:S[p]? = some (.lst xs))(hk:_L.atI xs k=some d):gIx (.loc p) (.int k) S=.ok d S:=by
 show (match S[p]? with|some (.lst xs)=>_D.vP (_L.atI xs k) S|_=>.bad)=_
 rw[h]
 show _D.vP (_L.atI xs k) S=_
 rw[hk]
 rfl
theorem V1 (v f:Int):_L.atI [D.int v,D.int f] 0=some (.int v):=rfl
theorem L0 (v f:Int):_L.atI [D.int v,D.int f] 1=some (.int f):=rfl
theorem cG (p:Nat)(v f w:Int)(S:Sto)(h:S[p]? = some (.lst [.int v,.int f])):uD (.loc p) (.int 0) (.int w) S=.ok () (S.set p (.lst [.int w,.int f])):=by
 simp[uD,tU,h,_L.ixN]
theorem MM (S:Sto)(p:Nat)(m:Int)(h:x5 S p)(hm:0<m∧m<1073741824):∃ r v f:Int,z9 [.loc p,.int m] S=.ok (.int r) (S.set p (.lst [.int v,.int f]))∧0≤r∧r<m:=by
 obtain⟨v,f,hp⟩:=h
 have hpl:=(List.getElem?_eq_some_iff.mp hp).1
 have g0:=sO p 0 _ _ S hp (V1 v f)
 have g1:=sO p 1 _ _ S hp (L0 v f)
 rw[kA]
 unfold jZ
 by_cases hf:f=1
 ·refine⟨v % m,v/m,f,?_,Int.emod_nonneg _ (by omega),Int.emod_lt_of_pos _ hm.1⟩
  subst hf
  simp[qV,vR,JD,RC,RB,qT,sIf,zA,zO,x9,zE,gNm,gSb,gTp,qF,qY,nN,SJ,RN,D8,dC,qA,d1,d2,q9,qB,qH,qD,dTr,xR,yW,qU,fB,ZY,dIf,wQ,zP,uP,dD,dBm,dSl,zV,xZ,vK,uQ,Res.bind,Res.toS,_D.k8,_D.vP,RF,RD,T4,RO,RH,RI,RJ,RG,RA,R9,RE,gLt,gLe,gGt,gGe,_D.zK,RM,g0,g1,tS,jB v m S hm.1,pZ v m S hm,cG p v 1 (v/m) S hp]
 ·obtain⟨w,hw⟩:∃ w:Int,w=(v % 2147483629*48271+11) % 2147483629:=⟨_,rfl⟩
  have hw1:0≤w∧w<2147483629:=by rw[hw];exact⟨Int.emod_nonneg _ (by omega),Int.emod_lt_of_pos _ (by omega)⟩
  have hv1:0≤v % 2147483629∧v % 2147483629<2147483629:=⟨Int.emod_nonneg _ (by omega),Int.emod_lt_of_pos _ (by omega)⟩
  have hp':(S.set p (MO.lst [.int w,.int f]))[p]? = some (.lst [.int w,.int f]):=by simp[hpl]
  have k0:=sO p 0 _ _ (S.set p (MO.lst [.int w,.int f])) hp' (V1 w f)
  have m1:=vI (v % 2147483629) 48271 S ⟨by omega,by omega⟩
  have m2:=vI w w (S.set p (MO.lst [.int w,.int f])) ⟨by omega,by omega⟩
  have m3:=vI 40692 w (S.set p (MO.lst [.int w,.int f])) ⟨by omega,by omega⟩
  have d1:=jB v 2147483629 S (by omega)
  have d2':=jB (v % 2147483629*48271+11) 2147483629 S (by omega)
  rw[← hw] at d2'
  have d3:=jB (w*w+40692*w) 2147483647 (S.set p (MO.lst [.int w,.int f])) (by omega)
  have d4:=pZ ((w*w+40692*w) % 2147483647) 8 (S.set p (MO.lst [.int w,.int f])) (by omega)
  have d5:=jB ((w*w+40692*w) % 2147483647/8) m (S.set p (MO.lst [.int w,.int f])) hm.1
  refine⟨(w*w+40692*w) % 2147483647/8 % m,w,f,?_,Int.emod_nonneg _ (by omega),Int.emod_lt_of_pos _ hm.1⟩
  simp[qV,vR,JD,RC,RB,qT,sIf,zA,zO,x9,zE,gNm,gSb,gTp,qF,qY,nN,SJ,RN,D8,dC,qA,d1,d2,q9,qB,qH,qD,dTr,xR,yW,qU,fB,ZY,dIf,wQ,zP,uP,dD,dBm,dSl,zV,xZ,vK,uQ,Res.bind,Res.toS,_D.k8,_D.vP,RF,RD,T4,RO,RH,RI,RJ,RG,RA,R9,RE,gLt,gLe,gGt,gGe,_D.zK,RM,g0,g1,tS,hf,d1,m1,xC,d2',cG p v f w S hp,k0,m2,m3,d3,d4,d5]
theorem WC {S:Sto}{p:Nat}(h:x5 S p)(v f:Int):x5 (S.set p (.lst [.int v,.int f])) p:=by
 obtain⟨v0,f0,hp⟩:=h
 have hpl:=(List.getElem?_eq_some_iff.mp hp).1
 exact⟨v,f,by simp[hpl]⟩
theorem vY {S S':Sto}{p:Nat}(h:x5 S p)(e:S<+:S'):x5 S' p:=by
 obtain⟨v0,f0,hp⟩:=h
 obtain⟨r,rfl⟩:=e
 exact⟨v0,f0,by rw[List.getElem?_append_left (List.getElem?_eq_some_iff.mp hp).1];exact hp⟩
theorem FM (S:Sto):aX (.int 10) (.int 18) S=.ok (.int 1000000000000000000) S:=rfl
theorem LE (x:Int)(S:Sto):∃ f:Int,uY [.int x] S=.ok (.loc S.length) (S++[.lst [.int x,.int f]]):=by
 refine⟨b01 (decide (1000000000000000000≤x)),?_⟩
 have l2:2≤lim:=by decide
 rw[gU]
 unfold kR
 simp[qV,vR,JD,RC,RB,qT,sIf,zA,zO,x9,zE,gNm,gSb,gTp,qF,qY,nN,SJ,RN,D8,dC,qA,d1,d2,q9,qB,qH,qD,dTr,xR,yW,qU,fB,ZY,dIf,wQ,zP,uP,dD,dBm,dSl,zV,xZ,vK,uQ,Res.bind,Res.toS,_D.k8,_D.vP,RF,RD,T4,RO,RH,RI,RJ,RG,RA,R9,RE,gLt,gLe,gGt,gGe,_D.zK,RM,FM,UB,l2]
theorem ML (ns:List Int)(S:Sto):∃ x:Int,wT [.lst (ns.map D.int),.int 0] S=.ok (.int x) S:=by
 rw[k9]
 unfold jY
 cases ns with
 |nil=>exact⟨0,by simp[qV,vR,JD,RC,RB,qT,sIf,zA,zO,x9,zE,gNm,gSb,gTp,qF,qY,nN,SJ,RN,D8,dC,qA,d1,d2,q9,qB,qH,qD,dTr,xR,yW,qU,fB,ZY,dIf,wQ,zP,uP,dD,dBm,dSl,zV,xZ,vK,uQ,Res.bind,Res.toS,_D.k8,_D.vP,RF,RD,T4,RO,RH,RI,RJ,RG,RA,R9,RE,gLt,gLe,gGt,gGe,_D.zK,RM,sT]⟩
 |cons n ns =>
  refine⟨n,?_⟩
  have h:(0:Int)<(ns.length:Int)+1:=by omega
  have a:_L.atI (D.int n::ns.map D.int) 0=some (.int n):=by simp[_L.atI,_L.ixN,h]
  simp[qV,vR,JD,RC,RB,qT,sIf,zA,zO,x9,zE,gNm,gSb,gTp,qF,qY,nN,SJ,RN,D8,dC,qA,d1,d2,q9,qB,qH,qD,dTr,xR,yW,qU,fB,ZY,dIf,wQ,zP,uP,dD,dBm,dSl,zV,xZ,vK,uQ,Res.bind,Res.toS,_D.k8,_D.vP,RF,RD,T4,RO,RH,RI,RJ,RG,RA,R9,RE,gLt,gLe,gGt,gGe,_D.zK,RM,sT,UE a,h]
theorem GE (xs:List D)(r:Int)(h:0≤r∧r<xs.length):∃ d,_L.atI xs r=some d∧d∈xs:=by
 have e:_L.ixN xs.length r=some r.toNat:=by simp[_L.ixN,h]
 have hl:r.toNat<xs.length:=by omega
 exact⟨xs[r.toNat],by simp[_L.atI,e,hl],List.getElem_mem hl⟩
theorem VJ (ns:List Int)(lo hi:Option Int):∃ ms:List Int,w5 (ns.map D.int) lo hi=ms.map D.int∧ms.length≤ns.length:=by
 unfold w5
 rw[← List.map_drop,← List.map_take]
 exact⟨_,rfl,by simp;omega⟩
theorem bH {f g:DS}{env:qC}{S:Sto}{Q:D→Sto→Prop}(h:Rt (f env S) Q):Rt (qT f g env S) Q:=by
 obtain⟨d,S2,e2,q⟩:=h
 exact⟨d,S2,by unfold qT;rw[e2],q⟩
theorem Z3 {n:Nat}{g:DS}{ds:List D}{S S':Sto}{d:D}{env:qC}(hs:vR n ds=env)(h:Rt (g env S) fun d' S1=>d'=d∧S1=S'):qV n g ds S=.ok d S':=by
 obtain⟨d',S1,e,rfl,rfl⟩:=h
 exact pN hs e
end _K
end
section
namespace _K
open PySem _D
def Pn (d:D):Prop:=∃ p,pyD d=some p
theorem FK {d:D}(h:Pn d):(∃ i,d=.int i)∨yY d:=by
 obtain⟨p,h⟩:=h
 cases d with
 |int i=>exact .inl ⟨i,rfl⟩
 |non=>exact .inr BU
 |bl b=>exact .inr (NP b)
 |str x=>exact .inr (BV x)
 |tup x=>exact .inr (BW x)
 |lst x=>exact .inr (BT x)
 |dct0=>exact .inr BS
 |_=>simp[pyD] at h
theorem pns {xs:List D}:∀ {ps:List PyData},fN xs=some ps→∀ x∈xs,Pn x:=by
 induction xs with
 |nil=>intro ps _ x hx;cases hx
 |cons d ds ih =>
  intro ps h x hx
  simp only[fN] at h
  obtain⟨p,h1,h2⟩:=Option.bind_eq_some_iff.mp h
  obtain⟨ps',h3,_⟩:=Option.map_eq_some_iff.mp h2
  rcases List.mem_cons.mp hx with rfl|hx
  ·exact⟨p,h1⟩
  ·exact ih h3 x hx
theorem QL {xs:List D}(h:Pn (.tup xs)):∀ x∈xs,Pn x:=by
 obtain⟨p,h⟩:=h
 simp only[pyD] at h
 obtain⟨ps,h1,_⟩:=Option.map_eq_some_iff.mp h
 exact pns h1
theorem V3 {d:D}(h:Pn d):(∃ xs,d=.tup xs)∨∀ S,xR (dTr (qH yX (q9 (qA 0) (q9 (dC (.ty "tuple")) (qB))))) [some d] S=.ok true S:=by
 have one:∀ (a:String),(∀ S,tyD d S=some a)→xK a "tuple" = false→∀ S,xR (dTr (qH yX (q9 (qA 0) (q9 (dC (.ty "tuple")) (qB))))) [some d] S=.ok true S:=fun a h1 h2 S=>by
  have:=pM (zX ((o3 (f1:=qA 0) (f2:=dC (.ty "tuple")) (env:=[some d]) (S:=S) rfl rfl).trans (mE d "tuple" a S bC.2.2.1 (h1 S))))
  rw[h2] at this
  exact this
 obtain⟨p,h⟩:=h
 cases d with
 |tup xs=>exact .inl ⟨xs,rfl⟩
 |int i=>exact .inr (one "int" (fun _=>rfl) (kd))
 |non=>exact .inr (one "NoneType" (fun _=>rfl) (kd))
 |bl b=>exact .inr (one "bool" (fun _=>rfl) (kd))
 |str x=>exact .inr (one "str" (fun _=>rfl) (kd))
 |lst x=>exact .inr (one "list" (fun _=>rfl) (kd))
 |dct0=>exact .inr (one "dict" (fun _=>rfl) (kd))
 |_=>simp[pyD] at h
theorem b6 (xs:List D)(S:Sto):xR (dTr (qH yX (q9 (qA 0) (q9 (dC (.ty "tuple")) (qB))))) [some (.tup xs)] S=.ok false S:=by
 have:=pM (zX ((o3 (f1:=qA 0) (f2:=dC (.ty "tuple")) (env:=[some (.tup xs)]) (S:=S) rfl rfl).trans (mE (.tup xs) "tuple" "tuple" S bC.2.2.1 rfl)))
 rw[KE.2.2.2.2.2.1] at this
 exact this
def isI:D→Bool
 |.int i=>decide (-1000≤i∧i≤1000)
 |_=>false
def qX:D→Bool
 |.tup [a,b]=>isI a&&isI b
 |_=>false
theorem B7 {d:D}(h:yY d):isI d=false:=by
 cases d with
 |int i =>
  rcases h [] with h|h|h|h|h|h <;> (rw[T4] at h;exact absurd (Option.some.inj h) (by decide))
 |_=>rfl
theorem SS (x:D)(S:Sto)(h:Pn x):wU [x,.int (-1000),.int 1000] S=.ok (.bl (isI x)) S:=by
 rcases FK h with⟨i,rfl⟩|h
 ·exact WT i _ _ S
 ·rw[B7 h];exact eC x _ _ S h
theorem QM (fe:DE)(S:Sto)(hfe:∀ x,Pn x→fe [some x] S=.ok (.bl (isI x)) S)(d:D)(h:Pn d) :
  Rt (qT (sIf (yW (xR (dTr (qH yX (q9 (qA 0) (q9 (dC (.ty "tuple")) (qB)))))) (dTr (d2 gNe (qH zR (q9 (qA 0) (qB))) (dC (.int 2))))) (zA (dC (.bl false))) (zO)) (zA (qH (g9 false) (q9 (qO false [none] (dIt (qA 0)) (gNm 0) (qU) (qP fe)) (qB)))) [some d] S) fun d' S1=>d'=.bl (qX d)∧S1=S:=by
 rcases V3 h with⟨xs,rfl⟩|hn
 ·have hl:dTr (d2 gNe (qH zR (q9 (qA 0) (qB))) (dC (.int 2))) [some (.tup xs)] S=.ok (decide ((xs.length:Int)≠2)) S:=zX ((qQ ((xW (f1:=qA 0) rfl).trans (fK xs S)) rfl).trans (tT _ _ _))
  have ht:=dF (b6 xs S) (fun _=>hl) (by intro z;cases z)
  rw[Bool.false_or] at ht
  by_cases h2:xs.length=2
  ·rw[decide_eq_false (by omega)] at ht
   refine xF (bB ht (jV (S:=S) rfl (v3 (xD ?_ (d:=.bl (qX (.tup xs))) (S:=S) ⟨rfl,rfl⟩))))
   have hc:=o9 (cap:=[none]) (g:=gNm 0) (t:=qU) (fe:=fe) (fi:=dIt (qA 0)) (env:=[some (.tup xs)]) (S:=S) (o:=none) (items:=xs) rfl trivial (fun _=>true) (fun x=>.bl (isI x)) (fun env=>∃ a,env=[a]) ⟨none,rfl⟩ (by rw[h2];decide)
    (fun x hx env ⟨a,q⟩=>by subst q;exact⟨[some x],rfl,⟨_,rfl⟩,rfl,fun _=>hfe x (QL h x hx)⟩)
   rw[yB] at hc
   rw[dM (p:=isI) hc]
   match xs,h2 with
   |[a,b],_=>simp[qX]
  ·rw[decide_eq_true (by omega)] at ht
   refine bH (mW ht (v3 (xD (d:=.bl false) (S:=S) rfl ⟨?_,rfl⟩)))
   match xs,h2 with
   |[],_=>rfl
   |[a],_=>rfl
   |[a,b],h=>exact absurd rfl h
   |a::b::c::r,_=>rfl
 ·have ht:=dF (b:=false) (g:=dTr (d2 gNe (qH zR (q9 (qA 0) (qB))) (dC (.int 2)))) (hn S) (by intro z;cases z) (fun _=>rfl)
  refine bH (mW ht (v3 (xD (d:=.bl false) (S:=S) rfl ⟨?_,rfl⟩)))
  congr 1
  unfold qX
  split
  ·have:=hn S
   rw[b6] at this
   cases this
  ·rfl
theorem mT (d:D)(S:Sto)(h:Pn d):yJ [d] S=.ok (.bl (qX d)) S:=by
 rw[gV]
 exact Z3 (env:=[some d]) rfl (QM _ S (fun x hx=>(aJ (f1:=qA 0) rfl rfl rfl).trans (r9 (SS x S hx))) d h)
end _K
end
section
namespace _K
open PySem _D
def upB (ks:List (List Int)):Bool:=(ks.zip (ks.drop 1)).all fun p=>_H.lexLt p.1 p.2
def uF:D→Bool
 |.tup xs=>decide (1≤xs.length∧xs.length≤40)&&xs.all qX&&(match y8 xs with|some ks=>upB ks|none=>false)
 |_=>false
set_option tactic.hygienic true in
theorem rH:∀ (xs:List D),xs.all qX=true→∃ ks:List (List Int),xs=ks.map tpD
 |[],_=>⟨[],rfl⟩
 |d::ds,h=>by
  rw[List.all_cons,Bool.and_eq_true] at h
  obtain⟨ks,rfl⟩:=rH ds h.2
  have h1:=h.1
  unfold qX at h1
  split at h1
  ·rename_i a b
   rw[Bool.and_eq_true] at h1
   cases a with
   |int x =>
    cases b with
    |int y=>exact⟨[x,y]::ks,rfl⟩
    |_=>simp[isI] at h1
   |_=>simp[isI] at h1
  ·cases h1
theorem NK (a b:List Int)(S:Sto):fG (tpD a) (tpD b) S=.ok (.bl (_H.lexLt a b)) S:=by
 unfold fG tpD
 simp only[uH]
theorem t7:∀ (ks:List (List Int)),upB ks=true↔ks.Pairwise (fun a b=>_H.lexLt a b=true)
 |[]=>by simp[upB]
 |[a]=>by simp[upB]
 |a::b::r=>by
  have ih:=t7 (b::r)
  have e:upB (a::b::r)=(_H.lexLt a b&&upB (b::r)):=by simp[upB]
  rw[e,Bool.and_eq_true,ih,List.pairwise_cons (a:=a)]
  constructor
  ·rintro⟨h1,h2⟩
   refine⟨fun x hx=>?_,h2⟩
   rcases List.mem_cons.mp hx with rfl|hx
   ·exact h1
   ·exact _S.uS.tr h1 ((List.pairwise_cons.mp h2).1 x hx)
  ·rintro⟨h1,h2⟩
   exact⟨h1 b (by simp),h2⟩
theorem TF (ks ms:List (List Int)):u8 (ks.map tpD) (ms.map tpD)=(ks.zip ms).map fun p=>D.tup [tpD p.1,tpD p.2]:=by
 unfold u8
 induction ks generalizing ms with
 |nil=>rfl
 |cons k ks ih =>
  cases ms with
  |nil=>rfl
  |cons m ms=>exact congrArg (_::·) (ih ms)
theorem TU (xs:List D):w5 xs (some 1) none=xs.drop 1:=by
 unfold w5
 have h1:_H.sIx xs.length 0 (some 1)=min 1 xs.length:=rfl
 have h2:_H.sIx xs.length xs.length none=xs.length:=rfl
 rw[h1,h2]
 cases xs with
 |nil=>rfl
 |cons x r=>simp
theorem eB (ks:List (List Int))(S:Sto)(hl:ks.length≤lim):u9 [.tup (ks.map tpD)] S=.ok (.bl (upB ks)) S:=by
 rw[kE]
 refine cO (env:=[some (.tup (ks.map tpD))]) rfl ?_
 have hz:w8 (dZ (q9 (qA 0) (q9 (dSl (qA 0) (zV (dC (.int 1))) (xZ)) (qB)))) [some (.tup (ks.map tpD))] S=.ok (none,(ks.zip (ks.drop 1)).map fun p=>D.tup [tpD p.1,tpD p.2]) S:=by
  have hs:dSl (qA 0) (zV (dC (.int 1))) (xZ) [some (.tup (ks.map tpD))] S=.ok (.tup ((ks.drop 1).map tpD)) S:=by
   have:gSl (.tup (ks.map tpD)) (some 1) none S=.ok (.tup ((ks.drop 1).map tpD)) S:=by
    show Res.ok (D.tup (w5 (ks.map tpD) (some 1) none)) S=_
    rw[TU,List.map_drop]
   exact this
  unfold w8 dZ
  rw[xI (f1:=qA 0) rfl hs]
  show Res.ok (none,u8 (ks.map tpD) ((ks.drop 1).map tpD)) S=_
  rw[TF]
 have hc:=tI (enc:=fun p:List Int × List Int=>D.tup [tpD p.1,tpD p.2]) (cap:=[none,none]) (g:=gTp 2 (qF (gNm 0) (qF (gNm 1) (qY)))) (t:=qU) (fe:=d2 fG (qA 0) (qA 1)) hz trivial (fun _=>true) (fun p=>.bl (_H.lexLt p.1 p.2)) (fun env=>∃ a b,env=[a,b]) ⟨none,none,rfl⟩ (by simp;omega)
  (fun p _ env ⟨a,b,q⟩=>by
   subst q
   exact⟨[some (tpD p.1),some (tpD p.2)],rfl,⟨_,_,rfl⟩,rfl,fun _=>(qQ (a:=tpD p.1) (b:=tpD p.2) rfl rfl).trans (NK _ _ _)⟩)
 rw[yB] at hc
 exact dM (p:=fun p:List Int × List Int=>_H.lexLt p.1 p.2) hc
theorem BH (xs:List D)(S:Sto)(f:DE)(hf:f [some (.tup xs)] S=.ok (.int 40) S):xR (dTr (wQ gLe gLe (dC (.int 1)) (qH zR (q9 (qA 0) (qB))) f)) [some (.tup xs)] S=.ok (!decide (1≤xs.length∧xs.length≤40)) S:=by
 have hl:qH zR (q9 (qA 0) (qB)) [some (.tup xs)] S=.ok (.int xs.length) S:=(xW (f1:=qA 0) rfl).trans (fK xs S)
 refine pM (zX ?_)
 unfold wQ
 rw[show dC (.int 1) [some (.tup xs)] S=.ok (.int 1) S from rfl]
 simp only[Res.bind]
 rw[hl]
 simp[qV,vR,JD,RC,RB,qT,sIf,zA,zO,x9,zE,gNm,gSb,gTp,qF,qY,nN,SJ,RN,D8,dC,qA,d1,d2,q9,qB,qH,qD,dTr,xR,yW,qU,fB,ZY,dIf,wQ,zP,uP,dD,dBm,dSl,zV,xZ,vK,uQ,Res.bind,Res.toS,_D.k8,_D.vP,RF,RD,T4,RO,RH,RI,RJ,RG,RA,R9,RE,gLt,gLe,gGt,gGe,_D.zK,RM,hf]
 by_cases h:1≤xs.length
 ·have h':(1:Int)≤(xs.length:Int):=by omega
  simp[h,h']
  omega
 ·have h':¬ (1:Int)≤(xs.length:Int):=by omega
  simp[h,h']
theorem WG (F:DF)(xs:List D)(S:Sto)(hF:∀ x,Pn x→F [x] S=.ok (.bl (qX x)) S)(h:Pn (.tup xs))(hl:xs.length≤40):qH (g9 false) (q9 (qO false [none] (dIt (qA 0)) (gNm 0) (qU) (qP (qD 1 (okO F) (q9 (qA 0) (qB))))) (qB)) [some (.tup xs)] S=.ok (.bl (xs.all qX)) S:=by
 have hc:=o9 (cap:=[none]) (g:=gNm 0) (t:=qU) (fe:=qD 1 (okO F) (q9 (qA 0) (qB))) (fi:=dIt (qA 0)) (env:=[some (.tup xs)]) (S:=S) (o:=none) (items:=xs) rfl trivial (fun _=>true) (fun x=>.bl (qX x)) (fun env=>∃ a,env=[a]) ⟨none,rfl⟩ (by unfold lim;omega)
  (fun x hx env ⟨a,q⟩=>by subst q;exact⟨[some x],rfl,⟨_,rfl⟩,rfl,fun _=>(x8 (f1:=qA 0) rfl).trans (r9 (hF x (QL h x hx)))⟩)
 rw[yB] at hc
 exact dM (p:=qX) hc
theorem rL (d:D)(S:Sto)(h:Pn d):vU [d] S=.ok (.bl (uF d)) S:=by
 rw[bP]
 refine Z3 (env:=[some d]) rfl ?_
 unfold f6
 rcases V3 h with⟨xs,rfl⟩|hn
 ·have ht:=dF (b6 xs S) (fun _=>BH xs S (dC (.int (40))) rfl) (by intro z;cases z)
  rw[Bool.false_or] at ht
  by_cases hl:1≤xs.length∧xs.length≤40
  ·rw[decide_eq_true hl] at ht
   refine xF (bB ht (jV (S:=S) rfl (v3 (xD ?_ (d:=.bl (uF (.tup xs))) (S:=S) ⟨rfl,rfl⟩))))
   have hp:=WG yJ xs S (fun x hx=>mT x S hx) h hl.2
   have e:uF (.tup xs)=(xs.all qX&&(match y8 xs with|some ks=>upB ks|none=>false)):=by
    show (decide (1≤xs.length∧xs.length≤40)&&xs.all qX&&_)=_
    rw[decide_eq_true hl,Bool.true_and]
   rw[e]
   refine GD hp (fun ha=>?_) (fun _=>rfl)
   obtain⟨ks,rfl⟩:=rH xs ha
   rw[yI]
   exact(x8 (f1:=qA 0) rfl).trans (eB ks S (by rw[List.length_map] at hl;unfold lim;omega))
  ·rw[decide_eq_false hl] at ht
   refine bH (mW ht (v3 (xD (d:=.bl false) (S:=S) rfl ⟨?_,rfl⟩)))
   show _=D.bl (decide (1≤xs.length∧xs.length≤40)&&xs.all qX&&_)
   rw[decide_eq_false hl]
   rfl
 ·have ht:=dF (b:=false) (g:=xR (dTr (wQ gLe gLe (dC (.int 1)) (qH zR (q9 (qA 0) (qB))) (dC (.int (40)))))) (hn S) (by intro z;cases z) (fun _=>rfl)
  refine bH (mW ht (v3 (xD (d:=.bl false) (S:=S) rfl ⟨?_,rfl⟩)))
  congr 1
  unfold uF
  split
  ·have:=hn S
   rw[b6] at this
   cases this
  ·rfl
theorem sK {K:Type}(lt':K→K→Bool)(x:K):∀ l:List K,(_S.jI lt' x l).length≤l.length+1
 |[]=>by simp[_S.jI]
 |y::l=>by
  have:=sK lt' x l
  unfold _S.jI
  split
  ·simp
  ·split
   ·simp
    omega
   ·simp
theorem nP {K:Type}(lt':K→K→Bool):∀ l:List K,(_S.srt lt' l).length≤l.length
 |[]=>by simp[_S.srt]
 |x::l=>by
  have h1:=sK lt' x (_S.srt lt' l)
  have h2:=nP lt' l
  rw[_S.srt,List.length_cons]
  omega
theorem KB (ks:List (List Int))(h:ks≠[])(hl:ks.length<64)(he:∀ k∈ks,k≠[]):u3 (ks.map tpD)=some ((_S.srt _H.lexLt ks).map tpD):=by
 unfold u3
 have h0:zN (ks.map tpD)=none:=by
  cases ks with
  |nil=>exact absurd rfl h
  |cons k r=>rfl
 rw[h0,yI]
 have h1:=nP _H.lexLt ks
 have h2:(ks.all fun k=>!k.isEmpty)=true:=by
  rw[List.all_eq_true]
  intro k hk
  have:=he k hk
  cases k with
  |nil=>exact absurd rfl this
  |cons _ _=>rfl
 have h3:(decide ((_S.srt _H.lexLt ks).length<64)&&ks.all fun k=>!k.isEmpty)=true:=by
  rw[h2,decide_eq_true (by omega)];rfl
 show (if (decide ((_S.srt _H.lexLt ks).length<64)&&ks.all fun k=>!k.isEmpty)=true then _ else _)=_
 rw[if_pos h3]
theorem kG:∀ (a b:List Int),zY (a.map D.int) (b.map D.int)=decide (a=b)
 |[],[]=>rfl
 |[],_::_=>rfl
 |_::_,[]=>rfl
 |x::a,y::b=>by
  show ((x == y)&&zY (a.map D.int) (b.map D.int))=_
  rw[kG a b]
  by_cases h1:x=y <;> by_cases h2:a=b <;> simp[h1,h2]
theorem m7:∀ (a b:List (List Int)),zY (a.map tpD) (b.map tpD)=decide (a=b)
 |[],[]=>rfl
 |[],_::_=>rfl
 |_::_,[]=>rfl
 |x::a,y::b=>by
  show (zY (x.map D.int) (y.map D.int)&&zY (a.map tpD) (b.map tpD))=_
  rw[kG,m7 a b]
  by_cases h1:x=y <;> by_cases h2:a=b <;> simp[h1,h2]
theorem rF (ks:List (List Int)):pl zL (.lst (ks.map tpD))=true:=by
 show (ks.map tpD).all (pl 29)=true
 rw[List.all_map,List.all_eq_true]
 intro k _
 show (k.map D.int).all (pl 28)=true
 rw[List.all_map,List.all_eq_true]
 intro i _
 rfl
end _K
end
section
namespace _K
open PySem _D
set_option tactic.hygienic true in
theorem rG {d:D}(h:qX d=true):∃ x y:Int,d=.tup [.int x,.int y]∧(-1000≤x∧x≤1000)∧(-1000≤y∧y≤1000):=by
 unfold qX at h
 split at h
 ·rename_i a b
  rw[Bool.and_eq_true] at h
  cases a with
  |int x =>
   cases b with
   |int y=>exact⟨x,y,rfl,of_decide_eq_true h.1,of_decide_eq_true h.2⟩
   |_=>simp[isI] at h
  |_=>simp[isI] at h
 ·cases h
theorem yR {S S1:Sto}{p i:Nat}{m:Int}{f2:DE}{env:qC}(h:x5 S1 p)(hm:0<m∧m<1073741824)(he:env[i]? = some (some (.loc p)))(h2:f2 env S=.ok (.int m) S1):∃ (r:Nat) (S':Sto),qD 2 z9 (q9 (qA i) (q9 f2 (qB))) env S=.ok (.int (r:Int)) S'∧(r:Int)<m∧x5 S' p:=by
 obtain⟨r,v,f,e,a1,a2⟩:=MM S1 p m h hm
 obtain⟨n,rfl⟩:=Int.eq_ofNat_of_zero_le a1
 exact⟨n,_,(uC (a:=.loc p) (S1:=S) (by simp only[qA,he]) h2).trans e,a2,WC h v f⟩
theorem V2 {f:DE}{env:qC}{S S':Sto}{r:Nat}(h:f env S=.ok (.int (r:Int)) S'):d2 qZ (dC (.int 1)) f env S=.ok (.int ((r+1:Nat):Int)) S':=by
 refine(qQ (a:=.int 1) (S1:=S) rfl h).trans ?_
 rw[xC]
 congr 2
 omega
theorem goE {g:DG}{t:DT}{fe:DE}(C:qC→Sto→Prop)(R:D→Prop):∀ (items:List D) (env:qC) (S:Sto) (acc:List D),
  C env S→acc.length+items.length≤lim→(∀ d env S,d∈items→C env S→∃ env1 x S1,g d env S=.ok env1 S∧t env1 S=.ok true S∧fe env1 S=.ok x S1∧C env1 S1∧R x) →
  ∃ ys env' S',goL none g t (qP fe) items env S acc=.ok (env',acc++ys) S'∧ys.length=items.length∧(∀ y∈ys,R y)∧C env' S'
 |[],env,S,acc,c,_,_=>by
  have hs:nQ none S=true:=wN.mpr trivial
  exact⟨[],env,S,by simp only[goL,hs,if_true,List.append_nil],rfl,(fun y hy=>by cases hy),c⟩
 |d::ds,env,S,acc,c,hl,step=>by
  have hs:nQ none S=true:=wN.mpr trivial
  obtain⟨env1,x,S1,h1,h2,h3,c1,hx⟩:=step d env S (by simp) c
  rw[List.length_cons] at hl
  obtain⟨ys,env',S',e,l,hy,c'⟩:=goE C R ds env1 S1 (acc++[x]) c1 (by rw[List.length_append];simp;omega) fun d' env S hd=>step d' env S (by simp[hd])
  refine⟨x::ys,env',S',?_,by simp[l],?_,c'⟩
  ·have hk:=gF h3 (show acc.length<lim by omega)
   simp only[goL,hs,if_true,h1,h2,hk,Res.bind]
   rw[e,List.append_assoc]
   rfl
  ·intro y hy'
   rcases List.mem_cons.mp hy' with rfl|hy'
   ·exact hx
   ·exact hy y hy'
theorem dB {cap:List (Option Nat)}{fi:DI2}{g:DG}{t:DT}{fe:DE}{env:qC}{S S0:Sto}{items:List D}(C:qC→Sto→Prop)(R:D→Prop)(h:fi env S0=.ok (none,items) S)(h0:C (zW cap env) S)(hl:items.length≤lim)
  (step:∀ d env S,d∈items→C env S→∃ env1 x S1,g d env S=.ok env1 S∧t env1 S=.ok true S∧fe env1 S=.ok x S1∧C env1 S1∧R x) :
  ∃ ys env' S',qO false cap fi g t (qP fe) env S0=.ok (.lst ys) S'∧ys.length=items.length∧(∀ y∈ys,R y)∧C env' S':=by
 obtain⟨ys,env',S',e,l,hy,c⟩:=goE C R items (zW cap env) S [] h0 (by simpa using hl) step
 exact⟨ys,env',S',vH h e,l,hy,c⟩
theorem t0 (w:Int)(env:qC)(S:Sto)(h1:env[1]? = some (some (.int w))):d2 qZ (d2 xH (dC (.int 2)) (qA 1)) (dC (.int 1)) env S=.ok (.int (2*w+1)) S:=
 (qQ ((qQ (a:=.int 2) rfl (w4 h1)).trans (vI 2 w S (by omega))) rfl).trans (xC _ _ _)
theorem cL (S:Sto)(p:Nat)(w:Int)(h:x5 S p)(hw:0≤w∧w≤2000):∃ (x y:Int) (S':Sto),wA [.loc p,.int w] S=.ok (.tup [.int x,.int y]) S'∧(-w≤x∧x≤w)∧(-w≤y∧y≤w)∧x5 S' p:=by
 obtain⟨a,S1,e1,ha,p1⟩:=yR (S:=S) (i:=0) (env:=[some (.loc p),some (.int w)]) (m:=2*w+1) h (by omega) rfl (t0 w _ S rfl)
 obtain⟨b,S2,e2,hb,p2⟩:=yR (S:=S1) (i:=0) (env:=[some (.loc p),some (.int w)]) (m:=2*w+1) p1 (by omega) rfl (t0 w _ S1 rfl)
 refine⟨a-w,b-w,S2,?_,by omega,by omega,p2⟩
 rw[jS]
 refine cO (env:=[some (.loc p),some (.int w)]) rfl ?_
 have d1:d2 zK (qD 2 z9 (q9 (qA 0) (q9 (d2 qZ (d2 xH (dC (.int 2)) (qA 1)) (dC (.int 1))) (qB)))) (qA 1) [some (.loc p),some (.int w)] S=.ok (.int (a-w)) S1:=(qQ e1 rfl).trans rfl
 have d2':d2 zK (qD 2 z9 (q9 (qA 0) (q9 (d2 qZ (d2 xH (dC (.int 2)) (qA 1)) (dC (.int 1))) (qB)))) (qA 1) [some (.loc p),some (.int w)] S1=.ok (.int (b-w)) S2:=(qQ e2 rfl).trans rfl
 exact xQ (xI d1 d2') (by show 2≤lim;decide)
theorem mR {x y:Int}(hx : -1000≤x∧x≤1000)(hy : -1000≤y∧y≤1000):qX (.tup [.int x,.int y])=true:=by
 show (decide (-1000≤x∧x≤1000)&&decide (-1000≤y∧y≤1000))=true
 rw[decide_eq_true hx,decide_eq_true hy]
 rfl
def iD (n:Nat):D:=.int (n:Int)
theorem LH (n:Nat)(h:n≤1000000):gP [.int (n:Int)]=some (wD 0 (n:Int).toNat):=by
 unfold gP
 have : -(2 ^ 62)≤(n:Int)∧(n:Int)<2 ^ 62:=⟨by omega,by omega⟩
 exact if_pos this
theorem WV (n:Nat):wD 0 (n:Int).toNat=(List.range n).map iD:=by
 unfold wD
 rw[Int.toNat_natCast]
 congr 1
 funext i
 unfold iD
 rw[Int.zero_add]
theorem cN (n:Nat)(h:n≤1000000):gP [.int (n:Int)]=some ((List.range n).map iD):=by
 rw[LH n h,WV]
theorem QY {β : Type}(b:β)(S:Sto):_D.vP (some b) S=.ok b S:=rfl
theorem sM (f:DE)(n:Nat)(env:qC)(S:Sto)(h:n≤1000)(e:f env S=.ok (.int (n:Int)) S):w8 (uQ (q9 f qB)) env S=.ok (none,(List.range n).map iD) S:=by
 have e1:q9 f qB env S=.ok [.int (n:Int)] S:=m5 e
 unfold w8 uQ
 rw[e1,Res.bind_ok,cN n (by omega),QY,Res.bind_ok]
end _K
end
section
namespace _K
open PySem _D
inductive IvL (p w m:Nat)(e1:Option D)(ax ay st:Int)(env:qC)(S:Sto):Prop
 |mk (wi:Int) (ys:List D) (e8:Option D) (h_0:env=[some (.loc p),e1,some (.int (w:Int)),some (.int (m:Int)),some (.int wi),some (.tup [.int ax,.int ay]),some (.int st),some (.lst ys),e8]) (h_1:ys.all qX=true) (h_2:1≤ys.length∧ys.length≤200) (h_3:x5 S p):IvL p w m e1 ax ay st env S
theorem d9 {ys:List D}(h:∀ y∈ys,qX y=true):ys.all qX=true:=List.all_eq_true.mpr h
theorem iT (w:Nat)(k:Int)(env:qC)(S:Sto)(h:env[2]? = some (some (.int (w:Int)))):dTr (d2 gEq (qA 2) (dC (.int k))) env S=.ok (decide ((w:Int)=k)) S:=zX ((qQ (w4 h) rfl).trans (tS _ _ _))
section
variable {p w m:Nat}{e1:Option D}{ax ay st:Int}{env:qC}{S:Sto}
theorem KM (hm:1≤m∧m≤40)(ha : -400≤ax∧ax≤400)(hb : -400≤ay∧ay≤400)(h:IvL p w m e1 ax ay st env S) :
  Nx (sIf (dTr (d2 gEq (qA 2) (dC (.int 0)))) (zE (qO false [none,some 5] (w8 (uQ (q9 (qA 3) (qB)))) (gNm 0) (qU) (qP (zP (q9 (d2 qZ (d2 gIx (qA 1) (dC (.int 0))) (d2 uR (qA 0) (dC (.int 4)))) (q9 (d2 qZ (d2 gIx (qA 1) (dC (.int 1))) (d2 vB (qA 0) (dC (.int 4)))) (qB)))))) (gNm 7)) (zO) env S) (IvL p w m e1 ax ay st):=by
 obtain⟨wi,ys,e8,rfl,h1,h2,h3⟩:=h
 refine bB (iT w 0 _ S rfl) ?_
 by_cases hw:(w:Int)=0
 ·rw[decide_eq_true hw]
  have hr:=sM (qA 3) m [some (.loc p),e1,some (.int (w:Int)),some (.int (m:Int)),some (.int wi),some (.tup [.int ax,.int ay]),some (.int st),some (.lst ys),e8] S (by omega) rfl
  obtain⟨zs,env',S',e,l,hz,_,_,rfl⟩:=dB (cap:=[none,some 5]) (g:=gNm 0) (t:=qU) (fe:=zP (q9 (d2 qZ (d2 gIx (qA 1) (dC (.int 0))) (d2 uR (qA 0) (dC (.int 4)))) (q9 (d2 qZ (d2 gIx (qA 1) (dC (.int 1))) (d2 vB (qA 0) (dC (.int 4)))) (qB)))) (fun env S'=>∃ a,env=[a,some (.tup [.int ax,.int ay])]∧S'=S) (fun d=>qX d=true) hr ⟨none,rfl,rfl⟩ (by rw[List.length_map,List.length_range];unfold lim;omega)
   (fun d env S' hd ⟨a,q1,q2⟩=>by
    subst q1 q2
    obtain⟨i,hi,rfl⟩:=List.mem_map.mp hd
    have hi:=List.mem_range.mp hi
    refine⟨[some (iD i),some (.tup [.int ax,.int ay])],.tup [.int (ax+(i:Int) % 4),.int (ay+(i:Int)/4)],S',rfl,rfl,?_,⟨_,rfl,rfl⟩,mR (by omega) (by omega)⟩
    refine xQ (xI (a:=.int (ax+(i:Int) % 4)) (b:=.int (ay+(i:Int)/4)) (S1:=S') ?_ ?_) (by show 2≤lim;decide)
    ·exact(qQ (a:=.int ax) (b:=.int ((i:Int) % 4)) rfl ((qQ (a:=.int (i:Int)) rfl rfl).trans (jB _ _ _ (by omega)))).trans (xC _ _ _)
    ·exact(qQ (a:=.int ay) (b:=.int ((i:Int)/4)) rfl ((qQ (a:=.int (i:Int)) rfl rfl).trans (pZ _ _ _ (by omega)))).trans (xC _ _ _))
  rw[List.length_map,List.length_range] at l
  exact yU e rfl ⟨wi,zs,e8,rfl,d9 hz,by omega,h3⟩
 ·rw[decide_eq_false hw]
  exact jV rfl ⟨wi,ys,e8,rfl,h1,h2,h3⟩
theorem KN (hm:1≤m∧m≤40)(ha : -400≤ax∧ax≤400)(hb : -400≤ay∧ay≤400)(hst:1≤st∧st≤9)(h:IvL p w m e1 ax ay st env S) :
  Nx (sIf (dTr (d2 gEq (qA 2) (dC (.int 1)))) (zE (qO false [none,some 5,some 6] (w8 (uQ (q9 (qA 3) (qB)))) (gNm 0) (qU) (qP (zP (q9 (d2 qZ (d2 gIx (qA 1) (dC (.int 0))) (d2 xH (qA 2) (qA 0))) (q9 (d2 zK (d2 gIx (qA 1) (dC (.int 1))) (qA 0)) (qB)))))) (gNm 7)) (zO) env S) (IvL p w m e1 ax ay st):=by
 obtain⟨wi,ys,e8,rfl,h1,h2,h3⟩:=h
 refine bB (iT w 1 _ S rfl) ?_
 by_cases hw:(w:Int)=1
 ·rw[decide_eq_true hw]
  have hr:=sM (qA 3) m [some (.loc p),e1,some (.int (w:Int)),some (.int (m:Int)),some (.int wi),some (.tup [.int ax,.int ay]),some (.int st),some (.lst ys),e8] S (by omega) rfl
  obtain⟨zs,env',S',e,l,hz,_,_,rfl⟩:=dB (cap:=[none,some 5,some 6]) (g:=gNm 0) (t:=qU) (fe:=zP (q9 (d2 qZ (d2 gIx (qA 1) (dC (.int 0))) (d2 xH (qA 2) (qA 0))) (q9 (d2 zK (d2 gIx (qA 1) (dC (.int 1))) (qA 0)) (qB)))) (fun env S'=>∃ a,env=[a,some (.tup [.int ax,.int ay]),some (.int st)]∧S'=S) (fun d=>qX d=true) hr ⟨none,rfl,rfl⟩ (by rw[List.length_map,List.length_range];unfold lim;omega)
   (fun d env S' hd ⟨a,q1,q2⟩=>by
    subst q1 q2
    obtain⟨i,hi,rfl⟩:=List.mem_map.mp hd
    have hi:=List.mem_range.mp hi
    have hmul:0≤st*(i:Int)∧st*(i:Int)≤9*39:=⟨Int.mul_nonneg (by omega) (by omega),Int.mul_le_mul (by omega) (by omega) (by omega) (by omega)⟩
    refine⟨[some (iD i),some (.tup [.int ax,.int ay]),some (.int st)],.tup [.int (ax+st*(i:Int)),.int (ay-(i:Int))],S',rfl,rfl,?_,⟨_,rfl,rfl⟩,mR (by omega) (by omega)⟩
    refine xQ (xI (a:=.int (ax+st*(i:Int))) (b:=.int (ay-(i:Int))) (S1:=S') ?_ ?_) (by show 2≤lim;decide)
    ·exact(qQ (a:=.int ax) (b:=.int (st*(i:Int))) rfl ((qQ (a:=.int st) (b:=.int (i:Int)) rfl rfl).trans (vI _ _ _ (by omega)))).trans (xC _ _ _)
    ·exact(qQ (a:=.int ay) (b:=.int (i:Int)) rfl rfl).trans rfl)
  rw[List.length_map,List.length_range] at l
  exact yU e rfl ⟨wi,zs,e8,rfl,d9 hz,by omega,h3⟩
 ·rw[decide_eq_false hw]
  exact jV rfl ⟨wi,ys,e8,rfl,h1,h2,h3⟩
theorem nT (fe:DE)(hfe:∀ (x y:Int) (S:Sto),∃ x' y':Int,fe [some (.int x),some (.int y)] S=.ok (.tup [.int x',.int y']) S∧((x'=x∨x' = -x)∧(y'=y∨y' = -y)∨(x'=y∨x' = -y)∧(y'=x∨y' = -x)))(ys:List D)(hy:ys.all qX=true)(hl:ys.length≤200)(env:qC)(S:Sto)(h8:env[8]? = some (some (.lst ys))) :
  ∃ zs,qO false [none,none] (dIt (qA 8)) (gTp 2 (qF (gNm 0) (qF (gNm 1) (qY)))) (qU) (qP fe) env S=.ok (.lst zs) S∧zs.all qX=true∧zs.length=ys.length:=by
 have hit:dIt (qA 8) env S=.ok (none,ys) S:=by
  unfold dIt
  rw[w4 h8]
  rfl
 obtain⟨zs,env',S',e,l,hz,_,_,_,rfl⟩:=dB (cap:=[none,none]) (g:=gTp 2 (qF (gNm 0) (qF (gNm 1) (qY)))) (t:=qU) (fe:=fe) (fun env S'=>∃ a b,env=[a,b]∧S'=S) (fun d=>qX d=true) hit ⟨none,none,rfl,rfl⟩ (by unfold lim;omega)
  (fun d env S' hd ⟨a,b,q1,q2⟩=>by
   subst q1 q2
   obtain⟨x,y,rfl,hx,hy'⟩:=rG (List.all_eq_true.mp hy d hd)
   obtain⟨x',y',e,hc⟩:=hfe x y S'
   exact⟨[some (.int x),some (.int y)],_,S',rfl,rfl,e,⟨_,_,rfl,rfl⟩,mR (by omega) (by omega)⟩)
 exact⟨zs,e,d9 hz,l⟩
theorem tF {a b:List D}(ha:a.all qX=true)(hb:b.all qX=true):(a++b).all qX=true:=by rw[List.all_append,ha,hb];rfl
theorem eP (ys:List D)(n:Nat):w5 ys none (some (n:Int))=ys.take n:=by
 unfold w5
 have h1:_H.sIx ys.length 0 none=0:=rfl
 have h2:_H.sIx ys.length ys.length (some (n:Int))=min n ys.length:=by
  show (if (n:Int)<0 then ((n:Int)+(ys.length:Int)).toNat else min (n:Int).toNat ys.length)=_
  rw[if_neg (by omega),Int.toNat_natCast]
 rw[h1,h2,List.drop_zero,Nat.sub_zero]
 rcases Nat.le_total n ys.length with h|h
 ·rw[Nat.min_eq_left h]
 ·rw[Nat.min_eq_right h,List.take_of_length_le h,List.take_of_length_le (Nat.le_refl _)]
theorem KO (hm:1≤m∧m≤40)(h:IvL p w m e1 ax ay st env S) :
  Nx (sIf (dTr (d2 gEq (qA 2) (dC (.int 2)))) (qT (zE (dSl (qA 7) (xZ) (zV (d2 qZ (dC (.int 1)) (d2 vB (qA 3) (dC (.int 4)))))) (gNm 8)) (qT (zE (d2 qZ (d2 qZ (qA 8) (qO false [none,none] (dIt (qA 8)) (gTp 2 (qF (gNm 0) (qF (gNm 1) (qY)))) (qU) (qP (zP (q9 (d2 zK (dC (.int 0)) (qA 1)) (q9 (qA 0) (qB))))))) (qO false [none,none] (dIt (qA 8)) (gTp 2 (qF (gNm 0) (qF (gNm 1) (qY)))) (qU) (qP (zP (q9 (d2 zK (dC (.int 0)) (qA 0)) (q9 (d2 zK (dC (.int 0)) (qA 1)) (qB))))))) (gNm 7)) (zE (d2 qZ (qA 7) (qO false [none,none] (dIt (qA 8)) (gTp 2 (qF (gNm 0) (qF (gNm 1) (qY)))) (qU) (qP (zP (q9 (qA 1) (q9 (d2 zK (dC (.int 0)) (qA 0)) (qB))))))) (gNm 7)))) (zO) env S) (IvL p w m e1 ax ay st):=by
 obtain⟨wi,ys,e8,rfl,h1,h2,h3⟩:=h
 refine bB (iT w 2 _ S rfl) ?_
 by_cases hw:(w:Int)=2
 ·rw[decide_eq_true hw,if_pos rfl]
  have hs:dSl (qA 7) (xZ) (zV (d2 qZ (dC (.int 1)) (d2 vB (qA 3) (dC (.int 4))))) [some (.loc p),e1,some (.int (w:Int)),some (.int (m:Int)),some (.int wi),some (.tup [.int ax,.int ay]),some (.int st),some (.lst ys),e8] S=.ok (.lst (ys.take (1+m/4))) S:=by
   have hd:d2 qZ (dC (.int 1)) (d2 vB (qA 3) (dC (.int 4))) [some (.loc p),e1,some (.int (w:Int)),some (.int (m:Int)),some (.int wi),some (.tup [.int ax,.int ay]),some (.int st),some (.lst ys),e8] S=.ok (.int ((1+m/4:Nat):Int)) S:=by
    refine(qQ (a:=.int 1) (b:=.int ((m:Int)/4)) rfl ((qQ (a:=.int (m:Int)) rfl rfl).trans (pZ _ _ _ (by omega)))).trans ?_
    rw[xC,show (1:Int)+(m:Int)/4=((1+m/4:Nat):Int) by omega]
   unfold dSl
   rw[w4 (env:=[some (.loc p),e1,some (.int (w:Int)),some (.int (m:Int)),some (.int wi),some (.tup [.int ax,.int ay]),some (.int st),some (.lst ys),e8]) (i:=7) rfl]
   simp only[Res.bind,xZ,zV,hd]
   show Res.ok (D.lst (w5 ys none (some ((1+m/4:Nat):Int)))) S=_
   rw[eP]
  have l1:(ys.take (1+m/4)).length≤11:=by rw[List.length_take];omega
  have l0:1≤(ys.take (1+m/4)).length:=by rw[List.length_take];omega
  have ps:(ys.take (1+m/4)).all qX=true:=List.all_eq_true.mpr fun y hy=>List.all_eq_true.mp h1 y (List.mem_of_mem_take hy)
  generalize ys.take (1+m/4)=zs at hs l1 l0 ps
  have l2:2≤lim:=by decide
  refine xP (yU hs rfl ?_)
  obtain⟨a1,c1,q1,n1⟩:=nT (zP (q9 (d2 zK (dC (.int 0)) (qA 1)) (q9 (qA 0) (qB)))) (fun x y S=>⟨0-y,x,xQ (xI rfl rfl) l2,by omega⟩) zs ps (by omega) [some (.loc p),e1,some (.int (w:Int)),some (.int (m:Int)),some (.int wi),some (.tup [.int ax,.int ay]),some (.int st),some (.lst ys),some (.lst zs)] S rfl
  obtain⟨a2,c2,q2,n2⟩:=nT (zP (q9 (d2 zK (dC (.int 0)) (qA 0)) (q9 (d2 zK (dC (.int 0)) (qA 1)) (qB)))) (fun x y S=>⟨0-x,0-y,xQ (xI rfl rfl) l2,by omega⟩) zs ps (by omega) [some (.loc p),e1,some (.int (w:Int)),some (.int (m:Int)),some (.int wi),some (.tup [.int ax,.int ay]),some (.int st),some (.lst ys),some (.lst zs)] S rfl
  refine xP (yU (d:=.lst (zs++a1++a2)) (S1:=S) ((qQ ((qQ rfl c1).trans (gA (by unfold lim;omega) S)) c2).trans (gA (by rw[List.length_append];unfold lim;omega) S)) rfl ?_)
  obtain⟨a3,c3,q3,n3⟩:=nT (zP (q9 (qA 1) (q9 (d2 zK (dC (.int 0)) (qA 0)) (qB)))) (fun x y S=>⟨y,0-x,xQ (xI rfl rfl) l2,by omega⟩) zs ps (by omega) [some (.loc p),e1,some (.int (w:Int)),some (.int (m:Int)),some (.int wi),some (.tup [.int ax,.int ay]),some (.int st),some (.lst (zs++a1++a2)),some (.lst zs)] S rfl
  refine yU (d:=.lst (zs++a1++a2++a3)) (S1:=S) ((qQ rfl c3).trans (gA (by simp only[List.length_append];unfold lim;omega) S)) rfl ⟨wi,_,_,rfl,tF (tF (tF ps q1) q2) q3,?_,h3⟩
  simp only[List.length_append]
  omega
 ·rw[decide_eq_false hw]
  exact jV rfl ⟨wi,ys,e8,rfl,h1,h2,h3⟩
end
end _K
end
section
namespace _K
open PySem _D
theorem ix5 (r:Nat)(h:r<5)(S:Sto):∃ m:Int,gIx (.lst [.int 1,.int 2,.int 4,.int 12,.int 1000]) (.int (r:Int)) S=.ok (.int m) S∧1≤m∧m≤1000:=by
 match r,h with
 |0,_=>exact⟨1,rfl,by omega⟩
 |1,_=>exact⟨2,rfl,by omega⟩
 |2,_=>exact⟨4,rfl,by omega⟩
 |3,_=>exact⟨12,rfl,by omega⟩
 |4,_=>exact⟨1000,rfl,by omega⟩
theorem DZ (env:qC)(S:Sto):uP (q9 (dC (.int 1)) (q9 (dC (.int 2)) (q9 (dC (.int 4)) (q9 (dC (.int 12)) (q9 (dC (.int 1000)) (qB)))))) env S=.ok (.lst [.int 1,.int 2,.int 4,.int 12,.int 1000]) S:=by
 have l5:5≤lim:=by decide
 simp[qV,vR,JD,RC,RB,qT,sIf,zA,zO,x9,zE,gNm,gSb,gTp,qF,qY,nN,SJ,RN,D8,dC,qA,d1,d2,q9,qB,qH,qD,dTr,xR,yW,qU,fB,ZY,dIf,wQ,zP,uP,dD,dBm,dSl,zV,xZ,vK,uQ,Res.bind,Res.toS,_D.k8,_D.vP,RF,RD,T4,RO,RH,RI,RJ,RG,RA,R9,RE,gLt,gLe,gGt,gGe,_D.zK,RM,l5]
theorem iM (zs:List D)(h:zs.all qX=true)(hl:1≤zs.length∧zs.length≤40):∃ xs:List D,u3 zs=some xs∧xs.all qX=true∧(1≤xs.length∧xs.length≤40)∧uF (.tup xs)=true:=by
 obtain⟨ks,rfl⟩:=rH zs h
 rw[List.length_map] at hl
 have pk:∀ k∈ks,qX (tpD k)=true:=fun k hk=>List.all_eq_true.mp h _ (List.mem_map_of_mem hk)
 have hne:∀ k∈ks,k≠[]:=fun k hk z=>by
  subst z
  have:=pk [] hk
  cases this
 have c1:((_S.srt _H.lexLt ks).map tpD).all qX=true:=by
  rw[List.all_map,List.all_eq_true]
  intro k hk
  exact pk k ((_S.u6 _S.uS k ks).mp hk)
 have c2:1≤((_S.srt _H.lexLt ks).map tpD).length∧((_S.srt _H.lexLt ks).map tpD).length≤40:=by
  rw[List.length_map]
  refine⟨?_,?_⟩
  ·cases ks with
   |nil=>simp at hl
   |cons k r=>exact List.length_pos_of_mem ((_S.u6 _S.uS k (k::r)).mpr (by simp))
  ·have:=nP _H.lexLt ks
   omega
 refine⟨(_S.srt _H.lexLt ks).map tpD,KB ks (by intro z;subst z;simp at hl) (by omega) hne,c1,c2,?_⟩
 show (decide (1≤((_S.srt _H.lexLt ks).map tpD).length∧((_S.srt _H.lexLt ks).map tpD).length≤40)&&((_S.srt _H.lexLt ks).map tpD).all qX&&(match y8 ((_S.srt _H.lexLt ks).map tpD) with|some ks=>upB ks|none=>false))=true
 rw[decide_eq_true c2,c1,yI]
 exact(t7 _).mpr (_S.pO _S.uS ks)
theorem LD (N:Nat)(hN:1≤N∧N≤40)(S:Sto)(p:Nat)(h:x5 S p):∃ (xs:List D) (S':Sto),uX [.loc p,.int (N:Int)] S=.ok (.tup xs) S'∧xs.all qX=true∧(1≤xs.length∧xs.length≤40)∧uF (.tup xs)=true∧x5 S' p:=by
 have key:Rt (uZ [some (.loc p),some (.int (N:Int)),none,none,none,none,none,none,none] S) fun d S'=>∃ xs,d=.tup xs∧xs.all qX=true∧(1≤xs.length∧xs.length≤40)∧uF (.tup xs)=true∧x5 S' p:=by
  unfold uZ
  obtain⟨w,S1,c1,hw,p1⟩:=yR (S:=S) (i:=0) (f2:=dC (.int 7)) (env:=[some (.loc p),some (.int (N:Int)),none,none,none,none,none,none,none]) (m:=7) h (by omega) rfl rfl
  obtain⟨m0,S2,c2,hm0,p2⟩:=yR (S:=S1) (i:=0) (f2:=qA 1) (env:=[some (.loc p),some (.int (N:Int)),none,none,none,none,none,none,none]) (m:=(N:Int)) p1 (by omega) rfl rfl
  refine xF (BX c1 (V2 c2) ?_)
  clear c1 c2
  have hm:1≤m0+1∧m0+1≤N:=by omega
  generalize m0+1=m at hm
  simp only[List.set_cons_succ,List.set_cons_zero]
  obtain⟨k,S3,c3,hk,p3⟩:=yR (S:=S2) (i:=0) (f2:=dC (.int 5)) (env:=[some (.loc p),some (.int (N:Int)),some (.int (w:Int)),some (.int (m:Int)),none,none,none,none,none]) (m:=5) p2 (by omega) rfl rfl
  obtain⟨wi,hwi,w1,w2⟩:=ix5 k (by omega) S3
  obtain⟨ax,ay,S4,c4,ha,hb,p4⟩:=cL S3 p 400 p3 (by omega)
  have l2:2≤lim:=by decide
  refine xF (yU (xQ (xI ((qQ (DZ _ _) c3).trans hwi) ((uC (a:=.loc p) (b:=.int 400) rfl rfl).trans c4)) l2) (env1:=[some (.loc p),some (.int (N:Int)),some (.int (w:Int)),some (.int (m:Int)),some (.int wi),some (.tup [.int ax,.int ay]),none,none,none]) (S2:=S4) rfl ?_)
  clear c3 c4 hwi
  obtain⟨s0,S5,c5,hs0,p5⟩:=yR (S:=S4) (i:=0) (f2:=dC (.int 9)) (env:=[some (.loc p),some (.int (N:Int)),some (.int (w:Int)),some (.int (m:Int)),some (.int wi),some (.tup [.int ax,.int ay]),none,none,none]) (m:=9) p4 (by omega) rfl rfl
  refine xF (yU (V2 c5) rfl ?_)
  clear c5
  have hst:(1:Int)≤((s0+1:Nat):Int)∧((s0+1:Nat):Int)≤9:=by omega
  generalize ((s0+1:Nat):Int)=st at hst
  simp only[List.set_cons_succ,List.set_cons_zero]
  have hr:=sM (qA 3) m [some (.loc p),some (.int (N:Int)),some (.int (w:Int)),some (.int (m:Int)),some (.int wi),some (.tup [.int ax,.int ay]),some (.int st),none,none] S5 (by omega) rfl
  obtain⟨ys,env',S6,c6,l6,h6,_,_,p6⟩:=dB (cap:=[none,some 0,some 4]) (g:=gNm 0) (t:=qU) (fe:=qD 2 (okO wA) (q9 (qA 1) (q9 (qA 2) (qB)))) (fun env S'=>∃ a,env=[a,some (.loc p),some (.int wi)]∧x5 S' p) (fun d=>qX d=true) hr ⟨none,rfl,p5⟩ (by rw[List.length_map,List.length_range];unfold lim;omega)
   (fun d env S' hd ⟨a,q1,q2⟩=>by
    subst q1
    obtain⟨x,y,S'',e,hx,hy,p''⟩:=cL S' p wi q2 (by omega)
    exact⟨[some d,some (.loc p),some (.int wi)],_,S'',rfl,rfl,(uC (a:=.loc p) (b:=.int wi) rfl rfl).trans (r9 e),⟨_,rfl,p''⟩,mR (by omega) (by omega)⟩)
  rw[List.length_map,List.length_range] at l6
  refine xF (yU c6 rfl ?_)
  clear c6 hr
  simp only[List.set_cons_succ,List.set_cons_zero]
  have I0:IvL p w m (some (.int (N:Int))) ax ay st [some (.loc p),some (.int (N:Int)),some (.int (w:Int)),some (.int (m:Int)),some (.int wi),some (.tup [.int ax,.int ay]),some (.int st),some (.lst ys),none] S6:=⟨wi,ys,none,rfl,d9 h6,by omega,p6⟩
  have hm2:1≤m∧m≤40:=by omega
  obtain⟨env1,T1,e1,I1⟩:=KM hm2 ha hb I0
  refine xF ⟨env1,T1,e1,?_⟩
  obtain⟨env2,T2,e2,I2⟩:=KN hm2 ha hb hst I1
  refine xF ⟨env2,T2,e2,?_⟩
  obtain⟨env3,T3,e3,I3⟩:=KO hm2 I2
  refine xF ⟨env3,T3,e3,?_⟩
  obtain⟨wi',zs,e8,rfl,z1,z2,z3⟩:=I3
  have ht:(zs.take m).all qX=true:=List.all_eq_true.mpr fun y hy=>List.all_eq_true.mp z1 y (List.mem_of_mem_take hy)
  have htl:1≤(zs.take m).length∧(zs.take m).length≤40:=by rw[List.length_take];omega
  obtain⟨xs,hs,x1,x2,x4⟩:=iM (zs.take m) ht htl
  have hc:dSl (qA 7) (xZ) (zV (qA 3)) [some (.loc p),some (.int (N:Int)),some (.int (w:Int)),some (.int (m:Int)),some (.int wi'),some (.tup [.int ax,.int ay]),some (.int st),some (.lst zs),e8] T3=.ok (.lst (zs.take m)) T3:=by
   show Res.ok (D.lst (w5 zs none (some (m:Int)))) T3=_
   rw[eP]
  have hd:jG (dSl (qA 7) (xZ) (zV (qA 3))) [some (.loc p),some (.int (N:Int)),some (.int (w:Int)),some (.int (m:Int)),some (.int wi'),some (.tup [.int ax,.int ay]),some (.int st),some (.lst zs),e8] T3=.ok (.lst xs) T3:=by
   unfold jG
   rw[hc]
   simp only[Res.bind,nO,Option.bind_some,hs]
  exact v3 (xD ((xW hd).trans rfl) ⟨xs,rfl,x1,x2,x4,z3⟩)
 obtain⟨d,S',e,xs,rfl,x1,x2,x4,x3⟩:=key
 rw[gT]
 exact⟨xs,S',pN rfl e,x1,x2,x4,x3⟩
end _K
end
section
namespace _K
open PySem _D
theorem ZZ (env:qC)(S:Sto):qB env S=.ok [] S:=rfl
theorem mH {xs:List D}{k:Int}{d:D}(h:_L.atI xs k=some d)(S:Sto):gIx (.tup xs) (.int k) S=.ok d S:=by
 show _D.vP (_L.atI xs k) S=_
 rw[h]
 rfl
theorem WU (v:Value)(x:Str)(env:qC)(S:Sto):v4 v (q9 (dC (.str x)) (qB)) env S=.ex v .non env S:=by
 have l1:1≤lim:=by decide
 unfold v4
 rw[m5 (show dC (.str x) env S=.ok (.str x) S from rfl)]
 show (if ([D.str x]:List D).length≤lim then Out.ex v D.non env S else Out.bad)=_
 exact if_pos l1
theorem fM (F:DF)(v:Value)(x:Str)(d:D)(b:Bool)(S:Sto)(h:F [d] S=.ok (.bl b) S):qV 1 (sIf (xR (dTr (qD 1 F (q9 (qA 0) (qB))))) (v4 v (q9 (dC (.str x)) (qB))) (zO)) [d] S=if b then .ok .non S else .ex v .non S:=by
 have ht:=pM (zX ((x8 (f1:=qA 0) (env:=[some d]) (S:=S) rfl).trans h))
 show uT (sIf _ _ _ [some d] S)=_
 unfold sIf
 rw[ht]
 cases b with
 |true=>rfl
 |false =>
  show uT (v4 v (q9 (dC (.str x)) (qB)) [some d] S)=_
  rw[WU]
  rfl
theorem j7 (c:Cl)(d:D)(S:Sto)(h:Pn d):wH c [d] S=if uF d then .ok .non S else .ex (.ref c.NoLot) .non S:=by
 rw[gX]
 exact fM _ _ _ _ _ S (rL d S h)
theorem jM (c:Cl)(d:D)(S:Sto)(h:Pn d):zJ c [d] S=if qX d then .ok .non S else .ex (.ref c.NoPoint) .non S:=by
 rw[jT]
 exact fM _ _ _ _ _ S (mT d S h)
theorem mV (c:Cl)(i:Int)(S:Sto):wP c [.int i] S=.ok .non S:=by
 rw[jE]
 exact(fM _ _ _ _ _ S (kM i S)).trans rfl
abbrev Pt:=Int × Int
def pD (q:Pt):D:=.tup [.int q.1,.int q.2]
def kP (q:Pt):List Int:=[q.1,q.2]
theorem cC:∀ {xs:List D},xs.all qX=true→∃ ps:List Pt,xs=ps.map pD
 |[],_=>⟨[],rfl⟩
 |d::ds,h=>by
  rw[List.all_cons,Bool.and_eq_true] at h
  obtain⟨ps,rfl⟩:=cC h.2
  obtain⟨x,y,rfl,_⟩:=rG h.1
  exact⟨(x,y)::ps,rfl⟩
theorem uK (ps:List Pt):ps.map pD=(ps.map kP).map tpD:=by rw[List.map_map];rfl
theorem BJ {ps:List Pt}(h:uF (.tup (ps.map pD))=true):(ps.map kP).Pairwise (fun a b=>_H.lexLt a b=true):=by
 have h':(decide (1≤(ps.map pD).length∧(ps.map pD).length≤40)&&(ps.map pD).all qX&&(match y8 (ps.map pD) with|some ks=>upB ks|none=>false))=true:=h
 rw[Bool.and_eq_true] at h'
 have h2:=h'.2
 rw[uK,yI] at h2
 exact(t7 _).mp h2
theorem J0 (a b c d:Int):_H.lexLt [a,b] [c,d]=(if a=c then decide (b<d) else decide (a<c)):=by
 rw[_H.lexLt_cons]
 by_cases h:a=c
 ·rw[if_pos h,if_pos h,_H.lexLt_cons]
  by_cases h2:b=d
  ·rw[if_pos h2,_H.lexLt_nil_nil];symm;rw[decide_eq_false_iff_not];omega
  ·rw[if_neg h2]
 ·rw[if_neg h,if_neg h]
def shP (a b:Int)(q:Pt):Pt:=(q.1+a,q.2+b)
theorem LM (a b:Int){ps:List Pt}(h:(ps.map kP).Pairwise (fun a b=>_H.lexLt a b=true)):((ps.map (shP a b)).map kP).Pairwise (fun a b=>_H.lexLt a b=true):=by
 rw[List.pairwise_map] at h ⊢
 rw[List.pairwise_map]
 refine h.imp fun {p q} hpq=>?_
 have h1:_H.lexLt [p.1,p.2] [q.1,q.2]=true:=hpq
 show _H.lexLt [p.1+a,p.2+b] [q.1+a,q.2+b]=true
 rw[J0] at h1 ⊢
 by_cases e:p.1=q.1
 ·rw[if_pos e,decide_eq_true_eq] at h1
  rw[if_pos (by omega),decide_eq_true_eq]
  omega
 ·rw[if_neg e,decide_eq_true_eq] at h1
  rw[if_neg (by omega),decide_eq_true_eq]
  omega
theorem NM {ks:List (List Int)}(h:ks.Pairwise (fun a b=>_H.lexLt a b=true)):ks.Nodup:=h.imp fun {a b} hab e=>by
 subst e
 rw[_S.uS.irr] at hab
 cases hab
theorem kX {cap:List (Option Nat)}{fi:DI2}{fe:DE}{env:qC}{S:Sto}(ps:List Pt)(f:Pt→D)(rest:qC)(hi:fi env S=.ok (none,ps.map pD) S)(hl:ps.length≤lim)(h0:∃ a b,zW cap env=a::b::rest)(hfe:∀ q∈ps,fe (some (.int q.1)::some (.int q.2)::rest) S=.ok (f q) S) :
  qO false cap fi (gTp 2 (qF (gNm 0) (qF (gNm 1) (qY)))) (qU) (qP fe) env S=.ok (.lst (ps.map f)) S:=by
 have hc:=tI (enc:=pD) (cap:=cap) (g:=gTp 2 (qF (gNm 0) (qF (gNm 1) (qY)))) (t:=qU) (fe:=fe) hi trivial (fun _=>true) f (fun env=>∃ a b,env=a::b::rest) h0 hl
  (fun q hq env ⟨a,b,e⟩=>by
   subst e
   exact⟨some (.int q.1)::some (.int q.2)::rest,rfl,⟨_,_,rfl⟩,rfl,fun _=>hfe q hq⟩)
 rw[yB] at hc
 exact hc
theorem rJ:∀ qs:List Pt,∃ l,fN (qs.map pD)=some l
 |[]=>⟨[],rfl⟩
 |q::qs=>by
  obtain⟨l,e⟩:=rJ qs
  refine⟨.tuple [.int q.1,.int q.2]::l,?_⟩
  show (pyD (pD q)).bind (fun x=>(fN (qs.map pD)).map (x::·))=_
  rw[e];rfl
theorem FL (qs:List Pt):Pn (.tup (qs.map pD)):=by
 obtain⟨l,e⟩:=rJ qs
 exact⟨.tuple l,by simp only[pyD,e,Option.map_some]⟩
theorem iG (q:Pt):Pn (pD q):=⟨.tuple [.int q.1,.int q.2],rfl⟩
theorem Y0 (ps:List Pt)(hl:ps.length≤100000)(hne:ps≠[]):j8 (ps.map pD)=some ((_S.wY _H.lexLt (ps.map kP)).map tpD):=by
 unfold j8
 have h0:zN (ps.map pD)=none:=by
  cases ps with
  |nil=>exact absurd rfl hne
  |cons k r=>rfl
 rw[h0,uK,yI]
 have h2:((ps.map kP).all fun k=>!k.isEmpty)=true:=by
  rw[List.all_map,List.all_eq_true]
  intro q _
  rfl
 have h3:(decide ((ps.map kP).length≤100000)&&(ps.map kP).all fun k=>!k.isEmpty)=true:=by
  rw[h2,decide_eq_true (by rw[List.length_map];exact hl)];rfl
 show (if (decide ((ps.map kP).length≤100000)&&(ps.map kP).all fun k=>!k.isEmpty)=true then _ else _)=_
 rw[if_pos h3]
structure Lt (ps:List Pt):Prop where
 pt:(ps.map pD).all qX=true
 ne:1≤ps.length
 le:ps.length≤40
 lot:uF (.tup (ps.map pD))=true
theorem Lt.pn {ps:List Pt}(h:Lt ps):Pn (.tup (ps.map pD)):=FL ps
theorem Lt.up {ps:List Pt}(h:Lt ps):(ps.map kP).Pairwise (fun a b=>_H.lexLt a b=true):=BJ h.lot
theorem iA {ps:List Pt}(h1:(ps.map pD).all qX=true)(h2:1≤ps.length)(h3:ps.length≤40)(h4:(ps.map kP).Pairwise (fun a b=>_H.lexLt a b=true)):Lt ps:=by
 refine⟨h1,h2,h3,?_⟩
 show (decide (1≤(ps.map pD).length∧(ps.map pD).length≤40)&&(ps.map pD).all qX&&(match y8 (ps.map pD) with|some ks=>upB ks|none=>false))=true
 rw[h1,List.length_map,decide_eq_true ⟨h2,h3⟩,uK,yI]
 exact(t7 _).mpr h4
theorem Lt.bd {ps:List Pt}(h:Lt ps){q:Pt}(hq:q∈ps):(-1000≤q.1∧q.1≤1000)∧(-1000≤q.2∧q.2≤1000):=by
 have:=List.all_eq_true.mp h.pt (pD q) (List.mem_map_of_mem hq)
 obtain⟨x,y,e,hx,hy⟩:=rG this
 unfold pD at e
 injection e with e
 injection e with e1 e2
 injection e2 with e2 _
 cases e1;cases e2
 exact⟨hx,hy⟩
theorem kH {q:Pt}(h:(-1000≤q.1∧q.1≤1000)∧(-1000≤q.2∧q.2≤1000)):qX (pD q)=true:=mR h.1 h.2
theorem sQ {a b:Pt}(h:kP a=kP b):a=b:=by
 have h1:a.1=b.1:=by injection h
 have h2:a.2=b.2:=by
  injection h with _ h
  injection h
 exact Prod.ext h1 h2
theorem Lt.nd {ps:List Pt}(h:Lt ps):ps.Nodup:=by
 have nd:=NM h.up
 unfold List.Nodup at nd ⊢
 rw[List.pairwise_map] at nd
 exact nd.imp fun {a b} hab e=>hab (congrArg kP e)
theorem sR {a b:List Pt}(h:a.map kP=b.map kP):a=b:=by
 induction a generalizing b with
 |nil=>cases b with|nil=>rfl|cons _ _=>cases h
 |cons x a ih =>
  cases b with
  |nil=>cases h
  |cons y b =>
   rw[List.map_cons,List.map_cons] at h
   injection h with h1 h2
   rw[sQ h1,ih h2]
theorem nB {a b:List Pt}(ha:Lt a)(hb:Lt b)(p:a.Perm b):a=b:=
 sR (_S.bJ _S.uS ha.up hb.up fun x=>(p.map kP).mem_iff)
end _K
end
section
namespace _K
open PySem _D
theorem pH (ps:List Pt)(env:qC)(i:Nat)(S:Sto)(h:env[i]? = some (some (.tup (ps.map pD)))):dIt (qA i) env S=.ok (none,ps.map pD) S:=by
 unfold dIt
 rw[w4 h]
 rfl
theorem yS {F:DF}{env:qC}{S:Sto}{i:Nat}{d:D}(h:env[i]? = some (some d))(hF:F [d] S=.ok .non S):x9 (qD 1 F (q9 (qA i) (qB))) env S=.nx env S:=by
 unfold x9
 rw[(x8 (w4 h)).trans hF]
 rfl
theorem B3 {F:DF}{env:qC}{S:Sto}{i:Nat}{d:D}{v:Value}(h:env[i]? = some (some d))(hF:F [d] S=.ex v .non S):x9 (qD 1 F (q9 (qA i) (qB))) env S=.ex v .non env S:=by
 unfold x9
 rw[(x8 (w4 h)).trans hF]
 rfl
theorem v6 {f g:DS}{env env1:qC}{S S1:Sto}(h:f env S=.nx env1 S1):qT f g env S=g env1 S1:=by
 unfold qT
 rw[h]
theorem MQ {f g:DS}{env env1:qC}{S S1:Sto}{v:Value}{x:D}(h:f env S=.ex v x env1 S1):qT f g env S=.ex v x env1 S1:=by
 unfold qT
 rw[h]
def mvD (a b:Int)(ps:List Pt):List D:=ps.map fun q=>pD (shP a b q)
theorem NL (a b:Int)(ps:List Pt):mvD a b ps=(ps.map (shP a b)).map pD:=by
 unfold mvD
 rw[List.map_map]
 rfl
theorem sU (c:Cl)(S:Sto):∀ (ds:List D) (env:qC),(∀ d∈ds,Pn d)→∀ e0 e1 e2 e3 e4,env=[e0,e1,e2,e3,e4]→(ds.all qX=true→∃ e4',wL (gNm 4) (x9 (qD 1 (zJ c) (q9 (qA 4) (qB)))) ds env S=.nx [e0,e1,e2,e3,e4'] S)∧(ds.all qX=false→∃ env',wL (gNm 4) (x9 (qD 1 (zJ c) (q9 (qA 4) (qB)))) ds env S=.ex (.ref c.NoPoint) .non env' S)
 |[],env,_,e0,e1,e2,e3,e4,q=>by
  subst q
  exact⟨fun _=>⟨e4,rfl⟩,fun h=>by cases h⟩
 |d::ds,env,hp,e0,e1,e2,e3,e4,q=>by
  subst q
  have hn:=jM c d S (hp d (by simp))
  have ih:=sU c S ds [e0,e1,e2,e3,some d] (fun x hx=>hp x (by simp[hx])) e0 e1 e2 e3 (some d) rfl
  have e:(d::ds).all qX=(qX d&&ds.all qX):=rfl
  rw[e]
  cases hd:qX d with
  |true =>
   rw[hd,if_pos rfl] at hn
   have hx:=yS (env:=[e0,e1,e2,e3,some d]) (i:=4) rfl hn
   have step:wL (gNm 4) (x9 (qD 1 (zJ c) (q9 (qA 4) (qB)))) (d::ds) [e0,e1,e2,e3,e4] S=wL (gNm 4) (x9 (qD 1 (zJ c) (q9 (qA 4) (qB)))) ds [e0,e1,e2,e3,some d] S:=by
    rw[wL,show gNm 4 d [e0,e1,e2,e3,e4] S=.ok [e0,e1,e2,e3,some d] S from rfl]
    simp only[Res.toS,hx]
   rw[step,Bool.true_and]
   exact ih
  |false =>
   rw[hd,if_neg (by simp)] at hn
   have hx:=B3 (env:=[e0,e1,e2,e3,some d]) (i:=4) rfl hn
   refine⟨fun h=>by simp at h,fun _=>⟨[e0,e1,e2,e3,some d],?_⟩⟩
   rw[wL,show gNm 4 d [e0,e1,e2,e3,e4] S=.ok [e0,e1,e2,e3,some d] S from rfl]
   simp only[Res.toS,hx]
theorem J3 (a b:Int)(ps:List Pt)(hl:ps.length≤40)(env:qC)(S:Sto)(h0:env[0]? = some (some (.tup (ps.map pD))))(h1:env[1]? = some (some (.int a)))(h2:env[2]? = some (some (.int b))):qO false [none,none,some 1,some 2] (dIt (qA 0)) (gTp 2 (qF (gNm 0) (qF (gNm 1) (qY)))) (qU) (qP (zP (q9 (d2 qZ (qA 0) (qA 2)) (q9 (d2 qZ (qA 1) (qA 3)) (qB))))) env S=.ok (.lst (mvD a b ps)) S:=
 kX ps (fun q=>pD (shP a b q)) [some (.int a),some (.int b)] (pH ps env 0 S h0) (by unfold lim;omega) ⟨none,none,by simp[zW,h1,h2]⟩ fun q _=>xQ (xI ((qQ (a:=.int q.1) (b:=.int a) rfl rfl).trans (xC _ _ _)) ((qQ (a:=.int q.2) (b:=.int b) rfl rfl).trans (xC _ _ _))) (by show 2≤lim;decide)
theorem K2 (c:Cl)(ps:List Pt)(a b:Int)(S:Sto)(h:Lt ps):j9 c [.tup (ps.map pD),.int a,.int b] S=if (mvD a b ps).all qX then .ok (.tup (mvD a b ps)) S else .ex (.ref c.NoPoint) .non S:=by
 rw[fV]
 show uT (pT c [some (.tup (ps.map pD)),some (.int a),some (.int b),none,none] S)=_
 unfold pT
 have n1:=j7 c _ S h.pn
 rw[h.lot,if_pos rfl] at n1
 rw[v6 (yS (i:=0) rfl n1),v6 (yS (i:=1) rfl (mV c a S)),v6 (yS (i:=2) rfl (mV c b S))]
 have hc:=J3 a b ps h.le [some (.tup (ps.map pD)),some (.int a),some (.int b),none,none] S rfl rfl rfl
 have ha:zE (qH wR (q9 (qO false [none,none,some 1,some 2] (dIt (qA 0)) (gTp 2 (qF (gNm 0) (qF (gNm 1) (qY)))) (qU) (qP (zP (q9 (d2 qZ (qA 0) (qA 2)) (q9 (d2 qZ (qA 1) (qA 3)) (qB)))))) (qB))) (gNm 3) [some (.tup (ps.map pD)),some (.int a),some (.int b),none,none] S=.nx [some (.tup (ps.map pD)),some (.int a),some (.int b),some (.tup (mvD a b ps)),none] S:=by
  unfold zE
  rw[(xW hc).trans (show wR [.lst (mvD a b ps)] S=.ok (.tup (mvD a b ps)) S from rfl)]
  rfl
 rw[v6 ha]
 obtain⟨l1,l2⟩:=sU c S (mvD a b ps) [some (.tup (ps.map pD)),some (.int a),some (.int b),some (.tup (mvD a b ps)),none] (fun d hd=>by
  obtain⟨q,_,rfl⟩:=List.mem_map.mp hd
  exact iG _) _ _ _ _ _ rfl
 have hf:jO (vK (qA 3)) (gNm 4) (x9 (qD 1 (zJ c) (q9 (qA 4) (qB)))) [some (.tup (ps.map pD)),some (.int a),some (.int b),some (.tup (mvD a b ps)),none] S=wL (gNm 4) (x9 (qD 1 (zJ c) (q9 (qA 4) (qB)))) (mvD a b ps) [some (.tup (ps.map pD)),some (.int a),some (.int b),some (.tup (mvD a b ps)),none] S:=rfl
 cases hb:(mvD a b ps).all qX with
 |true =>
  obtain⟨e4,e⟩:=l1 hb
  rw[v6 (hf.trans e)]
  rfl
 |false =>
  obtain⟨env',e⟩:=l2 hb
  rw[MQ (hf.trans e)]
  rfl
end _K
end
section
namespace _K
open PySem _D
def tuP (q:Pt):Pt:=(-q.2,q.1)
def miP (q:Pt):Pt:=(q.2,q.1)
theorem T0 (a b:Pt)(h:tuP a=tuP b):a=b:=by
 have h1 : -a.2 = -b.2:=congrArg Prod.fst h
 have h2:a.1=b.1:=congrArg Prod.snd h
 exact Prod.ext h2 (by omega)
theorem BM (a b:Pt)(h:miP a=miP b):a=b:=by
 have h1:a.2=b.2:=congrArg Prod.fst h
 have h2:a.1=b.1:=congrArg Prod.snd h
 exact Prod.ext h2 h1
def ngP (q:Pt):Pt:=(0-q.1,0-q.2)
def bkP (k:List Int):Pt:=(k.getD 0 0,k.getD 1 0)
theorem TM (q:Pt):bkP (kP q)=q:=rfl
def Bd (q:Pt):Prop:=(-1000≤q.1∧q.1≤1000)∧(-1000≤q.2∧q.2≤1000)
theorem rQ (f:Pt→Pt)(hf:∀ a b,f a=f b→a=b)(hb:∀ q,Bd q→Bd (f q)){ps:List Pt}(h:Lt ps):∃ qs:List Pt,Lt qs∧qs.Perm (ps.map f)∧(_S.wY _H.lexLt ((ps.map f).map kP)).map tpD=qs.map pD:=by
 have pm:=_S.yG (lt':=_H.lexLt) ((ps.map f).map kP)
 have ek:((_S.wY _H.lexLt ((ps.map f).map kP)).map bkP).map kP=_S.wY _H.lexLt ((ps.map f).map kP):=by
  rw[List.map_map]
  refine(List.map_congr_left fun k hk=>?_).trans (List.map_id _)
  obtain⟨q,_,rfl⟩:=List.mem_map.mp (pm.mem_iff.mp hk)
  rfl
 have pq:((_S.wY _H.lexLt ((ps.map f).map kP)).map bkP).Perm (ps.map f):=by
  have:=pm.map bkP
  rwa [List.map_map (f:=kP),show (bkP∘kP)=id from funext TM,List.map_id] at this
 have nd:(ps.map f).Nodup:=by
  unfold List.Nodup
  rw[List.pairwise_map]
  exact h.nd.imp fun {a b} hab e=>hab (hf a b e)
 refine⟨_,iA ?_ ?_ ?_ ?_,pq,?_⟩
 ·rw[List.all_map,List.all_eq_true]
  intro q hq
  obtain⟨p,hp,rfl⟩:=List.mem_map.mp (pq.mem_iff.mp hq)
  exact kH (hb p (h.bd hp))
 ·rw[pq.length_eq,List.length_map];exact h.ne
 ·rw[pq.length_eq,List.length_map];exact h.le
 ·rw[ek]
  refine _S.lI _S.uS (_S.bI _S.uS _) (pm.nodup_iff.mpr ?_)
  unfold List.Nodup
  rw[List.pairwise_map]
  exact nd.imp fun {a b} hab e=>hab (sQ e)
 ·rw[uK,ek]
theorem WS (f:Pt→Pt)(ps:List Pt)(h:Lt ps)(S:Sto):wV [.lst ((ps.map f).map pD)] S=.ok (.lst ((_S.wY _H.lexLt ((ps.map f).map kP)).map tpD)) S:=by
 have e:=Y0 (ps.map f) (by rw[List.length_map];have:=h.le;omega) (by intro z;have hn:=h.ne;rw[List.map_eq_nil_iff] at z;subst z;simp at hn)
 show (match (some ((ps.map f).map pD)).bind j8 with|some ys=>Res.ok (D.lst ys) S|none=>.bad)=_
 rw[Option.bind_some,e]
theorem iL (f:Pt→Pt)(ps:List Pt)(h:Lt ps)(fe:DE)(i:Nat)(env:qC)(S:Sto)(h0:env[i]? = some (some (.tup (ps.map pD))))(hfe:∀ q:Pt,fe [some (.int q.1),some (.int q.2)] S=.ok (pD (f q)) S) :
  qH wR (q9 (qH wV (q9 (qO false [none,none] (dIt (qA i)) (gTp 2 (qF (gNm 0) (qF (gNm 1) (qY)))) (qU) (qP fe)) (qB))) (qB)) env S=.ok (.tup ((_S.wY _H.lexLt ((ps.map f).map kP)).map tpD)) S:=by
 have hc:=kX (cap:=[none,none]) (fe:=fe) ps (fun q=>pD (f q)) [] (pH ps env i S h0) (by have:=h.le;unfold lim;omega) ⟨none,none,rfl⟩ fun q _=>hfe q
 have e:(ps.map fun q=>pD (f q))=(ps.map f).map pD:=by rw[List.map_map];rfl
 rw[e] at hc
 exact(xW ((xW hc).trans (WS f ps h S))).trans rfl
theorem TL (q:Pt)(h:Bd q):Bd (tuP q):=by unfold Bd tuP at *;dsimp only;omega
theorem TH (q:Pt)(h:Bd q):Bd (miP q):=by unfold Bd miP at *;dsimp only;omega
theorem TJ (q:Pt)(h:Bd q):Bd (ngP q):=by unfold Bd ngP at *;dsimp only;omega
theorem BR (a b:Pt)(h:ngP a=ngP b):a=b:=by
 have h1:0-a.1=0-b.1:=congrArg Prod.fst h
 have h2:0-a.2=0-b.2:=congrArg Prod.snd h
 exact Prod.ext (by omega) (by omega)
theorem fO (c:Cl)(ps:List Pt)(h:Lt ps):∃ qs:List Pt,Lt qs∧qs.Perm (ps.map tuP)∧∀ S,xG c [.tup (ps.map pD)] S=.ok (.tup (qs.map pD)) S:=by
 obtain⟨qs,hq,pq,e⟩:=rQ tuP T0 TL h
 refine⟨qs,hq,pq,fun S=>?_⟩
 rw[uV]
 show uT (yO c [some (.tup (ps.map pD))] S)=_
 unfold yO
 have n1:=j7 c _ S h.pn
 rw[h.lot,if_pos rfl] at n1
 rw[v6 (yS (i:=0) rfl n1)]
 unfold zA
 rw[iL tuP ps h _ 0 [some (.tup (ps.map pD))] S rfl fun q=>xQ (xI (a:=.int (-q.2)) rfl rfl) (by show 2≤lim;decide),e]
 rfl
theorem mU (c:Cl)(ps:List Pt)(h:Lt ps):∃ qs:List Pt,Lt qs∧qs.Perm (ps.map miP)∧∀ S,yL c [.tup (ps.map pD)] S=.ok (.tup (qs.map pD)) S:=by
 obtain⟨qs,hq,pq,e⟩:=rQ miP BM TH h
 refine⟨qs,hq,pq,fun S=>?_⟩
 rw[gW]
 show uT (j0 c [some (.tup (ps.map pD))] S)=_
 unfold j0
 have n1:=j7 c _ S h.pn
 rw[h.lot,if_pos rfl] at n1
 rw[v6 (yS (i:=0) rfl n1)]
 unfold zA
 rw[iL miP ps h _ 0 [some (.tup (ps.map pD))] S rfl fun q=>xQ (xI rfl rfl) (by show 2≤lim;decide),e]
 rfl
end _K
end
section
namespace _K
open PySem _D
def far (p q:Pt):Int:=(p.1-q.1)*(p.1-q.1)+(p.2-q.2)*(p.2-q.2)
def bX (p:Pt):Prop:=-2000≤p.1∧p.1≤2000 ∧ -2000≤p.2∧p.2≤2000
theorem oU (p:Pt)(S:Sto):gIx (pD p) (.int 0) S=.ok (.int p.1) S:=rfl
theorem oV (p:Pt)(S:Sto):gIx (pD p) (.int 1) S=.ok (.int p.2) S:=rfl
theorem V6 (p q:Pt)(S:Sto)(hp:bX p)(hq:bX q):wO [pD p,pD q] S=.ok (.int (far p q)) S:=by
 obtain⟨a1,a2,a3,a4⟩:=hp
 obtain⟨b1,b2,b3,b4⟩:=hq
 have m1:=vI (p.1-q.1) (p.1-q.1) S ⟨by omega,by omega⟩
 have m2:=vI (p.2-q.2) (p.2-q.2) S ⟨by omega,by omega⟩
 rw[jD]
 unfold uO
 simp[qV,vR,JD,RC,RB,qT,sIf,zA,zO,x9,zE,gNm,gSb,gTp,qF,qY,nN,SJ,RN,D8,dC,qA,d1,d2,q9,qB,qH,qD,dTr,xR,yW,qU,fB,ZY,dIf,wQ,zP,uP,dD,dBm,dSl,zV,xZ,vK,uQ,Res.bind,Res.toS,_D.k8,_D.vP,RF,RD,T4,RO,RH,RI,RJ,RG,RA,R9,RE,gLt,gLe,gGt,gGe,_D.zK,RM,oU,oV,m1,m2,xC,far]
theorem ZU (xs:List D)(i:Nat):w5 xs (some ((i:Int)+1)) none=xs.drop (i+1):=by
 unfold w5
 have e1:_H.sIx xs.length 0 (some ((i:Int)+1))=min (i+1) xs.length:=by
  have:((i:Int)+1)=((i+1:Nat):Int):=by omega
  rw[this,_H.sIx_nat]
 rw[e1,_H.sIx_none]
 by_cases h:i+1≤xs.length
 ·rw[Nat.min_eq_left h,List.take_of_length_le (by simp)]
 ·have:xs.drop (i+1)=[]:=List.drop_eq_nil_of_le (by omega)
  rw[this,Nat.min_eq_right (by omega)]
  simp
def eL:Nat→List D→List D
 |_,[]=>[]
 |k,x::xs=>D.tup [.int (k:Int),x]::eL (k+1) xs
theorem XE (xs:List D):v7 xs=eL 0 xs:=by
 have key:∀ (xs:List D) (k:Nat),(xs.mapIdx fun i x=>D.tup [.int ((i+k:Nat):Int),x])=eL k xs:=by
  intro xs
  induction xs with
  |nil=>intro k;rfl
  |cons x xs ih =>
   intro k
   rw[List.mapIdx_cons]
   show _::_=D.tup [.int (k:Int),x]::eL (k+1) xs
   congr 1
   ·simp
   ·rw[← ih (k+1)]
    congr 1
    funext i y
    congr 4
    omega
 have:=key xs 0
 simpa [v7] using this
def wX:List Pt→List (Pt × Pt)
 |[]=>[]
 |p::ps=>ps.map (fun q=>(p,q))++wX ps
def zD (x:Pt × Pt):Int:=far x.1 x.2
def fars (l:List Pt):List Int:=(wX l).map zD
def prD (x:Pt × Pt):D:=.tup [pD x.1,pD x.2]
structure GI (n:Nat)(prs:List (Pt × Pt))(kvs:List (_L.Key × D))(S:Sto):Prop where
 dict:S[n]? = some (.dct kvs)
 lists:∀ kv∈kvs,∃ (f:Int) (j:Nat),kv=(.inl f,.loc j)∧n<j∧S[j]? = some (.lst ((prs.filter fun x=>zD x == f).map prD))
 nd:(kvs.map (·.2)).Nodup
 keys:kvs.map (·.1)=((prs.map zD).foldl PyProof.Rows.step_dedup []).map Sum.inl
set_option tactic.hygienic true in
theorem Y2 {l:List Int}{k x:Int}:x∈PyProof.Rows.step_dedup l k↔x∈l∨x=k:=by
 unfold PyProof.Rows.step_dedup
 split
 ·rename_i h
  simp at h
  constructor
  ·exact fun z=>.inl z
  ·rintro (z|rfl)
   ·exact z
   ·exact h
 ·simp
theorem KC {l:List Int}{k:Int}(h:k∈l):PyProof.Rows.step_dedup l k=l:=by
 unfold PyProof.Rows.step_dedup
 rw[if_pos (by simpa using h)]
theorem Y3 {l:List Int}{k:Int}(h:k ∉ l):PyProof.Rows.step_dedup l k=l++[k]:=by
 unfold PyProof.Rows.step_dedup
 rw[if_neg (by simpa using h)]
theorem fF {ks:List Int}:∀ {l:List Int} {x:Int},x∈ks.foldl PyProof.Rows.step_dedup l↔x∈l∨x∈ks:=by
 induction ks with
 |nil=>intro l x;simp
 |cons k ks ih =>
  intro l x
  rw[List.foldl_cons,ih,Y2,List.mem_cons]
  constructor
  ·rintro ((h|h)|h)
   ·exact .inl h
   ·exact .inr (.inl h)
   ·exact .inr (.inr h)
  ·rintro (h|h|h)
   ·exact .inl (.inl h)
   ·exact .inl (.inr h)
   ·exact .inr h
theorem sJ {ks:List Int}:∀ {l:List Int},(ks.foldl PyProof.Rows.step_dedup l).length≤l.length+ks.length:=by
 induction ks with
 |nil=>intro l;simp
 |cons k ks ih =>
  intro l
  rw[List.foldl_cons]
  have h1:=ih (l:=PyProof.Rows.step_dedup l k)
  have h2:(PyProof.Rows.step_dedup l k).length≤l.length+1:=by
   unfold PyProof.Rows.step_dedup
   split <;> simp
  rw[List.length_cons]
  omega
theorem Y9 {kvs:List (_L.Key × D)}{k:_L.Key}{d:D}(h:wZ kvs k=some d):(k,d)∈kvs:=by
 unfold wZ at h
 obtain⟨kv,h1,rfl⟩:=Option.map_eq_some_iff.mp h
 have h2:=List.find?_some h1
 have h3:=List.mem_of_find?_eq_some h1
 have h4:kv.1=k:=by simpa using h2
 subst h4
 exact h3
theorem Y8 {kvs:List (_L.Key × D)}{k:_L.Key}(h:wZ kvs k=none):∀ kv∈kvs,kv.1≠k:=by
 unfold wZ at h
 have h1:=Option.map_eq_none_iff.mp h
 intro kv hk e
 have:=List.find?_eq_none.mp h1 kv hk
 simp[e] at this
theorem V9 {n:Nat}{kvs:List (_L.Key × D)}{S:Sto}{i x:D}{k:_L.Key}(hd:S[n]? = some (.dct kvs))(hk:vW i=some k):wC (.loc n) [i,x] S=(match wZ kvs k with|some d=>.ok d S|none=>if kvs.length<lim then .ok x (S.set n (.dct (vC kvs k x))) else .bad):=by
 show (match S[n]? with|some (.dct kvs)=>(match vW i with|some k=>(match wZ kvs k with|some d=>Res.ok d S|none=>if kvs.length<lim then .ok x (S.set n (.dct (vC kvs k x))) else .bad)|none=>.bad)|_=>.bad)=_
 rw[hd,hk]
theorem K8 {n:Nat}{kvs:List (_L.Key × D)}{S:Sto}{i x d:D}{k:_L.Key}(hd:S[n]? = some (.dct kvs))(hk:vW i=some k)(hv:wZ kvs k=some d):wC (.loc n) [i,x] S=.ok d S:=by
 rw[V9 hd hk,hv]
theorem K7 {n:Nat}{kvs:List (_L.Key × D)}{S:Sto}{i x:D}{k:_L.Key}(hd:S[n]? = some (.dct kvs))(hk:vW i=some k)(hv:wZ kvs k=none)(hl:kvs.length<lim):wC (.loc n) [i,x] S=.ok x (S.set n (.dct (vC kvs k x))):=by
 rw[V9 hd hk,hv]
 exact if_pos hl
theorem QF {β γ:Type}{l:List β}{f:β→γ}(nd:(l.map f).Nodup){x y:β}(hx:x∈l)(hy:y∈l)(e:f x=f y):x=y:=by
 obtain⟨a,ha,rfl⟩:=List.mem_iff_getElem.mp hx
 obtain⟨b,hb,rfl⟩:=List.mem_iff_getElem.mp hy
 have:a=b:=(List.getElem_inj nd (h₀:=by simpa using ha) (h₁:=by simpa using hb)).mp (by simpa using e)
 subst this
 rfl
set_option tactic.hygienic true in
theorem eS:∀ (ks l:List Int),l.Nodup→(ks.foldl PyProof.Rows.step_dedup l).Nodup:=by
 intro ks
 induction ks with
 |nil=>exact fun l h=>h
 |cons k ks ih =>
  intro l h
  rw[List.foldl_cons]
  apply ih
  unfold PyProof.Rows.step_dedup
  split
  ·exact h
  ·rename_i hn
   rw[List.nodup_append]
   refine⟨h,by simp,?_⟩
   intro a ha b hb hab
   simp at hb hn
   subst hb;subst hab
   exact hn ha
theorem UO {kvs:List (_L.Key × D)}{ks:List Int}(h:kvs.map (·.1)=(ks.foldl PyProof.Rows.step_dedup []).map Sum.inl):(kvs.map (·.1)).Nodup:=by
 rw[h,List.Nodup,List.pairwise_map]
 exact(eS ks [] List.nodup_nil).imp fun hne e=>hne (Sum.inl.inj e)
theorem UF {n:Nat}{prs:List (Pt × Pt)}{kvs:List (_L.Key × D)}{S:Sto}(I:GI n prs kvs S)(x:Pt × Pt)(hl:prs.length<4000) :
  ∃ (j:Nat) (S1 S2:Sto) (kvs':List (_L.Key × D)),wC (.loc n) [.int (zD x),.loc S.length] (S++[.lst []]) = .ok (.loc j) S1∧tyD (.loc j) S1=some "list" ∧ yT (.loc j) [prD x] S1=.ok .non S2∧GI n (prs++[x]) kvs' S2∧∀ m,m<n→S2[m]? = S[m]?:=by
 have hnS:n<S.length:=(List.getElem?_eq_some_iff.mp I.dict).1
 have hd:(S++[MO.lst []])[n]? = some (.dct kvs):=by rw[List.getElem?_append_left hnS];exact I.dict
 have hkl:kvs.length≤prs.length:=by
  have h1:kvs.length=(kvs.map (·.1)).length:=by simp
  rw[h1,I.keys,List.length_map]
  have:=sJ (ks:=prs.map zD) (l:=[])
  simpa using this
 have hlim:kvs.length<lim:=by unfold lim;omega
 have jlt:∀ {f:Int} {j:Nat},((Sum.inl f:_L.Key),D.loc j)∈kvs→n<j∧j<S.length∧S[j]? = some (.lst ((prs.filter fun x=>zD x == f).map prD)):=by
  intro f j hm
  obtain⟨f',j',e,h1,h2⟩:=I.lists _ hm
  cases e
  exact⟨h1,(List.getElem?_eq_some_iff.mp h2).1,h2⟩
 cases hv:wZ kvs (.inl (zD x)) with
 |some d =>
  have hm:=Y9 hv
  obtain⟨f,j,e,h1,h2⟩:=I.lists _ hm
  have e1:f=zD x:=by
   have:=congrArg Prod.fst e
   exact(Sum.inl.inj this).symm
  have e2:d=.loc j:=congrArg Prod.snd e
  subst e1;subst e2
  have hjS:=(List.getElem?_eq_some_iff.mp h2).1
  have h2':(S++[MO.lst []])[j]? = some (.lst ((prs.filter fun y=>zD y == zD x).map prD)):=by rw[List.getElem?_append_left hjS];exact h2
  have hll:((prs.filter fun y=>zD y == zD x).map prD).length<lim:=by
   rw[List.length_map]
   have:=List.length_filter_le (fun y=>zD y == zD x) prs
   unfold lim
   omega
  refine⟨j,S++[MO.lst []],(S++[MO.lst []]).set j (.lst ((prs.filter fun y=>zD y == zD x).map prD++[prD x])),kvs,?_,?_,?_,⟨?_,?_,I.nd,?_⟩,?_⟩
  ·exact K8 hd rfl hv
  ·exact VD h2'
  ·exact iX h2' hll _
  ·rw[List.getElem?_set_ne (by omega)];exact hd
  ·intro kv hk
   obtain⟨f',j',rfl,h3,h4⟩:=I.lists kv hk
   refine⟨f',j',rfl,h3,?_⟩
   have hj':=(List.getElem?_eq_some_iff.mp h4).1
   by_cases hjj:j=j'
   ·subst hjj
    have hff:f'=zD x:=Sum.inl.inj (congrArg Prod.fst (QF (f:=(·.2)) I.nd hk hm rfl))
    subst hff
    rw[List.getElem?_set_self (by simp;omega)]
    rw[List.filter_append]
    simp
   ·rw[List.getElem?_set_ne hjj,List.getElem?_append_left hj',h4]
    have hne:(zD x == f')=false:=by
     rw[beq_eq_false_iff_ne]
     rintro rfl
     exact hjj (D.loc.inj (congrArg Prod.snd (QF (f:=(·.1)) (UO I.keys) hm hk rfl)))
    rw[List.filter_append]
    simp[hne]
  ·rw[List.map_append,List.foldl_append]
   show _=(PyProof.Rows.step_dedup ((prs.map zD).foldl PyProof.Rows.step_dedup []) (zD x)).map Sum.inl
   have hin:zD x∈(prs.map zD).foldl PyProof.Rows.step_dedup []:=by
    have:(Sum.inl (zD x):_L.Key)∈kvs.map (·.1):=List.mem_map.mpr ⟨_,hm,rfl⟩
    rw[I.keys] at this
    obtain⟨y,hy,e⟩:=List.mem_map.mp this
    cases e
    exact hy
   rw[KC hin]
   exact I.keys
  ·intro m hm
   rw[List.getElem?_set_ne (by omega),List.getElem?_append_left (by omega)]
 |none =>
  have hno:=Y8 hv
  have hput:vC kvs (.inl (zD x)) (.loc S.length)=kvs++[(.inl (zD x),.loc S.length)]:=by
   unfold vC
   rw[if_neg]
   rw[List.any_eq_true]
   rintro⟨kv,hk,e⟩
   exact hno kv hk (by simpa using e)
  have hfn:zD x ∉ prs.map zD:=by
   intro hin
   have:(Sum.inl (zD x):_L.Key)∈kvs.map (·.1):=by
    rw[I.keys]
    exact List.mem_map.mpr ⟨_,fF.mpr (.inr hin),rfl⟩
   obtain⟨kv,hk,e⟩:=List.mem_map.mp this
   exact hno kv hk e
  have hS1:((S++[MO.lst []]).set n (.dct (kvs++[(Sum.inl (zD x),.loc S.length)])))[S.length]? = some (.lst []):=by
   rw[List.getElem?_set_ne (by omega)]
   simp
  refine⟨S.length,(S++[MO.lst []]).set n (.dct (kvs++[(.inl (zD x),.loc S.length)])),((S++[MO.lst []]).set n (.dct (kvs++[(.inl (zD x),.loc S.length)]))).set S.length (.lst [prD x]),kvs++[(.inl (zD x),.loc S.length)],?_,?_,?_,⟨?_,?_,?_,?_⟩,?_⟩
  ·rw[← hput]
   exact K7 hd rfl hv hlim
  ·exact VD hS1
  ·have:(0:Nat)<lim:=by decide
   exact iX hS1 this _
  ·rw[List.getElem?_set_ne (by omega),List.getElem?_set_self (by simp;omega)]
  ·intro kv hk
   rcases List.mem_append.mp hk with hk|hk
   ·obtain⟨f',j',rfl,h3,h4⟩:=I.lists kv hk
    have hj':=(List.getElem?_eq_some_iff.mp h4).1
    refine⟨f',j',rfl,h3,?_⟩
    rw[List.getElem?_set_ne (by omega),List.getElem?_set_ne (by omega),List.getElem?_append_left hj',h4]
    have hne:(zD x == f')=false:=by
     rw[beq_eq_false_iff_ne]
     intro e
     exact hno _ hk (by rw[e])
    rw[List.filter_append]
    simp[hne]
   ·have:kv=(.inl (zD x),.loc S.length):=by simpa using hk
    subst this
    refine⟨zD x,S.length,rfl,hnS,?_⟩
    rw[List.getElem?_set_self (by simp)]
    have:(prs.filter fun y=>zD y == zD x)=[]:=by
     rw[List.filter_eq_nil_iff]
     intro y hy e
     exact hfn (by rw[← (by simpa using e:zD y=zD x)];exact List.mem_map.mpr ⟨y,hy,rfl⟩)
    rw[List.filter_append,this]
    simp
  ·rw[List.map_append,List.nodup_append]
   refine⟨I.nd,by simp,?_⟩
   intro a ha b hb hab
   simp at hb
   subst hb
   subst hab
   obtain⟨kv,hk,e⟩:=List.mem_map.mp ha
   obtain⟨f',j',rfl,h3,h4⟩:=I.lists kv hk
   have hj':=(List.getElem?_eq_some_iff.mp h4).1
   have:j'=S.length:=D.loc.inj e
   omega
  ·rw[List.map_append,I.keys,List.map_append,List.foldl_append]
   show _=(PyProof.Rows.step_dedup ((prs.map zD).foldl PyProof.Rows.step_dedup []) (zD x)).map Sum.inl
   have hin:zD x ∉ (prs.map zD).foldl PyProof.Rows.step_dedup []:=by
    intro h
    rcases fF.mp h with h|h
    ·simp at h
    ·exact hfn h
   rw[Y3 hin,List.map_append]
   rfl
  ·intro m hm
   rw[List.getElem?_set_ne (by omega),List.getElem?_set_ne (by omega),List.getElem?_append_left (by omega)]
theorem ZK (l:List Pt):(wX l).length≤l.length*l.length:=by
 induction l with
 |nil=>simp[wX]
 |cons p l ih =>
  have e:(p::l).length*(p::l).length=l.length*l.length+l.length+l.length+1:=by
   simp only[List.length_cons,Nat.add_mul,Nat.mul_add]
   omega
  rw[e]
  simp only[wX,List.length_append,List.length_map]
  omega
theorem FN {S S':Sto}(h:∀ m,m<S.length→S'[m]? = S[m]?):S<+:S':=by
 rw[List.prefix_iff_getElem?]
 intro i hi
 rw[h i hi,List.getElem?_eq_getElem hi]
theorem YW {l:List Pt}(h:l.length≤41):(wX l).length<4000:=by
 have h1:=ZK l
 have h2:l.length*l.length≤41*41:=Nat.mul_le_mul h h
 omega
inductive IvG1 (l:List Pt)(S:Sto)(ds:List D)(env:qC)(S':Sto):Prop
 |mk (i:Nat) (e2 e3 e4:Option D) (done:List (Pt × Pt)) (kvs:List (_L.Key × D)) (h_0:env=[some (.tup (l.map pD)),some (.loc S.length),e2,e3,e4]) (h_1:ds=eL i ((l.drop i).map pD)) (h_2:GI S.length done kvs S') (h_3:done++wX (l.drop i)=wX l) (h_4:∀ m,m<S.length→S'[m]? = S[m]?):IvG1 l S ds env S'
inductive IvG2 (l:List Pt)(S:Sto)(i:Nat)(p:Pt)(rest:List Pt)(ds:List D)(env:qC)(S':Sto):Prop
 |mk (r:List Pt) (e4:Option D) (done:List (Pt × Pt)) (kvs:List (_L.Key × D)) (h_0:env=[some (.tup (l.map pD)),some (.loc S.length),some (.int (i:Int)),some (pD p),e4]) (h_1:ds=r.map pD) (h_2:(∀ q∈r,q∈l)) (h_3:GI S.length done kvs S') (h_4:done++(r.map (fun q=>(p,q))++wX rest)=wX l) (h_5:∀ m,m<S.length→S'[m]? = S[m]?):IvG2 l S i p rest ds env S'
theorem K3 (l:List Pt)(S:Sto)(hok:∀ p∈l,bX p)(hl:l.length≤41):∃ (kvs:List (_L.Key × D)) (S':Sto),wB [.tup (l.map pD)] S=.ok (.loc S.length) S'∧GI S.length (wX l) kvs S'∧∀ m,m<S.length→S'[m]? = S[m]?:=by
 have key:Rt (yN [some (.tup (l.map pD)),none,none,none,none] S) fun d S'=>d=.loc S.length∧∃ kvs,GI S.length (wX l) kvs S'∧∀ m,m<S.length→S'[m]? = S[m]?:=by
  unfold yN
  refine xF (yE (xD rfl ?_))
  refine xF (mK (ds:=v7 (l.map pD)) (S1:=S++[.dct []]) rfl ?_)
  refine kJ (IvG1 l S) ?_ ?_ ?_
  ·rintro d ds env S' ⟨i,e2,e3,e4,done,kvs,rfl,hds,G,hall,hpre⟩
   cases hdr:l.drop i with
   |nil=>rw[hdr] at hds;cases hds
   |cons p rest =>
    rw[hdr] at hds hall
    simp only[List.map_cons,eL] at hds
    injection hds with h1 h2
    subst h1 h2
    have hrest:l.drop (i+1)=rest:=by
     have:=congrArg List.tail hdr
     simpa [List.tail_drop] using this
    have hmem:∀ q∈p::rest,q∈l:=fun q hq=>List.mem_of_mem_drop (hdr▸hq)
    refine⟨[some (.tup (l.map pD)),some (.loc S.length),some (.int (i:Int)),some (pD p),e4],S',rfl,?_⟩
    have hsl:vK (dSl (qA 0) (zV (d2 qZ (qA 2) (dC (.int 1)))) (xZ)) [some (.tup (l.map pD)),some (.loc S.length),some (.int (i:Int)),some (pD p),e4] S'=.ok (rest.map pD) S':=by
     have e1:gSl (.tup (l.map pD)) (some ((i:Int)+1)) none S'=.ok (.tup (rest.map pD)) S':=by
      show Res.ok (D.tup (w5 (l.map pD) (some ((i:Int)+1)) none)) S'=_
      rw[ZU,← List.map_drop,hrest]
     simp[qV,vR,JD,RC,RB,qT,sIf,zA,zO,x9,zE,gNm,gSb,gTp,qF,qY,nN,SJ,RN,D8,dC,qA,d1,d2,q9,qB,qH,qD,dTr,xR,yW,qU,fB,ZY,dIf,wQ,zP,uP,dD,dBm,dSl,zV,xZ,vK,uQ,Res.bind,Res.toS,_D.k8,_D.vP,RF,RD,T4,RO,RH,RI,RJ,RG,RA,R9,RE,gLt,gLe,gGt,gGe,_D.zK,RM,xC,e1]
    refine mK hsl ?_
    refine kJ (IvG2 l S i p rest) ?_ ?_ ?_
    ·rintro d ds env S' ⟨r,e4,done,kvs,rfl,hds,hr,G,hall,hpre⟩
     cases r with
     |nil=>cases hds
     |cons q r =>
      injection hds with h1 h2
      subst h1 h2
      have hdl:done.length<4000:=by
       have:=congrArg List.length hall
       have h3:=YW hl
       simp only[List.length_append] at this
       omega
      obtain⟨j,S1,S2,kvs',f1,f2,f3,G',hp'⟩:=UF G (p,q) hdl
      refine⟨[some (.tup (l.map pD)),some (.loc S.length),some (.int (i:Int)),some (pD p),some (pD q)],S',rfl,?_⟩
      refine J8 ?_
      have hfar:=V6 p q S' (hok p (hmem p (List.mem_cons_self ..))) (hok q (hr q (List.mem_cons_self ..)))
      have hty:tyD (.loc S.length) S'=some "dict":=ZB G.dict
      have l2:2≤lim:=by decide
      have l0:0≤lim:=by decide
      have f1':wC (.loc S.length) [.int (far p q),.loc S'.length] (S'++[MO.lst []]) = .ok (.loc j) S1:=f1
      have f3':yT (.loc j) [.tup [pD p,pD q]] S1=.ok .non S2:=f3
      refine xD (d:=.non) (S:=S2) ?_ ?_
      ·simp[qV,vR,JD,RC,RB,qT,sIf,zA,zO,x9,zE,gNm,gSb,gTp,qF,qY,nN,SJ,RN,D8,dC,qA,d1,d2,q9,qB,qH,qD,dTr,xR,yW,qU,fB,ZY,dIf,wQ,zP,uP,dD,dBm,dSl,zV,xZ,vK,uQ,Res.bind,Res.toS,_D.k8,_D.vP,RF,RD,T4,RO,RH,RI,RJ,RG,RA,R9,RE,gLt,gLe,gGt,gGe,_D.zK,RM,hfar,hty,l2,l0,f1',f2,f3']
      ·refine⟨r,_,done++[(p,q)],kvs',rfl,rfl,fun q' hq=>hr q' (List.mem_cons_of_mem _ hq),G',?_,fun m hm=>(hp' m hm).trans (hpre m hm)⟩
       rw[← hall]
       simp
    ·rintro env S' ⟨r,e4,done,kvs,rfl,hds,hr,G,hall,hpre⟩
     cases r with
     |cons _ _=>cases hds
     |nil =>
      refine⟨i+1,_,_,_,done,kvs,rfl,?_,G,?_,hpre⟩
      ·rw[hrest]
      ·rw[hrest];simpa using hall
    ·exact⟨rest,e4,done,kvs,rfl,rfl,fun q hq=>hmem q (List.mem_cons_of_mem _ hq),G,by simpa [wX] using hall,hpre⟩
  ·rintro env S' ⟨i,e2,e3,e4,done,kvs,rfl,hds,G,hall,hpre⟩
   refine v3 (xD rfl ⟨rfl,kvs,?_,hpre⟩)
   cases hdr:l.drop i with
   |cons _ _=>rw[hdr] at hds;cases hds
   |nil =>
    rw[hdr] at hall
    have:done=wX l:=by simpa [wX] using hall
    rw[← this]
    exact G
  ·refine⟨0,none,none,none,[],[],rfl,?_,⟨?_,?_,List.nodup_nil,rfl⟩,rfl,?_⟩
   ·rw[XE];rfl
   ·simp
   ·intro kv hk;simp at hk
   ·intro m hm;rw[List.getElem?_append_left hm]
 obtain⟨d,S',e,rfl,kvs,G,hp⟩:=key
 exact⟨kvs,S',by rw[uU];exact pN rfl e,G,hp⟩
end _K
end
section
namespace _K
open PySem _D
def kys (fs:List Int):List Int:=fs.foldl PyProof.Rows.step_dedup []
def tbK (fs:List Int):List (List Int):=(kys fs).map fun f=>[f,(fs.count f:Int)]
def tbl (fs:List Int):List (List Int):=_S.wY _H.lexLt (tbK fs)
theorem kI {fs:List Int}{x:Int}:x∈kys fs↔x∈fs:=by
 unfold kys
 rw[fF]
 simp
theorem sS (fs:List Int):(kys fs).Nodup:=eS fs [] List.nodup_nil
theorem eA {α : Type}[DecidableEq α]{a b:List α}(ha:a.Nodup)(hb:b.Nodup)(h:∀ x,x∈a↔x∈b):a.Perm b:=by
 rw[List.perm_iff_count]
 intro x
 rw[ha.count,hb.count]
 simp only[h]
theorem Y4 {fs gs:List Int}(h:fs.Perm gs):tbl fs=tbl gs:=by
 refine _S.nF _S.uS (_S.bI _S.uS _) (_S.bI _S.uS _) ((_S.yG _).trans (List.Perm.trans ?_ (_S.yG _).symm))
 have e:tbK gs=(kys gs).map fun f=>[f,(fs.count f:Int)]:=List.map_congr_left fun f _=>by rw[h.count_eq]
 rw[e]
 exact(eA (sS fs) (sS gs) fun x=>by rw[kI,kI,h.mem_iff]).map _
theorem XN (prs:List (Pt × Pt))(f:Int):(prs.filter fun x=>zD x == f).length=(prs.map zD).count f:=by
 rw[List.count,List.countP_map,List.countP_eq_length_filter]
 rfl
theorem UW {S:Sto}{j:Nat}{xs:List D}(h:S[j]? = some (.lst xs)):zR [.loc j] S=.ok (.int xs.length) S:=by
 show (match (match S[j]? with|some (.lst xs)=>some xs.length|_=>none:Option Nat) with|some n=>Res.ok (D.int n) S|none=>.bad)=_
 rw[h]
def ctD (fs:List Int)(k:_L.Key):D:=match k with
 |.inl f=>.tup [.int f,.int (fs.count f:Int)]
 |.inr _=>.non
theorem KA (ks:List (List Int))(hl:ks.length≤100000)(he:∀ k∈ks,k≠[]):j8 (ks.map tpD)=some ((_S.wY _H.lexLt ks).map tpD):=by
 unfold j8
 cases ks with
 |nil =>
  have e1:_S.wY _S.ltI [] = []:=List.mergeSort_nil
  have e2:_S.wY _H.lexLt [] = []:=List.mergeSort_nil
  show (if ([] : List Int).length≤100000 then some ((_S.wY _S.ltI []).map D.int) else none)=_
  rw[e1,e2,if_pos (by simp)]
  rfl
 |cons k r =>
  have h0:zN ((k::r).map tpD)=none:=rfl
  rw[h0,yI]
  have h2:((k::r).all fun k=>!k.isEmpty)=true:=List.all_eq_true.mpr fun q hq=>by
   have:=he q hq
   cases q with
   |nil=>exact absurd rfl this
   |cons _ _=>rfl
  have h3:(decide ((k::r).length≤100000)&&(k::r).all fun k=>!k.isEmpty)=true:=by rw[h2,decide_eq_true hl];rfl
  show (if (decide ((k::r).length≤100000)&&(k::r).all fun k=>!k.isEmpty)=true then _ else _)=_
  rw[if_pos h3]
theorem TK {ps:List Pt}(h:Lt ps):∀ p∈ps,bX p:=fun p hp=>by
 have:=h.bd hp
 unfold bX
 omega
theorem tY (l:List Pt)(h:l.length≤41):(kys (fars l)).length≤4000:=by
 have h1:=sJ (ks:=fars l) (l:=[])
 have h2:=YW h
 have h3:(fars l).length=(wX l).length:=by unfold fars;rw[List.length_map]
 unfold kys
 simp only[List.length_nil] at h1
 omega
theorem jC (c:Cl)(ps:List Pt)(h:Lt ps)(S:Sto):∃ S',zU c [.tup (ps.map pD)] S=.ok (.lst ((tbl (fars ps)).map tpD)) S'∧S<+:S':=by
 have h41:ps.length≤41:=by have:=h.le;omega
 obtain⟨kvs,S1,e1,G,hp⟩:=K3 ps S (TK h) h41
 have hpre:S<+:S1.set S.length .dead:=FN fun m hm=>by rw[List.getElem?_set_ne (by omega)];exact hp m hm
 have hi:w8 (fZ (qD 1 wB (q9 (qA 0) (qB)))) [some (.tup (ps.map pD))] S=.ok (none,kvs.map fun p=>D.tup [kD p.1,p.2]) (S1.set S.length .dead):=by
  unfold w8 fZ
  rw[(x8 (f1:=qA 0) (env:=[some (.tup (ps.map pD))]) (S:=S) rfl).trans e1]
  simp only[Res.bind,G.dict]
  rfl
 have ek:kvs.map (·.1)=(kys (fars ps)).map Sum.inl:=G.keys
 have hkl:kvs.length≤4000:=by
  have h1:kvs.length=(kvs.map (·.1)).length:=by simp
  rw[h1,ek,List.length_map]
  exact tY ps h41
 obtain⟨env',e2⟩:=aY (S:=S1.set S.length .dead) (o:=none) (xs:=kvs) (enc:=fun p=>D.tup [kD p.1,p.2]) (g:=gTp 2 (qF (gNm 0) (qF (gNm 1) (qY)))) (t:=qU) (fe:=zP (q9 (qA 0) (q9 (qH zR (q9 (qA 1) (qB))) (qB)))) (env:=zW [none,none] [some (.tup (ps.map pD))]) trivial (fun _=>true) (fun p=>ctD (fars ps) p.1) (fun env=>∃ a b,env=[a,b]) ⟨none,none,rfl⟩ (by unfold lim;omega)
  (fun p hp env ⟨a,b,e⟩=>by
   subst e
   obtain⟨f,j,rfl,h1,h2⟩:=G.lists p hp
   have h4:(S1.set S.length MO.dead)[j]? = some (.lst (((wX ps).filter fun x=>zD x == f).map prD)):=by rw[List.getElem?_set_ne (by omega)];exact h2
   refine⟨[some (.int f),some (.loc j)],rfl,⟨_,_,rfl⟩,rfl,fun _=>?_⟩
   have h5:=UW h4
   rw[List.length_map,XN] at h5
   exact xQ (xI (a:=.int f) rfl ((xW (a:=.loc j) rfl).trans h5)) (by show 2≤lim;decide))
 have hc:=vH hi e2
 rw[yB] at hc
 have ev:(kvs.map fun p=>ctD (fars ps) p.1)=(tbK (fars ps)).map tpD:=by
  have:(kvs.map fun p=>ctD (fars ps) p.1)=(kvs.map (·.1)).map (ctD (fars ps)):=by rw[List.map_map];rfl
  rw[this,ek]
  unfold tbK
  rw[List.map_map,List.map_map]
  rfl
 rw[ev] at hc
 refine⟨_,?_,hpre⟩
 have hs:wV [.lst ((tbK (fars ps)).map tpD)] (S1.set S.length .dead)=.ok (.lst ((tbl (fars ps)).map tpD)) (S1.set S.length .dead):=by
  have e:=KA (tbK (fars ps)) (by unfold tbK;rw[List.length_map];have:=tY ps h41;omega) (fun k hk=>by
   obtain⟨f,_,rfl⟩:=List.mem_map.mp hk
   intro z;cases z)
  show (match (some ((tbK (fars ps)).map tpD)).bind j8 with|some ys=>Res.ok (D.lst ys) (S1.set S.length .dead)|none=>.bad)=_
  rw[Option.bind_some,e]
  rfl
 rw[kB]
 show uT (uA c [some (.tup (ps.map pD))] S)=_
 unfold uA
 have n1:=j7 c _ S h.pn
 rw[h.lot,if_pos rfl] at n1
 rw[v6 (yS (i:=0) rfl n1)]
 unfold zA
 rw[(xW hc).trans hs]
 rfl
end _K
end
section
namespace _K
open PySem _D
theorem tQ (a b:Pt):far a b=far b a:=by
 unfold far
 rw[← Int.neg_sub b.1 a.1,← Int.neg_sub b.2 a.2,Int.neg_mul_neg,Int.neg_mul_neg]
theorem zZ (p:Pt)(l:List Pt):fars (p::l)=l.map (far p)++fars l:=by
 unfold fars
 rw[wX,List.map_append,List.map_map]
 rfl
theorem oM {l m:List Pt}(h:l.Perm m):(fars l).Perm (fars m):=by
 induction h with
 |nil=>exact List.Perm.refl _
 |cons x h ih=>rw[zZ,zZ];exact(h.map _).append ih
 |swap x y l =>
  rw[zZ,zZ,zZ,zZ,List.map_cons,List.map_cons,tQ y x,List.cons_append,List.cons_append]
  refine List.Perm.cons _ ?_
  rw[← List.append_assoc,← List.append_assoc]
  exact List.Perm.append_right _ List.perm_append_comm
 |trans _ _ h1 h2=>exact h1.trans h2
theorem fE {g:Pt→Pt}(hg:∀ a b,far (g a) (g b)=far a b):∀ l:List Pt,fars (l.map g)=fars l
 |[]=>rfl
 |p::l=>by
  rw[List.map_cons,zZ,zZ,fE hg l,List.map_map]
  congr 1
  exact List.map_congr_left fun q _=>hg p q
theorem XL {l:List Pt}{a b:Pt}(ha:a∈l)(hb:b∈l)(ne:a≠b):far a b∈fars l:=by
 induction l with
 |nil=>simp at ha
 |cons p l ih =>
  rw[zZ,List.mem_append]
  rcases List.mem_cons.mp ha with e|ha
  ·rcases List.mem_cons.mp hb with e'|hb
   ·exact absurd (e.trans e'.symm) ne
   ·rw[e];exact .inl (List.mem_map_of_mem hb)
  ·rcases List.mem_cons.mp hb with e|hb
   ·rw[e,tQ];exact .inl (List.mem_map_of_mem ha)
   ·exact .inr (ih ha hb)
theorem XM {l m:List Pt}(h:l.Sublist m):(fars l).Sublist (fars m):=by
 induction h with
 |slnil=>exact .slnil
 |cons x h ih=>rw[zZ];exact ih.trans (List.sublist_append_right _ _)
 |cons_cons x h ih=>rw[zZ,zZ];exact(h.map _).append ih
theorem sG:∀ l:List Pt,2*(fars l).length=l.length*(l.length-1)
 |[]=>rfl
 |p::l=>by
  rw[zZ,List.length_append,List.length_map,List.length_cons,Nat.mul_add,sG l]
  cases l.length with
  |zero=>rfl
  |succ n =>
   show 2*(n+1)+(n+1)*n=(n+1+1)*(n+1)
   rw[Nat.add_mul (n+1) 1 (n+1),Nat.one_mul,Nat.mul_add (n+1) n 1,Nat.mul_one]
   omega
theorem MZ (a b:Pt):far (tuP a) (tuP b)=far a b:=by
 unfold far tuP
 dsimp only
 rw[Int.add_comm]
 congr 1
 rw[show -a.2 - -b.2 = -(a.2-b.2) by omega,Int.neg_mul_neg]
theorem BL (a b:Pt):far (miP a) (miP b)=far a b:=by
 unfold far miP
 dsimp only
 rw[Int.add_comm]
theorem MS (x y:Int)(a b:Pt):far (shP x y a) (shP x y b)=far a b:=by
 unfold far shP
 dsimp only
 rw[show a.1+x-(b.1+x)=a.1-b.1 by omega,show a.2+y-(b.2+y)=a.2-b.2 by omega]
theorem mZ {fs:List Int}{k:List Int}:k∈tbl fs↔∃ f∈fs,k=[f,(fs.count f:Int)]:=by
 unfold tbl
 rw[(_S.yG _).mem_iff]
 unfold tbK
 rw[List.mem_map]
 exact⟨fun ⟨f,h,e⟩=>⟨f,kI.mp h,e.symm⟩,fun ⟨f,h,e⟩=>⟨f,kI.mpr h,e.symm⟩⟩
theorem lS {ks:List Int}(nd:ks.Nodup):∀ fs:List Int,(∀ f∈fs,f∈ks)→(ks.map fun k=>fs.count k).sum=fs.length
 |[],_=>by
  have:∀ ks:List Int,(ks.map fun k=>([]:List Int).count k).sum=0:=fun ks=>by
   induction ks with
   |nil=>rfl
   |cons k ks ih=>rw[List.map_cons,List.sum_cons,ih];rfl
  exact this ks
 |f::fs,h=>by
  have ih:=lS nd fs fun x hx=>h x (.tail _ hx)
  have hf:=h f (.head _)
  have e:∀ ks:List Int,ks.Nodup→(ks.map fun k=>(f::fs).count k).sum=(ks.map fun k=>fs.count k).sum+if f∈ks then 1 else 0:=by
   intro ks
   induction ks with
   |nil=>intro _;simp
   |cons k ks ih =>
    intro nd
    rw[List.nodup_cons] at nd
    rw[List.map_cons,List.sum_cons,List.map_cons,List.sum_cons,ih nd.2,List.count_cons]
    by_cases q:f=k
    ·subst q
     simp only[beq_self_eq_true,if_true,List.mem_cons,true_or,nd.1,if_false]
     omega
    ·have:(f == k)=false:=by simpa using q
     simp only[this,Bool.false_eq_true,if_false,List.mem_cons,q,false_or]
     omega
  rw[e ks nd,ih,if_pos hf]
  rfl
theorem cV:∀ l:List Nat,(l.map fun n:Nat=>(n:Int)).sum=(l.sum:Int)
 |[]=>rfl
 |n::l=>by rw[List.map_cons,List.sum_cons,List.sum_cons,cV l];omega
theorem MY (fs:List Int):((tbl fs).map fun k=>k.getD 1 0).sum=(fs.length:Int):=by
 have p:((tbl fs).map fun k=>k.getD 1 0).Perm ((tbK fs).map fun k=>k.getD 1 0):=(_S.yG _).map _
 have s:∀ {a b:List Int},a.Perm b→a.sum=b.sum:=fun h=>by
  induction h with
  |nil=>rfl
  |cons x _ ih=>rw[List.sum_cons,List.sum_cons,ih]
  |swap x y l=>rw[List.sum_cons,List.sum_cons,List.sum_cons,List.sum_cons];omega
  |trans _ _ h1 h2=>rw[h1,h2]
 rw[s p]
 have e:((tbK fs).map fun k=>k.getD 1 0)=((kys fs).map fun f=>fs.count f).map fun n:Nat=>(n:Int):=by
  unfold tbK
  rw[List.map_map,List.map_map]
  rfl
 rw[e,cV,lS (sS fs) fs fun f hf=>kI.mpr hf]
theorem pP {ps:List Pt}(h:Lt ps):(tbl (fars ps)).length≤4000:=by
 unfold tbl
 rw[(_S.yG _).length_eq]
 unfold tbK
 rw[List.length_map]
 exact tY ps (by have:=h.le;omega)
def fs0 (fs:List Int):List Int:=(tbl fs).map fun k=>k.getD 0 0
theorem tR {fs:List Int}{x:Int}:x∈fs0 fs↔x∈fs:=by
 unfold fs0
 rw[List.mem_map]
 constructor
 ·rintro⟨k,hk,rfl⟩
  obtain⟨f,hf,rfl⟩:=mZ.mp hk
  exact hf
 ·intro h
  exact⟨_,mZ.mpr ⟨x,h,rfl⟩,rfl⟩
end _K
end
section
namespace _K
open PySem _D
theorem bD (ks:List (List Int)):pl zL (.tup (ks.map tpD))=true:=rF ks
theorem iC (a b:List (List Int))(S:Sto):gNe (.lst (a.map tpD)) (.lst (b.map tpD)) S=.ok (.bl (!decide (a=b))) S:=by
 unfold gNe
 rw[rF,rF,Bool.and_self,if_pos rfl]
 show Res.ok (D.bl (!zY (a.map tpD) (b.map tpD))) S=_
 rw[m7]
theorem NO (a b:List (List Int))(S:Sto):gNe (.tup (a.map tpD)) (.tup (b.map tpD)) S=.ok (.bl (!decide (a=b))) S:=by
 unfold gNe
 rw[bD,bD,Bool.and_self,if_pos rfl]
 show Res.ok (D.bl (!zY (a.map tpD) (b.map tpD))) S=_
 rw[m7]
theorem b9 (a b:List Pt)(S:Sto):gNe (.tup (a.map pD)) (.tup (b.map pD)) S=.ok (.bl (!decide (a=b))) S:=by
 rw[uK,uK,NO]
 by_cases h:a=b
 ·rw[h];simp
 ·rw[decide_eq_false h,decide_eq_false fun e=>h (sR e)]
theorem U7 (a b:List Pt)(S:Sto):gEq (.tup (a.map pD)) (.tup (b.map pD)) S=.ok (.bl (decide (a=b))) S:=by
 rw[uK,uK]
 unfold gEq
 rw[bD,bD,Bool.and_self,if_pos rfl]
 show Res.ok (D.bl (zY ((a.map kP).map tpD) ((b.map kP).map tpD))) S=_
 rw[m7]
 by_cases h:a=b
 ·rw[h];simp
 ·rw[decide_eq_false h,decide_eq_false fun e=>h (sR e)]
theorem sY (a b:Pt)(S:Sto):gNe (pD a) (pD b) S=.ok (.bl (!decide (a=b))) S:=by
 have e:eqD (pD a) (pD b)=decide (a=b):=by
  show zY ((kP a).map D.int) ((kP b).map D.int)=_
  rw[kG]
  by_cases h:a=b
  ·rw[h];simp
  ·rw[decide_eq_false h,decide_eq_false fun e=>h (sQ e)]
 show (if pl zL (pD a)&&pl zL (pD b) then Res.ok (D.bl (!eqD (pD a) (pD b))) S else .bad)=_
 rw[e]
 rfl
theorem cI (ns:List Int):(ns.map D.int).all (pl 29)=true:=by
 rw[List.all_map,List.all_eq_true]
 intro i _
 rfl
theorem YX (a b:List Int)(S:Sto):gNe (.lst (a.map D.int)) (.lst (b.map D.int)) S=.ok (.bl (!decide (a=b))) S:=by
 have h:∀ ns:List Int,pl zL (.lst (ns.map D.int))=true:=cI
 unfold gNe
 rw[h,h,Bool.and_self,if_pos rfl]
 show Res.ok (D.bl (!zY (a.map D.int) (b.map D.int))) S=_
 rw[kG]
theorem N8 (a b:List Int)(S:Sto):gEq (.lst (a.map D.int)) (.lst (b.map D.int)) S=.ok (.bl (decide (a=b))) S:=by
 have h:∀ ns:List Int,pl zL (.lst (ns.map D.int))=true:=cI
 unfold gEq
 rw[h,h,Bool.and_self,if_pos rfl]
 show Res.ok (D.bl (zY (a.map D.int) (b.map D.int))) S=_
 rw[kG]
theorem r8 (x:Int)(a:List Int)(S:Sto):vL (.int x) (.lst (a.map D.int)) S=.ok (.bl (!decide (x∈a))) S:=by
 have h:(a.map D.int).all (pl zL)=true:=by
  rw[List.all_map,List.all_eq_true]
  intro i _
  rfl
 have e:((a.map D.int).any fun y=>eqD y (.int x))=decide (x∈a):=by
  rw[Bool.eq_iff_iff,List.any_eq_true,decide_eq_true_eq]
  constructor
  ·rintro⟨y,hy,q⟩
   obtain⟨z,hz,rfl⟩:=List.mem_map.mp hy
   have:z=x:=by
    have:(z == x)=true:=q
    simpa using this
   rw[← this];exact hz
  ·intro hx
   exact⟨.int x,List.mem_map_of_mem hx,by show (x == x)=true;simp⟩
 show (match (if (a.map D.int).all (pl zL)&&pl zL (.int x) then some ((a.map D.int).any fun y=>eqD y (.int x)) else none) with|some k=>Res.ok (D.bl (!k)) S|none=>.bad)=_
 rw[h,e]
 rfl
theorem XW {xs:List D}{env:qC}{i:Nat}{S:Sto}(h:env[i]? = some (some (.lst xs))):dIt (qA i) env S=.ok (none,xs) S:=by
 unfold dIt
 rw[w4 h]
 rfl
theorem tJ {fi:DI2}{env:qC}{S0 S:Sto}{t:DT}{fe:DE}(fs:List Int)(hi:fi env S0=.ok (none,(tbl fs).map tpD) S)(hl:(tbl fs).length≤4000)(sel:Int→Int→Bool)(val:Int→Int→D)
  (ht:∀ f n,t [some (.int f),some (.int n)] S=.ok (sel f n) S) (hfe:∀ f n,fe [some (.int f),some (.int n)] S=.ok (val f n) S) :
  qO false [none,none] fi (gTp 2 (qF (gNm 0) (qF (gNm 1) (qY)))) t (qP fe) env S0=.ok (.lst (((tbl fs).filter fun k=>sel (k.getD 0 0) (k.getD 1 0)).map fun k=>val (k.getD 0 0) (k.getD 1 0))) S:=by
 obtain⟨env',e2⟩:=aY (S:=S) (o:=none) (xs:=tbl fs) (enc:=tpD) (g:=gTp 2 (qF (gNm 0) (qF (gNm 1) (qY)))) (t:=t) (fe:=fe) (env:=zW [none,none] env) trivial (fun k=>sel (k.getD 0 0) (k.getD 1 0)) (fun k=>val (k.getD 0 0) (k.getD 1 0)) (fun env=>∃ a b,env=[a,b]) ⟨_,_,rfl⟩ (by unfold lim;omega)
  (fun k hk env ⟨a,b,e⟩=>by
   subst e
   obtain⟨f,_,rfl⟩:=mZ.mp hk
   exact⟨[some (.int f),some (.int (fs.count f:Int))],rfl,⟨_,_,rfl⟩,ht _ _,fun _=>hfe _ _⟩)
 exact vH hi e2
theorem eM {fi:DI2}{env:qC}{S0 S:Sto}(fs:List Int)(hi:fi env S0=.ok (none,(tbl fs).map tpD) S)(hl:(tbl fs).length≤4000) :
  qO false [none,none] fi (gTp 2 (qF (gNm 0) (qF (gNm 1) (qY)))) qU (qP (qA 0)) env S0=.ok (.lst ((fs0 fs).map D.int)) S:=by
 rw[tJ fs hi hl (fun _ _=>true) (fun f _=>.int f) (fun _ _=>rfl) fun _ _=>rfl,yB]
 unfold fs0
 rw[List.map_map]
 rfl
theorem mS (c:Cl)(ps:List Pt)(h:Lt ps)(S:Sto):∃ S',xT c [.tup (ps.map pD)] S=.ok (.lst ((fs0 (fars ps)).map D.int)) S'∧S<+:S':=by
 obtain⟨S',e,p⟩:=jC c ps h S
 refine⟨S',?_,p⟩
 have hi:dIt (qD 1 (zU c) (q9 (qA 0) (qB))) [some (.tup (ps.map pD))] S=.ok (none,(tbl (fars ps)).map tpD) S':=by
  unfold dIt
  rw[(x8 (f1:=qA 0) (env:=[some (.tup (ps.map pD))]) (S:=S) rfl).trans e]
  rfl
 rw[nU]
 show uT (fW c [some (.tup (ps.map pD))] S)=_
 unfold fW zA
 rw[eM (fars ps) hi (pP h)]
 rfl
theorem rK (c:Cl)(p q:Pt)(hp:Bd p)(hq:Bd q)(S:Sto):wG c [pD p,pD q] S=.ok (.int (far p q)) S:=by
 have n1:=jM c (pD p) S (iG p)
 have n2:=jM c (pD q) S (iG q)
 rw[kH hp,if_pos rfl] at n1
 rw[kH hq,if_pos rfl] at n2
 rw[bO]
 show uT (kS c [some (pD p),some (pD q)] S)=_
 unfold kS
 rw[v6 (yS (i:=0) rfl n1),v6 (yS (i:=1) rfl n2)]
 unfold zA
 rw[(uC (a:=pD p) (b:=pD q) rfl rfl).trans (V6 p q S (by unfold Bd at hp;unfold bX;omega) (by unfold Bd at hq;unfold bX;omega))]
 rfl
end _K
end
section
namespace _K
open PySem _D
theorem kF {f g:DT}{env:qC}{S S1 S2:Sto}{a b:Bool}(h:f env S=.ok a S1)(k:a=true→g env S1=.ok b S2)(e:a=false→S1=S2):xY f g env S=.ok (a&&b) S2:=by
 unfold xY
 rw[h]
 cases a with
 |false=>cases e rfl;rfl
 |true=>exact k rfl
theorem gD {t:DT}{f:DS}{env:qC}{S S1:Sto}{Q:qC→Sto→Prop}(h:t env S=.ok false S1)(q:Q env S1):Nx (sIf t f zO env S) Q:=bB h (jV rfl q)
theorem kK {f g:DT}{env:qC}{S S1 S2:Sto}(h:f env S=.ok false S1)(k:g env S1=.ok false S2):yW f g env S=.ok false S2:=by
 unfold yW
 rw[h]
 exact k
theorem F5 {F:DF}{ds:List D}{S S':Sto}{d:D}(h:F ds S=.ok d S'):okO F ds S=.ok d S':=by
 unfold okO
 rw[h]
theorem MV (fs:List Int)(hl:(tbl fs).length≤4000){env:qC}{S:Sto}{i:Nat}(h:env[i]? = some (some (.lst ((tbl fs).map tpD)))) :
  qH sF (q9 (qO false [none,none] (dIt (qA i)) (gTp 2 (qF (gNm 0) (qF (gNm 1) (qY)))) (qU) (qP (qA 1))) (qB)) env S=.ok (.int (fs.length:Int)) S:=by
 have hc:=tJ (t:=qU) (fe:=qA 1) fs (XW (S:=S) h) hl (fun _ _=>true) (fun _ n=>.int n) (fun _ _=>rfl) fun _ _=>rfl
 rw[yB] at hc
 have e:((tbl fs).map fun k=>D.int (k.getD 1 0))=((tbl fs).map fun k=>k.getD 1 0).map D.int:=by rw[List.map_map];rfl
 rw[e] at hc
 rw[xW hc]
 show (match (some (((tbl fs).map fun k=>k.getD 1 0).map D.int)).bind zN with|some ns=>Res.ok (D.int ns.sum) S|none=>.bad)=_
 rw[Option.bind_some,uH]
 show Res.ok (D.int ((tbl fs).map fun k=>k.getD 1 0).sum) S=_
 rw[MY]
theorem Q3 {env:qC}{S:Sto}{i:Nat}{xs:List D}(h:env[i]? = some (some (.tup xs))):qH zR (q9 (qA i) (qB)) env S=.ok (.int (xs.length:Int)) S:=(xW (w4 h)).trans (fK xs S)
theorem UH (ps:List Pt)(hl:ps.length≤40){env:qC}{S:Sto}{i:Nat}(h:env[i]? = some (some (.tup (ps.map pD)))) :
  d2 vB (d2 xH (qH zR (q9 (qA i) (qB))) (d2 zK (qH zR (q9 (qA i) (qB))) (dC (.int 1)))) (dC (.int 2)) env S=.ok (.int ((fars ps).length:Int)) S:=by
 have h1:=Q3 (S:=S) h
 rw[List.length_map] at h1
 have h2:d2 zK (qH zR (q9 (qA i) (qB))) (dC (.int 1)) env S=.ok (.int ((ps.length:Int)-1)) S:=(qQ h1 (show dC (.int 1) env S=.ok (.int 1) S from rfl)).trans rfl
 have h3:d2 xH (qH zR (q9 (qA i) (qB))) (d2 zK (qH zR (q9 (qA i) (qB))) (dC (.int 1))) env S=.ok (.int ((ps.length:Int)*((ps.length:Int)-1))) S:=(qQ h1 h2).trans (vI _ _ S (by omega))
 refine(qQ h3 (show dC (.int 2) env S=.ok (.int 2) S from rfl)).trans ?_
 have e:(ps.length:Int)*((ps.length:Int)-1)=2*((fars ps).length:Int):=by
  have:=sG ps
  cases hn:ps.length with
  |zero=>rw[hn] at this;omega
  |succ n =>
   rw[hn] at this
   have q:((n+1:Nat):Int)-1=(n:Int):=by omega
   rw[q,← Int.natCast_mul]
   have:(n+1)*n=2*(fars ps).length:=by rw[this];rfl
   rw[this]
   omega
 show Res.ok (D.int ((ps.length:Int)*((ps.length:Int)-1)/2)) S=_
 rw[e,Int.mul_ediv_cancel_left _ (by decide)]
theorem cH (ps:List Pt)(h:Lt ps){env:qC}{S:Sto}{p i j:Nat}(hp:x5 S p)(h0:env[i]? = some (some (.loc p)))(h1:env[j]? = some (some (.tup (ps.map pD)))) :
  ∃ (q:Pt) (S':Sto),d2 gIx (qA j) (qD 2 z9 (q9 (qA i) (q9 (qH zR (q9 (qA j) (qB))) (qB)))) env S=.ok (pD q) S'∧q∈ps∧x5 S' p:=by
 have h2:=Q3 (S:=S) h1
 rw[List.length_map] at h2
 obtain⟨r,S',e,hr,hp'⟩:=yR hp (by have:=h.ne;have:=h.le;omega) h0 h2
 obtain⟨d,ed,hd⟩:=GE (ps.map pD) (r:Int) (by rw[List.length_map];omega)
 obtain⟨q,hq,rfl⟩:=List.mem_map.mp hd
 exact⟨q,S',(qQ (w4 h1) e).trans (mH ed S'),hq,hp'⟩
theorem UY (ps:List Pt)(h:Lt ps)(o:Pt){env:qC}{S:Sto}(h1:env[1]? = some (some (.tup (ps.map pD))))(h3:env[3]? = some (some (pD o))) :
  qH wR (q9 (qO false [none,some 3] (dIt (qA 1)) (gNm 0) (xY (dTr (d2 gNe (qA 0) (qA 1))) (qU)) (qP (qA 0))) (qB)) env S=.ok (.tup ((ps.filter fun q=>!decide (q=o)).map pD)) S:=by
 have hc:=tI (enc:=pD) (cap:=[none,some 3]) (g:=gNm 0) (t:=xY (dTr (d2 gNe (qA 0) (qA 1))) (qU)) (fe:=qA 0) (pH ps env 1 S h1) trivial (fun q=>!decide (q=o)) pD (fun env=>∃ a,env=[a,some (pD o)]) ⟨none,by simp[zW,h3]⟩ (by have:=h.le;unfold lim;omega)
  (fun q hq env ⟨a,e⟩=>by
   subst e
   refine⟨[some (pD q),some (pD o)],rfl,⟨_,rfl⟩,?_,fun _=>rfl⟩
   have t1:dTr (d2 gNe (qA 0) (qA 1)) [some (pD q),some (pD o)] S=.ok (!decide (q=o)) S:=zX ((qQ (a:=pD q) (b:=pD o) rfl rfl).trans (sY q o S))
   have t2:=kF (g:=qU) (b:=true) t1 (fun _=>rfl) (fun _=>rfl)
   rw[Bool.and_true] at t2
   exact t2)
 exact(xW hc).trans rfl
theorem J2 {ps:List Pt}(h:Lt ps)(o:Pt)(hne:(ps.filter fun q=>!decide (q=o))≠[]):Lt (ps.filter fun q=>!decide (q=o)):=by
 have sl:(ps.filter fun q=>!decide (q=o)).Sublist ps:=List.filter_sublist
 refine iA ?_ ?_ ?_ ?_
 ·rw[List.all_map,List.all_eq_true]
  intro q hq
  exact kH (h.bd (sl.subset hq))
 ·cases hh:(ps.filter fun q=>!decide (q=o)) with
  |nil=>exact absurd hh hne
  |cons _ _=>simp
 ·have:=sl.length_le;have:=h.le;omega
 ·exact h.up.sublist (sl.map kP)
theorem J7 (c:Cl)(ps qs:List Pt)(h:Lt ps)(hq:Lt qs)(sl:qs.Sublist ps){env:qC}{S:Sto}(h1:env[1]? = some (some (.tup (ps.map pD))))(h5:env[5]? = some (some (.tup (qs.map pD)))) :
  ∃ S',qO false [none,some 1] (dIt (qD 1 (xT c) (q9 (qA 5) (qB)))) (gNm 0) (xY (dTr (d2 vL (qA 0) (qD 1 (okO (xT c)) (q9 (qA 1) (qB))))) (qU)) (qP (qA 0)) env S=.ok (.lst []) S'∧S<+:S':=by
 obtain⟨S1,e1,p1⟩:=mS c qs hq S
 have hi:dIt (qD 1 (xT c) (q9 (qA 5) (qB))) env S=.ok (none,(fs0 (fars qs)).map D.int) S1:=by
  unfold dIt
  rw[(x8 (w4 h5)).trans e1]
  rfl
 have hlen:(fs0 (fars qs)).length≤4000:=by unfold fs0;rw[List.length_map];exact pP hq
 obtain⟨S',e,q⟩:=TQ (cap:=[none,some 1]) (g:=gNm 0) (t:=xY (dTr (d2 vL (qA 0) (qD 1 (okO (xT c)) (q9 (qA 1) (qB))))) (qU)) (fe:=qA 0) hi trivial (fun _=>false) (fun d=>d) (fun env=>∃ a,env=[a,some (.tup (ps.map pD))]) ⟨none,by simp[zW,h1]⟩ (by rw[List.length_map];unfold lim;omega)
  (fun d hd env S' ⟨a,e⟩ hpr=>by
   subst e
   obtain⟨f,hf,rfl⟩:=List.mem_map.mp hd
   obtain⟨S2,e2,p2⟩:=mS c ps h S'
   refine⟨[some (.int f),some (.tup (ps.map pD))],S2,rfl,⟨_,rfl⟩,?_,p2,fun z=>by cases z⟩
   have hm:f∈fs0 (fars ps):=tR.mpr ((XM sl).subset (tR.mp hf))
   have t1:dTr (d2 vL (qA 0) (qD 1 (okO (xT c)) (q9 (qA 1) (qB)))) [some (.int f),some (.tup (ps.map pD))] S'=.ok false S2:=by
    refine zX ((qQ (a:=.int f) rfl ((x8 (a:=.tup (ps.map pD)) rfl).trans (F5 e2))).trans ?_)
    rw[r8,decide_eq_true hm]
    rfl
   exact kF (g:=qU) (b:=true) t1 (fun z=>by cases z) (fun _=>rfl))
 refine⟨S',?_,p1.trans q⟩
 rw[e]
 simp
theorem lY (c:Cl)(S:Sto)(p:Nat)(ps:List Pt)(h:Lt ps)(hp:x5 S p):∃ S',xS c [.loc p,.tup (ps.map pD)] S=.ok (.bl true) S'∧x5 S' p:=by
 have key:Rt (xV c [some (.loc p),some (.tup (ps.map pD)),none,none,none,none] S) fun d S'=>d=.bl true∧x5 S' p:=by
  unfold xV
  obtain⟨S1,e1,q1⟩:=jC c ps h S
  have hp1:=vY hp q1
  refine xF (yE (xD ((x8 (a:=.tup (ps.map pD)) rfl).trans e1) ?_))
  simp only[List.set_cons_succ,List.set_cons_zero]
  refine xF (gD (S1:=S1) (zX ((qQ (MV (i:=2) (fars ps) (pP h) rfl) (UH (i:=1) ps h.le rfl)).trans ((tT _ _ S1).trans (by simp)))) ?_)
  obtain⟨S2,e2,q2⟩:=mS c ps h S1
  have hp2:=vY hp1 q2
  have t1:dTr (d2 gNe (qO false [none,none] (dIt (qA 2)) (gTp 2 (qF (gNm 0) (qF (gNm 1) (qY)))) (qU) (qP (qA 0))) (qD 1 (xT c) (q9 (qA 1) (qB)))) [some (.loc p),some (.tup (ps.map pD)),some (.lst ((tbl (fars ps)).map tpD)),none,none,none] S1=.ok false S2:=
   zX ((qQ (eM (S:=S1) (fars ps) (XW rfl) (pP h)) ((x8 (a:=.tup (ps.map pD)) rfl).trans e2)).trans ((YX _ _ S2).trans (by simp)))
  have t2:dTr (d2 gNe (qO false [none,none] (dIt (qA 2)) (gTp 2 (qF (gNm 0) (qF (gNm 1) (qY)))) (xY (dTr (d2 gLt (qA 1) (dC (.int 1)))) (qU)) (qP (qA 1))) (uP (qB))) [some (.loc p),some (.tup (ps.map pD)),some (.lst ((tbl (fars ps)).map tpD)),none,none,none] S2=.ok false S2:=by
   have hc:=tJ (t:=xY (dTr (d2 gLt (qA 1) (dC (.int 1)))) (qU)) (fe:=qA 1) (fars ps) (XW (i:=2) (S:=S2) (env:=[some (.loc p),some (.tup (ps.map pD)),some (.lst ((tbl (fars ps)).map tpD)),none,none,none]) rfl) (pP h) (fun _ n=>decide (n<1)) (fun _ n=>.int n) (fun f n=>by
    have t1:dTr (d2 gLt (qA 1) (dC (.int 1))) [some (.int f),some (.int n)] S2=.ok (decide (n<1)) S2:=zX ((qQ (a:=.int n) (b:=.int 1) rfl rfl).trans rfl)
    have t2:=kF (g:=qU) (b:=true) t1 (fun _=>rfl) (fun _=>rfl)
    rw[Bool.and_true] at t2
    exact t2) fun _ _=>rfl
   have hf:((tbl (fars ps)).filter fun k=>decide (k.getD 1 0<1))=[]:=by
    rw[List.filter_eq_nil_iff]
    intro k hk z
    obtain⟨f,hf,rfl⟩:=mZ.mp hk
    have:=List.count_pos_iff.mpr hf
    have z:(((fars ps).count f:Nat):Int)<1:=by simpa using z
    omega
   rw[hf] at hc
   refine zX ((qQ hc (sW (ZZ _ S2) (by simp))).trans ?_)
   exact(YX [] [] S2).trans (by simp)
  refine xF (gD (kK t1 t2) ?_)
  clear t1 t2
  obtain⟨a,S3,c3,ha,hp3⟩:=cH ps h (S:=S2) (i:=0) (j:=1) (env:=[some (.loc p),some (.tup (ps.map pD)),some (.lst ((tbl (fars ps)).map tpD)),none,none,none]) hp2 rfl rfl
  obtain⟨b,S4,c4,hb,hp4⟩:=cH ps h (S:=S3) (i:=0) (j:=1) (env:=[some (.loc p),some (.tup (ps.map pD)),some (.lst ((tbl (fars ps)).map tpD)),none,none,none]) hp3 rfl rfl
  refine xF (yU (xQ (xI c3 c4) (by show 2≤lim;decide)) (env1:=[some (.loc p),some (.tup (ps.map pD)),some (.lst ((tbl (fars ps)).map tpD)),some (pD a),some (pD b),none]) (S2:=S4) rfl ?_)
  clear c3 c4
  have f1:=rK c a b (h.bd ha) (h.bd hb)
  have f2:=rK c b a (h.bd hb) (h.bd ha)
  obtain⟨S5,hp5,t1⟩:∃ S5,x5 S5 p∧xY (dTr (d2 gNe (qA 3) (qA 4))) (dTr (d2 vL (qD 2 (wG c) (q9 (qA 3) (q9 (qA 4) (qB)))) (qD 1 (xT c) (q9 (qA 1) (qB))))) [some (.loc p),some (.tup (ps.map pD)),some (.lst ((tbl (fars ps)).map tpD)),some (pD a),some (pD b),none] S4=.ok false S5:=by
   have u1:dTr (d2 gNe (qA 3) (qA 4)) [some (.loc p),some (.tup (ps.map pD)),some (.lst ((tbl (fars ps)).map tpD)),some (pD a),some (pD b),none] S4=.ok (!decide (a=b)) S4:=zX ((qQ (a:=pD a) (b:=pD b) rfl rfl).trans (sY a b S4))
   by_cases hab:a=b
   ·refine⟨S4,hp4,?_⟩
    rw[decide_eq_true hab] at u1
    exact kF (b:=true) u1 (fun z=>by cases z) (fun _=>rfl)
   ·obtain⟨S5,e5,q5⟩:=mS c ps h S4
    refine⟨S5,vY hp4 q5,?_⟩
    rw[decide_eq_false hab] at u1
    show _=Res.ok (true&&false) S5
    refine kF (a:=true) u1 (fun _=>?_) (fun z=>by cases z)
    refine zX ((qQ ((uC (a:=pD a) (b:=pD b) rfl rfl).trans (f1 S4)) ((x8 (a:=.tup (ps.map pD)) rfl).trans e5)).trans ?_)
    rw[r8,decide_eq_true (tR.mpr (XL ha hb hab))]
    rfl
  have t2:dTr (d2 gNe (qD 2 (wG c) (q9 (qA 3) (q9 (qA 4) (qB)))) (qD 2 (wG c) (q9 (qA 4) (q9 (qA 3) (qB))))) [some (.loc p),some (.tup (ps.map pD)),some (.lst ((tbl (fars ps)).map tpD)),some (pD a),some (pD b),none] S5=.ok false S5:=
   zX ((qQ ((uC (a:=pD a) (b:=pD b) rfl rfl).trans (f1 S5)) ((uC (a:=pD b) (b:=pD a) rfl rfl).trans (f2 S5))).trans ((tT _ _ S5).trans (by rw[tQ b a];simp)))
  refine xF (gD (kK t1 t2) ?_)
  clear t1 t2
  refine xF (yE (xD (UY ps h a (S:=S5) rfl rfl) ?_))
  simp only[List.set_cons_succ,List.set_cons_zero]
  have u1:d2 gEq (qA 5) (zP (qB)) [some (.loc p),some (.tup (ps.map pD)),some (.lst ((tbl (fars ps)).map tpD)),some (pD a),some (pD b),some (.tup ((ps.filter fun q=>!decide (q=a)).map pD))] S5=.ok (.bl (decide ((ps.filter fun q=>!decide (q=a))=[]))) S5:=
   (qQ (a:=.tup ((ps.filter fun q=>!decide (q=a)).map pD)) rfl (xQ (ZZ _ S5) (by simp))).trans (U7 _ [] S5)
  refine v3 ?_
  by_cases hn:(ps.filter fun q=>!decide (q=a))=[]
  ·rw[decide_eq_true hn] at u1
   refine xD (d:=.bl true) (S:=S5) ?_ ⟨rfl,hp5⟩
   unfold dOr
   rw[u1]
   rfl
  ·rw[decide_eq_false hn] at u1
   obtain⟨S6,e6,q6⟩:=J7 c ps _ h (J2 h a hn) List.filter_sublist (S:=S5) (env:=[some (.loc p),some (.tup (ps.map pD)),some (.lst ((tbl (fars ps)).map tpD)),some (pD a),some (pD b),some (.tup ((ps.filter fun q=>!decide (q=a)).map pD))]) rfl rfl
   refine xD (d:=.bl true) (S:=S6) ?_ ⟨rfl,vY hp5 q6⟩
   unfold dOr
   rw[u1]
   exact(qQ e6 (sW (ZZ _ S6) (by simp))).trans ((N8 [] [] S6).trans (by simp))
 obtain⟨d,S',e,rfl,hp'⟩:=key
 rw[vG]
 exact⟨S',pN rfl e,hp'⟩
end _K
end
section
namespace _K
open PySem _D
theorem ZQ (ns:List Int)(hl:ns.length≤63)(env:qC)(S:Sto)(h0:env[0]? = some (some (.lst (ns.map D.int)))):∃ ms:List Int,vK (d2 qZ (uP (q9 (qD 2 wT (q9 (qA 0) (q9 (dC (.int 0)) (qB)))) (qB))) (dSl (qA 0) (zV (dC (.int 1))) (zV (dC (.int 6))))) env S=.ok (ms.map D.int) S:=by
 obtain⟨x,hx⟩:=ML ns S
 obtain⟨ms,hm,hml⟩:=VJ ns (some 1) (some 6)
 refine⟨x::ms,?_⟩
 have l1:1≤lim:=by decide
 have hs:dSl (qA 0) (zV (dC (.int 1))) (zV (dC (.int 6))) env S=.ok (.lst (ms.map D.int)) S:=by
  simp only[dSl,w4 h0,Res.bind,zV,dC]
  show Res.ok (D.lst (w5 (ns.map D.int) (some 1) (some 6))) S=_
  rw[hm]
 have hc:uP (q9 (qD 2 wT (q9 (qA 0) (q9 (dC (.int 0)) (qB)))) (qB)) env S=.ok (.lst [.int x]) S:=sW (m5 ((uC (w4 h0) rfl).trans hx)) l1
 unfold vK
 rw[qQ hc hs,gA (by rw[List.length_map];show 1+ms.length≤lim;unfold lim;omega)]
 rfl
theorem BK (f:Pt→Int)(ps:List Pt)(h:1≤ps.length)(S:Sto):∃ M,pX [.lst (ps.map fun q=>D.int (f q))] S=.ok (.int M) S∧(∀ q∈ps,f q≤M)∧∃ q∈ps,M=f q:=by
 cases ps with
 |nil=>simp at h
 |cons p r =>
  obtain⟨m1,m2⟩:=sH (r.map f) (f p)
  refine⟨(r.map f).foldl max (f p),?_,fun q hq=>m2 _ (by rw[← List.map_cons];exact List.mem_map_of_mem hq),?_⟩
  ·show (match zN (r.map fun q=>D.int (f q)) with|some ns=>Res.ok (D.int (ns.foldl max (f p))) S|none=>.bad)=_
   rw[show (r.map fun q=>D.int (f q))=(r.map f).map D.int by rw[List.map_map];rfl,uH]
  ·rw[← List.map_cons] at m1
   obtain⟨q,hq,e⟩:=List.mem_map.mp m1
   exact⟨q,hq,e.symm⟩
theorem BN (f:Pt→Int)(ps:List Pt)(h:1≤ps.length)(S:Sto):∃ M,pY [.lst (ps.map fun q=>D.int (f q))] S=.ok (.int M) S∧(∀ q∈ps,M≤f q)∧∃ q∈ps,M=f q:=by
 cases ps with
 |nil=>simp at h
 |cons p r =>
  obtain⟨m1,m2⟩:=sI (r.map f) (f p)
  refine⟨(r.map f).foldl min (f p),?_,fun q hq=>m2 _ (by rw[← List.map_cons];exact List.mem_map_of_mem hq),?_⟩
  ·show (match zN (r.map fun q=>D.int (f q)) with|some ns=>Res.ok (D.int (ns.foldl min (f p))) S|none=>.bad)=_
   rw[show (r.map fun q=>D.int (f q))=(r.map f).map D.int by rw[List.map_map];rfl,uH]
  ·rw[← List.map_cons] at m1
   obtain⟨q,hq,e⟩:=List.mem_map.mp m1
   exact⟨q,hq,e.symm⟩
def tuK:Nat→Pt→Pt
 |0,q=>q
 |k+1,q=>tuP (tuK k q)
theorem tu4 (q:Pt):tuK 4 q=q:=by
 show (-(-q.1),-(-q.2))=q
 rw[Int.neg_neg,Int.neg_neg]
theorem tu2 (q:Pt):tuP (tuP q)=ngP q:=by
 show (-q.1,-q.2)=(0-q.1,0-q.2)
 rw[Int.zero_sub,Int.zero_sub]
theorem mi2 (q:Pt):miP (miP q)=q:=rfl
theorem cW {ps qs:List Pt}{g:Pt→Pt}(hg:∀ a b,far (g a) (g b)=far a b)(h:qs.Perm (ps.map g)):tbl (fars qs)=tbl (fars ps):=by
 rw[Y4 (oM h),fE hg]
inductive IvT (ns:List Int)(y:Int)(p:Nat)(ps:List Pt)(e7 e8 e9:Option D)(ds:List D)(env:qC)(S:Sto):Prop
 |mk (k:Nat) (qs:List Pt) (e6:Option D) (h1:ds.length+k=4) (h2:env=[some (.lst (ns.map D.int)),some (.int y),some (.loc p),some (.tup (ps.map pD)),some (.lst ((tbl (fars ps)).map tpD)),some (.tup (qs.map pD)),e6,e7,e8,e9]) (h3:Lt qs) (h4:qs.Perm (ps.map (tuK k))) (h5:tbl (fars qs)=tbl (fars ps)) (h6:x5 S p):IvT ns y p ps e7 e8 e9 ds env S
theorem Z7 (c:Cl)(ns:List Int)(y:Int)(p:Nat)(ps:List Pt)(h:Lt ps)(e6 e7 e8 e9:Option D)(S:Sto)(hp:x5 S p)(Q:qC→Sto→Prop)
  (q:∀ e6 S',x5 S' p→Q [some (.lst (ns.map D.int)),some (.int y),some (.loc p),some (.tup (ps.map pD)),some (.lst ((tbl (fars ps)).map tpD)),some (.tup (ps.map pD)),e6,e7,e8,e9] S') :
  Nx (jO (uQ (q9 (dC (.int 4)) (qB))) (gNm 6) (qT (zE (qD 1 (xG c) (q9 (qA 5) (qB))) (gNm 5)) (sIf (yW (dTr (d2 b0 (qD 1 vU (q9 (qA 5) (qB))) (dC (.bl true)))) (dTr (d2 gNe (qD 1 (zU c) (q9 (qA 5) (qB))) (qA 4)))) (zA (dC (.bl false))) (zO)))
   [some (.lst (ns.map D.int)),some (.int y),some (.loc p),some (.tup (ps.map pD)),some (.lst ((tbl (fars ps)).map tpD)),some (.tup (ps.map pD)),e6,e7,e8,e9] S) Q:=by
 refine mK (ds:=(List.range 4).map iD) (S1:=S) ?_ ?_
 ·unfold uQ
  rw[m5 (show dC (.int 4) _ S=.ok (.int 4) S from rfl)]
  simp only[Res.bind]
  rw[show gP [.int 4]=some ((List.range 4).map iD) from cN 4 (by omega)]
  rfl
 ·refine kJ (IvT ns y p ps e7 e8 e9) ?_ ?_ ⟨0,ps,_,by simp,rfl,h,by rw[show tuK 0=id from rfl,List.map_id],rfl,hp⟩
  ·rintro d ds env S ⟨k,qs,e6,h1,rfl,h3,h4,h5,h6⟩
   refine⟨[some (.lst (ns.map D.int)),some (.int y),some (.loc p),some (.tup (ps.map pD)),some (.lst ((tbl (fars ps)).map tpD)),some (.tup (qs.map pD)),some d,e7,e8,e9],S,rfl,?_⟩
   obtain⟨ts,L,pt,et⟩:=fO c qs h3
   refine xP (yE (xD ((x8 (a:=.tup (qs.map pD)) rfl).trans (et S)) ?_))
   simp only[List.set_cons_succ,List.set_cons_zero]
   obtain⟨S1,e1,q1⟩:=jC c ts L S
   have t5:tbl (fars ts)=tbl (fars ps):=(cW MZ pt).trans h5
   have il:=rL _ S L.pn
   rw[L.lot] at il
   refine gD (S1:=S1) (kK (S1:=S) (zX ((qQ ((x8 (a:=.tup (ts.map pD)) rfl).trans il) (show dC (.bl true) _ S=.ok (.bl true) S from rfl)).trans rfl)) (zX ((qQ ((x8 (a:=.tup (ts.map pD)) rfl).trans e1) (b:=.lst ((tbl (fars ps)).map tpD)) rfl).trans ((iC _ _ S1).trans (by rw[t5];simp))))) ?_
   refine⟨k+1,ts,_,by rw[List.length_cons] at h1;omega,rfl,L,?_,t5,vY h6 q1⟩
   refine pt.trans ((h4.map tuP).trans (List.Perm.of_eq ?_))
   rw[List.map_map]
   rfl
  ·rintro env S ⟨k,qs,e6,h1,rfl,h3,h4,h5,h6⟩
   have:k=4:=by simpa using h1
   subst this
   have e:qs=ps:=nB h3 h (by rw[show tuK 4=id from funext tu4,List.map_id] at h4;exact h4)
   subst e
   exact q e6 S h6
inductive IvC (ns:List Int)(ds:List D)(env:qC)(S:Sto):Prop
 |mk (ms:List Int) (e1 e2 e3 e4 e5 e6 e7 e8 e9:Option D) (h1:ds=ms.map D.int) (h2:env=[some (.lst (ns.map D.int)),e1,e2,e3,e4,e5,e6,e7,e8,e9]):IvC ns ds env S
theorem YV {ps:List Pt}(h:Lt ps)(a b:Int)(hb:∀ q∈ps,Bd (shP a b q)):Lt (ps.map (shP a b)):=by
 refine iA ?_ (by rw[List.length_map];exact h.ne) (by rw[List.length_map];exact h.le) (LM a b h.up)
 rw[List.all_map,List.all_eq_true]
 intro q hq
 obtain⟨p,hp,rfl⟩:=List.mem_map.mp hq
 exact kH (hb p hp)
theorem sX (c:Cl)(ps:List Pt)(h:Lt ps)(a b:Int)(hb:∀ q∈ps,Bd (shP a b q))(S:Sto):j9 c [.tup (ps.map pD),.int a,.int b] S=.ok (.tup ((ps.map (shP a b)).map pD)) S:=by
 rw[K2 c ps a b S h,NL,if_pos (YV h a b hb).pt]
theorem W3 (c:Cl)(nd:(aL c).Nodup)(ns:List Int)(hl:ns.length≤63):∃ S,qV 10 (aG c) [.lst (ns.map D.int)] [] = .ok (.bl true) S:=by
 have l2:2≤lim:=by decide
 have key:Rt (aG c [some (.lst (ns.map D.int)),none,none,none,none,none,none,none,none,none] []) fun d _=>d=.bl true:=by
  unfold aG
  obtain⟨ms,hms⟩:=ZQ ns hl [some (.lst (ns.map D.int)),none,none,none,none,none,none,none,none,none] [] rfl
  refine xF (mK hms ?_)
  refine kJ (IvC ns) ?_ ?_ ⟨ms,_,_,_,_,_,_,_,_,_,rfl,rfl⟩
  ·rintro d ds env S ⟨ms,e1,e2,e3,e4,e5,e6,e7,e8,e9,hds,rfl⟩
   cases ms with
   |nil=>cases hds
   |cons y ms =>
    injection hds with h1 h2
    subst h1 h2
    refine⟨[some (.lst (ns.map D.int)),some (.int y),e2,e3,e4,e5,e6,e7,e8,e9],S,rfl,?_⟩
    obtain⟨f,hpen⟩:=LE y S
    refine xP (yE (xD ((x8 (a:=.int y) rfl).trans hpen) ?_))
    have p0:x5 (S++[.lst [.int y,.int f]]) S.length:=⟨y,f,by simp⟩
    generalize S++[.lst [.int y,.int f]]=S0 at p0
    generalize S.length=p at p0
    simp only[List.set_cons_succ,List.set_cons_zero]
    obtain⟨xs,S1,c1,hx,hxl,hlot,p1⟩:=LD 30 (by omega) S0 p p0
    refine xP (yE (xD ((uC (a:=.loc p) (b:=.int 30) rfl rfl).trans c1) ?_))
    clear c1 hpen
    simp only[List.set_cons_succ,List.set_cons_zero]
    obtain⟨ps,rfl⟩:=cC hx
    rw[List.length_map] at hxl
    have L:Lt ps:=⟨hx,hxl.1,hxl.2,hlot⟩
    obtain⟨S2,c2,q2⟩:=jC c ps L S1
    have p2:=vY p1 q2
    refine xP (yE (xD ((x8 (a:=.tup (ps.map pD)) rfl).trans c2) ?_))
    clear c2
    simp only[List.set_cons_succ,List.set_cons_zero]
    obtain⟨S3,c3,p3⟩:=lY c S2 p ps L p2
    refine xP (gD (pM (zX ((uC (a:=.loc p) (b:=.tup (ps.map pD)) rfl rfl).trans c3))) ?_)
    clear c3
    refine xP (yE (xD (d:=.tup (ps.map pD)) (S:=S3) rfl ?_))
    simp only[List.set_cons_succ,List.set_cons_zero]
    refine xP (Z7 c ns y p ps L e6 e7 e8 e9 S3 p3 _ fun e6 S4 p4=>?_)
    obtain⟨mq,Lm,pm,em⟩:=mU c ps L
    obtain⟨mm,Lmm,pmm,emm⟩:=mU c mq Lm
    obtain⟨S5,c5,q5⟩:=jC c mq Lm S4
    have p5:=vY p4 q5
    have tm:tbl (fars mq)=tbl (fars ps):=cW BL pm
    have em2:mm=ps:=nB Lmm L (pmm.trans ((pm.map miP).trans (List.Perm.of_eq (by rw[List.map_map,show (miP∘miP)=id from funext mi2,List.map_id]))))
    subst em2
    refine xP (gD (S1:=S5) (kK (S1:=S4) (zX ((qQ (a:=.tup (mm.map pD)) (b:=.tup (mm.map pD)) rfl rfl).trans ((b9 _ _ S4).trans (by simp)))) (kK (S1:=S5)
     (zX ((qQ ((x8 ((x8 (a:=.tup (mm.map pD)) rfl).trans (em S4))).trans c5) (b:=.lst ((tbl (fars mm)).map tpD)) rfl).trans ((iC _ _ S5).trans (by rw[tm];simp))))
     (zX ((qQ ((x8 ((x8 (a:=.tup (mm.map pD)) rfl).trans (em S5))).trans (emm S5)) (b:=.tup (mm.map pD)) rfl).trans ((b9 _ _ S5).trans (by simp)))))) ?_)
    clear c5
    obtain⟨t1,L1,pt1,et1⟩:=fO c mm L
    obtain⟨t2,L2',pt2,et2⟩:=fO c t1 L1
    obtain⟨t3,L3,pt3,et3⟩:=rQ ngP BR TJ L
    have e23:t2=t3:=nB L2' L3 (pt2.trans ((pt1.map tuP).trans ((List.Perm.of_eq (by rw[List.map_map];exact List.map_congr_left fun q _=>tu2 q)).trans pt3.symm)))
    subst e23
    have hso:=iL ngP mm L (zP (q9 (d2 zK (dC (.int 0)) (qA 0)) (q9 (d2 zK (dC (.int 0)) (qA 1)) (qB)))) 3 [some (.lst (ns.map D.int)),some (.int y),some (.loc p),some (.tup (mm.map pD)),some (.lst ((tbl (fars mm)).map tpD)),some (.tup (mm.map pD)),e6,e7,e8,e9] S5 rfl fun q=>xQ (xI rfl rfl) l2
    rw[et3] at hso
    refine xP (gD (S1:=S5) (zX ((qQ ((x8 ((x8 (a:=.tup (mm.map pD)) rfl).trans (et1 S5))).trans (et2 S5)) hso).trans ((b9 _ _ S5).trans (by simp)))) ?_)
    clear hso
    obtain⟨M,hM,M1,qM,hqM,M2⟩:=BK (fun q=>q.1) mm L.ne S5
    have k1:=kX (cap:=[none,none]) (fe:=qA 0) mm (fun q=>D.int q.1) [] (pH mm [some (.lst (ns.map D.int)),some (.int y),some (.loc p),some (.tup (mm.map pD)),some (.lst ((tbl (fars mm)).map tpD)),some (.tup (mm.map pD)),e6,e7,e8,e9] 3 S5 rfl) (by unfold lim;omega) ⟨none,none,rfl⟩ fun q _=>rfl
    have bM:=L.bd hqM
    obtain⟨r1,S6,c6,hr1,p6⟩:=yR (S:=S5) (i:=2) (m:=1001-M) (f2:=d2 zK (dC (.int 1001)) (qH pX (q9 (qO false [none,none] (dIt (qA 3)) (gTp 2 (qF (gNm 0) (qF (gNm 1) (qY)))) (qU) (qP (qA 0))) (qB)))) p5 (by omega) rfl ((qQ (a:=.int 1001) rfl ((xW k1).trans hM)).trans rfl)
    refine xP (yE (xD c6 ?_))
    clear c6 k1 hM
    simp only[List.set_cons_succ,List.set_cons_zero]
    obtain⟨m,hm,m1,qm,hqm,m2⟩:=BN (fun q=>q.2) mm L.ne S6
    have k2:=kX (cap:=[none,none]) (fe:=qA 1) mm (fun q=>D.int q.2) [] (pH mm [some (.lst (ns.map D.int)),some (.int y),some (.loc p),some (.tup (mm.map pD)),some (.lst ((tbl (fars mm)).map tpD)),some (.tup (mm.map pD)),e6,some (.int (r1:Int)),e8,e9] 3 S6 rfl) (by unfold lim;omega) ⟨none,none,rfl⟩ fun q _=>rfl
    have bm:=L.bd hqm
    obtain⟨r2,S7,c7,hr2,p7⟩:=yR (S:=S6) (i:=2) (m:=1001+m) (f2:=d2 qZ (dC (.int 1001)) (qH pY (q9 (qO false [none,none] (dIt (qA 3)) (gTp 2 (qF (gNm 0) (qF (gNm 1) (qY)))) (qU) (qP (qA 1))) (qB)))) p6 (by omega) rfl ((qQ (a:=.int 1001) rfl ((xW k2).trans hm)).trans (xC _ _ _))
    refine xP (yE (xD (d:=.int (0-(r2:Int))) (S:=S7) ((qQ (a:=.int 0) rfl c7).trans rfl) ?_))
    clear c7 k2 hm
    simp only[List.set_cons_succ,List.set_cons_zero]
    have hb:∀ q∈mm,Bd (shP (r1:Int) (0-(r2:Int)) q):=fun q hq=>by
     have b1:=L.bd hq
     have b2:=M1 q hq
     have b3:=m1 q hq
     unfold Bd shP
     dsimp only at b2 b3 ⊢
     omega
    have Ls:=YV L _ _ hb
    have mv:=sX c mm L _ _ hb S7
    refine xP (yE (xD ((aJ (a:=.tup (mm.map pD)) (b:=.int (r1:Int)) (c:=.int (0-(r2:Int))) rfl rfl rfl).trans mv) ?_))
    clear mv
    simp only[List.set_cons_succ,List.set_cons_zero]
    obtain⟨S8,c8,q8⟩:=jC c _ Ls S7
    have ts:fars (mm.map (shP (r1:Int) (0-(r2:Int))))=fars mm:=fE (MS _ _) mm
    have back:(mm.map (shP (r1:Int) (0-(r2:Int)))).map (shP (0-(r1:Int)) (0-(0-(r2:Int))))=mm:=by
     rw[List.map_map]
     refine(List.map_congr_left fun q _=>?_).trans (List.map_id _)
     show (q.1+(r1:Int)+(0-(r1:Int)),q.2+(0-(r2:Int))+(0-(0-(r2:Int))))=q
     exact Prod.ext (by show q.1+(r1:Int)+(0-(r1:Int))=q.1;omega) (by show q.2+(0-(r2:Int))+(0-(0-(r2:Int)))=q.2;omega)
    have mb:=sX c _ Ls (0-(r1:Int)) (0-(0-(r2:Int))) (fun q hq=>by
     have:shP (0-(r1:Int)) (0-(0-(r2:Int))) q∈(mm.map (shP (r1:Int) (0-(r2:Int)))).map (shP (0-(r1:Int)) (0-(0-(r2:Int)))):=List.mem_map_of_mem hq
     rw[back] at this
     exact L.bd this) S8
    rw[back] at mb
    refine xP (gD (S1:=S8) (kK (S1:=S8) (zX ((qQ ((x8 (a:=.tup ((mm.map (shP (r1:Int) (0-(r2:Int)))).map pD)) rfl).trans c8) (b:=.lst ((tbl (fars mm)).map tpD)) rfl).trans ((iC _ _ S8).trans (by rw[ts];simp))))
     (zX ((qQ ((aJ (a:=.tup ((mm.map (shP (r1:Int) (0-(r2:Int)))).map pD)) (b:=.int (0-(r1:Int))) (c:=.int (0-(0-(r2:Int)))) rfl rfl rfl).trans mb) (b:=.tup (mm.map pD)) rfl).trans ((b9 _ _ S8).trans (by simp))))) ?_)
    clear mb c8
    cases hmm:mm with
    |nil=>rw[hmm] at hqm;simp at hqm
    |cons o rest =>
     have g0:∀ (d:D) (ds:List D),gIx (.tup (d::ds)) (.int 0) S8=.ok d S8:=fun d ds=>mH (show _L.atI (d::ds) 0=some d by simp[_L.atI,_L.ixN]) S8
     have lo:∀ env:qC,env[3]? = some (some (.tup ((o::rest).map pD)))→d2 gIx (qA 3) (dC (.int 0)) env S8=.ok (pD o) S8:=fun env h=>(qQ (w4 h) (show dC (.int 0) env S8=.ok (.int 0) S8 from rfl)).trans (g0 _ _)
     refine gD (S1:=S8) (zX ((qQ ((qQ (a:=.tup (((o::rest).map (shP (r1:Int) (0-(r2:Int)))).map pD)) (b:=.int 0) rfl rfl).trans (g0 _ _)) (xQ (xI ((qQ ((qQ (lo _ rfl) (b:=.int 0) rfl).trans (oU o S8)) (b:=.int (r1:Int)) rfl).trans (xC _ _ _)) ((qQ ((qQ (lo _ rfl) (b:=.int 1) rfl).trans (oV o S8)) (b:=.int (0-(r2:Int))) rfl).trans (xC _ _ _))) l2)).trans ((sY (shP (r1:Int) (0-(r2:Int)) o) (shP (r1:Int) (0-(r2:Int)) o) S8).trans (by simp)))) ?_
     exact⟨ms,_,_,_,_,_,_,_,_,_,rfl,rfl⟩
  ·rintro env S ⟨ms,e1,e2,e3,e4,e5,e6,e7,e8,e9,hds,rfl⟩
   exact v3 (xD (d:=.bl true) (S:=S) rfl rfl)
 obtain⟨d,S',e,rfl⟩:=key
 exact⟨S',pN rfl e⟩
end _K
end
section
namespace _K
open PySem PySem.Spec PyProof.Rows _L _D
theorem UU {P:Program}{w:World}{K:PySem.W.Frag}{mg:Str→Option Value}{base:Heap}{c:Cl}(T:Txt K mg c)(nd:(aL c).Nodup):∃ F,dJ P w K mg base true 9 "law" ["_law_script"] F∧∀ ns:List Int,ns.length≤63→∃ S,F [.lst (ns.map D.int)] [] = .ok (.bl true) S:=by
 refine hv (fun d_is_whole=>?_) (dq (cm:=true) P w base 0 0 T rfl ck (uN) ?_)
 refine hv (fun d_is_within=>?_) (dq (cm:=true) P w base 1 1 T rfl ck (vV) ?_)
 refine hv (fun d_is_rising=>?_) (dq (cm:=true) P w base 0 2 T rfl ck (kE) ?_)
 refine hv (fun d_need_number=>?_) (dq (cm:=true) P w base 1 3 T rfl ck (jE c) ?_)
 refine hv (fun d_is_point=>?_) (dq (cm:=true) P w base 2 4 T rfl ck (gV) ?_)
 refine hv (fun d_is_lot=>?_) (dq (cm:=true) P w base 3 5 T rfl ck (bP) ?_)
 refine hv (fun d_need_point=>?_) (dq (cm:=true) P w base 3 6 T rfl ck (jT c) ?_)
 refine hv (fun d_need_lot=>?_) (dq (cm:=true) P w base 4 7 T rfl ck (gX c) ?_)
 refine hv (fun d_far_between=>?_) (dq (cm:=true) P w base 0 8 T rfl ck (jD) ?_)
 refine hv (fun d_far_of=>?_) (dq (cm:=true) P w base 4 9 T rfl ck (bO c) ?_)
 refine hv (fun d_pairs_by_far=>?_) (dq (cm:=true) P w base 1 10 T rfl ck (uU) ?_)
 refine hv (fun d_far_table=>?_) (dq (cm:=true) P w base 5 11 T rfl ck (kB c) ?_)
 refine hv (fun d_fars=>?_) (dq (cm:=true) P w base 6 12 T rfl ck (nU c) ?_)
 refine hv (fun d_moved=>?_) (dq (cm:=true) P w base 5 13 T rfl ck (fV c) ?_)
 refine hv (fun d_turned_about=>?_) (dq (cm:=true) P w base 5 14 T rfl ck (uV c) ?_)
 refine hv (fun d_mirrored=>?_) (dq (cm:=true) P w base 5 15 T rfl ck (gW c) ?_)
 refine hv (fun d__law_cell=>?_) (dq (cm:=true) P w base 0 16 T rfl ck (k9) ?_)
 refine hv (fun d__law_pen=>?_) (dq (cm:=true) P w base 0 17 T rfl ck (gU) ?_)
 refine hv (fun d__law_draw=>?_) (dq (cm:=true) P w base 0 18 T rfl ck (kA) ?_)
 refine hv (fun d__law_point=>?_) (dq (cm:=true) P w base 1 19 T rfl ck (jS) ?_)
 refine hv (fun d__law_lot=>?_) (dq (cm:=true) P w base 2 20 T rfl ck (gT) ?_)
 refine hv (fun d__law_pairs_right=>?_) (dq (cm:=true) P w base 7 21 T rfl ck (vG c) ?_)
 refine⟨_,dqP 8 22 T rfl ck ?_,W3 c nd⟩
 all_goals
  intro _ _ _ _ _ _ _ hr
  repeat' first
   |with_reducible first|apply FU|apply QP|apply cJ|apply JP|apply FT|apply aV|apply FY|apply L5|apply M4|apply aBt|apply aGi|apply aO|apply aN|(apply aB;first|apply LZ|apply LY|apply LV|apply D7|apply TB|apply TC|apply YD)|(apply aT;first|apply KW|apply LX)|apply aC|apply M5|apply FZ|apply JS|apply L6|apply WK|apply L7|apply FW|apply WI|apply M0|apply L9|apply M3|apply FV|apply L8|apply FX|apply iH|(apply V4;(case slot=>apply PySem.F.slot_dict_setdefault);(case hm=>first|exact YC))|(apply V4;(case slot=>apply PySem.F.slot_list_append);(case hm=>first|exact YA))|apply JX|apply JY|apply MJ|apply MI|apply WQ|(apply LB;first|apply cK|apply QV|apply QU|apply V5)|apply MK|apply cK|apply QV|apply QU|apply V5|apply aNm|apply M8|apply M7|apply WL|apply JU|apply MB|apply WN|apply MC|apply JV|apply WM|apply MA|apply M9|apply K0|apply WR|apply JW|apply MG|apply LA|apply JZ|apply ME|apply aP2|apply aRs|apply LU|apply D6|apply D2|apply LW|apply D1|apply D4|apply R7|apply R6|apply R4|apply R0|apply R8|apply YB|apply D0|apply KU|apply D3|apply R5|apply D5|exact ck|apply NE|apply PySem.F.plainAttrs_dict|apply PySem.F.plainAttrs_list|apply PySem.F.type_dict_setdefault|apply PySem.F.type_list_append
   |((with_reducible apply aCs);case hsw=>exact rfl)
   |((with_reducible apply aSt);case hs=>exact rfl)
   |with_reducible apply MD
   |((with_reducible show DfS _ _ _ _ _ _ _ _ _ _);assumption)
   |((with_reducible show RoomC _ _ _);first|assumption|exact RoomC.mono (by assumption)|exact RoomC.mono (RoomC.any (by assumption))|exact RoomC.mark (by assumption) _|exact RoomC.mono (RoomC.mark (by assumption) _))
   |exact T.nb ck
   |exact T.rz (by kernel_rfl)
   |exact T.gi (by kernel_rfl)
   |((with_reducible show ZPass _);first|assumption|exact G6)
   |exact⟨rfl,rfl⟩
   |exact⟨rfl,rfl,rfl⟩
   |exact pL _
   |exact rfl
   |with_unfolding_all rfl
   |apply QP
   |apply cJ
   |decide
   |(intros;rfl)
   |(intro _ h;cases h <;> rfl)
   |intro _
end _K
end
namespace _K
open PySem PySem.Spec PyProof.Rows _L _D
theorem bdf:BdF top tab:=by
 repeat (refine⟨?_,?_⟩;(intro _ _ _ _ _ _ us h;first|(obtain⟨_,rfl⟩:=us1 h;rfl)|(obtain⟨_,_,rfl⟩:=us2 h;rfl)|(obtain⟨_,_,_,rfl⟩:=us3 h;rfl)))
 exact trivial
theorem TN {K:PySem.W.Frag}{C0 C1 C2 C3:Addr}(q0:PySem.W.nsIn K mainGlobals "FarError" = some (some (.ref C0)))(q1:PySem.W.nsIn K mainGlobals "NoPoint" = some (some (.ref C1)))(q2:PySem.W.nsIn K mainGlobals "NoLot" = some (some (.ref C2)))(q3:PySem.W.nsIn K mainGlobals "NoNumber" = some (some (.ref C3))):cY K (clt ⟨C0,C1,C2,C3⟩):=⟨q0,q1,q2,q3,trivial⟩
theorem TR {K:PySem.W.Frag}{k0 k1 k2:Tok}(g0:PySem.W.nsIn K mainGlobals "LEAST_NUMBER" = some (some (.int (-1000) k0)))(g1:PySem.W.nsIn K mainGlobals "MOST_NUMBER" = some (some (.int (1000) k1)))(g2:PySem.W.nsIn K mainGlobals "MOST_POINTS" = some (some (.int (40) k2))):cZ K cst:=⟨⟨_,g0⟩,⟨_,g1⟩,⟨_,g2⟩,trivial⟩
theorem BF {P:Program}{w:World}{K:PySem.W.Frag}{mg:Str→Option Value}{c:Cl}{fa:Addr}(T:Txt K mg c)(nd:(aL c).Nodup)(hfa:mg "law" = some (.ref fa)) :
  ∃ fd:FuncData,(∀ (s:Shared) (v:Value),BindsTo s fd ⟨[v],[]⟩ [("_law_script",v)])∧∀ base:Heap,K.In base→base.Ns mainGlobals mg→FnOk P w K mg base (CXd P w) 9 fa fd ["_law_script"] (dH K):=
 UV (T.src 22 rfl) hfa (fun kV doc pm an cdv ct s v=>.of_eq rfl) fun base=>UU T nd
end _K
theorem PySem.W.Fast.tw10724542037005197 : True := trivial
theorem PySem.W.Fast.tw11859902161452188227 : True := trivial
theorem PySem.W.Fast.tw4963431008057826641 : True := trivial
theorem PySem.W.Fast.tw2018985113677358115 : True := trivial
theorem PySem.W.Fast.tw12934543367201899713 : True := trivial
theorem PySem.W.Fast.tw16608623242101118083 : True := trivial
theorem PySem.W.Fast.tw10332538027115822602 : True := trivial
theorem PySem.W.Fast.tw17712786861850909519 : True := trivial
theorem PySem.W.Fast.tw12388831080340198766 : True := trivial
theorem PySem.W.Fast.tw3993979921293593854 : True := trivial
theorem PySem.W.Fast.tw18059863547135257292 : True := trivial
theorem PySem.W.Fast.tw7702564808029624373 : True := trivial
theorem PySem.W.Fast.tw17197912865230969230 : True := trivial
theorem PySem.W.Fast.tw15092152384629257234 : True := trivial
theorem PySem.W.Fast.tw17308344391515637387 : True := trivial
theorem PySem.W.Fast.tw7984707043411451342 : True := trivial
theorem PySem.W.Fast.tw812383861198309077 : True := trivial
theorem PySem.W.Fast.tw3821522615452490142 : True := trivial
theorem PySem.W.Fast.tw8452584252234427032 : True := trivial
theorem PySem.W.Fast.tw9015001981459093175 : True := trivial
theorem PySem.W.Fast.tw5319564169102020386 : True := trivial
theorem PySem.W.Fast.tw6036809533145082322 : True := trivial
theorem PySem.W.Fast.tw6354090106407827695 : True := trivial
theorem PySem.W.Fast.tw15705614183982825300 : True := trivial
theorem PySem.W.Fast.tw3536649007187022443 : True := trivial
theorem PySem.W.Fast.tw6395670096206968851 : True := trivial
theorem PySem.W.Fast.tw13062199353849975418 : True := trivial
theorem PySem.W.Fast.tw6291229721398222067 : True := trivial
theorem PySem.W.Fast.tw5793371872357380594 : True := trivial
theorem PySem.W.Fast.tw3410765363560994500 : True := trivial
theorem PySem.W.Fast.tw13964697316915103915 : True := trivial
theorem PySem.W.Fast.tw1424733241928470246 : True := trivial
open PySem PySem.W PyProof.Rows
set_option maxRecDepth 100000 in
set_option maxHeartbeats 0 in
theorem PySem.Challenge.cw_fewdistances_k03_whole_tables_and_moves_holds : PySem.Challenge.rw_fewdistances_k03_whole_tables_and_moves.Holds := by
 w_on;o_law;z_head;(case hw=>w_witness2)
 refine _D.LT (fun _=>by kernel_rfl) ?_
 refine _D.LS (l:=PySem.Challenge.rw_fewdistances_k03_whole_tables_and_moves) (k:=9) (x:="_law_script") rfl rfl ⟨rfl,by decide,by decide,rfl⟩ (fun w h Y=>Y) ?F
 case F =>
  intro w mg fa h KX G hmg
  refine' _K.BF (_D.LQ _K.bdf ?hp rfl KX G ?s ?z (_K.TN ?q0 ?q1 ?q2 ?q3) (_K.TR ?gi0 ?gi1 ?gi2) ?e1 ?e2 ?e3 ?e4 ?e5 ?e6) ?nd hmg
  (case s=>(repeat (refine' ⟨_D.SrcF.mk ?a ?l ?c ?k,?_⟩;(case a=>k_is);(case l=>k_is);(case c=>k_is);(case k=>k_is)));exact trivial)
  (case z=>rfl)
  (case q0=>k_is)
  (case q1=>k_is)
  (case q2=>k_is)
  (case q3=>k_is)
  (case gi0=>k_is)
  (case gi1=>k_is)
  (case gi2=>k_is)
  (case hp=>intro y hy;revert hy;simp;grind)
  (case e1=>rfl)
  (case e2=>rfl)
  (case e3=>rfl)
  (case e4=>rfl)
  (case e5=>rfl)
  (case e6=>rfl)
  (case nd=>decide)
