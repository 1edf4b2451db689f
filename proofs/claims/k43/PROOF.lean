import PyProof.Rows.All
import Wide.All
import OpenK.AllK
import Wide.FinOn
import Lean
import PyProof.EqAt
import PyProof.EqKinds
import PyProof.TupleCall
import PyProof.ReprRoads
import KE.KSortTup
import KE.KDictList
import KE.KMinKey
import KE.KIntText
import KE.KLam
import KE.KNestM
import PySem.Challenge.RW_panethread_k43_tight_stretches
noncomputable section
local macro_rules | `(tactic| trivial) => `(tactic| decide +kernel)
set_option compiler.extract_closed false
set_option Elab.async false
set_option linter.all false
set_option maxRecDepth 100000
namespace L2
@[elab_as_elim] theorem vR {p:List PySem.Value->Prop} (h:∀ a0:PySem.Value,p [a0]) (us:List PySem.Value) (hl:us.length=1):p us:=by
 rcases us with _ | ⟨a0,us0⟩
 ·cases hl
 rcases us0 with _ | ⟨b,us⟩
 ·exact h a0
 ·cases hl
@[elab_as_elim] theorem m5 {p:List PySem.Value->Prop} (h:∀ a0 a1:PySem.Value,p [a0,a1]) (us:List PySem.Value) (hl:us.length=2):p us:=by
 rcases us with _ | ⟨a0,us0⟩
 ·cases hl
 rcases us0 with _ | ⟨a1,us1⟩
 ·cases hl
 rcases us1 with _ | ⟨b,us⟩
 ·exact h a0 a1
 ·cases hl
@[elab_as_elim] theorem qt {p:List PySem.Value->Prop} (h:∀ a0 a1 a2:PySem.Value,p [a0,a1,a2]) (us:List PySem.Value) (hl:us.length=3):p us:=by
 rcases us with _ | ⟨a0,us0⟩
 ·cases hl
 rcases us0 with _ | ⟨a1,us1⟩
 ·cases hl
 rcases us1 with _ | ⟨a2,us2⟩
 ·cases hl
 rcases us2 with _ | ⟨b,us⟩
 ·exact h a0 a1 a2
 ·cases hl
@[elab_as_elim] theorem usN5 {p:List PySem.Value->Prop} (h:∀ a0 a1 a2 a3 a4:PySem.Value,p [a0,a1,a2,a3,a4]) (us:List PySem.Value) (hl:us.length=5):p us:=by
 rcases us with _ | ⟨a0,us0⟩
 ·cases hl
 rcases us0 with _ | ⟨a1,us1⟩
 ·cases hl
 rcases us1 with _ | ⟨a2,us2⟩
 ·cases hl
 rcases us2 with _ | ⟨a3,us3⟩
 ·cases hl
 rcases us3 with _ | ⟨a4,us4⟩
 ·cases hl
 rcases us4 with _ | ⟨b,us⟩
 ·exact h a0 a1 a2 a3 a4
 ·cases hl
theorem auto1 (h:True:=by first | exact .inl rfl | exact .inr rfl | assumption):True:=h
theorem auto2 (h:True:=by decide):True:=h
theorem auto3 (h:True:=by intro _;rfl):True:=h
theorem auto4 (h:True:=by rfl):True:=h
theorem auto5 (h:True:=by with_unfolding_all rfl):True:=h
theorem auto6 (h:True:=by trivial):True:=h
open PySem PySem.Spec PyProof.Rows
abbrev Key:=Sum Int Str
def pK:Key->Value->Bool
 | .inl k,v=>Value.isInt k v
 | .inr x,v=>Value.isStrOf x v
def keyH (w:World):Key->Int
 | .inl k=>hashInt k
 | .inr x=>hashStr w x
theorem b7:∀ {k:Key} {v:Value},pK k v=true->(∃ i t,k=Sum.inl i/\v=Value.int i t)\/(∃ x t,k=Sum.inr x/\v=Value.str x t)
 | .inl i,v,h=>by
  obtain ⟨t,e⟩:=Value.isInt_shape (k:=i) (v:=v) h
  exact .inl ⟨i,t,rfl,e⟩
 | .inr x,v,h=>by
  obtain ⟨t,e⟩:=Value.isStrOf_shape (x:=x) (v:=v) h
  exact .inr ⟨x,t,rfl,e⟩
theorem vU (i:Int) (t:Tok):pK (.inl i) (.int i t)=true:=by simp [pK,Value.isInt]
theorem vV (x:Str) (t:Tok):pK (.inr x) (.str x t)=true:=by simp [pK,Value.isStrOf]
theorem Fo (a b:Int):decide ((Sum.inl a:Key)=Sum.inl b)=(a == b):=by
 by_cases e:a=b
 ·subst e;simp
 ·have h:¬ (Sum.inl a:Key)=Sum.inl b:=fun q=>e (Sum.inl.inj q)
  rw [decide_eq_false h]
  exact (beq_eq_false_iff_ne.mpr e).symm
theorem Fp (a b:Str):decide ((Sum.inr a:Key)=Sum.inr b)=decide (a=b):=by
 by_cases e:a=b
 ·subst e;simp
 ·have h:¬ (Sum.inr a:Key)=Sum.inr b:=fun q=>e (Sum.inr.inj q)
  rw [decide_eq_false h,decide_eq_false e]
theorem Fq (a:Int) (b:Str):decide ((Sum.inl a:Key)=Sum.inr b)=false:=decide_eq_false (fun q=>nomatch q)
theorem Ft (a:Str) (b:Int):decide ((Sum.inr a:Key)=Sum.inl b)=false:=decide_eq_false (fun q=>nomatch q)
def bH (prog:Program) (w:World):PySem.KeyKind prog w Key where
 is:=pK
 hash:=keyH w
 inj:=fun v a b ha hb=>by
  rcases b7 ha with ⟨i,t,rfl,rfl⟩ | ⟨x,t,rfl,rfl⟩
  ·rcases b7 hb with ⟨j,u,rfl,e⟩ | ⟨y,u,rfl,e⟩
   ·injection e with e1 _;rw [e1]
   ·exact nomatch e
  ·rcases b7 hb with ⟨j,u,rfl,e⟩ | ⟨y,u,rfl,e⟩
   ·exact nomatch e
   ·injection e with e1 _;rw [e1]
 byValue:=fun k v h=>by
  rcases b7 h with ⟨i,t,rfl,rfl⟩ | ⟨x,t,rfl,rfl⟩ <;> rfl
 pyHash:=fun hv h=>by
  rcases b7 hv with ⟨i,t,rfl,rfl⟩ | ⟨x,t,rfl,rfl⟩
  ·exact wpAny_pyHash_int h
  ·exact wpAny_pyHash_str h
 eqBool:=fun hu hv h=>by
  rcases b7 hu with ⟨i,t,rfl,rfl⟩ | ⟨x,t,rfl,rfl⟩
  ·rcases b7 hv with ⟨j,u,rfl,rfl⟩ | ⟨y,u,rfl,rfl⟩
   ·rw [Fo] at h;exact wpAny_eqBool_int h
   ·rw [Fq] at h;exact SeqAt.EqAt.int_str i t y u _ _ _ _ h
  ·rcases b7 hv with ⟨j,u,rfl,rfl⟩ | ⟨y,u,rfl,rfl⟩
   ·rw [Ft] at h;exact SeqAt.EqAt.str_int x t j u _ _ _ _ h
   ·rw [Fp] at h;exact wpAny_eqBool_str h
 «strs»:=fun k x t v h=>by
  rcases b7 h with ⟨i,u,rfl,e⟩ | ⟨y,u,rfl,e⟩
  ·exact nomatch e
  ·injection e with e1 _
   subst e1
   cases v <;> rfl
theorem q9 (prog:Program) (w:World) (i:Int) (t:Tok):(bH prog w).is (.inl i) (.int i t)=true:=vU i t
theorem rm (prog:Program) (w:World) (x:Str) (t:Tok):(bH prog w).is (.inr x) (.str x t)=true:=vV x t
end L2
namespace L2
open PySem PySem.Spec PyProof.Rows
inductive V where
 | non | bl (b:Bool) | int (i:Int) | str (x:Str) | byt (b:Array UInt8) | flt (b:UInt64) | ref (a:Addr) | ty (n:String)
 deriving DecidableEq
def RelV:V->Value->Prop
 | .non,u=>u=Value.none
 | .bl b,u=>u=Value.bool b
 | .int i,u=>∃ t,u=Value.int i t
 | .str x,u=>∃ t,u=Value.str x t
 | .byt b,u=>∃ t,u=Value.bytes b t
 | .flt b,u=>∃ t,u=Value.float b t
 | .ref a,u=>u=Value.ref a
 | .ty n,u=>u=Value.type n
abbrev Vals:List V->List Value->Prop:=Paired RelV
theorem Vals.length {xs:List V} {us:List Value} (r:Vals xs us):xs.length=us.length:=Paired.length r
theorem Vals.get:∀ {xs:List V} {us:List Value} {i:Nat} {x:V},Vals xs us->xs[i]?=some x->∃ u,us[i]?=some u/\RelV x u
 | _,_,_,_,.nil,e=>by simp at e
 | _,_,0,_,.cons r _,e=>by simp at e;subst e;exact ⟨_,rfl,r⟩
 | _,_,i+1,x,.cons _ t,e=>by
  obtain ⟨u,h1,h2⟩:=Vals.get (i:=i) (x:=x) t (by simpa using e)
  exact ⟨u,by simpa using h1,h2⟩
theorem Vals.set {x:V} {u:Value} (r:RelV x u):∀ {xs:List V} {us:List Value} (i:Nat),Vals xs us->Vals (xs.set i x) (us.set i u)
 | _,_,_,.nil=>.nil
 | _,_,0,.cons _ t=>.cons r t
 | _,_,i+1,.cons q t=>.cons q (Vals.set r i t)
theorem Vals.append:∀ {xs ys:List V} {us ws:List Value},Vals xs us->Vals ys ws->Vals (xs ++ ys) (us ++ ws)
 | _,_,_,_,.nil,s=>s
 | _,_,_,_,.cons r t,s=>.cons r (Vals.append t s)
theorem Vals.take:∀ {xs:List V} {us:List Value} (n:Nat),Vals xs us->Vals (xs.take n) (us.take n)
 | _,_,0,_=>.nil
 | _,_,_+1,.nil=>.nil
 | _,_,n+1,.cons r t=>.cons r (Vals.take n t)
theorem Vals.drop:∀ {xs:List V} {us:List Value} (n:Nat),Vals xs us->Vals (xs.drop n) (us.drop n)
 | _,_,0,r=>r
 | _,_,_+1,.nil=>.nil
 | _,_,n+1,.cons _ t=>Vals.drop n t
def RelO:Option V->Option Value->Prop
 | some v,some u=>RelV v u
 | none,none=>True
 | _,_=>False
def KV {κ:Type}:List (κ×V)->List (κ×Value)->Prop:=Paired fun (p:κ×V) (q:κ×Value)=>p.1=q.1/\RelV p.2 q.2
def kV:Key->V
 | .inl i=>.int i
 | .inr x=>.str x
inductive HO where
 /-- a list -/
 | lst (xs:List V)
 /-- a tuple (never changes) -/
 | tup (xs:List V)
 /-- a dict whose keys are ints and texts;one whose keys are tuples of ints and texts (the empty one is both) -/
 | dK (kvs:List (Key×V)) | dT (kvs:List (List Key×V))
 /-- a set of ints:its members,its size -/
 | set (S:Int->Bool) (n:Nat)
 /-- an instance of the class at C,its dict at dx,its attributes -/
 | ins (C dx:Addr) (fs:List (Str×V))
 /-- the dict of the instance at x -/
 | own (x:Addr)
 /-- the dict of an exception -/
 | xd (fs:List (Str×V))
 /-- a bound method,f of x -/
 | met (f x:Addr)
 /-- a range object lo,lo+1,.. below hi -/
 | rng (lo hi:Int)
 /-- a thing that is known to the object (the script;a dict while a loop walks it):read,never written while it is so -/
 | frz (o:Obj) (u:HO)
 /-- a code object's table -/
 | tbl (ps:Array Value)
 /-- any other thing,by what is true of its one object (a def of one's own:SetO a S n:=HO.ext fun h=>..) -/
 | ext (φ:Heap->Prop)
abbrev Hp:=Addr->Option HO
def upd (H:Hp) (a:Addr) (o:HO):Hp:=fun b=>if b=a then some o else H b
theorem aj {H:Hp} {a:Addr} {o:HO}:upd H a o a=some o:=by unfold upd;rw [if_pos rfl]
theorem aA {H:Hp} {a b:Addr} {o:HO} (h:b≠a):upd H a o b=H b:=by unfold upd;rw [if_neg h]
theorem JH {H:Hp} {a b:Addr} {o u:HO} (h:H a=some o) (h':H b=some u) (d:o≠u):a≠b:=by
 intro e;subst e;rw [h] at h';exact d (Option.some.inj h')
theorem bQ {H:Hp} {a b:Addr} {o:HO} (h:H a=some o) (h':H b=none):a≠b:=by
 intro e;subst e;rw [h] at h';cases h'
section
variable (P:Program) (w:World)
def ObjOk (H:Hp) (h:Heap) (a:Addr):HO->Prop
 | .lst xs=>xs.length<=sizeLine/\∃ (its:List Value) (n:Nat),Vals xs its/\h.get? a=some {cls:=.type "list",data:=.seq its.toArray n}
 | .tup xs=>xs.length<=sizeLine/\∃ its:List Value,Vals xs its/\IsTup h a its.toArray
 | .dK kvs=>kvs.length<=sizeLine/\(a == sysModules)=false/\∃ vs,KV kvs vs/\h.DictOf (bH P w) a vs
 | .dT kvs=>kvs.length<=sizeLine/\(a == sysModules)=false/\∃ xs:List (List Key×Addr×Value),
   Paired (fun (p:List Key×V) (q:List Key×Addr×Value)=>p.1=q.1/\H q.2.1=some (.tup (p.1.map kV))/\RelV p.2 q.2.2) kvs xs/\
   ∃ o es ep,h.get? a=some o/\o.ExactDict/\o.data= .dict es ep/\es.toList=xs.map (entryOfKey (tupleKind (bH P w)))/\(xs.map (·.1)).Nodup
 | .set S n=>h.SetOf (intKind P w) a S n
 | .ins C dx fs=>H dx=some (.own a)/\fs.length<=1000/\dx≠a/\h.get? a=some (PySem.W.instObj C dx)/\
   ∃ mA,h.Ns1 dx mA/\(∀ f,RelO (fs.lookup f) (mA f))/\PySem.Within mA (fs.map (·.1))
 | .own _=>∃ o,h.get? a=some o
 | .xd fs=>∃ mA,h.Ns1 a mA/\∀ f,RelO (fs.lookup f) (mA f)
 | .rng lo hi=>∃ t u v,h.get? a=some {cls:=.type "range",data:=.fields #[.int lo t,.int hi u,.int 1 v]}
 | .frz o u=>h.get? a=some o/\ObjOk H h a u
 | .tbl ps=>h.get? a=some {cls:=.none,data:=.fields ps}
 | .met f x=>h.get? a=some (PySem.W.methodObj (.ref f) (.ref x))
 | .ext φ=>φ h/\(∃ o,h.get? a=some o)/\∀ h1 h2:Heap,φ h1->(∀ o,h1.get? a=some o->h2.get? a=some o)->φ h2
def HOk (H:Hp) (h:Heap):Prop:=∀ a o,H a=some o->ObjOk P w H h a o
end
section
variable {P:Program} {w:World} {H H':Hp} {h h':Heap} {a:Addr} {o:HO}
theorem ObjOk.lt (x:ObjOk P w H h a o):a < h.objs.size:=by
 cases o with
 | lst xs=>obtain ⟨_,_,_,_,e⟩:=x;exact Heap.lt_size e
 | tup xs=>obtain ⟨_,_,_,p⟩:=x;exact p.lt
 | dK kvs=>obtain ⟨_,_,_,_,o,_,_,e,_⟩:=x;exact Heap.lt_size e
 | dT kvs=>obtain ⟨_,_,_,_,o,_,_,e,_⟩:=x;exact Heap.lt_size e
 | set S n=>obtain ⟨o,_,_,_,e,_⟩:=x;exact Heap.lt_size e
 | ins C dx fs=>obtain ⟨_,_,_,e,_⟩:=x;exact Heap.lt_size e
 | own y=>obtain ⟨_,e⟩:=x;exact Heap.lt_size e
 | xd fs=>obtain ⟨_,⟨_,_,_,e,_⟩,_⟩:=x;exact Heap.lt_size e
 | rng lo hi=>obtain ⟨_,_,_,e⟩:=x;exact Heap.lt_size e
 | frz ob u=>obtain ⟨e,_⟩:=x;exact Heap.lt_size e
 | tbl ps=>exact Heap.lt_size (show h.get? a=some _ from x)
 | met f y=>exact Heap.lt_size (show h.get? a=some _ from x)
 | ext φ=>obtain ⟨_,⟨_,e⟩,_⟩:=x;exact Heap.lt_size e
theorem Paired.mapP {α β:Type} {F G:α->β->Prop}:∀ {l₁:List α} {l₂:List β},Paired F l₁ l₂->(∀ a b,F a b->G a b)->Paired G l₁ l₂
 | _,_,.nil,_=>.nil
 | _,_,.cons r t,f=>.cons (f _ _ r) (Paired.mapP t f)
theorem ObjOk.stay (x:ObjOk P w H h a o) (k:∀ b u,(b=a\/H b=some (.own a))->h.get? b=some u->h'.get? b=some u)
  (ho:∀ b,H b=some (.own a)->H' b=some (.own a)) (ht:∀ b xs,H b=some (.tup xs)->H' b=some (.tup xs)):ObjOk P w H' h' a o:=by
 induction o with
 | lst xs=>obtain ⟨z,its,n,r,e⟩:=x;exact ⟨z,its,n,r,k _ _ (.inl rfl) e⟩
 | tup xs=>obtain ⟨z,its,r,ob,e,c⟩:=x;exact ⟨z,its,r,ob,k _ _ (.inl rfl) e,c⟩
 | dK kvs=>obtain ⟨z,y,vs,r,ob,es,ep,e,c⟩:=x;exact ⟨z,y,vs,r,ob,es,ep,k _ _ (.inl rfl) e,c⟩
 | dT kvs=>
  obtain ⟨z,y,xs,r,ob,es,ep,e,c⟩:=x
  exact ⟨z,y,xs,Paired.mapP r fun p q z=>⟨z.1,ht _ _ z.2.1,z.2.2⟩,ob,es,ep,k _ _ (.inl rfl) e,c⟩
 | set S n=>obtain ⟨ob,es,ep,t,e,c⟩:=x;exact ⟨ob,es,ep,t,k _ _ (.inl rfl) e,c⟩
 | ins C dx fs=>
  obtain ⟨d,z,ne,e,mA,⟨od,es,ep,e2,c⟩,r⟩:=x
  exact ⟨ho _ d,z,ne,k _ _ (.inl rfl) e,mA,⟨od,es,ep,k _ _ (.inr d) e2,c⟩,r⟩
 | own y=>obtain ⟨ob,e⟩:=x;exact ⟨ob,k _ _ (.inl rfl) e⟩
 | xd fs=>obtain ⟨mA,⟨od,es,ep,e,c⟩,r⟩:=x;exact ⟨mA,⟨od,es,ep,k _ _ (.inl rfl) e,c⟩,r⟩
 | rng lo hi=>obtain ⟨t,u,v,e⟩:=x;exact ⟨t,u,v,k _ _ (.inl rfl) e⟩
 | frz ob u ih=>obtain ⟨e,q⟩:=x;exact ⟨k _ _ (.inl rfl) e,ih q⟩
 | tbl ps=>
  have e:h.get? a=some {cls:=.none,data:=.fields ps}:=x
  show h'.get? a=some {cls:=.none,data:=.fields ps}
  exact k a _ (.inl rfl) e
 | met f y=>
  have e:h.get? a=some (PySem.W.methodObj (.ref f) (.ref y)):=x
  show h'.get? a=some (PySem.W.methodObj (.ref f) (.ref y))
  exact k a _ (.inl rfl) e
 | ext φ=>obtain ⟨p,⟨o,e⟩,st⟩:=x;exact ⟨st _ _ p fun o q=>k _ _ (.inl rfl) q,⟨o,k _ _ (.inl rfl) e⟩,st⟩
theorem HOk.lt (x:HOk P w H h) (e:H a=some o):a < h.objs.size:=(x a o e).lt
theorem HOk.fresh (x:HOk P w H h) (e:h.objs.size<=a):H a=none:=by
 cases q:H a with
 | none=>rfl
 | some u=>exact absurd (Nat.lt_of_lt_of_le (x.lt q) e) (Nat.lt_irrefl _)
theorem HOk.kept (x:HOk P w H h) (k:∀ b u,h.get? b=some u->h'.get? b=some u):HOk P w H h':=fun a o e=>
 (x a o e).stay (fun b u _ q=>k b u q) (fun _ q=>q) fun _ _ q=>q
theorem HOk.laid (x:HOk P w H h) (k:∀ b u,h.get? b=some u->h'.get? b=some u) (hp:h.objs.size<=a) (new:ObjOk P w (upd H a o) h' a o):HOk P w (upd H a o) h':=fun b u e=>by
 have hn:=x.fresh hp
 by_cases hb:b=a
 ·subst hb;rw [aj] at e;cases e;exact new
 ·rw [aA hb] at e
  exact (x b u e).stay (fun c v _ q=>k c v q) (fun c q=>by rw [aA (bQ q hn)];exact q) fun c xs q=>by rw [aA (bQ q hn)];exact q
end
def Rd (H:Hp) (a:Addr) (u:HO):Prop:=H a=some u\/∃ o,H a=some (.frz o u)
theorem Rd.ok {P:Program} {w:World} {H:Hp} {h:Heap} {a:Addr} {u:HO} (r:Rd H a u) (x:HOk P w H h):ObjOk P w H h a u:=by
 rcases r with r | ⟨o,r⟩
 ·exact x a u r
 ·obtain ⟨_,q⟩:=x a _ r
  exact q
def JK:Option HO->Prop
 | some (.lst _)=>True
 | some (.dK _)=>True
 | some (.dT _)=>True
 | some (.set _ _)=>True
 | some (.ins _ _ _)=>True
 | some (.ext _)=>True
 | _=>False
section
variable {P:Program} {w:World} {H:Hp} {h h':Heap} {x e:Addr} {o':HO}
theorem HOk.write (ok:HOk P w H h) (mu:JK (H x)) (he:e=x\/H e=some (.own x)) (k:∀ b u,b≠e->h.get? b=some u->h'.get? b=some u) (heo:∃ u,h'.get? e=some u)
  (new:ObjOk P w (upd H x o') h' x o'):HOk P w (upd H x o') h':=fun b u q=>by
 have nown:∀ c y,H c=some (.own y)->c≠x:=fun c y r z=>by subst z;rw [r] at mu;exact mu
 have ntup:∀ c xs,H c=some (.tup xs)->c≠x:=fun c xs r z=>by subst z;rw [r] at mu;exact mu
 by_cases hb:b=x
 ·subst hb;rw [aj] at q;cases q;exact new
 ·rw [aA hb] at q
  by_cases hbe:b=e
  ·have q':H b=some (.own x):=by
    rcases he with z | z
    ·exact absurd (hbe.trans z) hb
    ·rw [hbe];exact z
   rw [q] at q';cases q'
   obtain ⟨v,hv⟩:=heo
   exact ⟨v,by rw [hbe];exact hv⟩
  ·refine (ok b u q).stay (fun c v hc r=>k c v ?_ r) (fun c r=>by rw [aA (nown c b r)];exact r) fun c xs r=>by rw [aA (ntup c xs r)];exact r
   rcases hc with rfl | hc
   ·exact hbe
   ·rintro rfl
    rcases he with z | z
    ·exact nown c b hc z
    ·rw [hc] at z;cases z;exact hb rfl
end
structure Un (fs ex:List Addr) (H H':Hp) (h h':Heap):Prop where
 keep:∀ b o,h.get? b=some o->H b=none->b ∉ fs->b ∉ ex->h'.get? b=some o
 slot:∀ b o,h.get? b=some o->H b=none->b∈fs->b ∉ ex->∃ sl,h'.get? b=some {o with slots:=sl}
 free:∀ b o,h.get? b=some o->H b=none->b ∉ ex->H' b=none
 there:∀ b o,h.get? b=some o->b ∉ ex->∃ o',h'.get? b=some o'
 tups:∀ b xs,H b=some (.tup xs)->H' b=some (.tup xs)
 frzs:∀ b o u,H b=some (.frz o u)->H' b=some (.frz o u)
 tbls:∀ b ps,H b=some (.tbl ps)->∃ more,H' b=some (.tbl (ps ++ more))
section
variable {fs fs' ex ex':List Addr} {H H1 H2:Hp} {h h1 h2 h':Heap} {a x e:Addr} {o:HO}
theorem Un.any (u:Un fs ex H H1 h h1) {b:Addr} {ob:Obj} (q:h.get? b=some ob) (n:H b=none) (hx:b ∉ ex):∃ sl,h1.get? b=some {ob with slots:=sl}:=by
 by_cases hb:b∈fs
 ·exact u.slot b ob q n hb hx
 ·exact ⟨ob.slots,u.keep b ob q n hb hx⟩
theorem Un.kept (k:∀ b u,h.get? b=some u->h'.get? b=some u):Un fs ex H H h h':=
 ⟨fun b ob q _ _ _=>k b ob q,fun b ob q _ _ _=>⟨ob.slots,k b ob q⟩,fun _ _ _ n _=>n,fun b ob q _=>⟨ob,k b ob q⟩,fun _ _ q=>q,fun _ _ _ q=>q,fun _ ps q=>⟨#[],by rw [q];simp⟩⟩
theorem Un.refl:Un fs ex H H h h:=Un.kept fun _ _ q=>q
theorem Un.laid (k:∀ b u,h.get? b=some u->h'.get? b=some u) (hp:h.objs.size<=a) (hn:H a=none):Un fs ex H (upd H a o) h h' where
 keep:=fun b u q _ _ _=>k b u q
 slot:=fun b u q _ _ _=>⟨u.slots,k b u q⟩
 free:=fun b u q n _=>by rw [aA (Nat.ne_of_lt (Nat.lt_of_lt_of_le (Heap.lt_size q) hp))];exact n
 there:=fun b u q _=>⟨u,k b u q⟩
 tups:=fun b xs q=>by rw [aA (bQ q hn)];exact q
 frzs:=fun b u xs q=>by rw [aA (bQ q hn)];exact q
 tbls:=fun b ps q=>⟨#[],by rw [aA (bQ q hn),q];simp⟩
theorem Un.write (mu:JK (H x)) (he:e=x\/H e=some (.own x)) (k:∀ b u,b≠e->h.get? b=some u->h'.get? b=some u) (heo:∃ u,h'.get? e=some u):Un fs ex H (upd H x o) h h':=by
 have hx:∀ b,H b=none->b≠x:=fun b n z=>by subst z;rw [n] at mu;exact mu
 have hb:∀ b,H b=none->b≠e:=fun b n z=>by
  subst z
  rcases he with r | r
  ·exact hx b n r
  ·rw [n] at r;cases r
 have hm:∀ b u,H b=some u->¬ JK (some u)->b≠x:=fun b u q nm z=>by subst z;rw [q] at mu;exact nm mu
 refine ⟨fun b u q n _ _=>k b u (hb b n) q,fun b u q n _ _=>⟨u.slots,k b u (hb b n) q⟩,fun b u q n _=>by rw [aA (hx b n)];exact n,fun b u q _=>?_,
  fun b xs q=>by rw [aA (hm b _ q fun z=>z)];exact q,fun b u xs q=>by rw [aA (hm b _ q fun z=>z)];exact q,fun b ps q=>⟨#[],by rw [aA (hm b _ q fun z=>z),q];simp⟩⟩
 by_cases hbe:b=e
 ·subst hbe;exact heo
 ·exact ⟨u,k b u hbe q⟩
end
def Aq (h:Heap) (H:Hp):List Addr:=(List.range h.objs.size).filter fun a=>(H a).isSome
def qu (h:Heap) (H:Hp):Heap:=PySem.W.hideAll h (Aq h H)
theorem vW (h:Heap) (H:Hp):(qu h H).objs.size=h.objs.size:=PySem.W.hideAll_size _ _
theorem w6 {h:Heap} {H:Hp} {b:Addr} {o:Obj} (e:h.get? b=some o) (n:H b=none):(qu h H).get? b=some o:=
 PySem.W.hideAll_get _ e fun hm=>by
  have q:(H b).isSome=true:=(List.mem_filter.mp hm).2
  rw [n] at q;simp at q
theorem Aw {h:Heap} {H:Hp} {b:Addr} {o:Obj} (e:(qu h H).get? b=some o):h.get? b=some o/\H b=none:=by
 have e':h.get? b=some o:=PySem.W.of_hideAll (Aq h H) e
 refine ⟨e',?_⟩
 cases q:H b with
 | none=>rfl
 | some x=>
  have hm:b∈Aq h H:=List.mem_filter.mpr ⟨List.mem_range.mpr (Heap.lt_size e'),by simp [q]⟩
  have z:(qu h H).get? b=none:=PySem.W.hideAll_none (Aq h H) hm
  rw [z] at e;cases e
structure Mod (K:W.Frag) (mg:Str->Option Value) (base:Heap):Prop where
 kin:K.In base
 glob:base.Ns mainGlobals mg
 blt:∃ mb,base.Ns builtinsNs mb/\∀ x:Str,x≠"__name__"->mb x=bootBuiltins x
 nolimit:base.NoLimit
 sysm:∃ mm,base.Ns sysModules mm
 bmn:∃ bm ob,mg "__builtins__"=some (.ref bm)/\bm≠builtinsNs/\base.get? bm=some ob/\ob.cls= .type "module"/\ob.dict=some builtinsNs/\ob.data= .plain
structure Cx where
 prog:Program
 w:World
 K:W.Frag
 mg:Str->Option Value
 base:Heap
 A:Around
 N:List Str
 s₀:Shared
 H₀:Hp
 env:Env
 outer:List Env
 stack:List Env
 ex:List Addr
 fn:Str->Bool
 calm:Bool
 pn:List (Addr×Obj)
 xe:Value->Shared->Prop
def frs (l:List Env):List Addr:=l.filterMap (·.frame)
abbrev Cx.fs (X:Cx):List Addr:=frs X.outer
def JL (sc:Scope) (x:Str):Prop:=sc.names.lookup x=some .local\/sc.names.lookup x=some .cell\/sc.names.lookup x=some .free
def Loc (sc:Scope) (x:Str):Prop:=sc.names.lookup x=some .local\/sc.names.lookup x=some .cell
def Look (env:Env) (h:Heap) (m:Str->Option Value) (x:Str) (u:Value):Prop:=
 (env.kindOf x=some .local/\m x=some u)\/((env.kindOf x=some .cell\/env.kindOf x=some .free)/\∃ c,env.cells.lookup x=some c/\h.IsCell c (some u))
structure Cx.Ok (X:Cx):Prop where
 mod:Mod X.K X.mg X.base
 kind:X.env.scope.kind= .function
 glob:X.env.globals=mainGlobals
 blt:X.env.builtins=builtinsNs
 above:X.s₀.heap.objs.size<=X.env.locals
 inj:∀ x y c,X.env.cells.lookup x=some c->X.env.cells.lookup y=some c->x=y
 has:∀ x,(X.env.kindOf x=some .cell\/X.env.kindOf x=some .free)->∃ c,X.env.cells.lookup x=some c
 cab:∀ x c,X.fn x=true->X.env.cells.lookup x=some c->X.s₀.heap.objs.size<=c
 hd:X.calm=true->X.A.handled=none
 frames:X.A.frames=some X.stack
 stk:X.stack=X.outer\/(X.stack=X.env :: X.outer/\X.env.frame=some X.env.locals)
 exf:∀ b∈X.ex,b≠X.env.locals/\∀ x c,X.env.cells.lookup x=some c->c≠b
 bs:∀ b o,X.base.get? b=some o->X.s₀.heap.get? b=some o/\X.H₀ b=none
 bsz:X.base.objs.size<=X.s₀.heap.objs.size
 noex:∀ b o,X.base.get? b=some o->b ∉ X.ex
 exfs:∀ b∈X.ex,b ∉ X.fs
 funs:X.s₀.heap.FunFrames X.base X.outer
 frf:∀ b∈X.fs,X.H₀ b=none
structure Inv (X:Cx) (pins:List (Addr×Obj)) (U:List (Option V)) (H:Hp) (s:Shared):Prop where
 ok:X.Ok
 os:s.os=X.s₀.os
 bare:AllBare s.gens
 base:Un X.fs X.ex X.H₀ H X.s₀.heap s.heap
 loc:∃ m,s.heap.Ns X.env.locals m/\∀ (i:Nat) (x:Str) (v:V),X.N[i]?=some x->U[i]?=some (some v)->JL X.env.scope x->∃ u,RelV v u/\Look X.env s.heap m x u
 cell:∀ x c,X.env.cells.lookup x=some c->∃ v,s.heap.IsCell c v
 free:H X.env.locals=none
 freeC:∀ x c,X.env.cells.lookup x=some c->H c=none
 pin:∀ p∈X.pn ++ pins,s.heap.get? p.1=some p.2/\H p.1=none/\p.1≠X.env.locals/\p.1 ∉ X.fs/\∀ v,p.2.data≠.cell v
 hok:HOk X.prog X.w H s.heap
 len:U.length=X.N.length
section
variable {X:Cx} {pins:List (Addr×Obj)} {U:List (Option V)} {H H':Hp} {s:Shared} {h':Heap}
theorem Cx.Ok.nofr (ok:X.Ok) {b:Addr} {o:Obj} (e:X.base.get? b=some o):b ∉ X.fs:=fun hb=>by
 have:=(ok.funs.mem hb).1
 rw [e] at this;cases this
theorem Inv.bs (I:Inv X pins U H s):∀ b o,X.base.get? b=some o->s.heap.get? b=some o/\H b=none:=fun b o e=>
 ⟨I.base.keep b o (I.ok.bs b o e).1 (I.ok.bs b o e).2 (I.ok.nofr e) (I.ok.noex b o e),I.base.free b o (I.ok.bs b o e).1 (I.ok.bs b o e).2 (I.ok.noex b o e)⟩
theorem Inv.bk (I:Inv X pins U H s):∀ b o,X.base.get? b=some o->s.heap.get? b=some o:=fun b o e=>(I.bs b o e).1
theorem Inv.mod (I:Inv X pins U H s):Mod X.K X.mg X.base:=I.ok.mod
theorem Inv.kIn (I:Inv X pins U H s):X.K.In s.heap:=I.ok.mod.kin.keeps I.bk
theorem Inv.lt (I:Inv X pins U H s):X.env.locals < s.heap.objs.size:=let ⟨_,hn,_⟩:=I.loc;hn.lt
theorem Inv.sz (I:Inv X pins U H s):X.s₀.heap.objs.size<=s.heap.objs.size:=Nat.le_trans I.ok.above (Nat.le_of_lt I.lt)
theorem Inv.nofs (I:Inv X pins U H s) {a:Addr} (h:s.heap.objs.size<=a):a ∉ X.fs:=fun hb=>by
 obtain ⟨_,o,ho,_⟩:=I.ok.funs.mem hb
 exact absurd (Nat.lt_of_lt_of_le (Heap.lt_size ho) (Nat.le_trans I.sz h)) (Nat.lt_irrefl _)
theorem Inv.cne (I:Inv X pins U H s):∀ x c,X.env.cells.lookup x=some c->c≠X.env.locals:=fun x c e z=>by
 obtain ⟨v,o,ho,hd⟩:=I.cell x c e
 obtain ⟨m,⟨o',es,ep,ho',hd',_⟩,_⟩:=I.loc
 rw [z,ho'] at ho;cases ho;rw [hd'] at hd;cases hd
theorem Inv.funs (I:Inv X pins U H s):s.heap.FunFrames X.base X.outer:=by
 have all:∀ (l:List Env),(∀ b∈frs l,b∈X.fs)->X.s₀.heap.FunFrames X.base l->s.heap.FunFrames X.base l:=by
  intro l
  induction l with
  | nil=>intro _ _;trivial
  | cons env r ih=>
   intro hs hl
   obtain ⟨hk,⟨L,o,hf,hn,ho,hd⟩,hr⟩:=hl
   have hL:L∈X.fs:=hs L (by unfold frs;rw [List.filterMap_cons,hf];exact List.mem_cons_self)
   obtain ⟨sl,e⟩:=I.base.slot L o ho (I.ok.frf L hL) hL fun z=>I.ok.exfs L z hL
   exact ⟨hk,⟨L,_,hf,hn,e,hd⟩,ih (fun b hb=>hs b (by unfold frs;rw [List.filterMap_cons,hf];exact List.mem_cons_of_mem _ hb)) hr⟩
 exact all X.outer (fun _ hb=>hb) I.ok.funs
theorem Inv.stack (I:Inv X pins U H s):s.heap.FunFrames X.base X.stack:=by
 rcases I.ok.stk with e | ⟨e,hf⟩
 ·rw [e];exact I.funs
 ·rw [e]
  obtain ⟨m,hn,_⟩:=I.loc
  refine .cons (by rw [I.ok.kind];decide) hf hn ?_ I.funs
  exact Heap.get?_none_of_le (Nat.le_trans I.ok.bsz I.ok.above)
theorem Inv.stkSub (I:Inv X pins U H s):∀ b∈frs X.stack,b∈X.env.locals :: X.fs:=fun b hb=>by
 rcases I.ok.stk with e | ⟨e,hf⟩
 ·rw [e] at hb;exact List.mem_cons_of_mem _ hb
 ·rw [e] at hb
  unfold frs at hb
  rw [List.filterMap_cons,hf] at hb
  exact hb
theorem Inv.stkFree (I:Inv X pins U H s):∀ b∈frs X.stack,H b=none:=fun b hb=>by
 rcases List.mem_cons.mp (I.stkSub b hb) with e | hb
 ·rw [e];exact I.free
 ·obtain ⟨_,o,ho,_⟩:=I.ok.funs.mem hb
  exact I.base.free b o ho (I.ok.frf b hb) fun z=>I.ok.exfs b z hb
theorem Inv.step {g':Array GenState} {t':Nat} {d':Drawn} {ch:List Addr} (I:Inv X pins U H s)
  (hch:∀ b∈ch,(b∈X.ex\/X.s₀.heap.objs.size<=b)/\b≠X.env.locals/\(∀ x c,X.env.cells.lookup x=some c->c≠b)/\∀ p∈X.pn ++ pins,p.1≠b)
  (keep:∀ b o,b≠X.env.locals->b ∉ X.fs->b ∉ ch->s.heap.get? b=some o->H b=none->h'.get? b=some o)
  (slot:∀ b o,b≠X.env.locals->b∈X.fs->b ∉ ch->s.heap.get? b=some o->H b=none->∃ sl,h'.get? b=some {o with slots:=sl}) (free:∀ b o,b ∉ ch->s.heap.get? b=some o->H b=none->H' b=none)
  (there:∀ b o,b ∉ ch->s.heap.get? b=some o->∃ o',h'.get? b=some o')
  (tups:∀ b xs,H b=some (.tup xs)->H' b=some (.tup xs)) (frzs:∀ b o u,H b=some (.frz o u)->H' b=some (.frz o u)) (tbls:∀ b ps,H b=some (.tbl ps)->∃ more,H' b=some (.tbl (ps ++ more)))
  (ns:∀ m,s.heap.Ns X.env.locals m->h'.Ns X.env.locals m) (hok:HOk X.prog X.w H' h') (hg:AllBare g'):
  Inv X pins U H' {s with heap:=h',gens:=g',drawn:=d',toks:=t'}:=by
 have neL:∀ b o,X.s₀.heap.get? b=some o->b≠X.env.locals:=fun b o e=>Nat.ne_of_lt (Nat.lt_of_lt_of_le (Heap.lt_size e) I.ok.above)
 have neC:∀ b o,X.s₀.heap.get? b=some o->b ∉ X.ex->b ∉ ch:=fun b o e hx hb=>by
  rcases (hch b hb).1 with z | z
  ·exact hx z
  ·exact absurd (Nat.lt_of_lt_of_le (Heap.lt_size e) z) (Nat.lt_irrefl _)
 have cellK:∀ x c,X.env.cells.lookup x=some c->∀ v,s.heap.IsCell c v->h'.IsCell c v:=fun x c e v ⟨o,ho,hd⟩=>by
  have nch:c ∉ ch:=fun z=>(hch c z).2.2.1 x c e rfl
  by_cases hc:c∈X.fs
  ·obtain ⟨sl,q⟩:=slot c o (I.cne x c e) hc nch ho (I.freeC x c e)
   exact ⟨_,q,hd⟩
  ·exact ⟨o,keep c o (I.cne x c e) hc nch ho (I.freeC x c e),hd⟩
 refine ⟨I.ok,I.os,hg,⟨fun b o e n hb hx=>?_,fun b o e n hb hx=>?_,fun b o e n hx=>?_,fun b o e hx=>?_,fun b xs e=>tups b xs (I.base.tups b xs e),fun b o xs e=>frzs b o xs (I.base.frzs b o xs e),fun b ps e=>?_⟩,?_,fun x c e=>?_,?_,fun x c e=>?_,fun p hp=>?_,hok,I.len⟩
 ·exact keep b o (neL b o e) hb (neC b o e hx) (I.base.keep b o e n hb hx) (I.base.free b o e n hx)
 ·obtain ⟨sl,e1⟩:=I.base.slot b o e n hb hx
  obtain ⟨sl',e2⟩:=slot b _ (neL b o e) hb (neC b o e hx) e1 (I.base.free b o e n hx)
  exact ⟨sl',e2⟩
 ·obtain ⟨o',e1⟩:=I.base.there b o e hx
  exact free b o' (neC b o e hx) e1 (I.base.free b o e n hx)
 ·obtain ⟨o',e1⟩:=I.base.there b o e hx
  exact there b o' (neC b o e hx) e1
 ·obtain ⟨m1,e1⟩:=I.base.tbls b ps e
  obtain ⟨m2,e2⟩:=tbls b _ e1
  exact ⟨m1 ++ m2,by rw [e2,Array.append_assoc]⟩
 ·obtain ⟨m,hn,hl⟩:=I.loc
  refine ⟨m,ns m hn,fun i x v e1 e2 e3=>?_⟩
  obtain ⟨u,r,l⟩:=hl i x v e1 e2 e3
  refine ⟨u,r,?_⟩
  rcases l with l | ⟨k,c,e,z⟩
  ·exact .inl l
  ·exact .inr ⟨k,c,e,cellK x c e _ z⟩
 ·obtain ⟨v,z⟩:=I.cell x c e
  exact ⟨v,cellK x c e v z⟩
 ·obtain ⟨m,⟨o,_,_,ho,_⟩,_⟩:=I.loc
  exact free _ o (fun z=>(hch _ z).2.1 rfl) ho I.free
 ·obtain ⟨v,o,ho,hd⟩:=I.cell x c e
  exact free c o (fun z=>(hch c z).2.2.1 x c e rfl) ho (I.freeC x c e)
 ·obtain ⟨e,n,ne,nf,d⟩:=I.pin p hp
  have nch:p.1 ∉ ch:=fun z=>(hch p.1 z).2.2.2 p hp rfl
  exact ⟨keep p.1 p.2 ne nf nch e n,free p.1 p.2 nch e n,ne,nf,d⟩
theorem Inv.un {t':Nat} (I:Inv X pins U H s) (u:Un X.fs [] H H' s.heap h') (hok:HOk X.prog X.w H' h'):Inv X pins U H' {s with heap:=h',toks:=t'}:=by
 obtain ⟨m,⟨o,es,ep,ho,r⟩,_⟩:=id I.loc
 obtain ⟨sl,hL⟩:=u.any ho I.free (by simp)
 exact I.step (g':=s.gens) (d':=s.drawn) (ch:=[]) (fun _ z=>nomatch z) (fun b o _ hb _ e n=>u.keep b o e n hb (by simp)) (fun b o _ hb _ e n=>u.slot b o e n hb (by simp)) (fun b o _ e n=>u.free b o e n (by simp)) (fun b o _ e=>u.there b o e (by simp)) u.tups u.frzs u.tbls (fun m' hm=>by
  obtain ⟨o',es',ep',ho',r'⟩:=hm
  rw [ho] at ho';cases ho'
  exact ⟨_,es',ep',hL,r'⟩) hok I.bare
theorem Inv.call {g':Array GenState} {t':Nat} {d':Drawn} {ch:List Addr} (I:Inv X pins U H s) (u:Un (frs X.stack) ch H H' s.heap h') (hok:HOk X.prog X.w H' h') (hg:AllBare g')
  (hch:∀ b∈ch,(b∈X.ex\/X.s₀.heap.objs.size<=b)/\b≠X.env.locals/\(∀ x c,X.env.cells.lookup x=some c->c≠b)/\∀ p∈X.pn ++ pins,p.1≠b):
  Inv X pins U H' {s with heap:=h',gens:=g',drawn:=d',toks:=t'}:=by
 obtain ⟨m,⟨o,es,ep,ho,r⟩,_⟩:=id I.loc
 obtain ⟨sl,hL⟩:=u.any ho I.free fun z=>(hch _ z).2.1 rfl
 exact I.step (ch:=ch) hch (fun b o hL hb hc e n=>u.keep b o e n (fun z=>(List.mem_cons.mp (I.stkSub b z)).elim hL hb) hc) (fun b o _ _ hc e n=>u.any e n hc) (fun b o hc e n=>u.free b o e n hc) (fun b o hc e=>u.there b o e hc) u.tups u.frzs u.tbls (fun m' hm=>by
  obtain ⟨o',es',ep',ho',r'⟩:=hm
  rw [ho] at ho';cases ho'
  exact ⟨_,es',ep',hL,r'⟩) hok hg
theorem Inv.turned {t':Nat} {it:Addr} (I:Inv X pins U H s) (k:∀ b o,b≠it->s.heap.get? b=some o->h'.get? b=some o) (hn:H it=none) (hL:it≠X.env.locals)
  (h1:it∈X.ex\/X.s₀.heap.objs.size<=it) (h2:∀ x c,X.env.cells.lookup x=some c->c≠it) (h3:∀ p∈X.pn ++ pins,p.1≠it):Inv X pins U H {s with heap:=h',toks:=t'}:=by
 have nit:∀ b u,H b=some u->b≠it:=fun b u e z=>by rw [z,hn] at e;cases e
 refine I.step (g':=s.gens) (d':=s.drawn) (ch:=[it]) (fun b hb=>?_) (fun b o _ _ hc e _=>k b o (fun z=>hc (by simp [z])) e) (fun b o _ _ hc e _=>⟨o.slots,k b o (fun z=>hc (by simp [z])) e⟩) (fun _ _ _ _ n=>n)
  (fun b o hc e=>⟨o,k b o (fun z=>hc (by simp [z])) e⟩) (fun _ _ e=>e) (fun _ _ _ e=>e) (fun b ps e=>⟨#[],by rw [e];simp⟩) (fun m hm=>?_) (fun b u e=>?_) I.bare
 ·have e:b=it:=by simpa using hb
  subst e
  exact ⟨h1,hL,h2,h3⟩
 ·obtain ⟨o,es,ep,ho,r⟩:=hm
  exact ⟨o,es,ep,k _ o (Ne.symm hL) ho,r⟩
 ·refine (I.hok b u e).stay (fun c v hc q=>k c v ?_ q) (fun _ q=>q) fun _ _ q=>q
  rcases hc with z | z
  ·rw [z];exact nit b u e
  ·exact nit c _ z
theorem Inv.tok (I:Inv X pins U H s) (t:Nat):Inv X pins U H {s with toks:=t}:=I.un (h':=s.heap) (t':=t) Un.refl I.hok
theorem Inv.kept {t':Nat} (I:Inv X pins U H s) (k:∀ b u,s.heap.get? b=some u->h'.get? b=some u):Inv X pins U H {s with heap:=h',toks:=t'}:=I.un (Un.kept k) (I.hok.kept k)
theorem Inv.laid {a:Addr} {o:HO} {t':Nat} (I:Inv X pins U H s) (k:∀ b u,s.heap.get? b=some u->h'.get? b=some u) (hp:s.heap.objs.size<=a) (new:ObjOk X.prog X.w (upd H a o) h' a o):
  Inv X pins U (upd H a o) {s with heap:=h',toks:=t'}:=I.un (Un.laid k hp (I.hok.fresh hp)) (I.hok.laid k hp new)
theorem Inv.write {x e:Addr} {o:HO} {t':Nat} (I:Inv X pins U H s) (mu:JK (H x)) (he:e=x\/H e=some (.own x)) (k:∀ b u,b≠e->s.heap.get? b=some u->h'.get? b=some u) (heo:∃ u,h'.get? e=some u)
  (new:ObjOk X.prog X.w (upd H x o) h' x o):Inv X pins U (upd H x o) {s with heap:=h',toks:=t'}:=I.un (Un.write mu he k heo) (I.hok.write mu he k heo new)
theorem Inv.weak {U':List (Option V)} (I:Inv X pins U H s) (hl:U'.length=U.length) (w:∀ (i:Nat) v,U'[i]?=some (some v)->U[i]?=some (some v)):Inv X pins U' H s:=
 ⟨I.ok,I.os,I.bare,I.base,let ⟨m,hn,hl'⟩:=I.loc;⟨m,hn,fun i x v e1 e2 e3=>hl' i x v e1 (w i v e2) e3⟩,I.cell,I.free,I.freeC,I.pin,I.hok,hl.trans I.len⟩
theorem Inv.pins_of {pins':List (Addr×Obj)} (I:Inv X pins U H s) (h:∀ p∈pins',s.heap.get? p.1=some p.2/\H p.1=none/\p.1≠X.env.locals/\p.1 ∉ X.fs/\∀ v,p.2.data≠.cell v):Inv X pins' U H s:=
 ⟨I.ok,I.os,I.bare,I.base,I.loc,I.cell,I.free,I.freeC,fun p hp=>(List.mem_append.mp hp).elim (fun z=>I.pin p (List.mem_append_left _ z)) (h p),I.hok,I.len⟩
theorem rn {N:List Str} (hN:N.Nodup) {i j:Nat} {x:Str} (a:N[i]?=some x) (b:N[j]?=some x):i=j:=by
 obtain ⟨h1,e1⟩:=List.getElem?_eq_some_iff.mp a
 obtain ⟨h2,e2⟩:=List.getElem?_eq_some_iff.mp b
 exact (List.getElem_inj hN).mp (e1.trans e2.symm)
theorem pL {M:Model} {A:Around} {E:Value->Shared->Prop} {i:Nat} {x:Str} {v:V} {u:Value} {Q:Unit->Shared->Prop} (I:Inv X pins U H s) (hN:X.N.Nodup) (hi:X.N[i]?=some x) (hx:Loc X.env.scope x) (r:RelV v u)
  (h:∀ s',Inv X pins (U.set i (some v)) H s'->(∃ a,Heap.SameBut a s.heap s'.heap/\(a=X.env.locals\/X.env.cells.lookup x=some a))->Q () s') (hf:autoParam (X.fn x=true\/X.env.scope.names.lookup x=some .local) L2.auto1._auto_1):wpAny M A (storeName X.env x u) Q E s:=by
 obtain ⟨m,hn,hl⟩:=id I.loc
 have hcls:(X.env.scope.kind == .class || (X.env.scope.kind == .module && X.env.locals != X.env.globals))=false:=by rw [I.ok.kind];rfl
 have hiU:i < U.length:=by rw [I.len];exact (List.getElem?_eq_some_iff.mp hi).1
 have cne:=I.cne
 have tracked:∀ {a:Addr} {h':Heap},(∃ o,s.heap.get? a=some o/\H a=none)->Heap.SameBut a s.heap h'->HOk X.prog X.w H h':=fun {a h'} ha hs b ob e=>by
  obtain ⟨_,_,hfree⟩:=ha
  refine (I.hok b ob e).stay (fun c w' hc q=>(hs.2 c ?_).trans q) (fun _ q=>q) fun _ _ q=>q
  rintro rfl
  rcases hc with rfl | hc
  ·rw [hfree] at e;cases e
  ·rw [hfree] at hc;cases hc
 rcases hx with hk | hk
 ·refine wpAny_storeName_local hk hn (fun h' hn' hs=>?_) hcls
  obtain ⟨oL,_,_,hoL,_⟩:=id hn
  refine h _ ⟨I.ok,I.os,I.bare,⟨fun b o e n hb hx=>?_,fun b o e n hb hx=>?_,I.base.free,fun b o e hx=>?_,I.base.tups,I.base.frzs,I.base.tbls⟩,⟨_,hn',fun j y v' e1 e2 e3=>?_⟩,fun y c e=>?_,I.free,I.freeC,fun p hp=>?_,tracked ⟨oL,hoL,I.free⟩ hs,by simpa using I.len⟩ ⟨_,hs,.inl rfl⟩
  ·exact (hs.2 b (Nat.ne_of_lt (Nat.lt_of_lt_of_le (Heap.lt_size e) I.ok.above))).trans (I.base.keep b o e n hb hx)
  ·obtain ⟨sl,e1⟩:=I.base.slot b o e n hb hx
   exact ⟨sl,(hs.2 b (Nat.ne_of_lt (Nat.lt_of_lt_of_le (Heap.lt_size e) I.ok.above))).trans e1⟩
  ·obtain ⟨o',e1⟩:=I.base.there b o e hx
   exact ⟨o',(hs.2 b (Nat.ne_of_lt (Nat.lt_of_lt_of_le (Heap.lt_size e) I.ok.above))).trans e1⟩
  ·by_cases hj:j=i
   ·subst hj
    rw [hi] at e1;cases e1
    rw [List.getElem?_set_self hiU] at e2
    cases e2
    exact ⟨u,r,.inl ⟨hk,by simp⟩⟩
   ·rw [List.getElem?_set_ne (Ne.symm hj)] at e2
    obtain ⟨u',r',q⟩:=hl j y v' e1 e2 e3
    refine ⟨u',r',?_⟩
    rcases q with ⟨k,e⟩ | ⟨k,c,e,z⟩
    ·refine .inl ⟨k,?_⟩
     have:y≠x:=fun e=>hj (rn hN e1 (e ▸ hi))
     simp [this,e]
    ·exact .inr ⟨k,c,e,z.sameBut hs (cne y c e)⟩
  ·obtain ⟨w',z⟩:=I.cell y c e
   exact ⟨w',z.sameBut hs (cne y c e)⟩
  ·obtain ⟨e,n,ne,nf,d⟩:=I.pin p hp
   exact ⟨(hs.2 p.1 ne).trans e,n,ne,nf,d⟩
 ·have hfn:X.fn x=true:=by
   rcases hf with z | z
   ·exact z
   ·rw [z] at hk;cases hk
  obtain ⟨c,hc⟩:=I.ok.has x (.inl hk)
  obtain ⟨w',z⟩:=I.cell x c hc
  refine wpAny_storeName_cell I.ok.kind hk hc z (fun h' hc' hs=>?_)
  obtain ⟨oc,hoc,hocd⟩:=id z
  refine h {s with heap:=h'} ⟨I.ok,I.os,I.bare,⟨fun b o e n hb hx=>?_,fun b o e n hb hx=>?_,I.base.free,fun b o e hx=>?_,I.base.tups,I.base.frzs,I.base.tbls⟩,⟨m,hn.sameBut hs (Ne.symm (cne x c hc)),fun j y v' e1 e2 e3=>?_⟩,fun y c' e=>?_,I.free,I.freeC,fun p hp=>?_,tracked ⟨oc,hoc,I.freeC x c hc⟩ hs,by simpa using I.len⟩ ⟨c,hs,.inr hc⟩
  ·exact (hs.2 b (Nat.ne_of_lt (Nat.lt_of_lt_of_le (Heap.lt_size e) (I.ok.cab x c hfn hc)))).trans (I.base.keep b o e n hb hx)
  ·obtain ⟨sl,e1⟩:=I.base.slot b o e n hb hx
   exact ⟨sl,(hs.2 b (Nat.ne_of_lt (Nat.lt_of_lt_of_le (Heap.lt_size e) (I.ok.cab x c hfn hc)))).trans e1⟩
  ·obtain ⟨o',e1⟩:=I.base.there b o e hx
   exact ⟨o',(hs.2 b (Nat.ne_of_lt (Nat.lt_of_lt_of_le (Heap.lt_size e) (I.ok.cab x c hfn hc)))).trans e1⟩
  ·by_cases hj:j=i
   ·subst hj
    rw [hi] at e1;cases e1
    rw [List.getElem?_set_self hiU] at e2
    cases e2
    exact ⟨u,r,.inr ⟨.inl hk,c,hc,hc'⟩⟩
   ·rw [List.getElem?_set_ne (Ne.symm hj)] at e2
    obtain ⟨u',r',q⟩:=hl j y v' e1 e2 e3
    refine ⟨u',r',?_⟩
    rcases q with q | ⟨k,c',e,z'⟩
    ·exact .inl q
    ·refine .inr ⟨k,c',e,z'.sameBut hs ?_⟩
     rintro rfl
     exact hj (rn hN e1 (I.ok.inj _ _ _ e hc ▸ hi))
  ·by_cases hcc:c'=c
   ·subst hcc;exact ⟨_,hc'⟩
   ·obtain ⟨w2,z2⟩:=I.cell y c' e
    exact ⟨w2,z2.sameBut hs hcc⟩
  ·obtain ⟨e,n,ne,nf,d⟩:=I.pin p hp
   refine ⟨(hs.2 p.1 ?_).trans e,n,ne,nf,d⟩
   intro q
   rw [q,hoc] at e
   have q':oc=p.2:=Option.some.inj e
   exact d w' (by rw [← q'];exact hocd)
theorem rz {M:Model} {A:Around} {E:Value->Shared->Prop} {i:Nat} {x:Str} {v:V} {u:Value} {Q:Unit->Shared->Prop} (I:Inv X pins U H s) (hN:X.N.Nodup) (hi:X.N[i]?=some x) (hx:Loc X.env.scope x) (r:RelV v u)
  (h:∀ s',Inv X pins (U.set i (some v)) H s'->Q () s') (hf:autoParam (X.fn x=true\/X.env.scope.names.lookup x=some .local) L2.auto1._auto_1):wpAny M A (storeName X.env x u) Q E s:=
 pL I hN hi hx r (fun s' I' _=>h s' I') hf
theorem Inv.call' {s':Shared} {ch:List Addr} (I:Inv X pins U H s) (ho:s'.os=s.os) (u:Un (frs X.stack) ch H H' s.heap s'.heap) (hok:HOk X.prog X.w H' s'.heap) (hg:AllBare s'.gens)
  (hch:∀ b∈ch,(b∈X.ex\/X.s₀.heap.objs.size<=b)/\b≠X.env.locals/\(∀ x c,X.env.cells.lookup x=some c->c≠b)/\∀ p∈X.pn ++ pins,p.1≠b):Inv X pins U H' s':=by
 obtain ⟨h',g',d',t',o'⟩:=s'
 have e:o'=s.os:=ho
 subst e
 exact I.call (g':=g') (t':=t') (d':=d') u hok hg hch
end
abbrev XK:=Value->Option Addr->Hp->Prop
abbrev St:=List (Option V)
abbrev VK:=V->Hp->Prop
abbrev TE:=St->Hp->VK->Prop
abbrev TT:=St->Hp->(Bool->Hp->Prop)->Prop
abbrev TA:=St->Hp->(List V->Hp->Prop)->Prop
structure Ends where
 nx:St->Hp->Prop
 rt:VK
 bk:St->Hp->Prop:=fun _ _=>False
 ct:St->Hp->Prop:=fun _ _=>False
abbrev TS:=Ends->St->Hp->Prop
def EP (X:Cx) (pins:List (Addr×Obj)) (U:St) (Q:VK) (u:Value) (s':Shared):Prop:=∃ v H',Inv X pins U H' s'/\RelV v u/\Q v H'
def TP (X:Cx) (pins:List (Addr×Obj)) (U:St) (Q:Bool->Hp->Prop) (b:Bool) (s':Shared):Prop:=∃ H',Inv X pins U H' s'/\Q b H'
def AP (X:Cx) (pins:List (Addr×Obj)) (U:St) (Q:List V->Hp->Prop) (us:List Value) (s':Shared):Prop:=∃ vs H',Inv X pins U H' s'/\Vals vs us/\Q vs H'
def SP (X:Cx) (pins:List (Addr×Obj)) (D:Ends) (f:Flow) (s':Shared):Prop:=
 match f with
 | .next=>∃ U' H',Inv X pins U' H' s'/\D.nx U' H'
 | .brk=>∃ U' H',Inv X pins U' H' s'/\D.bk U' H'
 | .cont=>∃ U' H',Inv X pins U' H' s'/\D.ct U' H'
 | .ret u=>∃ v U' H',Inv X pins U' H' s'/\RelV v u/\D.rt v H'
def PE (X:Cx) (e:Expr) (t:TE):Prop:=
 ∀ (pins:List (Addr×Obj)) (s:Shared) (U:St) (H:Hp) (Q:VK),Inv X pins U H s->t U H Q->wpAny (model X.prog X.w) X.A (eval e X.env) (EP X pins U Q) X.xe s
def PT (X:Cx) (e:Expr) (t:TT):Prop:=
 ∀ (pins:List (Addr×Obj)) (s:Shared) (U:St) (H:Hp) (Q:Bool->Hp->Prop),Inv X pins U H s->t U H Q->wpAny (model X.prog X.w) X.A (isTrue e X.env (eval e X.env)) (TP X pins U Q) X.xe s
def PW (X:Cx) (e:Expr) (t:TT):Prop:=
 ∀ (whole:Sem Value) (pins:List (Addr×Obj)) (s:Shared) (U:St) (H:Hp) (Q:Bool->Hp->Prop),Inv X pins U H s->t U H Q->wpAny (model X.prog X.w) X.A (isTrue e X.env whole) (TP X pins U Q) X.xe s
theorem PW.pt {X:Cx} {e:Expr} {t:TT} (h:PW X e t):PT X e t:=h _
def PA (X:Cx) (es:List Expr) (t:TA):Prop:=
 ∀ (pos:Pos) (pins:List (Addr×Obj)) (s:Shared) (U:St) (H:Hp) (Q:List V->Hp->Prop),Inv X pins U H s->t U H Q->wpAny (model X.prog X.w) X.A (spliced (backTo pos (starEach es X.env))) (AP X pins U Q) X.xe s
def PS (X:Cx) (st:Stmt) (t:TS):Prop:=
 ∀ (pins:List (Addr×Obj)) (s:Shared) (U:St) (H:Hp) (D:Ends),Inv X pins U H s->t D U H->wpAny (model X.prog X.w) X.A (exec st X.env) (SP X pins D) X.xe s
def PSs (X:Cx) (st:List Stmt) (t:TS):Prop:=
 ∀ (pins:List (Addr×Obj)) (s:Shared) (U:St) (H:Hp) (D:Ends),Inv X pins U H s->t D U H->wpAny (model X.prog X.w) X.A (execs st X.env) (SP X pins D) X.xe s
theorem cP {α:Type} {t:Sem α} {Q Q':α->Shared->Prop} {M:Model} {A:Around} {E:Value->Shared->Prop} {s:Shared} (h:wpAny M A t Q E s) (hQ:∀ a s,Q a s->Q' a s):wpAny M A t Q' E s:=wpAny_mono h hQ fun _ _ x=>x
section
variable {X:Cx}
def nJ (i:Nat):TE:=fun U H Q=>∃ v,U[i]?=some (some v)/\Q v H
def tC (v:V):TE:=fun _ H Q=>Q v H
theorem nM {i:Nat} {x:Str} {pos:Pos} (hN:X.N[i]?=some x) (hv:JL X.env.scope x) (hd:autoParam ((x == ("__debug__":Str))=false) L2.auto2._auto_1) (hcd:autoParam ((x == ("__classdict__":Str))=false) L2.auto2._auto_1):PE X (.Name x pos) (nJ i):=by
 intro pins s U H Q I h
 obtain ⟨v,e,h⟩:=h
 obtain ⟨m,hn,hl⟩:=I.loc
 obtain ⟨u,r,l⟩:=hl i x v hN e hv
 have fin:EP X pins U Q u s:=⟨v,H,I,r,h⟩
 rcases l with ⟨hk,hm⟩ | ⟨hk,c,hc,hcell⟩
 ·exact wpAny_Name (wpAny_loadName_local I.ok.kind hk hn hm fin) hd
 ·rcases hk with hk | hk
  ·exact wpAny_Name (wpAny_loadName_cell I.ok.kind hk hc hcell fin) hd
  ·exact wpAny_Name (wpAny_loadName_free I.ok.kind hk hc hcell fin hcd) hd
theorem Fv {i j pos}:PE X (.Constant (.int i) j pos) (tC (.int i)):=fun _ _ _ H _ I h=>wpAny_Constant_int ⟨.int i,H,I.tok _,⟨_,rfl⟩,h⟩
theorem JM {b j pos}:PE X (.Constant (.bool b) j pos) (tC (.bl b)):=fun _ _ _ H _ I h=>Constant_bool ⟨.bl b,H,I,rfl,h⟩
theorem Fw {j pos}:PE X (.Constant .none j pos) (tC .non):=fun _ _ _ H _ I h=>Constant_none ⟨.non,H,I,rfl,h⟩
def Gl (X:Cx) (x:Str):Prop:=X.env.kindOf x=some .globalImplicit
theorem qw {E:Value->Shared->Prop} {pins:List (Addr×Obj)} {s:Shared} {U:St} {H:Hp} {x:Str} {u:Value} {pos:Pos} {Q:Value->Shared->Prop} (I:Inv X pins U H s) (hg:Gl X x) (hm:X.mg x=some u) (h:Q u s)
  (hd:autoParam ((x == ("__debug__":Str))=false) L2.auto2._auto_1):wpAny (model X.prog X.w) X.A (eval (.Name x pos) X.env) Q E s:=
 Calls.Name_function_global I.ok.kind hg (Calls.loadGlobal_global (by rw [I.ok.glob];exact I.mod.glob.keeps I.bk) hm h) hd
theorem fX {E:Value->Shared->Prop} {pins:List (Addr×Obj)} {s:Shared} {U:St} {H:Hp} {x:Str} {u:Value} {pos:Pos} {Q:Value->Shared->Prop} (I:Inv X pins U H s) (hg:Gl X x) (hm:X.mg x=none) (hv:bootBuiltins x=some u) (h:Q u s)
  (hn:autoParam (x≠"__name__") L2.auto2._auto_1) (hd:autoParam ((x == ("__debug__":Str))=false) L2.auto2._auto_1):wpAny (model X.prog X.w) X.A (eval (.Name x pos) X.env) Q E s:=by
 obtain ⟨mb,h1,h2⟩:=I.mod.blt
 exact Calls.Name_function_global I.ok.kind hg (Calls.loadGlobal_builtin (by rw [I.ok.glob];exact I.mod.glob.keeps I.bk) hm (by rw [I.ok.blt];exact h1.keeps I.bk) ((h2 x hn).trans hv) h) hd
theorem Ax {x:Str} {v:V} {u:Value} {pos:Pos} (hg:Gl X x) (hm:X.mg x=some u) (r:RelV v u) (hd:autoParam ((x == ("__debug__":Str))=false) L2.auto2._auto_1):PE X (.Name x pos) (tC v):=
 fun _ _ _ H _ I h=>qw I hg hm ⟨v,H,I,r,h⟩ hd
theorem Ay {x:Str} {v:V} {u:Value} {pos:Pos} (hg:Gl X x) (hm:X.mg x=none) (hv:bootBuiltins x=some u) (r:RelV v u) (hn:autoParam (x≠"__name__") L2.auto2._auto_1) (hd:autoParam ((x == ("__debug__":Str))=false) L2.auto2._auto_1):PE X (.Name x pos) (tC v):=
 fun _ _ _ H _ I h=>fX I hg hm hv ⟨v,H,I,r,h⟩ hn hd
variable {a b:Expr} {ta tb:TE} {pos:Pos}
def tB (t:TE):TT:=fun U H Q=>t U H fun x H1=>∃ c,x= .bl c/\Q c H1
theorem Fx {e:Expr} {t:TE} (h:PE X e t) (he:autoParam (∀ whole,isTrue e X.env whole=(do let v ← whole;standAt e.pos;holding [v] (truthy v))) L2.auto3._auto_1):PT X e (tB t):=by
 intro pins s U H Q I hw
 refine isTrue_plain (cP (h pins s U H _ I hw) fun v s1 qq0=>?_) (he _)
 obtain ⟨x,H1,I1,r1,q1⟩:=qq0
 obtain ⟨d,rfl,q⟩:=q1
 cases r1
 exact wpAny_truthy_bool ⟨H1,I1,q⟩
variable {tA tB':TT} {rest:List Expr}
def Fy (t u:TT):TT:=fun U H Q=>t U H fun c H1=>if c=true then u U H1 Q else Q false H1
def tOr (t u:TT):TT:=fun U H Q=>t U H fun c H1=>if c=true then Q true H1 else u U H1 Q
def Fz (t:TT):TT:=fun U H Q=>t U H fun c H1=>Q (!c) H1
theorem Az (ha:PT X a tA):PW X (.BoolOp .And [a] pos) tA:=by
 intro wh pins s U H Q I h
 refine isTrue_and (cP (ha pins s U H Q I h) fun c s1 e=>?_)
 cases c with
 | true=>exact isTrue_and_nil e
 | false=>exact e
theorem FJ (ha:PT X a tA):PW X (.BoolOp .Or [a] pos) tA:=by
 intro wh pins s U H Q I h
 refine isTrue_or (cP (ha pins s U H Q I h) fun c s1 e=>?_)
 cases c with
 | false=>exact isTrue_or_nil e
 | true=>exact e
theorem FN (ha:PT X a tA) (hb:PW X (.BoolOp .And (b :: rest) pos) tB'):PW X (.BoolOp .And (a :: b :: rest) pos) (Fy tA tB'):=by
 intro wh pins s U H Q I h
 refine isTrue_and (cP (ha pins s U H _ I h) fun c s1 qq0=>?_)
 obtain ⟨H1,I1,q1⟩:=qq0
 cases c with
 | true=>exact hb wh pins s1 U H1 Q I1 q1
 | false=>exact ⟨H1,I1,q1⟩
theorem JN (ha:PT X a tA) (hb:PW X (.BoolOp .Or (b :: rest) pos) tB'):PW X (.BoolOp .Or (a :: b :: rest) pos) (tOr tA tB'):=by
 intro wh pins s U H Q I h
 refine isTrue_or (cP (ha pins s U H _ I h) fun c s1 qq0=>?_)
 obtain ⟨H1,I1,q1⟩:=qq0
 cases c with
 | true=>exact ⟨H1,I1,q1⟩
 | false=>exact hb wh pins s1 U H1 Q I1 q1
theorem FP (ha:PT X a tA):PT X (.UnaryOp .Not a pos) (Fz tA):=by
 intro pins s U H Q I h
 exact isTrue_not (ha pins s U H (fun c H1=>Q (!c) H1) I h)
def xf (ta tb:TE):TE:=fun U H Q=>ta U H fun x H1=>∃ c,x= .bl c/\if c=true then tb U H1 Q else Q (.bl false) H1
def FQ (ta tb:TE):TE:=fun U H Q=>ta U H fun x H1=>∃ c,x= .bl c/\if c=true then Q (.bl true) H1 else tb U H1 Q
def xg (ta:TE):TE:=fun U H Q=>ta U H fun x H1=>∃ c,x= .bl c/\Q (.bl (!c)) H1
theorem FT {op} {t:TE} (h:PE X a t):PE X (.BoolOp op [a] pos) t:=fun pins s U H Q I hw=>BoolOp_one (h pins s U H Q I hw)
theorem FW (ha:PE X a ta) (hb:PE X (.BoolOp .And (b :: rest) pos) tb):PE X (.BoolOp .And (a :: b :: rest) pos) (xf ta tb):=by
 intro pins s U H Q I h
 refine BoolOp_and (cP (ha pins s U H _ I h) fun v s1 qq0=>?_)
 obtain ⟨x,H1,I1,r1,q1⟩:=qq0
 obtain ⟨c,rfl,q1⟩:=q1
 cases r1
 refine wpAny_truthy_bool ?_
 cases c with
 | true=>exact hb pins s1 U H1 Q I1 q1
 | false=>exact ⟨.bl false,H1,I1,rfl,q1⟩
theorem JP (ha:PE X a ta) (hb:PE X (.BoolOp .Or (b :: rest) pos) tb):PE X (.BoolOp .Or (a :: b :: rest) pos) (FQ ta tb):=by
 intro pins s U H Q I h
 refine BoolOp_or (cP (ha pins s U H _ I h) fun v s1 qq0=>?_)
 obtain ⟨x,H1,I1,r1,q1⟩:=qq0
 obtain ⟨c,rfl,q1⟩:=q1
 cases r1
 refine wpAny_truthy_bool ?_
 cases c with
 | false=>exact hb pins s1 U H1 Q I1 q1
 | true=>exact ⟨.bl true,H1,I1,rfl,q1⟩
theorem FZ (ha:PE X a ta):PE X (.UnaryOp .Not a pos) (xg ta):=by
 intro pins s U H Q I h
 refine UnaryOp_ (cP (ha pins s U H _ I h) fun v s1 qq0=>?_)
 obtain ⟨x,H1,I1,r1,q1⟩:=qq0
 obtain ⟨c,rfl,q1⟩:=q1
 cases r1
 exact not_of (wpAny_truthy_bool ⟨.bl (!c),H1,I1,rfl,q1⟩)
def tIf (t:TT) (ta tb:TE):TE:=fun U H Q=>t U H fun c H1=>if c=true then ta U H1 Q else tb U H1 Q
theorem xj {c:Expr} (hc:PT X c tA) (ha:PE X a ta) (hb:PE X b tb):PE X (.IfExp c a b pos) (tIf tA ta tb):=by
 intro pins s U H Q I h
 refine wpAny_IfExp (cP (hc pins s U H _ I h) fun d s1 qq0=>?_)
 obtain ⟨H1,I1,q1⟩:=qq0
 cases d with
 | true=>exact ha pins s1 U H1 Q I1 q1
 | false=>exact hb pins s1 U H1 Q I1 q1
end
def SqL (K:W.Frag) (H:Hp) (a:Addr) (xs:List V):Prop:=
 Rd H a (.lst xs)\/
  ∃ (o:Obj) (its:Array Value) (n:Nat),K.lookup a=some o/\o.cls= .type "list"/\o.dict=none/\o.data= .seq its n/\its.size<=sizeLine/\Vals xs its.toList
def SqT (K:W.Frag) (H:Hp) (a:Addr) (xs:List V):Prop:=
 Rd H a (.tup xs)\/
  ∃ (o:Obj) (its:Array Value) (n:Nat),K.lookup a=some o/\o.cls= .type "tuple"/\o.data= .seq its n/\its.size<=sizeLine/\Vals xs its.toList
def absV:Value->Option V
 | .none=>some .non
 | .bool b=>some (.bl b)
 | .int i _=>some (.int i)
 | .str x _=>some (.str x)
 | .bytes b _=>some (.byt b)
 | .float b _=>some (.flt b)
 | .ref a=>some (.ref a)
 | .type n=>some (.ty n)
 | _=>none
theorem RelV.abs {x:V} {u:Value} (r:RelV x u):absV u=some x:=by
 cases x with
 | non=>cases r;rfl
 | bl _=>cases r;rfl
 | int _=>obtain ⟨t,rfl⟩:=r;rfl
 | str _=>obtain ⟨t,rfl⟩:=r;rfl
 | byt _=>obtain ⟨t,rfl⟩:=r;rfl
 | flt _=>obtain ⟨t,rfl⟩:=r;rfl
 | ref _=>cases r;rfl
 | ty _=>cases r;rfl
theorem RelV.inj {x y:V} {u:Value} (r:RelV x u) (q:RelV y u):x=y:=Option.some.inj (r.abs.symm.trans q.abs)
theorem Vals.inj:∀ {xs ys:List V} {us:List Value},Vals xs us->Vals ys us->xs=ys
 | _,_,_,.nil,.nil=>rfl
 | _,_,_,.cons r t,.cons r' t'=>by rw [r.inj r',Vals.inj t t']
section
variable {X:Cx} {pins:List (Addr×Obj)} {U:St} {H:Hp} {s:Shared} {a:Addr} {xs ys:List V}
theorem SqL.of {K:W.Frag} (h:H a=some (.lst xs)):SqL K H a xs:=.inl (.inl h)
theorem SqT.of {K:W.Frag} (h:H a=some (.tup xs)):SqT K H a xs:=.inl (.inl h)
theorem Inv.list (I:Inv X pins U H s) (h:SqL X.K H a xs):∃ its:List Value,Vals xs its/\PlainL s.heap a its.toArray/\xs.length<=sizeLine:=by
 rcases h with h | ⟨o,its,n,hk,hc,hd,hs,hz,r⟩
 ·obtain ⟨z,its,n,r,e⟩:=h.ok I.hok
  exact ⟨its,r,⟨_,n,e,rfl,rfl,rfl⟩,z⟩
 ·refine ⟨its.toList,r,⟨o,n,I.kIn a o hk,hc,hd,by simpa using hs⟩,?_⟩
  have e:=r.length
  simp only [Array.length_toList] at e
  omega
theorem Inv.tuple (I:Inv X pins U H s) (h:SqT X.K H a xs):∃ its:List Value,Vals xs its/\IsTup s.heap a its.toArray/\xs.length<=sizeLine:=by
 rcases h with h | ⟨o,its,n,hk,hc,hs,hz,r⟩
 ·obtain ⟨z,its,r,p⟩:=h.ok I.hok
  exact ⟨its,r,p,z⟩
 ·refine ⟨its.toList,r,⟨o,I.kIn a o hk,hc,n,by simpa using hs⟩,?_⟩
  have e:=r.length
  simp only [Array.length_toList] at e
  omega
theorem Inv.list_inj (I:Inv X pins U H s) (h:SqL X.K H a xs) (h':SqL X.K H a ys):xs=ys:=by
 obtain ⟨its,r,⟨o,n,e,_,_,d⟩,_⟩:=I.list h
 obtain ⟨its',r',⟨o',n',e',_,_,d'⟩,_⟩:=I.list h'
 rw [e] at e';cases e'
 rw [d] at d'
 injection d' with d1 _
 have:its=its':=by simpa using congrArg Array.toList d1
 subst this
 exact r.inj r'
theorem Inv.tuple_inj (I:Inv X pins U H s) (h:SqT X.K H a xs) (h':SqT X.K H a ys):xs=ys:=by
 obtain ⟨its,r,⟨o,e,_,n,d⟩,_⟩:=I.tuple h
 obtain ⟨its',r',⟨o',e',_,n',d'⟩,_⟩:=I.tuple h'
 rw [e] at e';cases e'
 rw [d] at d'
 injection d' with d1 _
 have:its=its':=by simpa using congrArg Array.toList d1
 subst this
 exact r.inj r'
end
abbrev Cx.wish (X:Cx) (E:Value->Shared->Prop):Cx:={X with xe:=E}
abbrev Cx.nox (X:Cx):Cx:=X.wish fun _ _=>False
theorem Cx.Ok.wish {X:Cx} (ok:X.Ok) (E:Value->Shared->Prop):(X.wish E).Ok:=
 ⟨ok.mod,ok.kind,ok.glob,ok.blt,ok.above,ok.inj,ok.has,ok.cab,ok.hd,ok.frames,ok.stk,ok.exf,ok.bs,ok.bsz,ok.noex,ok.exfs,ok.funs,ok.frf⟩
theorem Cx.Ok.unwish {X:Cx} {E:Value->Shared->Prop} (ok:(X.wish E).Ok):X.Ok:=
 ⟨ok.mod,ok.kind,ok.glob,ok.blt,ok.above,ok.inj,ok.has,ok.cab,ok.hd,ok.frames,ok.stk,ok.exf,ok.bs,ok.bsz,ok.noex,ok.exfs,ok.funs,ok.frf⟩
section
variable {X:Cx} {pins:List (Addr×Obj)} {U:St} {H:Hp} {s:Shared} {E:Value->Shared->Prop}
theorem Inv.wish (I:Inv X pins U H s) (E:Value->Shared->Prop):Inv (X.wish E) pins U H s:=⟨I.ok.wish E,I.os,I.bare,I.base,I.loc,I.cell,I.free,I.freeC,I.pin,I.hok,I.len⟩
theorem Inv.unwish (I:Inv (X.wish E) pins U H s):Inv X pins U H s:=⟨I.ok.unwish,I.os,I.bare,I.base,I.loc,I.cell,I.free,I.freeC,I.pin,I.hok,I.len⟩
theorem SP.unwish {D:Ends} {f:Flow} {s':Shared} (h:SP (X.wish E) pins D f s'):SP X pins D f s':=by
 cases f with
 | next=>obtain ⟨U',H',I,q⟩:=h;exact ⟨U',H',I.unwish,q⟩
 | brk=>obtain ⟨U',H',I,q⟩:=h;exact ⟨U',H',I.unwish,q⟩
 | cont=>obtain ⟨U',H',I,q⟩:=h;exact ⟨U',H',I.unwish,q⟩
 | ret u=>obtain ⟨v,U',H',I,r,q⟩:=h;exact ⟨v,U',H',I.unwish,r,q⟩
theorem PE.nox {e:Expr} {t:TE} (h:PE X.nox e t):PE X e t:=fun pins s U H Q I hw=>
 wpAny_mono (h pins s U H Q (I.wish _) hw) (fun _ _ ⟨v,H',I',r,q⟩=>⟨v,H',I'.unwish,r,q⟩) fun _ _ z=>False.elim z
theorem PSs.nox {st:List Stmt} {t:TS} (h:PSs X.nox st t):PSs X st t:=fun pins s U H D I hw=>
 wpAny_mono (h pins s U H D (I.wish _) hw) (fun _ _ q=>q.unwish) fun _ _ z=>False.elim z
end
section
variable {X:Cx} {st:Stmt} {rest:List Stmt} {t u:TS} {e:Expr} {te:TE} {pos:Pos}
def xm:TS:=fun D U H=>D.nx U H
def xn (t u:TS):TS:=fun D U H=>t {D with nx:=u D} U H
theorem Ba:PSs X [] xm:=fun _ _ U H _ I h=>wpAny_execs_nil ⟨U,H,I,h⟩
theorem xq (h1:PS X st t) (h2:PSs X rest u):PSs X (st :: rest) (xn t u):=by
 intro pins s U H D I h
 refine wpAny_execs_cons (cP (h1 pins s U H {D with nx:=u D} I h) fun f s1 q=>?_)
 cases f with
 | next=>
  obtain ⟨U',H',I',q⟩:=q
  exact h2 pins s1 U' H' D I' q
 | ret v=>exact q
 | brk=>exact q
 | cont=>exact q
theorem Bb (h1:PS X st t):PSs X [st] t:=by
 intro pins s U H D I h
 refine wpAny_execs_cons (cP (h1 pins s U H D I h) fun f s1 q=>?_)
 cases f with
 | next=>exact wpAny_execs_nil q
 | ret v=>exact q
 | brk=>exact q
 | cont=>exact q
def Eg:TS:=fun D U H=>D.ct U H
theorem rB:PS X (.Continue pos) Eg:=fun _ _ U H _ I h=>wpAny_Continue ⟨U,H,I,h⟩
theorem Inv.quiet {pins:List (Addr×Obj)} {U:St} {H:Hp} {s:Shared} (I:Inv X pins U H s):interactive X.env=false:=by simp [interactive,I.ok.kind]
def uG (te:TE):TS:=fun D U H=>te U H fun _ H1=>D.nx U H1
theorem Bc (he:PE X e te) (hs:autoParam (swapsWith e none pos.line X.env=pure false) L2.auto4._auto_1):PS X (.Expr e pos) (uG te):=by
 intro pins s U H D I h
 exact wpAny_Expr_any (cP (he pins s U H _ I h) fun v s1 ⟨x,H1,I1,r1,q1⟩=>⟨U,H1,I1,q1⟩) I.quiet hs
def Ga (te:TE):TS:=fun D U H=>te U H D.rt
theorem Gb (he:PE X e te):PS X (.Return (some e) pos) (Ga te):=by
 intro pins s U H D I h
 exact wpAny_Return_some (cP (he pins s U H _ I h) fun v s1 ⟨x,H1,I1,r1,q1⟩=>⟨x,U,H1,I1,r1,q1⟩)
def Gd (c:TT) (t u:TS):TS:=fun D U H=>c U H fun b H1=>if b=true then t D U H1 else u D U H1
theorem JQ {c:Expr} {a b:List Stmt} {tc:TT} (hc:PT X c tc) (ha:PSs X a t) (hb:PSs X b u):PS X (.If c a b pos) (Gd tc t u):=by
 intro pins s U H D I h
 refine wpAny_If (cP (hc pins s U H _ I h) fun d s1 qq0=>?_)
 obtain ⟨H1,I1,q1⟩:=qq0
 cases d with
 | true=>exact ha pins s1 U H1 D I1 q1
 | false=>exact hb pins s1 U H1 D I1 q1
def xr:TS:=fun _ _ _=>False
theorem xu:PS X st xr:=fun _ _ _ _ _ _ h=>h.elim
end
abbrev TG:=V->St->Hp->(St->Hp->Prop)->Prop
abbrev tK:=List V->St->Hp->(St->Hp->Prop)->Prop
def PG (X:Cx) (target:Expr) (t:TG):Prop:=
 ∀ (pins:List (Addr×Obj)) (s:Shared) (U:St) (H:Hp) (v:V) (u:Value) (Q:St->Hp->Prop),Inv X pins U H s->RelV v u->t v U H Q->
  wpAny (model X.prog X.w) X.A (assign target X.env u) (fun _ s'=>∃ U' H',Inv X pins U' H' s'/\Q U' H') X.xe s
def Jy (X:Cx) (ts:List Expr) (t:tK):Prop:=
 ∀ (pins:List (Addr×Obj)) (s:Shared) (U:St) (H:Hp) (vs:List V) (us:List Value) (Q:St->Hp->Prop),Inv X pins U H s->Vals vs us->t vs U H Q->
  wpAny (model X.prog X.w) X.A (assignInOrder ((assignEach ts X.env).map (·.2)) us) (fun _ s'=>∃ U' H',Inv X pins U' H' s'/\Q U' H') X.xe s
abbrev tM:=V->V->V->Hp->(Hp->Prop)->Prop
def Bd (X:Cx) (t:tM):Prop:=
 ∀ (pins:List (Addr×Obj)) (s:Shared) (U:St) (H:Hp) (o i v:V) (ov iv u:Value) (Q:Hp->Prop),Inv X pins U H s->RelV o ov->RelV i iv->RelV v u->t o i v H Q->
  wpAny (model X.prog X.w) X.A (setItem ov iv u) (fun _ s'=>∃ H',Inv X pins U H' s'/\Q H') X.xe s
section
variable {X:Cx} {pos:Pos}
def jZ (i:Nat):TG:=fun v U H Q=>Q (U.set i (some v)) H
theorem uH {i:Nat} {x:Str} (hN:X.N.Nodup) (hi:X.N[i]?=some x) (hx:Loc X.env.scope x) (hf:autoParam (X.fn x=true\/X.env.scope.names.lookup x=some .local) L2.auto1._auto_1):PG X (.Name x pos) (jZ i):=by
 intro pins s U H v u Q I r h
 exact wpAny_assign_Name (rz I hN hi hx r (fun s' I'=>⟨_,H,I',h⟩) hf)
def Ge:tK:=fun vs U H Q=>vs=[]/\Q U H
def xx (t:TG) (u:tK):tK:=fun vs U H Q=>∃ v r,vs=v :: r/\t v U H fun U' H'=>u r U' H' Q
theorem Be:Jy X [] Ge:=by
 intro pins s U H vs us Q I r h
 obtain ⟨e,h⟩:=h
 subst e
 cases r
 exact assignInOrder_nil ⟨U,H,I,h⟩
theorem xF {e:Expr} {es:List Expr} {t:TG} {u:tK} (h1:PG X e t) (h2:Jy X es u)
  (hs:autoParam ((assignEach (e :: es) X.env).map (·.2)=assign e X.env :: (assignEach es X.env).map (·.2)) L2.auto4._auto_1):Jy X (e :: es) (xx t u):=by
 intro pins s U H vs us Q I r h
 obtain ⟨v,vr,e1,h⟩:=h
 subst e1
 cases r with
 | cons r rr=>
  rw [hs]
  refine assignInOrder_cons (cP (h1 pins s U H _ _ _ I r h) fun _ s1 qq0=>?_)
  obtain ⟨σ1,H1,I1,q1⟩:=qq0
  exact h2 pins s1 σ1 H1 _ _ Q I1 rr q1
def Bf (K:W.Frag) (n:Nat) (t:tK):TG:=fun v U H Q=>∃ a xs,v= .ref a/\SqT K H a xs/\xs.length=n/\t xs U H Q
theorem xG {es:List Expr} {k:Nat} {t:tK} {n:Nat} (hc:X.calm=true) (h:Jy X es t)
  (hn:autoParam ((assignEach es X.env).length=n) L2.auto4._auto_1) (hst:autoParam ((assignEach es X.env).findIdx? (·.1)=none) L2.auto4._auto_1):PG X (.Tuple es k pos) (Bf X.K n t):=by
 intro pins s U H v u Q I r hw
 obtain ⟨a,xs,e1,hq,hl,hw⟩:=hw
 subst e1
 cases r
 obtain ⟨its,rv,ht,hz⟩:=I.tuple hq
 refine assign_Tuple_tuple (I.ok.hd hc) ht (by simp [hn,← hl,rv.length]) hst fun h' hx=>?_
 have I1:Inv X pins U H {s with heap:=h'}:=I.kept (t':=s.toks) fun b o e=>hx b o (Nat.ne_of_lt (Heap.lt_size e)) e
 exact h pins _ U H xs _ Q I1 (by simpa using rv) hw
def Gf (to ti:TE) (t:tM):TG:=fun v U H Q=>to U H fun o H1=>ti U H1 fun i H2=>t o i v H2 fun H3=>Q U H3
theorem Gg {o i:Expr} {to ti:TE} {t:tM} (ho:PE X o to) (hi:PE X i ti) (hs:Bd X t)
  (ha:∀ v,assign (.Subscript o i pos) X.env v=(do
   let ov ← holding [v] (eval o X.env)
   let iv ← holding [v,ov] (eval i X.env)
   standAt pos
   holding [v,ov,iv] (setItem ov iv v)
   release [v,ov,iv] []):=by intro _;rfl):PG X (.Subscript o i pos) (Gf to ti t):=by
 intro pins s U H v u Q I r h
 rw [ha]
 refine wpAny_bind (wpAny_holding (cP (ho pins s U H _ I h) fun ov s1 qq0=>?_))
 obtain ⟨x,H1,I1,r1,q1⟩:=qq0
 refine wpAny_bind (wpAny_holding (cP (hi pins s1 U H1 _ I1 q1) fun iv s2 qq0=>?_))
 obtain ⟨y,H2,I2,r2,q2⟩:=qq0
 refine wpAny_bind (wpAny_standAt (wpAny_bind (wpAny_holding (cP (hs pins s2 U H2 x y v ov iv u _ I2 r1 r2 r q2) fun _ s3 qq0=>?_))))
 obtain ⟨H3,I3,q3⟩:=qq0
 exact wpAny_release ⟨U,H3,I3,q3⟩
def qy (te:TE) (g:TG):TS:=fun D U H=>te U H fun x H1=>g x U H1 D.nx
theorem xH {tg e:Expr} {te:TE} {g:TG} (he:PE X e te) (hg:PG X tg g) (hs:autoParam (swapsWithSole [tg] e pos.line X.env=pure false) L2.auto4._auto_1) (hw:autoParam (swappedStores [tg] e X.env=pure none) L2.auto4._auto_1)
  (h1:autoParam ((assignEach [tg] X.env).map (·.2)=[assign tg X.env]) L2.auto4._auto_1):PS X (.Assign [tg] e pos) (qy te g):=by
 intro pins s U H D I h
 refine wpAny_Assign_stores (cP (he pins s U H _ I h) fun v s1 qq0=>?_) hs hw
 obtain ⟨x,H1,I1,r1,q1⟩:=qq0
 rw [h1]
 exact cP (hg pins s1 U H1 x v _ I1 r1 q1) fun _ s2 q=>q
theorem xJ {i:Nat} {x:Str} {e:Expr} {te:TE} {pos':Pos} (hN:X.N.Nodup) (hi:X.N[i]?=some x) (hx:Loc X.env.scope x) (he:PE X e te) (hs:autoParam (swapsWith e (some (.Name x pos')) pos.line X.env=pure false) L2.auto4._auto_1) (hf:autoParam (X.fn x=true\/X.env.scope.names.lookup x=some .local) L2.auto1._auto_1):
  PS X (.Assign [.Name x pos'] e pos) (qy te (jZ i)):=by
 intro pins s U H D I h
 refine wpAny_Assign_Name (cP (he pins s U H _ I h) fun v s1 qq0=>?_) hs
 obtain ⟨y,H1,I1,r1,q1⟩:=qq0
 exact rz I1 hN hi hx r1 (fun s2 I2=>⟨_,H1,I2,q1⟩) hf
end
structure It where
 go:Nat->Hp->Prop
 yld:Nat->Hp->V->Hp->Prop
 stop:Nat->Hp->Prop
def FpOk (X:Cx) (pins:List (Addr×Obj)) (H:Hp) (b:Addr):Prop:=
 H b=none/\b≠X.env.locals/\b ∉ X.fs/\(b∈X.ex\/X.s₀.heap.objs.size<=b)/\(∀ x c,X.env.cells.lookup x=some c->c≠b)/\∀ p∈X.pn ++ pins,p.1≠b
theorem Inv.fpOk {X:Cx} {pins:List (Addr×Obj)} {U:St} {H H':Hp} {s:Shared} {b:Addr} (I:Inv X pins U H s) (hb:s.heap.objs.size<=b) (hn:H' b=none):FpOk X pins H' b:=by
 refine ⟨hn,Nat.ne_of_gt (Nat.lt_of_lt_of_le I.lt hb),I.nofs hb,.inr (Nat.le_trans I.sz hb),fun x c e z=>?_,fun p hp z=>?_⟩
 ·obtain ⟨v,q⟩:=I.cell x c e
  exact absurd (Nat.lt_of_lt_of_le q.lt (by rw [z];exact hb)) (Nat.lt_irrefl _)
 ·exact absurd (Nat.lt_of_lt_of_le (Heap.lt_size (I.pin p hp).1) (by rw [z];exact hb)) (Nat.lt_irrefl _)
structure Turn (P:Program) (w:World) (K:W.Frag) (tg:Expr) (J:It) (fp:List Addr) (it:Addr) (tn:Nat->Heap->Prop):Prop where
 mem:it∈fp
 obj:∀ i h,tn i h->∀ b∈fp,∃ o,h.get? b=some o/\∀ v,o.data≠.cell v
 keep:∀ i h h',tn i h->(∀ b∈fp,∀ o,h.get? b=some o->h'.get? b=some o)->tn i h'
 item:∀ (X:Cx),X.prog=P->X.w=w->X.K=K->X.calm=true->∀ (i:Nat) (pins:List (Addr×Obj)) (s:Shared) (U:St) (H:Hp) (E:Value->Shared->Prop),Inv X pins U H s->(∀ b∈fp,FpOk X pins H b)->tn i s.heap->J.go i H->
  wpAny (model P w) X.A (pyNext (.ref it)) (fun r s1=>∃ u,r=some u/\
   wpAny (model P w) X.A (letOwnedTupleGo tg (.ref it) u) (fun _ s2=>∃ x H',Inv X pins U H' s2/\RelV x u/\J.yld i H x H'/\tn (i+1) s2.heap/\∀ b∈fp,H' b=none) E s1) E s
 done:∀ (X:Cx),X.prog=P->X.w=w->X.K=K->X.calm=true->∀ (i:Nat) (pins:List (Addr×Obj)) (s:Shared) (U:St) (H:Hp) (E:Value->Shared->Prop),Inv X pins U H s->(∀ b∈fp,FpOk X pins H b)->tn i s.heap->J.stop i H->
  wpAny (model P w) X.A (pyNext (.ref it)) (fun r s1=>r=none/\Inv X pins U H s1) E s
 self:∀ (A:Around) (i:Nat) (s:Shared) (Q:Value->Shared->Prop) (E:Value->Shared->Prop),tn i s.heap->Q (.ref it) s->wpAny (model P w) A (pyIter (.ref it)) Q E s
abbrev TI:=St->Hp->(It->Hp->Prop)->Prop
def PIE (X:Cx) (pins:List (Addr×Obj)) (U:St) (tg:Expr) (R:It->Hp->Prop) (itv:Value) (s2:Shared):Prop:=
 ∃ (it:Addr) (fp:List Addr) (tn:Nat->Heap->Prop) (J:It) (H':Hp),itv= .ref it/\Inv X pins U H' s2/\Turn X.prog X.w X.K tg J fp it tn/\tn 0 s2.heap/\(∀ b∈fp,FpOk X pins H' b)/\R J H'
def PI (X:Cx) (tg iter:Expr) (wi:TI):Prop:=
 ∀ (pins:List (Addr×Obj)) (s:Shared) (U:St) (H:Hp) (R:It->Hp->Prop),Inv X pins U H s->wi U H R->
  wpAny (model X.prog X.w) X.A (eval iter X.env) (fun v s1=>wpAny (model X.prog X.w) X.A (pyIter v) (PIE X pins U tg R) X.xe s1) X.xe s
theorem nO {M:Model} {A:Around} {E:Value->Shared->Prop} {s:Shared} {tg:Expr} {it:Addr} {u:Value} {o:Obj} {n:String} {vs:Array Value} {Q:Unit->Shared->Prop} (ho:s.heap.get? it=some o) (hc:o.cls= .type n) (hd:o.data= .fields vs)
  (hn:["enumerate","zip","dict_itemiterator","dict_reverseitemiterator","odict_iterator","itertools.zip_longest","itertools.pairwise"].contains n=false) (hQ:Q () s):wpAny M A (letOwnedTupleGo tg (.ref it) u) Q E s:=by
 unfold letOwnedTupleGo
 cases tg <;> first
  | exact wpAny_pure hQ
  | (cases u <;> first
    | exact wpAny_pure hQ
    | (refine wpAny_bind (wpAny_load ho ?_)
       rw [hc,hd]
       show wpAny M A (if (["enumerate","zip","dict_itemiterator","dict_reverseitemiterator","odict_iterator","itertools.zip_longest","itertools.pairwise"].contains n && vs[0]? == some (rawInt _))=true then _ else _) Q E s
       rw [if_neg (by intro h;rw [hn,Bool.false_and] at h;cases h)]
       exact wpAny_pure hQ))
def Eh (K:W.Frag) (a:Addr):It:=
 ⟨fun i H=>∃ xs x,SqL K H a xs/\xs[i]?=some x,fun i H x H'=>H'=H/\∀ xs,SqL K H a xs->xs[i]?=some x,fun i H=>∃ xs,SqL K H a xs/\xs.length<=i⟩
def Jz (K:W.Frag) (a:Addr):It:=
 ⟨fun i H=>∃ xs x,SqT K H a xs/\xs[i]?=some x,fun i H x H'=>H'=H/\∀ xs,SqT K H a xs->xs[i]?=some x,fun i H=>∃ xs,SqT K H a xs/\xs.length<=i⟩
def w5 (lo:Int) (n:Nat):It:=⟨fun i _=>i < n,fun i H x H'=>H'=H/\x= .int (lo+i),fun i _=>n<=i⟩
theorem vX {P:Program} {w:World} {K:W.Frag} {tg:Expr} (a it:Addr):Turn P w K tg (Eh K a) [it] it (fun i h=>h.IsListIter it a i) where
 mem:=by simp
 obj:=fun i h st b hb=>by
  have e:b=it:=by simpa using hb
  subst e
  obtain ⟨o,e,c,d⟩:=st
  exact ⟨o,e,fun v z=>by rw [d] at z;cases z⟩
 keep:=fun i h h' st k=>st.at fun o e=>k it (by simp) o e
 item:=by
  intro X hP hw hK hc i pins s U H E I hf st hg
  subst hP hw hK
  obtain ⟨xs,x,hq,hx⟩:=hg
  obtain ⟨its,rv,p,hz⟩:=I.list hq
  obtain ⟨u,hu,ru⟩:=rv.get hx
  obtain ⟨f0,f1,f2,f3,f4,f5⟩:=hf it (by simp)
  refine wpAny_pyNext_list_item st p.isList (x:=u) (by simpa using hu) fun h' st' sb=>?_
  have I1:Inv X pins U H {s with heap:=h'}:=I.turned (t':=s.toks) (fun b o hb e=>(sb.2 b hb).trans e) f0 f1 f3 f4 f5
  obtain ⟨o,e,c,d⟩:=id st'
  exact ⟨u,rfl,nO (s:={s with heap:=h'}) e c d (by decide) ⟨x,H,I1,ru,⟨rfl,fun ys hy=>by rw [I.list_inj hy hq];exact hx⟩,st',fun b hb=>(hf b hb).1⟩⟩
 done:=by
  intro X hP hw hK hc i pins s U H E I hf st hg
  subst hP hw hK
  obtain ⟨xs,hq,hx⟩:=hg
  obtain ⟨its,rv,p,hz⟩:=I.list hq
  obtain ⟨f0,f1,f2,f3,f4,f5⟩:=hf it (by simp)
  have hl:=rv.length
  exact wpAny_pyNext_list_end (I.ok.hd hc) st p.isList (by simp;omega) fun h' eb=>⟨rfl,I.turned (t':=s.toks) (fun b o hb e=>eb b o hb e) f0 f1 f3 f4 f5⟩
 self:=fun _ _ _ _ _ st h=>wpAny_pyIter_listiter st h
theorem tO {P:Program} {w:World} {K:W.Frag} {tg:Expr} (a it:Addr):Turn P w K tg (Jz K a) [it] it (fun i h=>h.IsTupleIter it a i) where
 mem:=by simp
 obj:=fun i h st b hb=>by
  have e:b=it:=by simpa using hb
  subst e
  obtain ⟨o,e,c,d⟩:=st
  exact ⟨o,e,fun v z=>by rw [d] at z;cases z⟩
 keep:=fun i h h' st k=>st.at fun o e=>k it (by simp) o e
 item:=by
  intro X hP hw hK hc i pins s U H E I hf st hg
  subst hP hw hK
  obtain ⟨xs,x,hq,hx⟩:=hg
  obtain ⟨its,rv,p,hz⟩:=I.tuple hq
  obtain ⟨u,hu,ru⟩:=rv.get hx
  obtain ⟨f0,f1,f2,f3,f4,f5⟩:=hf it (by simp)
  refine wpAny_pyNext_tuple_item st (show s.heap.IsTuple a its.toArray from p) (x:=u) (by simpa using hu) fun h' st' sb=>?_
  have I1:Inv X pins U H {s with heap:=h'}:=I.turned (t':=s.toks) (fun b o hb e=>(sb.2 b hb).trans e) f0 f1 f3 f4 f5
  obtain ⟨o,e,c,d⟩:=id st'
  exact ⟨u,rfl,nO (s:={s with heap:=h'}) e c d (by decide) ⟨x,H,I1,ru,⟨rfl,fun ys hy=>by rw [I.tuple_inj hy hq];exact hx⟩,st',fun b hb=>(hf b hb).1⟩⟩
 done:=by
  intro X hP hw hK hc i pins s U H E I hf st hg
  subst hP hw hK
  obtain ⟨xs,hq,hx⟩:=hg
  obtain ⟨its,rv,p,hz⟩:=I.tuple hq
  obtain ⟨f0,f1,f2,f3,f4,f5⟩:=hf it (by simp)
  have hl:=rv.length
  exact wpAny_pyNext_tuple_end (I.ok.hd hc) st (show s.heap.IsTuple a its.toArray from p) (by simp;omega) fun h' eb=>⟨rfl,I.turned (t':=s.toks) (fun b o hb e=>eb b o hb e) f0 f1 f3 f4 f5⟩
 self:=fun _ _ _ _ _ st h=>wpAny_pyIter_tupleiter st h
theorem tQ {P:Program} {w:World} {K:W.Frag} {tg:Expr} (it:Addr) (lo:Int) (n:Nat):Turn P w K tg (w5 lo n) [it] it (fun i h=>IsRangeIter h it (lo+(i:Nat)*1) ((n:Int) - (i:Nat)) 1) where
 mem:=by simp
 obj:=fun i h st b hb=>by
  have e:b=it:=by simpa using hb
  subst e
  exact ⟨_,st,fun v z=>by
   have z':Data.fields _=Data.cell v:=z
   cases z'⟩
 keep:=fun i h h' st k=>k it (by simp) _ st
 item:=by
  intro X hP hw hK hc i pins s U H E I hf st hg
  subst hP hw hK
  obtain ⟨f0,f1,f2,f3,f4,f5⟩:=hf it (by simp)
  have W:=Walks.range (prog:=X.prog) (w:=X.w) (I.ok.hd hc) it lo 1 n
  refine W.item i s _ _ hg st fun v h' tk hv st' kk=>?_
  obtain ⟨t,rfl⟩:=hv
  have I1:Inv X pins U H {s with heap:=h',toks:=tk}:=I.turned (fun b o hb e=>kk b o (by simpa using hb) e) f0 f1 f3 f4 f5
  refine ⟨_,rfl,nO (s:={s with heap:=h',toks:=tk}) (n:="range_iterator") st' rfl rfl (by decide) ⟨.int (lo+i),H,I1,⟨t,?_⟩,⟨rfl,rfl⟩,st',fun b hb=>(hf b hb).1⟩⟩
  rw [Int.mul_one]
 done:=by
  intro X hP hw hK hc i pins s U H E I hf st hg
  subst hP hw hK
  obtain ⟨f0,f1,f2,f3,f4,f5⟩:=hf it (by simp)
  exact wpAny_pyNext_range_end (I.ok.hd hc) st (by have:n<=i:=hg;omega) fun h' eb=>⟨rfl,I.turned (t':=s.toks) (fun b o hb e=>eb b o hb e) f0 f1 f3 f4 f5⟩
 self:=fun _ _ _ _ _ st h=>wpAny_pyIter_rangeiter st h
section
variable {X:Cx} {tg:Expr}
theorem rC {pins:List (Addr×Obj)} {U:St} {H:Hp} {s:Shared} {R:It->Hp->Prop} {E:Value->Shared->Prop} {lo hi:Int} {t u v:Tok} {tk:Nat} (I:Inv X pins U H s) (h1: -(2 ^ 62)<=lo) (h2:lo < 2 ^ 62) (h3: -(2 ^ 62)<=hi) (h4:hi < 2 ^ 62)
  (q:R (w5 lo (hi - lo).toNat) H):wpAny (model X.prog X.w) X.A (pyIter (.ref s.heap.objs.size)) (PIE X pins U tg R) E {s with heap:=s.heap.push {cls:=.type "range",data:=.fields #[.int lo t,.int hi u,.int 1 v]},toks:=tk}:=by
 refine wpAny_pyIter_range (IsRange.new ..) (small_one h1 h2 h3 h4) ?_
 have I1:Inv X pins U H {s with heap:=s.heap.push {cls:=.type "range",data:=.fields #[.int lo t,.int hi u,.int 1 v]},toks:=tk}:=I.kept fun b o e=>Heap.get?_push_of_some _ e
 refine ⟨(s.heap.push {cls:=.type "range",data:=.fields #[.int lo t,.int hi u,.int 1 v]}).objs.size,[(s.heap.push {cls:=.type "range",data:=.fields #[.int lo t,.int hi u,.int 1 v]}).objs.size],_,_,H,rfl,
  I1.kept (t':=tk) fun b o e=>Heap.get?_push_of_some _ e,tQ _ lo (hi - lo).toNat,?_,fun b hb=>?_,q⟩
 ·have e1:lo+((0:Nat):Int)*1=lo:=by simp
  have e2:(((hi - lo).toNat:Nat):Int) - ((0:Nat):Int)=Builtin.Range.rangeSize lo hi 1:=by rw [rangeSize_one];split <;> omega
  show IsRangeIter _ _ (lo+((0:Nat):Int)*1) ((((hi - lo).toNat:Nat):Int) - ((0:Nat):Int)) 1
  rw [e1,e2]
  exact Heap.get?_push_size _ rfl
 ·have e:b=(s.heap.push {cls:=.type "range",data:=.fields #[.int lo t,.int hi u,.int 1 v]}).objs.size:=by simpa using hb
  subst e
  exact I1.fpOk (Nat.le_refl _) (I1.hok.fresh (Nat.le_refl _))
def xK (ta:TA):TI:=fun U H R=>ta U H fun vs H1=>∃ j:Int,vs=[.int j]/\-(2 ^ 62)<=j/\j < 2 ^ 62/\R (w5 0 j.toNat) H1
def xM (ta:TA):TI:=fun U H R=>ta U H fun vs H1=>∃ i j:Int,vs=[.int i,.int j]/\(-(2 ^ 62)<=i/\i < 2 ^ 62/\-(2 ^ 62)<=j/\j < 2 ^ 62)/\R (w5 i (j - i).toNat) H1
theorem vY {a:Expr} {ta:TA} {p pos:Pos} (hg:Gl X "range") (hm:X.mg "range"=none) (ha:PA X [a] ta) (hs:autoParam (starEach [a] X.env=[(false,eval a X.env)]) L2.auto4._auto_1):PI X tg (.Call (.Name "range" p) [a] [] pos) (xK ta):=by
 intro pins s U H R I h
 refine Call_ (fX I hg hm boot_range (PyProof.Rows.callWith_type1 (cP (ha pos pins s U H _ I h) fun us s1 ⟨vs,H1,I1,r1,q1⟩=>?_) hs rfl))
 obtain ⟨j,e,q1,q2,q⟩:=q1
 subst e
 cases r1 with
 | cons r rr=>
  cases rr
  obtain ⟨t,rfl⟩:=r
  exact call_range_1 (rC I1 (by omega) (by omega) q1 q2 (by simpa using q))
theorem vZ {a b:Expr} {ta:TA} {p pos:Pos} (hg:Gl X "range") (hm:X.mg "range"=none) (ha:PA X [a,b] ta) (hs:autoParam (starEach [a,b] X.env=[(false,eval a X.env),(false,eval b X.env)]) L2.auto4._auto_1) (hs2:autoParam (starEach [b] X.env=[(false,eval b X.env)]) L2.auto4._auto_1):
  PI X tg (.Call (.Name "range" p) [a,b] [] pos) (xM ta):=by
 intro pins s U H R I h
 refine Call_ (fX I hg hm boot_range (PyProof.Rows.callWith_type1 (cP (ha pos pins s U H _ I h) fun us s1 qq0=>?_) (by rw [hs,hs2]) (by rw [hs2];rfl)))
 obtain ⟨vs,H1,I1,r1,q1⟩:=qq0
 obtain ⟨i,j,e,⟨q1,q2,q3,q4⟩,q⟩:=q1
 subst e
 cases r1 with
 | cons r rr=>
  cases rr with
  | cons r' rr=>
   cases rr
   obtain ⟨t,rfl⟩:=r
   obtain ⟨t',rfl⟩:=r'
   exact call_range_2 (rC I1 q1 q2 q3 q4 q)
def Bg (wi:TI) (g:TG) (tb:TS):TS:=fun D U H=>wi U H fun J H1=>∃ W:Nat->Nat->St->Hp->Prop,(∃ m,W 0 m U H1)/\∀ i m U H,W i m U H->
 (J.stop i H/\D.nx U H)\/(J.go i H/\∃ N:St->Hp->Prop,(∀ U' H',N U' H'->∃ m',m' < m/\W (i+1) m' U' H')/\∀ x H',J.yld i H x H'->g x U H' fun σ2 H2=>tb {D with nx:=N,ct:=N,bk:=D.nx} σ2 H2)
def mq (fp:List Addr) (h:Heap):List (Addr×Obj):=fp.filterMap fun b=>(h.get? b).map fun o=>(b,o)
theorem je {fp:List Addr} {h:Heap} {b:Addr} {o:Obj} (hb:b∈fp) (e:h.get? b=some o):(b,o)∈mq fp h:=List.mem_filterMap.mpr ⟨b,hb,by rw [e];rfl⟩
theorem v4 {fp:List Addr} {h:Heap} {p:Addr×Obj} (hp:p∈mq fp h):p.1∈fp/\h.get? p.1=some p.2:=by
 obtain ⟨b,hb,e⟩:=List.mem_filterMap.mp hp
 cases q:h.get? b with
 | none=>rw [q] at e;cases e
 | some o=>
  rw [q] at e
  have e':(b,o)=p:=Option.some.inj e
  subst e'
  exact ⟨hb,q⟩
theorem Inv.pinned {pins:List (Addr×Obj)} {U:St} {H:Hp} {s:Shared} {fp:List Addr} (I:Inv X pins U H s) (hf:∀ b∈fp,FpOk X pins H b) (ho:∀ b∈fp,∃ o,s.heap.get? b=some o/\∀ v,o.data≠.cell v):Inv X (pins ++ mq fp s.heap) U H s:=
 I.pins_of fun p hp=>(List.mem_append.mp hp).elim (fun z=>I.pin p (List.mem_append_right _ z)) fun z=>by
  obtain ⟨hb,e⟩:=v4 z
  obtain ⟨f0,f1,f2,_⟩:=hf p.1 hb
  obtain ⟨o,e',d⟩:=ho p.1 hb
  rw [e] at e';cases e'
  exact ⟨e,f0,f1,f2,d⟩
theorem Inv.unpinned {pins pl:List (Addr×Obj)} {U:St} {H:Hp} {s:Shared} (I:Inv X (pins ++ pl) U H s):Inv X pins U H s:=I.pins_of fun p hp=>I.pin p (List.mem_append_right _ (List.mem_append_left _ hp))
theorem Gh {iter:Expr} {body:List Stmt} {wi:TI} {g:TG} {tb:TS} {pos:Pos} (hp:PassesOwn (model X.prog X.w) X.A X.env X.xe) (hc:X.calm=true) (hi:PI X tg iter wi) (hg:PG X tg g) (hb:PSs X body tb)
  (hs:autoParam (∀ x,foldedSetIterable iter X.env x=pure x) L2.auto3._auto_1):PS X (.For tg iter body [] pos) (Bg wi g tb):=by
 intro pins s U H D I h
 refine wpAny_For (cP (hi pins s U H _ I h) fun v s1 h1=>cP h1 fun itv s2 h2=>?_) hs
 obtain ⟨it,fp,tn,J,H2,e,I2,T,st2,f2,W,⟨m0,w0⟩,turn⟩:=h2
 subst e
 have stat:∀ {H':Hp},(∀ b∈fp,H' b=none)->∀ b∈fp,FpOk X pins H' b:=fun hn b hb=>⟨hn b hb,(f2 b hb).2⟩
 refine codeAny_forLoop_any (fun n s'=>∃ i U' H',Inv X pins U' H' s'/\tn i s'.heap/\(∀ b∈fp,H' b=none)/\W i n U' H') ?_ m0 ⟨0,U,H2,I2,st2,fun b hb=>(f2 b hb).1,w0⟩
 rintro n s3 ⟨i,σ3,H3,I3,st3,fr3,w3⟩
 rcases turn i n σ3 H3 w3 with ⟨stop,qn⟩ | ⟨go,N,hN,step⟩
 ·refine wpAny_passesOwn hp (cP (T.done X rfl rfl rfl hc i pins s3 σ3 H3 X.xe I3 (stat fr3) st3 stop) fun r s4 qq0=>?_)
  obtain ⟨hr,I4⟩:=qq0
  subst hr
  exact wpAny_execs_nil ⟨σ3,H3,I4,qn⟩
 ·refine wpAny_passesOwn hp (cP (T.item X rfl rfl rfl hc i pins s3 σ3 H3 X.xe I3 (stat fr3) st3 go) fun r s4 qq0=>?_)
  obtain ⟨u,hr,h4⟩:=qq0
  subst hr
  refine wpAny_passesOwn hp (cP h4 fun _ s5 qq0=>?_)
  obtain ⟨x,H5,I5,r5,y5,st5,fr5⟩:=qq0
  have I5':=I5.pinned (stat fr5) (T.obj _ _ st5)
  refine wpAny_passesOwn hp (cP (hg _ s5 σ3 H5 x u _ I5' r5 (step x H5 y5)) fun _ s6 qq0=>?_)
  obtain ⟨σ6,H6,I6,q6⟩:=qq0
  refine wpAny_passesOwn hp (cP (hb _ s6 σ6 H6 _ I6 q6) fun f s7 q7=>?_)
  have again:∀ {σ7:St} {H7:Hp},Inv X (pins ++ mq fp s5.heap) σ7 H7 s7->N σ7 H7->∃ m,m < n/\∃ i U' H',Inv X pins U' H' s7/\tn i s7.heap/\(∀ b∈fp,H' b=none)/\W i m U' H':=fun {σ7 H7} I7 n7=>by
   obtain ⟨m',hm,w7⟩:=hN σ7 H7 n7
   refine ⟨m',hm,i+1,σ7,H7,I7.unpinned,T.keep _ _ _ st5 fun b hb o e=>(I7.pin (b,o) (List.mem_append_right _ (List.mem_append_right _ (je hb e)))).1,fun b hb=>?_,w7⟩
   obtain ⟨o,e,d⟩:=T.obj _ _ st5 b hb
   exact (I7.pin (b,o) (List.mem_append_right _ (List.mem_append_right _ (je hb e)))).2.1
  cases f with
  | next=>obtain ⟨σ7,H7,I7,n7⟩:=q7;exact again I7 n7
  | cont=>obtain ⟨σ7,H7,I7,n7⟩:=q7;exact again I7 n7
  | brk=>obtain ⟨σ7,H7,I7,q7⟩:=q7;exact ⟨σ7,H7,I7.unpinned,q7⟩
  | ret v=>obtain ⟨x7,σ7,H7,I7,r7,q7⟩:=q7;exact ⟨x7,σ7,H7,I7.unpinned,r7,q7⟩
end
theorem kZ {K:W.Frag} {a:Addr} {xs:List V} {g:TG} {tb:TS} {D:Ends} {U:St} {H:Hp} (Pv:Nat->St->Hp->Prop) (h0:Pv 0 U H) (hl:∀ i U H,i<=xs.length->Pv i U H->SqL K H a xs)
  (hs:∀ i x U H,xs[i]?=some x->Pv i U H->g x U H fun σ2 H2=>tb {D with nx:=Pv (i+1),ct:=Pv (i+1),bk:=D.nx} σ2 H2) (hd:∀ U H,Pv xs.length U H->D.nx U H):
  ∃ W:Nat->Nat->St->Hp->Prop,(∃ m,W 0 m U H)/\∀ i m U H,W i m U H->
   ((Eh K a).stop i H/\D.nx U H)\/((Eh K a).go i H/\∃ N:St->Hp->Prop,(∀ U' H',N U' H'->∃ m',m' < m/\W (i+1) m' U' H')/\∀ x H',(Eh K a).yld i H x H'->g x U H' fun σ2 H2=>tb {D with nx:=N,ct:=N,bk:=D.nx} σ2 H2):=by
 refine ⟨fun i m U H=>m=xs.length - i/\i<=xs.length/\Pv i U H,⟨xs.length,by simp,Nat.zero_le _,h0⟩,?_⟩
 rintro i m U H ⟨rfl,hi,p⟩
 have q:=hl i U H hi p
 by_cases hlt:i < xs.length
 ·refine .inr ⟨⟨xs,xs[i],q,by simp [hlt]⟩,Pv (i+1),fun U' H' p'=>⟨xs.length - (i+1),by omega,rfl,hlt,p'⟩,fun x H' y=>?_⟩
  obtain ⟨e,y⟩:=y
  subst e
  exact hs i x U _ (y xs q) p
 ·have e:i=xs.length:=by omega
  subst e
  exact .inl ⟨⟨xs,q,Nat.le_refl _⟩,hd U H p⟩
theorem Bh {K:W.Frag} {a:Addr} {xs:List V} {g:TG} {tb:TS} {D:Ends} {U:St} {H:Hp} (Pv:Nat->St->Hp->Prop) (h0:Pv 0 U H) (hl:∀ i U H,i<=xs.length->Pv i U H->SqT K H a xs)
  (hs:∀ i x U H,xs[i]?=some x->Pv i U H->g x U H fun σ2 H2=>tb {D with nx:=Pv (i+1),ct:=Pv (i+1),bk:=D.nx} σ2 H2) (hd:∀ U H,Pv xs.length U H->D.nx U H):
  ∃ W:Nat->Nat->St->Hp->Prop,(∃ m,W 0 m U H)/\∀ i m U H,W i m U H->
   ((Jz K a).stop i H/\D.nx U H)\/((Jz K a).go i H/\∃ N:St->Hp->Prop,(∀ U' H',N U' H'->∃ m',m' < m/\W (i+1) m' U' H')/\∀ x H',(Jz K a).yld i H x H'->g x U H' fun σ2 H2=>tb {D with nx:=N,ct:=N,bk:=D.nx} σ2 H2):=by
 refine ⟨fun i m U H=>m=xs.length - i/\i<=xs.length/\Pv i U H,⟨xs.length,by simp,Nat.zero_le _,h0⟩,?_⟩
 rintro i m U H ⟨rfl,hi,p⟩
 have q:=hl i U H hi p
 by_cases hlt:i < xs.length
 ·refine .inr ⟨⟨xs,xs[i],q,by simp [hlt]⟩,Pv (i+1),fun U' H' p'=>⟨xs.length - (i+1),by omega,rfl,hlt,p'⟩,fun x H' y=>?_⟩
  obtain ⟨e,y⟩:=y
  subst e
  exact hs i x U _ (y xs q) p
 ·have e:i=xs.length:=by omega
  subst e
  exact .inl ⟨⟨xs,q,Nat.le_refl _⟩,hd U H p⟩
theorem iM {lo:Int} {n:Nat} {g:TG} {tb:TS} {D:Ends} {U:St} {H:Hp} (Pv:Nat->St->Hp->Prop) (h0:Pv 0 U H)
  (hs:∀ i U H,i < n->Pv i U H->g (.int (lo+i)) U H fun σ2 H2=>tb {D with nx:=Pv (i+1),ct:=Pv (i+1),bk:=D.nx} σ2 H2) (hd:∀ U H,Pv n U H->D.nx U H):
  ∃ W:Nat->Nat->St->Hp->Prop,(∃ m,W 0 m U H)/\∀ i m U H,W i m U H->
   ((w5 lo n).stop i H/\D.nx U H)\/((w5 lo n).go i H/\∃ N:St->Hp->Prop,(∀ U' H',N U' H'->∃ m',m' < m/\W (i+1) m' U' H')/\∀ x H',(w5 lo n).yld i H x H'->g x U H' fun σ2 H2=>tb {D with nx:=N,ct:=N,bk:=D.nx} σ2 H2):=by
 refine ⟨fun i m U H=>m=n - i/\i<=n/\Pv i U H,⟨n,by simp,Nat.zero_le _,h0⟩,?_⟩
 rintro i m U H ⟨rfl,hi,p⟩
 by_cases hlt:i < n
 ·refine .inr ⟨hlt,Pv (i+1),fun U' H' p'=>⟨n - (i+1),by omega,rfl,hlt,p'⟩,fun x H' y=>?_⟩
  obtain ⟨e,y⟩:=y
  subst e y
  exact hs i U _ hlt p
 ·have e:i=n:=by omega
  subst e
  exact .inl ⟨Nat.le_refl _,hd U H p⟩
abbrev R2:=V->V->Hp->VK->Prop
def OpR (X:Cx) (f:Value->Value->Sem Value) (r:R2):Prop:=
 ∀ (pins:List (Addr×Obj)) (s:Shared) (U:St) (H:Hp) (x y:V) (v u:Value) (Q:VK),Inv X pins U H s->RelV x v->RelV y u->r x y H Q->
  wpAny (model X.prog X.w) X.A (f v u) (EP X pins U Q) X.xe s
def Nf (X:Cx) (f:Value->Sem Value) (r:V->Hp->VK->Prop):Prop:=
 ∀ (pins:List (Addr×Obj)) (s:Shared) (U:St) (H:Hp) (x:V) (v:Value) (Q:VK),Inv X pins U H s->RelV x v->r x H Q->
  wpAny (model X.prog X.w) X.A (f v) (EP X pins U Q) X.xe s
def CallR (X:Cx) (f:Value) (r:List V->Hp->VK->Prop):Prop:=
 ∀ (pins:List (Addr×Obj)) (s:Shared) (U:St) (H:Hp) (xs:List V) (us:List Value) (Q:VK),Inv X pins U H s->Vals xs us->r xs H Q->
  wpAny (model X.prog X.w) X.A (call f us) (EP X pins U Q) X.xe s
def Ar (r:R2) (ta tb:TE):TE:=fun U H Q=>ta U H fun x H1=>tb U H1 fun y H2=>r x y H2 Q
def tUn (r:V->Hp->VK->Prop) (ta:TE):TE:=fun U H Q=>ta U H fun x H1=>r x H1 Q
def rI (C:Int->Int->Prop) (g:Int->Int->V):R2:=fun x y H Q=>∃ i j,x= .int i/\y= .int j/\C i j/\Q (g i j) H
def Bj (g:Int->Int->V):R2:=fun x y H Q=>∃ i j,x= .int i/\y= .int j/\Q (g i j) H
def rU (g:Int->V):V->Hp->VK->Prop:=fun x H Q=>∃ i,x= .int i/\Q (g i) H
section
variable {X:Cx} {a b c:Expr} {ta tb tc:TE} {pos:Pos}
theorem Gi (ha:PE X a ta) (hb:PE X b tb) {pins:List (Addr×Obj)} {s:Shared} {U:St} {H:Hp} {R:V->V->Hp->Prop} (I:Inv X pins U H s)
  (h:ta U H fun x H1=>tb U H1 fun y H2=>R x y H2) {Q:Value->Shared->Prop} {f:Value->Value->Sem Value}
  (hf:∀ v u s2 x y H2,Inv X pins U H2 s2->RelV x v->RelV y u->R x y H2->wpAny (model X.prog X.w) X.A (f v u) Q X.xe s2):
  wpAny (model X.prog X.w) X.A (eval a X.env) (fun v s₁=>wpAny (model X.prog X.w) X.A (eval b X.env) (fun u s₂=>wpAny (model X.prog X.w) X.A (f v u) Q X.xe s₂) X.xe s₁) X.xe s:=by
 refine cP (ha pins s U H _ I h) fun v s1 qq0=>?_
 obtain ⟨x,H1,I1,r1,q1⟩:=qq0
 refine cP (hb pins s1 U H1 _ I1 q1) fun u s2 qq0=>?_
 obtain ⟨y,H2,I2,r2,q2⟩:=qq0
 exact hf v u s2 x y H2 I2 r1 r2 q2
theorem JR {op:Operator} {r:R2} (ho:OpR X (binaryOp op) r) (ha:PE X a ta) (hb:PE X b tb):PE X (.BinOp a op b pos) (Ar r ta tb):=by
 intro pins s U H Q I h
 exact wpAny_BinOp (Gi ha hb I h fun v u s2 x y H2 I2 rx ry q=>ho pins s2 U H2 x y v u Q I2 rx ry q)
theorem JV {op:UnaryOp} {r:V->Hp->VK->Prop} (ho:Nf X (unaryOp op) r) (ha:PE X a ta):PE X (.UnaryOp op a pos) (tUn r ta):=by
 intro pins s U H Q I h
 exact UnaryOp_ (cP (ha pins s U H _ I h) fun v s1 ⟨x,H1,I1,r1,q1⟩=>ho pins s1 U H1 x v Q I1 r1 q1)
theorem Ng {f:Value->Value->Sem Value} {C:Int->Int->Prop} {g:Int->Int->Int}
  (rule:∀ (i j:Int) (t u:Tok) (s:Shared) (Q:Value->Shared->Prop) (E:Value->Shared->Prop),C i j->Q (.int (g i j) s.toks) {s with toks:=s.toks+1}->wpAny (model X.prog X.w) X.A (f (.int i t) (.int j u)) Q E s):
  OpR X f (rI C fun i j=>.int (g i j)):=by
 intro pins s U H x y v u Q I rx ry h
 obtain ⟨i,j,rfl,rfl,hc,q⟩:=h
 obtain ⟨t,rfl⟩:=rx
 obtain ⟨t',rfl⟩:=ry
 exact rule i j t t' s _ _ hc ⟨.int (g i j),H,I.tok _,⟨_,rfl⟩,q⟩
theorem JX {f:Value->Value->Sem Value} {g:Int->Int->Int}
  (rule:∀ (i j:Int) (t u:Tok) (s:Shared) (Q:Value->Shared->Prop) (E:Value->Shared->Prop),Q (.int (g i j) s.toks) {s with toks:=s.toks+1}->wpAny (model X.prog X.w) X.A (f (.int i t) (.int j u)) Q E s):
  OpR X f (Bj fun i j=>.int (g i j)):=by
 intro pins s U H x y v u Q I rx ry h
 obtain ⟨i,j,rfl,rfl,q⟩:=h
 obtain ⟨t,rfl⟩:=rx
 obtain ⟨t',rfl⟩:=ry
 exact rule i j t t' s _ _ ⟨.int (g i j),H,I.tok _,⟨_,rfl⟩,q⟩
theorem Bk {f:Value->Value->Sem Value} {g:Int->Int->Bool}
  (rule:∀ (i j:Int) (t u:Tok) (s:Shared) (Q:Value->Shared->Prop) (E:Value->Shared->Prop),Q (.bool (g i j)) s->wpAny (model X.prog X.w) X.A (f (.int i t) (.int j u)) Q E s):
  OpR X f (Bj fun i j=>.bl (g i j)):=by
 intro pins s U H x y v u Q I rx ry h
 obtain ⟨i,j,rfl,rfl,q⟩:=h
 obtain ⟨t,rfl⟩:=rx
 obtain ⟨t',rfl⟩:=ry
 exact rule i j t t' s _ _ ⟨.bl (g i j),H,I,rfl,q⟩
def CPow (i j:Int):Prop:=0<=j/\j<=1000000/\i.natAbs < 2 ^ 64
def CMul (i j:Int):Prop:=(-(2 ^ 64) < i/\i < 2 ^ 64)\/(-(2 ^ 64) < j/\j < 2 ^ 64)
theorem CMul.ok {i j:Int} (h:CMul i j):IntMulOk i j:=by
 rcases h with ⟨h1,h2⟩ | ⟨h1,h2⟩
 ·exact .of_left (intBits_le_64 h1 h2)
 ·exact .of_right (intBits_le_64 h1 h2)
theorem Gj:OpR X (binaryOp .Add) (Bj fun i j=>.int (i+j)):=JX fun _ _ _ _ _ _ _ q=>add_int q
theorem cL:OpR X (binaryOp .Sub) (Bj fun i j=>.int (i - j)):=JX fun _ _ _ _ _ _ _ q=>sub_int q
theorem Gk:OpR X (binaryOp .Mult) (rI CMul fun i j=>.int (i*j)):=Ng fun _ _ _ _ _ _ _ hc q=>mul_int q hc.ok
theorem d8:OpR X (binaryOp .Mod) (rI (fun _ j=>0 < j) fun i j=>.int (i % j)):=Ng fun i j _ _ _ _ _ hc q=>by
 have h1:(0:Int) < j:=hc
 exact mod_int' (by omega) (by rw [Int.fmod_eq_emod_of_nonneg i (by omega)];exact q)
theorem Gm:OpR X (binaryOp .Pow) (rI CPow fun i j=>.int (i ^ j.toNat)):=Ng fun _ _ _ _ _ _ _ hc q=>pow_int_small hc.1 hc.2.1 hc.2.2 q
theorem unI {f:Value->Sem Value} {g:Int->Int}
  (rule:∀ (i:Int) (t:Tok) (s:Shared) (Q:Value->Shared->Prop) (E:Value->Shared->Prop),Q (.int (g i) s.toks) {s with toks:=s.toks+1}->wpAny (model X.prog X.w) X.A (f (.int i t)) Q E s):
  Nf X f (rU fun i=>.int (g i)):=by
 intro pins s U H x v Q I rx h
 obtain ⟨i,rfl,q⟩:=h
 obtain ⟨t,rfl⟩:=rx
 exact rule i t s _ _ ⟨.int (g i),H,I.tok _,⟨_,rfl⟩,q⟩
theorem ju:Nf X (unaryOp .USub) (rU fun i=>.int (-i)):=unI fun _ _ _ _ _ q=>neg_int q
end
def JZ:V->V->Bool
 | .non,.non=>true | .non,.int _=>true | .int _,.non=>true | .non,.bl _=>true | .bl _,.non=>true | .non,.str _=>true | .str _,.non=>true
 | .int _,.int _=>true | .bl _,.bl _=>true | .str _,.str _=>true | .byt _,.byt _=>true
 | .int _,.str _=>true | .str _,.int _=>true | .bl _,.str _=>true | .str _,.bl _=>true
 | _,_=>false
def rEq:R2:=fun x y H Q=>JZ x y=true/\Q (.bl (decide (x=y))) H
def rNe:R2:=fun x y H Q=>JZ x y=true/\Q (.bl (!decide (x=y))) H
theorem uI {i j:Int}:decide (V.int i=V.int j)=(i == j):=by
 rw [Bool.eq_iff_iff]
 simp
theorem xN {i j:Bool}:decide (V.bl i=V.bl j)=(i == j):=by
 rw [Bool.eq_iff_iff]
 simp
theorem uJ {i j:Str}:decide (V.str i=V.str j)=(i == j):=by
 rw [Bool.eq_iff_iff]
 simp
theorem uK {i j:Array UInt8}:decide (V.byt i=V.byt j)=(i.toList == j.toList):=by
 rw [Bool.eq_iff_iff]
 cases i
 cases j
 simp
section
variable {X:Cx} {a b c:Expr} {ta tb tc:TE} {pos:Pos}
theorem aY {pins:List (Addr×Obj)} {U:St} {H:Hp} {s:Shared} {Q:VK} {k k':Bool} (I:Inv X pins U H s) (q:Q (.bl k) H) (e:k=k'):EP X pins U Q (.bool k') s:=by
 subst e
 exact ⟨.bl k,H,I,rfl,q⟩
theorem J3:OpR X (compareOp .Eq) rEq:=by
 intro pins s U H x y v u Q I rx ry h
 obtain ⟨hs,q⟩:=h
 cases x with
 | non=>
  cases rx
  cases y with
  | non=>cases ry;exact PySem.EqNone.eq_none_none (aY I q (by simp))
  | bl j=>cases ry;exact PySem.EqNone.eq_none_bool (aY I q (by simp))
  | int j=>obtain ⟨t',rfl⟩:=ry;exact PySem.EqNone.eq_none_int (aY I q (by simp))
  | str j=>obtain ⟨t',rfl⟩:=ry;exact PySem.EqNone.eq_none_str (aY I q (by simp))
  | _=>exact absurd (show false=true from hs) Bool.false_ne_true
 | bl i=>
  cases rx
  cases y with
  | non=>cases ry;exact PySem.EqNone.eq_bool_none (aY I q (by simp))
  | bl j=>cases ry;exact eq_bool (aY I q xN)
  | str j=>obtain ⟨t',rfl⟩:=ry;exact PySem.EqMixed.eq_bool_str (aY I q (by simp))
  | _=>exact absurd (show false=true from hs) Bool.false_ne_true
 | int i=>
  obtain ⟨t,rfl⟩:=rx
  cases y with
  | non=>cases ry;exact PySem.EqNone.eq_int_none (aY I q (by simp))
  | int j=>obtain ⟨t',rfl⟩:=ry;exact eq_int (aY I q uI)
  | str j=>obtain ⟨t',rfl⟩:=ry;exact PySem.EqMixed.eq_int_str (aY I q (by simp))
  | _=>exact absurd (show false=true from hs) Bool.false_ne_true
 | str i=>
  obtain ⟨t,rfl⟩:=rx
  cases y with
  | non=>cases ry;exact PySem.EqNone.eq_str_none (aY I q (by simp))
  | bl j=>cases ry;exact PySem.EqMixed.eq_str_bool (aY I q (by simp))
  | int j=>obtain ⟨t',rfl⟩:=ry;exact PySem.EqMixed.eq_str_int (aY I q (by simp))
  | str j=>obtain ⟨t',rfl⟩:=ry;exact eq_str (aY I q uJ)
  | _=>exact absurd (show false=true from hs) Bool.false_ne_true
 | byt i=>
  obtain ⟨t,rfl⟩:=rx
  cases y with
  | byt j=>obtain ⟨t',rfl⟩:=ry;exact PySem.W.eq_bytes (aY I q uK)
  | _=>exact absurd (show false=true from hs) Bool.false_ne_true
 | _=>cases y <;> exact absurd (show false=true from hs) Bool.false_ne_true
theorem J5:OpR X (compareOp .NotEq) rNe:=by
 intro pins s U H x y v u Q I rx ry h
 obtain ⟨hs,q⟩:=h
 cases x with
 | non=>
  cases rx
  cases y with
  | non=>cases ry;exact PySem.EqNone.ne_none_none (aY I q (by simp))
  | bl j=>cases ry;exact PySem.EqNone.ne_none_bool (aY I q (by simp))
  | int j=>obtain ⟨t',rfl⟩:=ry;exact PySem.EqNone.ne_none_int (aY I q (by simp))
  | str j=>obtain ⟨t',rfl⟩:=ry;exact PySem.EqNone.ne_none_str (aY I q (by simp))
  | _=>exact absurd (show false=true from hs) Bool.false_ne_true
 | bl i=>
  cases rx
  cases y with
  | non=>cases ry;exact PySem.EqNone.ne_bool_none (aY I q (by simp))
  | bl j=>cases ry;exact ne_bool (aY I q (congrArg not xN))
  | str j=>obtain ⟨t',rfl⟩:=ry;exact PySem.EqMixed.ne_bool_str (aY I q (by simp))
  | _=>exact absurd (show false=true from hs) Bool.false_ne_true
 | int i=>
  obtain ⟨t,rfl⟩:=rx
  cases y with
  | non=>cases ry;exact PySem.EqNone.ne_int_none (aY I q (by simp))
  | int j=>obtain ⟨t',rfl⟩:=ry;exact ne_int (aY I q (congrArg not uI))
  | str j=>obtain ⟨t',rfl⟩:=ry;exact PySem.EqMixed.ne_int_str (aY I q (by simp))
  | _=>exact absurd (show false=true from hs) Bool.false_ne_true
 | str i=>
  obtain ⟨t,rfl⟩:=rx
  cases y with
  | non=>cases ry;exact PySem.EqNone.ne_str_none (aY I q (by simp))
  | bl j=>cases ry;exact PySem.EqMixed.ne_str_bool (aY I q (by simp))
  | int j=>obtain ⟨t',rfl⟩:=ry;exact PySem.EqMixed.ne_str_int (aY I q (by simp))
  | str j=>obtain ⟨t',rfl⟩:=ry;exact ne_str (aY I q (congrArg not uJ))
  | _=>exact absurd (show false=true from hs) Bool.false_ne_true
 | byt i=>
  obtain ⟨t,rfl⟩:=rx
  cases y with
  | byt j=>obtain ⟨t',rfl⟩:=ry;exact PySem.W.ne_bytes (aY I q (congrArg not uK))
  | _=>exact absurd (show false=true from hs) Bool.false_ne_true
 | _=>cases y <;> exact absurd (show false=true from hs) Bool.false_ne_true
theorem uL:OpR X (compareOp .Lt) (Bj fun i j=>.bl (decide (i < j))):=Bk fun _ _ _ _ _ _ _ q=>lt_int q
theorem xO:OpR X (compareOp .LtE) (Bj fun i j=>.bl (decide (i<=j))):=Bk fun _ _ _ _ _ _ _ q=>le_int q
theorem uM:OpR X (compareOp .Gt) (Bj fun i j=>.bl (decide (j < i))):=Bk fun _ _ _ _ _ _ _ q=>gt_int q
theorem uN:OpR X (compareOp .GtE) (Bj fun i j=>.bl (decide (j<=i))):=Bk fun _ _ _ _ _ _ _ q=>ge_int q
theorem v5:OpR X (compareOp .In) (fun x y H Q=>∃ i j,x= .str i/\y= .str j/\Q (.bl (!(Builtin.Str.occurrences j i 0 j.length 1).isEmpty)) H):=by
 intro pins s U H x y v u Q I rx ry h
 obtain ⟨i,j,rfl,rfl,q⟩:=h
 obtain ⟨t,rfl⟩:=rx
 obtain ⟨t',rfl⟩:=ry
 exact in_str (aY I q rfl)
theorem Gn:OpR X (compareOp .Is) (fun x y H Q=>y= .non/\Q (.bl (decide (x= .non))) H):=by
 intro pins s U H x y v u Q I rx ry h
 obtain ⟨rfl,q⟩:=h
 cases ry
 refine is_none_gen (aY I q ?_)
 cases x <;> first
  | (cases rx;rfl)
  | (obtain ⟨t,rfl⟩:=rx;rfl)
theorem OpR.or {f:Value->Value->Sem Value} {r r':R2} (h:OpR X f r) (h':OpR X f r'):OpR X f (fun x y H Q=>r x y H Q\/r' x y H Q):=by
 intro pins s U H x y v u Q I rx ry q
 rcases q with q | q
 ·exact h pins s U H x y v u Q I rx ry q
 ·exact h' pins s U H x y v u Q I rx ry q
theorem bF (b:Expr) {op:CmpOp} (h:autoParam (op≠.In) L2.auto2._auto_1) (h2:autoParam (op≠.NotIn) L2.auto2._auto_1):behindInMarks op b=false:=by
 have e1:(op == CmpOp.In)=false:=by cases op <;> first | rfl | exact absurd rfl h
 have e2:(op == CmpOp.NotIn)=false:=by cases op <;> first | rfl | exact absurd rfl h2
 cases b <;> simp [behindInMarks,e1,e2]
theorem Bl {op:CmpOp} {r:R2} (ho:OpR X (compareOp op) r) (ha:PE X a ta) (hb:PE X b tb) (hm:behindInMarks op b=false):PE X (.Compare a [op] [b] pos) (Ar r ta tb):=by
 intro pins s U H Q I h
 exact wpAny_Compare1 (Gi ha hb I h fun v u s2 x y H2 I2 rx ry q=>ho pins s2 U H2 x y v u Q I2 rx ry q) hm
def xP (t:TE):TT:=fun U H Q=>t U H fun x H'=>∃ k,x= .bl k/\Q k H'
theorem Bm {op:CmpOp} {r:R2} (ho:OpR X (compareOp op) r) (ha:PE X a ta) (hb:PE X b tb) (hm:behindInMarks op b=false):PT X (.Compare a [op] [b] pos) (xP (Ar r ta tb)):=by
 intro pins s U H Q I h
 refine wpAny_isTrue_Compare1 (cP (ha pins s U H _ I h) fun v s1 ⟨x,H1,I1,r1,q1⟩=>cP (hb pins s1 U H1 _ I1 q1) fun u s2 ⟨y,H2,I2,r2,q2⟩=>
  cP (ho pins s2 U H2 x y v u _ I2 r1 r2 q2) fun c s3 ⟨z,H3,I3,r3,k,e,q3⟩=>?_) hm
 subst e
 cases r3
 exact wpAny_truthy_bool ⟨H3,I3,q3⟩
def tR (r r':R2) (ta tb tc:TE):TE:=fun U H Q=>ta U H fun x H1=>tb U H1 fun y H2=>r x y H2 fun z H3=>∃ k,z= .bl k/\
 (if k=true then tc U H3 fun w' H4=>r' y w' H4 Q else Q (.bl false) H3)
theorem xQ {op op':CmpOp} {r r':R2} (ho:OpR X (compareOp op) r) (ho':OpR X (compareOp op') r') (ha:PE X a ta) (hb:PE X b tb) (hc:PE X c tc)
  (hm:autoParam (lastMarks [op,op'] [b,c]=false) L2.auto5._auto_1):PE X (.Compare a [op,op'] [b,c] pos) (tR r r' ta tb tc):=by
 intro pins s U H Q I h
 refine Compare_chain (cP (ha pins s U H _ I h) fun v s1 ⟨x,H1,I1,r1,q1⟩=>chain_link (cP (hb pins s1 U H1 _ I1 q1) fun u s2 ⟨y,H2,I2,r2,q2⟩=>
  cP (ho pins s2 U H2 x y v u _ I2 r1 r2 q2) fun d s3 ⟨z,H3,I3,r3,k,e,q3⟩=>?_)) hm
 subst e
 cases r3
 refine wpAny_truthy_bool ?_
 cases k with
 | false=>exact ite_ff ⟨.bl false,H3,I3,rfl,q3⟩
 | true=>exact ite_tt (chain_last (cP (hc pins s3 U H3 _ I3 q3) fun w' s4 ⟨z',H4,I4,r4,q4⟩=>ho' pins s4 U H4 y z' u w' Q I4 r2 r4 q4))
theorem nP:(sizeLine:Nat) < 2 ^ 63:=by rw [sizeLine_eq];decide
theorem tU:OpR X (binaryOp .Add) (fun x y H Q=>∃ i j,x= .str i/\y= .str j/\i.length+j.length<=sizeLine/\Q (.str (i ++ j)) H):=by
 intro pins s U H x y v u Q I rx ry h
 obtain ⟨i,j,rfl,rfl,hz,q⟩:=h
 obtain ⟨t,rfl⟩:=rx
 obtain ⟨t',rfl⟩:=ry
 exact add_str (fun t' tk=>⟨.str (i ++ j),H,I.tok _,⟨_,rfl⟩,q⟩) hz
theorem vals1 {x:V} {us:List Value} (r:Vals [x] us):∃ u,us=[u]/\RelV x u:=by
 cases r with
 | cons r1 r2=>cases r2;exact ⟨_,rfl,r1⟩
theorem vals2 {x y:V} {us:List Value} (r:Vals [x,y] us):∃ u w',us=[u,w']/\RelV x u/\RelV y w':=by
 cases r with
 | cons r1 r2=>
  cases r2 with
  | cons r3 r4=>cases r4;exact ⟨_,_,rfl,r1,r3⟩
theorem v6:CallR X (.type "int") (fun xs H Q=>(∃ i,xs=[.int i]/\Q (.int i) H)\/∃ k,xs=[.bl k]/\Q (.int (if k then 1 else 0)) H):=by
 intro pins s U H xs us Q I r h
 rcases h with ⟨i,rfl,q⟩ | ⟨k,rfl,q⟩
 ·obtain ⟨u,rfl,t,rfl⟩:=vals1 r
  exact call_int_int ⟨.int i,H,I,⟨_,rfl⟩,q⟩
 ·obtain ⟨u,rfl,r1⟩:=vals1 r
  cases r1
  exact call_int_bool ⟨.int (if k then 1 else 0),H,I.tok _,⟨_,rfl⟩,q⟩
def J6 (K:W.Frag) (x:V) (H:Hp) (n:Nat):Prop:=
 match x with
 | .str y=>y.length<=sizeLine/\n=y.length
 | .byt y=>y.size<=sizeLine/\n=y.size
 | .ref p=>(∃ xs,SqL K H p xs/\n=xs.length)\/∃ xs,SqT K H p xs/\n=xs.length
 | _=>False
theorem xR:CallR X (.builtin "len") (fun xs H Q=>∃ x n,xs=[x]/\J6 X.K x H n/\Q (.int n) H):=by
 intro pins s U H xs us Q I r h
 obtain ⟨x,n,rfl,e,q⟩:=h
 obtain ⟨u,rfl,rx⟩:=vals1 r
 have hl:=nP
 have hs:sizeLine=16777216:=sizeLine_eq
 cases x with
 | str y=>
  obtain ⟨t,rfl⟩:=rx
  obtain ⟨hy,e'⟩:y.length<=sizeLine/\n=y.length:=e
  subst e'
  exact len_str (by omega) ⟨.int _,H,I.tok _,⟨_,rfl⟩,q⟩
 | byt y=>
  obtain ⟨t,rfl⟩:=rx
  obtain ⟨hy,e'⟩:y.size<=sizeLine/\n=y.size:=e
  subst e'
  exact PySem.W.len_bytes (by omega) ⟨.int _,H,I.tok _,⟨_,rfl⟩,q⟩
 | ref p=>
  cases rx
  have e':(∃ xs,SqL X.K H p xs/\n=xs.length)\/∃ xs,SqT X.K H p xs/\n=xs.length:=e
  rcases e' with ⟨xs,hx,e'⟩ | ⟨xs,hx,e'⟩
  ·subst e'
   obtain ⟨its,r',pl,hz⟩:=I.list hx
   have hlen:=r'.length
   exact Calls.call_len_list pl.isList (by simp only [List.size_toArray];omega) ⟨.int xs.length,H,I.tok _,⟨_,by simp only [List.size_toArray];rw [hlen]⟩,q⟩
  ·subst e'
   obtain ⟨its,r',pl,hz⟩:=I.tuple hx
   have hlen:=r'.length
   exact len_tuple pl (by simp only [List.size_toArray];omega) ⟨.int xs.length,H,I.tok _,⟨_,by simp only [List.size_toArray];rw [hlen]⟩,q⟩
 | _=>exact (show False from e).elim
end
structure ObjM (h:Heap) (x dx C:Addr) (mA:Str->Option Value):Prop where
 obj:h.get? x=some (PySem.W.instObj C dx)
 ns:h.Ns1 dx mA
 ne:dx≠x
theorem pM {h:Heap} {dx:Addr} {mA:Str->Option Value} (n:h.Ns1 dx mA):∃ od,h.get? dx=some od/\∀ name,PySem.W.lookIn name od=some (mA name):=by
 obtain ⟨o,es,ep,ho,hd,hk,_,hm⟩:=n
 refine ⟨o,ho,fun name=>?_⟩
 have e:=hm name
 unfold nsFind findBy at e
 rw [← Array.find?_toList] at e
 unfold PySem.W.lookIn
 rw [hd]
 dsimp only
 split
 ·rename_i y q
  rw [q] at e
  exact congrArg some e
 ·rename_i q
  rw [q] at e
  have a:es.toList.any (·.refKey)=false:=by
   rw [List.any_eq_false]
   intro y hy
   obtain ⟨z,t,hkey⟩:=hk y (Array.mem_toList_iff.mp hy)
   simp [DictEntry.refKey,hkey]
  have a':¬ es.toList.any (·.refKey)=true:=by rw [a];exact Bool.false_ne_true
  rw [if_neg a']
  exact congrArg some e
theorem ObjM.look {h:Heap} {x dx C:Addr} {mA:Str->Option Value} (I:ObjM h x dx C mA):∃ od,PySem.W.InstAt h x (PySem.W.instObj C dx) C (some od)/\∀ name,PySem.W.lookIn name od=some (mA name):=
 let ⟨od,ho,hl⟩:=pM I.ns
 ⟨od,⟨I.obj,rfl,rfl,ho⟩,hl⟩
section
variable {prog:Program} {w:World} {A:Around} {E:Value->Shared->Prop} {s:Shared} {K:W.Frag} {x dx C f:Addr} {mA:Str->Option Value} {name:Str} {v:Value}
theorem Bo {expr:Bool} {Q:Value->Shared->Prop} (X:K.In s.heap) (I:ObjM s.heap x dx C mA) (hg:PySem.W.plainGet K C name=true) (hh:PySem.W.hasDictIn K C=true)
  (ha:PySem.W.findIn K (.ref C) name=some none) (hv:mA name=some v) (hv':PySem.W.handedIn v=true) (h:Q v {s with toks:=s.toks+1}):
  wpAny (model prog w) A (getAttr (.ref x) name expr) Q E s:=by
 obtain ⟨od,J,hl⟩:=I.look
 exact PySem.W.get_value X J (PySem.W.plainGet_of hg).1 (PySem.W.findObj_own hh ha rfl (by rw [hl,hv])) hv' h
theorem xT {pl:Sem Bool} {Q:Value×List Value->Shared->Prop} (X:K.In s.heap) (I:ObjM s.heap x dx C mA) (hg:PySem.W.plainGet K C name=true)
  (hf:PySem.W.findIn K (.ref C) name=some (some (.ref f))) (ht:PySem.W.isFn K (.ref f)=true) (hv:mA name=none) (h:Q (.ref f,[.ref x]) s):
  wpAny (model prog w) A (getMethod (.ref x) name pl) Q E s:=by
 obtain ⟨od,J,hl⟩:=I.look
 exact PySem.W.method_fn X J (PySem.W.plainGet_of hg).1 (PySem.W.plainGet_of hg).2 hf (beq_iff_eq.mp ht) (by show (PySem.W.lookIn name od).map (·.isSome)=some false;rw [hl,hv];rfl) h
theorem Bp {ns:List Str} {Q:Unit->Shared->Prop} (X:K.In s.heap) (I:ObjM s.heap x dx C mA)
  (hs:PySem.W.findIn K (.ref C) "__setattr__"=some (some (.builtin "object.__setattr__"))) (hp:PySem.W.plainOver K C=true) (ht:PySem.W.takerIn K C name=some none) (hh:PySem.W.hasDictIn K C=true)
  (hw:PySem.Within mA ns) (hsz:ns.length<=sizeLine)
  (h:∀ h',ObjM h' x dx C (fun y=>if y=name then some v else mA y)->Heap.SameBut dx s.heap h'->Q () {s with heap:=h',toks:=s.toks+2}):
  wpAny (model prog w) A (setAttr (.ref x) name v) Q E s:=by
 obtain ⟨od,J,hl⟩:=I.look
 refine PySem.W.set_plain X J hs (PySem.W.osa_open (s:={s with toks:=s.toks+1}) (r:=none) X J hp ht fun b=>?_)
 obtain ⟨cd,hc,hd'⟩:=PySem.W.any_some hh
 have hx:s.heap.get? x=some ⟨.ref C,some dx,.plain,#[]⟩:=I.obj
 refine wpAny_bind (wpAny_pure (wpAny_bind (wpAny_bind (wpAny_loadPart hx (wpAny_bind (PySem.W.Looks.here (s:={s with toks:=s.toks+1}) (PySem.W.looks_clsIn X hc) ?_))))))
 rw [hd']
 refine wpAny_pure (a:=some dx) (wpAny_bind (wpAny_pure (wpAny_bind ?_)))
 refine wpAny_nsSet1 (s:={s with toks:=s.toks+1}) I.ns fun h' hn2 hs2=>?_
 obtain ⟨oD,esD,epD,hoD,hdD,hcD⟩:=hn2.count (PySem.Within.cons name v hw)
 refine wpAny_bind (wpAny_lookBehind hoD (by rw [hdD];exact pastItsLine_dict (Nat.le_trans hcD (by rw [List.length_cons];omega))) ?_)
 exact wpAny_pure (h _ ⟨(hs2.2 _ (Ne.symm I.ne)).trans I.obj,hn2,I.ne⟩ hs2)
theorem xU {R:Result->Shared->Prop} {vs:List Value} {kw:List (Str×Value)} (X:K.In s.heap) (hm:PySem.W.makesIn K C=true)
  (hi:PySem.W.findIn K (.ref C) "__init__"=some (some (.ref f))) (hf:PySem.W.typeIn K (.ref f)=some (.type "function"))
  (h:codeAny (model prog w) (A.under (.builtin "type.__call__" ⟨.ref C :: vs,kw⟩)) (.call (.ref f) ⟨.ref (s.heap.objs.size+1) :: vs,kw⟩) (PySem.W.InitBack (s.heap.objs.size+1) R)
   {s with heap:=(s.heap.push PySem.W.emptyDict).push (PySem.W.instObj C s.heap.objs.size)}):
  codeAny (model prog w) A (.call (.ref C) ⟨vs,kw⟩) R s:=by
 obtain ⟨hh,g,d,t,os⟩:=s
 exact PySem.W.make_core (PySem.W.makes_of X hm) (PySem.W.looks_findIn X hi) (fun self=>PySem.W.bind_fn X self hf) (.inl rfl) h
end
def jf (f:Str) (v:V):List (Str×V)->List (Str×V)
 | []=>[(f,v)]
 | (g,x) :: r=>if g=f then (g,v) :: r else (g,x) :: jf f v r
theorem mR (f g:Str) (v:V):∀ fs:List (Str×V),(jf f v fs).lookup g=if g=f then some v else fs.lookup g
 | []=>by
  show List.lookup g [(f,v)]=_
  by_cases h:g=f
  ·have hb:(g == f)=true:=beq_iff_eq.mpr h
   simp only [List.lookup,hb,if_pos h]
  ·have hb:(g == f)=false:=beq_eq_false_iff_ne.mpr h
   simp only [List.lookup,hb,if_neg h]
 | (k,x) :: r=>by
  have ih:=mR f g v r
  rw [show jf f v ((k,x) :: r)=(if k=f then (k,v) :: r else (k,x) :: jf f v r) from rfl]
  by_cases hk:k=f
  ·rw [if_pos hk]
   by_cases h:g=k
   ·have hb:(g == k)=true:=beq_iff_eq.mpr h
    simp only [List.lookup,hb,if_pos (h.trans hk)]
   ·have hb:(g == k)=false:=beq_eq_false_iff_ne.mpr h
    simp only [List.lookup,hb,if_neg (fun e:g=f=>h (e.trans hk.symm))]
  ·rw [if_neg hk]
   by_cases h:g=k
   ·have hb:(g == k)=true:=beq_iff_eq.mpr h
    simp only [List.lookup,hb,if_neg (fun e:g=f=>hk (h.symm.trans e))]
   ·have hb:(g == k)=false:=beq_eq_false_iff_ne.mpr h
    simp only [List.lookup,hb]
    exact ih
theorem my (f:Str) (v:V):∀ fs:List (Str×V),f∈(jf f v fs).map (·.1)/\∀ g,g∈fs.map (·.1)->g∈(jf f v fs).map (·.1)
 | []=>⟨by simp [jf],fun g h=>by simp at h⟩
 | (k,x) :: r=>by
  obtain ⟨i1,i2⟩:=my f v r
  rw [show jf f v ((k,x) :: r)=(if k=f then (k,v) :: r else (k,x) :: jf f v r) from rfl]
  by_cases hk:k=f
  ·rw [if_pos hk]
   subst hk
   exact ⟨by simp,fun g h=>by simpa using h⟩
  ·rw [if_neg hk]
   refine ⟨?_,fun g h=>?_⟩
   ·rw [List.map_cons]
    exact List.mem_cons_of_mem _ i1
   ·rw [List.map_cons] at h ⊢
    rcases List.mem_cons.mp h with e | e
    ·exact List.mem_cons.mpr (.inl e)
    ·exact List.mem_cons_of_mem _ (i2 g e)
theorem mU (f:Str) (v:V):∀ fs:List (Str×V),(jf f v fs).length<=fs.length+1
 | []=>by simp [jf]
 | (k,x) :: r=>by
  have ih:=mU f v r
  rw [show jf f v ((k,x) :: r)=(if k=f then (k,v) :: r else (k,x) :: jf f v r) from rfl]
  by_cases hk:k=f
  ·rw [if_pos hk,List.length_cons,List.length_cons];omega
  ·rw [if_neg hk,List.length_cons,List.length_cons];omega
theorem RelO.some_of {v:V} {o:Option Value} (r:RelO (some v) o):∃ u,o=some u/\RelV v u:=by
 cases o with
 | none=>exact (show False from r).elim
 | some u=>exact ⟨u,rfl,r⟩
theorem RelO.none_of {o:Option Value} (r:RelO none o):o=none:=by
 cases o with
 | none=>rfl
 | some u=>exact (show False from r).elim
theorem v7 {v:V} {u:Value} (r:RelV v u):PySem.W.handedIn u=true:=by
 cases v with
 | non=>cases (show u=Value.none from r);rfl
 | bl b=>cases (show u=Value.bool b from r);rfl
 | int i=>obtain ⟨t,e⟩:=(show ∃ t,u=Value.int i t from r);cases e;rfl
 | str x=>obtain ⟨t,e⟩:=(show ∃ t,u=Value.str x t from r);cases e;rfl
 | byt b=>obtain ⟨t,e⟩:=(show ∃ t,u=Value.bytes b t from r);cases e;rfl
 | flt b=>obtain ⟨t,e⟩:=(show ∃ t,u=Value.float b t from r);cases e;rfl
 | ref a=>cases (show u=Value.ref a from r);rfl
 | ty n=>cases (show u=Value.type n from r);rfl
section
variable {P:Program} {w:World} {H H':Hp} {h h':Heap} {a C dx:Addr} {fs fs':List (Str×V)}
theorem lg (hok:HOk P w H h) (e:H a=some (.ins C dx fs)):∃ mA,ObjM h a dx C mA/\(∀ f,RelO (fs.lookup f) (mA f))/\PySem.Within mA (fs.map (·.1))/\fs.length<=1000/\H dx=some (.own a):=by
 obtain ⟨d,z,ne,ob,mA,n,r,q⟩:=(show ObjOk P w H h a (.ins C dx fs) from hok a _ e)
 exact ⟨mA,⟨ob,n,ne⟩,r,q,z,d⟩
end
structure Cls (K:W.Frag) (C:Addr):Prop where
 pg:PySem.W.plainGet K C Str.empty=true
 hd:PySem.W.hasDictIn K C=true
 po:PySem.W.plainOver K C=true
 sa:PySem.W.findIn K (.ref C) "__setattr__"=some (some (.builtin "object.__setattr__"))
theorem Cls.get {K:W.Frag} {C:Addr} (c:Cls K C) (f:Str):PySem.W.plainGet K C f=true:=c.pg
def NoAttr (K:W.Frag) (C:Addr) (f:Str):Prop:=PySem.W.findIn K (.ref C) f=some none
theorem NoAttr.taker {K:W.Frag} {C:Addr} {f:Str} (n:NoAttr K C f):PySem.W.takerIn K C f=some none:=by
 unfold PySem.W.takerIn
 rw [show PySem.W.findIn K (.ref C) f=some none from n]
 rfl
structure Meth (K:W.Frag) (C:Addr) (m:Str) (f:Addr):Prop where
 at_:PySem.W.findIn K (.ref C) m=some (some (.ref f))
 fn:PySem.W.isFn K (.ref f)=true
 kp:PySem.W.keepIn K (.ref f)=true
section
variable {X:Cx} {pins:List (Addr×Obj)} {U:St} {H:Hp} {s:Shared} {a C dx:Addr} {fs:List (Str×V)} {f:Str} {v:V} {A:Around} {E:Value->Shared->Prop}
theorem tV {b:Bool} {Q:Value->Shared->Prop} (I:Inv X pins U H s) (e:H a=some (.ins C dx fs)) (c:Cls X.K C) (n:NoAttr X.K C f) (l:fs.lookup f=some v)
  (h:∀ u s',Inv X pins U H s'->RelV v u->Q u s'):wpAny (model X.prog X.w) A (getAttr (.ref a) f b) Q E s:=by
 obtain ⟨mA,O,r,_,_,_⟩:=lg I.hok e
 obtain ⟨u,hu,ru⟩:=RelO.some_of (v:=v) (o:=mA f) (by rw [← l];exact r f)
 exact Bo I.kIn O (c.get f) c.hd n hu (v7 ru) (h u _ (I.tok _) ru)
theorem tW {m:Str} {g:Addr} {pl:Sem Bool} {Q:Value×List Value->Shared->Prop} (I:Inv X pins U H s) (e:H a=some (.ins C dx fs)) (c:Cls X.K C) (k:Meth X.K C m g) (l:fs.lookup m=none)
  (h:Q (.ref g,[.ref a]) s):wpAny (model X.prog X.w) A (getMethod (.ref a) m pl) Q E s:=by
 obtain ⟨mA,O,r,_,_,_⟩:=lg I.hok e
 have hn:mA m=none:=RelO.none_of (by rw [← l];exact r m)
 exact xT I.kIn O (c.get m) k.at_ k.fn hn h
theorem tX {y:V} {u:Value} {Q:Unit->Shared->Prop} (I:Inv X pins U H s) (e:H a=some (.ins C dx fs)) (c:Cls X.K C) (n:NoAttr X.K C f) (hl:fs.length < 1000) (ry:RelV y u)
  (h:∀ s',Inv X pins U (upd H a (.ins C dx (jf f y fs))) s'->Q () s'):wpAny (model X.prog X.w) A (setAttr (.ref a) f u) Q E s:=by
 obtain ⟨mA,O,r,wi,_,ho⟩:=lg I.hok e
 have hz:(fs.map (·.1)).length<=sizeLine:=by rw [List.length_map,sizeLine_eq];omega
 refine Bp I.kIn O c.sa c.po n.taker c.hd wi hz fun h' O' sb=>h _ ?_
 have hd:∃ o,h'.get? dx=some o:=let ⟨o,_,_,e',_⟩:=O'.ns;⟨o,e'⟩
 refine I.write (x:=a) (e:=dx) (by rw [e];exact True.intro) (.inr ho) (fun b q hb z=>(sb.2 b hb).trans z) hd ?_
 refine ⟨by rw [aA O.ne];exact ho,?_,O.ne,O'.obj,_,O'.ns,fun g=>?_,fun g hg=>?_⟩
 ·have:=mU f y fs;omega
 ·show RelO ((jf f y fs).lookup g) (if g=f then some u else mA g)
  rw [mR]
  by_cases q:g=f
  ·rw [if_pos q,if_pos q];exact ry
  ·rw [if_neg q,if_neg q];exact r g
 ·by_cases q:g=f
  ·rw [q];exact (my f y fs).1
  ·refine (my f y fs).2 g (wi g fun z=>hg ?_)
   show (if g=f then some u else mA g)=none
   rw [if_neg q];exact z
theorem Inv.made (I:Inv X pins U H s):Inv X pins U (upd (upd H s.heap.objs.size (.own (s.heap.objs.size+1))) (s.heap.objs.size+1) (.ins C s.heap.objs.size []))
  {s with heap:=(s.heap.push PySem.W.emptyDict).push (PySem.W.instObj C s.heap.objs.size)}:=by
 have e1:(s.heap.push PySem.W.emptyDict).get? s.heap.objs.size=some PySem.W.emptyDict:=Heap.get?_push_size s.heap rfl
 have e2:((s.heap.push PySem.W.emptyDict).push (PySem.W.instObj C s.heap.objs.size)).get? (s.heap.objs.size+1)=some (PySem.W.instObj C s.heap.objs.size):=by
  have:=Heap.get?_push_size (s.heap.push PySem.W.emptyDict) (o:=PySem.W.instObj C s.heap.objs.size) rfl
  rwa [Heap.size_push] at this
 have e3:(s.heap.push PySem.W.emptyDict).Ns s.heap.objs.size (fun _=>none):=⟨PySem.W.emptyDict,#[],_,e1,rfl,(fun e he=>absurd he (by simp)),fun _=>rfl⟩
 have I1:=I.laid (a:=s.heap.objs.size) (o:=.own (s.heap.objs.size+1)) (h':=s.heap.push PySem.W.emptyDict) (t':=s.toks) (fun b u q=>Heap.get?_push_of_some _ q) (Nat.le_refl _) ⟨_,e1⟩
 refine I1.laid (a:=s.heap.objs.size+1) (o:=.ins C s.heap.objs.size []) (t':=s.toks) (fun b u q=>Heap.get?_push_of_some _ q) (Nat.le_of_eq (Heap.size_push _ _)) ?_
 have ne:s.heap.objs.size≠s.heap.objs.size+1:=Nat.ne_of_lt (Nat.lt_succ_self _)
 refine ⟨by rw [aA ne,aj],Nat.zero_le _,ne,e2,fun _=>none,(Heap.Ns1.of_empty e3).at fun o q=>Heap.get?_push_of_some _ q,fun _=>True.intro,fun y hy=>absurd rfl hy⟩
theorem Bq {prog:Program} {w:World} {env:Env} {e:Expr} {f:Str} {pos:Pos} {s:Shared} {Q:Value->Shared->Prop} (hb:attributeBase e f env (eval e env)=eval e env)
  (h:wpAny (model prog w) A (eval e env) (fun o s₁=>wpAny (model prog w) A (getAttr o f true) Q E s₁) E s):wpAny (model prog w) A (eval (.Attribute e f pos) env) Q E s:=
 Attribute_any_ h (by rw [arm_eval_Attribute,hb])
end
def Gp (K:W.Frag) (ta:TE) (f:Str):TE:=fun U H Q=>ta U H fun x H1=>∃ a C dx fs v,x= .ref a/\H1 a=some (.ins C dx fs)/\Cls K C/\NoAttr K C f/\fs.lookup f=some v/\Q v H1
def Gq (K:W.Frag) (ta tv:TE) (f:Str):TS:=fun D U H=>tv U H fun y H1=>ta U H1 fun x H2=>∃ a C dx fs,x= .ref a/\H2 a=some (.ins C dx fs)/\Cls K C/\NoAttr K C f/\fs.length < 1000/\
 D.nx U (upd H2 a (.ins C dx (jf f y fs)))
section
variable {X:Cx} {o e value:Expr} {f:Str} {pos pos' tpos:Pos} {ta tv:TE}
theorem Gr (he:PE X e ta) (hb:attributeBase e f X.env (eval e X.env)=eval e X.env):PE X (.Attribute e f pos) (Gp X.K ta f):=by
 intro pins s U H Q I h
 refine Bq hb (cP (he pins s U H _ I h) fun u s1 qq0=>?_)
 obtain ⟨x,H1,I1,rx,a,C,dx,fs,v,ex,ea,c,n,l,q⟩:=qq0
 subst ex
 obtain rfl:u=Value.ref a:=rx
 exact tV I1 ea c n l fun u' s2 I2 ru=>⟨v,H1,I2,ru,q⟩
theorem Gs (ha:PE X o ta) (hv:PE X value tv) (hs:swapsWith value (some (.Attribute o f pos')) pos.line X.env=pure false):PS X (.Assign [.Attribute o f pos'] value pos) (Gq X.K ta tv f):=by
 intro pins s U H D I h
 refine plainObj_wpAny_Assign_Attribute (cP (hv pins s U H _ I h) fun u s1 ⟨y,H1,I1,ry,q⟩=>cP (ha pins s1 U H1 _ I1 q) fun ov s2 qq0=>?_) hs
 obtain ⟨x,H2,I2,rx,a,C,dx,fs,ex,ea,c,n,l,q2⟩:=qq0
 subst ex
 obtain rfl:ov=Value.ref a:=rx
 exact tX I2 ea c n l ry fun s3 I3=>⟨U,_,I3,q2⟩
end
section
variable {X:Cx} {pins:List (Addr×Obj)} {U:St} {H:Hp} {s:Shared} {A:Around} {E:Value->Shared->Prop} {Q:Value->Shared->Prop} {c:Value} {b:Bool}
inductive TyOf (K:W.Frag) (H:Hp):V->Value->Prop where
 | non:TyOf K H .non (.type "NoneType")
 | bl (x:Bool):TyOf K H (.bl x) (.type "bool")
 | int (i:Int):TyOf K H (.int i) (.type "int")
 | str (x:Str):TyOf K H (.str x) (.type "str")
 | flt (x:UInt64):TyOf K H (.flt x) (.type "float")
 | lst {a:Addr} {xs:List V} (e:H a=some (.lst xs)):TyOf K H (.ref a) (.type "list")
 | frz {a:Addr} {o:Obj} {xs:List V} (e:H a=some (.frz o (.lst xs))):TyOf K H (.ref a) (.type "list")
 | tup {a:Addr} {xs:List V} (e:H a=some (.tup xs)):TyOf K H (.ref a) (.type "tuple")
 | dK {a:Addr} {kvs:List (Key×V)} (e:H a=some (.dK kvs)):TyOf K H (.ref a) (.type "dict")
 | dT {a:Addr} {kvs:List (List Key×V)} (e:H a=some (.dT kvs)):TyOf K H (.ref a) (.type "dict")
 | ins {a C dx:Addr} {fs:List (Str×V)} (e:H a=some (.ins C dx fs)) (cl:Cls K C) (ha:PySem.W.findIn K (.ref C) "__class__"=some (some (.builtin "object.__class__")))
   (hn:PySem.W.specialIn K (.builtin "object.__class__") "__get__"=some (some (.builtin "getset_descriptor.__get__"))) (htk:PySem.W.takesIn K (.builtin "object.__class__")=some true)
   (hm:PySem.W.mroIn K C (.type "object")=some true):TyOf K H (.ref a) (.ref C)
theorem v8 {x:V} {u t:Value} (I:Inv X pins U H s) (rx:RelV x u) (ty:TyOf X.K H x t) (e:PySem.W.kitOne X.K t c=some b) (h:∀ tk,Q (.bool b) {s with toks:=tk}):
  wpAny (model X.prog X.w) A (call (.builtin "isinstance") [u,c]) Q E s:=by
 cases ty with
 | non=>cases (show u=Value.none from rx);exact PySem.W.kia_one PySem.W.kitx_none I.kIn True.intro e (fun z=>nomatch z) h
 | bl y=>cases (show u=Value.bool y from rx);exact PySem.W.kia_one PySem.W.kitx_bool I.kIn True.intro e (fun z=>nomatch z) h
 | int i=>obtain ⟨t,q⟩:=(show ∃ t,u=Value.int i t from rx);cases q;exact PySem.W.kia_one PySem.W.kitx_int I.kIn True.intro e (fun z=>nomatch z) h
 | str y=>obtain ⟨t,q⟩:=(show ∃ t,u=Value.str y t from rx);cases q;exact PySem.W.kia_one PySem.W.kitx_str I.kIn True.intro e (fun z=>nomatch z) h
 | flt y=>obtain ⟨t,q⟩:=(show ∃ t,u=Value.float y t from rx);cases q;exact PySem.W.kia_one PySem.W.kitx_float I.kIn True.intro e (fun z=>nomatch z) h
 | @lst a xs ea=>
  cases (show u=Value.ref a from rx)
  obtain ⟨_,_,n,_,h1⟩:=(show ObjOk X.prog X.w H s.heap a (.lst xs) from I.hok a _ ea)
  exact PySem.W.kia_one PySem.W.kitx_list I.kIn ⟨_,h1,rfl⟩ e (fun z=>nomatch z) h
 | @frz a ob xs ea=>
  cases (show u=Value.ref a from rx)
  obtain ⟨_,_,_,n,_,h1⟩:=(show ObjOk X.prog X.w H s.heap a (.frz ob (.lst xs)) from I.hok a _ ea)
  exact PySem.W.kia_one PySem.W.kitx_list I.kIn ⟨_,h1,rfl⟩ e (fun z=>nomatch z) h
 | @tup a xs ea=>
  cases (show u=Value.ref a from rx)
  obtain ⟨_,_,_,p⟩:=(show ObjOk X.prog X.w H s.heap a (.tup xs) from I.hok a _ ea)
  obtain ⟨o,h1,h2,_⟩:=p
  exact PySem.W.kia_one PySem.W.kitx_tuple I.kIn ⟨o,h1,h2⟩ e (fun z=>nomatch z) h
 | @dK a kvs ea=>
  cases (show u=Value.ref a from rx)
  obtain ⟨_,_,vs,_,p⟩:=(show ObjOk X.prog X.w H s.heap a (.dK kvs) from I.hok a _ ea)
  obtain ⟨o,es,ep,h1,h2,_⟩:=p
  exact PySem.W.kia_one PySem.W.kitx_dict I.kIn ⟨o,h1,h2.1⟩ e (fun z=>nomatch z) h
 | @dT a kvs ea=>
  cases (show u=Value.ref a from rx)
  obtain ⟨_,_,xs,_,o,es,ep,h1,h2,_⟩:=(show ObjOk X.prog X.w H s.heap a (.dT kvs) from I.hok a _ ea)
  exact PySem.W.kia_one PySem.W.kitx_dict I.kIn ⟨o,h1,h2.1⟩ e (fun z=>nomatch z) h
 | @ins a C dx fs ea cl ha hn htk hm=>
  cases (show u=Value.ref a from rx)
  obtain ⟨mA,O,_⟩:=lg I.hok ea
  obtain ⟨od,J,_⟩:=O.look
  exact PySem.W.kia_one (PySem.W.kitx_own (cl.get _) cl.hd ha hn htk hm) I.kIn J e (fun z=>nomatch z) h
end
structure Room (k:Nat) (A:Around):Prop where
 hd:A.handled=none
 dp:A.depth+3*k+5 < recursionLimit
 un:A.units+16*k+200 < cLine
 gd:A.guards=some []
theorem Room.mono {j k:Nat} {A:Around} (r:Room k A) (h:j<=k):Room j A:=⟨r.hd,by have:=r.dp;omega,by have:=r.un;omega,r.gd⟩
theorem Room.deeper {k:Nat} {A:Around} (r:Room (k+1) A) (env:Env):Room k (A.deeper env):=
 ⟨r.hd,by have:=r.dp;show A.depth+1+3*k+5 < _;omega,by have:=r.un;show A.units+3+16*k+200 < _;omega,r.gd⟩
theorem Room.in1 {k:Nat} {A:Around} (r:Room (k+1) A):Room k A.in1:=
 ⟨r.hd,by have:=r.dp;show A.depth+3*k+5 < _;omega,by have:=r.un;show A.units+1+16*k+200 < _;omega,r.gd⟩
theorem tY {A:Around} {C:Addr} {us:List Value} {kw:List (Str×Value)}:(A.under (.builtin "type.__call__" ⟨.ref C :: us,kw⟩)).depth=A.depth+1:=by
 first | rfl | simp [Around.under,Code.weight,Code.isCreation,Code.isGuard,Code.isCaller,Code.frames,Code.isFrame,guardIds]
theorem tZ {A:Around} {C:Addr} {us:List Value} {kw:List (Str×Value)}:(A.under (.builtin "type.__call__" ⟨.ref C :: us,kw⟩)).units=A.units+1:=by
 first | rfl | simp [Around.under,Code.cUnits,Code.frames,Code.isFrame]
theorem rD {A:Around} {C:Addr} {us:List Value} {kw:List (Str×Value)}:(A.under (.builtin "type.__call__" ⟨.ref C :: us,kw⟩)).guards=pushGuards [] A.guards:=by
 first | rfl | simp [Around.under,Code.guards,Code.isGuard,guardIds]
theorem Room.make {k:Nat} {A:Around} (r:Room (k+1) A) (C:Addr) (us:List Value) (kw:List (Str×Value)):Room k (A.under (.builtin "type.__call__" ⟨.ref C :: us,kw⟩)):=
 ⟨r.hd,by have:=r.dp;rw [tY];omega,by have:=r.un;rw [tZ];omega,(rD.trans (by rw [r.gd];rfl))⟩
theorem Room.depth {k:Nat} {A:Around} (r:Room k A):A.depth < recursionLimit:=by have:=r.dp;omega
theorem Room.units {k:Nat} {A:Around} (r:Room k A):A.units+64 < cLine:=by have:=r.un;omega
theorem Room.units0 {k:Nat} {A:Around} (r:Room k A):A.units < cLine:=by have:=r.un;omega
def Gu:TA:=fun _ H Q=>Q [] H
def uO (ta:TE) (tr:TA):TA:=fun U H Q=>ta U H fun x H1=>tr U H1 fun xs H2=>Q (x :: xs) H2
section
variable {X:Cx} {e:Expr} {es:List Expr} {te:TE} {t:TA} {pos:Pos}
theorem Gv:PA X [] Gu:=fun _ _ _ _ H Q I h=>Calls.spliced_nil ⟨[],H,I,.nil,h⟩
theorem Br (ha:PE X e te) (hr:PA X es t) (hs:autoParam (starEach (e :: es) X.env=(false,eval e X.env) :: starEach es X.env) L2.auto4._auto_1):PA X (e :: es) (uO te t):=by
 intro pos pins s U H Q I h
 rw [hs]
 show wpAny _ _ (spliced ((false,eval e X.env) :: backTo pos (starEach es X.env))) _ _ s
 refine Calls.spliced_cons (cP (ha pins s U H _ I h) fun u s1 qq0=>?_)
 obtain ⟨x,H1,I1,r1,q1⟩:=qq0
 exact cP (hr pos pins s1 U H1 _ I1 q1) fun us s2 ⟨xs,H2,I2,r2,q2⟩=>⟨x :: xs,H2,I2,.cons r1 r2,q2⟩
def Bs (t:TA):TE:=fun U H Q=>t U H fun xs H1=>xs.length<=sizeLine/\∀ p,H1 p=none->Q (.ref p) (upd H1 p (.tup xs))
def Gw (t:TA):TE:=fun U H Q=>t U H fun xs H1=>xs.length<=sizeLine/\∀ p,H1 p=none->Q (.ref p) (upd H1 p (.lst xs))
theorem Gx {x1} (h:PA X es t):PE X (.Tuple es x1 pos) (Bs t):=by
 intro pins s U H Q I hq
 refine wpAny_Tuple_spliced (cP (h pos pins s U H _ I hq) fun us s1 ⟨xs,H1,I1,r,z,q⟩=>⟨by rw [← r.length];exact z,?_⟩)
 have hf:H1 s1.heap.objs.size=none:=I1.hok.fresh (Nat.le_refl _)
 refine ⟨.ref s1.heap.objs.size,upd H1 s1.heap.objs.size (.tup xs),I1.laid (t':=s1.toks) (fun b u e=>Heap.get?_push_of_some _ e) (Nat.le_refl _) ?_,rfl,q _ hf⟩
 exact ⟨z,us,r,⟨_,Heap.get?_push_size _ rfl,rfl,_,rfl⟩⟩
theorem Gy (h:PA X es t):PE X (.List es pos) (Gw t):=by
 intro pins s U H Q I hq
 refine wpAny_List_spliced (cP (h pos pins s U H _ I hq) fun us s1 ⟨xs,H1,I1,r,z,q⟩=>⟨by rw [← r.length];exact z,?_⟩)
 have hf:H1 s1.heap.objs.size=none:=I1.hok.fresh (Nat.le_refl _)
 refine ⟨.ref s1.heap.objs.size,upd H1 s1.heap.objs.size (.lst xs),I1.laid (t':=s1.toks) (fun b u e=>Heap.get?_push_of_some _ e) (Nat.le_refl _) ?_,rfl,q _ hf⟩
 exact ⟨z,us,0,r,Heap.get?_push_size _ rfl⟩
end
abbrev Sp:=List V->Hp->VK->XK->Prop
abbrev xV:=List Env->Hp->Shared->XK->Value->Shared->Prop
structure Env0 (P:Program) (w:World) (K:W.Frag) (mg:Str->Option Value) (base:Heap) (A:Around) (outer:List Env) (s:Shared) (H:Hp):Prop where
 frames:A.frames=some outer
 mod:Mod K mg base
 bs:∀ b o,base.get? b=some o->s.heap.get? b=some o/\H b=none
 bsz:base.objs.size<=s.heap.objs.size
 funs:s.heap.FunFrames base outer
 frf:∀ b∈frs outer,H b=none
 hok:HOk P w H s.heap
 bare:AllBare s.gens
def CE (outer:List Env) (P:Program) (w:World) (H:Hp) (s:Shared) (Q:VK) (u:Value) (s':Shared):Prop:=
 ∃ v H',s'.os=s.os/\AllBare s'.gens/\Un (frs outer) [] H H' s.heap s'.heap/\HOk P w H' s'.heap/\RelV v u/\Q v H'
def CR (CX:xV) (outer:List Env) (P:Program) (w:World) (H:Hp) (s:Shared) (Q:VK) (E:XK) (r:Result) (s':Shared):Prop:=
 match r with
 | .ok (.ret u)=>CE outer P w H s Q u s'
 | .ok _=>False
 | .error e=>CX outer H s E e s'
structure nQ (P:Program) (w:World) (K:W.Frag) (mg:Str->Option Value) (base:Heap) (CX:xV) (k:Nat) (f:Addr) (fd:FuncData) (ps:List Str) (sp:Sp):Prop where
 len:∀ vs H Q E,sp vs H Q E->vs.length=ps.length
 run:∀ (A:Around) (outer:List Env) (s:Shared) (H:Hp) (args:Args) (us:List Value) (vs:List V) (Q:VK) (E:XK),Room k A->Env0 P w K mg base A outer s H->BindsTo s fd args (ps.zip us)->Vals vs us->sp vs H Q E->
  codeAny (model P w) A (.call (.ref f) args) (CR CX outer P w H s Q E) s
theorem Env0.make {P:Program} {w:World} {K:W.Frag} {mg:Str->Option Value} {base:Heap} {A:Around} {outer:List Env} {s:Shared} {H:Hp} (e:Env0 P w K mg base A outer s H) (C:Addr) (us:List Value) (kw:List (Str×Value)):
  Env0 P w K mg base (A.under (.builtin "type.__call__" ⟨.ref C :: us,kw⟩)) outer s H:=⟨by first | exact e.frames | (simpa [Around.under,Code.envs,Code.isFrame,pushEnvs] using e.frames),e.mod,e.bs,e.bsz,e.funs,e.frf,e.hok,e.bare⟩
theorem Env0.in1 {P:Program} {w:World} {K:W.Frag} {mg:Str->Option Value} {base:Heap} {A:Around} {outer:List Env} {s:Shared} {H:Hp} (e:Env0 P w K mg base A outer s H):
  Env0 P w K mg base A.in1 outer s H:=⟨e.frames,e.mod,e.bs,e.bsz,e.funs,e.frf,e.hok,e.bare⟩
section
variable {X:Cx} {pins:List (Addr×Obj)} {U:St} {H:Hp} {s s':Shared}
theorem Inv.env0 (I:Inv X pins U H s):Env0 X.prog X.w X.K X.mg X.base X.A X.stack s H:=
 ⟨I.ok.frames,I.ok.mod,I.bs,Nat.le_trans I.ok.bsz I.sz,I.stack,I.stkFree,I.hok,I.bare⟩
theorem Inv.after {Q:VK} {u:Value} (I:Inv X pins U H s) (h:CE X.stack X.prog X.w H s Q u s'):EP X pins U Q u s':=by
 obtain ⟨v,H',os,bare,un,hok,r,q⟩:=h
 obtain ⟨hh,g,d,t,os'⟩:=s'
 obtain rfl:os'=s.os:=os
 exact ⟨v,H',I.call (h':=hh) (g':=g) (d':=d) (t':=t) (ch:=[]) un hok bare (fun b z=>absurd z (by simp)),r,q⟩
end
def pN (sp:Sp) (dvs:List V) (E:XK) (t:TA):TE:=fun U H Q=>t U H fun vs H1=>sp (vs ++ dvs) H1 Q E
def Binds (K:W.Frag) (fd:FuncData) (ps:List Str) (ds:List Value):Prop:=
 ∀ (s:Shared) (us:List Value),K.In s.heap->(us ++ ds).length=ps.length->BindsTo s fd ⟨us,[]⟩ (ps.zip (us ++ ds))
theorem Binds.all {K:W.Frag} {fd:FuncData} {ps:List Str} (h:∀ us:List Value,us.length=ps.length->bindArgs fd ⟨us,[]⟩=pure (ps.zip us)):Binds K fd ps []:=fun s us _ hl=>by
 rw [List.append_nil] at hl ⊢
 exact .of_eq (h us hl)
def t6 (CX:xV) (X:Cx) (E:XK):Prop:=∀ (pins:List (Addr×Obj)) (U:St) (H:Hp) (s:Shared) (e:Value) (s':Shared),Inv X pins U H s->CX X.stack H s E e s'->X.xe e s'
section
variable {X:Cx} {CX:xV} {k:Nat} {f C:Addr} {fd:FuncData} {ps:List Str} {sp:Sp} {dvs:List V} {ds:List Value} {E:XK} {x m:Str} {p pos apos:Pos} {e o:Expr} {es:List Expr} {ta:TE} {t:TA}
theorem Gz {pins:List (Addr×Obj)} {U:St} {H:Hp} {s:Shared} {Q:VK} {us:List Value} {vs:List V} (F:nQ X.prog X.w X.K X.mg X.base CX k f fd ps sp) (hr:Room k X.A) (hb:Binds X.K fd ps ds) (hd:Vals dvs ds) (hx:t6 CX X E)
  (I:Inv X pins U H s) (r:Vals vs us) (h:sp (vs ++ dvs) H Q E):wpAny (model X.prog X.w) X.A (call (.ref f) us) (EP X pins U Q) X.xe s:=by
 have r2:Vals (vs ++ dvs) (us ++ ds):=r.append hd
 have hl:(us ++ ds).length=ps.length:=by rw [← r2.length];exact F.len _ _ _ _ h
 refine wpAny_call (codeAny_mono (F.run X.A X.stack s H ⟨us,[]⟩ (us ++ ds) (vs ++ dvs) Q E hr I.env0 (hb s us I.kIn hl) r2 h) fun r s' hq=>?_)
 cases r with
 | error e=>exact hx pins U H s e s' I hq
 | ok fl=>
  cases fl with
  | ret u=>exact I.after hq
  | next=>exact False.elim hq
  | brk=>exact False.elim hq
  | cont=>exact False.elim hq
theorem Bt (F:nQ X.prog X.w X.K X.mg X.base CX k f fd ps sp) (hr:Room k X.A) (hg:Gl X x) (hm:X.mg x=some (.ref f)) (hk:PySem.W.keepIn X.K (.ref f)=true) (hb:Binds X.K fd ps ds) (hd:Vals dvs ds) (hx:t6 CX X E)
  (ha:PA X (e :: es) t) (hdb:autoParam ((x == ("__debug__":Str))=false) L2.auto2._auto_1) (he:autoParam (starEach (e :: es) X.env=(false,eval e X.env) :: starEach es X.env) L2.auto4._auto_1) (hpl:autoParam ((backTo pos (starEach es X.env)).any (·.1)=false) L2.auto4._auto_1):
  PE X (.Call (.Name x p) (e :: es) [] pos) (pN sp dvs E t):=by
 intro pins s U H Q I h
 refine wpAny_Call_Name_kw (qw I hg hm ?_ hdb)
 refine PySem.W.callWith_K (h₀:=X.base) I.ok.mod.kin hk (cP (ha pos pins s U H _ I h) fun us s1 ⟨vs,H1,I1,r,q⟩=>⟨I1.kIn,?_⟩) he hpl
 exact Gz F hr hb hd hx I1 r q
end
structure aG (N P:List Str) (sc:Scope):Prop where
 kind:sc.kind= .function
 co:sc.isCoroutine=false
 gen:sc.isGenerator=false
 nd:N.Nodup
 pre:N.take P.length=P
 par:∀ x∈P,sc.names.lookup x=some .local\/sc.names.lookup x=some .cell
 nofree:∀ y∈sc.names,y.2≠.free
theorem pO {kindOf:Str->Option NameKind} {x:Str}:∀ {binds:List (Str×Value)} {m:Str->Option Value},(∀ v,(x,v) ∉ binds)->bindL kindOf binds m x=m x
 | [],_,_=>rfl
 | (n,v) :: r,m,h=>by
  unfold bindL
  rw [pO fun w hw=>h w (List.mem_cons_of_mem _ hw)]
  split
  ·have:x≠n:=by rintro rfl;exact h v List.mem_cons_self
   simp [this]
  ·rfl
theorem pP {kindOf:Str->Option NameKind} {x:Str}:∀ {binds:List (Str×Value)} {m:Str->Option Value},(∀ v,(x,v) ∉ binds)->bindC kindOf binds m x=m x
 | [],_,_=>rfl
 | (n,v) :: r,m,h=>by
  unfold bindC
  rw [pP fun w hw=>h w (List.mem_cons_of_mem _ hw)]
  split
  ·rfl
  ·have:x≠n:=by rintro rfl;exact h v List.mem_cons_self
   simp [this]
theorem pQ {kindOf:Str->Option NameKind} {x:Str} {v:Value}:∀ {P:List Str} {vs:List Value} {i:Nat} {m:Str->Option Value},P.Nodup->P[i]?=some x->vs[i]?=some v->kindOf x=some .local->
  bindL kindOf (P.zip vs) m x=some v
 | [],_,_,_,_,h,_,_=>by simp at h
 | _ :: _,[],_,_,_,_,h,_=>by simp at h
 | p :: P,w :: vs,0,m,nd,h1,h2,hk=>by
  simp at h1 h2;subst h1;subst h2
  show bindL kindOf ((p,w) :: P.zip vs) m p=_
  unfold bindL
  rw [pO fun v hv=>(List.nodup_cons.mp nd).1 (List.of_mem_zip hv).1,if_pos hk]
  simp
 | p :: P,w :: vs,i+1,m,nd,h1,h2,hk=>by
  show bindL kindOf ((p,w) :: P.zip vs) m x=_
  unfold bindL
  exact pQ (i:=i) (List.nodup_cons.mp nd).2 (by simpa using h1) (by simpa using h2) hk
theorem pR {kindOf:Str->Option NameKind} {x:Str} {v:Value}:∀ {P:List Str} {vs:List Value} {i:Nat} {m:Str->Option Value},P.Nodup->P[i]?=some x->vs[i]?=some v->kindOf x≠some .local->
  bindC kindOf (P.zip vs) m x=some v
 | [],_,_,_,_,h,_,_=>by simp at h
 | _ :: _,[],_,_,_,_,h,_=>by simp at h
 | p :: P,w :: vs,0,m,nd,h1,h2,hk=>by
  simp at h1 h2;subst h1;subst h2
  show bindC kindOf ((p,w) :: P.zip vs) m p=_
  unfold bindC
  rw [pP fun v hv=>(List.nodup_cons.mp nd).1 (List.of_mem_zip hv).1,if_neg hk]
  simp
 | p :: P,w :: vs,i+1,m,nd,h1,h2,hk=>by
  show bindC kindOf ((p,w) :: P.zip vs) m x=_
  unfold bindC
  exact pR (i:=i) (List.nodup_cons.mp nd).2 (by simpa using h1) (by simpa using h2) hk
def start (N:List Str) (vs:List V):St:=vs.map some ++ List.replicate (N.length - vs.length) none
def jw (CX:xV) (P:Program) (w:World) (K:W.Frag) (mg:Str->Option Value) (base:Heap) (N:List Str) (qual:Str) (scope:Scope) (f:Addr) (cd:Value) (A:Around) (outer:List Env) (s:Shared) (H:Hp) (E:XK):Cx where
 prog:=P
 w:=w
 K:=K
 mg:=mg
 base:=base
 A:=A.deeper (envOfC qual scope s.heap.objs.size f cd)
 N:=N
 s₀:=s
 H₀:=H
 env:=envOfC qual scope s.heap.objs.size f cd
 outer:=outer
 stack:=envOfC qual scope s.heap.objs.size f cd :: outer
 ex:=[]
 calm:=true
 fn:=fun _=>true
 pn:=[]
 xe:=fun e s'=>wpAny (model P w) (A.deeper (envOfC qual scope s.heap.objs.size f cd)) (leaving (envOfC qual scope s.heap.objs.size f cd) e) (fun _ s''=>CX outer H s E e s'') (fun e' s''=>CX outer H s E e' s'') s'
theorem rE {sc:Scope} {n:Nat} {x:Str} (h:sc.names.lookup x=some .cell):∃ c,(cellsFrom n sc.names []).lookup x=some c:=by
 have q:=PySem.W.cellsFrom_some sc.names n [] (.inl h)
 exact Option.isSome_iff_exists.mp q
theorem pU {CX:xV} {P:Program} {w:World} {K:W.Frag} {mg:Str->Option Value} {base:Heap} {N ps:List Str} {qual:Str} {scope:Scope} {f:Addr} {cd:Value} {A:Around} {outer:List Env} {s s1:Shared} {H:Hp} {E:XK} {us:List Value} {vs:List V}
  (S:aG N ps scope) (hd:A.handled=none) (e0:Env0 P w K mg base A outer s H) (hl:vs.length=ps.length) (r:Vals vs us)
  (x:InCallC s s.heap.objs.size (bindL (envOfC qual scope s.heap.objs.size f cd).kindOf (ps.zip us) fun _=>none) (cellsFrom (s.heap.objs.size+1) scope.names []) (bindC (envOfC qual scope s.heap.objs.size f cd).kindOf (ps.zip us) fun _=>none) s1):
  Inv (jw CX P w K mg base N qual scope f cd A outer s H E) [] (start N vs) H s1:=by
 have hpl:ps.length<=N.length:=by have:=congrArg List.length S.pre;rw [List.length_take] at this;omega
 obtain ⟨h1,tk,rfl,hk⟩:=x.done
 have noA:∀ b:Addr,b ∉ (jw CX P w K mg base N qual scope f cd A outer s H E).ex:=fun b z=>absurd (show b∈([]:List Addr) from z) (by simp)
 refine ⟨⟨e0.mod,S.kind,rfl,rfl,Nat.le_refl _,fun y z c h1 h2=>?_,fun y hy=>?_,fun y c _ h=>?_,fun _=>hd,Around.frames_deeper e0.frames,.inr ⟨rfl,rfl⟩,fun b z=>absurd z (noA b),e0.bs,e0.bsz,fun b _ _=>noA b,fun b z=>absurd z (noA b),e0.funs,e0.frf⟩,
  rfl,e0.bare,Un.kept hk,⟨_,x.toInCall.ns,fun i y v h1 h2 h3=>?_⟩,fun y c h=>⟨_,x.cell y c h⟩,e0.hok.fresh (Nat.le_refl _),fun y c h=>?_,fun p hp=>absurd (show p∈([]:List (Addr×Obj)) from hp) (by simp),e0.hok.kept hk,?_⟩
 ·exact name_of_addr x.apart (PySem.mem_of_lookup h1) (PySem.mem_of_lookup h2)
 ·have hy:scope.names.lookup y=some .cell\/scope.names.lookup y=some .free:=hy
  rcases hy with hy | hy
  ·exact rE hy
  ·exact absurd rfl (S.nofree _ (PySem.mem_of_lookup hy))
 ·exact Nat.le_of_lt (x.above y c (PySem.mem_of_lookup h))
 ·have hi:i < vs.length:=by
   unfold start at h2
   by_cases hi:i < vs.length
   ·exact hi
   ·rw [List.getElem?_append_right (by simpa using hi)] at h2
    rw [List.getElem?_replicate] at h2
    split at h2 <;> cases h2
  have ha:vs[i]?=some v:=by
   unfold start at h2
   rw [List.getElem?_append_left (by simpa using hi),List.getElem?_map] at h2
   cases e:vs[i]? with
   | none=>rw [e] at h2;cases h2
   | some a=>rw [e] at h2;cases h2;rfl
  obtain ⟨u,hu,rv⟩:=r.get ha
  have hp:ps[i]?=some y:=by
   rw [← S.pre,List.getElem?_take_of_lt (by omega)];exact h1
  have ndP:ps.Nodup:=by rw [← S.pre];exact S.nd.sublist (List.take_sublist _ _)
  refine ⟨u,rv,?_⟩
  rcases S.par y (List.mem_of_getElem? hp) with k | k
  ·exact .inl ⟨k,pQ ndP hp hu k⟩
  ·obtain ⟨c,e⟩:=rE (n:=s.heap.objs.size+1) k
   refine .inr ⟨.inl k,c,e,?_⟩
   have q:=x.cell y c e
   rw [pR ndP hp hu (by show scope.names.lookup y≠_;rw [k];decide)] at q
   exact q
 ·exact e0.hok.fresh (Nat.le_of_lt (x.above y c (PySem.mem_of_lookup h)))
 ·unfold start
  show _=N.length
  rw [List.length_append,List.length_map,List.length_replicate]
  omega
theorem xW {CX:xV} {P:Program} {w:World} {K:W.Frag} {mg:Str->Option Value} {base:Heap} {k:Nat} {f:Addr} {name qual:Str} {params:Arguments} {body:List Stmt} {scope:Scope} {dV kV doc pm cdv ct oc:Value} {an od:Option Addr}
  {osl:Array (Option Value)} {N ps:List Str} {sp:Sp} (lk:K.lookup f=some ⟨oc,od,.func (PySem.W.fnOf name qual params body scope dV kV doc pm an cdv ct),osl⟩) (hcd:PySem.W.codeIn K cdv qual=true) (S:aG N ps scope)
  (len:∀ vs H Q E,sp vs H Q E->vs.length=ps.length)
  (hbody:∀ (A:Around) (outer:List Env) (s:Shared) (H:Hp) (vs:List V) (Q:VK) (E:XK),Room k (A.deeper (envOfC qual scope s.heap.objs.size f cdv))->sp vs H Q E->
   ∃ t,PSs (jw CX P w K mg base N qual scope f cdv A outer s H E) body t/\t {nx:=fun _ H'=>Q .non H',rt:=Q} (start N vs) H):
  nQ P w K mg base CX (k+1) f (PySem.W.fnOf name qual params body scope dV kV doc pm an cdv ct) ps sp:=by
 refine ⟨len,fun A outer s H args us vs Q E hr e0 hb r hsp=>?_⟩
 have hl:=len _ _ _ _ hsp
 have KX:K.In s.heap:=e0.mod.kin.keeps fun b o e=>(e0.bs b o e).1
 have lim:s.heap.NoLimit:=e0.mod.nolimit.keeps fun b o e=>(e0.bs b o e).1
 have hkind:∀ y∈ps.zip us,scope.names.lookup y.1=some .local\/(scope.names.lookup y.1=some .cell/\((cellsFrom (s.heap.objs.size+1) scope.names []).lookup y.1).isSome=true):=fun ⟨n,v⟩ hy=>by
  rcases S.par n (List.of_mem_zip hy).1 with q | q
  ·exact .inl q
  ·exact .inr ⟨q,PySem.W.cellsFrom_some _ _ _ (.inl q)⟩
 refine codeAny_call_function hr.depth (KX _ _ lk) rfl S.co S.gen rfl (PySem.W.codeRec_of KX hcd) (hb _ _ _ _ ?_)
 refine wpAny_newFunctionEnv_cells S.kind hkind fun env he s1 x=>?_
 subst he
 refine ⟨lim.keeps x.toInCall.keep,codeAny_func ?_⟩
 obtain ⟨t,ht,hq⟩:=hbody A outer s H vs Q E (hr.deeper _) hsp
 have I:Inv (jw CX P w K mg base N qual scope f cdv A outer s H E) [] (start N vs) H s1:=pU S hr.hd e0 hl r x
 refine wpAny_mono (ht [] s1 (start N vs) H _ I hq) (fun fl s' hs=>?_) fun e s' hs=>hs
 have fin:∀ {U':St} {H':Hp} {v:V} {u:Value},Inv (jw CX P w K mg base N qual scope f cdv A outer s H E) [] U' H' s'->RelV v u->Q v H'->CE outer P w H s Q u s':=
  fun {U' H' v u} J rv q=>⟨v,H',J.os,J.bare,J.base,J.hok,rv,q⟩
 cases fl with
 | ret u=>
  obtain ⟨v,U',H',J,rv,q⟩:=hs
  exact fin J rv q
 | next=>
  obtain ⟨U',H',J,q⟩:=hs
  exact fin (v:=V.non) (u:=Value.none) J rfl q
 | brk=>
  obtain ⟨_,_,_,q⟩:=hs
  exact False.elim q
 | cont=>
  obtain ⟨_,_,_,q⟩:=hs
  exact False.elim q
section
variable {X:Cx} {x:Str} {p pos:Pos} {e:Expr} {es:List Expr} {t:TA} {id T:String} {r:List V->Hp->VK->Prop}
def GC (r:List V->Hp->VK->Prop) (t:TA):TE:=fun U H Q=>t U H fun vs H1=>r vs H1 Q
theorem xX (hc:CallR X (.builtin id) r) (hg:Gl X x) (hm:X.mg x=none) (hv:bootBuiltins x=some (.builtin id)) (ha:PA X (e :: es) t) (hn:autoParam (x≠"__name__") L2.auto2._auto_1) (hdb:autoParam ((x == ("__debug__":Str))=false) L2.auto2._auto_1)
  (he:autoParam (starEach (e :: es) X.env=(false,eval e X.env) :: starEach es X.env) L2.auto4._auto_1) (hpl:autoParam ((backTo pos (starEach es X.env)).any (·.1)=false) L2.auto4._auto_1):PE X (.Call (.Name x p) (e :: es) [] pos) (GC r t):=by
 intro pins s U H Q I h
 refine wpAny_Call_Name_kw (fX I hg hm hv ?_ hn hdb)
 exact PyProof.Rows.callWith_builtin1 (cP (ha pos pins s U H _ I h) fun us s1 ⟨vs,H1,I1,r1,q1⟩=>hc pins s1 U H1 vs us Q I1 r1 q1) he hpl
theorem v9 (hc:CallR X (.type T) r) (hg:Gl X x) (hm:X.mg x=none) (hv:bootBuiltins x=some (.type T)) (ha:PA X (e :: es) t) (hn:autoParam (x≠"__name__") L2.auto2._auto_1) (hdb:autoParam ((x == ("__debug__":Str))=false) L2.auto2._auto_1)
  (he:autoParam (starEach (e :: es) X.env=(false,eval e X.env) :: starEach es X.env) L2.auto4._auto_1) (hpl:autoParam ((backTo pos (starEach es X.env)).any (·.1)=false) L2.auto4._auto_1):PE X (.Call (.Name x p) (e :: es) [] pos) (GC r t):=by
 intro pins s U H Q I h
 refine wpAny_Call_Name_kw (fX I hg hm hv ?_ hn hdb)
 exact PyProof.Rows.callWith_type1 (cP (ha pos pins s U H _ I h) fun us s1 ⟨vs,H1,I1,r1,q1⟩=>hc pins s1 U H1 vs us Q I1 r1 q1) he hpl
end
end L2
namespace HT
open PySem PyProof.Rows
def lexLt:List Int->List Int->Bool
 | [],[]=>false
 | [],_ :: _=>true
 | _ :: _,[]=>false
 | x :: xs,y :: ys=>if x=y then lexLt xs ys else decide (x < y)
theorem lexLt_cons (x y:Int) (xs ys:List Int):lexLt (x :: xs) (y :: ys)=if x=y then lexLt xs ys else decide (x < y):=rfl
theorem o6:lexLt [] []=false:=rfl
theorem nR (y:Int) (ys:List Int):lexLt [] (y :: ys)=true:=rfl
theorem nU (x:Int) (xs:List Int):lexLt (x :: xs) []=false:=rfl
theorem xY (A:Around) (s:Shared) (a:Int) (t:Tok) (c:Int) (u:Tok):∃ e,SeqAt.EqAt A s (.int a t) (.int c u) e/\(e=true↔a=c):=
 ⟨(a == c),SeqAt.EqAt.int_int a t c u,by simp⟩
theorem xZ (A:Around) (s:Shared) (a:Int) (t:Tok) (c:Int) (u:Tok) (prog:Program) (w:World) (E:Value->Shared->Prop) (Q:Value->Shared->Prop) (h:Q (.bool (decide (a < c))) s):
  wpAny (model prog w) A (richCompare .Lt (.int a t) (.int c u)) Q E s:=
 (PyProof.Rows.lt_int h:wpAny (model prog w) A (compareOp .Lt (.int a t) (.int c u)) Q E s)
section
open PySem.SeqAt
open PySem.AutoSeq1 (wpAny_loadPart')
open PySem.MeetsSeq PySem.MeetsSeq2 PySem.MeetsSeq3
theorem o7 (l b:Addr) (items items2:Array Value) (n n2:Nat) (dd dd2:Option Addr) (sl sl2:Array (Option Value)) (ns ms:List Int) (hi:IntsAre items.toList ns) (hj:IntsAre items2.toList ms):
  Meets (Builtin.«tuple.__lt__» ⟨[.ref l,.ref b],[]⟩)
   (fun _ R s=>s.heap.get? l=some {cls:=.type "tuple",dict:=dd,data:=.seq items n,slots:=sl}/\s.heap.get? b=some {cls:=.type "tuple",dict:=dd2,data:=.seq items2 n2,slots:=sl2}/\
    R (.ok (.ret (.bool (lexLt ns ms)))) s):=
 .of_wp fun prog w A R s h=>by
  obtain ⟨hp,g,d,tk,os⟩:=s;obtain ⟨hl,hb,h⟩:=h
  have f2:=AutoSeq1.sub_tuple_tuple
  have z1:items.size=ns.length:=by rw [← hi.length];simp
  have z2:items2.size=ms.length:=by rw [← hj.length];simp
  wp_walk using wpAny_loadPart' hl,wpAny_loadPart' hb,wpAny_forIn_list _ (fun rest b s'=>b.1=none/\s'=⟨hp,g,d,tk,os⟩/\∃ (vs ws:List Value) (ns' ms':List Int),rest=vs.zip ws/\
   IntsAre vs ns'/\IntsAre ws ms'/\ns'.length+items2.size=ms'.length+items.size/\R (.ok (.ret (.bool (lexLt ns' ms')))) ⟨hp,g,d,tk,os⟩) _
  case turn=>
   rintro ⟨y,x⟩ rest b s' ⟨hb',rfl,vs,ws,ns',ms',hz,hvi,hwi,hlen,hR⟩
   cases hvi with
   | nil=>rw [List.zip_nil_left] at hz;cases hz
   | cons a t hvi'=>
    cases hwi with
    | nil=>rw [List.zip_nil_right] at hz;cases hz
    | cons c u hwi'=>
     rw [List.zip_cons_cons] at hz
     injection hz with hyx hrest
     injection hyx with hy hx
     subst hy hx
     rw [lexLt_cons] at hR
     simp only [List.length_cons] at hlen
     obtain ⟨e,he,hiff⟩:=xY A.in1 ⟨hp,g,d,tk,os⟩ a t c u
     refine wpAny_bind (he prog w _ _ ?_)
     cases e with
     | true=>
      rw [if_pos (hiff.mp rfl)] at hR
      wp_walk
      exact ⟨rfl,rfl,_,_,_,_,hrest,hvi',hwi',by omega,hR⟩
     | false=>
      rw [if_neg (fun q=>absurd (hiff.mpr q) Bool.false_ne_true)] at hR
      have hri:=xZ A.in1 ⟨hp,g,d,tk,os⟩ a t c u prog w
      wp_walk using hri
      exact ⟨_,rfl,by simpa using hR⟩
  case fin=>
   rintro ⟨b1,b2⟩ s' ⟨hb',rfl,vs,ws,ns',ms',hz,hvi,hwi,hlen,hR⟩
   simp only at hb'
   subst hb'
   have hv:lexLt ns' ms'=decide (items.size < items2.size):=by
    cases hvi with
    | nil=>
     cases hwi with
     | nil=>
      simp only [List.length_nil] at hlen
      rw [o6]
      exact (decide_eq_false (by omega)).symm
     | cons c u hw=>
      simp only [List.length_nil,List.length_cons] at hlen
      rw [nR]
      exact (decide_eq_true (by omega)).symm
    | cons a t hv=>
     cases hwi with
     | nil=>
      simp only [List.length_nil,List.length_cons] at hlen
      rw [nU]
      exact (decide_eq_false (by omega)).symm
     | cons c u hw=>
      rw [List.zip_cons_cons] at hz
      cases hz
   rw [hv] at hR
   wp_walk
   exact ⟨_,rfl,by simpa [Builtin.Tuple.tupleCompareSizes] using hR⟩
  case h=>
   exact ⟨rfl,rfl,items.toList,items2.toList,ns,ms,rfl,hi,hj,by omega,h⟩
end
section
variable {prog:Program} {w:World} {A:Around} {E:Value->Shared->Prop} {s:Shared}
theorem lt_tupInts {l b:Addr} {items items2:Array Value} {ns ms:List Int} {Q:Value->Shared->Prop} (hl:IsTup s.heap l items) (hb:IsTup s.heap b items2) (hi:IntsAre items.toList ns) (hj:IntsAre items2.toList ms)
  (hu:A.units < cLine) (h:Q (.bool (lexLt ns ms)) s):wpAny (model prog w) A (compareOp .Lt (.ref l) (.ref b)) Q E s:=by
 obtain ⟨⟨cls,dd,data,sl⟩,ho,hc,n,hd⟩:=id hl
 obtain ⟨⟨cls2,dd2,data2,sl2⟩,ho2,hc2,n2,hd2⟩:=id hb
 simp only at hc hd hc2 hd2
 subst hc hd hc2 hd2
 exact richCompare_meets_room (op:=.Lt) ⟨_,ho,rfl⟩ ⟨_,ho2,rfl⟩ PySem.F.slot_tuple_lt PySem.F.entry_tuple_lt (PySem.F.args_tuple_lt_2 _ _) (o7 l b items items2 n n2 dd dd2 sl sl2 ns ms hi hj)
  ⟨ho,ho2,show Value.bool (lexLt ns ms)≠Value.notImplemented/\Q (.bool (lexLt ns ms)) s from ⟨(fun x=>nomatch x),h⟩⟩ hu
def sIx (n d:Nat):Option Int->Nat
 | none=>d
 | some v=>if v < 0 then (v+(n:Int)).toNat else min v.toNat n
theorem sIx_none (n d:Nat):sIx n d none=d:=rfl
theorem sIx_nat (n d k:Nat):sIx n d (some (k:Int))=min k n:=by
 show (if (k:Int) < 0 then ((k:Int)+(n:Int)).toNat else min (k:Int).toNat n)=min k n
 rw [if_neg (by omega),Int.toNat_natCast]
theorem GD (n d:Nat) (hd:d<=n) (o:Option Int):sIx n d o<=n:=by
 cases o with
 | none=>exact hd
 | some v=>
  show (if v < 0 then (v+(n:Int)).toNat else min v.toNat n)<=n
  by_cases hv:v < 0
  ·rw [if_pos hv];omega
  ·rw [if_neg hv];exact Nat.min_le_right _ _
theorem uP (v:Int) (n d:Nat):(if v < 0 then max (v+(n:Int)) 0 else min v (n:Int))=((sIx n d (some v):Nat):Int):=by
 show (if v < 0 then max (v+(n:Int)) 0 else min v (n:Int))=(((if v < 0 then (v+(n:Int)).toNat else min v.toNat n):Nat):Int)
 by_cases hv:v < 0
 ·simp only [if_pos hv];omega
 ·simp only [if_neg hv];omega
theorem t7 (lo hi:Option Int) (n:Nat):Builtin.Slice.sliceAdjust lo hi 1 (n:Int)=(((sIx n 0 lo:Nat):Int),((sIx n n hi:Nat):Int)):=by
 have h1:¬ ((1:Int) < 0):=by omega
 unfold Builtin.Slice.sliceAdjust
 simp only [h1,if_false]
 refine Prod.ext ?_ ?_
 ·cases lo with
  | none=>rfl
  | some v=>exact uP v n 0
 ·cases hi with
  | none=>rfl
  | some v=>exact uP v n n
theorem t8 (i j:Nat):Builtin.Slice.slicePlaces (i:Int) (j:Int) 1=j - i:=by
 unfold Builtin.Slice.slicePlaces
 have h1:(1:Int) > 0:=by omega
 simp only [h1,if_true,Int.ediv_one]
 split <;> omega
theorem nY {v:Value} {o:Option Int} {Q:Option Int->Shared->Prop} (p:IsPart v o) (h:Q o s):wpAny (model prog w) A (Builtin.Slice.slicePartIndex v) Q E s:=by
 cases p with
 | none=>exact slicePart_none h
 | int i t=>exact slicePart_int h
theorem mz {sl:Addr} {vl vu:Value} {lo hi:Option Int} {n:Nat} {Q:Int×Int×Nat->Shared->Prop} (hs:s.heap.IsSliceOf sl vl vu .none) (pl:IsPart vl lo) (pu:IsPart vu hi)
  (h:Q (((sIx n 0 lo:Nat):Int),1,sIx n n hi - sIx n 0 lo) s):wpAny (model prog w) A (Builtin.Slice.sliceApplied (.ref sl) (pure (n:Int))) Q E s:=by
 obtain ⟨os,hos,hcs,hds⟩:=id hs
 unfold Builtin.Slice.sliceApplied Builtin.Slice.sliceFields
 refine wpAny_bind (wpAny_bind (wpAny_field hos hds (x:=vl) rfl (wpAny_bind (wpAny_field hos hds (x:=vu) rfl (wpAny_bind (wpAny_field hos hds (x:=.none) rfl (wpAny_pure ?_)))))))
 refine wpAny_bind (slicePart_none ?_)
 show wpAny _ _ (if ((1:Int) == 0)=true then _ else _) _ _ s
 rw [if_neg (by decide)]
 refine wpAny_bind (nY pl (wpAny_bind (nY pu (wpAny_bind (wpAny_pure ?_)))))
 show wpAny _ _ (match Builtin.Slice.sliceAdjust lo hi 1 (n:Int) with | (lo,hi)=>pure (lo,(1:Int),Builtin.Slice.slicePlaces lo hi 1)) _ _ s
 rw [t7 lo hi n]
 show wpAny _ _ (pure (((sIx n 0 lo:Nat):Int),(1:Int),Builtin.Slice.slicePlaces ((sIx n 0 lo:Nat):Int) ((sIx n n hi:Nat):Int) 1)) _ _ s
 rw [t8]
 exact wpAny_pure h
theorem yc (xs:Array Value) (i k:Nat):((List.range k).filterMap fun (m:Nat)=>xs[((i:Int)+(m:Int)*1).toNat]?).toArray=((xs.toList.drop i).take k).toArray:=by
 have e:(fun (m:Nat)=>xs[((i:Int)+(m:Int)*1).toNat]?)=fun m=>xs[i+m]?:=by
  funext m
  have:((i:Int)+(m:Int)*1).toNat=i+m:=by omega
  rw [this]
 rw [e]
 have:=pick_run xs i k
 rw [List.filterMap_map] at this
 have e2:((fun x=>xs[x]?) ∘ fun x=>i+x)=fun m=>xs[i+m]?:=rfl
 rw [e2] at this
 rw [this]
theorem getItem_tuple_cut {t sl:Addr} {items:Array Value} {vl vu:Value} {lo hi:Option Int} {Q:Value->Shared->Prop} (ht:IsTup s.heap t items) (hs:s.heap.IsSliceOf sl vl vu .none) (pl:IsPart vl lo) (pu:IsPart vu hi)
  (hw:¬ (sIx items.size 0 lo=0/\sIx items.size items.size hi=items.size))
  (h:Q (.ref s.heap.objs.size) {s with heap:=s.heap.push {cls:=.type "tuple",data:=.seq ((items.toList.drop (sIx items.size 0 lo)).take (sIx items.size items.size hi - sIx items.size 0 lo)).toArray}})
  (hsz:items.size<=sizeLine):wpAny (model prog w) A (getItem (.ref t) (.ref sl)) Q E s:=by
 have htake:sizeOk (.seq ((items.toList.drop (sIx items.size 0 lo)).take (sIx items.size items.size hi - sIx items.size 0 lo)).toArray):=by
  show ((items.toList.drop (sIx items.size 0 lo)).take (sIx items.size items.size hi - sIx items.size 0 lo)).toArray.size<=sizeLine
  rw [List.size_toArray,List.length_take,List.length_drop,Array.length_toList]
  omega
 have hj:sIx items.size items.size hi<=items.size:=GD _ _ (Nat.le_refl _) hi
 obtain ⟨os,hos,hcs,hds⟩:=id hs
 have hTs:s.TypeIs (.ref sl) "slice":=⟨os,hos,hcs⟩
 unfold getItem
 try with_reducible refine wpAny_holding ?_
 first | refine wpAny_bind (wpAny_pure ?_) | skip
 refine wpAny_bind (wpAny_sequenceKey ht.typeIs (by decide) ?_)
 refine wpAny_bind (wpAny_callSpecial?_slot (name:=Str.ofString "__getitem__") ht.typeIs PyProof.Rows.slot_tuple_getitem
  (wpAny_call_entry PyProof.Rows.slot_tuple_getitem ht.typeIs entry_tuple_getitem ?_ (args_tuple_getitem _ _)))
 show wpAny _ _ (Builtin.Tuple.tupleItemsOf (.ref t) >>=_) _ _ s
 refine wpAny_bind (tupleItemsOf_ ht ?_)
 refine wpAny_bind (wpAny_typeOf hTs ?_)
 rw [if_pos (by decide)]
 refine wpAny_bind (mz hs pl pu ?_)
 have hno:¬ ((((sIx items.size 0 lo:Nat):Int) == 0 && (1:Int) == 1 && (sIx items.size items.size hi - sIx items.size 0 lo) == items.size)=true):=by
  intro q
  rw [Bool.and_eq_true,Bool.and_eq_true] at q
  have q1:((sIx items.size 0 lo:Nat):Int)=0:=eq_of_beq q.1.1
  have q2:sIx items.size items.size hi - sIx items.size 0 lo=items.size:=eq_of_beq q.2
  exact hw ⟨by omega,by omega⟩
 show wpAny _ _ (if (((sIx items.size 0 lo:Nat):Int) == 0 && (1:Int) == 1 && (sIx items.size items.size hi - sIx items.size 0 lo) == items.size)=true then _ else _) _ _ s
 rw [if_neg hno,yc]
 first
  | exact wpAny_bind (m:=Builtin.Tuple.tupleExact _) (wpAny_newObj_type (wpAny_pure ⟨_,rfl,wpAny_pure h⟩) htake)
  | exact wpAny_bind (m:=Builtin.Tuple.tupleExact _) (wpAny_newObj_type (wpAny_bind (wpAny_pure (wpAny_pure ⟨_,rfl,wpAny_pure h⟩))) htake)
  | exact wpAny_bind (wpAny_bind (m:=Builtin.Tuple.tupleExact _) (wpAny_newObj_type (wpAny_pure (wpAny_pure ⟨_,rfl,wpAny_pure h⟩)) htake))
  | exact wpAny_bind (wpAny_bind (m:=Builtin.Tuple.tupleExact _) (wpAny_newObj_type (wpAny_pure ⟨_,rfl,wpAny_pure h⟩) htake))
end
end HT
namespace L2
open PySem PySem.Spec PyProof.Rows
abbrev TO:=St->Hp->(Option Int->Hp->Prop)->Prop
def PO (X:Cx) (e:Option Expr) (t:TO):Prop:=
 ∀ (pins:List (Addr×Obj)) (s:Shared) (U:St) (H:Hp) (Q:Option Int->Hp->Prop),Inv X pins U H s->t U H Q->
  wpAny (model X.prog X.w) X.A (evalPart e X.env) (fun u s'=>∃ o H',Inv X pins U H' s'/\IsPart u o/\Q o H') X.xe s
def qz:TO:=fun _ H Q=>Q none H
def yd (t:TE):TO:=fun U H Q=>t U H fun x H1=>∃ i,x= .int i/\Q (some i) H1
theorem intsAre_of {ns:List Int}:∀ {us:List Value},Vals (ns.map V.int) us->IntsAre us ns:=by
 induction ns with
 | nil=>intro us r;rw [List.map_nil] at r;cases r;exact .nil
 | cons n ns ih=>
  intro us r
  rw [List.map_cons] at r
  cases r with
  | cons r1 r2=>
   obtain ⟨t,e⟩:=r1
   subst e
   exact .cons n t (ih r2)
section
variable {X:Cx} {e:Expr} {te:TE} {lo hi:Option Expr} {tl th:TO} {pos p2:Pos}
theorem Bu:PO X none qz:=by
 intro pins s U H Q I h
 rw [evalPart_none]
 exact wpAny_pure ⟨none,H,I,.none,h⟩
theorem Bv (h:PE X e te):PO X (some e) (yd te):=by
 intro pins s U H Q I hw
 rw [evalPart_some]
 refine cP (h pins s U H _ I hw) fun u s1 qq0=>?_
 obtain ⟨x,H1,I1,r1,q1⟩:=qq0
 obtain ⟨i,rfl,q⟩:=q1
 obtain ⟨t,rfl⟩:=r1
 exact ⟨some i,H1,I1,.int i t,q⟩
def SlR (X:Cx) (r:V->Option Int->Option Int->Hp->VK->Prop):Prop:=
 ∀ (pins:List (Addr×Obj)) (s:Shared) (U:St) (H:Hp) (x:V) (v vl vu:Value) (lo hi:Option Int) (sl:Addr) (Q:VK),Inv X pins U H s->RelV x v->s.heap.IsSliceOf sl vl vu .none->IsPart vl lo->IsPart vu hi->r x lo hi H Q->
  ∃ T id,typeLookup (.type T) "__getitem__"=pure (some (.builtin id))/\s.TypeIs v T/\wpAny (model X.prog X.w) X.A (getItem v (.ref sl)) (EP X pins U Q) X.xe s
theorem SlR.or {r r':V->Option Int->Option Int->Hp->VK->Prop} (h:SlR X r) (h':SlR X r'):SlR X (fun x lo hi H Q=>r x lo hi H Q\/r' x lo hi H Q):=by
 intro pins s U H x v vl vu lo hi sl Q I rx hs pl pu q
 rcases q with q | q
 ·exact h pins s U H x v vl vu lo hi sl Q I rx hs pl pu q
 ·exact h' pins s U H x v vl vu lo hi sl Q I rx hs pl pu q
def tSl (r:V->Option Int->Option Int->Hp->VK->Prop) (te:TE) (tl th:TO):TE:=fun U H Q=>te U H fun x H1=>tl U H1 fun l H2=>th U H2 fun u H3=>r x l u H3 Q
theorem ye {r:V->Option Int->Option Int->Hp->VK->Prop} (hr:SlR X r) (he:PE X e te) (hl:PO X lo tl) (hu:PO X hi th):PE X (.Subscript e (.Slice lo hi none p2) pos) (tSl r te tl th):=by
 intro pins s U H Q I h
 refine Subscript_ (cP (he pins s U H _ I h) fun v s1 qq0=>?_)
 obtain ⟨x,H1,I1,r1,q1⟩:=qq0
 refine wpAny_Slice (cP (hl pins s1 U H1 _ I1 q1) fun vl s2 ⟨l,H2,I2,pl,q2⟩=>cP (hu pins s2 U H2 _ I2 q2) fun vu s3 qq0=>?_)
 obtain ⟨u,H3,I3,pu,q3⟩:=qq0
 rw [evalPart_none]
 refine wpAny_pure ?_
 have I4:Inv X pins U H3 {s3 with heap:=s3.heap.push {cls:=.type "slice",data:=.fields #[vl,vu,.none]}}:=I3.kept (t':=s3.toks) fun b ob q=>Heap.get?_push_of_some _ q
 obtain ⟨T,id,hT,ht,hg⟩:=hr pins {s3 with heap:=s3.heap.push {cls:=.type "slice",data:=.fields #[vl,vu,.none]}} U H3 x v vl vu l u s3.heap.objs.size Q I4 r1 (Heap.IsSliceOf.new ..) pl pu q3
 show wpAny (model X.prog X.w) X.A (subscriptTail e (.Slice lo hi none p2) v (.ref s3.heap.objs.size)) (EP X pins U Q) X.xe {s3 with heap:=s3.heap.push {cls:=.type "slice",data:=.fields #[vl,vu,.none]}}
 exact tail_any (ops:=[.ref s3.heap.objs.size,v]) ht hT hg (by with_unfolding_all rfl)
def qC (xs:List V) (lo hi:Option Int):List V:=(xs.drop (HT.sIx xs.length 0 lo)).take (HT.sIx xs.length xs.length hi - HT.sIx xs.length 0 lo)
theorem mV (xs:List V) (lo hi:Option Int):(qC xs lo hi).length<=xs.length:=by
 unfold qC
 rw [List.length_take,List.length_drop]
 omega
def J7 (K:W.Frag):V->Option Int->Option Int->Hp->VK->Prop:=fun x lo hi H Q=>∃ a xs,x= .ref a/\SqT K H a xs/\
 ¬ (HT.sIx xs.length 0 lo=0/\HT.sIx xs.length xs.length hi=xs.length)/\∀ p,H p=none->Q (.ref p) (upd H p (.tup (qC xs lo hi)))
theorem GF:SlR X (J7 X.K):=by
 intro pins s U H x v vl vu lo hi sl Q I rx hs pl pu h
 obtain ⟨a,xs,rfl,hx,hw,q⟩:=h
 cases rx
 obtain ⟨its,r,ht,hz⟩:=I.tuple hx
 have hlen:its.toArray.size=xs.length:=by rw [List.size_toArray];exact r.length.symm
 refine ⟨"tuple",_,PyProof.Rows.slot_tuple_getitem.lookup,ht.typeIs,?_⟩
 refine HT.getItem_tuple_cut ht hs pl pu (by rw [hlen];exact hw) ?_ (by rw [hlen];exact hz)
 rw [hlen]
 refine ⟨.ref s.heap.objs.size,_,I.laid (t':=s.toks) (o:=.tup (qC xs lo hi)) (fun b ob q=>Heap.get?_push_of_some _ q) (Nat.le_refl _) ?_,rfl,q _ (I.hok.fresh (Nat.le_refl _))⟩
 exact ⟨Nat.le_trans (mV xs lo hi) hz,_,(r.drop (HT.sIx xs.length 0 lo)).take (HT.sIx xs.length xs.length hi - HT.sIx xs.length 0 lo),IsTup.new _ _⟩
end
def wg (n:Nat) (i:Int):Option Nat:=if 0<=i then (if i < n then some i.toNat else none) else if -(n:Int)<=i then some (i+n).toNat else none
def tL {α:Type} (xs:List α) (i:Int):Option α:=(wg xs.length i).bind fun j=>xs[j]?
theorem uQ {n:Nat} {i:Int} {j:Nat} (h:wg n i=some j):seqIndex? i n=some j/\j < n/\-(n:Int)<=i/\i < n:=by
 unfold wg at h
 by_cases h0:0<=i
 ·rw [if_pos h0] at h
  by_cases h1:i < n
  ·rw [if_pos h1] at h
   have e:i.toNat=j:=Option.some.inj h
   exact ⟨by rw [seqIndex_of h0 h1,e],by omega,by omega,h1⟩
  ·rw [if_neg h1] at h;cases h
 ·rw [if_neg h0] at h
  by_cases h1: -(n:Int)<=i
  ·rw [if_pos h1] at h
   have e:(i+n).toNat=j:=Option.some.inj h
   exact ⟨by rw [seqIndex_neg (by omega) h1,e],by omega,h1,by omega⟩
  ·rw [if_neg h1] at h;cases h
theorem qD {α:Type} {xs:List α} {i:Int} {v:α} (h:tL xs i=some v):∃ j,seqIndex? i xs.length=some j/\xs[j]?=some v/\j < xs.length/\-(xs.length:Int)<=i/\i < xs.length:=by
 unfold tL at h
 cases e:wg xs.length i with
 | none=>rw [e] at h;cases h
 | some j=>
  rw [e] at h
  obtain ⟨h1,h2,h3,h4⟩:=uQ e
  exact ⟨j,h1,h,h2,h3,h4⟩
theorem cV {α:Type} {xs:List α} {j:Nat} {v:α} (h:xs[j]?=some v):tL xs (j:Int)=some v:=by
 have hj:j < xs.length:=(List.getElem?_eq_some_iff.mp h).1
 have e:wg xs.length (j:Int)=some j:=by
  unfold wg
  rw [if_pos (by omega),if_pos (by omega)];simp
 unfold tL;rw [e];exact h
def uR (b:Expr):Prop:=∀ o i,subscripted b false o i=operate [o,i] (getItem o i)
def IxR (X:Cx) (r:R2):Prop:=
 ∀ (value slice:Expr) (pins:List (Addr×Obj)) (s:Shared) (U:St) (H:Hp) (x y:V) (v u:Value) (Q:VK),Inv X pins U H s->RelV x v->RelV y u->r x y H Q->
  subscripted slice false v u=operate [v,u] (getItem v u)->wpAny (model X.prog X.w) X.A (subscriptTail value slice v u) (EP X pins U Q) X.xe s
def Ei (X:Cx) (id:String) (r:V->List V->Hp->VK->Prop):Prop:=
 ∀ (pins:List (Addr×Obj)) (s:Shared) (U:St) (H:Hp) (x:V) (xs:List V) (v:Value) (us:List Value) (Q:VK),Inv X pins U H s->RelV x v->Vals xs us->r x xs H Q->
  wpAny (model X.prog X.w) X.A (call (.builtin id) (v :: us)) (EP X pins U Q) X.xe s
section
variable {X:Cx} {a b:Expr} {ta tb:TE} {pos:Pos}
theorem IxR.or {r r':R2} (h:IxR X r) (h':IxR X r'):IxR X (fun x y H Q=>r x y H Q\/r' x y H Q):=by
 intro value slice pins s U H x y v u Q I rx ry q hs
 rcases q with q | q
 ·exact h value slice pins s U H x y v u Q I rx ry q hs
 ·exact h' value slice pins s U H x y v u Q I rx ry q hs
theorem J8 {r:R2} (hr:IxR X r) (ha:PE X a ta) (hb:PE X b tb) (hs:uR b):PE X (.Subscript a b pos) (Ar r ta tb):=by
 intro pins s U H Q I h
 exact Subscript_ (Gi ha hb I h fun v u s2 x y H2 I2 rx ry q=>hr a b pins s2 U H2 x y v u Q I2 rx ry q (hs _ _))
def J9 (K:W.Frag):R2:=fun x y H Q=>∃ p xs i v,x= .ref p/\y= .int i/\SqL K H p xs/\tL xs i=some v/\Q v H
def Ka (K:W.Frag):R2:=fun x y H Q=>∃ p xs i v,x= .ref p/\y= .int i/\SqT K H p xs/\tL xs i=some v/\Q v H
def Kc:R2:=fun x y H Q=>∃ z i c,x= .str z/\y= .int i/\z.length<=sizeLine/\tL z.cps.toList i=some c/\Q (.str ⟨#[c]⟩) H
theorem Bw:IxR X (J9 X.K):=by
 intro value slice pins s U H x y v u Q I rx ry h hs
 obtain ⟨p,xs,i,z,rfl,rfl,hq,he,q⟩:=h
 cases rx
 obtain ⟨t,rfl⟩:=ry
 obtain ⟨its,r,pl,hz⟩:=I.list hq
 obtain ⟨j,h1,h2,h3,h4,h5⟩:=qD he
 obtain ⟨w,ew,rw'⟩:=r.get h2
 have hl:=r.length
 have hn:=nP
 have fin:EP X pins U Q w s:=⟨z,H,I,rw',q⟩
 by_cases h0:0<=i
 ·have hj:i.toNat=j:=by
   rw [seqIndex_of h0 h5] at h1
   exact Option.some.inj h1
  exact item_listR pl.isList h0 (by omega) (by rw [hj];simpa using ew) fin hs
 ·have hj:(i+(its.toArray.size:Int)).toNat=j:=by
   rw [seqIndex_neg (by omega) h4] at h1
   rw [List.size_toArray,← hl]
   exact Option.some.inj h1
  exact subscriptTail_builtinR (x:=w) pl.isList.typeIs slot_list_getitem.lookup
   (wpAny_getItem_list_neg (Q:=fun r s'=>r=w/\EP X pins U Q r s') pl.isList (by omega) (by rw [List.size_toArray] <;> omega) (by omega) (by rw [hj];simpa using ew) ⟨rfl,fin⟩) hs
theorem GJ:IxR X (Ka X.K):=by
 intro value slice pins s U H x y v u Q I rx ry h hs
 obtain ⟨p,xs,i,z,rfl,rfl,hq,he,q⟩:=h
 cases rx
 obtain ⟨t,rfl⟩:=ry
 obtain ⟨its,r,pl,hz⟩:=I.tuple hq
 obtain ⟨j,h1,h2,h3,h4,h5⟩:=qD he
 obtain ⟨w,ew,rw'⟩:=r.get h2
 have hl:=r.length
 have hn:=nP
 have fin:EP X pins U Q w s:=⟨z,H,I,rw',q⟩
 exact subscriptTail_builtinR (x:=w) pl.typeIs slot_tuple_getitem.lookup
  (getItem_tuple (j:=j) (Q:=fun r s'=>r=w/\EP X pins U Q r s') pl (by omega) (by omega) (by rw [List.size_toArray,← hl];exact h1) (by simpa using ew) ⟨rfl,fin⟩) hs
theorem GK:IxR X Kc:=by
 intro value slice pins s U H x y v u Q I rx ry h hs
 obtain ⟨z,i,c,rfl,rfl,hz,he,q⟩:=h
 obtain ⟨t,rfl⟩:=rx
 obtain ⟨t',rfl⟩:=ry
 obtain ⟨j,h1,h2,h3,h4,h5⟩:=qD he
 have hl:z.cps.toList.length=z.length:=by simp [Str.length]
 rw [hl] at h1 h4 h5
 have hn:=nP
 exact tail_any (typeIs_str s z t) slot_str_getitem.lookup (getItem_str (c:=c) (by
  have e1:decide (i < -(2 ^ 63:Int))=false:=decide_eq_false (by omega)
  have e2:decide (i>=2 ^ 63)=false:=decide_eq_false (by omega)
  rw [e1,e2,Bool.or_false]) (by rw [h1];simpa using h2) ⟨.str ⟨#[c]⟩,H,I.tok _,⟨_,rfl⟩,q⟩) hs
def JC (K:W.Frag):R2:=fun x y H Q=>J9 K x y H Q\/Ka K x y H Q\/Kc x y H Q
theorem GP:IxR X (JC X.K):=Bw.or (GJ.or GK)
theorem ue (its:List Value) (n j:Nat) (u:Value):Obj.mapSeq (·.setIfInBounds j u) {cls:=.type "list",data:=.seq its.toArray n}={cls:=.type "list",data:=.seq (its.set j u).toArray n}:=by
 simp [Obj.mapSeq]
theorem Inv.lst {pins:List (Addr×Obj)} {U:St} {H:Hp} {s:Shared} {p:Addr} {xs:List V} (I:Inv X pins U H s) (h:H p=some (.lst xs)):
  ∃ (its:List Value) (n:Nat),Vals xs its/\s.heap.get? p=some {cls:=.type "list",data:=.seq its.toArray n}/\xs.length<=sizeLine:=by
 obtain ⟨z,its,n,r,e⟩:=I.hok p _ h
 exact ⟨its,n,r,e,z⟩
theorem Inv.lstUpd {pins:List (Addr×Obj)} {U:St} {H:Hp} {s:Shared} {p:Addr} {xs ys:List V} {its its':List Value} {n n':Nat} {f:Obj->Obj} (I:Inv X pins U H s) (h:H p=some (.lst xs))
  (ho:s.heap.get? p=some {cls:=.type "list",data:=.seq its.toArray n}) (hf:f {cls:=.type "list",data:=.seq its.toArray n}={cls:=.type "list",data:=.seq its'.toArray n'}) (r:Vals ys its') (hz:ys.length<=sizeLine) (t:Nat):
  Inv X pins U (upd H p (.lst ys)) {s with heap:=s.heap.update p f,toks:=t}:=by
 have e:(s.heap.update p f).get? p=some {cls:=.type "list",data:=.seq its'.toArray n'}:=by
  rw [Heap.get?_update_self f ho (by rw [hf] <;> rfl),hf]
 refine I.write (x:=p) (e:=p) (by rw [h];trivial) (.inl rfl) (fun b u hb q=>(Heap.get?_update_other _ _ (Ne.symm hb)).trans q) ⟨_,e⟩ ?_
 exact ⟨hz,its',n',r,e⟩
def yf:V->V->V->Hp->(Hp->Prop)->Prop:=fun o i v H Q=>∃ p xs k j,o= .ref p/\i= .int k/\H p=some (.lst xs)/\wg xs.length k=some j/\Q (upd H p (.lst (xs.set j v)))
theorem set_list:Bd X yf:=by
 intro pins s U H o i v ov iv u Q I ro ri rv h
 obtain ⟨p,xs,k,j,rfl,rfl,hp,hj,q⟩:=h
 cases ro
 obtain ⟨t,rfl⟩:=ri
 obtain ⟨its,n,r,ho,hz⟩:=I.lst hp
 obtain ⟨h1,h2,h3,h4⟩:=uQ hj
 have hl:=r.length
 have hn:=nP
 have I':Inv X pins U (upd H p (.lst (xs.set j v))) {s with heap:=s.heap.update p (Obj.mapSeq (·.setIfInBounds j u))}:=
  I.lstUpd hp ho (ue its n j u) (r.set rv j) (by rw [List.length_set];exact hz) s.toks
 by_cases h0:0<=k
 ·have hk:k.toNat=j:=by
   rw [seqIndex_of h0 h4] at h1
   exact Option.some.inj h1
  exact PySem.W.ki_setAt ho h0 (by omega) (by rw [List.size_toArray,← hl];exact h4) (by rw [hk];exact ⟨_,I',q⟩)
 ·have hk:(k+(its.toArray.size:Int)).toNat=j:=by
   rw [seqIndex_neg (by omega) h3] at h1
   rw [List.size_toArray,← hl]
   exact Option.some.inj h1
  exact PySem.W.ki_setBack ho (by omega) (by rw [List.size_toArray,← hl];exact h3) (by omega) (by rw [hk];exact ⟨_,I',q⟩)
theorem qF (lo hi:Option Int) (n:Nat):(sliceBounds lo hi none n).1=((HT.sIx n 0 lo:Nat):Int)/\(sliceBounds lo hi none n).2.1=((HT.sIx n n hi:Nat):Int)/\(sliceBounds lo hi none n).2.2=1:=by
 refine ⟨?_,?_,rfl⟩
 ·cases lo with
  | none=>simp [sliceBounds,HT.sIx]
  | some i=>
   simp only [sliceBounds,HT.sIx,Option.getD_none,show (1:Int) > 0 by decide,if_true]
   by_cases h:i < 0
   ·simp only [h,if_true] <;> omega
   ·simp only [h,if_false] <;> omega
 ·cases hi with
  | none=>simp [sliceBounds,HT.sIx]
  | some i=>
   simp only [sliceBounds,HT.sIx,Option.getD_none,show (1:Int) > 0 by decide,if_true]
   by_cases h:i < 0
   ·simp only [h,if_true] <;> omega
   ·simp only [h,if_false] <;> omega
theorem o8 (its:List Value) (lo hi:Option Int):slicePick its.toArray lo hi none=((its.drop (HT.sIx its.length 0 lo)).take (HT.sIx its.length its.length hi - HT.sIx its.length 0 lo)).toArray:=by
 obtain ⟨h1,h2,h3⟩:=qF lo hi its.toArray.size
 unfold slicePick
 rw [h1,h2,h3]
 simp only [sliceRange_one,pick_run,List.size_toArray] <;> rfl
def Ke (K:W.Frag):V->Option Int->Option Int->Hp->VK->Prop:=fun x lo hi H Q=>∃ a xs,x= .ref a/\SqL K H a xs/\∀ p,H p=none->Q (.ref p) (upd H p (.lst (qC xs lo hi)))
theorem Bx:SlR X (Ke X.K):=by
 intro pins s U H x v vl vu lo hi sl Q I rx hs pl pu h
 obtain ⟨a,xs,rfl,hx,q⟩:=h
 cases rx
 obtain ⟨its,r,ht,hz⟩:=I.list hx
 have hlen:=r.length
 refine ⟨"list",_,slot_list_getitem.lookup,ht.isList.typeIs,?_⟩
 refine wpAny_getItem_list_slice ht.isList hs pl pu .none (by simp) ?_ (by rw [List.size_toArray] <;> omega)
 rw [o8,← hlen]
 refine ⟨.ref s.heap.objs.size,_,I.laid (t':=s.toks) (o:=.lst (qC xs lo hi)) (fun b ob q=>Heap.get?_push_of_some _ q) (Nat.le_refl _) ?_,rfl,q _ (I.hok.fresh (Nat.le_refl _))⟩
 exact ⟨Nat.le_trans (mV xs lo hi) hz,_,0,(r.drop (HT.sIx xs.length 0 lo)).take (HT.sIx xs.length xs.length hi - HT.sIx xs.length 0 lo),Heap.get?_push_size _ rfl⟩
def iQ:V->Bool
 | .non=>true
 | .bl _=>true
 | .int _=>true
 | .str _=>true
 | _=>false
def uT:V->V->Bool
 | .non,.non=>true
 | .bl a,.bl b=>a == b
 | .bl a,.int b=>(if a then 1 else 0) == b
 | .int a,.bl b=>a == (if b then 1 else 0)
 | .int a,.int b=>a == b
 | .str a,.str b=>a == b
 | _,_=>false
theorem qG {A:Around} {s:Shared} {y x:V} {u v:Value} (ry:RelV y u) (rx:RelV x v) (fy:iQ y=true) (fx:iQ x=true):SeqAt.EqAt A s u v (uT y x):=by
 cases y with
 | non=>
  cases ry
  cases x with
  | non=>cases rx;exact SeqAt.EqAt.same _
  | bl b=>cases rx;exact SeqAt.EqAt.none_bool b
  | int b=>obtain ⟨t,rfl⟩:=rx;exact SeqAt.EqAt.none_int b t
  | str b=>obtain ⟨t,rfl⟩:=rx;exact SeqAt.EqAt.none_str b t
  | _=>exact absurd (show false=true from fx) Bool.false_ne_true
 | bl a=>
  cases ry
  cases x with
  | non=>cases rx;exact SeqAt.EqAt.bool_none a
  | bl b=>cases rx;exact SeqAt.EqAt.bool_bool a b
  | int b=>obtain ⟨t,rfl⟩:=rx;exact SeqAt.EqAt.bool_int a b t
  | str b=>obtain ⟨t,rfl⟩:=rx;exact SeqAt.EqAt.bool_str a b t
  | _=>exact absurd (show false=true from fx) Bool.false_ne_true
 | int a=>
  obtain ⟨t',rfl⟩:=ry
  cases x with
  | non=>cases rx;exact SeqAt.EqAt.int_none a t'
  | bl b=>cases rx;exact SeqAt.EqAt.int_bool a t' b
  | int b=>obtain ⟨t,rfl⟩:=rx;exact SeqAt.EqAt.int_int a t' b t
  | str b=>obtain ⟨t,rfl⟩:=rx;exact SeqAt.EqAt.int_str a t' b t
  | _=>exact absurd (show false=true from fx) Bool.false_ne_true
 | str a=>
  obtain ⟨t',rfl⟩:=ry
  cases x with
  | non=>cases rx;exact SeqAt.EqAt.str_none a t'
  | bl b=>cases rx;exact SeqAt.EqAt.str_bool a t' b
  | int b=>obtain ⟨t,rfl⟩:=rx;exact SeqAt.EqAt.str_int a t' b t
  | str b=>obtain ⟨t,rfl⟩:=rx;exact SeqAt.EqAt.str_str a t' b t
  | _=>exact absurd (show false=true from fx) Bool.false_ne_true
 | _=>exact absurd (show false=true from fy) Bool.false_ne_true
def By (x:V) (u:Value):Bool:=match u with
 | .none=>uT .non x
 | .bool b=>uT (.bl b) x
 | .int i _=>uT (.int i) x
 | .str z _=>uT (.str z) x
 | _=>false
theorem yg {x y:V} {u:Value} (r:RelV y u) (f:iQ y=true):By x u=uT y x:=by
 cases y with
 | non=>cases r;rfl
 | bl b=>cases r;rfl
 | int i=>obtain ⟨t,rfl⟩:=r;rfl
 | str z=>obtain ⟨t,rfl⟩:=r;rfl
 | _=>exact absurd (show false=true from f) Bool.false_ne_true
theorem qH {x:V}:∀ {xs:List V} {us:List Value},Vals xs us->xs.all iQ=true->us.any (By x)=xs.any fun y=>uT y x
 | _,_,.nil,_=>rfl
 | y :: xs,u :: us,.cons r t,f=>by
  rw [List.all_cons,Bool.and_eq_true] at f
  rw [List.any_cons,List.any_cons,yg r f.1,qH t f.2]
theorem nZ {A:Around} {s:Shared} {x:V} {v:Value} (rx:RelV x v) (fx:iQ x=true):∀ {xs:List V} {us:List Value},Vals xs us->xs.all iQ=true->∀ u∈us,SeqAt.EqAt A s u v (By x u)
 | _,_,.nil,_=>fun u hu=>by cases hu
 | y :: xs,u :: us,.cons r t,f=>fun u' hu=>by
  rw [List.all_cons,Bool.and_eq_true] at f
  rcases List.mem_cons.mp hu with rfl | hu
  ·rw [yg r f.1];exact qG r rx f.1 fx
  ·exact nZ rx fx t f.2 u' hu
def inV (x:V) (xs:List V):Bool:=xs.any fun y=>uT y x
def rIn (K:W.Frag) (neg:Bool):R2:=fun x y H Q=>∃ p xs,y= .ref p/\(SqL K H p xs\/SqT K H p xs)/\iQ x=true/\xs.all iQ=true/\Q (.bl (if neg then !inV x xs else inV x xs)) H
theorem wj:OpR X (compareOp .In) (rIn X.K false):=by
 intro pins s U H x y v u Q I rx ry h
 obtain ⟨p,xs,rfl,hq,fx,fs,q⟩:=h
 cases ry
 rcases hq with hq | hq
 ·obtain ⟨its,r,pl,hz⟩:=I.list hq
  refine SeqAt.in_listAt (By x) pl.isList (fun w hw=>nZ rx fx r fs w (by simpa using hw)) ⟨.bl _,H,I,rfl,?_⟩
  rw [show its.toArray.any (By x)=its.any (By x) by simp,qH r fs]
  exact q
 ·obtain ⟨its,r,pl,hz⟩:=I.tuple hq
  refine SeqAt.in_tupleAt (By x) pl (fun w hw=>nZ rx fx r fs w (by simpa using hw)) ⟨.bl _,H,I,rfl,?_⟩
  rw [show its.toArray.any (By x)=its.any (By x) by simp,qH r fs]
  exact q
theorem CallR.or {f:Value} {r r':List V->Hp->VK->Prop} (h:CallR X f r) (h':CallR X f r'):CallR X f (fun xs H Q=>r xs H Q\/r' xs H Q):=by
 intro pins s U H xs us Q I rs q
 rcases q with q | q
 ·exact h pins s U H xs us Q I rs q
 ·exact h' pins s U H xs us Q I rs q
theorem qI:CallR X (.type "list") (fun xs H Q=>∃ p ys,xs=[.ref p]/\(SqL X.K H p ys\/SqT X.K H p ys)/\∀ l,H l=none->Q (.ref l) (upd H l (.lst ys))):=by
 intro pins s U H xs us Q I r h
 obtain ⟨p,ys,rfl,hq,q⟩:=h
 obtain ⟨u,rfl,rx⟩:=vals1 r
 cases rx
 have fin:∀ (its:List Value),Vals ys its->ys.length<=sizeLine->∀ (h':Heap) (c':Nat),(∀ b o',s.heap.get? b=some o'->h'.get? b=some o')->
   h'.get? s.heap.objs.size=some {cls:=.type "list",dict:=none,data:=.seq its.toArray c',slots:=#[]}->EP X pins U Q (.ref s.heap.objs.size) {s with heap:=h'}:=fun its r' hz h' c' kp e=>
  ⟨.ref s.heap.objs.size,_,I.laid (t':=s.toks) kp (Nat.le_refl _) (show ObjOk X.prog X.w _ h' _ (.lst ys) from ⟨hz,its,c',r',e⟩),rfl,q _ (I.hok.fresh (Nat.le_refl _))⟩
 rcases hq with hq | hq
 ·obtain ⟨its,r',pl,hz⟩:=I.list hq
  have hlen:=r'.length
  obtain ⟨o,ho,hc,n,hd⟩:=pl.isList
  exact call_list_seq p (.inl rfl) ho hc hd (fun h' c' kp e=>fin its r' hz h' c' kp e) (by simp only [List.size_toArray] <;> omega)
 ·obtain ⟨its,r',pl,hz⟩:=I.tuple hq
  have hlen:=r'.length
  obtain ⟨o,ho,hc,n,hd⟩:=pl
  exact call_list_seq p (.inr rfl) ho hc hd (fun h' c' kp e=>fin its r' hz h' c' kp e) (by simp only [List.size_toArray] <;> omega)
def Kf (K:W.Frag) (T:String) (x:V) (H:Hp):Prop:=match x with
 | .str _=>T="str"
 | .int _=>T="int"
 | .ref p=>(T="list"/\∃ xs,SqL K H p xs)\/(T="tuple"/\∃ o,K.lookup p=some o/\o.cls= .type "tuple"/\o.dict=none)\/
   (T="dict"/\((∃ kvs,H p=some (.dK kvs))\/∃ kvs,H p=some (.dT kvs)))\/(T="set"/\∃ S n,H p=some (.set S n))
 | _=>False
theorem yh {pins:List (Addr×Obj)} {U:St} {H:Hp} {s:Shared} {T:String} {x:V} {v:Value} (I:Inv X pins U H s) (r:RelV x v) (ty:Kf X.K T x H):
  s.TypeIs v T/\∀ a,v= .ref a->∃ ob,s.heap.get? a=some ob/\ob.dict=none:=by
 cases x with
 | str z=>
  obtain ⟨t,rfl⟩:=r
  cases (show T="str" from ty)
  exact ⟨typeIs_str s z t,fun _ e=>nomatch e⟩
 | int i=>
  obtain ⟨t,rfl⟩:=r
  cases (show T="int" from ty)
  exact ⟨typeIs_int s i t,fun _ e=>nomatch e⟩
 | ref p=>
  cases r
  rcases ty with ⟨rfl,xs,hq⟩ | ⟨rfl,o,hk,hc,hd⟩ | ⟨rfl,hk⟩ | ⟨rfl,S,n,hk⟩
  ·obtain ⟨its,_,pl,_⟩:=I.list hq
   refine ⟨pl.isList.typeIs,fun a e=>?_⟩
   cases e
   obtain ⟨o,n,e,c,hd,_⟩:=pl
   exact ⟨o,e,hd⟩
  ·refine ⟨⟨o,I.kIn p o hk,hc⟩,fun a e=>?_⟩
   cases e
   exact ⟨o,I.kIn _ o hk,hd⟩
  ·have z:∃ o,s.heap.get? p=some o/\o.ExactDict:=by
    rcases hk with ⟨kvs,hk⟩ | ⟨kvs,hk⟩
    ·obtain ⟨_,_,_,_,o,_,_,e,ex,_⟩:=I.hok p _ hk
     exact ⟨o,e,ex⟩
    ·obtain ⟨_,_,_,_,o,_,_,e,ex,_⟩:=I.hok p _ hk
     exact ⟨o,e,ex⟩
   obtain ⟨o,e,ex⟩:=z
   refine ⟨⟨o,e,ex.1⟩,fun a e2=>?_⟩
   cases e2
   exact ⟨o,e,ex.2.1⟩
  ·obtain ⟨o,_,_,_,e,ex,_⟩:=I.hok p _ hk
   refine ⟨⟨o,e,ex.1⟩,fun a e2=>?_⟩
   cases e2
   exact ⟨o,e,ex.2.1⟩
 | _=>exact False.elim ty
def yj (K:W.Frag) (T:String) (r:V->List V->Hp->VK->Prop) (to:TE):TE:=fun U H Q=>to U H fun x H1=>Kf K T x H1/\r x [] H1 Q
def Kg (K:W.Frag) (T:String) (r:V->List V->Hp->VK->Prop) (to:TE) (t:TA):TE:=fun U H Q=>to U H fun x H1=>Kf K T x H1/\t U H1 fun xs H2=>r x xs H2 Q
variable {o e:Expr} {es:List Expr} {to:TE} {t:TA} {name:Str} {apos cpos:Pos} {T id:String} {r:V->List V->Hp->VK->Prop}
theorem GQ (pa:PlainAttrs T) (slot:Slot T name id) (hty:typeOf (.builtin id)=pure (.type "method_descriptor")) (hm:Ei X id r) (ho:PE X o to)
  (hbase:autoParam (attributeBase o name X.env (eval o X.env)=eval o X.env) L2.auto4._auto_1) (hline:autoParam ((apos.endLine == cpos.line)=true) L2.auto4._auto_1):PE X (.Call (.Attribute o name apos) [] [] cpos) (yj X.K T r to):=by
 intro pins s U H Q I h
 refine wpAny_Call_method0_late hbase hline (cP (ho pins s U H _ I h) fun v s1 qq0=>?_)
 obtain ⟨x,H1,I1,r1,ty,q1⟩:=qq0
 obtain ⟨h1,h2⟩:=yh I1 r1 ty
 exact ⟨T,id,pa,slot,hty,h1,h2,Calls.callWith_builtin rfl (PySem.evalArgs_none (hm pins s1 U H1 x [] v [] Q I1 r1 .nil q1))⟩
theorem Kh (pa:PlainAttrs T) (slot:Slot T name id) (hty:typeOf (.builtin id)=pure (.type "method_descriptor")) (hm:Ei X id r) (ho:PE X o to) (ha:PA X (e :: es) t)
  (hbase:autoParam (attributeBase o name X.env (eval o X.env)=eval o X.env) L2.auto4._auto_1)
  (hfew:((backTo cpos (starEach (e :: es) X.env)).all (fun x=>!x.1) && (backToKw cpos (keywordEach [] X.env)).all (fun x=>x.1.isSome)
   && decide ((e :: es).length+([]:List Keyword).length+(if ([]:List Keyword).isEmpty then 0 else 1) < 30))=true:=by rfl)
  (hline:autoParam ((apos.endLine == cpos.line)=true) L2.auto4._auto_1) (hs:autoParam (starEach (e :: es) X.env=(false,eval e X.env) :: starEach es X.env) L2.auto4._auto_1) (hplain:autoParam ((backTo cpos (starEach es X.env)).any (·.1)=false) L2.auto4._auto_1):
  PE X (.Call (.Attribute o name apos) (e :: es) [] cpos) (Kg X.K T r to t):=by
 intro pins s U H Q I h
 refine wpAny_Call_method_late hbase hfew hline rfl (cP (ho pins s U H _ I h) fun v s1 qq0=>?_)
 obtain ⟨x,H1,I1,r1,ty,q1⟩:=qq0
 obtain ⟨h1,h2⟩:=yh I1 r1 ty
 refine ⟨T,id,pa,slot,hty,h1,h2,?_⟩
 have hA:=ha cpos pins s1 U H1 _ I1 q1
 rw [hs] at hA ⊢
 refine Calls.callWith_builtin (by show (false || (backTo cpos (starEach es X.env)).any (·.1))=false;rw [hplain] <;> rfl) (Calls.evalArgs_plain ?_)
 exact cP hA fun us s2 ⟨vs,H2,I2,r2,q2⟩=>hm pins s2 U H2 x vs v us Q I2 r1 r2 q2
end
def Nh (X:Cx) (id:String) (r:V->List V->Hp->VK->Prop):Prop:=
 ∀ (pins:List (Addr×Obj)) (s:Shared) (U:St) (H:Hp) (x:V) (xs:List V) (v:Value) (us:List Value) (Q:VK),Inv X pins U H s->RelV x v->Vals xs us->r x xs H Q->
  wpAny (model X.prog X.w) X.A (call (.builtin id) (v :: us)) (EP X pins U Q) X.xe s
theorem Vals.one:∀ {x:V} {us:List Value},Vals [x] us->∃ u,us=[u]/\RelV x u
 | _,_,.cons r .nil=>⟨_,rfl,r⟩
theorem Vals.zero:∀ {us:List Value},Vals [] us->us=[]
 | _,.nil=>rfl
theorem Vals.eraseIdx:∀ {xs:List V} {us:List Value} (i:Nat),Vals xs us->Vals (xs.eraseIdx i) (us.eraseIdx i)
 | _,_,_,.nil=>.nil
 | _,_,0,.cons _ t=>t
 | _,_,i+1,.cons r t=>.cons r (Vals.eraseIdx i t)
theorem Vals.reverse {xs:List V} {us:List Value} (h:Vals xs us):Vals xs.reverse us.reverse:=by
 induction h with
 | nil=>exact .nil
 | cons r t ih=>rw [List.reverse_cons,List.reverse_cons];exact Vals.append ih (.cons r .nil)
theorem Vals.rep {xs:List V} {us:List Value} (h:Vals xs us):∀ k:Nat,Vals (List.replicate k xs).flatten (List.replicate k us).flatten
 | 0=>.nil
 | k+1=>by
  rw [List.replicate_succ,List.replicate_succ,List.flatten_cons,List.flatten_cons]
  exact Vals.append h (Vals.rep h k)
theorem pW {α:Type}:∀ (l:List α) (i:Nat),(l.eraseIdx i).length<=l.length
 | [],_=>Nat.le_refl _
 | _ :: _,0=>Nat.le_succ _
 | _ :: r,i+1=>Nat.succ_le_succ (pW r i)
theorem foldl_rep (its:List Value):∀ (k:Nat) (acc:List Value),
  List.foldl (fun x1 x2=>x1 ++ x2) acc.toArray (List.replicate k its.toArray)=(acc ++ (List.replicate k its).flatten).toArray
 | 0,acc=>by simp
 | k+1,acc=>by
  have e:acc.toArray ++ its.toArray=(acc ++ its).toArray:=by simp
  have e2:(acc ++ its) ++ (List.replicate k its).flatten=acc ++ (List.replicate (k+1) its).flatten:=by
   rw [List.replicate_succ,List.flatten_cons,List.append_assoc]
  rw [← e2,← foldl_rep its k (acc ++ its),← e,List.replicate_succ,List.foldl_cons]
section
variable {X:Cx} {pins:List (Addr×Obj)} {U:St} {H:Hp} {s:Shared} {l b:Addr} {xs ys zs:List V}
theorem Inv.lset {its its':List Value} {n:Nat} {f:Array Value->Array Value} {t':Nat} (I:Inv X pins U H s) (hH:H l=some (.lst xs))
  (e:s.heap.get? l=some {cls:=.type "list",data:=.seq its.toArray n}) (hf:f its.toArray=its'.toArray) (hv:Vals ys its') (hz:ys.length<=sizeLine):
  Inv X pins U (upd H l (.lst ys)) {s with heap:=s.heap.update l (Obj.mapSeq f),toks:=t'}:=by
 have q:=PySem.IsL.update e f
 rw [hf] at q
 refine I.write (x:=l) (e:=l) (by rw [hH];exact trivial) (.inl rfl) (fun b' u hb hu=>(Heap.get?_update_other s.heap (Obj.mapSeq f) (Ne.symm hb)).trans hu) ⟨_,q⟩ ?_
 exact ⟨hz,its',_,hv,q⟩
theorem Inv.lnew {its:List Value} {t':Nat} (I:Inv X pins U H s) (hv:Vals ys its) (hz:ys.length<=sizeLine):
  Inv X pins U (upd H s.heap.objs.size (.lst ys)) {s with heap:=s.heap.push {cls:=.type "list",data:=.seq its.toArray},toks:=t'}:=
 I.laid (fun _ _ q=>Heap.get?_push_of_some _ q) (Nat.le_refl _) ⟨hz,its,0,hv,Heap.get?_push_size _ rfl⟩
theorem Inv.fresh (I:Inv X pins U H s):H s.heap.objs.size=none:=I.hok.fresh (Nat.le_refl _)
theorem Inv.lstM (I:Inv X pins U H s) (hH:H l=some (.lst xs)):xs.length<=sizeLine/\∃ (its:List Value) (n:Nat),Vals xs its/\xs.length=its.length/\s.heap.get? l=some {cls:=.type "list",data:=.seq its.toArray n}:=by
 obtain ⟨z,its,n,r,e⟩:=I.hok l _ hH
 exact ⟨z,its,n,r,r.length,e⟩
theorem yl {n:Nat} (h:n<=sizeLine):Builtin.List.listTooLong n=false:=by
 unfold Builtin.List.listTooLong
 exact decide_eq_false (by omega)
end
section
variable {X:Cx}
def uU:V->List V->Hp->VK->Prop:=fun x vs H Q=>∃ l xs y,x= .ref l/\vs=[y]/\H l=some (.lst xs)/\xs.length < sizeLine/\Q .non (upd H l (.lst (xs ++ [y])))
theorem dY:Nh X "list.append" uU:=by
 intro pins s U H x vs v us Q I rx rv h
 obtain ⟨l,xs,y,rfl,rfl,hH,hz,q⟩:=h
 cases rx
 obtain ⟨u,rfl,ru⟩:=rv.one
 obtain ⟨z,its,n,r,hl,e⟩:=I.lstM hH
 refine call_meets F.slot_list_append ⟨_,e,rfl⟩ F.entry_list_append (F.args_list_append_2 _ _) (PySem.list_append l its.toArray n u (by rw [List.size_toArray];omega)) ⟨e,?_⟩
 refine ⟨.non,_,I.lset (its':=its ++ [u]) hH e (by simp) (r.append (.cons ru .nil)) ?_,rfl,q⟩
 rw [List.length_append,List.length_singleton]
 omega
def GR:V->List V->Hp->VK->Prop:=fun x vs H Q=>∃ l xs i k y,x= .ref l/\vs=[.int i]/\H l=some (.lst xs)/\-(2 ^ 63)<=i/\i < 2 ^ 63/\seqIndex? i xs.length=some k/\xs[k]?=some y/\Q y (upd H l (.lst (xs.eraseIdx k)))
theorem ym:Nh X "list.pop" GR:=by
 intro pins s U H x vs v us Q I rx rv h
 obtain ⟨l,xs,i,k,y,rfl,rfl,hH,h1,h2,hk,hy,q⟩:=h
 cases rx
 obtain ⟨u,rfl,ru⟩:=rv.one
 obtain ⟨t,rfl⟩:=ru
 obtain ⟨z,its,n,r,hl,e⟩:=I.lstM hH
 obtain ⟨w,hw,rw'⟩:=r.get hy
 refine call_meets F.slot_list_pop ⟨_,e,rfl⟩ F.entry_list_pop (F.args_list_pop_2 _ _)
  (MeetsSeq.list_pop_at l its.toArray n i t k w (fitsIndex_both h1 h2) (by rw [List.size_toArray,← hl];exact hk) (by rw [← Array.getElem?_toList];exact hw) (by rw [List.size_toArray];omega)) ⟨e,?_⟩
 refine ⟨y,_,I.lset (its':=its.eraseIdx k) hH e ?_ (r.eraseIdx k) ?_,rw',q⟩
 ·show its.toArray.eraseIdxIfInBounds k=(its.eraseIdx k).toArray
  rw [List.eraseIdxIfInBounds_toArray]
 ·have:=pW xs k
  omega
def yo:V->List V->Hp->VK->Prop:=fun x vs H Q=>∃ l xs,x= .ref l/\vs=[]/\H l=some (.lst xs)/\Q .non (upd H l (.lst xs.reverse))
theorem n6:Nh X "list.reverse" yo:=by
 intro pins s U H x vs v us Q I rx rv h
 obtain ⟨l,xs,rfl,rfl,hH,q⟩:=h
 cases rx
 have hus:=rv.zero
 subst hus
 obtain ⟨z,its,n,r,hl,e⟩:=I.lstM hH
 refine call_meets F.slot_list_reverse ⟨_,e,rfl⟩ F.entry_list_reverse (F.args_list_reverse_1 _) (AutoSeq1.list_reverse_list_0 l its.toArray n (by rw [List.size_toArray];omega)) ⟨e,?_⟩
 refine ⟨.non,_,I.lset (its':=its.reverse) hH e (by simp) r.reverse ?_,rfl,q⟩
 rw [List.length_reverse]
 omega
def Kl:R2:=fun x y H Q=>∃ l b xs zs,x= .ref l/\y= .ref b/\H l=some (.lst xs)/\H b=some (.lst zs)/\xs.length+zs.length<=sizeLine/\∀ p,H p=none->Q (.ref p) (upd H p (.lst (xs ++ zs)))
theorem GX:OpR X (binaryOp .Add) Kl:=by
 intro pins s U H x y v u Q I rx ry h
 obtain ⟨l,b,xs,zs,rfl,rfl,hH,hB,hz,q⟩:=h
 cases rx
 cases ry
 obtain ⟨z,its,n,r,hl,e⟩:=I.lstM hH
 obtain ⟨z2,its2,n2,r2,hl2,e2⟩:=I.lstM hB
 refine PySem.P.add_list e e2 ?_ (by rw [List.size_toArray,List.size_toArray];omega)
 have ea:its.toArray ++ its2.toArray=(its ++ its2).toArray:=by simp
 rw [ea]
 exact ⟨.ref _,_,I.lnew (t':=s.toks) (r.append r2) (by rw [List.length_append];omega),rfl,q _ I.fresh⟩
def Km:R2:=fun x y H Q=>∃ l k xs,x= .ref l/\y= .int k/\H l=some (.lst xs)/\-(2 ^ 63)<=k/\k < 2 ^ 63/\xs.length*k.toNat<=sizeLine/\
 ∀ p,H p=none->Q (.ref p) (upd H p (.lst (List.replicate k.toNat xs).flatten))
theorem len_rep {α:Type} (xs:List α) (k:Nat):(List.replicate k xs).flatten.length=k*xs.length:=by
 induction k with
 | zero=>simp
 | succ k ih=>rw [List.replicate_succ,List.flatten_cons,List.length_append,ih,Nat.succ_mul,Nat.add_comm]
theorem GZ:OpR X (binaryOp .Mult) Km:=by
 intro pins s U H x y v u Q I rx ry h
 obtain ⟨l,k,xs,rfl,rfl,hH,h1,h2,hz,q⟩:=h
 cases rx
 obtain ⟨t,rfl⟩:=ry
 obtain ⟨z,its,n,r,hl,e⟩:=I.lstM hH
 have hlen:its.toArray.size*k.toNat<=sizeLine:=by rw [List.size_toArray,← hl];exact hz
 have hcap:¬ its.toArray.size*k.toNat > (2 ^ 63 - 1) / 8:=by
  have:(sizeLine:Nat)<=(2 ^ 63 - 1) / 8:=by decide
  omega
 have hfit:¬ (!Builtin.List.listFitsIndex k)=true:=by
  rw [fitsIndex_both h1 h2]
  exact Bool.false_ne_true
 have hlong:¬ Builtin.List.listTooLong (its.toArray.size*k.toNat)=true:=by
  rw [yl hlen]
  exact Bool.false_ne_true
 have hnew:List.foldl (fun x1 x2=>x1 ++ x2) #[] (List.replicate (if its.toArray.isEmpty=true then 0 else k.toNat) its.toArray)=(List.replicate k.toNat its).flatten.toArray:=by
  have f0:∀ m:Nat,List.foldl (fun x1 x2=>x1 ++ x2) #[] (List.replicate m its.toArray)=(List.replicate m its).flatten.toArray:=fun m=>by
   have:=foldl_rep its m []
   rw [List.nil_append] at this
   exact this
  rw [f0]
  cases its with
  | nil=>simp
  | cons a r'=>rw [if_neg (by simp)]
 refine wpAny_binaryOp_repeat_ref (T:="list") (U:="int") (by decide) ⟨_,e,rfl⟩ (fun s'=>typeIs_int s' k t) noFill_list_mul F.fills_int_mul F.slot_int_rmul repeat_list F.slot_int_index.lookup
  (call_meets F.slot_int_rmul (typeIs_int s k t) F.entry_int_rmul (F.args_int_rmul_2 _ _) (int___rmul___int_list k t l its.toArray n)
   ⟨e,rfl,⟨_,e,rfl⟩,call_meets F.slot_list_mul ⟨_,e,rfl⟩ F.entry_list_mul (F.args_list_mul_2 _ _) (AutoListH.list___mul___list_int_3 l its.toArray n k t hfit hcap hlong) ⟨e,?_⟩⟩)
 rw [hnew]
 exact ⟨.ref _,_,I.lnew (t':=s.toks) (r.rep k.toNat) (by rw [len_rep,Nat.mul_comm];exact hz),rfl,q _ I.fresh⟩
end
end L2
namespace Att
open PySem PySem.W PySem.Calls PyProof.Rows
theorem m6 {P:Params} {h:Heap}:∀ (ns:List Int) (vs:List Value),WellAll P h vs (ns.map WData.int)->IntsAre vs ns:=by
 intro ns
 induction ns with
 | nil=>
  intro vs w
  rw [List.map_nil] at w
  cases w
  exact .nil
 | cons n ns ih=>
  intro vs w
  rw [List.map_cons] at w
  cases w with
  | cons a b=>
   cases a
   exact .cons _ _ (ih _ b)
theorem wk {l:OpenLaw} {n:Nat} (hn:l.most=some n) {P:Params} {h:Heap} {args:List WData} {vals:List Value}
  (hpre:l.row.toRowW.claim.pre args=true) (hwl:WellAll P h vals args):
  ∃ a vs ns,vals=[Value.ref a]/\args=[WData.list (ns.map WData.int)]/\h.get? a=some {cls:=.type "list",data:=.seq vs.toArray}/\IntsAre vs ns/\ns.length<=n:=by
 have hsh:WShape.hasAll [] args [.list .int]=true:=(pre_splitW hpre).1
 have hc:l.pre.holds [] {args:=args}=true:=(pre_splitW hpre).2
 obtain ⟨d,r,rfl,h1,h2⟩:=hasAllW_cons hsh
 obtain rfl:=hasAllW_nil h2
 obtain ⟨xs,rfl,h3⟩:=hasW_list h1
 obtain ⟨ns,rfl⟩:=items_int h3
 have hlen:ns.length<=n:=by
  unfold OpenLaw.pre at hc
  have h4:(WTm.not (.lt (.lit (.int (n:Int))) (.len (.arg 0)))).holds [] {args:=[.list (ns.map .int)]}=true:=by
   have h4:=(holds_andW hc).1
   rw [hn] at h4
   exact h4
  have h5:=condW_of h4 (w_not (w_lt w_lit (w_len_list (w_arg rfl))))
  rw [List.length_map] at h5
  refine Nat.le_of_not_lt fun q=>?_
  have q':(n:Int) < ((ns.length:Nat):Int):=by omega
  first
   | (rw [decide_eq_true q'] at h5;exact absurd h5 (by decide))
   | (simp at h5;omega)
 cases hwl with
 | cons w1 w2=>
  cases w2
  cases w1 with
  | list ho hall=>exact ⟨_,_,ns,rfl,rfl,ho,m6 ns _ hall,hlen⟩
theorem wu (l:OpenLaw) (args:List WData):l.row.toRowW.claim.post args (.bool true) args=true:=
 postW_of (r:=l.row.toRowW) (X:=(true == true))
  (show WShape.has [] (.bool true) .bool=true by first | rfl | decide | simp [WShape.has,WShape.arms,WShape.armsAll])
  (show (WTm.eq .res (.lit (.bool true))).value [] {args:=args,res:=some (.bool true),after:=args}=some (.bool (true == true)) from w_eq_bool (w_res rfl) w_lit) rfl
theorem attach_call {l:OpenLaw} {n:Nat} {q:Program} {loose:List Str} {XP:(Str->Option Value)->Heap->Prop} {YP:World->Heap->Prop} {d:DefRec}
  (hn:l.most=some n) (hdf:d.params.defaults=[])
  (call:∀ (w:World) (s₀ s₁:Shared) (mg mb:Str->Option Value) (fa:Addr) (o:Obj) (pm cd doc:Value) (a:Addr) (vs:List Value) (ns:List Int),
   Ground q loose [] XP w s₀ mg mb s₁.heap->YP w s₁.heap->
   s₁.heap.get? fa=some o->o.data= .func (docDef d.name d.params d.body d.scope pm cd doc)->s₁.heap.CodeRec cd d.name->mg d.name=some (.ref fa)->
   s₁.heap.get? a=some {cls:=.type "list",data:=.seq vs.toArray}->IntsAre vs ns->ns.length<=n->s₁.gens= #[]->
   codeAny (model l.prog w) callerA (.call (.ref fa) ⟨[.ref a],[]⟩) (fun r s'=>r= .ok (.ret (.bool true))/\OldK s₁.heap s'.heap/\s'.os=s₁.os/\AllBare s'.gens) s₁):
  WalkO q loose XP YP l.row.toRowW d [] (fun f vs=>PySem.call f vs):=by
 intro w s₀ s₁ mg mb G Y fa o pm cd doc dV kV ho hd hcd hD hmg hg args vals as hpre hlay hrd hwl hlo
 obtain rfl:dV= .none:=Dflts.none hD hdf
 obtain rfl:kV= .none:=Dflts.noKw hD
 obtain ⟨a,vs,ns,rfl,rfl,hobj,hints,hlen⟩:=wk hn hpre hwl
 refine enter_call (codeAny_mono (call w s₀ s₁ mg mb fa o pm cd doc a vs ns G Y ho (fd_plain hd) hcd hmg hobj hints hlen hg) fun r s' hq=>?_)
 obtain ⟨rfl,h2,h3,h4⟩:=hq
 exact ⟨.inl ⟨.bool true,.bool true,[],rfl,fun _=>rfl,.bool true,wu l _,fun _=>⟨List.Pairwise.nil,fun _ hm=>(nomatch hm)⟩⟩,h2,h3,h4⟩
end Att
namespace L2
open PySem PySem.Spec PyProof.Rows
theorem pX:∀ {vs:List Value} {ns:List Int},IntsAre vs ns->Vals (ns.map V.int) vs
 | _,_,.nil=>.nil
 | _,_,.cons n t h=>.cons ⟨t,rfl⟩ (pX h)
abbrev KOf {K:W.Frag} {h:Heap} (_:K.In h):W.Frag:=K
def dD (s:Stmt):Arguments:=match s with
 | .FunctionDef _ a _ _ _ _ _ _ _ _=>a
 | _=>{posonlyargs:=[],args:=[],vararg:=none,kwonlyargs:=[],kw_defaults:=[],kwarg:=none,defaults:=[]}
def bK (s:Stmt):List Stmt:=match s with
 | .FunctionDef _ _ b _ _ _ _ _ _ _=>b
 | _=>[]
def aq (s:Stmt):Scope:=match s with
 | .FunctionDef _ _ _ _ _ _ sc _ _ _=>sc
 | _=>{kind:=.function,names:=[],isGenerator:=false,isCoroutine:=false}
abbrev uV:xV:=fun _ _ _ _ _ _=>False
abbrev E0:XK:=fun _ _ _=>False
theorem Ko {X:Cx}:t6 uV X E0:=fun _ _ _ _ _ _ _ h=>h.elim
structure Fun (K:W.Frag) (x qual:Str) (st:Stmt) (f:Addr) (fd:FuncData):Prop where
 ex:∃ (oc:Value) (od:Option Addr) (kV doc pm:Value) (an:Option Addr) (cdv ct:Value) (osl:Array (Option Value)),
  fd=PySem.W.fnOf x qual (dD st) (bK st) (aq st) .none kV doc pm an cdv ct/\K.lookup f=some ⟨oc,od,.func fd,osl⟩/\PySem.W.codeIn K cdv qual=true
 kp:PySem.W.keepIn K (.ref f)=true
section
variable {P:Program} {w:World} {K:W.Frag} {mg:Str->Option Value} {base:Heap}
theorem Fun.ok {x qual:Str} {st:Stmt} {f:Addr} {fd:FuncData} {N ps:List Str} {k:Nat} {sp:Sp} (F:Fun K x qual st f fd) (S:aG N ps (aq st)) (len:∀ vs H Q E,sp vs H Q E->vs.length=ps.length)
  (hbody:∀ (cdv:Value) (A:Around) (outer:List Env) (s:Shared) (H:Hp) (vs:List V) (Q:VK) (E:XK),Room k (A.deeper (envOfC qual (aq st) s.heap.objs.size f cdv))->sp vs H Q E->
   ∃ t,PSs (jw uV P w K mg base N qual (aq st) f cdv A outer s H E).nox (bK st) t/\t {nx:=fun _ H'=>Q .non H',rt:=Q} (start N vs) H):nQ P w K mg base uV (k+1) f fd ps sp:=by
 obtain ⟨oc,od,kV,doc,pm,an,cdv,ct,osl,rfl,lk,hcd⟩:=F.ex
 refine xW lk hcd S len fun A outer s H vs Q E hr hsp=>?_
 obtain ⟨t,h,q⟩:=hbody cdv A outer s H vs Q E hr hsp
 exact ⟨t,h.nox,q⟩
theorem Fun.binds {x qual:Str} {st:Stmt} {f:Addr} {fd:FuncData} {ps:List Str} (F:Fun K x qual st f fd)
  (h:∀ (kV doc pm:Value) (an:Option Addr) (cdv ct:Value) (us:List Value),us.length=ps.length->bindArgs (PySem.W.fnOf x qual (dD st) (bK st) (aq st) .none kV doc pm an cdv ct) ⟨us,[]⟩=pure (ps.zip us)):Binds K fd ps []:=by
 obtain ⟨oc,od,kV,doc,pm,an,cdv,ct,osl,rfl,lk,hcd⟩:=F.ex
 exact .all (h kV doc pm an cdv ct)
theorem yp {x qual:Str} {st:Stmt} {f:Addr} {oc:Value} {od an:Option Addr} {osl:Array (Option Value)} {kV doc pm cdv ct:Value} (l:K.lookup f=some ⟨oc,od,.func (PySem.W.fnOf x qual (dD st) (bK st) (aq st) .none kV doc pm an cdv ct),osl⟩)
  (c:PySem.W.codeIn K cdv qual=true) (k:PySem.W.keepIn K (.ref f)=true):Fun K x qual st f (PySem.W.fnOf x qual (dD st) (bK st) (aq st) .none kV doc pm an cdv ct):=⟨⟨oc,od,kV,doc,pm,an,cdv,ct,osl,rfl,l,c⟩,k⟩
end
theorem lq {A B:Prop} (h:B):if false=true then A else B:=by
 rw [if_neg Bool.false_ne_true]
 exact h
theorem lr {A B:Prop} (h:A):if true=true then A else B:=by
 rw [if_pos rfl]
 exact h
def Same (H H':Hp):Prop:=∀ b o,H b=some o->H' b=some o
theorem Same.refl (H:Hp):Same H H:=fun _ _ h=>h
theorem Same.trans {H H1 H2:Hp} (a:Same H H1) (b:Same H1 H2):Same H H2:=fun c o h=>b c o (a c o h)
theorem Same.seq {K:W.Frag} {H H':Hp} {a:Addr} {xs:List V} (e:Same H H') (h:SqL K H a xs):SqL K H' a xs:=by
 rcases h with (h | ⟨o,h⟩) | h
 ·exact .inl (.inl (e _ _ h))
 ·exact .inl (.inr ⟨o,e _ _ h⟩)
 ·exact .inr h
end L2
set_option maxHeartbeats 4000000
namespace L2
open PySem PySem.Spec PyProof.Rows
def m7 (env:Env):List (Str×NameKind)->List (Str×Addr)->List (Str×Addr)
 | [],acc=>acc
 | (n,k) :: r,acc=>m7 env r (if k == .free then (match env.cells.lookup n with | some c=>(n,c) :: acc | none=>acc) else acc)
theorem n8 {env:Env}:∀ {names:List (Str×NameKind)} {acc:List (Str×Addr)},(∀ x c,(x,c)∈acc->env.cells.lookup x=some c)->∀ x c,(x,c)∈m7 env names acc->env.cells.lookup x=some c
 | [],_,h,x,c,m=>h x c m
 | (n,k) :: r,acc,h,x,c,m=>by
  refine n8 (names:=r) ?_ x c m
  intro y d hm
  cases hk:(k == NameKind.free) with
  | false=>rw [hk] at hm;exact h y d hm
  | true=>
   rw [hk] at hm
   simp only [if_true] at hm
   cases e:env.cells.lookup n with
   | none=>rw [e] at hm;exact h y d hm
   | some c'=>
    rw [e] at hm
    rcases List.mem_cons.mp hm with z | z
    ·cases z;exact e
    ·exact h y d z
theorem rF {env:Env}:∀ {names:List (Str×NameKind)} {acc:List (Str×Addr)} {p:Str×Addr},p∈acc->p∈m7 env names acc
 | [],_,_,h=>h
 | (n,k) :: r,acc,p,h=>by
  refine rF (names:=r) ?_
  split
  ·split
   ·exact List.mem_cons_of_mem _ h
   ·exact h
  ·exact h
theorem oh {env:Env} {x:Str} {c:Addr} (e:env.cells.lookup x=some c):∀ {names:List (Str×NameKind)} {acc:List (Str×Addr)},(x,NameKind.free)∈names->(x,c)∈m7 env names acc
 | [],_,h=>by simp at h
 | (n,k) :: r,acc,h=>by
  rcases List.mem_cons.mp h with z | z
  ·cases z
   refine rF (names:=r) ?_
   rw [e]
   simp
  ·exact oh e (names:=r) z
theorem o9 {l:List (Str×Addr)} {x:Str} {c:Addr} (hm:(x,c)∈l) (ha:∀ d,(x,d)∈l->d=c):l.lookup x=some c:=by
 induction l with
 | nil=>simp at hm
 | cons p r ih=>
  obtain ⟨n,d⟩:=p
  by_cases e:x=n
  ·subst e
   have:d=c:=ha d (by simp)
   subst this
   simp [List.lookup_cons]
  ·have hb:(x == n)=false:=by simpa using e
   rw [List.lookup_cons,hb]
   refine ih ?_ fun d' h'=>ha d' (List.mem_cons_of_mem _ h')
   rcases List.mem_cons.mp hm with z | z
   ·cases z;exact absurd rfl e
   ·exact z
theorem rG {env:Env} {names:List (Str×NameKind)} {x:Str} {c:Addr} (e:env.cells.lookup x=some c) (h:(x,NameKind.free)∈names):(m7 env names []).lookup x=some c:=
 o9 (oh e h) fun d hd=>by
  have q:=n8 (names:=names) (acc:=[]) (env:=env) (by simp) x d hd
  rw [e] at q
  exact (Option.some.inj q).symm
theorem ww {env:Env} {names:List (Str×NameKind)} {x:Str} {c:Addr} (e:(m7 env names []).lookup x=some c):env.cells.lookup x=some c:=
 n8 (names:=names) (acc:=[]) (env:=env) (by simp) x c (PySem.mem_of_lookup e)
theorem j9 {env:Env}:∀ (names:List (Str×NameKind)) (acc:List (Str×Addr)),(∀ x∈names,x.2=NameKind.free->∃ c,env.cells.lookup x.1=some c)->
  (forIn (m:=Sem) names acc fun x r=>match x with
   | (name,kind)=>if (kind == NameKind.free)=true then do let c ← cellOf env name;pure (ForInStep.yield ((name,c) :: r)) else pure (ForInStep.yield r))=pure (m7 env names acc)
 | [],acc,_=>rfl
 | (n,k) :: r,acc,h=>by
  rw [List.forIn_cons]
  cases hk:(k == NameKind.free) with
  | false=>
   simp only [hk,Bool.false_eq_true,if_false,pure_bind,m7]
   exact j9 r acc fun x hx=>h x (List.mem_cons_of_mem _ hx)
  | true=>
   obtain ⟨c,e⟩:=h (n,k) List.mem_cons_self (by simpa using hk)
   simp only [hk,if_true,pure_bind,m7,cellOf,e]
   exact j9 r ((n,c) :: acc) fun x hx=>h x (List.mem_cons_of_mem _ hx)
theorem j0 {scope:Scope} {env:Env} (h:∀ x∈scope.names,x.2=NameKind.free->∃ c,env.cells.lookup x.1=some c):closureFor scope env=pure (m7 env scope.names []):=by
 unfold closureFor
 have:=j9 (env:=env) scope.names [] h
 simp only [this,pure_bind]
theorem pY {prog:Program} {w:World} {A:Around} {R:Result->Shared->Prop} {s:Shared} {elt target iter:Expr} {ifs:List Expr} {scope:Scope} {pos:Pos} {it acc:Value} {env:Env} (I:Nat->Shared->Prop)
  (turn:∀ n s,I n s->wpAny (model prog w) A (pyNext it) (fun r s₁=>match r with
   | none=>R (.ok .next) s₁
   | some v=>wpAny (model prog w) A (letOwnedTupleGo target it v) (fun _ s₁'=>wpAny (model prog w) A (assign target env v) (fun _ s₂=>
     wpAny (model prog w) A (forIn ifs true fun c r=>if r=true then do let ok ← isTrue c env (eval c env);pure (ForInStep.yield ok) else pure (ForInStep.yield r)) (fun ok s₃=>
      if ok=true then wpAny (model prog w) A (eval elt env) (fun x s₄=>
       wpAny (model prog w) A (call (.builtin "list.append") [acc,x]) (fun _ s₅=>∃ m,m < n/\I m s₅) (fun _ _=>False) s₄) (fun _ _=>False) s₃
      else ∃ m,m < n/\I m s₃) (fun _ _=>False) s₂) (fun _ _=>False) s₁') (fun _ _=>False) s₁) (fun _ _=>False) s)
  (n:Nat) (h:I n s):
  codeAny (model prog w) A (.compLoop (.ListComp elt [⟨target,iter,ifs,0⟩] scope pos) 0 it acc env) R s:=by
 refine codeAny_loop rfl I (fun n s hI=>?_) n h
 show wpAny _ A ((compTurn (.ListComp elt [⟨target,iter,ifs,0⟩] scope pos) 0 it acc env).onRaise (fun x=>do noteFrame x env;theTreesLotGoes x)) _ _ s
 refine wpAny_noted ?_
 rw [compTurn_list]
 refine wpAny_bind (wpAny_standAt (wpAny_bind (wpAny_mono (turn n s hI) (fun r s₁ h₁=>?_) fun _ _ h'=>h'.elim)))
 cases r with
 | none=>exact wpAny_pure h₁
 | some v=>
  refine wpAny_bind (wpAny_mono h₁ (fun _ s₁' h₁'=>?_) fun _ _ h'=>h'.elim)
  refine wpAny_bind (wpAny_mono h₁' (fun _ s₂ h₂=>wpAny_bind (wpAny_mono h₂ (fun ok s₃ h₃=>?_) fun _ _ h'=>h'.elim)) fun _ _ h'=>h'.elim)
  cases ok with
  | false=>exact wpAny_pure ⟨rfl,h₃⟩
  | true=>
   exact wpAny_bind (wpAny_bind (wpAny_mono h₃ (fun x s₄ h₄=>wpAny_bind (wpAny_mono h₄ (fun _ s₅ h₅=>wpAny_pure (wpAny_pure ⟨rfl,h₅⟩)) fun _ _ h'=>h'.elim)) fun _ _ h'=>h'.elim))
theorem cB:∀ (names:List (Str×NameKind)) (n:Nat) (acc:List (Str×Addr)),cellsFrom n names acc=cellsFrom n names [] ++ acc
 | [],_,_=>rfl
 | (x,k) :: r,n,acc=>by
  unfold cellsFrom
  split
  ·rw [cB r (n+1) ((x,n) :: acc),cB r (n+1) [(x,n)],List.append_assoc];rfl
  ·exact cB r n acc
theorem lu {α:Type}:∀ {A B:List (Str×α)} {x:Str},(A ++ B).lookup x=(match A.lookup x with | some c=>some c | none=>B.lookup x)
 | [],_,_=>rfl
 | (y,c) :: A,B,x=>by
  rw [List.cons_append,List.lookup_cons,List.lookup_cons]
  cases x == y with
  | true=>rfl
  | false=>exact lu (A:=A)
theorem ou:∀ {names:List (Str×NameKind)} {n:Nat} {acc:List (Str×Addr)} {x:Str} {c:Addr},(x,c)∈cellsFrom n names acc->(x,c)∈acc\/(x,NameKind.cell)∈names
 | [],_,_,_,_,h=>.inl h
 | (y,k) :: r,n,acc,x,c,h=>by
  unfold cellsFrom at h
  split at h
  ·rename_i hk
   rcases ou h with z | z
   ·rcases List.mem_cons.mp z with z | z
    ·cases z
     have:k= .cell:=by simpa using hk
     rw [this];exact .inr List.mem_cons_self
    ·exact .inl z
   ·exact .inr (List.mem_cons_of_mem _ z)
  ·exact (ou h).imp id (List.mem_cons_of_mem _)
theorem lw {α:Type}:∀ {l:List (Str×α)} {x:Str} {c:α},(x,c)∈l->∃ d,l.lookup x=some d
 | (y,d) :: r,x,c,h=>by
  by_cases e:x=y
  ·subst e;exact ⟨d,by simp [List.lookup_cons]⟩
  ·have hb:(x == y)=false:=by simpa using e
   rw [List.lookup_cons,hb]
   rcases List.mem_cons.mp h with z | z
   ·cases z;exact absurd rfl e
   ·exact lw z
theorem lz:∀ {names:List (Str×NameKind)} {n:Nat} {acc:List (Str×Addr)} {x:Str},(x,NameKind.cell)∈names\/(∃ c,(x,c)∈acc)->∃ c,(x,c)∈cellsFrom n names acc
 | [],_,_,_,h=>h.elim (fun h=>by simp at h) id
 | (y,k) :: r,n,acc,x,h=>by
  unfold cellsFrom
  split
  ·refine lz ?_
   rcases h with h | ⟨c,h⟩
   ·rcases List.mem_cons.mp h with z | z
    ·cases z;exact .inr ⟨n,List.mem_cons_self⟩
    ·exact .inl z
   ·exact .inr ⟨c,List.mem_cons_of_mem _ h⟩
  ·rename_i hk
   refine lz ?_
   rcases h with h | h
   ·rcases List.mem_cons.mp h with z | z
    ·cases z;exact absurd (by decide) hk
    ·exact .inl z
   ·exact .inr h
def wy (X:Cx) (scope:Scope) (C:Addr):List (Str×Addr):=cellsFrom (C+1) scope.names (m7 X.env scope.names [])
section
variable {M:Model} {A:Around} {E:Value->Shared->Prop} {s:Shared}
theorem dZ {scope:Scope} {globals:Addr} {cl:List (Str×Addr)} {qual:Str} {env:Env} {Q:Env->Shared->Prop}
  (hQ:∀ h':Heap,h'.Ns s.heap.objs.size (fun _=>none)->(∀ b o,s.heap.get? b=some o->h'.get? b=some o)->CellsOk h' (s.heap.objs.size+1) (cellsFrom (s.heap.objs.size+1) scope.names [])->
   Q (newEnv scope s.heap.objs.size globals (cellsFrom (s.heap.objs.size+1) scope.names cl) qual none .none (some env) builtinsNs) {s with heap:=h',toks:=s.toks+([]:List (Str×Value)).length}):
  wpAny M A (newFunctionEnv scope globals cl [] qual none .none (some env)) Q E s:=by
 simp only [newFunctionEnv,Option.isSome_some,if_true]
 refine wpAny_bind (wpAny_alloc ?_)
 refine wpAny_bind (wpAny_layCells _ (fun name kind cells=>by cases hkc:kind == NameKind.cell <;> simp [hkc]) _ _ _ _ ?_)
 have ok:=cellsFrom_ok scope.names (s.heap.push {cls:=.type "dict",data:=.dict #[]}) (s.heap.objs.size+1) [] ⟨fun _ _ hm=>(nomatch hm),List.Pairwise.nil⟩ (by rw [Heap.size_push];exact Nat.le_refl _)
 rw [Heap.size_push] at ok
 rw [show ({s with heap:=s.heap.push {cls:=.type "dict",data:=.dict #[]}}:Shared).heap.objs.size=s.heap.objs.size+1 from Heap.size_push ..]
 exact wpAny_bind (wpAny_pure (wpAny_pure (hQ _ ((Heap.Ns.new s.heap (.type "dict")).keeps (pushCells_keeps _ _)) (fun b o e=>pushCells_keeps _ _ b o (Heap.get?_push_of_some _ e)) ok)))
end
def jW (X:Cx) (N':List Str) (scope:Scope) (C:Addr) (s₀:Shared) (H₀:Hp) (ex:List Addr):Cx:=
 {X with N:=N',s₀:=s₀,H₀:=H₀,env:=compEnvC scope (wy X scope C) C X.env,outer:=X.stack,ex:=ex,fn:=fun x=>decide (scope.names.lookup x=some .cell),pn:=[],xe:=fun _ _=>False}
def cC (sub:List (Option Nat)) (U:St):St:=sub.map fun o=>o.bind fun j=>(U[j]?).join
structure mW (N:List Str) (sc:Scope) (N':List Str) (scope:Scope) (sub:List (Option Nat)):Prop where
 kind:scope.kind= .function
 cel:∀ x∈scope.names,x.2= .cell->scope.names.lookup x.1=some .cell
 loc:∀ x∈scope.names,x.2= .local->scope.names.lookup x.1=some .local
 free:∀ x∈scope.names,x.2= .free->sc.names.lookup x.1=some .cell\/sc.names.lookup x.1=some .free
 len:sub.length=N'.length
 at_:∀ (i j:Nat) (x:Str),sub[i]?=some (some j)->N'[i]?=some x->N[j]?=some x/\(x,NameKind.free)∈scope.names/\scope.names.lookup x=some .free
def yq (N:List Str) (sc:Scope) (N':List Str) (scope:Scope) (sub:List (Option Nat)):Bool:=
 decide (scope.kind= .function) && scope.names.all (fun x=>decide (x.2= .cell->scope.names.lookup x.1=some .cell)) && scope.names.all (fun x=>decide (x.2= .local->scope.names.lookup x.1=some .local)) &&
 scope.names.all (fun x=>decide (x.2= .free->sc.names.lookup x.1=some .cell\/sc.names.lookup x.1=some .free)) && decide (sub.length=N'.length) &&
 (List.range sub.length).all fun i=>match sub[i]?,N'[i]? with
  | some (some j),some x=>decide (N[j]?=some x/\(x,NameKind.free)∈scope.names/\scope.names.lookup x=some .free)
  | _,_=>true
theorem b8 {N:List Str} {sc:Scope} {N':List Str} {scope:Scope} {sub:List (Option Nat)} (h:yq N sc N' scope sub=true):mW N sc N' scope sub:=by
 simp only [yq,Bool.and_eq_true,decide_eq_true_eq,List.all_eq_true] at h
 obtain ⟨⟨⟨⟨⟨h1,h2⟩,h3⟩,h4⟩,h5⟩,h6⟩:=h
 refine ⟨h1,h2,h3,h4,h5,fun i j x e1 e2=>?_⟩
 have hi:i < sub.length:=(List.getElem?_eq_some_iff.mp e1).1
 have q:=h6 i (List.mem_range.mpr hi)
 rw [e1,e2] at q
 simpa using q
def yr:TT:=fun _ H Q=>Q true H
def qJ (X:Cx) (ifs:List Expr) (t:TT):Prop:=
 ∀ (pins:List (Addr×Obj)) (s:Shared) (U:St) (H:Hp) (Q:Bool->Hp->Prop),Inv X pins U H s->t U H Q->
  wpAny (model X.prog X.w) X.A (forIn ifs true fun c r=>if r=true then do let ok ← isTrue c X.env (eval c X.env);pure (ForInStep.yield ok) else pure (ForInStep.yield r)) (TP X pins U Q) X.xe s
theorem yt {X:Cx}:qJ X [] yr:=fun _ _ _ H _ I h=>wpAny_tests_nil ⟨H,I,h⟩
theorem yu {X:Cx} {c:Expr} {t:TT} (hc:PT X c t):qJ X [c] t:=fun pins s U H Q I h=>wpAny_tests_one (hc pins s U H Q I h)
def KeepSt (U U':St):Prop:=U'.length=U.length/\∀ (i:Nat) (v:V),U[i]?=some (some v)->U'[i]?=some (some v)
theorem KeepSt.set {U:St} {i:Nat} {v:V} (h:U[i]?=some none):KeepSt U (U.set i (some v)):=by
 refine ⟨by simp,fun j u e=>?_⟩
 by_cases hj:i=j
 ·subst hj;rw [h] at e;cases e
 ·rw [List.getElem?_set_ne hj];exact e
theorem KeepSt.trans {σ1 σ2 σ3:St} (a:KeepSt σ1 σ2) (b:KeepSt σ2 σ3):KeepSt σ1 σ3:=⟨b.1.trans a.1,fun i v e=>b.2 i v (a.2 i v e)⟩
def oA (sub:List (Option Nat)) (wi:TI) (g:TG) (tt:TT) (te:TE):TE:=fun U H Q=>wi U H fun J H1=>∃ W:Nat->Nat->List V->Hp->Prop,(∃ m,W 0 m [] H1)/\∀ i m ys H,W i m ys H->
 (J.stop i H/\ys.length<=sizeLine/\∀ D,H D=none->Q (.ref D) (upd H D (.lst ys)))\/
 (J.go i H/\ys.length < sizeLine/\∃ N:List V->Hp->Prop,(∀ ys' H',N ys' H'->∃ m',m' < m/\W (i+1) m' ys' H')/\
  ∀ x H',J.yld i H x H'->g x (cC sub U) H' fun σ2 H2=>KeepSt (cC sub U) σ2/\tt σ2 H2 fun b H3=>if b=true then te σ2 H3 fun y H4=>N (ys ++ [y]) H4 else N ys H3)
theorem lA {scope:Scope} {env:Env} {x:Str} (hx:scope.names.lookup x=some .free):(relabel scope env).names.lookup x=some .cell\/(relabel scope env).names.lookup x=some .free:=by
 have:∀ names:List (Str×NameKind),names.lookup x=some .free->
  (names.map fun (n,k)=>if (k == NameKind.free && env.scope.kind == .function && env.kindOf n == some .cell) then (n,NameKind.cell) else (n,k)).lookup x=some .cell\/
  (names.map fun (n,k)=>if (k == NameKind.free && env.scope.kind == .function && env.kindOf n == some .cell) then (n,NameKind.cell) else (n,k)).lookup x=some .free:=by
  intro names
  induction names with
  | nil=>intro h;simp at h
  | cons p r ih=>
   obtain ⟨n,k⟩:=p
   intro h
   by_cases e:x=n
   ·subst e
    have hk:k= .free:=by simpa [List.lookup_cons] using h
    subst hk
    by_cases hc:((NameKind.free == NameKind.free && env.scope.kind == .function && env.kindOf x == some .cell)=true)
    ·left;simp only [List.map_cons];rw [if_pos hc];simp [List.lookup_cons]
    ·right;simp only [List.map_cons];rw [if_neg hc];simp [List.lookup_cons]
   ·have hb:(x == n)=false:=by simpa using e
    rw [List.lookup_cons,hb] at h
    have q:=ih h
    simp only [List.map_cons]
    split <;> (rw [List.lookup_cons,hb];exact q)
 exact this scope.names hx
theorem qK {scope:Scope} {env:Env} {x:Str} (h:(relabel scope env).names.lookup x=some .cell\/(relabel scope env).names.lookup x=some .free):(x,NameKind.cell)∈scope.names\/(x,NameKind.free)∈scope.names:=by
 have key:∀ k,(k=NameKind.cell\/k=NameKind.free)->(relabel scope env).names.lookup x=some k->(x,NameKind.cell)∈scope.names\/(x,NameKind.free)∈scope.names:=by
  intro k hk hl
  have hm:=PySem.mem_of_lookup hl
  unfold relabel at hm
  obtain ⟨⟨n,k'⟩,hm1,hm2⟩:=List.mem_map.mp hm
  dsimp only at hm2
  by_cases hc:(k' == NameKind.free && env.scope.kind == .function && env.kindOf n == some .cell)=true
  ·rw [if_pos hc] at hm2
   cases hm2
   simp only [Bool.and_eq_true,beq_iff_eq] at hc
   rw [← hc.1.1];exact .inr hm1
  ·rw [if_neg hc] at hm2
   cases hm2
   rcases hk with hk | hk
   ·subst hk;exact .inl hm1
   ·subst hk;exact .inr hm1
 rcases h with h | h
 ·exact key _ (.inl rfl) h
 ·exact key _ (.inr rfl) h
section
variable {X:Cx} {tg iter elt:Expr} {ifs:List Expr} {scope:Scope} {pos:Pos} {N':List Str} {sub:List (Option Nat)} {wi:TI} {g:TG} {tt:TT} {te:TE}
theorem pZ {pins:List (Addr×Obj)} {U:St} {H:Hp} {s:Shared} {fp:List Addr} {D:Addr} {h':Heap} {tk:Nat} {N:List Str} {sc:Scope} (S:mW N sc N' scope sub) (hN:X.N=N) (hsc:X.env.scope=sc) (I:Inv X pins U H s) (hf:∀ b∈fp,FpOk X pins H b) (hfo:∀ b∈fp,b < s.heap.objs.size)
  (hD:D < s.heap.objs.size) (fD:FpOk X pins H D) (hns:h'.Ns s.heap.objs.size fun _=>none) (hk:∀ b o,s.heap.get? b=some o->h'.get? b=some o) (hc:CellsOk h' (s.heap.objs.size+1) (cellsFrom (s.heap.objs.size+1) scope.names [])):
  Inv (jW X N' scope s.heap.objs.size s H (D :: fp)) [] (cC sub U) H {s with heap:=h',toks:=tk}:=by
 have hex:∀ b∈D :: fp,FpOk X pins H b/\b < s.heap.objs.size:=fun b hb=>by
  rcases List.mem_cons.mp hb with rfl | z
  ·exact ⟨fD,hD⟩
  ·exact ⟨hf b z,hfo b z⟩
 have spl:∀ {x c},(wy X scope s.heap.objs.size).lookup x=some c->(h'.IsCell c none/\s.heap.objs.size+1<=c/\(x,c)∈cellsFrom (s.heap.objs.size+1) scope.names [])\/(X.env.cells.lookup x=some c/\∃ o,s.heap.get? c=some o):=fun {x c} h=>by
  unfold wy at h
  rw [cB,lu] at h
  cases e:(cellsFrom (s.heap.objs.size+1) scope.names []).lookup x with
  | some d=>
   rw [e] at h
   cases h
   have m:=PySem.mem_of_lookup e
   exact .inl ⟨(hc.empty _ _ m).1,(hc.empty _ _ m).2,m⟩
  | none=>
   rw [e] at h
   have z:=ww h
   obtain ⟨v,o,ho,_⟩:=I.cell x c z
   exact .inr ⟨z,o,ho⟩
 have fre:∀ {x c},(x,NameKind.free)∈scope.names->scope.names.lookup x=some .free->X.env.cells.lookup x=some c->(wy X scope s.heap.objs.size).lookup x=some c:=fun {x c} h1 h2 h3=>by
  unfold wy
  rw [cB,lu]
  cases e:(cellsFrom (s.heap.objs.size+1) scope.names []).lookup x with
  | some d=>
   rcases ou (PySem.mem_of_lookup e) with z | z
   ·cases z
   ·have:=S.cel _ z rfl
    rw [h2] at this;cases this
  | none=>exact rG h3 h1
 refine ⟨⟨I.ok.mod,S.kind,I.ok.glob,I.ok.blt,Nat.le_refl _,fun x y c h1 h2=>?_,fun x hx=>?_,fun x c hx h=>?_,I.ok.hd,I.ok.frames,.inl rfl,fun b hb=>?_,I.bs,Nat.le_trans I.ok.bsz I.sz,fun b o e hb=>?_,fun b hb=>?_,I.stack,I.stkFree⟩,
  rfl,I.bare,Un.kept hk,⟨_,hns,fun i x v h1 h2 h3=>?_⟩,fun x c h=>?_,I.hok.fresh (Nat.le_refl _),fun x c h=>?_,fun p hp=>(nomatch hp),I.hok.kept hk,?_⟩
 ·rcases spl h1 with ⟨_,l1,m1⟩ | ⟨z1,o1,q1⟩ <;> rcases spl h2 with ⟨_,l2,m2⟩ | ⟨z2,o2,q2⟩
  ·exact PySem.name_of_addr hc.apart m1 m2
  ·exact absurd (Nat.lt_of_lt_of_le (Heap.lt_size q2) (Nat.le_of_succ_le l1)) (Nat.lt_irrefl _)
  ·exact absurd (Nat.lt_of_lt_of_le (Heap.lt_size q1) (Nat.le_of_succ_le l2)) (Nat.lt_irrefl _)
  ·exact I.ok.inj x y c z1 z2
 ·rcases qK hx with z | z
  ·obtain ⟨c,m⟩:=lz (n:=s.heap.objs.size+1) (acc:=m7 X.env scope.names []) (.inl z)
   exact lw m
  ·obtain ⟨c,e⟩:=I.ok.has x (by have:=S.free _ z rfl;rw [← hsc] at this;exact this)
   show ∃ c,(wy X scope s.heap.objs.size).lookup x=some c
   unfold wy
   rw [cB]
   exact lw (c:=c) (List.mem_append_right _ (oh e z))
 ·have hx':scope.names.lookup x=some .cell:=by simpa [jW] using hx
  rcases spl h with ⟨_,l,_⟩ | ⟨z,o,q⟩
  ·exact Nat.le_of_succ_le l
  ·exfalso
   have m:(x,NameKind.cell)∈scope.names:=PySem.mem_of_lookup hx'
   obtain ⟨d,md⟩:=lz (n:=s.heap.objs.size+1) (acc:=[]) (.inl m)
   obtain ⟨d',e'⟩:=lw md
   have h:(wy X scope s.heap.objs.size).lookup x=some c:=h
   unfold wy at h
   rw [cB,lu,e'] at h
   cases h
   exact absurd (Nat.lt_of_lt_of_le (Heap.lt_size q) (Nat.le_of_succ_le (hc.empty _ _ (PySem.mem_of_lookup e')).2)) (Nat.lt_irrefl _)
 ·obtain ⟨⟨f0,f1,f2,f3,f4,f5⟩,hlt⟩:=hex b hb
  refine ⟨Nat.ne_of_lt hlt,fun x c h=>?_⟩
  rcases spl h with ⟨_,l,_⟩ | ⟨z,_⟩
  ·exact fun z=>absurd (Nat.lt_of_lt_of_le hlt (Nat.le_of_succ_le (z ▸ l))) (Nat.lt_irrefl _)
  ·exact f4 x c z
 ·obtain ⟨⟨f0,f1,f2,f3,f4,f5⟩,hlt⟩:=hex b hb
  rcases f3 with z | z
  ·exact I.ok.noex b o e z
  ·exact absurd (Nat.lt_of_lt_of_le (Heap.lt_size (I.ok.bs b o e).1) z) (Nat.lt_irrefl _)
 ·obtain ⟨⟨f0,f1,f2,f3,f4,f5⟩,hlt⟩:=hex b hb
  intro z
  rcases List.mem_cons.mp (I.stkSub b z) with z | z
  ·exact f1 z
  ·exact f2 z
 ·have hs:∃ j,sub[i]?=some (some j)/\U[j]?=some (some v):=by
   unfold cC at h2
   rw [List.getElem?_map] at h2
   cases e:sub[i]? with
   | none=>rw [e] at h2;cases h2
   | some o=>
    rw [e] at h2
    cases o with
    | none=>cases h2
    | some j=>
     refine ⟨j,rfl,?_⟩
     have h3:(U[j]?).join=some v:=Option.some.inj h2
     cases e2:U[j]? with
     | none=>rw [e2] at h3;cases h3
     | some z=>rw [e2] at h3;cases z with
      | none=>cases h3
      | some z=>cases h3;rfl
  obtain ⟨j,e1,e2⟩:=hs
  obtain ⟨g1,g2,g3⟩:=S.at_ i j x e1 h1
  rw [← hN] at g1
  obtain ⟨m,hn,hl⟩:=I.loc
  have hkf:X.env.kindOf x=some .cell\/X.env.kindOf x=some .free:=by have:=S.free _ g2 rfl;rw [← hsc] at this;exact this
  have hvis:JL X.env.scope x:=by
   rcases hkf with z | z
   ·exact .inr (.inl z)
   ·exact .inr (.inr z)
  obtain ⟨u,r,l⟩:=hl j x v g1 e2 hvis
  refine ⟨u,r,.inr ⟨lA g3,?_⟩⟩
  rcases l with ⟨k,_⟩ | ⟨_,c,e,o,ho,hd⟩
  ·have k':X.env.kindOf x=some .local:=k
   rcases hkf with z | z <;> (rw [k'] at z;cases z)
  ·exact ⟨c,fre g2 g3 e,o,hk _ _ ho,hd⟩
 ·rcases spl h with ⟨z,_⟩ | ⟨z,_⟩
  ·exact ⟨_,z⟩
  ·obtain ⟨v,o,ho,hd⟩:=I.cell x c z
   exact ⟨v,o,hk _ _ ho,hd⟩
 ·rcases spl h with ⟨_,l,_⟩ | ⟨z,_⟩
  ·exact I.hok.fresh (Nat.le_of_succ_le l)
  ·exact I.freeC x c z
 ·show (cC sub U).length=N'.length
  unfold cC
  rw [List.length_map]
  exact S.len
theorem uW {N:List Str} {sc:Scope} (S:mW N sc N' scope sub) (hc:X.calm=true) (hN:X.N=N) (hsc:X.env.scope=sc) (hi:PI X tg iter wi)
  (hg:∀ (C:Addr) (s₀:Shared) (H₀:Hp) (ex:List Addr),PG (jW X N' scope C s₀ H₀ ex) tg g)
  (ht:∀ (C:Addr) (s₀:Shared) (H₀:Hp) (ex:List Addr),qJ (jW X N' scope C s₀ H₀ ex) ifs tt)
  (he:∀ (C:Addr) (s₀:Shared) (H₀:Hp) (ex:List Addr),PE (jW X N' scope C s₀ H₀ ex) elt te)
  (hs:autoParam (∀ x,foldedSetIterable iter X.env x=pure x) L2.auto3._auto_1):
  PE X (.ListComp elt [⟨tg,iter,ifs,0⟩] scope pos) (oA sub wi g tt te):=by
 intro pins s U H Q I h
 rw [eval_ListComp]
 have hcl:∀ x∈scope.names,x.2=NameKind.free->∃ c,X.env.cells.lookup x.1=some c:=fun x hx hk=>I.ok.has x.1 (by have:=S.free x hx hk;rw [← hsc] at this;exact this)
 refine wpAny_comprehension_free (use:=none) rfl hs (j0 hcl) S.kind S.loc ?_
 refine cP (hi pins s U H _ I h) fun v s1 h1=>cP h1 fun itv s2 h2=>?_
 obtain ⟨it,fp,tn,J,H2,e,I2,T,st2,f2,W,⟨m0,w0⟩,turn⟩:=h2
 subst e
 refine wpAny_newObj_type (dZ fun h₁ hns₁ hk31 hcl₁=>?_)
 dsimp only at hns₁ hk31 hcl₁ ⊢
 generalize hs3:({s2 with heap:=s2.heap.push {cls:=.type "list",dict:=none,data:=.seq ([]:List Value).toArray}}:Shared)=s3
 have e3:s2.heap.push {cls:=.type "list",dict:=none,data:=.seq ([]:List Value).toArray}=s3.heap:=by rw [← hs3]
 rw [e3] at hns₁ hk31 hcl₁ ⊢
 have hD3:s3.heap.get? s2.heap.objs.size=some {cls:=.type "list",dict:=none,data:=.seq ([]:List Value).toArray}:=by rw [← e3];exact Heap.get?_push_size _ rfl
 have I3:Inv X pins U H2 s3:=by
  rw [← hs3]
  exact I2.kept (t':=s2.toks) fun b o e=>Heap.get?_push_of_some _ e
 have k23:∀ b o,s2.heap.get? b=some o->s3.heap.get? b=some o:=fun b o e=>by rw [← e3];exact Heap.get?_push_of_some _ e
 have hsz:s3.heap.objs.size=s2.heap.objs.size+1:=by rw [← e3,Heap.size_push]
 have hDn:H2 s2.heap.objs.size=none:=I2.hok.fresh (Nat.le_refl _)
 have fD:FpOk X pins H2 s2.heap.objs.size:=I2.fpOk (Nat.le_refl _) hDn
 have hfo:∀ b∈fp,b < s2.heap.objs.size:=fun b hb=>let ⟨o,e,_⟩:=T.obj _ _ st2 b hb;Heap.lt_size e
 have hDfp:s2.heap.objs.size ∉ fp:=fun z=>absurd (hfo _ z) (Nat.lt_irrefl _)
 have I4:=pZ (tk:=s3.toks+([]:List (Str×Value)).length) S hN hsc I3 f2 (fun b hb=>by rw [hsz];exact Nat.lt_succ_of_lt (hfo b hb)) (D:=s2.heap.objs.size) (by rw [hsz];exact Nat.lt_succ_self _) fD hns₁ hk31 hcl₁
 have stat:∀ {H':Hp} {ob:Obj},(∀ b∈fp,H' b=none)->∀ b∈fp,FpOk (jW X N' scope s3.heap.objs.size s3 H2 (s2.heap.objs.size :: fp)) [(s2.heap.objs.size,ob)] H' b:=fun {H' ob} hn b hb=>by
  obtain ⟨q1,q2⟩:=I4.ok.exf b (List.mem_cons_of_mem _ hb)
  refine ⟨hn b hb,q1,I4.ok.exfs b (List.mem_cons_of_mem _ hb),.inl (List.mem_cons_of_mem _ hb),q2,fun p hp z=>?_⟩
  have hp':p=(s2.heap.objs.size,ob):=by simpa [jW] using hp
  subst hp'
  have z':s2.heap.objs.size=b:=z
  exact hDfp (by rw [z'];exact hb)
 generalize hXC:jW X N' scope s3.heap.objs.size s3 H2 (s2.heap.objs.size :: fp)=XC at I4 stat
 have eP:XC.prog=X.prog:=by rw [← hXC];rfl
 have eW:XC.w=X.w:=by rw [← hXC];rfl
 have eK:XC.K=X.K:=by rw [← hXC];rfl
 have eA:XC.A=X.A:=by rw [← hXC];rfl
 have eE:XC.env=compEnvC scope (wy X scope s3.heap.objs.size) s3.heap.objs.size X.env:=by rw [← hXC];rfl
 have eC:XC.calm=true:=by rw [← hXC];exact hc
 have eX:XC.xe=fun _ _=>False:=by rw [← hXC];rfl
 have eH:XC.H₀=H2:=by rw [← hXC];rfl
 have eS:XC.s₀=s3:=by rw [← hXC];rfl
 have eF:XC.fs=frs X.stack:=by rw [← hXC];rfl
 have eEx:XC.ex=s2.heap.objs.size :: fp:=by rw [← hXC];rfl
 have ePn:XC.pn=[]:=by rw [← hXC];rfl
 have hgC:PG XC tg g:=by rw [← hXC];exact hg _ _ _ _
 have htC:qJ XC ifs tt:=by rw [← hXC];exact ht _ _ _ _
 have heC:PE XC elt te:=by rw [← hXC];exact he _ _ _ _
 have pinD:∀ {U':St} {H':Hp} {s':Shared} {ob:Obj},Inv XC [] U' H' s'->H' s2.heap.objs.size=none->s'.heap.get? s2.heap.objs.size=some ob->(∀ v,ob.data≠.cell v)->Inv XC [(s2.heap.objs.size,ob)] U' H' s':=fun {U' H' s' ob} J hn hg hd=>
  J.pins_of fun p hp=>by
   have hp':p=(s2.heap.objs.size,ob):=by simpa using hp
   subst hp'
   refine ⟨hg,hn,(J.ok.exf _ (by rw [eEx];exact List.mem_cons_self)).1,J.ok.exfs _ (by rw [eEx];exact List.mem_cons_self),hd⟩
 have loop:codeAny (model X.prog X.w) X.A (.compLoop (.ListComp elt [⟨tg,iter,ifs,0⟩] scope pos) 0 (.ref it) (.ref s2.heap.objs.size) (compEnvC scope (wy X scope s3.heap.objs.size) s3.heap.objs.size X.env))
   (compPost (model X.prog X.w) X.A X.xe none (EP X pins U Q) (.ref s2.heap.objs.size) s3.heap.objs.size) {s3 with heap:=h₁,toks:=s3.toks+([]:List (Str×Value)).length}:=by
  refine pY (fun n s'=>∃ (i:Nat) (ys:List V) (its:List Value) (nn:Nat) (H':Hp),Inv XC [] (cC sub U) H' s'/\tn i s'.heap/\(∀ b∈fp,H' b=none)/\H' s2.heap.objs.size=none/\
   s'.heap.get? s2.heap.objs.size=some {cls:=.type "list",data:=.seq its.toArray nn}/\Vals ys its/\W i n ys H') ?_ m0
   ⟨0,[],[],_,H2,I4,T.keep _ _ _ st2 fun b _ o e=>hk31 b o (k23 b o e),fun b hb=>(f2 b hb).1,hDn,hk31 _ _ hD3,.nil,w0⟩
  rintro n s4 ⟨i,ys,its,nn,H4,J4,st4,fr4,dn4,dg4,rv4,w4⟩
  have P4:=pinD J4 dn4 dg4 (fun v z=>by cases z)
  rcases turn i n ys H4 w4 with ⟨stop,hyl,qn⟩ | ⟨go,hyl,N,hN,step⟩
  ·have hdone:=T.done XC eP eW eK eC i _ s4 _ H4 (fun _ _=>False) P4 (stat fr4) st4 stop
   rw [eA] at hdone
   refine wpAny_mono hdone (fun r s5 ⟨hr,I5⟩=>?_) fun _ _ z=>z
   subst hr
   obtain ⟨m,hn,_⟩:=id I5.loc
   have hCe:XC.env.locals=s3.heap.objs.size:=by rw [eE];rfl
   rw [hCe] at hn
   refine ⟨m,hn,fun h6 hs6=>?_⟩
   have hDg:=(I5.pin (s2.heap.objs.size,_) (by rw [ePn];exact List.mem_cons_self)).1
   have hDne:s2.heap.objs.size≠s3.heap.objs.size:=by rw [hsz];exact Nat.ne_of_lt (Nat.lt_succ_self _)
   have hHC:H4 s3.heap.objs.size=none:=by have:=I5.free;rw [hCe] at this;exact this
   have k56:∀ b o,b≠s3.heap.objs.size->s5.heap.get? b=some o->h6.get? b=some o:=fun b o hb e=>hs6.extBut b o hb e
   have un:=I5.base
   rw [eF,eEx,eH,eS] at un
   have nC:∀ b o,s3.heap.get? b=some o->b≠s3.heap.objs.size:=fun b o e=>Nat.ne_of_lt (Heap.lt_size e)
   have hok6:HOk X.prog X.w (upd H4 s2.heap.objs.size (.lst ys)) h6:=by
    have h5:=I5.hok
    rw [eP,eW] at h5
    have Aq:∀ b u,H4 b=some u->b≠s3.heap.objs.size:=fun b u e z=>by rw [z,hHC] at e;cases e
    intro b u e
    by_cases hb:b=s2.heap.objs.size
    ·subst hb
     rw [aj] at e;cases e
     exact ⟨hyl,its,nn,rv4,k56 _ _ hDne hDg⟩
    ·rw [aA hb] at e
     have nD:∀ c u,H4 c=some u->c≠s2.heap.objs.size:=fun c u e z=>by rw [z,dn4] at e;cases e
     refine (h5 b u e).stay (fun c v hc' q=>k56 c v ?_ q) (fun c q=>by rw [aA (nD c _ q)];exact q) fun c xs q=>by rw [aA (nD c _ q)];exact q
     rcases hc' with z | z
     ·rw [z];exact Aq b u e
     ·exact Aq c _ z
   have nD2:∀ c u,H4 c=some u->c≠s2.heap.objs.size:=fun c u e z=>by rw [z,dn4] at e;cases e
   have un6:Un (frs X.stack) (s2.heap.objs.size :: fp) H2 (upd H4 s2.heap.objs.size (.lst ys)) s3.heap h6:=
    ⟨fun b o e nn' hb hx=>k56 b o (nC b o e) (un.keep b o e nn' hb hx),fun b o e nn' hb hx=>let ⟨sl,q⟩:=un.slot b o e nn' hb hx;⟨sl,k56 b _ (nC b o e) q⟩,
     fun b o e nn' hx=>by rw [aA (fun z=>hx (by rw [z];exact List.mem_cons_self))];exact un.free b o e nn' hx,
     fun b o e hx=>let ⟨o',q⟩:=un.there b o e hx;⟨o',k56 b o' (nC b o e) q⟩,
     fun b xs e=>by have q:=un.tups b xs e;rw [aA (nD2 b _ q)];exact q,
     fun b o u e=>by have q:=un.frzs b o u e;rw [aA (nD2 b _ q)];exact q,
     fun b ps e=>let ⟨more,q⟩:=un.tbls b ps e;⟨more,by rw [aA (nD2 b _ q)];exact q⟩⟩
   have I6:Inv X pins U (upd H4 s2.heap.objs.size (.lst ys)) {s5 with heap:=h6}:=by
    refine I3.call' (s':={s5 with heap:=h6}) (ch:=s2.heap.objs.size :: fp) ?_ un6 hok6 I5.bare fun b hb=>?_
    ·show s5.os=s3.os
     have:=I5.os
     rw [eS] at this
     exact this
    ·have q:FpOk X pins H2 b:=by
      rcases List.mem_cons.mp hb with rfl | z
      ·exact fD
      ·exact f2 b z
     obtain ⟨f0,f1,f2',f3,f4,f5⟩:=q
     exact ⟨f3,f1,f4,f5⟩
   exact ⟨.ref s2.heap.objs.size,_,I6,rfl,qn _ dn4⟩
  ·have hitem:=T.item XC eP eW eK eC i _ s4 _ H4 (fun _ _=>False) P4 (stat fr4) st4 go
   rw [eA] at hitem
   refine wpAny_mono hitem (fun r s5 ⟨u,hr,h5⟩=>?_) fun _ _ z=>z
   subst hr
   dsimp only
   refine wpAny_mono h5 (fun _ s6 ⟨x,H6,I6,r6,y6,st6,fr6⟩=>?_) fun _ _ z=>z
   have P6:=I6.pinned (stat fr6) (T.obj _ _ st6)
   rw [← eE,← eP,← eW,← eA]
   refine wpAny_mono (hgC _ s6 _ H6 x u _ P6 r6 (step x H6 y6)) (fun _ s7 ⟨σ7,H7,I7,kp7,q7⟩=>?_) fun _ _ z=>by rw [eX] at z;exact z
   refine wpAny_mono (htC _ s7 σ7 H7 _ I7 q7) (fun ok s8 ⟨H8,I8,q8⟩=>?_) fun _ _ z=>by rw [eX] at z;exact z
   have fin:∀ {H9:Hp} {s9:Shared},Inv XC ([(s2.heap.objs.size,({cls:=.type "list",data:=.seq its.toArray nn}:Obj))] ++ mq fp s6.heap) σ7 H9 s9->Inv XC [] (cC sub U) H9 s9/\tn (i+1) s9.heap/\(∀ b∈fp,H9 b=none)/\H9 s2.heap.objs.size=none/\
     s9.heap.get? s2.heap.objs.size=some {cls:=.type "list",data:=.seq its.toArray nn}:=fun {H9 s9} J=>by
    have pD:=J.pin (s2.heap.objs.size,({cls:=.type "list",data:=.seq its.toArray nn}:Obj)) (by rw [ePn];simp)
    have pF:∀ b∈fp,∀ o,s6.heap.get? b=some o->s9.heap.get? b=some o/\H9 b=none:=fun b hb o e=>by
     have q:=J.pin (b,o) (by rw [ePn];exact List.mem_append_right _ (List.mem_append_right _ (je hb e)))
     exact ⟨q.1,q.2.1⟩
    refine ⟨?_,T.keep _ _ _ st6 fun b hb o e=>(pF b hb o e).1,fun b hb=>?_,pD.2.1,pD.1⟩
    ·have J0:Inv XC [] σ7 H9 s9:=J.pins_of fun p hp=>nomatch hp
     exact J0.weak kp7.1.symm fun j v e=>kp7.2 j v e
    ·obtain ⟨o,e,_⟩:=T.obj _ _ st6 b hb
     exact (pF b hb o e).2
   cases ok with
   | false=>
    rw [if_neg (by simp)]
    rw [if_neg (by simp)] at q8
    obtain ⟨m',hm,w8⟩:=hN _ _ q8
    obtain ⟨a1,a2,a3,a4,a5⟩:=fin I8
    exact ⟨m',hm,i+1,ys,its,nn,H8,a1,a2,a3,a4,a5,rv4,w8⟩
   | true=>
    rw [if_pos rfl]
    rw [if_pos rfl] at q8
    refine wpAny_mono (heC _ s8 σ7 H8 _ I8 q8) (fun xv s9 ⟨y,H9,I9,r9,n9⟩=>?_) fun _ _ z=>by rw [eX] at z;exact z
    obtain ⟨m',hm,w9⟩:=hN _ _ n9
    obtain ⟨a1,a2,a3,a4,a5⟩:=fin I9
    refine wpAny_list_append_plain (items:=its.toArray) ⟨nn,a5⟩ (fun h' ⟨n',hp'⟩ sb=>?_) (by simp;rw [← rv4.length];omega)
    obtain ⟨q1,q2⟩:=I4.ok.exf s2.heap.objs.size (by rw [eEx];exact List.mem_cons_self)
    have a1':Inv XC [] (cC sub U) H9 {s9 with heap:=h'}:=a1.turned (t':=s9.toks) (fun b o hb e=>(sb.2 b hb).trans e) a4 q1 (.inl (by rw [eEx];exact List.mem_cons_self)) q2 (fun p hp=>by rw [ePn] at hp;exact nomatch hp)
    refine ⟨m',hm,i+1,ys ++ [y],its ++ [xv],n',H9,a1',T.keep _ _ _ a2 fun b hb o e=>(sb.2 b (fun z=>hDfp (by rw [← z];exact hb))).trans e,a3,a4,?_,rv4.append (.cons r9 .nil),w9⟩
    rw [hp']
    simp
 subst hs3
 exact codeAny_compStart_list loop (T.self _ 0 _ _ _ (T.keep _ _ _ st2 fun b _ o e=>hk31 b o (k23 b o e)) loop)
end
abbrev mX (sub:List (Option Nat)) (g:TG) (tt:TT) (te:TE) (U:St) (Q:VK) (J:It) (H1:Hp):Prop:=∃ W:Nat->Nat->List V->Hp->Prop,(∃ m,W 0 m [] H1)/\∀ i m ys H,W i m ys H->
 (J.stop i H/\ys.length<=sizeLine/\∀ D,H D=none->Q (.ref D) (upd H D (.lst ys)))\/
 (J.go i H/\ys.length < sizeLine/\∃ N:List V->Hp->Prop,(∀ ys' H',N ys' H'->∃ m',m' < m/\W (i+1) m' ys' H')/\
  ∀ x H',J.yld i H x H'->g x (cC sub U) H' fun σ2 H2=>KeepSt (cC sub U) σ2/\tt σ2 H2 fun b H3=>if b=true then te σ2 H3 fun y H4=>N (ys ++ [y]) H4 else N ys H3)
theorem qL {sub:List (Option Nat)} {g:TG} {tt:TT} {te:TE} {U:St} {Q:VK} {J:It} {H:Hp} {n:Nat} (Pv:Nat->List V->Hp->Prop) (hn:n<=sizeLine) (h0:Pv 0 [] H) (hl:∀ i ys H,Pv i ys H->ys.length<=i)
  (hgo:∀ i ys H,i < n->Pv i ys H->J.go i H) (hstop:∀ ys H,Pv n ys H->J.stop n H)
  (hs:∀ i ys H x H',i < n->Pv i ys H->J.yld i H x H'->g x (cC sub U) H' fun σ2 H2=>KeepSt (cC sub U) σ2/\tt σ2 H2 fun b H3=>if b=true then te σ2 H3 fun y H4=>Pv (i+1) (ys ++ [y]) H4 else Pv (i+1) ys H3)
  (hd:∀ ys H,Pv n ys H->∀ D,H D=none->Q (.ref D) (upd H D (.lst ys))):mX sub g tt te U Q J H:=by
 refine ⟨fun i m ys H=>m=n - i/\i<=n/\Pv i ys H,⟨n,by simp,Nat.zero_le _,h0⟩,?_⟩
 rintro i m ys H ⟨rfl,hi,p⟩
 have hl':=hl i ys H p
 by_cases hlt:i < n
 ·exact .inr ⟨hgo i ys H hlt p,by omega,fun ys' H'=>Pv (i+1) ys' H',fun ys' H' p'=>⟨n - (i+1),by omega,rfl,hlt,p'⟩,fun x H' y=>hs i ys H x H' hlt p y⟩
 ·have e:i=n:=by omega
  subst e
  exact .inl ⟨hstop ys H p,by omega,hd ys H p⟩
section
variable {κ:Type} [DecidableEq κ]
def gH (kvs:List (κ×V)) (k:κ):Option V:=(kvs.find? fun kv=>decide (kv.1=k)).map (·.2)
def putK (kvs:List (κ×V)) (k:κ) (v:V):List (κ×V):=
 if (kvs.any fun kv=>decide (kv.1=k))=true then kvs.map (fun kv=>if kv.1=k then (kv.1,v) else kv) else kvs ++ [(k,v)]
theorem rH {k:κ}:gH ([]:List (κ×V)) k=none:=rfl
theorem di {p:κ×V} {r:List (κ×V)} {k:κ} (e:p.1=k):gH (p :: r) k=some p.2:=by simp [gH,List.find?_cons,e]
theorem dj {p:κ×V} {r:List (κ×V)} {k:κ} (e:¬ p.1=k):gH (p :: r) k=gH r k:=by simp [gH,List.find?_cons,e]
theorem lB (k:κ):∀ kvs:List (κ×V),(kvs.any fun kv=>decide (kv.1=k))=(gH kvs k).isSome
 | []=>rfl
 | p :: r=>by
  rw [List.any_cons]
  by_cases e:p.1=k
  ·simp only [di e,decide_eq_true e,Bool.true_or,Option.isSome_some]
  ·rw [dj e,decide_eq_false e,Bool.false_or];exact lB k r
theorem rJ (k j:κ) (y:V):∀ kvs:List (κ×V),gH (kvs.map fun kv=>if kv.1=k then (kv.1,y) else kv) j=(gH kvs j).map fun x=>if j=k then y else x
 | []=>rfl
 | p :: r=>by
  have ih:=rJ k j y r
  rw [List.map_cons]
  by_cases h:p.1=k
  ·rw [if_pos h]
   by_cases e:p.1=j
   ·rw [di (p:=(p.1,y)) e,di e,Option.map_some,if_pos (e.symm.trans h)]
   ·rw [dj (p:=(p.1,y)) e,dj e,ih]
  ·rw [if_neg h]
   by_cases e:p.1=j
   ·rw [di (p:=p) e,di e,Option.map_some,if_neg (fun z=>h (e.trans z))]
   ·rw [dj (p:=p) e,dj e,ih]
theorem p6 (k j:κ) (y:V):∀ kvs:List (κ×V),gH kvs k=none->gH (kvs ++ [(k,y)]) j=if j=k then some y else gH kvs j
 | [],_=>by
  by_cases e:k=j
  ·rw [if_pos e.symm];exact di (p:=(k,y)) e
  ·rw [if_neg (fun z=>e z.symm)];exact dj (p:=(k,y)) e
 | p :: r,hn=>by
  rw [List.cons_append]
  have hk:¬ p.1=k:=fun z=>by rw [di z] at hn;cases hn
  rw [dj hk] at hn
  have ih:=p6 k j y r hn
  by_cases e:p.1=j
  ·rw [di e,di e,if_neg (fun z=>hk (e.trans z))]
  ·rw [dj e,dj e,ih]
theorem rK (kvs:List (κ×V)) (k j:κ) (y:V):gH (putK kvs k y) j=if j=k then some y else gH kvs j:=by
 unfold putK
 by_cases a:(kvs.any fun kv=>decide (kv.1=k))=true
 ·rw [if_pos a,rJ]
  rw [lB] at a
  by_cases e:j=k
  ·obtain ⟨x,hx⟩:=Option.isSome_iff_exists.mp a
   rw [if_pos e,e,hx,Option.map_some,if_pos rfl]
  ·rw [if_neg e]
   cases gH kvs j with
   | none=>rfl
   | some x=>rw [Option.map_some,if_neg e]
 ·rw [if_neg a]
  refine p6 k j y kvs ?_
  rw [lB] at a
  cases q:gH kvs k with
  | none=>rfl
  | some x=>rw [q] at a;exact (a rfl).elim
theorem gO (kvs:List (κ×V)) (k:κ) (v:V):(putK kvs k v).length<=kvs.length+1:=by
 unfold putK
 split
 ·rw [List.length_map];omega
 ·rw [List.length_append,List.length_cons,List.length_nil];omega
theorem RelO.isSome_eq {o:Option V} {u:Option Value} (r:RelO o u):o.isSome=u.isSome:=by
 cases o with
 | none=>cases u with
  | none=>rfl
  | some _=>exact (show False from r).elim
 | some _=>cases u with
  | none=>exact (show False from r).elim
  | some _=>rfl
theorem KV.val {kvs:List (κ×V)} {vs:List (κ×Value)} (r:KV kvs vs) (k:κ):RelO (gH kvs k) (valueAt vs k):=by
 unfold KV at r
 induction r with
 | nil=>exact True.intro
 | @cons p q ps qs h t ih=>
  obtain ⟨h1,h2⟩:=h
  by_cases e:p.1=k
  ·have e':q.1=k:=h1.symm.trans e
   have b:valueAt (q :: qs) k=some q.2:=by simp [valueAt,List.find?_cons,e']
   rw [di e,b];exact h2
  ·have e':¬ q.1=k:=fun z=>e (h1.trans z)
   have b:valueAt (q :: qs) k=valueAt qs k:=by simp [valueAt,List.find?_cons,e']
   rw [dj e,b];exact ih
theorem KV.any {kvs:List (κ×V)} {vs:List (κ×Value)} (r:KV kvs vs) (k:κ):(kvs.any fun kv=>decide (kv.1=k))=vs.any fun kv=>decide (kv.1=k):=by
 unfold KV at r
 induction r with
 | nil=>rfl
 | cons h t ih=>rw [List.any_cons,List.any_cons,ih,h.1]
theorem KV.repl {kvs:List (κ×V)} {vs:List (κ×Value)} (r:KV kvs vs) (k:κ) {y:V} {u:Value} (ry:RelV y u):
  KV (kvs.map fun kv=>if kv.1=k then (kv.1,y) else kv) (vs.map fun kv=>if kv.1=k then (kv.1,u) else kv):=by
 unfold KV at r ⊢
 induction r with
 | nil=>exact .nil
 | @cons p q ps qs h t ih=>
  rw [List.map_cons,List.map_cons]
  refine .cons ?_ ih
  obtain ⟨h1,h2⟩:=h
  by_cases e:p.1=k
  ·rw [if_pos e,if_pos (h1.symm.trans e)];exact ⟨h1,ry⟩
  ·rw [if_neg e,if_neg (fun z=>e (h1.trans z))];exact ⟨h1,h2⟩
theorem KV.put {kvs:List (κ×V)} {vs:List (κ×Value)} (r:KV kvs vs) (k:κ) {y:V} {u:Value} (ry:RelV y u):KV (putK kvs k y) (stored vs k u):=by
 unfold putK stored
 rw [r.any k]
 by_cases e:(vs.any fun kv=>decide (kv.1=k))=true
 ·rw [if_pos e,if_pos e];exact r.repl k ry
 ·rw [if_neg e,if_neg e];exact Paired.snoc r ⟨rfl,ry⟩
theorem KV.length {kvs:List (κ×V)} {vs:List (κ×Value)} (r:KV kvs vs):kvs.length=vs.length:=Paired.length r
end
theorem yw {P:Program} {w:World} {k:Key} {u:Value} (r:RelV (kV k) u):(bH P w).is k u=true:=by
 cases k with
 | inl i=>obtain ⟨t,e⟩:=(show ∃ t,u=Value.int i t from r);subst e;exact q9 P w i t
 | inr x=>obtain ⟨t,e⟩:=(show ∃ t,u=Value.str x t from r);subst e;exact rm P w x t
theorem p7 {P:Program} {w:World}:∀ {ks:List Key} {us:List Value},Vals (ks.map kV) us->ItemsAre (bH P w) ks us
 | [],_,r=>by rw [List.map_nil] at r;cases r;exact .nil
 | k :: ks,_,r=>by
  rw [List.map_cons] at r
  cases r with
  | cons h t=>exact .cons (yw h) (p7 t)
abbrev KT (H:Hp):List (List Key×V)->List (List Key×Addr×Value)->Prop:=Paired fun p q=>p.1=q.1/\H q.2.1=some (.tup (p.1.map kV))/\RelV p.2 q.2.2
theorem KT.val {H:Hp} {kvs:List (List Key×V)} {xs:List (List Key×Addr×Value)} (r:KT H kvs xs) (k:List Key):RelO (gH kvs k) ((atKey xs k).map (·.2)):=by
 induction r with
 | nil=>exact True.intro
 | @cons p q ps qs h t ih=>
  obtain ⟨h1,_,h2⟩:=h
  by_cases e:p.1=k
  ·have e':q.1=k:=h1.symm.trans e
   have b:atKey (q :: qs) k=some q.2:=by simp [atKey,List.find?_cons,e']
   rw [di e,b];exact h2
  ·have e':¬ q.1=k:=fun z=>e (h1.trans z)
   have b:atKey (q :: qs) k=atKey qs k:=by simp [atKey,List.find?_cons,e']
   rw [dj e,b];exact ih
theorem KT.repl {H:Hp} {kvs:List (List Key×V)} {xs:List (List Key×Addr×Value)} (r:KT H kvs xs) (k:List Key) {y:V} {u:Value} (ry:RelV y u):
  KT H (kvs.map fun kv=>if kv.1=k then (kv.1,y) else kv) (xs.map (putAt k u)):=by
 induction r with
 | nil=>exact .nil
 | @cons p q ps qs h t ih=>
  rw [List.map_cons,List.map_cons]
  refine .cons ?_ ih
  obtain ⟨h1,h2,h3⟩:=h
  unfold putAt
  by_cases e:p.1=k
  ·rw [if_pos e,if_pos (h1.symm.trans e)];exact ⟨h1,h2,ry⟩
  ·rw [if_neg e,if_neg (fun z=>e (h1.trans z))];exact ⟨h1,h2,h3⟩
theorem KT.put {H:Hp} {kvs:List (List Key×V)} {xs:List (List Key×Addr×Value)} (r:KT H kvs xs) (k:List Key) {b:Addr} {y:V} {u:Value} (hb:H b=some (.tup (k.map kV))) (ry:RelV y u):
  KT H (putK kvs k y) (storedH xs k b u):=by
 have e:(kvs.any fun kv=>decide (kv.1=k))=(atKey xs k).isSome:=by
  rw [lB,(r.val k).isSome_eq,Option.isSome_map]
 unfold putK storedH
 rw [e]
 by_cases q:(atKey xs k).isSome=true
 ·rw [if_pos q,if_pos q];exact r.repl k ry
 ·rw [if_neg q,if_neg q];exact Paired.snoc r ⟨rfl,hb,ry⟩
theorem KT.keeps {H H':Hp} {kvs:List (List Key×V)} {xs:List (List Key×Addr×Value)} (r:KT H kvs xs) (ht:∀ b ys,H b=some (.tup ys)->H' b=some (.tup ys)):KT H' kvs xs:=
 Paired.mapP r fun _ _ z=>⟨z.1,ht _ _ z.2.1,z.2.2⟩
section
variable {P:Program} {w:World} {H:Hp} {h:Heap} {a:Addr}
theorem Ej {u:HO} (ok:HOk P w H h) (e:Rd H a u):ObjOk P w H h a u:=e.ok ok
theorem Ek {kvs:List (Key×V)} (ok:HOk P w H h) (e:Rd H a (.dK kvs)):kvs.length<=sizeLine/\(a == sysModules)=false/\∃ vs,KV kvs vs/\h.DictOf (bH P w) a vs:=
 show ObjOk P w H h a (.dK kvs) from Ej ok e
theorem Kp {kvs:List (Key×V)} (ok:HOk P w H h) (e:H a=some (.dK kvs)):kvs.length<=sizeLine/\(a == sysModules)=false/\∃ vs,KV kvs vs/\h.DictOf (bH P w) a vs:=Ek ok (.inl e)
theorem uf {ks:List Key} (ok:HOk P w H h) (e:H a=some (.tup (ks.map kV))):(tupleKind (bH P w)).is h ks a:=by
 obtain ⟨_,its,r,o,h1,h2,n,h3⟩:=(show ObjOk P w H h a (.tup (ks.map kV)) from ok a _ e)
 exact ⟨o,its.toArray,n,h1,h2,h3,by simpa using p7 r⟩
theorem El {kvs:List (List Key×V)} (ok:HOk P w H h) (e:Rd H a (.dT kvs)):kvs.length<=sizeLine/\(a == sysModules)=false/\
  ∃ xs,KT H kvs xs/\h.DictOfH (tupleKind (bH P w)) a xs:=by
 obtain ⟨z,y,xs,r,o,es,ep,h1,h2,h3,h4,h5⟩:=(show ObjOk P w H h a (.dT kvs) from Ej ok e)
 refine ⟨z,y,xs,r,o,es,ep,h1,h2,h3,h4,fun x hx=>?_,h5⟩
 have all:∀ {l:List (List Key×V)} {m:List (List Key×Addr×Value)},KT H l m->∀ x∈m,(tupleKind (bH P w)).is h x.1 x.2.1:=by
  intro l m q
  induction q with
  | nil=>intro x hx;exact nomatch hx
  | @cons p q ps qs hq t ih=>
   intro x hx
   rcases List.mem_cons.mp hx with e | hx
   ·subst e
    exact uf ok (by rw [← hq.1];exact hq.2.1)
   ·exact ih x hx
 exact all r x hx
theorem Kq {kvs:List (List Key×V)} (ok:HOk P w H h) (e:H a=some (.dT kvs)):kvs.length<=sizeLine/\(a == sysModules)=false/\
  ∃ xs,KT H kvs xs/\h.DictOfH (tupleKind (bH P w)) a xs:=El ok (.inl e)
end
def DGet (H:Hp) (a:Addr) (y:V) (r:Option V):Prop:=
 (∃ kvs k,Rd H a (.dK kvs)/\y=kV k/\r=gH kvs k)\/∃ kvs k b,Rd H a (.dT kvs)/\y= .ref b/\H b=some (.tup (k.map kV))/\r=gH kvs k
def DPut (H:Hp) (a:Addr) (y v:V) (H':Hp):Prop:=
 (∃ kvs k,H a=some (.dK kvs)/\y=kV k/\kvs.length < sizeLine/\H'=upd H a (.dK (putK kvs k v)))\/
 ∃ kvs k b,H a=some (.dT kvs)/\y= .ref b/\H b=some (.tup (k.map kV))/\kvs.length < sizeLine/\H'=upd H a (.dT (putK kvs k v))
theorem DGet.k {H:Hp} {a:Addr} {kvs:List (Key×V)} {k:Key} (e:H a=some (.dK kvs)):DGet H a (kV k) (gH kvs k):=.inl ⟨kvs,k,.inl e,rfl,rfl⟩
theorem DPut.k {H:Hp} {a:Addr} {kvs:List (Key×V)} {k:Key} {v:V} (e:H a=some (.dK kvs)) (hl:kvs.length < sizeLine):DPut H a (kV k) v (upd H a (.dK (putK kvs k v))):=.inl ⟨kvs,k,e,rfl,hl,rfl⟩
section
variable {X:Cx} {pins:List (Addr×Obj)} {U:St} {H:Hp} {s:Shared} {a:Addr} {y v:V} {u r:Value} {o:Option V} {A:Around} {E:Value->Shared->Prop}
theorem Inv.big (I:Inv X pins U H s):sysModules < s.heap.objs.size:=by
 have h:mainGlobals < s.heap.objs.size:=(I.mod.glob.keeps I.bk).lt
 exact Nat.lt_trans (by decide) h
theorem d_in {Q:Value->Shared->Prop} (hu:A.units+1 < cLine) (I:Inv X pins U H s) (g:DGet H a y o) (ry:RelV y u) (h:∀ s',Inv X pins U H s'->Q (.bool o.isSome) s'):
  wpAny (model X.prog X.w) A (compareOp .In u (.ref a)) Q E s:=by
 rcases g with ⟨kvs,k,e,ey,l⟩ | ⟨kvs,k,b,e,ey,eb,l⟩
 ·subst ey
  obtain ⟨z,hd,vs,rel,dd⟩:=Ek I.hok e
  refine wpAny_in_of (yw ry) hd dd.mapOf ?_
  rw [← (rel.val k).isSome_eq,← l]
  exact h _ (I.tok _)
 ·subst ey
  cases (show u=Value.ref b from ry)
  obtain ⟨z,hd,xs,rel,dd⟩:=El I.hok e
  refine wpAny_in_heap (tupleKind_room_in1 hu) (uf I.hok eb) hd dd ?_
  have q:=(rel.val k).isSome_eq
  rw [Option.isSome_map] at q
  rw [← q,← l]
  exact h _ (I.tok _)
theorem uX {h':Heap} {t':Nat} {ob:HO} (I:Inv X pins U H s) (mu:JK (H a)) (hs:Heap.SameBut a s.heap h') (he:∃ q,h'.get? a=some q) (new:ObjOk X.prog X.w (upd H a ob) h' a ob):
  Inv X pins U (upd H a ob) {s with heap:=h',toks:=t'}:=
 I.write (x:=a) (e:=a) mu (.inl rfl) (fun b q hb z=>(hs.2 b hb).trans z) he new
theorem G6 {P:Program} {w:World} {H':Hp} {h':Heap} {kvs:List (Key×V)} {vs:List (Key×Value)} (z:kvs.length<=sizeLine) (hd:(a == sysModules)=false) (rel:KV kvs vs) (dd:h'.DictOf (bH P w) a vs):
  ObjOk P w H' h' a (.dK kvs):=⟨z,hd,vs,rel,dd⟩
theorem wz {H':Hp} {Q:Unit->Shared->Prop} (hu:A.units+1 < cLine) (I:Inv X pins U H s) (g:DPut H a y v H') (ry:RelV y u) (rv:RelV v r) (h:∀ s',Inv X pins U H' s'->Q () s'):
  wpAny (model X.prog X.w) A (setItem (.ref a) u r) Q E s:=by
 rcases g with ⟨kvs,k,e,ey,l,eH⟩ | ⟨kvs,k,b,e,ey,eb,l,eH⟩
 ·subst ey eH
  obtain ⟨z,hd,vs,rel,dd⟩:=Kp I.hok e
  have hz:vs.length<=sizeLine:=by rw [← rel.length];exact z
  have hl:(putK kvs k v).length<=sizeLine:=by have:=gO kvs k v;omega
  refine wpAny_setItem_pairs (hsz:=hz) (yw ry) dd fun h' dd' hs=>h _ ?_
  have he:∃ q,h'.get? a=some q:=let ⟨q,_,_,hq,_⟩:=dd';⟨q,hq⟩
  exact uX I (by rw [e];exact True.intro) hs he (G6 hl hd (rel.put k rv) dd')
 ·subst ey eH
  cases (show u=Value.ref b from ry)
  obtain ⟨z,hd,xs,rel,dd⟩:=Kq I.hok e
  have hz:xs.length<=sizeLine:=by rw [← Paired.length rel];exact z
  have hl:(putK kvs k v).length<=sizeLine:=by have:=gO kvs k v;omega
  refine wpAny_setItem_heap (hsz:=hz) (tupleKind_room_in1 hu) (uf I.hok eb) dd fun h' dd' hs=>h _ ?_
  obtain ⟨q,es,ep,hq,h2,h3,h4,_,h5⟩:=dd'
  refine uX I (by rw [e];exact True.intro) hs ⟨q,hq⟩ ⟨hl,hd,_,(rel.put k eb rv).keeps fun c ys ec=>?_,q,es,ep,hq,h2,h3,h4,h5⟩
  rw [aA (JH ec e (fun z=>nomatch z))]
  exact ec
end
theorem yx {P:Program} {w:World} {H:Hp} (h:Heap) (hb:sysModules < h.objs.size):ObjOk P w H (h.push {cls:=.type "dict",data:=.dict #[]}) h.objs.size (.dK []):=
 ⟨Nat.zero_le _,beq_eq_false_iff_ne.mpr (Ne.symm (Nat.ne_of_lt hb)),[],.nil,Heap.DictOf.new h⟩
def ug:TE:=fun _ H Q=>∀ p,H p=none->Q (.ref p) (upd H p (.dK []))
section
variable {X:Cx} {pos:Pos}
theorem yz:PE X (.Dict [] [] pos) ug:=fun pins s U H Q I h=>
 wpAny_Dict_empty ⟨.ref s.heap.objs.size,_,I.laid (a:=s.heap.objs.size) (o:=.dK []) (t':=s.toks) (fun _ _ q=>Heap.get?_push_of_some _ q) (Nat.le_refl _) (yx s.heap I.big),rfl,h _ (I.hok.fresh (Nat.le_refl _))⟩
end
def Ni (x:Str):It:=⟨fun i _=>i < x.cps.size,fun i H v H'=>H'=H/\∃ c,x.cps[i]?=some c/\v= .str ⟨#[c]⟩,fun i _=>i=x.cps.size⟩
theorem rM {P:Program} {w:World} {K:W.Frag} {tg:Expr} (it:Addr) (x:Str) (t:Tok) (ty:String)
  (hty:["enumerate","zip","dict_itemiterator","dict_reverseitemiterator","odict_iterator","itertools.zip_longest","itertools.pairwise"].contains ty=false)
  (W:∀ A:Around,A.handled=none->Walks P w A it [it] [it] x.cps.size (SignAt x) fun i h=>h.IsStrIter it ty x t i)
  (hself:∀ (A:Around) (i:Nat) (s:Shared) (Q:Value->Shared->Prop) (E:Value->Shared->Prop),s.heap.IsStrIter it ty x t i->Q (.ref it) s->wpAny (model P w) A (pyIter (.ref it)) Q E s):Turn P w K tg (Ni x) [it] it (fun i h=>h.IsStrIter it ty x t i) where
 mem:=by simp
 obj:=fun i h st b hb=>by
  have e:b=it:=by simpa using hb
  subst e
  obtain ⟨o,e,c,d⟩:=st
  exact ⟨o,e,fun v z=>by rw [d] at z;cases z⟩
 keep:=fun i h h' st k=>by
  obtain ⟨o,e,r⟩:=st
  exact ⟨o,k it (by simp) o e,r⟩
 item:=by
  intro X hP hw hK hc i pins s U H E I hf st hg
  subst hP hw hK
  obtain ⟨f0,f1,f2,f3,f4,f5⟩:=hf it (by simp)
  refine (W X.A (I.ok.hd hc)).item i s _ _ hg st fun v h' tk hv st' kk=>?_
  obtain ⟨c,u,e1,rfl⟩:=hv
  have I1:Inv X pins U H {s with heap:=h',toks:=tk}:=I.turned (fun b o hb e=>kk b o (by simpa using hb) e) f0 f1 f3 f4 f5
  obtain ⟨o,e,cl,d⟩:=id st'
  exact ⟨_,rfl,nO (s:={s with heap:=h',toks:=tk}) e cl d hty ⟨.str ⟨#[c]⟩,H,I1,⟨u,rfl⟩,⟨rfl,c,e1,rfl⟩,st',fun b hb=>(hf b hb).1⟩⟩
 done:=by
  intro X hP hw hK hc i pins s U H E I hf st hg
  subst hP hw hK
  obtain ⟨f0,f1,f2,f3,f4,f5⟩:=hf it (by simp)
  have hg:i=x.cps.size:=hg
  subst hg
  exact (W X.A (I.ok.hd hc)).done s _ _ st fun h' tk kk=>⟨rfl,I.turned (fun b o hb e=>kk b o (by simpa using hb) e) f0 f1 f3 f4 f5⟩
 self:=hself
section
variable {X:Cx}
def Kr:V->Option Int->Option Int->Hp->VK->Prop:=fun v lo hi H Q=>∃ x,v= .str x/\x.length<=sizeLine/\Q (.str (Txt.slice x lo hi)) H
theorem G7:SlR X Kr:=by
 intro pins s U H x v vl vu lo hi sl Q I rx hs pl pu h
 obtain ⟨z,rfl,hz,q⟩:=h
 obtain ⟨t,rfl⟩:=rx
 refine ⟨"str",_,F.slot_str_getitem.lookup,typeIs_str _ _ _,?_⟩
 have fin:∀ (t' k:Nat),EP X pins U Q (.str (Txt.slice z lo hi) t') {s with toks:=k}:=fun t' k=>⟨.str _,H,I.tok _,⟨_,rfl⟩,q⟩
 have sz:=Nat.le_trans (Txt.slice_le z lo hi) hz
 obtain ⟨o,ho,hc,hd⟩:=hs
 cases pl with
 | none=>
  cases pu with
  | none=>exact wpAny_getItem_str_slice (l:=none) (u:=none) (st:=none) ⟨o,ho,hc,hd⟩ rfl (post_val_or_str ⟨sz,fin⟩)
  | int j tj=>exact wpAny_getItem_str_slice (l:=none) (u:=some (j,tj)) (st:=none) ⟨o,ho,hc,hd⟩ rfl (post_val_or_str ⟨sz,fin⟩)
 | int i ti=>
  cases pu with
  | none=>exact wpAny_getItem_str_slice (l:=some (i,ti)) (u:=none) (st:=none) ⟨o,ho,hc,hd⟩ rfl (post_val_or_str ⟨sz,fin⟩)
  | int j tj=>exact wpAny_getItem_str_slice (l:=some (i,ti)) (u:=some (j,tj)) (st:=none) ⟨o,ho,hc,hd⟩ rfl (post_val_or_str ⟨sz,fin⟩)
def Em:R2:=fun x y H Q=>∃ i n,x= .str i/\y= .int n/\MulOk i n/\Q (.str (Txt.mul i n)) H
theorem uh:OpR X (binaryOp .Mult) Em:=by
 intro pins s U H x y v u Q I rx ry h
 obtain ⟨i,n,rfl,rfl,hk,q⟩:=h
 obtain ⟨t,rfl⟩:=rx
 obtain ⟨t',rfl⟩:=ry
 exact SB.mul hk fun t' k=>⟨.str _,H,I.tok _,⟨_,rfl⟩,q⟩
def sgn (x:Str):List V:=x.cps.toList.map fun c=>V.str ⟨#[c]⟩
theorem wA {x:Str} {acc:Array Value} (h:ItemsOf (SignAt x) acc x.cps.size):Vals (sgn x) acc.toList:=by
 obtain ⟨h1,h2⟩:=h
 have key:∀ (l:List Nat) (a:List Value),l.length=a.length->(∀ (j:Nat) (v:Value),a[j]?=some v->∃ (c:Nat) (u:Tok),l[j]?=some c/\v=Value.str ⟨#[c]⟩ u)->Vals (l.map fun c=>V.str ⟨#[c]⟩) a:=by
  intro l
  induction l with
  | nil=>intro a hl _;cases a with
   | nil=>exact .nil
   | cons _ _=>simp at hl
  | cons c l ih=>
   intro a hl hh
   cases a with
   | nil=>simp at hl
   | cons v a=>
    obtain ⟨c',u,e1,e2⟩:=hh 0 v (by simp)
    simp at e1;subst e1
    refine .cons ⟨u,e2⟩ (ih a (by simpa using hl) fun j v' e=>?_)
    obtain ⟨c',u,e1,e2⟩:=hh (j+1) v' (by simpa using e)
    exact ⟨c',u,by simpa using e1,e2⟩
 refine key x.cps.toList acc.toList (by simp [h1]) fun j v e=>?_
 obtain ⟨c,u,e1,e2⟩:=h2 j v (by simpa using e)
 exact ⟨c,u,by simpa using e1,e2⟩
theorem rN (hc:X.calm=true):CallR X (.type "list") (fun xs H Q=>∃ x,xs=[.str x]/\x.cps.size<=sizeLine/\∀ p,H p=none->Q (.ref p) (upd H p (.lst (sgn x)))):=by
 intro pins s U H xs us Q I r h
 obtain ⟨x,rfl,hz,q⟩:=h
 obtain ⟨u,rfl,t,rfl⟩:=vals1 r
 refine call_list_str (I.ok.hd hc) x t (hn:=hz) fun h' tk acc' c' hk hS hacc=>?_
 refine ⟨.ref s.heap.objs.size,_,I.laid (o:=.lst (sgn x)) hk (Nat.le_refl _) ⟨by simp [sgn];exact hz,acc'.toList,c',wA hacc,by simpa using hS⟩,rfl,q _ I.fresh⟩
def G8 (K:W.Frag):List V->Hp->VK->Prop:=fun xs H Q=>∃ x T t b,xs=[x,.ty T]/\TyOf K H x t/\PySem.W.kitOne K t (.type T)=some b/\Q (.bl b) H
theorem yC:CallR X (.builtin "isinstance") (G8 X.K):=by
 intro pins s U H xs us Q I r h
 obtain ⟨x,T,t,b,rfl,ty,e,q⟩:=h
 obtain ⟨u,v,rfl,ru,rv⟩:=vals2 r
 cases rv
 exact v8 I ru ty e fun tk=>⟨.bl b,H,I.tok _,rfl,q⟩
def ul:List V->List V->Bool
 | [],[]=>true
 | x :: xs,y :: ys=>uT x y && ul xs ys
 | _,_=>false
theorem oE:∀ (xs ys:List V),xs.length=ys.length->(List.range xs.length).all (fun j=>uT (xs.getD j .non) (ys.getD j .non))=ul xs ys
 | [],[],_=>rfl
 | x :: xs,y :: ys,h=>by
  have ih:=oE xs ys (by simpa using h)
  rw [List.length_cons,List.range_succ_eq_map,List.all_cons,List.all_map]
  simp only [ul]
  rw [← ih]
  rfl
 | [],y :: ys,h=>by simp at h
 | x :: xs,[],h=>by simp at h
theorem rO:∀ {xs ys:List V},xs.length≠ys.length->ul xs ys=false
 | [],[],h=>absurd rfl h
 | [],y :: ys,_=>rfl
 | x :: xs,[],_=>rfl
 | x :: xs,y :: ys,h=>by simp [ul,rO (xs:=xs) (ys:=ys) (by simpa using h)]
def Ks (K:W.Frag) (neg:Bool):R2:=fun x y H Q=>∃ a b xs ys,x= .ref a/\y= .ref b/\SqL K H a xs/\SqL K H b ys/\xs.all iQ=true/\ys.all iQ=true/\Q (.bl (if neg then !ul xs ys else ul xs ys)) H
theorem wB (hu:X.A.units < cLine):OpR X (compareOp .Eq) (Ks X.K false):=by
 intro pins s U H x y v u Q I rx ry h
 obtain ⟨a,b,xs,ys,rfl,rfl,ha,hb,fx,fy,q⟩:=h
 cases rx
 cases ry
 obtain ⟨its,r1,p1,z1⟩:=I.list ha
 obtain ⟨jts,r2,p2,z2⟩:=I.list hb
 have l1:its.toArray.size=xs.length:=by simpa using r1.length.symm
 have l2:jts.toArray.size=ys.length:=by simpa using r2.length.symm
 by_cases hl:xs.length=ys.length
 ·refine SeqAt.eq_listAt (e:=fun j=>uT (xs.getD j .non) (ys.getD j .non)) p1.isList p2.isList (by rw [l1,l2];exact hl) hu (fun j h1 h2=>?_) ?_
  ·have h1':j < xs.length:=by omega
   have h2':j < ys.length:=by omega
   obtain ⟨u1,e1,q1⟩:=r1.get (List.getElem?_eq_getElem h1')
   obtain ⟨u2,e2,q2⟩:=r2.get (List.getElem?_eq_getElem h2')
   have e1':its.toArray[j]=u1:=by
    have:=List.getElem?_eq_some_iff.mp e1
    obtain ⟨_,z⟩:=this
    simpa using z
   have e2':jts.toArray[j]=u2:=by
    have:=List.getElem?_eq_some_iff.mp e2
    obtain ⟨_,z⟩:=this
    simpa using z
   rw [e1',e2']
   have g1:xs.getD j .non=xs[j]:=by rw [List.getD_eq_getElem?_getD,List.getElem?_eq_getElem h1'];rfl
   have g2:ys.getD j .non=ys[j]:=by rw [List.getD_eq_getElem?_getD,List.getElem?_eq_getElem h2'];rfl
   show SeqAt.EqAt X.A.in1 s u1 u2 (uT (xs.getD j .non) (ys.getD j .non))
   rw [g1,g2]
   exact qG q1 q2 (List.all_eq_true.mp fx _ (List.getElem_mem h1')) (List.all_eq_true.mp fy _ (List.getElem_mem h2'))
  ·rw [l1,oE xs ys hl]
   exact ⟨.bl _,H,I,rfl,q⟩
 ·refine SeqAt.eq_list_lengthsAt p1.isList p2.isList (by rw [l1,l2];simpa using hl) hu ?_
  rw [if_neg (by simp),rO hl] at q
  exact ⟨.bl false,H,I,rfl,q⟩
end
def jo (K:W.Frag) (mg:Str->Option Value) (x:Str) (st:Stmt):Prop:=∃ f fd,Fun K x x st f fd/\mg x=some (.ref f)
theorem dm {K:W.Frag} {mg:Str->Option Value} {h:Heap} (X:K.In h) (G:h.Ns mainGlobals mg) {x:Str} {st:Stmt} {f:Addr} {oc:Value} {od an:Option Addr} {osl:Array (Option Value)} {kV doc pm cdv ct:Value}
  (a:PySem.W.nsIn K mainGlobals x=some (some (.ref f)))
  (l:K.lookup f=some ⟨oc,od,.func (PySem.W.fnOf x x (dD st) (bK st) (aq st) .none kV doc pm an cdv ct),osl⟩)
  (c:PySem.W.codeIn K cdv x=true) (k:PySem.W.keepIn K (.ref f)=true):jo K mg x st:=⟨f,_,yp l c k,PySem.W.mg_of X G a⟩
def ph (P:Program) (w:World) (K:W.Frag) (mg:Str->Option Value) (base:Heap) (k:Nat) (x:Str) (ps:List Str) (sp:Sp):Prop:=
 ∃ f fd,mg x=some (.ref f)/\PySem.W.keepIn K (.ref f)=true/\Binds K fd ps []/\nQ P w K mg base uV k f fd ps sp
section
variable {P:Program} {w:World} {K:W.Frag} {mg:Str->Option Value} {base:Heap}
theorem G9 {x:Str} {st:Stmt} {N ps:List Str} {k:Nat} {sp:Sp} (D:jo K mg x st) (S:aG N ps (aq st))
  (hb:∀ (kV doc pm:Value) (an:Option Addr) (cdv ct:Value) (us:List Value),us.length=ps.length->bindArgs (PySem.W.fnOf x x (dD st) (bK st) (aq st) .none kV doc pm an cdv ct) ⟨us,[]⟩=pure (ps.zip us))
  (len:∀ vs H Q E,sp vs H Q E->vs.length=ps.length)
  (hbody:∀ (f:Addr) (cdv:Value) (A:Around) (outer:List Env) (s:Shared) (H:Hp) (vs:List V) (Q:VK) (E:XK),Room k (A.deeper (envOfC x (aq st) s.heap.objs.size f cdv))->sp vs H Q E->
   ∃ t,PSs (jw uV P w K mg base N x (aq st) f cdv A outer s H E).nox (bK st) t/\t {nx:=fun _ H'=>Q .non H',rt:=Q} (start N vs) H):ph P w K mg base (k+1) x ps sp:=by
 obtain ⟨f,fd,F,hm⟩:=D
 exact ⟨f,fd,hm,F.kp,F.binds hb,F.ok S len fun cdv A outer s H vs Q E hr h=>hbody f cdv A outer s H vs Q E hr h⟩
end
section
variable {X:Cx}
theorem yD {k:Nat} {x:Str} {ps:List Str} {sp:Sp} {p pos:Pos} {e:Expr} {es:List Expr} {t:TA} (F:ph X.prog X.w X.K X.mg X.base k x ps sp) (hr:Room k X.A) (hg:Gl X x)
  (ha:PA X (e :: es) t) (hdb:autoParam ((x == ("__debug__":Str))=false) L2.auto2._auto_1) (he:autoParam (starEach (e :: es) X.env=(false,eval e X.env) :: starEach es X.env) L2.auto4._auto_1) (hpl:autoParam ((backTo pos (starEach es X.env)).any (·.1)=false) L2.auto4._auto_1):
  PE X (.Call (.Name x p) (e :: es) [] pos) (pN sp [] E0 t):=by
 obtain ⟨f,fd,a,b,c,d⟩:=F
 exact Bt d hr hg a b c .nil Ko ha hdb he hpl
def yE:R2:=fun x y H Q=>(∃ i j,x= .int i/\y= .int j/\Q (.int (i+j)) H)\/(∃ i j,x= .str i/\y= .str j/\i.length+j.length<=sizeLine/\Q (.str (i ++ j)) H)\/Kl x y H Q
theorem aJ:OpR X (binaryOp .Add) yE:=Gj.or (tU.or GX)
def yF:R2:=fun x y H Q=>(∃ i j,x= .int i/\y= .int j/\CMul i j/\Q (.int (i*j)) H)\/Em x y H Q\/Km x y H Q
theorem jg:OpR X (binaryOp .Mult) yF:=Gk.or (uh.or GZ)
theorem yG {x:Str} {z:Int} {pos:Pos} (hg:Gl X x) (hm:∃ t,X.mg x=some (.int z t)) (hd:autoParam ((x == ("__debug__":Str))=false) L2.auto2._auto_1):PE X (.Name x pos) (tC (.int z)):=
 let ⟨t,e⟩:=hm;Ax hg e ⟨t,rfl⟩ hd
theorem Ku {x:Str} {T:String} {pos:Pos} (hg:Gl X x) (hm:X.mg x=none) (hv:bootBuiltins x=some (.type T)) (hn:autoParam (x≠"__name__") L2.auto2._auto_1) (hd:autoParam ((x == ("__debug__":Str))=false) L2.auto2._auto_1):PE X (.Name x pos) (tC (.ty T)):=
 Ay hg hm hv rfl hn hd
def Ha (K:W.Frag):R2:=fun x y H Q=>(∃ i j,x= .str i/\y= .str j/\Q (.bl (!(Builtin.Str.occurrences j i 0 j.length 1).isEmpty)) H)\/rIn K false x y H Q
theorem Hb:OpR X (compareOp .In) (Ha X.K):=v5.or wj
def Hc (K:W.Frag):R2:=fun x y H Q=>rEq x y H Q\/Ks K false x y H Q
theorem Hd (hu:X.A.units < cLine):OpR X (compareOp .Eq) (Hc X.K):=J3.or (wB hu)
def rSl (K:W.Frag):V->Option Int->Option Int->Hp->VK->Prop:=fun x lo hi H Q=>Ke K x lo hi H Q\/J7 K x lo hi H Q\/Kr x lo hi H Q
theorem Hf:SlR X (rSl X.K):=Bx.or (GF.or G7)
def BJ (K:W.Frag) (tl:TE):TI:=fun U H R=>tl U H fun x H1=>(∃ a,x= .ref a/\(∃ xs,SqL K H1 a xs)/\R (Eh K a) H1)\/(∃ a,x= .ref a/\(∃ xs,SqT K H1 a xs)/\R (Jz K a) H1)\/(∃ z,x= .str z/\R (Ni z) H1)
theorem Hg {tg l:Expr} {tl:TE} (hl:PE X l tl):PI X tg l (BJ X.K tl):=by
 intro pins s U H R I h
 refine cP (hl pins s U H _ I h) fun v s1 qq0=>?_
 obtain ⟨x,H1,I1,r1,q1⟩:=qq0
 rcases q1 with ⟨a,rfl,⟨xs,hq⟩,q⟩ | ⟨a,rfl,⟨xs,hq⟩,q⟩ | ⟨z,rfl,q⟩
 ·cases r1
  obtain ⟨its,rv,p,hz⟩:=I1.list hq
  refine wpAny_pyIter_list p.isList ?_
  refine ⟨s1.heap.objs.size,[s1.heap.objs.size],_,_,H1,rfl,I1.kept (t':=s1.toks) fun b o e=>Heap.get?_push_of_some _ e,vX a _,⟨_,Heap.get?_push_size _ rfl,rfl,rfl⟩,fun b hb=>?_,q⟩
  have e:b=s1.heap.objs.size:=by simpa using hb
  subst e
  exact I1.fpOk (Nat.le_refl _) (I1.hok.fresh (Nat.le_refl _))
 ·cases r1
  obtain ⟨its,rv,p,hz⟩:=I1.tuple hq
  refine wpAny_pyIter_tuple (show s1.heap.IsTuple a its.toArray from p) ?_
  refine ⟨s1.heap.objs.size,[s1.heap.objs.size],_,_,H1,rfl,I1.kept (t':=s1.toks) fun b o e=>Heap.get?_push_of_some _ e,tO a _,⟨_,Heap.get?_push_size _ rfl,rfl,rfl⟩,fun b hb=>?_,q⟩
  have e:b=s1.heap.objs.size:=by simpa using hb
  subst e
  exact I1.fpOk (Nat.le_refl _) (I1.hok.fresh (Nat.le_refl _))
 ·obtain ⟨t,rfl⟩:=r1
  have fin:∀ (ty:String) (T:Turn X.prog X.w X.K tg (Ni z) [s1.heap.objs.size] s1.heap.objs.size (fun i h=>h.IsStrIter s1.heap.objs.size ty z t i)) (o:Obj),(s1.heap.push o).IsStrIter s1.heap.objs.size ty z t 0->PIE X pins U tg R (.ref s1.heap.objs.size) {s1 with heap:=s1.heap.push o}:=
   fun ty T o st=>⟨s1.heap.objs.size,[s1.heap.objs.size],_,_,H1,rfl,I1.kept (t':=s1.toks) fun b o e=>Heap.get?_push_of_some _ e,T,st,fun b hb=>by
    have e:b=s1.heap.objs.size:=by simpa using hb
    subst e
    exact I1.fpOk (Nat.le_refl _) (I1.hok.fresh (Nat.le_refl _)),q⟩
  cases ha:z.cps.all (· < 128)
  ·exact wpAny_pyIter_wide ha (fin "str_iterator" (rM _ z t _ (by decide) (fun A' hA=>Walks.strWide hA _ z t) fun A i s Q E st h=>wpAny_pyIter_striter_wide st h) _ ⟨_,Heap.get?_push_size _ rfl,rfl,rfl⟩)
  ·exact wpAny_pyIter_ascii ha (fin "str_ascii_iterator" (rM _ z t _ (by decide) (fun A' hA=>Walks.strAscii hA _ z t) fun A i s Q E st h=>wpAny_pyIter_striter_ascii st h) _ ⟨_,Heap.get?_push_size _ rfl,rfl,rfl⟩)
end
section
variable {X:Cx} {K:W.Frag}
theorem BK (hK:X.K=K):IxR X (JC K):=hK ▸ GP
theorem Hh (hK:X.K=K):OpR X (compareOp .In) (Ha K):=hK ▸ Hb
theorem Hi (hK:X.K=K) (hu:X.A.units < cLine):OpR X (compareOp .Eq) (Hc K):=hK ▸ Hd hu
theorem BL (hK:X.K=K):SlR X (rSl K):=hK ▸ Hf
theorem BP {tg l:Expr} {tl:TE} (hK:X.K=K) (hl:PE X l tl):PI X tg l (BJ K tl):=hK ▸ Hg hl
def yH (K:W.Frag):List V->Hp->VK->Prop:=fun xs H Q=>∃ x n,xs=[x]/\J6 K x H n/\Q (.int n) H
theorem aV (hK:X.K=K):CallR X (.builtin "len") (yH K):=hK ▸ xR
theorem mC (hK:X.K=K):CallR X (.builtin "isinstance") (G8 K):=hK ▸ yC
def yI (K:W.Frag):List V->Hp->VK->Prop:=fun xs H Q=>(∃ p ys,xs=[.ref p]/\(SqL K H p ys\/SqT K H p ys)/\∀ l,H l=none->Q (.ref l) (upd H l (.lst ys)))\/(∃ x,xs=[.str x]/\x.cps.size<=sizeLine/\∀ p,H p=none->Q (.ref p) (upd H p (.lst (sgn x))))
theorem oF (hK:X.K=K) (hc:X.calm=true):CallR X (.type "list") (yI K):=hK ▸ qI.or (rN hc)
variable {o e:Expr} {es:List Expr} {to:TE} {t:TA} {name:Str} {apos cpos:Pos} {T id:String} {r:V->List V->Hp->VK->Prop}
theorem BR (hK:X.K=K) (pa:PlainAttrs T) (slot:Slot T name id) (hty:typeOf (.builtin id)=pure (.type "method_descriptor")) (hm:Ei X id r) (ho:PE X o to)
  (hbase:autoParam (attributeBase o name X.env (eval o X.env)=eval o X.env) L2.auto4._auto_1) (hline:autoParam ((apos.endLine == cpos.line)=true) L2.auto4._auto_1):PE X (.Call (.Attribute o name apos) [] [] cpos) (yj K T r to):=by
 subst hK;exact GQ pa slot hty hm ho hbase hline
theorem Hj (hK:X.K=K) (pa:PlainAttrs T) (slot:Slot T name id) (hty:typeOf (.builtin id)=pure (.type "method_descriptor")) (hm:Ei X id r) (ho:PE X o to) (ha:PA X (e :: es) t)
  (hbase:autoParam (attributeBase o name X.env (eval o X.env)=eval o X.env) L2.auto4._auto_1)
  (hfew:((backTo cpos (starEach (e :: es) X.env)).all (fun x=>!x.1) && (backToKw cpos (keywordEach [] X.env)).all (fun x=>x.1.isSome)
   && decide ((e :: es).length+([]:List Keyword).length+(if ([]:List Keyword).isEmpty then 0 else 1) < 30))=true:=by rfl)
  (hline:autoParam ((apos.endLine == cpos.line)=true) L2.auto4._auto_1) (hs:autoParam (starEach (e :: es) X.env=(false,eval e X.env) :: starEach es X.env) L2.auto4._auto_1) (hplain:autoParam ((backTo cpos (starEach es X.env)).any (·.1)=false) L2.auto4._auto_1):
  PE X (.Call (.Attribute o name apos) (e :: es) [] cpos) (Kg K T r to t):=by
 subst hK;exact Kh pa slot hty hm ho ha hbase hfew hline hs hplain
theorem BV {ts:List Expr} {k:Nat} {gs:tK} {n:Nat} {pos:Pos} (hK:X.K=K) (hc:X.calm=true) (h:Jy X ts gs)
  (hn:autoParam ((assignEach ts X.env).length=n) L2.auto4._auto_1) (hst:autoParam ((assignEach ts X.env).findIdx? (·.1)=none) L2.auto4._auto_1):PG X (.Tuple ts k pos) (Bf K n gs):=by
 subst hK;exact xG hc h hn hst
end
section
variable {X:Cx} {sc scope:Scope} {N':List Str} {C:Addr} {s₀:Shared} {H₀:Hp} {ex:List Addr} {x:Str} {pos:Pos}
theorem pvL (i:Nat) (h:sc.names.lookup x=some .local) (hN:autoParam (X.N[i]?=some x) L2.auto4._auto_1) (hsc:autoParam (X.env.scope=sc) L2.auto4._auto_1) (hd:autoParam ((x == ("__debug__":Str))=false) L2.auto6._auto_1) (hcd:autoParam ((x == ("__classdict__":Str))=false) L2.auto6._auto_1):
  PE X (.Name x pos) (nJ i):=nM hN (.inl (by rw [hsc];exact h)) hd hcd
theorem pvC (i:Nat) (h:sc.names.lookup x=some .cell) (hN:autoParam (X.N[i]?=some x) L2.auto4._auto_1) (hsc:autoParam (X.env.scope=sc) L2.auto4._auto_1) (hd:autoParam ((x == ("__debug__":Str))=false) L2.auto6._auto_1) (hcd:autoParam ((x == ("__classdict__":Str))=false) L2.auto6._auto_1):
  PE X (.Name x pos) (nJ i):=nM hN (.inr (.inl (by rw [hsc];exact h))) hd hcd
theorem pvBL (i:Nat) (h:scope.names.lookup x=some .local) (hN:autoParam (N'[i]?=some x) L2.auto4._auto_1) (hd:autoParam ((x == ("__debug__":Str))=false) L2.auto6._auto_1) (hcd:autoParam ((x == ("__classdict__":Str))=false) L2.auto6._auto_1):
  PE (jW X N' scope C s₀ H₀ ex) (.Name x pos) (nJ i):=nM hN (.inl (lookup_relabel_local h)) hd hcd
theorem pvBF (i:Nat) (h:scope.names.lookup x=some .free) (hN:autoParam (N'[i]?=some x) L2.auto4._auto_1) (hd:autoParam ((x == ("__debug__":Str))=false) L2.auto6._auto_1) (hcd:autoParam ((x == ("__classdict__":Str))=false) L2.auto6._auto_1):
  PE (jW X N' scope C s₀ H₀ ex) (.Name x pos) (nJ i):=nM hN (by
   rcases lA (env:=X.env) h with z | z
   ·exact .inr (.inl z)
   ·exact .inr (.inr z)) hd hcd
theorem cD (h:sc.names.lookup x=some .globalImplicit) (hsc:autoParam (X.env.scope=sc) L2.auto4._auto_1):Gl X x:=by
 show X.env.scope.names.lookup x=_
 rw [hsc];exact h
theorem gC {env:Env}:∀ {names:List (Str×NameKind)} {x:Str},names.lookup x=some .globalImplicit->
  (names.map fun (n,k)=>if (k == NameKind.free && env.scope.kind == .function && env.kindOf n == some .cell) then (n,NameKind.cell) else (n,k)).lookup x=some .globalImplicit
 | [],_,h=>by simp at h
 | (n,k) :: r,x,h=>by
  have ih:=@gC env r x
  show List.lookup x ((if (k == NameKind.free && env.scope.kind == .function && env.kindOf n == some .cell)=true then (n,NameKind.cell) else (n,k)) :: _)=_
  cases hx:x == n with
  | true=>
   simp only [List.lookup_cons,hx] at h
   cases h
   simp [List.lookup_cons,hx]
  | false=>
   simp only [List.lookup_cons,hx] at h
   by_cases hc:(k == NameKind.free && env.scope.kind == .function && env.kindOf n == some .cell)=true
   ·rw [if_pos hc];simp only [List.lookup_cons,hx];exact ih h
   ·rw [if_neg hc];simp only [List.lookup_cons,hx];exact ih h
theorem Kv (h:scope.names.lookup x=some .globalImplicit):Gl (jW X N' scope C s₀ H₀ ex) x:=gC h
theorem pgB (i:Nat) (h:scope.names.lookup x=some .local) (hN:N'.Nodup) (hi:autoParam (N'[i]?=some x) L2.auto4._auto_1):PG (jW X N' scope C s₀ H₀ ex) (.Name x pos) (jZ i):=
 uH hN hi (.inl (lookup_relabel_local h)) (.inr (lookup_relabel_local h))
end
def gP:Expr->Bool
 | .ListComp ..=>false | .SetComp ..=>false | .DictComp ..=>false | _=>true
theorem rP {value:Expr} {target:Option Expr} {line:Nat} {env:Env} (h:gP value=true):swapsWith value target line env=pure false:=by
 cases value <;> first | rfl | cases h
def lC:Expr->Bool
 | .Slice ..=>false | _=>true
theorem pix {b:Expr} (h:lC b=true):uR b:=by
 intro o i
 cases b <;> first | rfl | cases h
def mD:Expr->Bool
 | .Set ..=>false | _=>true
theorem yJ {e:Expr} {env:Env} (h:mD e=true):∀ x,foldedSetIterable e env x=pure x:=by
 intro x
 cases e <;> first | rfl | cases h
def notStar:Expr->Bool
 | .Starred ..=>false | _=>true
theorem bI {e:Expr} {es:List Expr} {env:Env} (h:notStar e=true):starEach (e :: es) env=(false,eval e env) :: starEach es env:=by
 cases e <;> first | rfl | cases h
theorem jx {env:Env} {pos:Pos}:∀ {es:List Expr},es.all notStar=true->(backTo pos (starEach es env)).any (·.1)=false
 | [],_=>rfl
 | e :: es,h=>by
  simp only [List.all_cons,Bool.and_eq_true] at h
  rw [bI h.1]
  show (false || (backTo pos (starEach es env)).any (·.1))=false
  rw [jx h.2];rfl
theorem yK {env:Env} {pos:Pos}:∀ {es:List Expr},es.all notStar=true->(backTo pos (starEach es env)).all (fun x=>!x.1)=true
 | [],_=>rfl
 | e :: es,h=>by
  simp only [List.all_cons,Bool.and_eq_true] at h
  rw [bI h.1]
  show (true && (backTo pos (starEach es env)).all (fun x=>!x.1))=true
  rw [yK h.2];rfl
section
variable {X:Cx} {K:W.Frag} {e:Expr} {es:List Expr} {te:TE} {t:TA} {pos p:Pos}
theorem paC (ha:PE X e te) (hr:PA X es t) (h:autoParam (notStar e=true) L2.auto4._auto_1):PA X (e :: es) (uO te t):=Br ha hr (bI h)
theorem Kw {k:Nat} {x:Str} {ps:List Str} {sp:Sp} (F:ph X.prog X.w X.K X.mg X.base k x ps sp) (hr:Room k X.A) (hg:Gl X x) (ha:PA X (e :: es) t) (hdb:(x == ("__debug__":Str))=false) (h:autoParam ((e :: es).all notStar=true) L2.auto4._auto_1):
  PE X (.Call (.Name x p) (e :: es) [] pos) (pN sp [] E0 t):=by
 simp only [List.all_cons,Bool.and_eq_true] at h
 exact yD F hr hg ha hdb (bI h.1) (jx h.2)
theorem Ky {x:Str} {id:String} {r:List V->Hp->VK->Prop} (hc:CallR X (.builtin id) r) (hg:Gl X x) (hm:X.mg x=none) (hv:bootBuiltins x=some (.builtin id)) (ha:PA X (e :: es) t) (hn:x≠"__name__") (hdb:(x == ("__debug__":Str))=false) (h:autoParam ((e :: es).all notStar=true) L2.auto4._auto_1):
  PE X (.Call (.Name x p) (e :: es) [] pos) (GC r t):=by
 simp only [List.all_cons,Bool.and_eq_true] at h
 exact xX hc hg hm hv ha hn hdb (bI h.1) (jx h.2)
theorem Hk {x:Str} {T:String} {r:List V->Hp->VK->Prop} (hc:CallR X (.type T) r) (hg:Gl X x) (hm:X.mg x=none) (hv:bootBuiltins x=some (.type T)) (ha:PA X (e :: es) t) (hn:x≠"__name__") (hdb:(x == ("__debug__":Str))=false) (h:autoParam ((e :: es).all notStar=true) L2.auto4._auto_1):
  PE X (.Call (.Name x p) (e :: es) [] pos) (GC r t):=by
 simp only [List.all_cons,Bool.and_eq_true] at h
 exact v9 hc hg hm hv ha hn hdb (bI h.1) (jx h.2)
def jN:Expr->Bool
 | .Call ..=>false | _=>true
theorem En {o:Expr} {f:Str} {env:Env} {w:Sem Value} (h:jN o=true):attributeBase o f env w=w:=by
 cases o <;> first | rfl | cases h
theorem Kz {o:Expr} {to:TE} {name:Str} {apos cpos:Pos} {T id:String} {r:V->List V->Hp->VK->Prop} (hK:X.K=K) (pa:PlainAttrs T) (slot:Slot T name id) (hty:typeOf (.builtin id)=pure (.type "method_descriptor")) (hm:Ei X id r) (ho:PE X o to) (ha:PA X (e :: es) t)
  (hbase:autoParam (jN o=true) L2.auto4._auto_1) (hl:autoParam (es.length < 20) L2.auto2._auto_1) (hline:autoParam ((apos.endLine == cpos.line)=true) L2.auto4._auto_1) (h:autoParam ((e :: es).all notStar=true) L2.auto4._auto_1):
  PE X (.Call (.Attribute o name apos) (e :: es) [] cpos) (Kg K T r to t):=by
 have hA:=yK (env:=X.env) (pos:=cpos) h
 simp only [List.all_cons,Bool.and_eq_true] at h
 refine Hj hK pa slot hty hm ho ha (En hbase) ?_ hline (bI h.1) (jx h.2)
 rw [hA]
 have:(e :: es).length+([]:List Keyword).length+(if ([]:List Keyword).isEmpty then 0 else 1) < 30:=by simp;omega
 rw [decide_eq_true this];rfl
theorem Hl {o:Expr} {to:TE} {name:Str} {apos cpos:Pos} {T id:String} {r:V->List V->Hp->VK->Prop} (hK:X.K=K) (pa:PlainAttrs T) (slot:Slot T name id) (hty:typeOf (.builtin id)=pure (.type "method_descriptor")) (hm:Ei X id r) (ho:PE X o to)
  (hbase:autoParam (jN o=true) L2.auto4._auto_1) (hline:autoParam ((apos.endLine == cpos.line)=true) L2.auto4._auto_1):PE X (.Call (.Attribute o name apos) [] [] cpos) (yj K T r to):=
 BR hK pa slot hty hm ho (En hbase) hline
theorem KC {i:Nat} {x:Str} {pos':Pos} (hN:X.N.Nodup) (hi:X.N[i]?=some x) (hx:Loc X.env.scope x) (he:PE X e te) (hf:X.fn x=true) (h:autoParam (gP e=true) L2.auto4._auto_1):PS X (.Assign [.Name x pos'] e pos) (qy te (jZ i)):=
 xJ hN hi hx he (rP h) (.inl hf)
theorem Hm (he:PE X e te) (h:autoParam (gP e=true) L2.auto4._auto_1):PS X (.Expr e pos) (uG te):=Bc he (rP h)
theorem ixE {a b:Expr} {ta tb:TE} (hK:X.K=K) (ha:PE X a ta) (hb:PE X b tb) (h:autoParam (lC b=true) L2.auto4._auto_1):PE X (.Subscript a b pos) (Ar (JC K) ta tb):=J8 (BK hK) ha hb (pix h)
theorem KD {tg iter:Expr} {body:List Stmt} {wi:TI} {g:TG} {tb:TS} (hp:PassesOwn (model X.prog X.w) X.A X.env X.xe) (hc:X.calm=true) (hi:PI X tg iter wi) (hg:PG X tg g) (hb:PSs X body tb) (h:autoParam (mD iter=true) L2.auto4._auto_1):PS X (.For tg iter body [] pos) (Bg wi g tb):=
 Gh hp hc hi hg hb (yJ h)
end
section
variable {X:Cx} {tg iter elt:Expr} {ifs:List Expr} {scope:Scope} {pos:Pos} {N':List Str} {sub:List (Option Nat)} {wi:TI} {g:TG} {tt:TT} {te:TE} {N:List Str} {sc:Scope}
theorem KH (S:mW N sc N' scope sub) (hc:X.calm=true) (hN:X.N=N) (hsc:X.env.scope=sc) (hi:PI X tg iter wi)
  (hg:∀ (C:Addr) (s₀:Shared) (H₀:Hp) (ex:List Addr),PG (jW X N' scope C s₀ H₀ ex) tg g)
  (ht:∀ (C:Addr) (s₀:Shared) (H₀:Hp) (ex:List Addr),qJ (jW X N' scope C s₀ H₀ ex) ifs tt)
  (he:∀ (C:Addr) (s₀:Shared) (H₀:Hp) (ex:List Addr),PE (jW X N' scope C s₀ H₀ ex) elt te) (h:autoParam (mD iter=true) L2.auto4._auto_1):
  PE X (.ListComp elt [⟨tg,iter,ifs,0⟩] scope pos) (oA sub wi g tt te):=uW S hc hN hsc hi hg ht he (yJ h)
end
theorem cM:bootBuiltins "len"=some (.builtin "len"):=by trivial
theorem gj:bootBuiltins "isinstance"=some (.builtin "isinstance"):=by trivial
theorem jO:bootBuiltins "list"=some (.type "list"):=by trivial
theorem yL:bootBuiltins "tuple"=some (.type "tuple"):=by trivial
theorem yM:bootBuiltins "int"=some (.type "int"):=by trivial
theorem qM:bootBuiltins "enumerate"=some (.type "enumerate"):=by trivial
theorem mY:bootBuiltins "reversed"=some (.type "reversed"):=by trivial
theorem BW:bootBuiltins "bool"=some (.type "bool"):=by trivial
theorem pq {c A B:Prop} [Decidable c] (h1:c->A) (h2:¬ c->B):if decide c=true then A else B:=by
 by_cases h:c
 ·rw [if_pos (decide_eq_true h)];exact h1 h
 ·rw [if_neg (by rw [decide_eq_false h];exact Bool.false_ne_true)];exact h2 h
theorem BX {α:Type} {xs:List α} {k:Int} {v:α} (h0:0<=k) (h:xs[k.toNat]?=some v):tL xs k=some v:=by
 have e:((k.toNat:Nat):Int)=k:=by omega
 rw [← e]
 exact cV h
section
variable {U:St} {H:Hp} {D:Ends} {ta tb te tc:TE} {tt tu:TT} {Q:VK} {t u:TS} {g:TG}
theorem j4 (h:t {D with nx:=u D} U H):xn t u D U H:=h
theorem d9 (h:D.nx U H):xm D U H:=h
theorem gQ (h:te U H fun x H1=>g x U H1 D.nx):qy te g D U H:=h
theorem eG {i:Nat} {v:V} {R:St->Hp->Prop} (h:R (U.set i (some v)) H):jZ i v U H R:=h
theorem gR {to ti:TE} {ts:tM} {v:V} {R:St->Hp->Prop} (h:to U H fun o H1=>ti U H1 fun i H2=>ts o i v H2 fun H3=>R U H3):Gf to ti ts v U H R:=h
theorem gU (h:te U H D.rt):Ga te D U H:=h
theorem eN (h:te U H fun _ H1=>D.nx U H1):uG te D U H:=h
theorem lD (h:tt U H fun b H1=>if b=true then t D U H1 else u D U H1):Gd tt t u D U H:=h
theorem eO {R:Bool->Hp->Prop} (h:te U H fun x H1=>∃ k,x= .bl k/\R k H1):xP te U H R:=h
theorem lE {R:Bool->Hp->Prop} (h:te U H fun x H1=>∃ k,x= .bl k/\R k H1):tB te U H R:=h
theorem gW {R:Bool->Hp->Prop} (h:tt U H fun c H1=>R (!c) H1):Fz tt U H R:=h
theorem gY {R:Bool->Hp->Prop} (h:tt U H fun c H1=>if c=true then tu U H1 R else R false H1):Fy tt tu U H R:=h
theorem lF {R:Bool->Hp->Prop} (h:tt U H fun c H1=>if c=true then R true H1 else tu U H1 R):tOr tt tu U H R:=h
theorem eQ (h:ta U H fun x H1=>∃ c,x= .bl c/\if c=true then tb U H1 Q else Q (.bl false) H1):xf ta tb U H Q:=h
theorem gZ (h:ta U H fun x H1=>∃ c,x= .bl c/\if c=true then Q (.bl true) H1 else tb U H1 Q):FQ ta tb U H Q:=h
theorem eU (h:ta U H fun x H1=>∃ c,x= .bl c/\Q (.bl (!c)) H1):xg ta U H Q:=h
theorem g8 (h:tt U H fun c H1=>if c=true then ta U H1 Q else tb U H1 Q):tIf tt ta tb U H Q:=h
theorem ie {i:Nat} {v:V} (e:U[i]?=some (some v)) (h:Q v H):nJ i U H Q:=⟨v,e,h⟩
theorem uY {v:V} (h:Q v H):tC v U H Q:=h
theorem lG {r:R2} (h:ta U H fun x H1=>tb U H1 fun y H2=>r x y H2 Q):Ar r ta tb U H Q:=h
theorem lH {r:V->Hp->VK->Prop} (h:ta U H fun x H1=>r x H1 Q):tUn r ta U H Q:=h
theorem lJ {r:List V->Hp->VK->Prop} {a:TA} (h:a U H fun vs H1=>r vs H1 Q):GC r a U H Q:=h
theorem eV {a:TA} {R:List V->Hp->Prop} (h:te U H fun x H1=>a U H1 fun xs H2=>R (x :: xs) H2):uO te a U H R:=h
theorem ig {R:List V->Hp->Prop} (h:R [] H):Gu U H R:=h
theorem eY {sp:Sp} {E:XK} {a:TA} (h:a U H fun vs H1=>sp vs H1 Q E):pN sp [] E a U H Q:=by
 unfold pN
 simpa only [List.append_nil] using h
theorem Eo {a:TA} (h:a U H fun xs H1=>xs.length<=sizeLine/\∀ p,H1 p=none->Q (.ref p) (upd H1 p (.tup xs))):Bs a U H Q:=h
theorem lK {K:W.Frag} {T:String} {r:V->List V->Hp->VK->Prop} {a:TA} (h:te U H fun x H1=>Kf K T x H1/\a U H1 fun xs H2=>r x xs H2 Q):Kg K T r te a U H Q:=h
theorem ik {K:W.Frag} {T:String} {r:V->List V->Hp->VK->Prop} (h:te U H fun x H1=>Kf K T x H1/\r x [] H1 Q):yj K T r te U H Q:=h
theorem lL {r:V->Option Int->Option Int->Hp->VK->Prop} {tl th:TO} (h:te U H fun x H1=>tl U H1 fun l H2=>th U H2 fun u H3=>r x l u H3 Q):tSl r te tl th U H Q:=h
theorem il {R:Option Int->Hp->Prop} (h:R none H):qz U H R:=h
theorem eZ {R:Option Int->Hp->Prop} (h:te U H fun x H1=>∃ i,x= .int i/\R (some i) H1):yd te U H R:=h
theorem fc {R:Bool->Hp->Prop} (h:R true H):yr U H R:=h
theorem fj {a:TA} {R:It->Hp->Prop} (h:a U H fun vs H1=>∃ j:Int,vs=[.int j]/\-(2 ^ 62)<=j/\j < 2 ^ 62/\R (w5 0 j.toNat) H1):xK a U H R:=h
theorem fu {a:TA} {R:It->Hp->Prop} (h:a U H fun vs H1=>∃ i j:Int,vs=[.int i,.int j]/\(-(2 ^ 62)<=i/\i < 2 ^ 62/\-(2 ^ 62)<=j/\j < 2 ^ 62)/\R (w5 i (j - i).toNat) H1):xM a U H R:=h
theorem fB {K:W.Frag} {R:It->Hp->Prop} (h:te U H fun x H1=>(∃ a,x= .ref a/\(∃ xs,SqL K H1 a xs)/\R (Eh K a) H1)\/(∃ a,x= .ref a/\(∃ xs,SqT K H1 a xs)/\R (Jz K a) H1)\/(∃ z,x= .str z/\R (Ni z) H1)):BJ K te U H R:=h
theorem fG {sub:List (Option Nat)} {wi:TI} (h:wi U H fun J H1=>mX sub g tt te U Q J H1):oA sub wi g tt te U H Q:=h
theorem ir {wi:TI} {tbd:TS} (h:wi U H fun J H1=>∃ W:Nat->Nat->St->Hp->Prop,(∃ m,W 0 m U H1)/\∀ i m U H,W i m U H->
 (J.stop i H/\D.nx U H)\/(J.go i H/\∃ N:St->Hp->Prop,(∀ U' H',N U' H'->∃ m',m' < m/\W (i+1) m' U' H')/\∀ x H',J.yld i H x H'->g x U H' fun σ2 H2=>tbd {D with nx:=N,ct:=N,bk:=D.nx} σ2 H2)):Bg wi g tbd D U H:=h
variable {i j:Int} {x y:Str} {f:Int->Int->V} {C:Int->Int->Prop} {K:W.Frag}
theorem lM (h:Q (f i j) H):Bj f (.int i) (.int j) H Q:=⟨_,_,rfl,rfl,h⟩
theorem uZ (c:C i j) (h:Q (f i j) H):rI C f (.int i) (.int j) H Q:=⟨_,_,rfl,rfl,c,h⟩
theorem fH (h:Q (.int (i+j)) H):yE (.int i) (.int j) H Q:=.inl ⟨_,_,rfl,rfl,h⟩
theorem Hn {a b:Addr} {xs ys:List V} (ha:H a=some (.lst xs)) (hb:H b=some (.lst ys)) (c:xs.length+ys.length<=sizeLine) (h:∀ p,H p=none->Q (.ref p) (upd H p (.lst (xs ++ ys)))):yE (.ref a) (.ref b) H Q:=
 .inr (.inr ⟨a,b,xs,ys,rfl,rfl,ha,hb,c,h⟩)
theorem fJ (c:CMul i j) (h:Q (.int (i*j)) H):yF (.int i) (.int j) H Q:=.inl ⟨_,_,rfl,rfl,c,h⟩
theorem bw {p:Addr} {xs:List V} {v:V} (s:SqL K H p xs) (e:tL xs i=some v) (h:Q v H):JC K (.ref p) (.int i) H Q:=.inl ⟨p,xs,i,v,rfl,rfl,s,e,h⟩
theorem iu {p:Addr} {xs:List V} {v:V} (s:SqT K H p xs) (e:tL xs i=some v) (h:Q v H):JC K (.ref p) (.int i) H Q:=.inr (.inl ⟨p,xs,i,v,rfl,rfl,s,e,h⟩)
theorem dU {p:Addr} {xs:List V} {n:Nat} {v:V} {R:Hp->Prop} (hp:H p=some (.lst xs)) (e:wg xs.length i=some n) (h:R (upd H p (.lst (xs.set n v)))):yf (.ref p) (.int i) v H R:=⟨p,xs,i,n,rfl,rfl,hp,e,h⟩
theorem lN {b:Bool} {R:Bool->Prop} (h:R b):∃ k,V.bl b= .bl k/\R k:=⟨b,rfl,h⟩
theorem fK {n:Int} {R:Int->Prop} (h:R n):∃ k,V.int n= .int k/\R k:=⟨n,rfl,h⟩
end
theorem Same.upd {H H':Hp} {p:Addr} {o:HO} (s:Same H H') (hn:H' p=none):Same H (upd H' p o):=fun b u e=>by
 have q:=s b u e
 rw [aA (fun z=>by rw [z,hn] at q;cases q)]
 exact q
def Chg (p:Addr) (H H':Hp):Prop:=∀ b o,b≠p->H b=some o->H' b=some o
theorem Chg.refl (p:Addr) (H:Hp):Chg p H H:=fun _ _ _ e=>e
theorem nj {H:Hp} {q b:Addr} {o u:HO} (hq:H q=none) (hb:H b=some u):upd H q o b=some u:=by
 rw [aA (fun z=>by rw [z,hq] at hb;cases hb)];exact hb
theorem KJ {vs:List V} {d:Int} (h0:0<=d) (h1:d < vs.length):∃ v,v∈vs/\tL vs d=some v:=by
 have hl:d.toNat < vs.length:=by omega
 exact ⟨vs[d.toNat],List.getElem_mem hl,BX h0 (List.getElem?_eq_getElem hl)⟩
section
variable {H:Hp} {Q:VK} {K:W.Frag}
theorem cT {p:Addr} {xs:List V} (s:SqL K H p xs) (h:Q (.int xs.length) H):yH K [V.ref p] H Q:=⟨_,_,rfl,.inl ⟨_,s,rfl⟩,h⟩
theorem qN {p:Addr} {xs:List V} (s:SqT K H p xs) (h:Q (.int xs.length) H):yH K [V.ref p] H Q:=⟨_,_,rfl,.inr ⟨_,s,rfl⟩,h⟩
theorem lO {i j:Int} {R:Int->Int->Prop} (h:R i j):∃ a b,[V.int i,V.int j]=[.int a,.int b]/\R a b:=⟨_,_,rfl,h⟩
theorem p8 {x:V} {T:String} {t:Value} {b:Bool} (ty:TyOf K H x t) (e:PySem.W.kitOne K t (.type T)=some b) (h:Q (.bl b) H):G8 K [x,.ty T] H Q:=⟨x,T,t,b,rfl,ty,e,h⟩
theorem KN {p:Addr} {xs:List V} {lo hi:Option Int} (s:SqL K H p xs) (h:∀ q,H q=none->Q (.ref q) (upd H q (.lst (qC xs lo hi)))):rSl K (.ref p) lo hi H Q:=.inl ⟨p,xs,rfl,s,h⟩
end
section
variable {U:St} {H:Hp} {Q:VK}
theorem BZ {K:W.Frag} {a:Addr} {xs:List V} (s:SqL K H a xs) (h:∀ p,H p=none->Q (.ref p) (upd H p (.lst xs))):yI K [.ref a] H Q:=.inl ⟨a,xs,rfl,.inl s,h⟩
end
theorem TyOf.mono {K:W.Frag} {H H':Hp} {v:V} {T:String} (h:TyOf K H v (.type T)) (s:∀ b o,H b=some o->v= .ref b->H' b=some o):TyOf K H' v (.type T):=by
 generalize e:(Value.type T)=t at h
 cases h with
 | non=>exact .non
 | bl x=>exact .bl x
 | int i=>exact .int i
 | str x=>exact .str x
 | flt x=>exact .flt x
 | lst z=>exact .lst (s _ _ z rfl)
 | frz z=>exact .frz (s _ _ z rfl)
 | tup z=>exact .tup (s _ _ z rfl)
 | dK z=>exact .dK (s _ _ z rfl)
 | dT z=>exact .dT (s _ _ z rfl)
 | ins=>cases e
theorem yN {sub:List (Option Nat)} {g:TG} {tt:TT} {te:TE} {U:St} {Q:VK} {H:Hp} {lo:Int} {n:Nat} (Pv:Nat->List V->Hp->Prop) (hn:n<=sizeLine) (h0:Pv 0 [] H) (hl:∀ i ys H,Pv i ys H->ys.length<=i)
  (hs:∀ i ys H,i < n->Pv i ys H->g (.int (lo+i)) (cC sub U) H fun σ2 H2=>KeepSt (cC sub U) σ2/\tt σ2 H2 fun b H3=>if b=true then te σ2 H3 fun y H4=>Pv (i+1) (ys ++ [y]) H4 else Pv (i+1) ys H3)
  (hd:∀ ys H,Pv n ys H->∀ D,H D=none->Q (.ref D) (upd H D (.lst ys))):mX sub g tt te U Q (w5 lo n) H:=
 qL (n:=n) Pv hn h0 hl (fun i ys H hi _=>hi) (fun ys H _=>Nat.le_refl _) (fun i ys H x H' hi p y=>by
  obtain ⟨e1,e2⟩:=y
  subst e1 e2
  exact hs i ys _ hi p) hd
theorem wC {sub:List (Option Nat)} {g:TG} {tt:TT} {te:TE} {U:St} {Q:VK} {H:Hp} {K:W.Frag} {a:Addr} {xs:List V} (Pv:Nat->List V->Hp->Prop) (hn:xs.length<=sizeLine) (h0:Pv 0 [] H) (hl:∀ i ys H,Pv i ys H->ys.length<=i)
  (hq:∀ i ys H,Pv i ys H->SqL K H a xs)
  (hs:∀ i ys H x,xs[i]?=some x->Pv i ys H->g x (cC sub U) H fun σ2 H2=>KeepSt (cC sub U) σ2/\tt σ2 H2 fun b H3=>if b=true then te σ2 H3 fun y H4=>Pv (i+1) (ys ++ [y]) H4 else Pv (i+1) ys H3)
  (hd:∀ ys H,Pv xs.length ys H->∀ D,H D=none->Q (.ref D) (upd H D (.lst ys))):mX sub g tt te U Q (Eh K a) H:=
 qL (n:=xs.length) Pv hn h0 hl (fun i ys H hi p=>⟨xs,xs[i],hq i ys H p,List.getElem?_eq_getElem hi⟩) (fun ys H p=>⟨xs,hq _ ys H p,Nat.le_refl _⟩) (fun i ys H x H' hi p y=>by
  obtain ⟨e1,e2⟩:=y
  subst e1
  exact hs i ys _ x (e2 xs (hq i ys _ p)) p) hd
structure JE (X:Cx) (e:Expr) (t:TE):Prop where
 run:PE X e t
structure JT (X:Cx) (e:Expr) (t:TT):Prop where
 run:PT X e t
structure JW (X:Cx) (e:Expr) (t:TT):Prop where
 run:PW X e t
structure JA (X:Cx) (es:List Expr) (t:TA):Prop where
 run:PA X es t
structure JS (X:Cx) (s:Stmt) (t:TS):Prop where
 run:PS X s t
structure JB (X:Cx) (s:List Stmt) (t:TS):Prop where
 run:PSs X s t
structure JI (X:Cx) (tg iter:Expr) (t:TI):Prop where
 run:PI X tg iter t
structure JG (X:Cx) (tg:Expr) (t:TG):Prop where
 run:PG X tg t
structure KQ (X:Cx) (tg:List Expr) (t:tK):Prop where
 run:Jy X tg t
structure JO (X:Cx) (e:Option Expr) (t:TO):Prop where
 run:PO X e t
structure Ca (X:Cx) (ifs:List Expr) (t:TT):Prop where
 run:qJ X ifs t
section
variable {X:Cx} {K:W.Frag} {sc scope:Scope} {N':List Str} {C:Addr} {s₀:Shared} {H₀:Hp} {ex:List Addr} {x:Str} {pos p p2 pos' apos cpos tpos:Pos} {a b c e o:Expr} {es:List Expr} {ta tb tc te to ti:TE} {t:TA} {tA tB' tt:TT} {rest:List Expr}
theorem au (i:Nat) (h:sc.names.lookup x=some .local) (hN:autoParam (X.N[i]?=some x) L2.auto4._auto_1) (hsc:autoParam (X.env.scope=sc) L2.auto4._auto_1) (hd:autoParam ((x == ("__debug__":Str))=false) L2.auto6._auto_1) (hcd:autoParam ((x == ("__classdict__":Str))=false) L2.auto6._auto_1):JE X (.Name x pos) (nJ i):=⟨pvL i h hN hsc hd hcd⟩
theorem gD (i:Nat) (h:sc.names.lookup x=some .cell) (hN:autoParam (X.N[i]?=some x) L2.auto4._auto_1) (hsc:autoParam (X.env.scope=sc) L2.auto4._auto_1) (hd:autoParam ((x == ("__debug__":Str))=false) L2.auto6._auto_1) (hcd:autoParam ((x == ("__classdict__":Str))=false) L2.auto6._auto_1):JE X (.Name x pos) (nJ i):=⟨pvC i h hN hsc hd hcd⟩
theorem cF (i:Nat) (h:scope.names.lookup x=some .local) (hN:autoParam (N'[i]?=some x) L2.auto4._auto_1) (hd:autoParam ((x == ("__debug__":Str))=false) L2.auto6._auto_1) (hcd:autoParam ((x == ("__classdict__":Str))=false) L2.auto6._auto_1):JE (jW X N' scope C s₀ H₀ ex) (.Name x pos) (nJ i):=⟨pvBL i h hN hd hcd⟩
theorem cW (i:Nat) (h:scope.names.lookup x=some .free) (hN:autoParam (N'[i]?=some x) L2.auto4._auto_1) (hd:autoParam ((x == ("__debug__":Str))=false) L2.auto6._auto_1) (hcd:autoParam ((x == ("__classdict__":Str))=false) L2.auto6._auto_1):JE (jW X N' scope C s₀ H₀ ex) (.Name x pos) (nJ i):=⟨pvBF i h hN hd hcd⟩
theorem aB {i j}:JE X (.Constant (.int i) j pos) (tC (.int i)):=⟨Fv⟩
theorem pA {i j}:JE X (.Constant (.bool i) j pos) (tC (.bl i)):=⟨JM⟩
theorem u0 {j}:JE X (.Constant .none j pos) (tC .non):=⟨Fw⟩
theorem yO {z:Int} (hg:Gl X x) (hm:∃ t,X.mg x=some (.int z t)) (hd:(x == ("__debug__":Str))=false):JE X (.Name x pos) (tC (.int z)):=⟨yG hg hm hd⟩
theorem yP {T:String} (hg:Gl X x) (hm:X.mg x=none) (hv:bootBuiltins x=some (.type T)) (hn:x≠"__name__") (hd:(x == ("__debug__":Str))=false):JE X (.Name x pos) (tC (.ty T)):=⟨Ku hg hm hv hn hd⟩
theorem aN {op:Operator} {r:R2} (ho:OpR X (binaryOp op) r) (ha:JE X a ta) (hb:JE X b tb):JE X (.BinOp a op b pos) (Ar r ta tb):=⟨JR ho ha.run hb.run⟩
theorem rQ {op:UnaryOp} {r:V->Hp->VK->Prop} (ho:Nf X (unaryOp op) r) (ha:JE X a ta):JE X (.UnaryOp op a pos) (tUn r ta):=⟨JV ho ha.run⟩
theorem rR {op:CmpOp} {r:R2} (ho:OpR X (compareOp op) r) (ha:JE X a ta) (hb:JE X b tb) (hm:behindInMarks op b=false):JE X (.Compare a [op] [b] pos) (Ar r ta tb):=⟨Bl ho ha.run hb.run hm⟩
theorem bT {op:CmpOp} {r:R2} (ho:OpR X (compareOp op) r) (ha:JE X a ta) (hb:JE X b tb) (hm:behindInMarks op b=false):JT X (.Compare a [op] [b] pos) (xP (Ar r ta tb)):=⟨Bm ho ha.run hb.run hm⟩
theorem u5 (ha:JT X a tA):JW X (.BoolOp .And [a] pos) tA:=⟨Az ha.run⟩
theorem qO (ha:JT X a tA):JW X (.BoolOp .Or [a] pos) tA:=⟨FJ ha.run⟩
theorem yQ (ha:JT X a tA) (hb:JW X (.BoolOp .And (b :: rest) pos) tB'):JW X (.BoolOp .And (a :: b :: rest) pos) (Fy tA tB'):=⟨FN ha.run hb.run⟩
theorem u6 (ha:JT X a tA) (hb:JW X (.BoolOp .Or (b :: rest) pos) tB'):JW X (.BoolOp .Or (a :: b :: rest) pos) (tOr tA tB'):=⟨JN ha.run hb.run⟩
theorem qb (h:JW X e tt):JT X e tt:=⟨h.run.pt⟩
theorem kh (ha:JT X a tA):JT X (.UnaryOp .Not a pos) (Fz tA):=⟨FP ha.run⟩
def plainT:Expr->Bool
 | .BoolOp ..=>false | .UnaryOp ..=>false | .Compare ..=>false | .IfExp ..=>false | _=>true
theorem jh (h:JE X e te) (hp:autoParam (plainT e=true) L2.auto4._auto_1):JT X e (tB te):=⟨Fx h.run (by
 intro whole
 cases e <;> first | rfl | cases hp)⟩
theorem u9 {op} (h:JE X a te):JE X (.BoolOp op [a] pos) te:=⟨FT h.run⟩
theorem Ep (ha:JE X a ta) (hb:JE X (.BoolOp .And (b :: rest) pos) tb):JE X (.BoolOp .And (a :: b :: rest) pos) (xf ta tb):=⟨FW ha.run hb.run⟩
theorem KR (ha:JE X a ta) (hb:JE X (.BoolOp .Or (b :: rest) pos) tb):JE X (.BoolOp .Or (a :: b :: rest) pos) (FQ ta tb):=⟨JP ha.run hb.run⟩
theorem KY (ha:JE X a ta):JE X (.UnaryOp .Not a pos) (xg ta):=⟨FZ ha.run⟩
theorem j_if (hc:JT X c tA) (ha:JE X a ta) (hb:JE X b tb):JE X (.IfExp c a b pos) (tIf tA ta tb):=⟨xj hc.run ha.run hb.run⟩
theorem qd {x1} (h:JA X es t):JE X (.Tuple es x1 pos) (Bs t):=⟨Gx h.run⟩
theorem jy (h:JA X es t):JE X (.List es pos) (Gw t):=⟨Gy h.run⟩
theorem ao:JA X [] Gu:=⟨Gv⟩
theorem aa (ha:JE X e te) (hr:JA X es t) (h:autoParam (notStar e=true) L2.auto4._auto_1):JA X (e :: es) (uO te t):=⟨paC ha.run hr.run h⟩
theorem ji:JO X none qz:=⟨Bu⟩
theorem nq (h:JE X e te):JO X (some e) (yd te):=⟨Bv h.run⟩
theorem Cd {r:V->Option Int->Option Int->Hp->VK->Prop} {lo hi:Option Expr} {tl th:TO} (hr:SlR X r) (he:JE X e te) (hl:JO X lo tl) (hu:JO X hi th):JE X (.Subscript e (.Slice lo hi none p2) pos) (tSl r te tl th):=⟨ye hr he.run hl.run hu.run⟩
theorem dJ (hK:X.K=K) (ha:JE X a ta) (hb:JE X b tb) (h:autoParam (lC b=true) L2.auto4._auto_1):JE X (.Subscript a b pos) (Ar (JC K) ta tb):=⟨ixE hK ha.run hb.run h⟩
theorem bC {k:Nat} {ps:List Str} {sp:Sp} (F:ph X.prog X.w X.K X.mg X.base k x ps sp) (hr:Room k X.A) (hg:Gl X x) (ha:JA X (e :: es) t) (hdb:(x == ("__debug__":Str))=false) (h:autoParam ((e :: es).all notStar=true) L2.auto4._auto_1):
  JE X (.Call (.Name x p) (e :: es) [] pos) (pN sp [] E0 t):=⟨Kw F hr hg ha.run hdb h⟩
theorem bD {id:String} {r:List V->Hp->VK->Prop} (hc:CallR X (.builtin id) r) (hg:Gl X x) (hm:X.mg x=none) (hv:bootBuiltins x=some (.builtin id)) (ha:JA X (e :: es) t) (hn:x≠"__name__") (hdb:(x == ("__debug__":Str))=false) (h:autoParam ((e :: es).all notStar=true) L2.auto4._auto_1):
  JE X (.Call (.Name x p) (e :: es) [] pos) (GC r t):=⟨Ky hc hg hm hv ha.run hn hdb h⟩
theorem oG {T:String} {r:List V->Hp->VK->Prop} (hc:CallR X (.type T) r) (hg:Gl X x) (hm:X.mg x=none) (hv:bootBuiltins x=some (.type T)) (ha:JA X (e :: es) t) (hn:x≠"__name__") (hdb:(x == ("__debug__":Str))=false) (h:autoParam ((e :: es).all notStar=true) L2.auto4._auto_1):
  JE X (.Call (.Name x p) (e :: es) [] pos) (GC r t):=⟨Hk hc hg hm hv ha.run hn hdb h⟩
theorem jj {name:Str} {T id:String} {r:V->List V->Hp->VK->Prop} (hK:X.K=K) (pa:PlainAttrs T) (slot:Slot T name id) (hty:typeOf (.builtin id)=pure (.type "method_descriptor")) (hm:Ei X id r) (ho:JE X o to) (ha:JA X (e :: es) t)
  (hbase:autoParam (jN o=true) L2.auto4._auto_1) (hl:autoParam (es.length < 20) L2.auto2._auto_1) (hline:autoParam ((apos.endLine == cpos.line)=true) L2.auto4._auto_1) (h:autoParam ((e :: es).all notStar=true) L2.auto4._auto_1):JE X (.Call (.Attribute o name apos) (e :: es) [] cpos) (Kg K T r to t):=⟨Kz hK pa slot hty hm ho.run ha.run hbase hl hline h⟩
theorem vd {name:Str} {T id:String} {r:V->List V->Hp->VK->Prop} (hK:X.K=K) (pa:PlainAttrs T) (slot:Slot T name id) (hty:typeOf (.builtin id)=pure (.type "method_descriptor")) (hm:Ei X id r) (ho:JE X o to)
  (hbase:autoParam (jN o=true) L2.auto4._auto_1) (hline:autoParam ((apos.endLine == cpos.line)=true) L2.auto4._auto_1):JE X (.Call (.Attribute o name apos) [] [] cpos) (yj K T r to):=⟨Hl hK pa slot hty hm ho.run hbase hline⟩
theorem gk:Ca X [] yr:=⟨yt⟩
theorem nu (hc:JT X c tt):Ca X [c] tt:=⟨yu hc.run⟩
variable {tg iter elt:Expr} {ifs:List Expr} {sub:List (Option Nat)} {wi:TI} {g:TG} {N:List Str}
theorem cQ {ta:TA} (hg:Gl X "range") (hm:X.mg "range"=none) (ha:JA X [a] ta) (h:autoParam (notStar a=true) L2.auto4._auto_1):JI X tg (.Call (.Name "range" p) [a] [] pos) (xK ta):=⟨vY hg hm ha.run (bI h)⟩
theorem jP {ta:TA} (hg:Gl X "range") (hm:X.mg "range"=none) (ha:JA X [a,b] ta) (h:autoParam (notStar a=true) L2.auto4._auto_1) (h2:autoParam (notStar b=true) L2.auto4._auto_1):JI X tg (.Call (.Name "range" p) [a,b] [] pos) (xM ta):=⟨vZ hg hm ha.run (by rw [bI h,bI h2];rfl) (by rw [bI h2];rfl)⟩
theorem mF (hK:X.K=K) (hl:JE X e te):JI X tg e (BJ K te):=⟨BP hK hl.run⟩
theorem cj {i:Nat} (hN:X.N.Nodup) (hi:X.N[i]?=some x) (hx:Loc X.env.scope x) (hf:X.fn x=true):JG X (.Name x pos) (jZ i):=⟨uH hN hi hx (.inl hf)⟩
theorem jz (i:Nat) (h:scope.names.lookup x=some .local) (hN:N'.Nodup) (hi:autoParam (N'[i]?=some x) L2.auto4._auto_1):JG (jW X N' scope C s₀ H₀ ex) (.Name x pos) (jZ i):=⟨pgB i h hN hi⟩
theorem lQ:KQ X [] Ge:=⟨Be⟩
theorem cO {gs:tK} (h1:JG X e g) (h2:KQ X es gs) (hs:autoParam ((assignEach (e :: es) X.env).map (·.2)=assign e X.env :: (assignEach es X.env).map (·.2)) L2.auto4._auto_1):KQ X (e :: es) (xx g gs):=⟨xF h1.run h2.run hs⟩
theorem qP {ts:List Expr} {k:Nat} {gs:tK} {n:Nat} (hK:X.K=K) (hc:X.calm=true) (h:KQ X ts gs) (hn:autoParam ((assignEach ts X.env).length=n) L2.auto4._auto_1) (hst:autoParam ((assignEach ts X.env).findIdx? (·.1)=none) L2.auto4._auto_1):JG X (.Tuple ts k pos) (Bf K n gs):=⟨BV hK hc h.run hn hst⟩
theorem yR {ts:tM} (ho:JE X a ta) (hi:JE X b tb) (hs:Bd X ts) (h:autoParam (lC b=true) L2.auto4._auto_1):JG X (.Subscript a b pos) (Gf ta tb ts):=⟨Gg ho.run hi.run hs (by
 intro v
 cases b <;> first | rfl | cases h)⟩
theorem jA (S:mW N sc N' scope sub) (hc:X.calm=true) (hN:X.N=N) (hsc:X.env.scope=sc) (hi:JI X tg iter wi)
  (hg:∀ (C:Addr) (s₀:Shared) (H₀:Hp) (ex:List Addr),JG (jW X N' scope C s₀ H₀ ex) tg g)
  (ht:∀ (C:Addr) (s₀:Shared) (H₀:Hp) (ex:List Addr),Ca (jW X N' scope C s₀ H₀ ex) ifs tt)
  (he:∀ (C:Addr) (s₀:Shared) (H₀:Hp) (ex:List Addr),JE (jW X N' scope C s₀ H₀ ex) elt te) (h:autoParam (mD iter=true) L2.auto4._auto_1):
  JE X (.ListComp elt [⟨tg,iter,ifs,0⟩] scope pos) (oA sub wi g tt te):=⟨KH S hc hN hsc hi.run (fun C s₀ H₀ ex=>(hg C s₀ H₀ ex).run) (fun C s₀ H₀ ex=>(ht C s₀ H₀ ex).run) (fun C s₀ H₀ ex=>(he C s₀ H₀ ex).run) h⟩
variable {st:Stmt} {sts:List Stmt} {u v:TS}
theorem aL {i:Nat} (hN:X.N.Nodup) (hi:X.N[i]?=some x) (hx:Loc X.env.scope x) (he:JE X e te) (hf:X.fn x=true) (h:autoParam (gP e=true) L2.auto4._auto_1):JS X (.Assign [.Name x pos'] e pos) (qy te (jZ i)):=⟨KC hN hi hx he.run hf h⟩
theorem vf {ts:tM} (he:JE X e te) (hg:JG X (.Subscript a b pos') g) (h:autoParam (gP e=true) L2.auto4._auto_1):JS X (.Assign [.Subscript a b pos'] e pos) (qy te g):=⟨xH he.run hg.run (by show swapsWith e (some (.Subscript a b pos')) pos.line X.env=pure false;exact rP h) (by cases e <;> rfl) rfl⟩
theorem aW (he:JE X e te):JS X (.Return (some e) pos) (Ga te):=⟨Gb he.run⟩
theorem bW (he:JE X e te) (h:autoParam (gP e=true) L2.auto4._auto_1):JS X (.Expr e pos) (uG te):=⟨Hm he.run h⟩
theorem dM {sa sb:List Stmt} (hc:JT X c tt) (ha:JB X sa u) (hb:JB X sb v):JS X (.If c sa sb pos) (Gd tt u v):=⟨JQ hc.run ha.run hb.run⟩
theorem gn {body:List Stmt} (hp:PassesOwn (model X.prog X.w) X.A X.env X.xe) (hc:X.calm=true) (hi:JI X tg iter wi) (hg:JG X tg g) (hb:JB X body u) (h:autoParam (mD iter=true) L2.auto4._auto_1):JS X (.For tg iter body [] pos) (Bg wi g u):=⟨KD hp hc hi.run hg.run hb.run h⟩
theorem rT:JS X (.Continue pos) Eg:=⟨rB⟩
theorem rW:JS X st xr:=⟨xu⟩
theorem dq:JB X [] xm:=⟨Ba⟩
theorem aD (h:JS X st u):JB X [st] u:=⟨Bb h.run⟩
theorem az (h:JS X st u) (h2:JB X sts v):JB X (st :: sts) (xn u v):=⟨xq h.run h2.run⟩
end
section
variable {P:Program} {w:World} {K:W.Frag} {mg:Str->Option Value} {base:Heap}
theorem jX {x:Str} {st:Stmt} {N ps:List Str} {k:Nat} {sp:Sp} (D:jo K mg x st) (S:aG N ps (aq st))
  (hb:∀ (kV doc pm:Value) (an:Option Addr) (cdv ct:Value) (us:List Value),us.length=ps.length->bindArgs (PySem.W.fnOf x x (dD st) (bK st) (aq st) .none kV doc pm an cdv ct) ⟨us,[]⟩=pure (ps.zip us))
  (len:∀ vs H Q E,sp vs H Q E->vs.length=ps.length)
  (hbody:∀ (f:Addr) (cdv:Value) (A:Around) (outer:List Env) (s:Shared) (H:Hp) (vs:List V) (Q:VK) (E:XK),Room k (A.deeper (envOfC x (aq st) s.heap.objs.size f cdv))->sp vs H Q E->
   ∃ t,JB (jw uV P w K mg base N x (aq st) f cdv A outer s H E).nox (bK st) t/\t {nx:=fun _ H'=>Q .non H',rt:=Q} (start N vs) H):ph P w K mg base (k+1) x ps sp:=
 G9 D S hb len fun f cdv A outer s H vs Q E hr h=>let ⟨t,j,q⟩:=hbody f cdv A outer s H vs Q E hr h;⟨t,j.run,q⟩
theorem okJ {x:Str} {st:Stmt} {N ps:List Str} {k:Nat} {sp:Sp} {f:Addr} {fd:FuncData} (F:Fun K x x st f fd) (S:aG N ps (aq st)) (len:∀ vs H Q E,sp vs H Q E->vs.length=ps.length)
  (hbody:∀ (f:Addr) (cdv:Value) (A:Around) (outer:List Env) (s:Shared) (H:Hp) (vs:List V) (Q:VK) (E:XK),Room k (A.deeper (envOfC x (aq st) s.heap.objs.size f cdv))->sp vs H Q E->
   ∃ t,JB (jw uV P w K mg base N x (aq st) f cdv A outer s H E).nox (bK st) t/\t {nx:=fun _ H'=>Q .non H',rt:=Q} (start N vs) H):nQ P w K mg base uV (k+1) f fd ps sp:=
 F.ok S len fun cdv A outer s H vs Q E hr h=>let ⟨t,j,q⟩:=hbody f cdv A outer s H vs Q E hr h;⟨t,j.run,q⟩
end
theorem yS {K:W.Frag} {mg:Str->Option Value} {h:Heap} (X:K.In h) (G:h.Ns mainGlobals mg) {x:Str} {v:Value} {f:Tok->Value} (a:PySem.W.nsIn K mainGlobals x=some (some v)) (e:∃ t,v=f t):∃ t,mg x=some (f t):=by
 obtain ⟨t,rfl⟩:=e
 exact ⟨t,PySem.W.mg_of X G a⟩
def Nj (xs:Nat->List V) (n:Nat):It:=⟨fun i _=>i < n,fun i H v H'=>∃ T,H T=none/\v= .ref T/\H'=upd H T (.tup (xs i)),fun i _=>i=n⟩
theorem Ho {P:Program} {w:World} {K:W.Frag} {elts:List Expr} {k:Nat} {pos:Pos} {it:Addr} {fp wr:List Addr} {n:Nat} {xs:Nat->List V} {Pt:Nat->Array Value->Prop} {St:Nat->Heap->Prop} {Mid:Nat->Addr->Heap->Prop}
  (W:∀ A:Around,A.handled=none->WalksT P w A it fp wr n Pt St Mid) (hxs:∀ i,(xs i).length<=sizeLine) (hPt:∀ i vals,Pt i vals->Vals (xs i) vals.toList) (hmem:it∈fp)
  (hobj:∀ i h,St i h->∀ b∈fp,∃ o,h.get? b=some o/\∀ v,o.data≠.cell v)
  (hself:∀ (A:Around) (i:Nat) (s:Shared) (Q:Value->Shared->Prop) (E:Value->Shared->Prop),St i s.heap->Q (.ref it) s->wpAny (model P w) A (pyIter (.ref it)) Q E s):
  Turn P w K (.Tuple elts k pos) (Nj xs n) fp it St where
 mem:=hmem
 obj:=hobj
 keep:=fun i h h' st kk=>(W {} rfl).frame i h h' st kk
 item:=by
  intro X hP hw hK hc i pins s U H E I hf st hg
  subst hP hw hK
  have W':=W X.A (I.ok.hd hc)
  refine W'.item i s _ _ hg st fun T vals h' tk hPv hT isT mid kk=>?_
  refine ⟨.ref T,rfl,W'.go elts k pos i T _ _ _ mid fun h'' st'' kk2=>?_⟩
  have hTn:H T=none:=I.hok.fresh hT
  have hTw:T ∉ wr:=W'.apart i T h' mid
  have kall:∀ b o,b ∉ wr->s.heap.get? b=some o->h''.get? b=some o:=fun b o hb e=>kk2 b o hb (kk b o hb e)
  have nT:∀ b o,s.heap.get? b=some o->b≠T:=fun b o e=>Nat.ne_of_lt (Nat.lt_of_lt_of_le (Heap.lt_size e) hT)
  have nTH:∀ b u,H b=some u->b≠T:=fun b u e z=>by rw [z,hTn] at e;cases e
  have nW:∀ b u,H b=some u->b ∉ wr:=fun b u e hb=>by rw [(hf b (W'.sub b hb)).1] at e;cases e
  have isT':h''.IsTuple T vals:=by
   obtain ⟨o,ho,r⟩:=isT
   exact ⟨o,kk2 T o hTw ho,r⟩
  have hlT:∃ o,h''.get? T=some o:=let ⟨o,ho,_⟩:=isT';⟨o,ho⟩
  have I':Inv X pins U (upd H T (.tup (xs i))) {s with heap:=h'',toks:=tk}:=by
   refine I.step (g':=s.gens) (d':=s.drawn) (ch:=wr) (fun b hb=>?_) (fun b o _ _ hc e _=>kall b o hc e) (fun b o _ _ hc e _=>⟨o.slots,kall b o hc e⟩) (fun b o _ e hn=>by rw [aA (nT b o e)];exact hn)
    (fun b o hc e=>⟨o,kall b o hc e⟩) (fun b ys e=>by rw [aA (nTH b _ e)];exact e) (fun b o u e=>by rw [aA (nTH b _ e)];exact e) (fun b ps e=>⟨#[],by rw [aA (nTH b _ e),e];simp⟩) (fun m hm=>?_) (fun b u e=>?_) I.bare
   ·obtain ⟨f0,f1,f2,f3,f4,f5⟩:=hf b (W'.sub b hb)
    exact ⟨f3,f1,f4,f5⟩
   ·obtain ⟨o,es,ep,ho,r⟩:=hm
    exact ⟨o,es,ep,kall _ o (fun hb=>(hf _ (W'.sub _ hb)).2.1 rfl) ho,r⟩
   ·by_cases hb:b=T
    ·subst hb
     rw [aj] at e;cases e
     obtain ⟨o,ho,hcl,nn,hd⟩:=isT'
     exact ⟨hxs i,vals.toList,hPt i vals hPv,o,ho,hcl,nn,by simpa using hd⟩
    ·rw [aA hb] at e
     refine (I.hok b u e).stay (fun c v hc' q=>kall c v ?_ q) (fun c q=>by rw [aA (nTH c _ q)];exact q) fun c ys q=>by rw [aA (nTH c _ q)];exact q
     rcases hc' with z | z
     ·rw [z];exact nW b u e
     ·exact nW c _ z
  refine ⟨.ref T,upd H T (.tup (xs i)),I',rfl,⟨T,hTn,rfl,rfl⟩,st'',fun b hb=>?_⟩
  obtain ⟨o,e,_⟩:=hobj i _ st b hb
  rw [aA (nT b o e)]
  exact (hf b hb).1
 done:=by
  intro X hP hw hK hc i pins s U H E I hf st hg
  subst hP hw hK
  have W':=W X.A (I.ok.hd hc)
  have hg:i=n:=hg
  subst hg
  refine W'.done s _ _ st fun h' tk kk=>⟨rfl,?_⟩
  have nW:∀ b u,H b=some u->b ∉ wr:=fun b u e hb=>by rw [(hf b (W'.sub b hb)).1] at e;cases e
  refine I.step (g':=s.gens) (d':=s.drawn) (ch:=wr) (fun b hb=>?_) (fun b o _ _ hc e _=>kk b o hc e) (fun b o _ _ hc e _=>⟨o.slots,kk b o hc e⟩) (fun b o _ e hn=>hn)
    (fun b o hc e=>⟨o,kk b o hc e⟩) (fun b ys e=>e) (fun b o u e=>e) (fun b ps e=>⟨#[],by rw [e];simp⟩) (fun m hm=>?_) (fun b u e=>?_) I.bare
  ·obtain ⟨f0,f1,f2,f3,f4,f5⟩:=hf b (W'.sub b hb)
   exact ⟨f3,f1,f4,f5⟩
  ·obtain ⟨o,es,ep,ho,r⟩:=hm
   exact ⟨o,es,ep,kk _ o (fun hb=>(hf _ (W'.sub _ hb)).2.1 rfl) ho,r⟩
  ·refine (I.hok b u e).stay (fun c v hc' q=>kk c v ?_ q) (fun c q=>q) fun c ys q=>q
   rcases hc' with z | z
   ·rw [z];exact nW b u e
   ·exact nW c _ z
 self:=hself
def rY (x:Str) (i:Nat):List V:=[.int i,.str ⟨#[x.cps.getD i 0]⟩]
section
variable {prog:Program} {w:World} {A:Around} {E:Value->Shared->Prop} {s:Shared}
theorem oH {it l:Addr} {items:Array Value} (hne:l≠it):∀ (n i:Nat) (s:Shared) (Q:List Value->Shared->Prop),s.heap.IsListIter it l i->s.heap.IsList l items->i+n<=items.size->
  (∀ h',h'.IsListIter it l (i+n)->Heap.SameBut it s.heap h'->Q ((items.toList.drop i).take n) {s with heap:=h'})->wpAny (model prog w) A (draw (.ref it) n) Q E s
 | 0,i,s,Q,hit,_,_,hQ=>by
  show wpAny _ _ (pure []) Q E s
  exact wpAny_pure (by simpa using hQ s.heap hit (Heap.SameBut.refl ..))
 | n+1,i,s,Q,hit,ht,hle,hQ=>by
  have hlt:i < items.size:=by omega
  show wpAny _ _ (pyNext (.ref it) >>=_) Q E s
  refine wpAny_bind (wpAny_pyNext_list_item hit ht (x:=items[i]) (by simp [hlt]) fun h₁ hit₁ hs₁=>?_)
  refine wpAny_bind (wpAny_holding (oH hne n (i+1) _ _ hit₁ (ht.extBut hs₁.extBut hne) (by omega) fun h₂ hit₂ hs₂=>wpAny_pure ?_))
  have hd:items.toList.drop i=items[i] :: items.toList.drop (i+1):=by simp [List.drop_eq_getElem_cons,hlt]
  have:=hQ h₂ (by rw [show i+(n+1)=i+1+n by omega];exact hit₂) (hs₁.trans hs₂)
  rw [hd,List.take_succ_cons] at this
  exact this
theorem lR {l:Addr} {items:Array Value} {Q:List Value->Shared->Prop} (hh:A.handled=none) (ht:s.heap.IsList l items)
  (hQ:∀ h',Heap.ExtBut s.heap.objs.size s.heap h'->Q items.toList {s with heap:=h'}):wpAny (model prog w) A (unpackItems (.ref l) items.size none) Q E s:=by
 have hlt:l≠s.heap.objs.size:=by obtain ⟨o,ho,_⟩:=ht;exact Nat.ne_of_lt (Heap.lt_size ho)
 unfold unpackItems
 refine wpAny_bind ?_
 ·unfold notIterableAtAll
  refine wpAny_bind (wpAny_specialOf ht.typeIs slot_list_iter.lookup ?_)
  refine wpAny_pure ?_
  simp only [Bool.false_eq_true,if_false]
  refine wpAny_bind (wpAny_holding (wpAny_pyIter_list ht ?_))
  refine wpAny_bind (wpAny_holding (oH hlt items.size 0 _ _ ⟨_,Heap.get?_push_size _ rfl,rfl,rfl⟩ (let ⟨o,ho,r⟩:=ht;⟨o,Heap.get?_push_of_some _ ho,r⟩) (by omega) fun h₁ hit₁ hs₁=>?_))
  have hall:List.take items.size (List.drop 0 items.toList)=items.toList:=by
   rw [List.drop_zero];exact List.take_of_length_le (by simp)
  rw [hall]
  rw [if_neg (by simp)]
  have ht₁:h₁.IsList l items:=by
   have:(s.heap.push {cls:=.type "list_iterator",data:=.fields #[.ref l,.int 0 0]}).IsList l items:=let ⟨o,ho,r⟩:=ht;⟨o,Heap.get?_push_of_some _ ho,r⟩
   exact this.extBut hs₁.extBut hlt
  refine wpAny_bind (wpAny_holding (wpAny_pyNext_list_end hh hit₁ ht₁ (by simp) fun h₂ he₂=>?_))
  simp only [Option.isSome_none,Bool.false_eq_true,if_false]
  refine wpAny_pure (hQ h₂ fun b o hb e=>he₂ b o hb (hs₁.extBut b o hb (Heap.get?_push_of_some _ e)))
theorem kj {env:Env} {elts:List Expr} {x1} {pos:Pos} {l:Addr} {items:Array Value} {Q:Unit->Shared->Prop} (hh:A.handled=none) (ht:s.heap.IsList l items)
  (hn:(assignEach elts env).length=items.size) (hstar:(assignEach elts env).findIdx? (·.1)=none)
  (h:∀ h',Heap.ExtBut s.heap.objs.size s.heap h'->wpAny (model prog w) A (assignInOrder ((assignEach elts env).map (·.2)) items.toList) Q E {s with heap:=h'}):
  wpAny (model prog w) A (assign (.Tuple elts x1 pos) env (.ref l)) Q E s:=by
 rw [assign_Tuple]
 refine wpAny_bind (wpAny_standAt ?_)
 unfold unpack
 rw [hn,hstar]
 exact wpAny_bind (wpAny_holding (lR hh ht h))
end
def Er (K:W.Frag) (n:Nat) (t:tK):TG:=fun v U H Q=>∃ a xs,v= .ref a/\(SqT K H a xs\/SqL K H a xs)/\xs.length=n/\t xs U H Q
theorem Ce {X:Cx} {K:W.Frag} {ts:List Expr} {k:Nat} {gs:tK} {n:Nat} {pos:Pos} (hK:X.K=K) (hc:X.calm=true) (h:KQ X ts gs) (hn:autoParam ((assignEach ts X.env).length=n) L2.auto4._auto_1) (hst:autoParam ((assignEach ts X.env).findIdx? (·.1)=none) L2.auto4._auto_1):JG X (.Tuple ts k pos) (Er K n gs):=⟨by
 subst hK
 intro pins s U H v u Q I r hw
 obtain ⟨a,xs,e1,hq,hl,hw⟩:=hw
 subst e1
 cases r
 rcases hq with hq | hq
 ·exact (xG hc h.run hn hst) pins s U H (.ref a) (.ref a) Q I (show RelV (.ref a) (Value.ref a) from rfl) ⟨a,xs,rfl,hq,hl,hw⟩
 ·obtain ⟨its,rv,ht,hz⟩:=I.list hq
  refine kj (I.ok.hd hc) ht.isList (by simp [hn,← hl,rv.length]) hst fun h' hx=>?_
  have I1:Inv X pins U H {s with heap:=h'}:=I.kept (t':=s.toks) fun b o e=>hx b o (Nat.ne_of_lt (Heap.lt_size e)) e
  exact h.run pins _ U H xs _ Q I1 (by simpa using rv) hw⟩
theorem Cg {X:Cx} {ts:List Expr} {k:Nat} {e:Expr} {te:TE} {g:TG} {pos pos':Pos} (he:JE X e te) (hg:JG X (.Tuple ts k pos') g) (h:autoParam (gP e=true) L2.auto4._auto_1) (h2:autoParam ((match e with | .Tuple ..=>false | _=>true)=true) L2.auto4._auto_1):JS X (.Assign [.Tuple ts k pos'] e pos) (qy te g):=
 ⟨xH he.run hg.run (by show swapsWith e (some (.Tuple ts k pos')) pos.line X.env=pure false;exact rP h) (by cases e <;> first | rfl | cases h2) rfl⟩
def KZ (K:W.Frag):R2:=fun x y H Q=>rNe x y H Q\/∃ (a b:Addr) (ns ms:List Int),x= .ref a/\y= .ref b/\SqL K H a (ns.map V.int)/\SqL K H b (ms.map V.int)/\Q (.bl (!decide (ns=ms))) H
theorem Hq {X:Cx} {K:W.Frag} (hK:X.K=K) (hu:X.A.units+64 < cLine):OpR X (compareOp .NotEq) (KZ K):=by
 subst hK
 intro pins s U H x y v u Q I rx ry h
 rcases h with h | ⟨a,b,ns,ms,rfl,rfl,ha,hb,q⟩
 ·exact J5 pins s U H x y v u Q I rx ry h
 ·cases rx
  cases ry
  obtain ⟨its,r1,p1,z1⟩:=I.list ha
  obtain ⟨jts,r2,p2,z2⟩:=I.list hb
  exact PySem.W.ne_intsK p1.isList (intsAre_of r1) p2.isList (intsAre_of r2) hu ⟨.bl _,H,I,rfl,q⟩
section
variable {H:Hp} {Q:VK} {K:W.Frag} {U:St}
theorem cU {n:Nat} {gs:tK} {p:Addr} {xs:List V} {R:St->Hp->Prop} (s:SqT K H p xs) (hl:xs.length=n) (h:gs xs U H R):Bf K n gs (.ref p) U H R:=⟨p,xs,rfl,s,hl,h⟩
theorem Ci {n:Nat} {gs:tK} {p:Addr} {xs:List V} {R:St->Hp->Prop} (s:SqL K H p xs) (hl:xs.length=n) (h:gs xs U H R):Er K n gs (.ref p) U H R:=⟨p,xs,rfl,.inr s,hl,h⟩
theorem cX {t:TG} {u:tK} {v:V} {vs:List V} {R:St->Hp->Prop} (h:t v U H fun U' H'=>u vs U' H' R):xx t u (v :: vs) U H R:=⟨v,vs,rfl,h⟩
theorem fM {R:St->Hp->Prop} (h:R U H):Ge [] U H R:=⟨rfl,h⟩
theorem dN {p:Addr} {xs:List V} {y:V} (hp:H p=some (.lst xs)) (c:xs.length < sizeLine) (h:Q .non (upd H p (.lst (xs ++ [y])))):uU (.ref p) [y] H Q:=⟨p,xs,y,rfl,rfl,hp,c,h⟩
theorem vg {f:Int->V} {i:Int} (h:Q (f i) H):rU f (.int i) H Q:=⟨i,rfl,h⟩
theorem qQ {a:Addr} {xs:List V} {k:Int} (ha:H a=some (.lst xs)) (h0: -(2 ^ 63)<=k) (h1:k < 2 ^ 63) (hz:xs.length*k.toNat<=sizeLine) (h:∀ p,H p=none->Q (.ref p) (upd H p (.lst (List.replicate k.toNat xs).flatten))):yF (.ref a) (.int k) H Q:=
 .inr (.inr ⟨a,k,xs,rfl,rfl,ha,h0,h1,hz,h⟩)
end
section
variable {X:Cx} {tg iter elt:Expr} {ifs:List Expr} {scope:Scope} {pos:Pos} {N':List Str} {sub:List (Option Nat)} {wi:TI} {g:TG} {tt:TT} {te:TE}
theorem yU {N:List Str} {sc:Scope} {use:Option (Value->Sem Unit)} {R:Value->Shared->Prop} {p0:Pos} (S:mW N sc N' scope sub) (hc:X.calm=true) (hN:X.N=N) (hsc:X.env.scope=sc) (hi:PI X tg iter wi)
  (hg:∀ (C:Addr) (s₀:Shared) (H₀:Hp) (ex:List Addr),PG (jW X N' scope C s₀ H₀ ex) tg g)
  (ht:∀ (C:Addr) (s₀:Shared) (H₀:Hp) (ex:List Addr),qJ (jW X N' scope C s₀ H₀ ex) ifs tt)
  (he:∀ (C:Addr) (s₀:Shared) (H₀:Hp) (ex:List Addr),PE (jW X N' scope C s₀ H₀ ex) elt te)
  (hs:∀ x,foldedSetIterable iter X.env x=pure x) (pins:List (Addr×Obj)) (s:Shared) (U:St) (H:Hp) (Q:VK) (I:Inv X pins U H s) (h:oA sub wi g tt te U H Q)
  (hend:∀ (D C:Addr) (s5:Shared) (H5:Hp) (m:Str->Option Value),Inv X pins U H5 s5->FpOk X pins H5 C->s5.heap.Ns C m->Q (.ref D) H5->compPost (model X.prog X.w) X.A X.xe use R (.ref D) C (.ok .next) s5):
  wpAny (model X.prog X.w) X.A (comprehension (.ListComp elt [⟨tg,iter,ifs,0⟩] scope pos) scope X.env p0 (newList []) false (eval iter X.env) use) R X.xe s:=by
 have hcl:∀ x∈scope.names,x.2=NameKind.free->∃ c,X.env.cells.lookup x.1=some c:=fun x hx hk=>I.ok.has x.1 (by have:=S.free x hx hk;rw [← hsc] at this;exact this)
 refine wpAny_comprehension_free (use:=use) rfl hs (j0 hcl) S.kind S.loc ?_
 refine cP (hi pins s U H _ I h) fun v s1 h1=>cP h1 fun itv s2 h2=>?_
 obtain ⟨it,fp,tn,J,H2,e,I2,T,st2,f2,W,⟨m0,w0⟩,turn⟩:=h2
 subst e
 refine wpAny_newObj_type (dZ fun h₁ hns₁ hk31 hcl₁=>?_)
 dsimp only at hns₁ hk31 hcl₁ ⊢
 generalize hs3:({s2 with heap:=s2.heap.push {cls:=.type "list",dict:=none,data:=.seq ([]:List Value).toArray}}:Shared)=s3
 have e3:s2.heap.push {cls:=.type "list",dict:=none,data:=.seq ([]:List Value).toArray}=s3.heap:=by rw [← hs3]
 rw [e3] at hns₁ hk31 hcl₁ ⊢
 have hD3:s3.heap.get? s2.heap.objs.size=some {cls:=.type "list",dict:=none,data:=.seq ([]:List Value).toArray}:=by rw [← e3];exact Heap.get?_push_size _ rfl
 have I3:Inv X pins U H2 s3:=by
  rw [← hs3]
  exact I2.kept (t':=s2.toks) fun b o e=>Heap.get?_push_of_some _ e
 have k23:∀ b o,s2.heap.get? b=some o->s3.heap.get? b=some o:=fun b o e=>by rw [← e3];exact Heap.get?_push_of_some _ e
 have hsz:s3.heap.objs.size=s2.heap.objs.size+1:=by rw [← e3,Heap.size_push]
 have hDn:H2 s2.heap.objs.size=none:=I2.hok.fresh (Nat.le_refl _)
 have fD:FpOk X pins H2 s2.heap.objs.size:=I2.fpOk (Nat.le_refl _) hDn
 have hfo:∀ b∈fp,b < s2.heap.objs.size:=fun b hb=>let ⟨o,e,_⟩:=T.obj _ _ st2 b hb;Heap.lt_size e
 have hDfp:s2.heap.objs.size ∉ fp:=fun z=>absurd (hfo _ z) (Nat.lt_irrefl _)
 have I4:=pZ (tk:=s3.toks+([]:List (Str×Value)).length) S hN hsc I3 f2 (fun b hb=>by rw [hsz];exact Nat.lt_succ_of_lt (hfo b hb)) (D:=s2.heap.objs.size) (by rw [hsz];exact Nat.lt_succ_self _) fD hns₁ hk31 hcl₁
 have stat:∀ {H':Hp} {ob:Obj},(∀ b∈fp,H' b=none)->∀ b∈fp,FpOk (jW X N' scope s3.heap.objs.size s3 H2 (s2.heap.objs.size :: fp)) [(s2.heap.objs.size,ob)] H' b:=fun {H' ob} hn b hb=>by
  obtain ⟨q1,q2⟩:=I4.ok.exf b (List.mem_cons_of_mem _ hb)
  refine ⟨hn b hb,q1,I4.ok.exfs b (List.mem_cons_of_mem _ hb),.inl (List.mem_cons_of_mem _ hb),q2,fun p hp z=>?_⟩
  have hp':p=(s2.heap.objs.size,ob):=by simpa [jW] using hp
  subst hp'
  have z':s2.heap.objs.size=b:=z
  exact hDfp (by rw [z'];exact hb)
 generalize hXC:jW X N' scope s3.heap.objs.size s3 H2 (s2.heap.objs.size :: fp)=XC at I4 stat
 have eP:XC.prog=X.prog:=by rw [← hXC];rfl
 have eW:XC.w=X.w:=by rw [← hXC];rfl
 have eK:XC.K=X.K:=by rw [← hXC];rfl
 have eA:XC.A=X.A:=by rw [← hXC];rfl
 have eE:XC.env=compEnvC scope (wy X scope s3.heap.objs.size) s3.heap.objs.size X.env:=by rw [← hXC];rfl
 have eC:XC.calm=true:=by rw [← hXC];exact hc
 have eX:XC.xe=fun _ _=>False:=by rw [← hXC];rfl
 have eH:XC.H₀=H2:=by rw [← hXC];rfl
 have eS:XC.s₀=s3:=by rw [← hXC];rfl
 have eF:XC.fs=frs X.stack:=by rw [← hXC];rfl
 have eEx:XC.ex=s2.heap.objs.size :: fp:=by rw [← hXC];rfl
 have ePn:XC.pn=[]:=by rw [← hXC];rfl
 have hgC:PG XC tg g:=by rw [← hXC];exact hg _ _ _ _
 have htC:qJ XC ifs tt:=by rw [← hXC];exact ht _ _ _ _
 have heC:PE XC elt te:=by rw [← hXC];exact he _ _ _ _
 have pinD:∀ {U':St} {H':Hp} {s':Shared} {ob:Obj},Inv XC [] U' H' s'->H' s2.heap.objs.size=none->s'.heap.get? s2.heap.objs.size=some ob->(∀ v,ob.data≠.cell v)->Inv XC [(s2.heap.objs.size,ob)] U' H' s':=fun {U' H' s' ob} J hn hg hd=>
  J.pins_of fun p hp=>by
   have hp':p=(s2.heap.objs.size,ob):=by simpa using hp
   subst hp'
   refine ⟨hg,hn,(J.ok.exf _ (by rw [eEx];exact List.mem_cons_self)).1,J.ok.exfs _ (by rw [eEx];exact List.mem_cons_self),hd⟩
 have loop:codeAny (model X.prog X.w) X.A (.compLoop (.ListComp elt [⟨tg,iter,ifs,0⟩] scope pos) 0 (.ref it) (.ref s2.heap.objs.size) (compEnvC scope (wy X scope s3.heap.objs.size) s3.heap.objs.size X.env))
   (compPost (model X.prog X.w) X.A X.xe use R (.ref s2.heap.objs.size) s3.heap.objs.size) {s3 with heap:=h₁,toks:=s3.toks+([]:List (Str×Value)).length}:=by
  refine pY (fun n s'=>∃ (i:Nat) (ys:List V) (its:List Value) (nn:Nat) (H':Hp),Inv XC [] (cC sub U) H' s'/\tn i s'.heap/\(∀ b∈fp,H' b=none)/\H' s2.heap.objs.size=none/\
   s'.heap.get? s2.heap.objs.size=some {cls:=.type "list",data:=.seq its.toArray nn}/\Vals ys its/\W i n ys H') ?_ m0
   ⟨0,[],[],_,H2,I4,T.keep _ _ _ st2 fun b _ o e=>hk31 b o (k23 b o e),fun b hb=>(f2 b hb).1,hDn,hk31 _ _ hD3,.nil,w0⟩
  rintro n s4 ⟨i,ys,its,nn,H4,J4,st4,fr4,dn4,dg4,rv4,w4⟩
  have P4:=pinD J4 dn4 dg4 (fun v z=>by cases z)
  rcases turn i n ys H4 w4 with ⟨stop,hyl,qn⟩ | ⟨go,hyl,N,hN,step⟩
  ·have hdone:=T.done XC eP eW eK eC i _ s4 _ H4 (fun _ _=>False) P4 (stat fr4) st4 stop
   rw [eA] at hdone
   refine wpAny_mono hdone (fun r s5 ⟨hr,I5⟩=>?_) fun _ _ z=>z
   subst hr
   obtain ⟨m,hn,_⟩:=id I5.loc
   have hCe:XC.env.locals=s3.heap.objs.size:=by rw [eE];rfl
   rw [hCe] at hn
   have hDg:=(I5.pin (s2.heap.objs.size,_) (by rw [ePn];exact List.mem_cons_self)).1
   have hDne:s2.heap.objs.size≠s3.heap.objs.size:=by rw [hsz];exact Nat.ne_of_lt (Nat.lt_succ_self _)
   have hHC:H4 s3.heap.objs.size=none:=by have:=I5.free;rw [hCe] at this;exact this
   have k56:∀ b o,b≠s3.heap.objs.size->s5.heap.get? b=some o->s5.heap.get? b=some o:=fun b o hb e=>e
   have un:=I5.base
   rw [eF,eEx,eH,eS] at un
   have nC:∀ b o,s3.heap.get? b=some o->b≠s3.heap.objs.size:=fun b o e=>Nat.ne_of_lt (Heap.lt_size e)
   have hok6:HOk X.prog X.w (upd H4 s2.heap.objs.size (.lst ys)) s5.heap:=by
    have h5:=I5.hok
    rw [eP,eW] at h5
    have Aq:∀ b u,H4 b=some u->b≠s3.heap.objs.size:=fun b u e z=>by rw [z,hHC] at e;cases e
    intro b u e
    by_cases hb:b=s2.heap.objs.size
    ·subst hb
     rw [aj] at e;cases e
     exact ⟨hyl,its,nn,rv4,k56 _ _ hDne hDg⟩
    ·rw [aA hb] at e
     have nD:∀ c u,H4 c=some u->c≠s2.heap.objs.size:=fun c u e z=>by rw [z,dn4] at e;cases e
     refine (h5 b u e).stay (fun c v hc' q=>k56 c v ?_ q) (fun c q=>by rw [aA (nD c _ q)];exact q) fun c xs q=>by rw [aA (nD c _ q)];exact q
     rcases hc' with z | z
     ·rw [z];exact Aq b u e
     ·exact Aq c _ z
   have nD2:∀ c u,H4 c=some u->c≠s2.heap.objs.size:=fun c u e z=>by rw [z,dn4] at e;cases e
   have un6:Un (frs X.stack) (s2.heap.objs.size :: fp) H2 (upd H4 s2.heap.objs.size (.lst ys)) s3.heap s5.heap:=
    ⟨fun b o e nn' hb hx=>k56 b o (nC b o e) (un.keep b o e nn' hb hx),fun b o e nn' hb hx=>let ⟨sl,q⟩:=un.slot b o e nn' hb hx;⟨sl,k56 b _ (nC b o e) q⟩,
     fun b o e nn' hx=>by rw [aA (fun z=>hx (by rw [z];exact List.mem_cons_self))];exact un.free b o e nn' hx,
     fun b o e hx=>let ⟨o',q⟩:=un.there b o e hx;⟨o',k56 b o' (nC b o e) q⟩,
     fun b xs e=>by have q:=un.tups b xs e;rw [aA (nD2 b _ q)];exact q,
     fun b o u e=>by have q:=un.frzs b o u e;rw [aA (nD2 b _ q)];exact q,
     fun b ps e=>let ⟨more,q⟩:=un.tbls b ps e;⟨more,by rw [aA (nD2 b _ q)];exact q⟩⟩
   have I6:Inv X pins U (upd H4 s2.heap.objs.size (.lst ys)) s5:=by
    refine I3.call' (s':=s5) (ch:=s2.heap.objs.size :: fp) ?_ un6 hok6 I5.bare fun b hb=>?_
    ·show s5.os=s3.os
     have:=I5.os
     rw [eS] at this
     exact this
    ·have q:FpOk X pins H2 b:=by
      rcases List.mem_cons.mp hb with rfl | z
      ·exact fD
      ·exact f2 b z
     obtain ⟨f0,f1,f2',f3,f4,f5⟩:=q
     exact ⟨f3,f1,f4,f5⟩
   have dC:upd H4 s2.heap.objs.size (.lst ys) s3.heap.objs.size=none:=by rw [aA (Ne.symm hDne)];exact hHC
   exact hend _ _ s5 _ m I6 (I3.fpOk (Nat.le_refl _) dC) hn (qn _ dn4)
  ·have hitem:=T.item XC eP eW eK eC i _ s4 _ H4 (fun _ _=>False) P4 (stat fr4) st4 go
   rw [eA] at hitem
   refine wpAny_mono hitem (fun r s5 ⟨u,hr,h5⟩=>?_) fun _ _ z=>z
   subst hr
   dsimp only
   refine wpAny_mono h5 (fun _ s6 ⟨x,H6,I6,r6,y6,st6,fr6⟩=>?_) fun _ _ z=>z
   have P6:=I6.pinned (stat fr6) (T.obj _ _ st6)
   rw [← eE,← eP,← eW,← eA]
   refine wpAny_mono (hgC _ s6 _ H6 x u _ P6 r6 (step x H6 y6)) (fun _ s7 ⟨σ7,H7,I7,kp7,q7⟩=>?_) fun _ _ z=>by rw [eX] at z;exact z
   refine wpAny_mono (htC _ s7 σ7 H7 _ I7 q7) (fun ok s8 ⟨H8,I8,q8⟩=>?_) fun _ _ z=>by rw [eX] at z;exact z
   have fin:∀ {H9:Hp} {s9:Shared},Inv XC ([(s2.heap.objs.size,({cls:=.type "list",data:=.seq its.toArray nn}:Obj))] ++ mq fp s6.heap) σ7 H9 s9->Inv XC [] (cC sub U) H9 s9/\tn (i+1) s9.heap/\(∀ b∈fp,H9 b=none)/\H9 s2.heap.objs.size=none/\
     s9.heap.get? s2.heap.objs.size=some {cls:=.type "list",data:=.seq its.toArray nn}:=fun {H9 s9} J=>by
    have pD:=J.pin (s2.heap.objs.size,({cls:=.type "list",data:=.seq its.toArray nn}:Obj)) (by rw [ePn];simp)
    have pF:∀ b∈fp,∀ o,s6.heap.get? b=some o->s9.heap.get? b=some o/\H9 b=none:=fun b hb o e=>by
     have q:=J.pin (b,o) (by rw [ePn];exact List.mem_append_right _ (List.mem_append_right _ (je hb e)))
     exact ⟨q.1,q.2.1⟩
    refine ⟨?_,T.keep _ _ _ st6 fun b hb o e=>(pF b hb o e).1,fun b hb=>?_,pD.2.1,pD.1⟩
    ·have J0:Inv XC [] σ7 H9 s9:=J.pins_of fun p hp=>nomatch hp
     exact J0.weak kp7.1.symm fun j v e=>kp7.2 j v e
    ·obtain ⟨o,e,_⟩:=T.obj _ _ st6 b hb
     exact (pF b hb o e).2
   cases ok with
   | false=>
    rw [if_neg (by simp)]
    rw [if_neg (by simp)] at q8
    obtain ⟨m',hm,w8⟩:=hN _ _ q8
    obtain ⟨a1,a2,a3,a4,a5⟩:=fin I8
    exact ⟨m',hm,i+1,ys,its,nn,H8,a1,a2,a3,a4,a5,rv4,w8⟩
   | true=>
    rw [if_pos rfl]
    rw [if_pos rfl] at q8
    refine wpAny_mono (heC _ s8 σ7 H8 _ I8 q8) (fun xv s9 ⟨y,H9,I9,r9,n9⟩=>?_) fun _ _ z=>by rw [eX] at z;exact z
    obtain ⟨m',hm,w9⟩:=hN _ _ n9
    obtain ⟨a1,a2,a3,a4,a5⟩:=fin I9
    refine wpAny_list_append_plain (items:=its.toArray) ⟨nn,a5⟩ (fun h' ⟨n',hp'⟩ sb=>?_) (by simp;rw [← rv4.length];omega)
    obtain ⟨q1,q2⟩:=I4.ok.exf s2.heap.objs.size (by rw [eEx];exact List.mem_cons_self)
    have a1':Inv XC [] (cC sub U) H9 {s9 with heap:=h'}:=a1.turned (t':=s9.toks) (fun b o hb e=>(sb.2 b hb).trans e) a4 q1 (.inl (by rw [eEx];exact List.mem_cons_self)) q2 (fun p hp=>by rw [ePn] at hp;exact nomatch hp)
    refine ⟨m',hm,i+1,ys ++ [y],its ++ [xv],n',H9,a1',T.keep _ _ _ a2 fun b hb o e=>(sb.2 b (fun z=>hDfp (by rw [← z];exact hb))).trans e,a3,a4,?_,rv4.append (.cons r9 .nil),w9⟩
    rw [hp']
    simp
 subst hs3
 exact codeAny_compStart_list loop (T.self _ 0 _ _ _ (T.keep _ _ _ st2 fun b _ o e=>hk31 b o (k23 b o e)) loop)
theorem um {N:List Str} {sc:Scope} {i:Nat} {x:Str} {pos' spos:Pos} (hNd:X.N.Nodup) (hxi:X.N[i]?=some x) (hx:Loc X.env.scope x) (hf:X.fn x=true) (S:mW N sc N' scope sub) (hc:X.calm=true) (hN:X.N=N) (hsc:X.env.scope=sc) (hi:PI X tg iter wi)
  (hg:∀ (C:Addr) (s₀:Shared) (H₀:Hp) (ex:List Addr),PG (jW X N' scope C s₀ H₀ ex) tg g)
  (ht:∀ (C:Addr) (s₀:Shared) (H₀:Hp) (ex:List Addr),qJ (jW X N' scope C s₀ H₀ ex) ifs tt)
  (he:∀ (C:Addr) (s₀:Shared) (H₀:Hp) (ex:List Addr),PE (jW X N' scope C s₀ H₀ ex) elt te)
  (hs:∀ x,foldedSetIterable iter X.env x=pure x):PS X (.Assign [.Name x pos'] (.ListComp elt [⟨tg,iter,ifs,0⟩] scope pos) spos) (qy (oA sub wi g tt te) (jZ i)):=by
 intro pins s U H D I h
 have hsw:∃ b,swapsWith (.ListComp elt [⟨tg,iter,ifs,0⟩] scope pos) (some (.Name x pos')) spos.line X.env=pure b:=⟨_,rfl⟩
 obtain ⟨b,hsw⟩:=hsw
 cases b with
 | false=>exact xJ hNd hxi hx (uW S hc hN hsc hi hg ht he hs) hsw (.inl hf) pins s U H D I h
 | true=>
  rw [exec_Assign_Name_used _ _ _ _ hsw]
  refine wpAny_bind (wpAny_standAt (wpAny_bind ?_))
  show wpAny _ X.A (do let _ ← comprehension (.ListComp elt [⟨tg,iter,ifs,0⟩] scope pos) scope X.env _ (newList []) false (eval iter X.env) (some (assign (.Name x pos') X.env))) _ _ s
  refine wpAny_bind (wpAny_mono (yU (use:=some (assign (.Name x pos') X.env)) (R:=fun _ s'=>SP X pins D .next s') S hc hN hsc hi hg ht he hs pins s U H _ I h ?_) (fun _ s' hq=>wpAny_pure (wpAny_pure hq)) fun _ _ e=>e)
  intro Da C s5 H5 m I5 fC hn q
  show wpAny _ X.A (assign (.Name x pos') X.env (.ref Da)) _ _ _
  refine wpAny_assign_Name (pL I5 hNd hxi hx (v:=.ref Da) rfl (fun s6 I6 qq0=>?_) (.inl hf))
  obtain ⟨a,sb,ha⟩:=qq0
  obtain ⟨f0,f1,f2,f3,f4,f5⟩:=fC
  have hCa:C≠a:=fun z=>by
   rcases ha with e | e
   ·exact f1 (z.trans e)
   ·exact f4 x a e z.symm
  exact ⟨m,hn.sameBut sb hCa,fun h' hs'=>⟨_,H5,I6.turned (t':=s6.toks) (fun b o hb e=>hs'.extBut b o hb e) f0 f1 f3 f4 f5,q⟩⟩
end
section
variable {X:Cx} {tg iter elt:Expr} {ifs:List Expr} {scope:Scope} {pos:Pos} {N':List Str} {sub:List (Option Nat)} {wi:TI} {g:TG} {tt:TT} {te:TE} {N:List Str} {sc:Scope}
theorem jQ {i:Nat} {x:Str} {pos' spos:Pos} (hNd:X.N.Nodup) (hxi:X.N[i]?=some x) (hx:Loc X.env.scope x) (S:mW N sc N' scope sub) (hc:X.calm=true) (hN:X.N=N) (hsc:X.env.scope=sc) (hi:JI X tg iter wi)
  (hg:∀ (C:Addr) (s₀:Shared) (H₀:Hp) (ex:List Addr),JG (jW X N' scope C s₀ H₀ ex) tg g)
  (ht:∀ (C:Addr) (s₀:Shared) (H₀:Hp) (ex:List Addr),Ca (jW X N' scope C s₀ H₀ ex) ifs tt)
  (he:∀ (C:Addr) (s₀:Shared) (H₀:Hp) (ex:List Addr),JE (jW X N' scope C s₀ H₀ ex) elt te) (hf:X.fn x=true) (h:autoParam (mD iter=true) L2.auto4._auto_1):
  JS X (.Assign [.Name x pos'] (.ListComp elt [⟨tg,iter,ifs,0⟩] scope pos) spos) (qy (oA sub wi g tt te) (jZ i)):=
 ⟨um hNd hxi hx hf S hc hN hsc hi.run (fun C s₀ H₀ ex=>(hg C s₀ H₀ ex).run) (fun C s₀ H₀ ex=>(ht C s₀ H₀ ex).run) (fun C s₀ H₀ ex=>(he C s₀ H₀ ex).run) (yJ h)⟩
end
section
variable {X:Cx} {pins:List (Addr×Obj)} {U:St} {H:Hp} {s:Shared}
theorem Inv.newtup {wr:List Addr} {T:Addr} {vals:Array Value} {xs:List V} {h'':Heap} {tk:Nat} (I:Inv X pins U H s) (hf:∀ b∈wr,FpOk X pins H b) (hT:s.heap.objs.size<=T)
  (kall:∀ b o,b ∉ wr->s.heap.get? b=some o->h''.get? b=some o) (isT':h''.IsTuple T vals) (hv:Vals xs vals.toList) (hx:xs.length<=sizeLine):Inv X pins U (upd H T (.tup xs)) {s with heap:=h'',toks:=tk}:=by
 have hTn:H T=none:=I.hok.fresh hT
 have nT:∀ b o,s.heap.get? b=some o->b≠T:=fun b o e=>Nat.ne_of_lt (Nat.lt_of_lt_of_le (Heap.lt_size e) hT)
 have nTH:∀ b u,H b=some u->b≠T:=fun b u e z=>by rw [z,hTn] at e;cases e
 have nW:∀ b u,H b=some u->b ∉ wr:=fun b u e hb=>by rw [(hf b hb).1] at e;cases e
 refine I.step (g':=s.gens) (d':=s.drawn) (ch:=wr) (fun b hb=>?_) (fun b o _ _ hc e _=>kall b o hc e) (fun b o _ _ hc e _=>⟨o.slots,kall b o hc e⟩) (fun b o _ e hn=>by rw [aA (nT b o e)];exact hn)
  (fun b o hc e=>⟨o,kall b o hc e⟩) (fun b ys e=>by rw [aA (nTH b _ e)];exact e) (fun b o u e=>by rw [aA (nTH b _ e)];exact e) (fun b ps e=>⟨#[],by rw [aA (nTH b _ e),e];simp⟩) (fun m hm=>?_) (fun b u e=>?_) I.bare
 ·obtain ⟨f0,f1,f2,f3,f4,f5⟩:=hf b hb
  exact ⟨f3,f1,f4,f5⟩
 ·obtain ⟨o,es,ep,ho,r⟩:=hm
  exact ⟨o,es,ep,kall _ o (fun hb=>(hf _ hb).2.1 rfl) ho,r⟩
 ·by_cases hb:b=T
  ·subst hb
   rw [aj] at e;cases e
   obtain ⟨o,ho,hcl,nn,hd⟩:=isT'
   exact ⟨hx,vals.toList,hv,o,ho,hcl,nn,by simpa using hd⟩
  ·rw [aA hb] at e
   refine (I.hok b u e).stay (fun c v hc' q=>kall c v ?_ q) (fun c q=>by rw [aA (nTH c _ q)];exact q) fun c ys q=>by rw [aA (nTH c _ q)];exact q
   rcases hc' with z | z
   ·rw [z];exact nW b u e
   ·exact nW c _ z
theorem Inv.only {wr:List Addr} {h':Heap} {tk:Nat} (I:Inv X pins U H s) (hf:∀ b∈wr,FpOk X pins H b) (kk:∀ b o,b ∉ wr->s.heap.get? b=some o->h'.get? b=some o):Inv X pins U H {s with heap:=h',toks:=tk}:=by
 have nW:∀ b u,H b=some u->b ∉ wr:=fun b u e hb=>by rw [(hf b hb).1] at e;cases e
 refine I.step (g':=s.gens) (d':=s.drawn) (ch:=wr) (fun b hb=>?_) (fun b o _ _ hc e _=>kk b o hc e) (fun b o _ _ hc e _=>⟨o.slots,kk b o hc e⟩) (fun b o _ e hn=>hn)
   (fun b o hc e=>⟨o,kk b o hc e⟩) (fun b ys e=>e) (fun b o u e=>e) (fun b ps e=>⟨#[],by rw [e];simp⟩) (fun m hm=>?_) (fun b u e=>?_) I.bare
 ·obtain ⟨f0,f1,f2,f3,f4,f5⟩:=hf b hb
  exact ⟨f3,f1,f4,f5⟩
 ·obtain ⟨o,es,ep,ho,r⟩:=hm
  exact ⟨o,es,ep,kk _ o (fun hb=>(hf _ hb).2.1 rfl) ho,r⟩
 ·refine (I.hok b u e).stay (fun c v hc' q=>kk c v ?_ q) (fun c q=>q) fun c ys q=>q
  rcases hc' with z | z
  ·rw [z];exact nW b u e
  ·exact nW c _ z
end
def Nk (K:W.Frag) (a:Addr):It:=
 ⟨fun i H=>∃ xs x,SqL K H a xs/\xs[i]?=some x,
  fun i H v H'=>∃ T x,H T=none/\v= .ref T/\(∀ xs,SqL K H a xs->xs[i]?=some x)/\H'=upd H T (.tup [.int i,x]),
  fun i H=>∃ xs,SqL K H a xs/\xs.length<=i⟩
theorem uo {P:Program} {w:World} {K:W.Frag} {elts:List Expr} {k:Nat} {pos:Pos} {e it a:Addr} (hne:e≠it):
  Turn P w K (.Tuple elts k pos) (Nk K a) [e,it] e (fun i h=>(∃ old,IsEnum h e it i old)/\h.IsListIter it a i) where
 mem:=by simp
 obj:=fun i h st c hc=>by
  obtain ⟨⟨old,he⟩,⟨o1,e1,c1,d1⟩⟩:=st
  simp only [List.mem_cons,List.mem_nil_iff,or_false] at hc
  rcases hc with rfl | rfl
  ·exact ⟨_,he,fun v z=>by cases z⟩
  ·exact ⟨_,e1,fun v z=>by rw [d1] at z;cases z⟩
 keep:=fun i h h' st kk=>by
  obtain ⟨⟨old,he⟩,h1⟩:=st
  exact ⟨⟨old,kk e (by simp) _ he⟩,h1.at fun o q=>kk it (by simp) o q⟩
 item:=by
  intro X hP hw hK hc i pins s U H E I hf st hg
  subst hP hw hK
  obtain ⟨⟨old,he⟩,h1⟩:=st
  obtain ⟨xs,x,hq,hx⟩:=hg
  obtain ⟨its,rv,p,_⟩:=I.list hq
  obtain ⟨u,hu,ru⟩:=rv.get hx
  refine wpAny_pyNext_enum_item he h1 p.isList (x:=u) (by simpa using hu) hne fun h' a1 a2 a3 a4 hk=>?_
  refine ⟨_,rfl,wpAny_letOwnedTupleGo_enum a1 fun h'' a1' sb=>?_⟩
  have lt:∀ {c o},s.heap.get? c=some o->s.heap.objs.size≠c:=fun e=>Nat.ne_of_gt (Heap.lt_size e)
  have lti:s.heap.objs.size≠it:=by obtain ⟨o,q,_⟩:=h1;exact lt q
  have isT:h''.IsTuple s.heap.objs.size #[.int i s.toks,u]:=⟨_,sb.extBut _ _ (lt he) a3,rfl,_,rfl⟩
  have kall:∀ b o,b ∉ [e,it]->s.heap.get? b=some o->h''.get? b=some o:=fun b o hb q=>by
   simp only [List.mem_cons,List.mem_nil_iff,or_false,not_or] at hb
   exact sb.extBut _ _ hb.1 (hk b o hb.1 hb.2 q)
  have hTn:H s.heap.objs.size=none:=I.hok.fresh (Nat.le_refl _)
  refine ⟨.ref s.heap.objs.size,_,I.newtup (tk:=s.toks+1) hf (Nat.le_refl _) kall isT (xs:=[.int i,x]) (.cons ⟨_,rfl⟩ (.cons ru .nil)) (by simp;decide),rfl,⟨_,x,hTn,rfl,fun zs hs=>by rw [I.list_inj hs hq];exact hx,rfl⟩,?_,fun b hb=>?_⟩
  ·exact ⟨⟨_,a1'⟩,a2.extBut sb.extBut (Ne.symm hne)⟩
  ·have:s.heap.objs.size≠b:=by
    simp only [List.mem_cons,List.mem_nil_iff,or_false] at hb
    rcases hb with rfl | rfl
    ·exact lt he
    ·exact lti
   rw [aA (Ne.symm this)]
   exact (hf b hb).1
 done:=by
  intro X hP hw hK hc i pins s U H E I hf st hg
  subst hP hw hK
  obtain ⟨⟨old,he⟩,h1⟩:=st
  obtain ⟨xs,hq,hx⟩:=hg
  obtain ⟨its,rv,p,_⟩:=I.list hq
  have l1:=rv.length
  refine wpAny_pyNext_enum_end (I.ok.hd hc) he h1 p.isList (by simp;omega) fun h' hk=>⟨rfl,I.only (tk:=s.toks) hf fun b o hb q=>?_⟩
  simp only [List.mem_cons,List.mem_nil_iff,or_false,not_or] at hb
  exact hk b o hb.2 q
 self:=fun _ _ _ _ _ st h=>let ⟨⟨_,he⟩,_⟩:=st;wpAny_pyIter_enum he h
theorem wD {X:Cx} {elts:List Expr} {k:Nat} {tp:Pos} {pins:List (Addr×Obj)} {U:St} {H1:Hp} {s1:Shared} {x:Str} {t:Tok} {R:It->Hp->Prop} (hc:X.calm=true) (I1:Inv X pins U H1 s1) (q:R (Nj (rY x) x.cps.size) H1):
  wpAny (model X.prog X.w) X.A (call (.type "enumerate") [.str x t]) (fun v s1=>wpAny (model X.prog X.w) X.A (pyIter v) (PIE X pins U (.Tuple elts k tp) R) X.xe s1) X.xe s1:=by
 refine call_enumerate_str fun h' he hit hsz hk=>?_
 have J1:Inv X pins U H1 {s1 with heap:=h'}:=I1.kept (t':=s1.toks) hk
 have ne1:s1.heap.objs.size+1≠s1.heap.objs.size:=Nat.succ_ne_self _
 have nm:s1.heap.objs.size+1 ∉ [s1.heap.objs.size]:=fun z=>ne1 (List.mem_singleton.mp z)
 have hPt:∀ (i:Nat) (vals:Array Value),(∃ t y,SignAt x i y/\vals= #[.int i t,y])->Vals (rY x i) vals.toList:=by
  rintro i vals ⟨t,y,⟨c,u,e1,rfl⟩,rfl⟩
  refine .cons ⟨t,rfl⟩ (.cons ⟨u,?_⟩ .nil)
  rw [show x.cps.getD i 0=c by simp [Array.getD_eq_getD_getElem?,e1]]
 have fin:∀ (ty:String) (Dr:∀ A:Around,A.handled=none->Draws X.prog X.w A s1.heap.objs.size [s1.heap.objs.size] x.cps.size (SignAt x) fun i h=>h.IsStrIter s1.heap.objs.size ty x t i),h'.IsStrIter s1.heap.objs.size ty x t 0->
   wpAny (model X.prog X.w) X.A (pyIter (.ref (s1.heap.objs.size+1))) (PIE X pins U (.Tuple elts k tp) R) X.xe {s1 with heap:=h'}:=by
  intro ty Dr hit'
  have W:∀ A:Around,A.handled=none->WalksT X.prog X.w A (s1.heap.objs.size+1) [s1.heap.objs.size+1,s1.heap.objs.size] [s1.heap.objs.size+1,s1.heap.objs.size] x.cps.size
    (fun i vals=>∃ t y,SignAt x i y/\vals= #[.int i t,y]) (fun i h=>(∃ old,IsEnum h (s1.heap.objs.size+1) s1.heap.objs.size i old)/\h.IsStrIter s1.heap.objs.size ty x t i)
    (fun i T h=>(∃ y,IsEnumOut h (s1.heap.objs.size+1) s1.heap.objs.size ((i:Int)+1) y T)/\h.IsStrIter s1.heap.objs.size ty x t (i+1)/\T≠s1.heap.objs.size+1/\T≠s1.heap.objs.size):=
   fun A hA=>WalksT.enumerateD (Dr A.in1 hA) (s1.heap.objs.size+1) ne1 nm (by simp)
  have hself:∀ (A:Around) (i:Nat) (s:Shared) (Q:Value->Shared->Prop) (E:Value->Shared->Prop),((∃ old,IsEnum s.heap (s1.heap.objs.size+1) s1.heap.objs.size i old)/\s.heap.IsStrIter s1.heap.objs.size ty x t i)->Q (.ref (s1.heap.objs.size+1)) s->wpAny (model X.prog X.w) A (pyIter (.ref (s1.heap.objs.size+1))) Q E s:=by
   rintro A i s Q E ⟨⟨old,he⟩,_⟩ hQ
   exact wpAny_pyIter_enum he hQ
  refine hself _ 0 _ _ _ ⟨⟨_,he⟩,hit'⟩ ?_
  refine ⟨s1.heap.objs.size+1,[s1.heap.objs.size+1,s1.heap.objs.size],_,_,H1,rfl,J1,Ho W (fun i=>by simp [rY];decide) hPt (by simp) ?_ hself,⟨⟨_,he⟩,hit'⟩,fun b hb=>?_,q⟩
  ·rintro i h ⟨⟨old,he⟩,o,ho,hcl,hd⟩ b hb
   rcases List.mem_cons.mp hb with rfl | hb
   ·exact ⟨_,he,fun v z=>by cases z⟩
   ·rw [List.mem_singleton.mp hb]
    exact ⟨o,ho,fun v z=>by rw [hd] at z;cases z⟩
  ·have hb':s1.heap.objs.size<=b:=by
    rcases List.mem_cons.mp hb with rfl | hb
    ·exact Nat.le_succ _
    ·rw [List.mem_singleton.mp hb];exact Nat.le_refl _
   exact I1.fpOk hb' (I1.hok.fresh hb')
 cases hx:x.cps.all (· < 128)
 ·exact fin "str_iterator" (fun A hA=>Draws.strWide hA _ x t) (by simpa [strIterType,hx] using hit)
 ·exact fin "str_ascii_iterator" (fun A hA=>Draws.strAscii hA _ x t) (by simpa [strIterType,hx] using hit)
def Es (K:W.Frag) (ta:TA):TI:=fun U H R=>ta U H fun vs H1=>(∃ x:Str,vs=[.str x]/\R (Nj (rY x) x.cps.size) H1)\/∃ a xs,vs=[.ref a]/\SqL K H1 a xs/\R (Nk K a) H1
theorem qR {X:Cx} {K:W.Frag} {a:Expr} {ta:TA} {elts:List Expr} {k:Nat} {tp p pos:Pos} (hK:X.K=K) (hc:X.calm=true) (hg:Gl X "enumerate") (hm:X.mg "enumerate"=none) (ha:JA X [a] ta) (h:autoParam (notStar a=true) L2.auto4._auto_1):
  JI X (.Tuple elts k tp) (.Call (.Name "enumerate" p) [a] [] pos) (Es K ta):=⟨by
 subst hK
 intro pins s U H R I hq
 refine Call_ (fX I hg hm qM (PyProof.Rows.callWith_type1 (cP (ha.run pos pins s U H _ I hq) fun us s1 qq0=>?_) (bI h) rfl))
 obtain ⟨vs,H1,I1,r1,q1⟩:=qq0
 rcases q1 with ⟨x,e,q⟩ | ⟨l,xs,e,hl,q⟩
 ·subst e
  obtain ⟨u,rfl,t,rfl⟩:=vals1 r1
  exact wD hc I1 q
 ·subst e
  obtain ⟨u,rfl,ru⟩:=vals1 r1
  cases ru
  obtain ⟨its,rv,p1,_⟩:=I1.list hl
  refine call_enumerate_list p1.isList fun h' z1 z2 z3 hk=>?_
  have J1:Inv X pins U H1 {s1 with heap:=h'}:=I1.kept (t':=s1.toks) hk
  refine wpAny_pyIter_enum z1 ?_
  refine ⟨s1.heap.objs.size+1,_,_,_,H1,rfl,J1,uo (Nat.succ_ne_self _),⟨⟨_,z1⟩,z2⟩,fun b hb=>?_,q⟩
  have hb':s1.heap.objs.size<=b:=by
   simp only [List.mem_cons,List.mem_nil_iff,or_false] at hb
   have key:∀ n c:Nat,(c=n+1\/c=n)->n<=c:=fun n c h=>by omega
   exact key _ _ hb
  exact I1.fpOk hb' (I1.hok.fresh hb')⟩
end L2
namespace L2
open PySem PySem.Spec PyProof.Rows PySem.SeqAt
mutual
def DR (H:Hp):PyData->V->Prop
 | .none,v=>v= .non
 | .bool b,v=>v= .bl b
 | .int n,v=>v= .int n
 | .str x,v=>v= .str x
 | .list ds,v=>∃ a vs,v= .ref a/\H a=some (.lst vs)/\DRs H ds vs
 | .tuple ds,v=>∃ a vs,v= .ref a/\H a=some (.tup vs)/\DRs H ds vs
 | .dict _,_=>False
def DRs (H:Hp):List PyData->List V->Prop
 | [],vs=>vs=[]
 | d :: ds,vs=>∃ v r,vs=v :: r/\DR H d v/\DRs H ds r
end
theorem Hr {H:Hp} {n:Int} {v:V}:DR H (.int n) v↔v= .int n:=by rw [DR]
theorem nF {H:Hp} {v:V}:DR H .none v↔v= .non:=by rw [DR]
theorem vh {H:Hp} {ds:List PyData} {v:V}:DR H (.list ds) v↔∃ a vs,v= .ref a/\H a=some (.lst vs)/\DRs H ds vs:=by rw [DR]
theorem yV {H:Hp} {ds:List PyData} {v:V}:DR H (.tuple ds) v↔∃ a vs,v= .ref a/\H a=some (.tup vs)/\DRs H ds vs:=by rw [DR]
theorem vm {H:Hp} {vs:List V}:DRs H [] vs↔vs=[]:=by rw [DRs]
theorem rZ {H:Hp} {d:PyData} {ds:List PyData} {vs:List V}:DRs H (d :: ds) vs↔∃ v r,vs=v :: r/\DR H d v/\DRs H ds r:=by rw [DRs]
theorem oJ {H:Hp}:∀ (ns:List Int),DRs H (ns.map PyData.int) (ns.map V.int)
 | []=>vm.mpr rfl
 | n :: ns=>rZ.mpr ⟨_,_,rfl,Hr.mpr rfl,oJ ns⟩
mutual
theorem DR.reads {P:Program} {w:World} {H:Hp} {h:Heap} (ok:HOk P w H h):∀ (d:PyData) (v:V) (u:Value),DR H d v->RelV v u->∃ as,Reads h u d as
 | .none,_,u,q,r=>by rw [DR] at q;subst q;cases r;exact ⟨_,.none⟩
 | .bool b,_,u,q,r=>by rw [DR] at q;subst q;cases r;exact ⟨_,.bool _⟩
 | .int n,_,u,q,r=>by rw [DR] at q;subst q;obtain ⟨t,rfl⟩:=r;exact ⟨_,.int _ _⟩
 | .str n,_,u,q,r=>by rw [DR] at q;subst q;obtain ⟨t,rfl⟩:=r;exact ⟨_,.str _ _⟩
 | .list ds,v,u,q,r=>by
  rw [DR] at q
  obtain ⟨a,vs,rfl,e,t⟩:=q
  cases r
  obtain ⟨_,its,n,rv,g⟩:=ok a _ e
  obtain ⟨as,ra⟩:=DRs.reads ok ds vs its t rv
  exact ⟨_,.list g rfl rfl (by simpa using ra)⟩
 | .tuple ds,v,u,q,r=>by
  rw [DR] at q
  obtain ⟨a,vs,rfl,e,t⟩:=q
  cases r
  obtain ⟨_,its,rv,g⟩:=ok a _ e
  obtain ⟨as,ra⟩:=DRs.reads ok ds vs its t rv
  obtain ⟨o,ho,hc,n,hd⟩:=g
  exact ⟨_,.tuple ho hc hd (by simpa using ra)⟩
 | .dict _,_,_,q,_=>by rw [DR] at q;exact q.elim
theorem DRs.reads {P:Program} {w:World} {H:Hp} {h:Heap} (ok:HOk P w H h):∀ (ds:List PyData) (vs:List V) (us:List Value),DRs H ds vs->Vals vs us->∃ as,ReadsAll h us ds as
 | [],_,us,q,r=>by rw [DRs] at q;subst q;cases r;exact ⟨_,.nil⟩
 | d :: ds,_,us,q,r=>by
  rw [DRs] at q
  obtain ⟨v,r',rfl,q1,q2⟩:=q
  cases r with
  | cons a b=>
   obtain ⟨as,h1⟩:=DR.reads ok d v _ q1 a
   obtain ⟨bs,h2⟩:=DRs.reads ok ds r' _ q2 b
   exact ⟨_,.cons h1 h2⟩
end
def K1:R2:=fun x y H Q=>∃ d e,DR H d x/\DR H e y/\shaped d=true/\shaped e=true/\Q (.bl (PyData.eqv d e)) H
def K3:R2:=fun x y H Q=>∃ d e,DR H d x/\DR H e y/\shaped d=true/\shaped e=true/\Q (.bl (!PyData.eqv d e)) H
section
variable {X:Cx}
theorem Hs (hu:X.A.units+64 < cLine):OpR X (compareOp .Eq) K1:=by
 intro pins s U H x y v u Q I rx ry h
 obtain ⟨d,e,h1,h2,h3,h4,q⟩:=h
 obtain ⟨as,r1⟩:=DR.reads I.hok d x v h1 rx
 obtain ⟨bs,r2⟩:=DR.reads I.hok e y u h2 ry
 exact eq_dataH r1 r2 h3 h4 hu ⟨.bl _,H,I,rfl,q⟩
theorem Ht (hu:X.A.units+64 < cLine):OpR X (compareOp .NotEq) K3:=by
 intro pins s U H x y v u Q I rx ry h
 obtain ⟨d,e,h1,h2,h3,h4,q⟩:=h
 obtain ⟨as,r1⟩:=DR.reads I.hok d x v h1 rx
 obtain ⟨bs,r2⟩:=DR.reads I.hok e y u h2 ry
 exact ne_dataH r1 r2 h3 h4 hu ⟨.bl _,H,I,rfl,q⟩
def Cj (K:W.Frag):R2:=fun x y H Q=>Hc K x y H Q\/K1 x y H Q
def Hu (K:W.Frag):R2:=fun x y H Q=>KZ K x y H Q\/K3 x y H Q
theorem Hv {K:W.Frag} (hK:X.K=K) (hu:X.A.units+64 < cLine):OpR X (compareOp .Eq) (Cj K):=(Hi hK (Nat.lt_of_le_of_lt (Nat.le_add_right _ _) hu)).or (Hs hu)
theorem Hw {K:W.Frag} (hK:X.K=K) (hu:X.A.units+64 < cLine):OpR X (compareOp .NotEq) (Hu K):=(Hq hK hu).or (Ht hu)
end
section
variable {H:Hp} {Q:VK} {K:W.Frag} {U:St}
theorem dW {i j:Int} (h:Q (.bl (decide (V.int i=V.int j))) H):Cj K (.int i) (.int j) H Q:=.inl (.inl ⟨rfl,h⟩)
theorem lU {x y:V} {d:PyData} (h1:DR H d x) (h2:DR H d y) (hs:shaped d=true) (h:Q (.bl true) H):Cj K x y H Q:=
 .inr ⟨d,d,h1,h2,hs,hs,by rw [PySem.SeqAt.eqv_refl d (canLay_of_shaped hs)];exact h⟩
theorem sr {x y:V} {d:PyData} (h1:DR H d x) (h2:DR H d y) (hs:shaped d=true) (h:Q (.bl false) H):Hu K x y H Q:=
 .inr ⟨d,d,h1,h2,hs,hs,by rw [PySem.SeqAt.eqv_refl d (canLay_of_shaped hs)];exact h⟩
theorem cY {a:TA} {R:It->Hp->Prop} (h:a U H fun vs H1=>(∃ x:Str,vs=[.str x]/\R (Nj (rY x) x.cps.size) H1)\/∃ a xs,vs=[.ref a]/\SqL K H1 a xs/\R (Nk K a) H1):Es K a U H R:=h
end
end L2
namespace L2
open PySem PySem.Spec PyProof.Rows
theorem yW:typeLookup (.type "list_reverseiterator") "__len__"=pure none:=by rw [typeLookup_type,builtinLookup_eq_fast];kernel_rfl
theorem wF:typeLookup (.type "list_reverseiterator") "__length_hint__"=pure (some (.builtin "list_reverseiterator.__length_hint__")):=by rw [typeLookup_type,builtinLookup_eq_fast];kernel_rfl
section
variable {prog:Program} {w:World} {A:Around} {E:Value->Shared->Prop} {s:Shared}
theorem yX {it l:Addr} {i:Int} {Q:Bool->Shared->Prop} (hit:s.heap.IsRevIter it l i) (h:Q false s):wpAny (model prog w) A (Builtin.List.listLengthHint (.ref it)) Q E s:=by
 unfold Builtin.List.listLengthHint
 refine wpAny_bind (wpAny_specialOf hit.typeIs yW ?_)
 show wpAny _ _ (specialOf (Value.ref it) (Str.ofString "__length_hint__") >>=_) _ _ _
 refine wpAny_bind (wpAny_specialOf hit.typeIs wF ?_)
 generalize hid:("list_reverseiterator.__length_hint__":String)=id0
 wp_delta
 rw [show splitId id0=some ("list_reverseiterator","__length_hint__") from by subst hid;trivial]
 subst hid
 refine wpAny_bind (wpAny_isInstance (T:="list_reverseiterator") (b:=true) hit.typeIs (by rw [isSubtype_type];kernel_rfl) ?_)
 refine wpAny_ite_split (fun hab=>absurd hab (by decide)) (fun _=>?_)
 refine wpAny_ite_split (fun _=>?_) (fun hab=>absurd (by trivial) hab)
 refine wpAny_ite_split (fun hab=>absurd hab (by trivial)) (fun _=>?_)
 exact wpAny_pure h
theorem yZ {it l:Addr} {items:Array Value} {Q:Value->Shared->Prop} (hh:A.handled=none) (hit:s.heap.IsRevIter it l ((items.size:Int) - 1)) (hl:s.heap.IsList l items) (hne:l≠it) (hn:items.size<=sizeLine)
  (hQ:∀ h' tk acc' c',(∀ b o,b≠it->s.heap.get? b=some o->h'.get? b=some o)->h'.get? s.heap.objs.size=some {cls:=.type "list",dict:=none,data:=.seq acc' c',slots:=#[]}->
   ItemsOf (fun i v=>items[items.size - 1 - i]?=some v) acc' items.size->Q (.ref s.heap.objs.size) {s with heap:=h',toks:=tk}):
  wpAny (model prog w) A (call (.type "list") [.ref it]) Q E s:=by
 refine callType_codes (Q₁:=fun obj s₁=>obj= .ref s.heap.objs.size/\s₁={s with heap:=s.heap.push {cls:=.type "list",data:=.seq #[]}}) F.called_list (F.typeCall_list_1 _) F.entry_list_init
  (code_list_new _ ⟨rfl,rfl⟩) fun obj s₁ h₁=>?_
 obtain ⟨rfl,rfl⟩:=h₁
 have iti:it < s.heap.objs.size:=by obtain ⟨o,e,_⟩:=hit;exact Heap.lt_size e
 have itl:l < s.heap.objs.size:=by obtain ⟨o,e,_⟩:=hl;exact Heap.lt_size e
 generalize hS0:s.heap.objs.size=S at iti itl hQ
 have hS:(s.heap.push {cls:=.type "list",data:=.seq #[]}).get? S=some {cls:=.type "list",data:=.seq #[]}:=by rw [← hS0];exact Heap.get?_push_size _ rfl
 have kp:∀ b o,s.heap.get? b=some o->(s.heap.push {cls:=.type "list",data:=.seq #[]}).get? b=some o:=fun b o e=>Heap.get?_push_of_some _ e
 generalize s.heap.push {cls:=.type "list",data:=.seq #[]}=h1 at hS kp
 have hit1:h1.IsRevIter it l ((items.size:Int) - 1):=hit.at fun o e=>kp it o e
 have hl1:h1.IsList l items:=hl.at fun o e=>kp l o e
 refine ⟨⟨_,hS,rfl⟩,F.args_list_init_2 _ _,?_⟩
 have nSi:S≠it:=Nat.ne_of_gt iti
 have nSl:S≠l:=Nat.ne_of_gt itl
 have hSf:S ∉ [it,l]:=by simp [nSi,nSl]
 have W:=(Walks.listRev (prog:=prog) (w:=w) (A:=A.in1.in1) hh it l hne items).toS
 show wpAny _ A.in1.in1 (do let old ← Builtin.List.listItems (.ref S);Builtin.List.listUpdate (.ref S) (fun _=>#[]);letGo old.toList.reverse;Builtin.List.listExtendWith (.ref S) (.ref it) .none) _ _ _
 unfold Builtin.List.listItems
 refine wpAny_bind (wpAny_bind (wpAny_seqItems hS rfl (wpAny_pure ?_)))
 show wpAny _ A.in1.in1 (updateSeq S (fun _=>#[]) >>=fun _=>letGo (#[]:Array Value).toList.reverse >>=fun _=>Builtin.List.listExtendWith (.ref S) (.ref it) .none) _ _ _
 refine wpAny_bind (wpAny_updateSeq hS rfl ?_)
 have hS2:=Heap.get?_update_self (Obj.mapSeq (fun _=>(#[]:Array Value))) hS rfl
 have k2:∀ b o,b≠S->h1.get? b=some o->(h1.update S (Obj.mapSeq (fun _=>(#[]:Array Value)))).get? b=some o:=fun b o hb e=>(Heap.get?_update_other _ _ (Ne.symm hb)).trans e
 generalize h1.update S (Obj.mapSeq (fun _=>(#[]:Array Value)))=h2 at hS2 k2
 have hit2:=hit1.at (h':=h2) fun o e=>k2 it o (Ne.symm nSi) e
 have hl2:=hl1.at (h':=h2) fun o e=>k2 l o (Ne.symm nSl) e
 refine wpAny_bind (wpAny_letGo ?_)
 unfold Builtin.List.listExtendWith
 refine wpAny_bind (wpAny_typeOf (T:="list_reverseiterator") (Heap.IsRevIter.typeIs (s:={s with heap:=h2}) hit2) ?_)
 have e1:Builtin.List.listSameRef (.ref S) (.ref it)=false:=by simp [Builtin.List.listSameRef,nSi]
 have e2:(Value.type "list_reverseiterator" == Value.type "list")=false:=by decide
 have e3:(Value.type "list_reverseiterator" == Value.type "tuple")=false:=by decide
 simp only [e1,e2,e3,Bool.or_false,Bool.false_eq_true,if_false]
 refine wpAny_bind (wpAny_pyIter_revIter (s:={s with heap:=h2}) hit2 ?_)
 refine wpAny_bind (wpAny_holding (yX (s:={s with heap:=h2}) hit2 ?_))
 refine wpAny_ite_split (fun hab=>absurd hab (by trivial)) (fun _=>?_)
 refine wpAny_pure ⟨plainId_quiet F.plain_extend_loop _,?_⟩
 refine codeAny_extend_loopS W hn S hSf .none items.size 0 _ #[] _ rfl (Nat.zero_le _) ⟨Nat.zero_le _,by simpa using hit2,hl2⟩ hS2 (ItemsOf.nil _) fun s' acc' c' hm hS' hacc=>?_
 rw [Moved.eq_with hm]
 refine ⟨rfl,hQ s'.heap s'.toks acc' c' (fun b o hb e=>hm.heap b o (fun hmem=>?_) (k2 b o (fun z=>?_) (kp b o e))) hS' hacc⟩
 ·rcases List.mem_cons.mp hmem with e' | hmem
  ·exact absurd (Heap.lt_size e) (by rw [e',hS0];exact Nat.lt_irrefl _)
  ·exact hb (List.mem_singleton.mp hmem)
 ·exact absurd (Heap.lt_size e) (by rw [z,hS0];exact Nat.lt_irrefl _)
end
section
variable {X:Cx} {K:W.Frag} {a b c e:Expr} {ta tb tc te:TE} {pos p p2 p3:Pos}
theorem Ck {op op':CmpOp} {r r':R2} (ho:OpR X (compareOp op) r) (ho':OpR X (compareOp op') r') (ha:JE X a ta) (hb:JE X b tb) (hc:JE X c tc) (hm:autoParam (lastMarks [op,op'] [b,c]=false) L2.auto5._auto_1):
  JE X (.Compare a [op,op'] [b,c] pos) (tR r r' ta tb tc):=⟨xQ ho ho' ha.run hb.run hc.run hm⟩
theorem arg1 {Q:List Value->Shared->Prop} {E:Value->Shared->Prop} {s:Shared} (hs:notStar e=true) (h:wpAny (model X.prog X.w) X.A (eval e X.env) (fun u s1=>Q [u] s1) E s):wpAny (model X.prog X.w) X.A (spliced (backTo pos (starEach [e] X.env))) Q E s:=by
 rw [bI hs]
 show wpAny _ _ (spliced ((false,eval e X.env) :: backTo pos (starEach [] X.env))) _ _ s
 exact Calls.spliced_cons (wpAny_mono h (fun u s1 q=>Calls.spliced_nil q) fun _ _ z=>z)
def za (K:W.Frag) (ta:TE):TE:=fun U H Q=>ta U H fun x H1=>∃ l xs,x= .ref l/\SqL K H1 l xs/\∀ q,H1 q=none->Q (.ref q) (upd H1 q (.lst xs.reverse))
theorem wG (hK:X.K=K) (hc:X.calm=true) (hg:Gl X "list") (hm:X.mg "list"=none) (hg2:Gl X "reversed") (hm2:X.mg "reversed"=none) (ha:JE X a ta) (h:autoParam (notStar a=true) L2.auto4._auto_1):
  JE X (.Call (.Name "list" p) [.Call (.Name "reversed" p2) [a] [] p3] [] pos) (za K ta):=⟨by
 subst hK
 intro pins s U H Q I hq
 refine wpAny_Call_Name_kw (fX I hg hm jO (PyProof.Rows.callWith_type1 (arg1 rfl (wpAny_Call_Name_kw (fX I hg2 hm2 mY (PyProof.Rows.callWith_type1 (arg1 h (cP (ha.run pins s U H _ I hq) fun u s1 qq0=>?_)) (bI h) rfl)))) rfl rfl))
 obtain ⟨x,H1,I1,rx,l,xs,ex,hx,q⟩:=qq0
 subst ex
 cases rx
 obtain ⟨its,r,ht,hz⟩:=I1.list hx
 have hlen:=r.length
 refine call_reversed_list ht.isList ?_
 have lt:l < s1.heap.objs.size:=by obtain ⟨o,ho,_⟩:=ht.isList;exact Heap.lt_size ho
 have e0:(s1.heap.push (PySem.revObj l ((its.toArray.size:Int) - 1))).get? s1.heap.objs.size=some (PySem.revObj l ((its.toArray.size:Int) - 1)):=Heap.get?_push_size _ rfl
 have k0:∀ b o,s1.heap.get? b=some o->(s1.heap.push (PySem.revObj l ((its.toArray.size:Int) - 1))).get? b=some o:=fun b o q=>Heap.get?_push_of_some _ q
 have s0:(s1.heap.push (PySem.revObj l ((its.toArray.size:Int) - 1))).objs.size=s1.heap.objs.size+1:=Heap.size_push ..
 refine yZ (it:=s1.heap.objs.size) (l:=l) (I1.ok.hd hc) ⟨_,e0,rfl,rfl⟩ (ht.isList.at fun o q=>k0 l o q) (Nat.ne_of_lt lt) (by simp;omega) fun h' tk acc' c' hk hS hacc=>?_
 have eacc:acc'.toList=its.reverse:=by
  apply List.ext_getElem?
  intro i
  have a1:acc'.size=its.length:=by have:=hacc.1;simpa using this
  by_cases hi:i < its.length
  ·have hi':i < acc'.size:=by omega
   have a2:=hacc.2 i acc'[i] (Array.getElem?_eq_getElem hi')
   rw [List.getElem?_reverse hi]
   simp at a2
   rw [a2]
   simp [hi']
  ·rw [List.getElem?_eq_none (by simp;omega),List.getElem?_eq_none (by simp;omega)]
 have rr:Vals xs.reverse acc'.toList:=by rw [eacc];exact r.reverse
 have k1:∀ b o,s1.heap.get? b=some o->h'.get? b=some o:=fun b o z=>hk b o (Nat.ne_of_lt (Heap.lt_size z)) (k0 b o z)
 have hle:s1.heap.objs.size<=(s1.heap.push (PySem.revObj l ((its.toArray.size:Int) - 1))).objs.size:=by rw [s0];exact Nat.le_succ _
 refine ⟨.ref _,_,I1.laid (t':=tk) (o:=.lst xs.reverse) k1 hle ⟨by simp;omega,acc'.toList,c',rr,by simpa using hS⟩,rfl,q _ (I1.hok.fresh hle)⟩⟩
end
def wH (h:Heap) (T:Addr):Prop:=∃ oT ts,h.get? T=some oT/\oT.data= .fields ts/\3 < ts.size
def km (C:Addr) (dd:Option Addr) (vs:Array Value):Obj:={cls:=.ref C,dict:=dd,data:=.fields vs}
def Cm (l:List Env):List Addr:=l.filterMap (·.frame)
section
variable {M:Model} {A:Around} {E:Value->Shared->Prop}
theorem qe {base:Heap} {env:Env} {outer:List Env} {L x C:Addr} {dd:Option Addr} {vs:Array Value} {hd:Value} {had:Bool} {Q:Unit->Shared->Prop} {s:Shared}
  (fr:A.frames=some (env :: outer)) (ff:s.heap.FunFrames base (env :: outer)) (fL:env.frame=some L) (ex:s.heap.get? x=some (km C dd vs)) (sz:1 < vs.size) (nx:x ∉ Cm (env :: outer))
  (k:∀ h' T,h'.get? x=some (km C dd (vs.setIfInBounds 1 (.ref T)))->s.heap.objs.size<=T->wH h' T->(∀ b o,b≠x->b ∉ Cm (env :: outer)->s.heap.get? b=some o->h'.get? b=some o)->
   (∀ b o,b≠x->s.heap.get? b=some o->∃ sl,h'.get? b=some {o with slots:=sl})->Q () {s with heap:=h'}):
  wpAny M A (do let c ← frameOf env;let pl ← entryPlaceOf L had;let t ← EntryCells.newEntry hd c .none (rawInt L) .none pl;setField (.ref x) 1 t) Q E s:=by
 refine wpAny_bind (wpAny_frameOf_fun fr ff fL fun g1 so=>?_)
 refine wpAny_bind (wpAny_entryPlaceOf fun pl isp=>?_)
 unfold EntryCells.newEntry newFields
 refine wpAny_bind (wpAny_newObj_type ?_ (isp.sizeOk5 _ _ _ _ _))
 have x1:g1.get? x=some (km C dd vs):=(so.2.1 x nx).trans ex
 have lts:([hd,Value.ref L,.none,rawInt L,.none] ++ (if pl.isEmpty then List.replicate 6 Value.none else pl)).toArray.size > 3:=by
  simp only [List.size_toArray,List.length_append,List.length_cons,List.length_nil];omega
 generalize ([hd,Value.ref L,.none,rawInt L,.none] ++ (if pl.isEmpty then List.replicate 6 Value.none else pl)).toArray=tv at lts
 have x2:(g1.push {cls:=.type "traceback",dict:=none,data:=.fields tv}).get? x=some (km C dd vs):=Heap.get?_push_of_some _ x1
 have nTx:g1.objs.size≠x:=Nat.ne_of_gt (Heap.lt_size x1)
 have t2:(g1.push {cls:=.type "traceback",dict:=none,data:=.fields tv}).get? g1.objs.size=some {cls:=.type "traceback",dict:=none,data:=.fields tv}:=Heap.get?_push_size _ rfl
 have o2:∀ b o,g1.get? b=some o->(g1.push {cls:=.type "traceback",dict:=none,data:=.fields tv}).get? b=some o:=fun b o e=>Heap.get?_push_of_some _ e
 refine wpAny_setField (vs:=vs) x2 rfl sz ?_
 have e3:=Heap.get?_update_self (Obj.mapFields (·.setIfInBounds 1 (Value.ref g1.objs.size))) x2 rfl
 have ot:∀ b,b≠x->((g1.push {cls:=.type "traceback",dict:=none,data:=.fields tv}).update x (Obj.mapFields (·.setIfInBounds 1 (Value.ref g1.objs.size)))).get? b=(g1.push {cls:=.type "traceback",dict:=none,data:=.fields tv}).get? b:=fun b hb=>Heap.get?_update_other _ _ (Ne.symm hb)
 refine k _ g1.objs.size e3 (by rw [so.1];exact Nat.le_refl _) ⟨_,tv,(ot _ nTx).trans t2,rfl,lts⟩ (fun b o hb hf e=>?_) (fun b o hb e=>?_)
 ·rw [ot b hb];exact o2 b o ((so.2.1 b hf).trans e)
 ·obtain ⟨sl,q⟩:=so.2.2 b o e
  exact ⟨sl,by rw [ot b hb];exact o2 b _ q⟩
structure vo (fs:List Addr) (x C:Addr) (dd:Option Addr) (hd:Option Addr) (h h':Heap) (T:Addr):Prop where
 obj:∃ vs,h'.get? x=some (km C dd vs)/\vs[1]?=some (.ref T)/\vs[2]?=some .none
 tb:wH h' T
 ne:T≠x
 new:h.objs.size<=T\/hd=some T
 keep:∀ b o,b≠x->some b≠hd->b ∉ fs->h.get? b=some o->h'.get? b=some o
 slot:∀ b o,b≠x->some b≠hd->h.get? b=some o->∃ sl,h'.get? b=some {o with slots:=sl}
 tail:∀ b o,hd=some b->h.get? b=some o->∃ o',h'.get? b=some o'
theorem K4 {base:Heap} {env:Env} {outer:List Env} {L x C:Addr} {dd:Option Addr} {vs:Array Value} {Q:Unit->Shared->Prop} {s:Shared}
  (fr:A.frames=some (env :: outer)) (ff:s.heap.FunFrames base (env :: outer)) (fL:env.frame=some L) (ex:s.heap.get? x=some (km C dd vs)) (h1:vs[1]?=some .none/\vs[2]?=some .none) (nx:x ∉ Cm (env :: outer))
  (k:∀ h' T,vo (Cm (env :: outer)) x C dd none s.heap h' T->Q () {s with heap:=h'}):wpAny M A (noteFrame (.ref x) env) Q E s:=by
 unfold noteFrame
 simp only [fL]
 refine wpAny_bind (wpAny_field ex rfl h1.1 ?_)
 rw [if_neg (by decide)]
 have sz:1 < vs.size:=(Array.getElem?_eq_some_iff.mp h1.1).1
 refine qe fr ff fL ex sz nx fun h' T a1 a2 a3 a4 a5=>k h' T ⟨⟨_,a1,by simp [sz],by rw [Array.getElem?_setIfInBounds_ne (by decide)];exact h1.2⟩,a3,?_,.inl a2,fun b o hb _ hf e=>a4 b o hb hf e,fun b o hb _ e=>a5 b o hb e,fun b o z=>by cases z⟩
 exact Nat.ne_of_gt (Nat.lt_of_lt_of_le (Heap.lt_size ex) a2)
theorem K5 {base:Heap} {env:Env} {outer:List Env} {L x C T0:Addr} {dd:Option Addr} {vs:Array Value} {Q:Unit->Shared->Prop} {s:Shared}
  (fr:A.frames=some (env :: outer)) (ff:s.heap.FunFrames base (env :: outer)) (fL:env.frame=some L) (ex:s.heap.get? x=some (km C dd vs)) (h1:vs[1]?=some (.ref T0)/\vs[2]?=some .none) (t0:wH s.heap T0) (ne:T0≠x) (nx:x ∉ Cm (env :: outer)) (nT:T0 ∉ Cm (env :: outer))
  (k:∀ h' T,vo (Cm (env :: outer)) x C dd (some T0) s.heap h' T->Q () {s with heap:=h'}):wpAny M A (noteFrame (.ref x) env) Q E s:=by
 obtain ⟨oT,ts,g,d,l3⟩:=id t0
 unfold noteFrame
 simp only [fL]
 refine wpAny_bind (wpAny_field ex rfl h1.1 ?_)
 rw [if_pos (show (Value.ref T0 != Value.none)=true from by simp)]
 refine wpAny_bind (wpAny_field g d (Array.getElem?_eq_getElem l3) ?_)
 by_cases q:(ts[3] == rawInt L)=true
 ·rw [if_pos q]
  exact wpAny_pure (k _ T0 ⟨⟨vs,ex,h1⟩,t0,ne,.inr rfl,fun b o _ _ _ e=>e,fun b o _ _ e=>⟨o.slots,e⟩,fun b o _ e=>⟨o,e⟩⟩)
 ·rw [if_neg q]
  refine wpAny_bind (wpAny_setField g d l3 ?_)
  have tT:=Heap.get?_update_self (Obj.mapFields (·.setIfInBounds 3 Value.none)) g (Obj.isFreed_of_fields (Obj.data_mapFields d _))
  have ot:∀ b,b≠T0->(s.heap.update T0 (Obj.mapFields (·.setIfInBounds 3 Value.none))).get? b=s.heap.get? b:=fun b hb=>Heap.get?_update_other _ _ (Ne.symm hb)
  have sz:1 < vs.size:=(Array.getElem?_eq_some_iff.mp h1.1).1
  have ff2:(s.heap.update T0 (Obj.mapFields (·.setIfInBounds 3 Value.none))).FunFrames base (env :: outer):=ff.of_keeps fun b o hb hn=>by
   refine ⟨o,(ot b (fun z=>?_)).trans hb,rfl⟩
   rw [z,g] at hb;cases hb;exact hn _ d
  refine qe (s:={s with heap:=s.heap.update T0 (Obj.mapFields (·.setIfInBounds 3 Value.none))}) fr ff2 fL ((ot x (Ne.symm ne)).trans ex) sz nx fun h' T a1 a2 a3 a4 a5=>k h' T ⟨⟨_,a1,by simp [sz],by rw [Array.getElem?_setIfInBounds_ne (by decide)];exact h1.2⟩,a3,?_,.inl (by rw [Heap.size_update] at a2;exact a2),fun b o hb h0 hf e=>a4 b o hb hf ((ot b (fun z=>h0 (by rw [z]))).trans e),fun b o hb h0 e=>a5 b o hb ((ot b (fun z=>h0 (by rw [z]))).trans e),fun b o hb e=>?_⟩
  ·exact Nat.ne_of_gt (Nat.lt_of_lt_of_le (Heap.lt_size ex) (by rw [Heap.size_update] at a2;exact a2))
  ·cases hb
   obtain ⟨sl,z⟩:=a5 T0 _ ne tT
   exact ⟨_,z⟩
theorem K6 {x C T0:Addr} {dd:Option Addr} {vs:Array Value} {Q:Unit->Shared->Prop} {s:Shared} (ex:s.heap.get? x=some (km C dd vs)) (h1:vs[1]?=some (.ref T0)/\vs[2]?=some .none) (t0:wH s.heap T0) (ne:T0≠x)
  (k:∀ h',vo [] x C dd (some T0) s.heap h' T0->Q () {s with heap:=h'}):wpAny M A (setFlight (.ref x) none) Q E s:=by
 obtain ⟨oT,ts,g,d,l3⟩:=id t0
 unfold setFlight
 refine wpAny_bind (wpAny_field ex rfl h1.1 ?_)
 rw [if_pos (show (Value.ref T0 != Value.none)=true from by simp)]
 refine wpAny_setField g d l3 (k _ ?_)
 have d2:=Obj.data_mapFields d (·.setIfInBounds 3 ((none:Option Addr).elim Value.none fun f=>rawInt f))
 have tT:=Heap.get?_update_self (Obj.mapFields (·.setIfInBounds 3 ((none:Option Addr).elim Value.none fun f=>rawInt f))) g (Obj.isFreed_of_fields d2)
 have ot:∀ b,b≠T0->(s.heap.update T0 (Obj.mapFields (·.setIfInBounds 3 ((none:Option Addr).elim Value.none fun f=>rawInt f)))).get? b=s.heap.get? b:=fun b hb=>Heap.get?_update_other _ _ (Ne.symm hb)
 exact ⟨⟨vs,(ot x (Ne.symm ne)).trans ex,h1⟩,⟨_,_,tT,d2,by simpa using l3⟩,ne,.inr rfl,fun b o _ h0 _ e=>(ot b (fun z=>h0 (by rw [z]))).trans e,fun b o _ h0 e=>⟨o.slots,(ot b (fun z=>h0 (by rw [z]))).trans e⟩,fun b o hb e=>by cases hb;exact ⟨_,tT⟩⟩
end
def VEm:List Value:=[.type "ValueError",.type "Exception",.type "BaseException",.type "object"]
def xIn (K:W.Frag) (D:Addr):Bool:=match K.lookup D with
 | some ⟨.type "type",_,.cls cd,sl⟩=>(match cd.mro,sl.toList with
  | .ref E :: bm,[_,_,_,_,some (.builtin n),_]=>E == D && n == "ValueError.__new__" && cd.hasDel == false && cd.hasDict && PySem.W.tailIn K VEm bm
  | _,_=>false)
 | _=>false
def uq (x C dx:Addr):HO:=.ext fun h=>∃ vs,h.get? x=some (km C (some dx) vs)/\vs[2]?=some .none
theorem Cp {P:Program} {w:World} {H:Hp} {h:Heap} {x C dx:Addr} {vs:Array Value} (e:h.get? x=some (km C (some dx) vs)) (h2:vs[2]?=some .none):ObjOk P w H h x (uq x C dx):=
 ⟨⟨vs,e,h2⟩,⟨_,e⟩,fun h1 h2 ⟨vs,e,z⟩ k=>⟨vs,k _ e,z⟩⟩
theorem Cq {P:Program} {w:World} {H:Hp} {h:Heap} {x C dx:Addr} (ok:HOk P w H h) (e:H x=some (uq x C dx)):∃ vs,h.get? x=some (km C (some dx) vs)/\vs[2]?=some .none:=(ok _ _ e).1
structure Head (X:Cx) (pins:List (Addr×Obj)) (H:Hp) (x C dx T:Addr) (h:Heap):Prop where
 obj:∃ vs,h.get? x=some (km C (some dx) vs)/\vs[1]?=some (.ref T)/\vs[2]?=some .none
 tb:wH h T
 fp:FpOk X pins H T
 tr:H x=some (uq x C dx)
theorem Head.ne {X:Cx} {pins:List (Addr×Obj)} {H:Hp} {x C dx T:Addr} {h:Heap} (a:Head X pins H x C dx T h):T≠x:=fun z=>by
 have:=a.fp.1
 rw [z,a.tr] at this;cases this
def Fly (X:Cx) (pins:List (Addr×Obj)) (H:Hp) (x C dx:Addr) (h:Heap):Prop:=
 H x=some (uq x C dx)/\((∃ vs,h.get? x=some (km C (some dx) vs)/\vs[1]?=some .none/\vs[2]?=some .none)\/∃ T,Head X pins H x C dx T h)
section
variable {X:Cx} {pins:List (Addr×Obj)} {U:St} {H:Hp} {s:Shared} {x C dx:Addr} {h':Heap} {T:Addr} {hd:Option Addr}
theorem Inv.noted {fs:List Addr} (I:Inv X pins U H s) (hx:H x=some (uq x C dx)) (hh:∀ b,hd=some b->FpOk X pins H b) (hf:∀ b∈fs,b∈X.env.locals :: X.fs) (N:vo fs x C (some dx) hd s.heap h' T):Inv X pins U H {s with heap:=h'}:=by
 obtain ⟨m,⟨oL,esL,epL,hoL,rL⟩,_⟩:=id I.loc
 have fsF:∀ b∈fs,H b=none:=fun b hb=>by
  rcases List.mem_cons.mp (hf b hb) with e | hb
  ·rw [e];exact I.free
  ·obtain ⟨_,o,ho,_⟩:=I.ok.funs.mem hb
   exact I.base.free b o ho (I.ok.frf b hb) fun z=>I.ok.exfs b z hb
 have nx:∀ b,H b=none->b≠x:=fun b n z=>by rw [z,hx] at n;cases n
 have hdF:∀ b,hd=some b->H b=none:=fun b e=>(hh b e).1
 have mem:∀ b,b ∉ hd.toList->some b≠hd:=fun b nb z=>nb (by rw [← z];simp)
 refine I.step (g':=s.gens) (d':=s.drawn) (t':=s.toks) (ch:=hd.toList) (fun b hb=>?_) (fun b o hL hb hc e n=>?_) (fun b o hL hb hc e n=>?_) (fun _ _ _ _ n=>n) (fun b o hc e=>?_) (fun _ _ e=>e) (fun _ _ _ e=>e) (fun b ps e=>⟨#[],by rw [e];simp⟩) (fun m hm=>?_) (fun b u e=>?_) I.bare
 ·have e:hd=some b:=by cases hd <;> simp_all
  obtain ⟨_,a2,_,a4,a5,a6⟩:=hh b e
  exact ⟨a4,a2,a5,a6⟩
 ·refine N.keep b o (nx b n) (mem b hc) (fun z=>?_) e
  rcases List.mem_cons.mp (hf b z) with q | q
  ·exact hL q
  ·exact hb q
 ·exact N.slot b o (nx b n) (mem b hc) e
 ·by_cases q:b=x
  ·obtain ⟨vs,z,_⟩:=N.obj
   exact ⟨_,by rw [q];exact z⟩
  ·obtain ⟨sl,z⟩:=N.slot b o q (mem b hc) e
   exact ⟨_,z⟩
 ·obtain ⟨o,es,ep,ho,r⟩:=hm
  obtain ⟨sl,z⟩:=N.slot _ o (nx _ I.free) (fun q=>(hh _ q.symm).2.1 rfl) ho
  exact ⟨_,es,ep,z,r⟩
 ·by_cases q:b=x
  ·subst q
   rw [hx] at e;cases e
   obtain ⟨vs,z,_,z2⟩:=N.obj
   exact Cp z z2
  ·refine (I.hok b u e).stay (fun c v hc z=>?_) (fun _ q=>q) fun _ _ q=>q
   have tc:∃ u,H c=some u:=by
    rcases hc with rfl | hc
    ·exact ⟨_,e⟩
    ·exact ⟨_,hc⟩
   obtain ⟨uc,tc⟩:=tc
   refine N.keep c v (fun zz=>?_) (fun zz=>?_) (fun zz=>?_) z
   ·rcases hc with rfl | hc
    ·exact q zz
    ·rw [zz,hx] at hc;cases hc
   ·rw [hdF c zz.symm] at tc;cases tc
   ·rw [fsF c zz] at tc;cases tc
theorem zb {A:Around} {E:Value->Shared->Prop} {Q:Unit->Shared->Prop} (I:Inv X pins U H s) (hst:X.stack=X.env :: X.outer) (hfr:X.env.frame=some X.env.locals) (hA:A.frames=some X.stack) (F:Fly X pins H x C dx s.heap)
  (k:∀ h' T,Inv X pins U H {s with heap:=h'}->Head X pins H x C dx T h'->Q () {s with heap:=h'}):wpAny (model X.prog X.w) A (noteFrame (.ref x) X.env) Q E s:=by
 have ff:s.heap.FunFrames X.base (X.env :: X.outer):=hst ▸ I.stack
 have sub:∀ b∈Cm (X.env :: X.outer),b∈X.env.locals :: X.fs:=fun b hb=>I.stkSub b (by rw [hst];exact hb)
 have nf:∀ b u,H b=some u->b ∉ Cm (X.env :: X.outer):=fun b u e z=>by
  rw [I.stkFree b (by rw [hst];exact z)] at e;cases e
 obtain ⟨hx,⟨vs,e,h1⟩ | ⟨T0,hT⟩⟩:=F
 ·refine K4 (hst ▸ hA) ff hfr e h1 (nf x _ hx) fun h' T N=>?_
  have J:=I.noted hx (fun b z=>by cases z) sub N
  refine k h' T J ⟨N.obj,N.tb,?_,hx⟩
  have zT:s.heap.objs.size<=T:=by rcases N.new with z | z;exact z;cases z
  exact I.fpOk zT (I.hok.fresh zT)
 ·obtain ⟨vs,e,h1⟩:=hT.obj
  refine K5 (hst ▸ hA) ff hfr e h1 hT.tb hT.ne (nf x _ hx) (fun z=>?_) fun h' T N=>?_
  ·rcases List.mem_cons.mp (sub T0 z) with q | q
   ·exact hT.fp.2.1 q
   ·exact hT.fp.2.2.1 q
  ·have J:=I.noted hx (fun b z=>by cases z;exact hT.fp) sub N
   refine k h' T J ⟨N.obj,N.tb,?_,hx⟩
   rcases N.new with z | z
   ·exact I.fpOk z (I.hok.fresh z)
   ·cases z;exact hT.fp
theorem zc {A:Around} {E:Value->Shared->Prop} {Q:Unit->Shared->Prop} (I:Inv X pins U H s) (F:Head X pins H x C dx T s.heap)
  (k:∀ h',Inv X pins U H {s with heap:=h'}->Head X pins H x C dx T h'->Q () {s with heap:=h'}):wpAny (model X.prog X.w) A (setFlight (.ref x) none) Q E s:=by
 obtain ⟨vs,e,h1⟩:=F.obj
 refine K6 e h1 F.tb F.ne fun h' N=>?_
 exact k h' (I.noted F.tr (fun b z=>by cases z;exact F.fp) (fun b z=>absurd z (by simp)) N) ⟨N.obj,N.tb,F.fp,F.tr⟩
def Et (P:Program) (w:World):xV:=fun outer H s E e s'=>∃ x C dx T H',e= .ref x/\s'.os=s.os/\AllBare s'.gens/\Un (frs outer) [] H H' s.heap s'.heap/\HOk P w H' s'.heap/\H' x=some (uq x C dx)/\H' T=none/\s.heap.objs.size<=T/\
 (∃ vs,s'.heap.get? x=some (km C (some dx) vs)/\vs[1]?=some (.ref T)/\vs[2]?=some .none)/\wH s'.heap T/\E (.ref C) (some x) H'
def XE (X:Cx) (pins:List (Addr×Obj)) (R:St->XK) (e:Value) (s':Shared):Prop:=∃ x C dx U H',e= .ref x/\Inv X pins U H' s'/\Fly X pins H' x C dx s'.heap/\R U (.ref C) (some x) H'
theorem vq {R:St->XK} {e:Value} {s':Shared} (I:Inv X pins U H s) (c:Et X.prog X.w X.stack H s (R U) e s'):XE X pins R e s':=by
 obtain ⟨x,C,dx,T,H',rfl,os,bare,un,hok,tx,tT,zT,ob,tb,r⟩:=c
 obtain ⟨hh,g,d,t,os'⟩:=s'
 obtain rfl:os'=s.os:=os
 have J:=I.call (h':=hh) (g':=g) (d':=d) (t':=t) (ch:=[]) un hok bare (fun b z=>absurd z (by simp))
 exact ⟨x,C,dx,U,H',rfl,J,⟨tx,.inr ⟨T,ob,tb,I.fpOk zT tT,tx⟩⟩,r⟩
def mZ (X:Cx) (R:St->XK):Prop:=∀ (pins:List (Addr×Obj)) (e:Value) (s':Shared),XE X pins R e s'->X.xe e s'
end
theorem jB {P:Program} {w:World} {K:W.Frag} {mg:Str->Option Value} {base:Heap} {N:List Str} {qual:Str} {scope:Scope} {f:Addr} {cd:Value} {A:Around} {outer:List Env} {s:Shared} {H:Hp} {E:XK}:
  mZ (jw (Et P w) P w K mg base N qual scope f cd A outer s H E) (fun _=>E):=by
 rintro pins e s' ⟨x,C,dx,U,H',he,I,F,r⟩
 subst he
 show wpAny _ _ (leaving _ _) _ _ _
 unfold leaving
 refine wpAny_bind (zb (X:=jw (Et P w) P w K mg base N qual scope f cd A outer s H E) I rfl rfl I.ok.frames F fun h1 T J1 F1=>?_)
 refine zc (X:=jw (Et P w) P w K mg base N qual scope f cd A outer s H E) J1 F1 fun h2 J2 F2=>?_
 refine ⟨x,C,dx,T,H',rfl,J2.os,J2.bare,J2.base,J2.hok,F2.tr,F2.fp.1,?_,F2.obj,F2.tb,r⟩
 rcases F2.fp.2.2.2.1 with z | z
 ·exact absurd (show T∈([]:List Addr) from z) (by simp)
 ·exact z
def K7 (d:Addr) (fs:List (Str×V)):HO:=.ext fun h=>∃ mA,h.Ns1 d mA/\∀ f,RelO (fs.lookup f) (mA f)
theorem Cr {P:Program} {w:World} {H:Hp} {h:Heap} {d:Addr} {fs:List (Str×V)} (ok:HOk P w H h) (e:H d=some (K7 d fs)):∃ mA,h.Ns1 d mA/\∀ f,RelO (fs.lookup f) (mA f):=(ok _ _ e).1
def gm:List Value->Bool
 | [.type a,.type b,.type c,.type d]=>a == "ValueError" && b == "Exception" && c == "BaseException" && d == "object"
 | .ref _ :: r=>gm r
 | _=>false
theorem su {l:List Value} (e:gm l=true):(∃ a r,l= .ref a :: r/\gm r=true)\/l=VEm:=by
 unfold gm at e
 split at e
 ·simp only [Bool.and_eq_true,beq_iff_eq] at e
  obtain ⟨⟨⟨rfl,rfl⟩,rfl⟩,rfl⟩:=e
  exact .inr rfl
 ·exact .inl ⟨_,_,rfl,e⟩
 ·cases e
theorem oK:∀ (l:List Value),gm l=true->l.contains (.type "object")=true/\l.contains (.type "BaseException")=true
 | [],e=>by cases e
 | v :: r,e=>by
  rcases su e with ⟨a,r',q,e'⟩ | q
  ·cases q
   obtain ⟨h1,h2⟩:=oK r e'
   exact ⟨by rw [List.contains_cons,h1,Bool.or_true],by rw [List.contains_cons,h2,Bool.or_true]⟩
  ·rw [q]
   decide
structure XCls (K:W.Frag) (C:Addr):Prop where
 xi:xIn K C=true
 ov:∃ cd,PySem.W.clsIn K C=some cd/\gm cd.mro=true/\cd.hasDict=true
 sa:PySem.W.findIn K (.ref C) "__setattr__"=some (some (.builtin "object.__setattr__"))
 ga:PySem.W.findIn K (.ref C) "__getattribute__"=some (some (.builtin "BaseException.__getattribute__"))
 gh:PySem.W.findIn K (.ref C) "__getattr__"=some none
theorem Cu {l:List Value} (e:gm l=true):l.isEmpty=false:=by
 cases l with
 | nil=>cases e
 | cons _ _=>rfl
section
variable {prog:Program} {w:World} {A:Around} {s:Shared} {K:W.Frag} {x C:Addr} {R:Result->Shared->Prop}
theorem XCls.mro {c:Value} {b:Bool} (k:XCls K C) (h:∀ cd,PySem.W.clsIn K C=some cd->gm cd.mro=true->cd.mro.contains c=b):PySem.W.mroIn K C c=some b:=by
 obtain ⟨cd,a,o,_⟩:=k.ov
 unfold PySem.W.mroIn
 rw [a,Option.bind_some,if_neg (by rw [Cu o];decide),h cd a o]
theorem XCls.isObj (k:XCls K C):PySem.W.mroIn K C (.type "object")=some true:=k.mro fun cd _ o=>(oK _ o).1
theorem XCls.isExc (k:XCls K C):PySem.W.mroIn K C (.type "BaseException")=some true:=k.mro fun cd _ o=>(oK _ o).2
end
structure Nm (K:W.Frag) (C:Addr):Prop where
 cls:XCls K C
 ca:PySem.W.findIn K (.ref C) "__class__"=some (some (.builtin "object.__class__"))
 cg:PySem.W.specialIn K (.builtin "object.__class__") "__get__"=some (some (.builtin "getset_descriptor.__get__"))
 ct:PySem.W.takesIn K (.builtin "object.__class__")=some true
section
variable {prog:Program} {w:World} {A:Around} {E:Value->Shared->Prop} {s:Shared} {K:W.Frag} {x C:Addr} {ox od:Obj}
theorem wI {Q:Option Value->Shared->Prop} (c:Nm K C) (KI:K.In s.heap) (J:PySem.W.InstAt s.heap x ox C (some od)) (h:Q (some (.ref C)) {s with toks:=s.toks+1}):wpAny (model prog w) A (getAttr? (.ref x) "__class__") Q E s:=by
 obtain ⟨cd,hc,ho,hd⟩:=c.cls.ov
 have hf:PySem.W.findObj K C (some od) "__class__"=some (.bind (.builtin "getset_descriptor.__get__") (.builtin "object.__class__")):=PySem.W.findObj_data (by rw [hc];rfl) c.ca c.cg c.ct
 obtain ⟨hh,g,dr,t,os⟩:=s
 have L0:=J.type (M:=model prog w)
 have L1:=PySem.W.looks_findIn (M:=model prog w) KI c.cls.ga
 have L2:=PySem.W.looks_findIn (M:=model prog w) KI c.cls.gh
 have L3:=PySem.W.looks_find (M:=model prog w) KI J hf
 have sub:PySem.W.Looks (model prog w) hh (isInstance (.ref x) (.type "BaseException")) true:=L0.andThen (PySem.W.looks_mroIn KI c.cls.isExc)
 have hb0:(onTheHeap (Value.ref C) && Value.builtin "BaseException.__getattribute__" == Value.builtin "object.__getattribute__")=false:=by
  rw [show (Value.builtin "BaseException.__getattribute__" == Value.builtin "object.__getattribute__")=false from by trivial,Bool.and_false]
 unfold getAttr? getAttrBy? getAttrBy
 refine wpAny_bind (wpAny_mkText (wpAny_bind (wpAny_attempt (wpAny_holding (wpAny_bind (L0.at (wpAny_bind (L1.at ?_))))))))
 dsimp only
 rw [hb0,if_neg Bool.false_ne_true]
 unfold getAttrByItsOwn hookBefore
 refine wpAny_bind ?_
 rw [if_pos (show onTheHeap (Value.ref C)=true from rfl)]
 refine L2.at ?_
 refine wpAny_bind (wpAny_attempt (wpAny_holding ?_))
 unfold callGetattribute
 rw [if_neg (show ¬ ((false && onTheHeap (Value.builtin "BaseException.__getattribute__"))=true) from by decide)]
 unfold boundAndCalled
 refine wpAny_bind (wpAny_of_eq (F.attrBase_ValueError.ga.bind (.ref x)) ?_)
 refine wpAny_call (codeAny_call_builtin F.attrBase_ValueError.ga.plain F.entry_bexc_ga (@PySem.W.check_slot (model prog w) _ _ ⟨hh,g,dr,t+1,os⟩ "BaseException.__getattribute__" "BaseException" "__getattribute__" (.ref x) [.str "__class__" t] [] _ (by trivial) (by trivial) sub (F.args_bexc_ga (.ref x) (.str "__class__" t)) ?_))
 refine wpAny_bind (wpAny_pure (wpAny_bind (wpAny_pure (wpAny_bind (L0.at (wpAny_bind (L3.at ?_)))))))
 show wpAny _ _ (holding [.builtin "object.__class__"] (call (.builtin "getset_descriptor.__get__") [.builtin "object.__class__",.ref x,.ref C]) >>=ret) _ _ _
 refine wpAny_bind (wpAny_holding (wpAny_call (PySem.W.class_get (s:=⟨hh,g,dr,t+1,os⟩) KI J c.cls.isObj ?_)))
 refine wpAny_pure ?_
 show wpAny _ _ (handedOut (.ref C)) _ _ _
 rw [PySem.W.handedOut_of rfl]
 exact wpAny_pure (wpAny_pure h)
theorem zf (c:Nm K C):PySem.W.KitX K (.ref x) (.ref C) (fun h=>PySem.W.InstAt h x ox C (some od)) where
 ty:=fun _ _ _ I=>I.type
 it:=fun _ _ X _=>by
  obtain ⟨cd,hc,_⟩:=c.cls.ov
  unfold PySem.W.clsIn at hc
  split at hc
  ·rename_i a1 a2 a3 a4 ho
   intro A1 Q1 E1 s1 k q
   unfold isType loadHead
   exact wpAny_bind (wpAny_loadPart (k _ _ (X _ _ ho)) (wpAny_pure q))
  ·cases hc
 ne:=fun h tp dd its n sl X htp=>by
  obtain ⟨cd,hc,_⟩:=c.cls.ov
  refine Bool.eq_false_iff.mpr fun q=>?_
  obtain rfl:C=tp:=Value.ref.inj (beq_iff_eq.mp q)
  unfold PySem.W.clsIn at hc
  split at hc
  ·rename_i a1 a2 a3 a4 ho
   cases (X _ _ ho).symm.trans htp
  ·cases hc
 ca:=fun X I k=>wI c X I k
end
def IsX (H:Hp) (x C:Addr) (fs:List (Str×V)):Prop:=∃ d,H x=some (uq x C d)/\H d=some (K7 d fs)
def clV:V->Option Value
 | .ty T=>some (.type T)
 | .ref C=>some (.ref C)
 | _=>none
theorem zg {v:V} {u c:Value} (e:clV v=some c) (r:RelV v u):u=c:=by
 cases v <;> first | cases e;exact r | cases e
def zj:List V->Option (List Value)
 | []=>some []
 | v :: r=>match clV v,zj r with
  | some c,some l=>some (c :: l)
  | _,_=>none
theorem vy:∀ {vs:List V} {us cs:List Value},zj vs=some cs->Vals vs us->us=cs
 | [],us,cs,e,r=>by cases r;cases e;rfl
 | v :: vs,us,cs,e,r=>by
  cases r with
  | cons r1 r2=>
   unfold zj at e
   split at e
   ·rename_i c l h1 h2
    cases e
    rw [zg h1 r1,vy h2 r2]
   ·cases e
def Eu (K:W.Frag):List V->Hp->VK->Prop:=fun xs H Q=>∃ x t b,(TyOf K H x t\/∃ a C fs,x= .ref a/\IsX H a C fs/\Nm K C/\t= .ref C)/\
 ((∃ v c,xs=[x,v]/\clV v=some c/\PySem.W.kitOne K t c=some b)\/(∃ p vs cs,xs=[x,.ref p]/\H p=some (.tup vs)/\zj vs=some cs/\PySem.W.kitAny K t cs=some b))/\Q (.bl b) H
section
variable {X:Cx} {pins:List (Addr×Obj)} {U:St} {H:Hp} {s:Shared} {A:Around} {E:Value->Shared->Prop} {Q:Value->Shared->Prop} {c:Value} {b:Bool}
theorem zm {x:V} {u t:Value} (I:Inv X pins U H s) (rx:RelV x u) (ty:TyOf X.K H x t\/∃ a C fs,x= .ref a/\IsX H a C fs/\Nm X.K C/\t= .ref C):
  ∃ φ:Heap->Prop,PySem.W.KitX X.K u t φ/\φ s.heap/\u≠.builtin "__main__.__loader__#opaque":=by
 rcases ty with ty | ⟨a,C,fs,rfl,⟨d,e1,e2⟩,c,rfl⟩
 ·cases ty with
  | non=>cases (show u=Value.none from rx);exact ⟨_,PySem.W.kitx_none,True.intro,(fun z=>nomatch z)⟩
  | bl y=>cases (show u=Value.bool y from rx);exact ⟨_,PySem.W.kitx_bool,True.intro,(fun z=>nomatch z)⟩
  | int i=>obtain ⟨t,q⟩:=(show ∃ t,u=Value.int i t from rx);cases q;exact ⟨_,PySem.W.kitx_int,True.intro,(fun z=>nomatch z)⟩
  | str y=>obtain ⟨t,q⟩:=(show ∃ t,u=Value.str y t from rx);cases q;exact ⟨_,PySem.W.kitx_str,True.intro,(fun z=>nomatch z)⟩
  | flt y=>obtain ⟨t,q⟩:=(show ∃ t,u=Value.float y t from rx);cases q;exact ⟨_,PySem.W.kitx_float,True.intro,(fun z=>nomatch z)⟩
  | @lst a xs ea=>
   cases (show u=Value.ref a from rx)
   obtain ⟨_,_,n,_,h1⟩:=(show ObjOk X.prog X.w H s.heap a (.lst xs) from I.hok a _ ea)
   exact ⟨_,PySem.W.kitx_list,⟨_,h1,rfl⟩,(fun z=>nomatch z)⟩
  | @frz a ob xs ea=>
   cases (show u=Value.ref a from rx)
   obtain ⟨_,_,_,n,_,h1⟩:=(show ObjOk X.prog X.w H s.heap a (.frz ob (.lst xs)) from I.hok a _ ea)
   exact ⟨_,PySem.W.kitx_list,⟨_,h1,rfl⟩,(fun z=>nomatch z)⟩
  | @tup a xs ea=>
   cases (show u=Value.ref a from rx)
   obtain ⟨_,_,_,p⟩:=(show ObjOk X.prog X.w H s.heap a (.tup xs) from I.hok a _ ea)
   obtain ⟨o,h1,h2,_⟩:=p
   exact ⟨_,PySem.W.kitx_tuple,⟨o,h1,h2⟩,(fun z=>nomatch z)⟩
  | @dK a kvs ea=>
   cases (show u=Value.ref a from rx)
   obtain ⟨_,_,vs,_,p⟩:=(show ObjOk X.prog X.w H s.heap a (.dK kvs) from I.hok a _ ea)
   obtain ⟨o,es,ep,h1,h2,_⟩:=p
   exact ⟨_,PySem.W.kitx_dict,⟨o,h1,h2.1⟩,(fun z=>nomatch z)⟩
  | @dT a kvs ea=>
   cases (show u=Value.ref a from rx)
   obtain ⟨_,_,xs,_,o,es,ep,h1,h2,_⟩:=(show ObjOk X.prog X.w H s.heap a (.dT kvs) from I.hok a _ ea)
   exact ⟨_,PySem.W.kitx_dict,⟨o,h1,h2.1⟩,(fun z=>nomatch z)⟩
  | @ins a C dx fs ea cl ha hn htk hm=>
   cases (show u=Value.ref a from rx)
   obtain ⟨mA,O,_⟩:=lg I.hok ea
   obtain ⟨od,J,_⟩:=O.look
   exact ⟨_,PySem.W.kitx_own (cl.get _) cl.hd ha hn htk hm,J,(fun z=>nomatch z)⟩
 ·cases (show u=Value.ref a from rx)
  obtain ⟨vs,hx,_⟩:=Cq I.hok e1
  obtain ⟨mA,nA,rA⟩:=Cr I.hok e2
  obtain ⟨od,hod,lk⟩:=pM nA
  exact ⟨_,zf (ox:=km C (some d) vs) (od:=od) c,⟨hx,rfl,rfl,hod⟩,(fun z=>nomatch z)⟩
theorem wJ {K:W.Frag} (hK:X.K=K):CallR X (.builtin "isinstance") (Eu K):=by
 subst hK
 intro pins s U H xs us Q I r h
 obtain ⟨x,t,b,ty,w,q⟩:=h
 rcases w with ⟨v,c,rfl,ec,e⟩ | ⟨p,vs,cs,rfl,ep,ec,e⟩
 ·obtain ⟨u,u2,rfl,ru,rv⟩:=vals2 r
  obtain rfl:=zg ec rv
  obtain ⟨φ,Z,hφ,hne⟩:=zm I ru ty
  exact PySem.W.kia_one Z I.kIn hφ e hne fun tk=>⟨.bl b,H,I.tok _,rfl,q⟩
 ·obtain ⟨u,u2,rfl,ru,rv⟩:=vals2 r
  cases (show u2=Value.ref p from rv)
  obtain ⟨φ,Z,hφ,hne⟩:=zm I ru ty
  obtain ⟨_,its,rt,o,h1,h2,n,h3⟩:=(show ObjOk X.prog X.w H s.heap p (.tup vs) from I.hok p _ ep)
  obtain rfl:=vy ec rt
  obtain ⟨oc,odd,oda,osl⟩:=o
  dsimp only at h2 h3
  subst h2 h3
  exact PySem.W.kia_tup Z I.kIn hφ h1 e hne fun tk=>⟨.bl b,H,I.tok _,rfl,q⟩
end
theorem jq {X:Cx} (h:∀ (e:Value) (s:Shared),X.xe e s=False):mZ X (fun _ _ _ _=>False):=fun _ _ _ ⟨_,_,_,_,_,_,_,_,z⟩=>z.elim
section
variable {X:Cx} {k:Nat} {f C:Addr} {fd:FuncData} {ps:List Str} {sp:Sp} {R:St->XK} {x:Str} {p pos:Pos} {e:Expr} {es:List Expr} {t:TA} {pins:List (Addr×Obj)} {U:St} {H:Hp} {s:Shared} {Q:VK} {us:List Value} {vs:List V}
theorem Cv (F:nQ X.prog X.w X.K X.mg X.base (Et X.prog X.w) k f fd ps sp) (hr:Room k X.A) (hb:Binds X.K fd ps []) (hx:mZ X R) (I:Inv X pins U H s) (r:Vals vs us) (h:sp vs H Q (R U)):
  wpAny (model X.prog X.w) X.A (call (.ref f) us) (EP X pins U Q) X.xe s:=by
 have hl:(us ++ []).length=ps.length:=by rw [List.append_nil,← r.length];exact F.len _ _ _ _ h
 have bd:=hb s us I.kIn hl
 rw [List.append_nil] at bd
 refine wpAny_call (codeAny_mono (F.run X.A X.stack s H ⟨us,[]⟩ us vs Q (R U) hr I.env0 bd r h) fun rr s' hq=>?_)
 cases rr with
 | error e=>exact hx pins e s' (vq I hq)
 | ok fl=>
  cases fl with
  | ret u=>exact I.after hq
  | next=>exact False.elim hq
  | brk=>exact False.elim hq
  | cont=>exact False.elim hq
end
section
variable {X:Cx} {k:Nat} {C:Addr} {R:St->XK} {x:Str} {p cpos pos:Pos} {e:Expr} {es:List Expr} {t:TA} {fl:List Str}
theorem PS.nox {st:Stmt} {t:TS} (h:PS X.nox st t):PS X st t:=fun pins s U H D I hw=>
 wpAny_mono (h pins s U H D (I.wish _) hw) (fun _ _ q=>q.unwish) fun _ _ z=>False.elim z
end
def bO (mg:Str->Option Value) (x:Str):Addr:=match mg x with
 | some (.ref a)=>a
 | _=>0
theorem nG {mg:Str->Option Value} {x:Str} {C:Addr} (h:mg x=some (.ref C)):bO mg x=C:=by unfold bO;rw [h]
def Hy (K:W.Frag) (C:Addr) (fl:List Str):Bool:=fl.all fun n=>PySem.W.findIn K (.ref C) n == some none
section
variable {X:Cx} {K:W.Frag} {k:Nat} {x n fn:Str} {ps:List Str} {sp:Sp} {R:St->XK} {p pos cpos pos':Pos} {e o value:Expr} {es:List Expr} {t:TA} {ta tv:TE} {st:Stmt} {u ts:TS} {th:TH} {hs:List ExceptHandler} {i:Nat}
theorem zp (h:JS X.nox st u):JS X st u:=⟨h.run.nox⟩
end
section
variable {U:St} {H:Hp} {D:Ends} {Q:VK} {sp:Sp} {R:St->XK} {a:TA} {K:W.Frag} {C P:Addr} {fl:List Str} {th:TH} {ts:TS} {i:Nat} {ta:TE} {f:Str}
theorem qT {x:V} {t:Value} {p:Addr} {vs:List V} {cs:List Value} {b:Bool} (ty:TyOf K H x t) (hp:H p=some (.tup vs)) (e:zj vs=some cs) (o:PySem.W.kitAny K t cs=some b) (h:Q (.bl b) H):Eu K [x,.ref p] H Q:=
 ⟨x,t,b,.inl ty,.inr ⟨p,vs,cs,rfl,hp,e,o⟩,h⟩
end
def wK (lo c:Int) (n:Nat):It:=⟨fun i _=>i < n,fun i H x H'=>H'=H/\x= .int (lo+i*c),fun i _=>n<=i⟩
theorem wL {P:Program} {w:World} {K:W.Frag} {tg:Expr} (it:Addr) (lo c:Int) (n:Nat):Turn P w K tg (wK lo c n) [it] it (fun i h=>IsRangeIter h it (lo+(i:Nat)*c) ((n:Int) - (i:Nat)) c) where
 mem:=by simp
 obj:=fun i h st b hb=>by
  obtain rfl:b=it:=by simpa using hb
  exact ⟨_,st,fun v z=>by
   have z2:Data.fields _=Data.cell v:=z
   cases z2⟩
 keep:=fun i h h' st k=>k it (by simp) _ st
 item:=by
  intro X hP hw hK hc i pins s U H E I hf st hg
  subst hP hw hK
  obtain ⟨f0,f1,f2,f3,f4,f5⟩:=hf it (by simp)
  have W:=Walks.range (prog:=X.prog) (w:=X.w) (I.ok.hd hc) it lo c n
  refine W.item i s _ _ hg st fun v h' tk hv st' kk=>?_
  obtain ⟨t,rfl⟩:=hv
  have I1:Inv X pins U H {s with heap:=h',toks:=tk}:=I.turned (fun b o hb e=>kk b o (by simpa using hb) e) f0 f1 f3 f4 f5
  exact ⟨_,rfl,nO (s:={s with heap:=h',toks:=tk}) (n:="range_iterator") st' rfl rfl (by decide) ⟨.int (lo+i*c),H,I1,⟨t,rfl⟩,⟨rfl,rfl⟩,st',fun b hb=>(hf b hb).1⟩⟩
 done:=by
  intro X hP hw hK hc i pins s U H E I hf st hg
  subst hP hw hK
  obtain ⟨f0,f1,f2,f3,f4,f5⟩:=hf it (by simp)
  exact wpAny_pyNext_range_end (I.ok.hd hc) st (by have:n<=i:=hg;omega) fun h' eb=>⟨rfl,I.turned (t':=s.toks) (fun b o hb e=>eb b o hb e) f0 f1 f3 f4 f5⟩
 self:=fun _ _ _ _ _ st h=>wpAny_pyIter_rangeiter st h
def zq (ta:TA):TI:=fun U H R=>ta U H fun vs H1=>∃ (i j c:Int) (n:Nat),vs=[.int i,.int j,.int c]/\c≠0/\Builtin.divisionGoesByPylong (j - i) c=false/\Builtin.Range.small i j c=true/\Builtin.Range.rangeSize i j c=(n:Int)/\R (wK i c n) H1
section
variable {X:Cx} {tg:Expr}
theorem wM {a b c:Expr} {ta:TA} {p pos:Pos} (hg:Gl X "range") (hm:X.mg "range"=none) (ha:PA X [a,b,c] ta) (hs:starEach [a,b,c] X.env=(false,eval a X.env) :: starEach [b,c] X.env) (hs2:(backTo pos (starEach [b,c] X.env)).any (·.1)=false):
  PI X tg (.Call (.Name "range" p) [a,b,c] [] pos) (zq ta):=by
 intro pins s U H R I h
 refine Call_ (fX I hg hm boot_range (PyProof.Rows.callWith_type1 (cP (ha pos pins s U H _ I h) fun us s1 ⟨vs,H1,I1,r1,q1⟩=>?_) hs hs2))
 obtain ⟨i,j,c,n,rfl,hc,hd,hsm,hn,q⟩:=q1
 cases r1 with
 | cons r rr=>
  cases rr with
  | cons r' rr=>
   cases rr with
   | cons r'' rr=>
    cases rr
    obtain ⟨t,rfl⟩:=r
    obtain ⟨t',rfl⟩:=r'
    obtain ⟨t'',rfl⟩:=r''
    refine call_range_3 hc ?_ (.inl hd)
    refine wpAny_pyIter_range (IsRange.new ..) hsm ?_
    have I2:Inv X pins U H1 {s1 with heap:=s1.heap.push {cls:=.type "range",data:=.fields #[.int i t,.int j t',.int c t'']}}:=I1.kept (t':=s1.toks) fun b o e=>Heap.get?_push_of_some _ e
    refine ⟨(s1.heap.push {cls:=.type "range",data:=.fields #[.int i t,.int j t',.int c t'']}).objs.size,[(s1.heap.push {cls:=.type "range",data:=.fields #[.int i t,.int j t',.int c t'']}).objs.size],_,_,H1,rfl,
     I2.kept (t':=s1.toks) fun b o e=>Heap.get?_push_of_some _ e,wL _ i c n,?_,fun b hb=>?_,q⟩
    ·have e1:i+((0:Nat):Int)*c=i:=by simp
     have e2:(n:Int) - ((0:Nat):Int)=Builtin.Range.rangeSize i j c:=by rw [hn];simp
     show IsRangeIter _ _ (i+((0:Nat):Int)*c) ((n:Int) - ((0:Nat):Int)) c
     rw [e1,e2]
     exact Heap.get?_push_size _ rfl
    ·obtain rfl:b=(s1.heap.push {cls:=.type "range",data:=.fields #[.int i t,.int j t',.int c t'']}).objs.size:=by simpa using hb
     exact I2.fpOk (Nat.le_refl _) (I2.hok.fresh (Nat.le_refl _))
theorem qg {a b c:Expr} {ta:TA} {p pos:Pos} (hg:Gl X "range") (hm:X.mg "range"=none) (ha:JA X [a,b,c] ta) (h:autoParam (notStar a=true) L2.auto4._auto_1) (h2:autoParam ([b,c].all notStar=true) L2.auto4._auto_1):JI X tg (.Call (.Name "range" p) [a,b,c] [] pos) (zq ta):=
 ⟨wM hg hm ha.run (bI h) (jx h2)⟩
end
section
variable {U:St} {H:Hp} {Q:VK}
theorem fO {a:TA} {R:It->Hp->Prop} (h:a U H fun vs H1=>∃ (i j c:Int) (n:Nat),vs=[.int i,.int j,.int c]/\c≠0/\Builtin.divisionGoesByPylong (j - i) c=false/\Builtin.Range.small i j c=true/\Builtin.Range.rangeSize i j c=(n:Int)/\R (wK i c n) H1):zq a U H R:=h
theorem sy {lo c:Int} {n:Nat} {g:TG} {tb:TS} {D:Ends} (Pv:Nat->St->Hp->Prop) (h0:Pv 0 U H)
  (hs:∀ i U H,i < n->Pv i U H->g (.int (lo+i*c)) U H fun σ2 H2=>tb {D with nx:=Pv (i+1),ct:=Pv (i+1),bk:=D.nx} σ2 H2) (hd:∀ U H,Pv n U H->D.nx U H):
  ∃ W:Nat->Nat->St->Hp->Prop,(∃ m,W 0 m U H)/\∀ i m U H,W i m U H->
   ((wK lo c n).stop i H/\D.nx U H)\/((wK lo c n).go i H/\∃ N:St->Hp->Prop,(∀ U' H',N U' H'->∃ m',m' < m/\W (i+1) m' U' H')/\∀ x H',(wK lo c n).yld i H x H'->g x U H' fun σ2 H2=>tb {D with nx:=N,ct:=N,bk:=D.nx} σ2 H2):=by
 refine ⟨fun i m U H=>m=n - i/\i<=n/\Pv i U H,⟨n,by simp,Nat.zero_le _,h0⟩,?_⟩
 rintro i m U H ⟨rfl,hi,p⟩
 by_cases hlt:i < n
 ·refine .inr ⟨hlt,Pv (i+1),fun U' H' p'=>⟨n - (i+1),by omega,rfl,hlt,p'⟩,fun x H' y=>?_⟩
  obtain ⟨rfl,rfl⟩:=y
  exact hs i U _ hlt p
 ·obtain rfl:i=n:=by omega
  exact .inl ⟨Nat.le_refl _,hd U H p⟩
end
section
variable {X:Cx} {e:Expr} {te:TE} {lo hi:Option Expr} {st:Expr} {tl th ts:TO} {pos p2:Pos}
theorem Cw:JE X (.Dict [] [] pos) ug:=⟨yz⟩
end
section
variable {U:St} {H:Hp} {Q:VK} {te:TE}
theorem fP (h:∀ p,H p=none->Q (.ref p) (upd H p (.dK []))):ug U H Q:=h
end
def K8 (K:W.Frag) (neg:Bool):R2:=fun x y H Q=>∃ a b xs,x= .ref a/\y= .ref b/\SqL K H a xs/\SqL K H b xs/\(∀ v∈xs,iQ v=true\/∃ r,v= .ref r)/\Q (.bl (!neg)) H
theorem sE {v:V} (f:iQ v=true):uT v v=true:=by
 cases v <;> first | (cases f;done) | rfl | (simp [uT])
section
variable {X:Cx}
theorem Hz (hu:X.A.units < cLine):OpR X (compareOp .Eq) (K8 X.K false):=by
 intro pins s U H x y v u Q I rx ry h
 obtain ⟨a,b,xs,rfl,rfl,ha,hb,fx,q⟩:=h
 cases rx
 cases ry
 obtain ⟨its,r1,p1,z1⟩:=I.list ha
 obtain ⟨jts,r2,p2,z2⟩:=I.list hb
 have l1:its.toArray.size=xs.length:=by simpa using r1.length.symm
 have l2:jts.toArray.size=xs.length:=by simpa using r2.length.symm
 refine SeqAt.eq_listAt (e:=fun _=>true) p1.isList p2.isList (by rw [l1,l2]) hu (fun j h1 h2=>?_) ?_
 ·have hj:j < xs.length:=by omega
  obtain ⟨u1,e1,q1⟩:=r1.get (List.getElem?_eq_getElem hj)
  obtain ⟨u2,e2,q2⟩:=r2.get (List.getElem?_eq_getElem hj)
  have f1:its.toArray[j]=u1:=by
   obtain ⟨_,z⟩:=List.getElem?_eq_some_iff.mp e1
   simpa using z
  have f2:jts.toArray[j]=u2:=by
   obtain ⟨_,z⟩:=List.getElem?_eq_some_iff.mp e2
   simpa using z
  rw [f1,f2]
  rcases fx _ (List.getElem_mem hj) with f | ⟨r,f⟩
  ·rw [← sE f]
   exact qG q1 q2 f f
  ·rw [f] at q1 q2
   cases (show u1=Value.ref r from q1)
   cases (show u2=Value.ref r from q2)
   exact SeqAt.EqAt.same _
 ·have e:(List.range its.toArray.size).all (fun _=>true)=true:=by simp
  rw [e]
  exact ⟨.bl true,H,I,rfl,q⟩
def HB (K:W.Frag):R2:=fun x y H Q=>Cj K x y H Q\/K8 K false x y H Q
theorem HD {K:W.Frag} (hK:X.K=K) (hu:X.A.units+64 < cLine):OpR X (compareOp .Eq) (HB K):=by
 subst hK
 exact (Hv rfl hu).or (Hz (Nat.lt_of_le_of_lt (Nat.le_add_right _ _) hu))
end
section
variable {H:Hp} {Q:VK} {K:W.Frag}
theorem dX {i j:Int} (h:Q (.bl (decide (V.int i=V.int j))) H):HB K (.int i) (.int j) H Q:=.inl (dW h)
end
end L2
namespace L2
open PySem PySem.Spec PyProof.Rows
open AutoSeq1 (wpAny_loadPart')
theorem ur:isSubtype (.type "dict") (.type "dict")=pure true:=by rw [isSubtype_type];kernel_rfl
theorem wN {prog:Program} {w:World} {A:Around} {E:Value->Shared->Prop} {s:Shared} {Q:Value->Shared->Prop} {a:Addr} {o:Obj} {e:DictEntry} {ep:Nat} {k:Key} (ho:s.heap.get? a=some o) (hc:o.cls= .type "dict") (hd:o.data= .dict #[e] ep)
  (hkey:(bH prog w).is k e.key=true) (hh:e.hash=(bH prog w).hash k) (hsm:(a == sysModules)=false) (hu:A.units < cLine) (h:Q (.bool true) s):wpAny (model prog w) A (compareOp .Eq (.ref a) (.ref a)) Q E s:=by
 show wpAny _ _ (richCompare .Eq (.ref a) (.ref a)) _ _ _
 refine wpAny_richCompare_same_room ⟨o,ho,hc⟩ ⟨o,ho,hc⟩ F.slot_dict_eq (wpAny_call (codeAny_call_builtin F.slot_dict_eq.plain F.entry_dict_eq (F.slot_dict_eq.check _ _ _ _ _ _ _ _ ⟨o,ho,hc⟩ (F.args_dict_eq_2 _ _) ?_))) hu
 have ko:KeysOf (bH prog w) #[e]:=fun x hx=>by
  simp at hx
  subst hx
  exact ⟨k,hkey,hh⟩
 have f2:=ur
 obtain ⟨hp,g,d,tk,os⟩:=s
 have hT:(⟨hp,g,d,tk,os⟩:Shared).TypeIs (.ref a) "dict":=⟨_,ho,hc⟩
 unfold Builtin.«dict.__eq__»
 wp_walk using wpAny_loadPart' ho
 have en:∀ (Q:Array DictEntry->Shared->Prop) (E:Value->Shared->Prop),Q #[e] ⟨hp,g,d,tk,os⟩->wpAny (model prog w) A.in1 (dictEntries a) Q E ⟨hp,g,d,tk,os⟩:=fun Q E q=>by
  unfold dictEntries
  refine wpAny_bind (wpAny_loadPart ho ?_)
  simp only [hd]
  exact wpAny_pure q
 have eo:∀ (Q:Nat->Shared->Prop) (E:Value->Shared->Prop),Q ep ⟨hp,g,d,tk,os⟩->wpAny (model prog w) A.in1 (dictEpoch a) Q E ⟨hp,g,d,tk,os⟩:=fun Q E q=>by
  unfold dictEpoch
  refine wpAny_bind (wpAny_loadPart ho ?_)
  simp only [hd]
  exact wpAny_pure q
 simp only [hd]
 refine wpAny_pure ?_
 refine wpAny_bind (en _ _ ?_)
 rw [if_neg (by simp)]
 refine wpAny_bind (eo _ _ ?_)
 refine wpAny_bind ?_
 rw [Std.Legacy.Range.forIn_eq_forIn_range']
 simp only [Std.Legacy.Range.size,Nat.sub_zero,Nat.add_sub_cancel,Nat.div_one]
 show wpAny _ _ (forIn [0] _ _) _ _ _
 rw [List.forIn_cons]
 refine wpAny_bind (wpAny_bind (en _ _ ?_))
 show wpAny _ _ (holding [e.key,e.val] _ >>=_) _ _ _
 refine wpAny_bind (wpAny_holding ?_)
 refine wpAny_bind (show wpAny (model prog w) A.in1 (dictFind a e.key e.hash) _ _ _ from ?_)
 rw [hh]
 refine wpAny_dictFind_of hkey ho hd ko ?_
 have fi:(#[e]:Array DictEntry).findIdx? (fun e=>(bH prog w).is k e.key)=some 0:=by simp [hkey]
 rw [fi]
 refine wpAny_bind (en _ _ ?_)
 show wpAny _ _ (holding [e.val] (eqBool e.val e.val)) _ _ _
 refine wpAny_holding (SeqAt.EqAt.same e.val prog w _ _ ?_)
 rw [if_neg (by simp)]
 refine wpAny_bind (eo _ _ ?_)
 rw [if_neg (by simp)]
 refine wpAny_pure ?_
 show wpAny _ _ (forIn [] _ _) _ _ _
 rw [List.forIn_nil]
 refine wpAny_pure (wpAny_pure ?_)
 exact wpAny_pure ⟨(fun z=>nomatch z),h⟩
def K9:R2:=fun x y H Q=>(y= .non/\Q (.bl (decide (x= .non))) H)\/∃ a b,x= .bl a/\y= .bl b/\Q (.bl (a == b)) H
section
variable {X:Cx}
theorem HF:OpR X (compareOp .Is) K9:=Gn.or (by
 intro pins s U H x y v u Q I rx ry h
 obtain ⟨a,b,rfl,rfl,q⟩:=h
 cases rx
 cases ry
 exact is_bool ⟨.bl _,H,I,rfl,q⟩)
def Ew (K:W.Frag):R2:=fun x y H Q=>∃ a b xs,x= .ref a/\y= .ref b/\SqT K H a xs/\SqT K H b xs/\(∀ v∈xs,iQ v=true\/∃ r,v= .ref r)/\Q (.bl true) H
theorem Cy (hu:X.A.units < cLine):OpR X (compareOp .Eq) (Ew X.K):=by
 intro pins s U H x y v u Q I rx ry h
 obtain ⟨a,b,xs,rfl,rfl,ha,hb,fx,q⟩:=h
 cases rx
 cases ry
 obtain ⟨its,r1,p1,z1⟩:=I.tuple ha
 obtain ⟨jts,r2,p2,z2⟩:=I.tuple hb
 have l1:its.toArray.size=xs.length:=by simpa using r1.length.symm
 have l2:jts.toArray.size=xs.length:=by simpa using r2.length.symm
 refine SeqAt.eq_tupleAt (e:=fun _=>true) p1 p2 hu (fun j h1 h2=>?_) ?_
 ·have hj:j < xs.length:=by omega
  obtain ⟨u1,e1,q1⟩:=r1.get (List.getElem?_eq_getElem hj)
  obtain ⟨u2,e2,q2⟩:=r2.get (List.getElem?_eq_getElem hj)
  have f1:its.toArray[j]=u1:=by
   obtain ⟨_,z⟩:=List.getElem?_eq_some_iff.mp e1
   simpa using z
  have f2:jts.toArray[j]=u2:=by
   obtain ⟨_,z⟩:=List.getElem?_eq_some_iff.mp e2
   simpa using z
  rw [f1,f2]
  rcases fx _ (List.getElem_mem hj) with f | ⟨r,f⟩
  ·rw [← sE f]
   exact qG q1 q2 f f
  ·rw [f] at q1 q2
   cases (show u1=Value.ref r from q1)
   cases (show u2=Value.ref r from q2)
   exact SeqAt.EqAt.same _
 ·have e:((List.range (min its.toArray.size jts.toArray.size)).all (fun _=>true) && its.toArray.size == jts.toArray.size)=true:=by rw [l1,l2];simp
  rw [e]
  exact ⟨.bl true,H,I,rfl,q⟩
def Ex:R2:=fun x y H Q=>∃ a k v,x= .ref a/\y= .ref a/\H a=some (.dK [(k,v)])/\Q (.bl true) H
theorem Cz (hu:X.A.units < cLine):OpR X (compareOp .Eq) Ex:=by
 intro pins s U H x y v u Q I rx ry h
 obtain ⟨a,k,z,rfl,rfl,ha,q⟩:=h
 cases rx
 cases ry
 obtain ⟨_,hsm,vs,kv,o,es,ep,h1,h2,h3,h4,h5,h6⟩:=(show ObjOk X.prog X.w H s.heap a (.dK [(k,z)]) from I.hok a _ ha)
 cases kv with
 | cons a1 a2=>
  cases a2
  obtain ⟨l⟩:=es
  dsimp only at h5
  cases h5 with
  | @cons en _ _ _ p1 p2 p3=>
   cases p3
   obtain ⟨k',b1,b2⟩:=h4 en (by simp)
   exact wN (e:=en) h1 h2.1 h3 b1 b2 hsm hu ⟨.bl true,H,I,rfl,q⟩
def CG (K:W.Frag):R2:=fun x y H Q=>HB K x y H Q\/Ew K x y H Q\/Ex x y H Q
theorem gJ {K:W.Frag} (hK:X.K=K) (hu:X.A.units+64 < cLine):OpR X (compareOp .Eq) (CG K):=by
 subst hK
 exact (HD rfl hu).or ((Cy (Nat.lt_of_le_of_lt (Nat.le_add_right _ _) hu)).or (Cz (Nat.lt_of_le_of_lt (Nat.le_add_right _ _) hu)))
end
section
variable {H:Hp} {Q:VK} {K:W.Frag}
theorem cZ {U:St} {r r':R2} {ta tb tc:TE} (h:ta U H fun x H1=>tb U H1 fun y H2=>r x y H2 fun z H3=>∃ k,z= .bl k/\if k=true then tc U H3 fun w H4=>r' y w H4 Q else Q (.bl false) H3):tR r r' ta tb tc U H Q:=h
theorem iw {x:V} (h:Q (.bl (decide (x= .non))) H):K9 x .non H Q:=.inl ⟨rfl,h⟩
theorem fQ {i j:Int} (h:Q (.bl (decide (V.int i=V.int j))) H):CG K (.int i) (.int j) H Q:=.inl (dX h)
end
end L2
namespace L2
open PySem PySem.Spec PyProof.Rows PySem.SeqAt
theorem ut {n:Nat}:∀ {ds:List PyData},(∀ d∈ds,d.canLay0=true/\d.depth<=n)->PyData.canLayAll0 ds=true/\PyData.depthAll ds<=n
 | [],_=>⟨rfl,by simp [PyData.depthAll]⟩
 | d :: ds,h=>by
  obtain ⟨a,b⟩:=ut fun e he=>h e (List.mem_cons_of_mem _ he)
  obtain ⟨c,e⟩:=h d (by simp)
  rw [PyData.canLayAll0,PyData.depthAll,a,c]
  exact ⟨rfl,by omega⟩
theorem oM {n:Nat} {ds:List PyData} (h:∀ d∈ds,d.canLay0=true/\d.depth<=n):(PyData.list ds).canLay0=true/\(PyData.list ds).depth<=n+1:=by
 obtain ⟨a,b⟩:=ut h
 rw [PyData.canLay0,PyData.depth]
 exact ⟨a,by omega⟩
theorem jR {n:Nat} {ds:List PyData} (h:∀ d∈ds,d.canLay0=true/\d.depth<=n):(PyData.tuple ds).canLay0=true/\(PyData.tuple ds).depth<=n+1:=by
 obtain ⟨a,b⟩:=ut h
 rw [PyData.canLay0,PyData.depth]
 exact ⟨a,by omega⟩
theorem lV (s:Int):(PyData.int s).canLay0=true/\(PyData.int s).depth<=0:=by simp [PyData.canLay0,PyData.depth]
theorem gK {d:PyData} {n:Nat} (h:d.canLay0=true/\d.depth<=n) (hn:n<=64):shaped d=true:=by
 unfold shaped
 rw [h.1,decide_eq_true (by omega)];rfl
theorem vz {xs:List V} {H:Hp} {R:Addr->Prop} (c:Nat.ble xs.length 64=true) (h:∀ p,H p=none->R p):xs.length<=sizeLine/\∀ p,H p=none->R p:=
 ⟨Nat.le_trans (Nat.le_of_ble_eq_true c) (by decide),h⟩
theorem iy {A B:Prop} (h:A):if (!false)=true then A else B:=(if_pos (show (!false)=true from rfl)).mpr h
theorem iz {A B:Prop} (h:B):if (!true)=true then A else B:=by rw [if_neg (by simp)];exact h
theorem oN {t u:TS} {D:Ends} {U:St} {H:Hp} (M:St->Hp->Prop) (h1:∀ U H,M U H->u D U H) (h2:∀ N,(∀ U H,M U H->N U H)->t {D with nx:=N} U H):xn t u D U H:=h2 _ h1
theorem HH {α:Type} {xs:List α} {n:Nat} {v:α} (h:xs.length=n+1) (e:xs[n]?=some v):tL xs (-1)=some v:=by
 unfold tL wg
 rw [h,if_neg (by omega),if_pos (by omega)]
 show xs[((-1:Int)+((n+1:Nat):Int)).toNat]?=some v
 rw [show ((-1:Int)+((n+1:Nat):Int)).toNat=n by omega];exact e
end L2
namespace L2
open PySem PySem.Spec PyProof.Rows PySem.SeqAt
open AutoSeq1 (wpAny_loadPart')
theorem uv {prog:Program} {w:World} {A:Around} {E:Value->Shared->Prop} {s:Shared} {Q:Value->Shared->Prop} {a:Addr} {o:Obj} {e:DictEntry} {ep:Nat} {k:Key} (ho:s.heap.get? a=some o) (hc:o.cls= .type "dict") (hd:o.data= .dict #[e] ep)
  (hkey:(bH prog w).is k e.key=true) (hh:e.hash=(bH prog w).hash k) (hsm:(a == sysModules)=false) (hu:A.units < cLine) (h:Q (.bool false) s):wpAny (model prog w) A (compareOp .NotEq (.ref a) (.ref a)) Q E s:=by
 show wpAny _ _ (richCompare .NotEq (.ref a) (.ref a)) _ _ _
 refine wpAny_richCompare_same_room ⟨o,ho,hc⟩ ⟨o,ho,hc⟩ F.slot_dict_ne (wpAny_call (codeAny_call_builtin F.slot_dict_ne.plain F.entry_dict_ne (F.slot_dict_ne.check _ _ _ _ _ _ _ _ ⟨o,ho,hc⟩ (F.args_dict_ne_2 _ _) ?_))) hu
 have ko:KeysOf (bH prog w) #[e]:=fun x hx=>by
  simp at hx
  subst hx
  exact ⟨k,hkey,hh⟩
 have f2:=ur
 obtain ⟨hp,g,d,tk,os⟩:=s
 have hT:(⟨hp,g,d,tk,os⟩:Shared).TypeIs (.ref a) "dict":=⟨_,ho,hc⟩
 unfold Builtin.«dict.__ne__»
 wp_walk using wpAny_loadPart' ho
 have en:∀ (Q:Array DictEntry->Shared->Prop) (E:Value->Shared->Prop),Q #[e] ⟨hp,g,d,tk,os⟩->wpAny (model prog w) A.in1 (dictEntries a) Q E ⟨hp,g,d,tk,os⟩:=fun Q E q=>by
  unfold dictEntries
  refine wpAny_bind (wpAny_loadPart ho ?_)
  simp only [hd]
  exact wpAny_pure q
 have eo:∀ (Q:Nat->Shared->Prop) (E:Value->Shared->Prop),Q ep ⟨hp,g,d,tk,os⟩->wpAny (model prog w) A.in1 (dictEpoch a) Q E ⟨hp,g,d,tk,os⟩:=fun Q E q=>by
  unfold dictEpoch
  refine wpAny_bind (wpAny_loadPart ho ?_)
  simp only [hd]
  exact wpAny_pure q
 simp only [hd]
 refine wpAny_pure ?_
 refine wpAny_bind (en _ _ ?_)
 rw [if_neg (by simp)]
 refine wpAny_bind (eo _ _ ?_)
 refine wpAny_bind ?_
 rw [Std.Legacy.Range.forIn_eq_forIn_range']
 simp only [Std.Legacy.Range.size,Nat.sub_zero,Nat.add_sub_cancel,Nat.div_one]
 show wpAny _ _ (forIn [0] _ _) _ _ _
 rw [List.forIn_cons]
 refine wpAny_bind (wpAny_bind (en _ _ ?_))
 show wpAny _ _ (holding [e.key,e.val] _ >>=_) _ _ _
 refine wpAny_bind (wpAny_holding ?_)
 refine wpAny_bind (show wpAny (model prog w) A.in1 (dictFind a e.key e.hash) _ _ _ from ?_)
 rw [hh]
 refine wpAny_dictFind_of hkey ho hd ko ?_
 have fi:(#[e]:Array DictEntry).findIdx? (fun e=>(bH prog w).is k e.key)=some 0:=by simp [hkey]
 rw [fi]
 refine wpAny_bind (en _ _ ?_)
 show wpAny _ _ (holding [e.val] (eqBool e.val e.val)) _ _ _
 refine wpAny_holding (SeqAt.EqAt.same e.val prog w _ _ ?_)
 rw [if_neg (by simp)]
 refine wpAny_bind (eo _ _ ?_)
 rw [if_neg (by simp)]
 refine wpAny_pure ?_
 show wpAny _ _ (forIn [] _ _) _ _ _
 rw [List.forIn_nil]
 refine wpAny_pure (wpAny_pure ?_)
 exact wpAny_pure ⟨(fun z=>nomatch z),h⟩
theorem sI {prog:Program} {w:World} {A:Around} {E:Value->Shared->Prop} {s:Shared} {Q:Value->Shared->Prop} {a:Addr} {o:Obj} {ep:Nat} (ho:s.heap.get? a=some o) (hc:o.cls= .type "dict") (hd:o.data= .dict #[] ep)
  (hsm:(a == sysModules)=false) (hu:A.units < cLine) (h:Q (.bool false) s):wpAny (model prog w) A (compareOp .NotEq (.ref a) (.ref a)) Q E s:=by
 show wpAny _ _ (richCompare .NotEq (.ref a) (.ref a)) _ _ _
 refine wpAny_richCompare_same_room ⟨o,ho,hc⟩ ⟨o,ho,hc⟩ F.slot_dict_ne (wpAny_call (codeAny_call_builtin F.slot_dict_ne.plain F.entry_dict_ne (F.slot_dict_ne.check _ _ _ _ _ _ _ _ ⟨o,ho,hc⟩ (F.args_dict_ne_2 _ _) ?_))) hu
 have f2:=ur
 obtain ⟨hp,g,d,tk,os⟩:=s
 have hT:(⟨hp,g,d,tk,os⟩:Shared).TypeIs (.ref a) "dict":=⟨_,ho,hc⟩
 unfold Builtin.«dict.__ne__»
 wp_walk using wpAny_loadPart' ho
 have en:∀ (Q:Array DictEntry->Shared->Prop) (E:Value->Shared->Prop),Q #[] ⟨hp,g,d,tk,os⟩->wpAny (model prog w) A.in1 (dictEntries a) Q E ⟨hp,g,d,tk,os⟩:=fun Q E q=>by
  unfold dictEntries
  refine wpAny_bind (wpAny_loadPart ho ?_)
  simp only [hd]
  exact wpAny_pure q
 have eo:∀ (Q:Nat->Shared->Prop) (E:Value->Shared->Prop),Q ep ⟨hp,g,d,tk,os⟩->wpAny (model prog w) A.in1 (dictEpoch a) Q E ⟨hp,g,d,tk,os⟩:=fun Q E q=>by
  unfold dictEpoch
  refine wpAny_bind (wpAny_loadPart ho ?_)
  simp only [hd]
  exact wpAny_pure q
 simp only [hd]
 refine wpAny_pure ?_
 refine wpAny_bind (en _ _ ?_)
 rw [if_neg (by simp)]
 refine wpAny_bind (eo _ _ ?_)
 refine wpAny_bind ?_
 rw [Std.Legacy.Range.forIn_eq_forIn_range']
 simp only [Std.Legacy.Range.size,Nat.sub_zero,Nat.add_sub_cancel,Nat.div_one]
 show wpAny _ _ (forIn [] _ _) _ _ _
 rw [List.forIn_nil]
 refine wpAny_pure (wpAny_pure ?_)
 exact wpAny_pure ⟨(fun z=>nomatch z),h⟩
def Ey:R2:=fun x y H Q=>∃ a kvs,x= .ref a/\y= .ref a/\H a=some (.dK kvs)/\kvs.length<=1/\Q (.bl false) H
section
variable {X:Cx}
theorem CJ (hu:X.A.units < cLine):OpR X (compareOp .NotEq) Ey:=by
 intro pins s U H x y v u Q I rx ry h
 obtain ⟨a,kvs,rfl,rfl,ha,hl,q⟩:=h
 cases rx
 cases ry
 obtain ⟨_,hsm,vs,kv,o,es,ep,h1,h2,h3,h4,h5,h6⟩:=(show ObjOk X.prog X.w H s.heap a (.dK kvs) from I.hok a _ ha)
 match kvs,hl with
 | [],_=>
  cases kv
  obtain ⟨l⟩:=es
  dsimp only at h5
  cases h5
  exact sI h1 h2.1 h3 hsm hu ⟨.bl false,H,I,rfl,q⟩
 | [(k,z)],_=>
  cases kv with
  | cons a1 a2=>
   cases a2
   obtain ⟨l⟩:=es
   dsimp only at h5
   cases h5 with
   | @cons en _ _ _ p1 p2 p3=>
    cases p3
    obtain ⟨k',b1,b2⟩:=h4 en (by simp)
    exact uv (e:=en) h1 h2.1 h3 b1 b2 hsm hu ⟨.bl false,H,I,rfl,q⟩
def rNeE (K:W.Frag):R2:=fun x y H Q=>Hu K x y H Q\/Ey x y H Q
theorem zr {K:W.Frag} (hK:X.K=K) (hu:X.A.units+64 < cLine):OpR X (compareOp .NotEq) (rNeE K):=(Hw hK hu).or (CJ (Nat.lt_of_le_of_lt (Nat.le_add_right _ _) hu))
end
end L2
namespace L2
open PySem PySem.Spec PyProof.Rows
theorem small_down {i:Int} (h0: -1<=i) (h1:i < 2 ^ 60):Builtin.Range.small i (-1) (-1)=true:=by
 unfold Builtin.Range.small Builtin.Range.rangeSize
 simp only [Builtin.Range.rangeFitsLong,Bool.and_eq_true,Bool.or_eq_true,decide_eq_true_eq,beq_iff_eq,show ¬ ((-1:Int) > 0) by decide,if_false,show (-(-1:Int))=1 by decide,Int.ediv_one]
 split <;> omega
theorem qj {n:Nat}:Builtin.Range.rangeSize ((n:Int) - 1) (-1) (-1)=(n:Int):=by
 unfold Builtin.Range.rangeSize
 simp only [show ¬ ((-1:Int) > 0) by decide,if_false,show (-(-1:Int))=1 by decide,Int.ediv_one]
 split <;> omega
def rInD (K:W.Frag):R2:=fun x y H Q=>Ha K x y H Q\/∃ a o,y= .ref a/\DGet H a x o/\Q (.bl o.isSome) H
def vA:tM:=fun o i v H R=>yf o i v H R\/∃ a H4,o= .ref a/\DPut H a i v H4/\R H4
def Ez:V->List V->Hp->VK->Prop:=fun x vs H Q=>∃ (l:Addr) (xs:List V) (i:Nat) (y:V),x= .ref l/\vs=[.int i]/\H l=some (.lst xs)/\xs[i]?=some y/\i < 2 ^ 62/\Q y (upd H l (.lst (xs.eraseIdx i)))
def sO (n0:List V->Hp->(Int->Int->Nat->Prop)->Prop) (ta:TA):TE:=fun U H Q=>ta U H fun vs H1=>n0 vs H1 fun lo c n=>∀ q,H1 q=none->Q (.ref q) (upd H1 q (.lst ((List.range n).map fun i:Nat=>V.int (lo+(i:Int)*c))))
def rng1:List V->Hp->(Int->Int->Nat->Prop)->Prop:=fun vs _ R=>∃ n:Nat,vs=[.int n]/\n<=1000000/\R 0 1 n
theorem wO {lo c:Int} {n:Nat} {acc:Array Value} (h:ItemsOf (fun i v=>∃ t,v= .int (lo+i*c) t) acc n):Vals ((List.range n).map fun i:Nat=>V.int (lo+(i:Int)*c)) acc.toList:=by
 obtain ⟨h1,h2⟩:=h
 have key:∀ (k:Nat) (a:List Value) (b:Nat),a.length=k->(∀ (j:Nat) (v:Value),a[j]?=some v->∃ t,v= .int (lo+((b+j:Nat):Int)*c) t)->Vals ((List.range' b k).map fun i:Nat=>V.int (lo+(i:Int)*c)) a:=by
  intro k
  induction k with
  | zero=>intro a b hl _;cases a with
   | nil=>exact .nil
   | cons _ _=>simp at hl
  | succ k ih=>
   intro a b hl hh
   cases a with
   | nil=>simp at hl
   | cons v a=>
    obtain ⟨t,e⟩:=hh 0 v (by simp)
    rw [List.range'_succ,List.map_cons]
    refine .cons ⟨t,by simpa using e⟩ (ih a (b+1) (by simpa using hl) fun j v' e=>?_)
    obtain ⟨t,e⟩:=hh (j+1) v' (by simpa using e)
    exact ⟨t,by rw [e];congr 3;omega⟩
 rw [List.range_eq_range']
 refine key n acc.toList 0 (by simpa using h1) fun j v e=>?_
 obtain ⟨t,e⟩:=h2 j v (by simpa using e)
 exact ⟨t,by rw [e];congr 3;simp⟩
section
variable {X:Cx}
theorem qU {pins:List (Addr×Obj)} {U:St} {H1:Hp} {s1:Shared} {Q:VK} {E:Value->Shared->Prop} {lo hi c:Int} {t u v:Tok} {tk n:Nat} (hc:X.calm=true) (I1:Inv X pins U H1 s1) (hs:Builtin.Range.small lo hi c=true) (hn:Builtin.Range.rangeSize lo hi c=(n:Int)) (hl:n<=1000000)
  (q:∀ q,H1 q=none->Q (.ref q) (upd H1 q (.lst ((List.range n).map fun i:Nat=>V.int (lo+(i:Int)*c))))):
  wpAny (model X.prog X.w) X.A (call (.type "list") [.ref s1.heap.objs.size]) (EP X pins U Q) E {s1 with heap:=s1.heap.push {cls:=.type "range",data:=.fields #[.int lo t,.int hi u,.int c v]},toks:=tk}:=by
 have I2:Inv X pins U H1 {s1 with heap:=s1.heap.push {cls:=.type "range",data:=.fields #[.int lo t,.int hi u,.int c v]},toks:=tk}:=I1.kept fun b o e=>Heap.get?_push_of_some _ e
 refine call_list_range (n:=n) (I1.ok.hd hc) (IsRange.new ..) hs hn (by omega) fun h' tk' acc' c' hk hS hacc=>?_
 have hsl:n<=sizeLine:=Nat.le_trans hl (by decide)
 exact ⟨.ref _,_,I2.laid (t':=tk') (o:=.lst ((List.range n).map fun i:Nat=>V.int (lo+(i:Int)*c))) hk (Nat.le_refl _) ⟨by simpa using hsl,acc'.toList,c',wO hacc,by simpa using hS⟩,rfl,q _ I2.fresh⟩
theorem uw {a:Expr} {ta:TA} {p p2 p3 pos:Pos} (hc:X.calm=true) (hg:Gl X "list") (hm:X.mg "list"=none) (hg2:Gl X "range") (hm2:X.mg "range"=none) (ha:JA X [a] ta) (h:autoParam (notStar a=true) L2.auto4._auto_1):
  JE X (.Call (.Name "list" p) [.Call (.Name "range" p2) [a] [] p3] [] pos) (sO rng1 ta):=⟨by
 intro pins s U H Q I hq
 refine wpAny_Call_Name_kw (fX I hg hm jO (PyProof.Rows.callWith_type1 (arg1 rfl (wpAny_Call_Name_kw (fX I hg2 hm2 boot_range (PyProof.Rows.callWith_type1 (cP (ha.run p3 pins s U H _ I hq) fun us s1 qq0=>?_) (bI h) rfl)))) rfl rfl))
 obtain ⟨vs,H1,I1,r1,q1⟩:=qq0
 obtain ⟨n,rfl,hn,q⟩:=q1
 obtain ⟨u,rfl,t,rfl⟩:=vals1 r1
 exact call_range_1 (qU hc I1 (small_one (by omega) (by omega) (by omega) (by omega)) (by rw [rangeSize_one];split <;> omega) hn q)⟩
theorem HJ {K:W.Frag} (hK:X.K=K) (hu:X.A.units+64 < cLine):OpR X (compareOp .In) (rInD K):=(Hh hK).or (by
 intro pins s U H x y v u Q I rx ry h
 obtain ⟨a,o,rfl,g,q⟩:=h
 obtain rfl:u=Value.ref a:=ry
 exact d_in (by omega) I g rx fun s3 I3=>⟨.bl o.isSome,H,I3,rfl,q⟩)
theorem vB (hu:X.A.units+64 < cLine):Bd X vA:=by
 intro pins s U H o i v ov iv u Q I ro ri rv h
 rcases h with h | ⟨a,H4,rfl,g,q⟩
 ·exact set_list pins s U H o i v ov iv u Q I ro ri rv h
 ·obtain rfl:ov=Value.ref a:=ro
  exact wz (by omega) I g ri rv fun s4 I4=>⟨H4,I4,q⟩
theorem CK:Nh X "list.pop" Ez:=by
 intro pins s U H x vs v us Q I rx rv h
 obtain ⟨l,xs,i,y,rfl,rfl,hH,hy,hi,q⟩:=h
 refine ym pins s U H _ _ v us Q I rx rv ⟨l,xs,i,i,y,rfl,rfl,hH,by omega,by omega,?_,hy,q⟩
 have hl:=(List.getElem?_eq_some_iff.mp hy).1
 unfold seqIndex?
 simp
 omega
end
section
variable {U:St} {H:Hp} {Q:VK} {K:W.Frag}
theorem fU {n0:List V->Hp->(Int->Int->Nat->Prop)->Prop} {ta:TA} (h:ta U H fun vs H1=>n0 vs H1 fun lo c n=>∀ q,H1 q=none->Q (.ref q) (upd H1 q (.lst ((List.range n).map fun i:Nat=>V.int (lo+(i:Int)*c))))):sO n0 ta U H Q:=h
theorem HN {l:Addr} {xs:List V} {i:Nat} {y:V} (hl:H l=some (.lst xs)) (hy:xs[i]?=some y) (hi:i < 2 ^ 62) (h:Q y (upd H l (.lst (xs.eraseIdx i)))):Ez (.ref l) [.int i] H Q:=⟨l,xs,i,y,rfl,rfl,hl,hy,hi,h⟩
theorem vC {p:Addr} {xs:List V} {i:Int} {n:Nat} {v:V} {R:Hp->Prop} (hp:H p=some (.lst xs)) (e:wg xs.length i=some n) (h:R (upd H p (.lst (xs.set n v)))):vA (.ref p) (.int i) v H R:=.inl (dU hp e h)
end
def La (i j:Int):Prop:=0 < j/\j < 1606938044258990275541962092341162602522202993782792835301376
section
variable {X:Cx}
theorem jC:OpR X (binaryOp .FloorDiv) (rI La fun i j=>.int (i / j)):=Ng fun i j _ _ _ _ _ hc q=>by
 have h1:(0:Int) < j:=hc.1
 have h2:=hc.2
 refine floordiv_int (by omega) (by rw [Int.fdiv_eq_ediv_of_nonneg i (by omega)];exact q) (.inl (PyProof.noPylong_of_log2 ?_))
 have h3:j.natAbs.log2 < 200:=(Nat.log2_lt (by omega)).mpr (by omega)
 omega
end
end L2
namespace L2
open PySem PySem.Spec PyProof.Rows
open PySem.Sem (wp)
open PySem.AutoSeq1 (wpAny_loadPart')
end L2
namespace L2
open PySem PySem.Spec PyProof.Rows
def kE (xs:List V) (lo hi:Option Int) (c:Int):List V:=
 (sliceRange (sliceBounds lo hi (some c) xs.length).1 (sliceBounds lo hi (some c) xs.length).2.1 (sliceBounds lo hi (some c) xs.length).2.2).filterMap (xs[·]?)
theorem Vals.places {xs:List V} {us:List Value} (h:Vals xs us):∀ ps:List Nat,Vals (ps.filterMap (xs[·]?)) (ps.filterMap (us[·]?))
 | []=>.nil
 | p :: ps=>by
  have ih:=Vals.places h ps
  have hl:=h.length
  rw [List.filterMap_cons,List.filterMap_cons]
  cases e:xs[p]? with
  | none=>
   have:us[p]?=none:=by rw [List.getElem?_eq_none_iff] at e ⊢;omega
   rw [this]
   exact ih
  | some x=>
   obtain ⟨u,hu,r⟩:=h.get e
   rw [hu]
   exact .cons r ih
def EY (K:W.Frag) (te:TE) (tl th ts:TO):TE:=fun U H Q=>te U H fun x H1=>tl U H1 fun l H2=>th U H2 fun u H3=>ts U H3 fun c H4=>∃ a xs c',x= .ref a/\c=some c'/\c'≠0/\SqL K H4 a xs/\(kE xs l u c').length<=sizeLine/\∀ q,H4 q=none->Q (.ref q) (upd H4 q (.lst (kE xs l u c')))
section
variable {X:Cx} {e:Expr} {te:TE} {lo hi:Option Expr} {st:Expr} {tl th ts:TO} {pos p2:Pos}
theorem mG {K:W.Frag} (hK:X.K=K) (he:JE X e te) (hl:JO X lo tl) (hu:JO X hi th) (hs:JO X (some st) ts):JE X (.Subscript e (.Slice lo hi (some st) p2) pos) (EY K te tl th ts):=⟨by
 subst hK
 intro pins s U H Q I h
 refine Subscript_ (cP (he.run pins s U H _ I h) fun v s1 qq0=>?_)
 obtain ⟨x,H1,I1,r1,q1⟩:=qq0
 refine wpAny_Slice (cP (hl.run pins s1 U H1 _ I1 q1) fun vl s2 ⟨l,H2,I2,pl,q2⟩=>cP (hu.run pins s2 U H2 _ I2 q2) fun vu s3 ⟨u,H3,I3,pu,q3⟩=>cP (hs.run pins s3 U H3 _ I3 q3) fun vc s4 qq0=>?_)
 obtain ⟨c,H4,I4,pc,q4⟩:=qq0
 obtain ⟨a,xs,c',rfl,rfl,hc0,hq,hz,q⟩:=q4
 cases r1
 have I5:Inv X pins U H4 {s4 with heap:=s4.heap.push {cls:=.type "slice",data:=.fields #[vl,vu,vc]}}:=I4.kept (t':=s4.toks) fun b ob q=>Heap.get?_push_of_some _ q
 obtain ⟨its,rv,p,hz2⟩:=I5.list hq
 have hlen:its.toArray.size=xs.length:=by rw [List.size_toArray];exact rv.length.symm
 show wpAny (model X.prog X.w) X.A (subscriptTail e (.Slice lo hi (some st) p2) (.ref a) (.ref s4.heap.objs.size)) (EP X pins U Q) X.xe _
 refine tail_any (T:="list") (ops:=[.ref a,.ref s4.heap.objs.size]) p.isList.typeIs list_getitem_lookup ?_ (by with_unfolding_all rfl)
 refine wpAny_getItem_list_slice p.isList (Heap.IsSliceOf.new ..) pl pu pc (fun z=>hc0 (Option.some.inj z)) ?_ (by rw [hlen];exact hz2)
 refine ⟨.ref _,_,I5.laid (t':=s4.toks) (o:=.lst (kE xs l u c')) (fun b ob q=>Heap.get?_push_of_some _ q) (Nat.le_refl _) ?_,rfl,q _ (I5.hok.fresh (Nat.le_refl _))⟩
 have e1:slicePick its.toArray l u (some c')=((sliceRange (sliceBounds l u (some c') xs.length).1 (sliceBounds l u (some c') xs.length).2.1 (sliceBounds l u (some c') xs.length).2.2).filterMap (its[·]?)).toArray:=by
  unfold slicePick
  rw [hlen]
  simp
 rw [e1]
 exact ⟨hz,_,0,rv.places _,Heap.get?_push_size _ rfl⟩⟩
end
theorem qW {K:W.Frag} {U:St} {H:Hp} {Q:VK} {te:TE} {tl th ts:TO} (h:te U H fun x H1=>tl U H1 fun l H2=>th U H2 fun u H3=>ts U H3 fun c H4=>∃ a xs c',x= .ref a/\c=some c'/\c'≠0/\SqL K H4 a xs/\(kE xs l u c').length<=sizeLine/\∀ q,H4 q=none->Q (.ref q) (upd H4 q (.lst (kE xs l u c')))):EY K te tl th ts U H Q:=h
theorem iR (xs:List V):kE xs none none (-1)=xs.reverse:=by
 have e:∀ n:Nat,sliceRange (sliceBounds none none (some (-1)) n).1 (sliceBounds none none (some (-1)) n).2.1 (sliceBounds none none (some (-1)) n).2.2=(List.range n).map fun k=>n - 1 - k:=fun n=>by
  show sliceRange ((n:Int) - 1) (-1) (-1)=_
  unfold sliceRange
  rw [if_neg (by decide)]
  have ec:(if (n:Int) - 1 > -1 then ((n:Int) - 1 - -1 - -1 - 1) / (- -1) else 0).toNat=n:=by
   by_cases h:(n:Int) - 1 > -1
   ·rw [if_pos h]
    have:((n:Int) - 1 - -1 - -1 - 1) / (- -1)=n:=by
     rw [show (- -1:Int)=1 from rfl,Int.ediv_one];omega
    rw [this];simp
   ·rw [if_neg h]
    show 0=n
    omega
  show List.map _ (List.range (if (n:Int) - 1 > -1 then ((n:Int) - 1 - -1 - -1 - 1) / (- -1) else 0).toNat)=_
  rw [ec]
  refine List.map_congr_left fun k hk=>?_
  have:=List.mem_range.mp hk
  omega
 unfold kE
 rw [e,List.filterMap_map]
 have e2:((List.range xs.length).filterMap ((fun x=>xs[x]?) ∘ fun k=>xs.length - 1 - k))=(List.range xs.length).filterMap (fun k=>xs.reverse[k]?):=by
  have gen:∀ (l:List Nat) (f g:Nat->Option V),(∀ k∈l,f k=g k)->l.filterMap f=l.filterMap g:=fun l f g h=>by
   induction l with
   | nil=>rfl
   | cons a l ih=>rw [List.filterMap_cons,List.filterMap_cons,h a (by simp),ih fun k hk=>h k (by simp [hk])]
  refine gen _ _ _ fun k hk=>?_
  have:=List.mem_range.mp hk
  show xs[xs.length - 1 - k]?=xs.reverse[k]?
  rw [List.getElem?_reverse (by omega)]
 rw [e2]
 have key:∀ ys:List V,(List.range ys.length).filterMap (fun k=>ys[k]?)=ys:=fun ys=>by
  induction ys with
  | nil=>rfl
  | cons y ys ih=>
   rw [List.length_cons,List.range_succ_eq_map,List.filterMap_cons,List.filterMap_map]
   exact congrArg (y :: ·) ih
 have k2:=key xs.reverse
 rw [List.length_reverse] at k2
 exact k2
end L2
namespace L2
open PySem PySem.Spec PyProof.Rows
open PySem.Sem (wp)
open PySem.AutoSeq1 (wpAny_loadPart')
end L2
namespace L2
open PySem PySem.Spec PyProof.Rows
end L2
namespace L2
open PySem PySem.Spec PyProof.Rows
open PySem.Sem (wp)
end L2
namespace L2
open PySem PySem.Spec PyProof.Rows
end L2
namespace L2
open PySem PySem.Spec PyProof.Rows
open PySem.Sem (wp)
end L2
namespace L2
open PySem PySem.Spec PyProof.Rows
open PySem.Sem (wp)
open AutoSeq1 (wpAny_loadPart')
end L2
namespace L2
open PySem PySem.W PySem.Spec PyProof.Rows
theorem ux:∀ a:List Int,HT.lexLt a a=false
 | []=>rfl
 | x :: xs=>by rw [HT.lexLt_cons,if_pos rfl];exact ux xs
theorem sS:∀ {a b c:List Int},HT.lexLt a b=true->HT.lexLt b c=true->HT.lexLt a c=true
 | [],[],_,h,_=>by cases h
 | [],_ :: _,[],_,h=>by cases h
 | [],_ :: _,_ :: _,_,_=>rfl
 | _ :: _,[],_,h,_=>by cases h
 | _ :: _,_ :: _,[],_,h=>by cases h
 | x :: xs,y :: ys,z :: zs,h1,h2=>by
  rw [HT.lexLt_cons] at h1 h2 ⊢
  by_cases e1:x=y
  ·rw [if_pos e1] at h1
   by_cases e2:y=z
   ·rw [if_pos e2] at h2
    rw [if_pos (by omega)];exact sS h1 h2
   ·rw [if_neg e2] at h2
    rw [if_neg (by omega),e1];exact h2
  ·rw [if_neg e1] at h1
   have h1':=of_decide_eq_true h1
   by_cases e2:y=z
   ·rw [if_neg (by omega)];exact decide_eq_true (by omega)
   ·rw [if_neg e2] at h2
    have h2':=of_decide_eq_true h2
    rw [if_neg (by omega)];exact decide_eq_true (by omega)
end L2
namespace L2
open PySem PySem.Spec PyProof.Rows
open PySem.Sem (wp)
end L2
namespace L2
open PySem PySem.Spec PyProof.Rows
open PySem.Sem (wp)
open PySem.AutoSeq1 (wpAny_loadPart')
end L2
namespace L2
open PySem PySem.Spec PyProof.Rows
open PySem.Sem (wp)
end L2
namespace L2
open PySem PySem.Spec PyProof.Rows
def JD (K:W.Frag) (a:Addr) (n:Nat):It:=
 ⟨fun i H=>i < n/\∃ xs,SqL K H a xs/\xs.length=n,
  fun i H v H'=>H'=H/\∀ xs,SqL K H a xs->xs[n - 1 - i]?=some v,
  fun i _=>i=n⟩
theorem zu {P:Program} {w:World} {K:W.Frag} {tg:Expr} {n:Nat} {it a:Addr} (hai:a≠it):
  Turn P w K tg (JD K a n) [it] it (fun i h=>i<=n/\h.IsRevIter it a ((n:Int) - 1 - (i:Int))) where
 mem:=by simp
 obj:=fun i h st c hc=>by
  obtain ⟨_,⟨o1,e1,c1,d1⟩⟩:=st
  have e:c=it:=by simpa using hc
  subst e
  exact ⟨_,e1,fun v z=>by rw [d1] at z;cases z⟩
 keep:=fun i h h' st kk=>⟨st.1,st.2.at fun o q=>kk it (by simp) o q⟩
 item:=by
  intro X hP hw hK hc i pins s U H E I hf st hg
  subst hP hw hK
  obtain ⟨hi,h1⟩:=st
  obtain ⟨hlt,xs,hq,hlen⟩:=hg
  obtain ⟨its,rv,p,_⟩:=I.list hq
  have l1:=rv.length
  obtain ⟨x,hx⟩:∃ x,xs[n - 1 - i]?=some x:=⟨_,List.getElem?_eq_getElem (by omega)⟩
  obtain ⟨u,hu,ru⟩:=rv.get hx
  obtain ⟨f0,f1,f2,f3,f4,f5⟩:=hf it (by simp)
  have e:(n:Int) - 1 - (i:Int)=((n - 1 - i:Nat):Int):=by omega
  rw [e] at h1
  refine wpAny_pyNext_rev_item h1 p.isList (x:=u) (by simpa using hu) fun h' st' sb=>?_
  have I1:Inv X pins U H {s with heap:=h'}:=I.turned (t':=s.toks) (fun b o hb e=>(sb.2 b hb).trans e) f0 f1 f3 f4 f5
  obtain ⟨o,eo,c,d⟩:=id st'
  refine ⟨u,rfl,nO (s:={s with heap:=h'}) eo c d (by decide) ⟨x,H,I1,ru,⟨rfl,fun ys hy=>by rw [I.list_inj hy hq];exact hx⟩,⟨hlt,?_⟩,fun b hb=>(hf b hb).1⟩⟩
  have e2:((n - 1 - i:Nat):Int) - 1=(n:Int) - 1 - ((i+1:Nat):Int):=by omega
  rw [← e2]
  exact st'
 done:=by
  intro X hP hw hK hc i pins s U H E I hf st hg
  subst hP hw hK
  obtain ⟨hi,h1⟩:=st
  have hin:i=n:=hg
  subst hin
  rw [show (i:Int) - 1 - (i:Int)= -1 by omega] at h1
  obtain ⟨f0,f1,f2,f3,f4,f5⟩:=hf it (by simp)
  exact wpAny_pyNext_rev_end (I.ok.hd hc) h1 fun h' eb=>⟨rfl,I.turned (t':=s.toks) (fun b o hb e=>eb b o hb e) f0 f1 f3 f4 f5⟩
 self:=fun _ _ _ _ _ st h=>wpAny_pyIter_revIter st.2 h
structure pB (K:W.Frag) (mg:Str->Option Value) (x:Str):Prop where
 at_:mg x=some (.ref (bO mg x))
 cl:Cls K (bO mg x)
 makes:PySem.W.makesIn K (bO mg x)=true
 kp:PySem.W.keepIn K (.ref (bO mg x))=true
def clsIn (K:W.Frag) (C:Addr):Bool:=PySem.W.plainGet K C Str.empty && PySem.W.hasDictIn K C && PySem.W.plainOver K C
theorem Fb {K:W.Frag} {mg:Str->Option Value} {h:Heap} (X:K.In h) (G:h.Ns mainGlobals mg) {x:Str} {C:Addr} (a:PySem.W.nsIn K mainGlobals x=some (some (.ref C))) (b:clsIn K C=true)
  (s:PySem.W.findIn K (.ref C) "__setattr__"=some (some (.builtin "object.__setattr__"))) (m:PySem.W.makesIn K C=true) (k:PySem.W.keepIn K (.ref C)=true):pB K mg x:=by
 have e0:=PySem.W.mg_of X G a
 have e:=nG e0
 unfold clsIn at b
 simp only [Bool.and_eq_true] at b
 exact ⟨by rw [e];exact e0,by rw [e];exact ⟨b.1.1,b.1.2,b.2,s⟩,by rw [e];exact m,by rw [e];exact k⟩
structure gM (K:W.Frag) (mg:Str->Option Value) (x m qual:Str) (st:Stmt):Prop where
 ex:∃ f fd,Meth K (bO mg x) m f/\Fun K m qual st f fd
theorem j5 {K:W.Frag} {mg:Str->Option Value} {h:Heap} (X:K.In h) (G:h.Ns mainGlobals mg) {x m qual:Str} {C f:Addr} {st:Stmt} {oc:Value} {od an:Option Addr} {osl:Array (Option Value)} {kV doc pm cdv ct:Value}
  (a:PySem.W.nsIn K mainGlobals x=some (some (.ref C))) (i:PySem.W.findIn K (.ref C) m=some (some (.ref f))) (n:PySem.W.isFn K (.ref f)=true)
  (l:K.lookup f=some ⟨oc,od,.func (PySem.W.fnOf m qual (dD st) (bK st) (aq st) .none kV doc pm an cdv ct),osl⟩) (c:PySem.W.codeIn K cdv qual=true) (k:PySem.W.keepIn K (.ref f)=true):gM K mg x m qual st:=by
 have e:=nG (PySem.W.mg_of X G a)
 exact ⟨f,_,by rw [e];exact ⟨i,n,k⟩,yp l c k⟩
theorem Fd {K:W.Frag} {mg:Str->Option Value} {h:Heap} (X:K.In h) (G:h.Ns mainGlobals mg) {x:Str} {C:Addr} {fl:List Str} (a:PySem.W.nsIn K mainGlobals x=some (some (.ref C))) (b:Hy K C fl=true):∀ f∈fl,NoAttr K (bO mg x) f:=fun n hn=>by
 rw [nG (PySem.W.mg_of X G a)]
 have:=List.all_eq_true.mp b n hn
 first | exact of_decide_eq_true this | exact beq_iff_eq.mp this | simpa using this
def jD (j:Nat):Stmt->Stmt
 | .ClassDef _ _ _ ss _ _ _ _ _ _ _=>ss.getD j (.Pass ⟨0,0,0,0⟩)
 | s=>s
def jr (P:Program) (w:World) (K:W.Frag) (mg:Str->Option Value) (base:Heap) (k:Nat) (x m:Str) (ps:List Str) (sp:Sp):Prop:=
 ∃ f fd,Meth K (bO mg x) m f/\Binds K fd ps []/\nQ P w K mg base (Et P w) k f fd ps sp
section
variable {P:Program} {w:World} {K:W.Frag} {mg:Str->Option Value} {base:Heap}
theorem pC {x m qual:Str} {st:Stmt} {N ps:List Str} {k:Nat} {sp:Sp} (D:gM K mg x m qual st) (S:aG N ps (aq st))
  (hb:∀ (kV doc pm:Value) (an:Option Addr) (cdv ct:Value) (us:List Value),us.length=ps.length->bindArgs (PySem.W.fnOf m qual (dD st) (bK st) (aq st) .none kV doc pm an cdv ct) ⟨us,[]⟩=pure (ps.zip us))
  (len:∀ vs H Q E,sp vs H Q E->vs.length=ps.length)
  (hbody:∀ (f:Addr) (cdv:Value) (A:Around) (outer:List Env) (s:Shared) (H:Hp) (vs:List V) (Q:VK) (E:XK),Room k (A.deeper (envOfC qual (aq st) s.heap.objs.size f cdv))->sp vs H Q E->
   ∃ t,JB (jw (Et P w) P w K mg base N qual (aq st) f cdv A outer s H E) (bK st) t/\t {nx:=fun _ H'=>Q .non H',rt:=Q} (start N vs) H):jr P w K mg base (k+1) x m ps sp:=by
 obtain ⟨f,fd,hm,F⟩:=D.ex
 refine ⟨f,fd,hm,F.binds hb,?_⟩
 obtain ⟨oc,od,kV,doc,pm,an,cdv,ct,osl,rfl,lk,hcd⟩:=F.ex
 exact xW lk hcd S len fun A outer s H vs Q E hr h=>let ⟨t,j,q⟩:=hbody f cdv A outer s H vs Q E hr h;⟨t,j.run,q⟩
end
def uy (C:Addr) (m:Str) (sp:Sp) (R:St->XK) (ta:TE) (t:TA):TE:=fun U H Q=>ta U H fun x H1=>∃ a dx fs,x= .ref a/\H1 a=some (.ins C dx fs)/\fs.lookup m=none/\t U H1 fun vs H2=>sp (x :: vs) H2 Q (R U)
def uz (C:Addr) (sp:Sp) (R:St->XK) (t:TA):TE:=fun U H Q=>t U H fun vs H1=>∀ x dx,H1 x=none->H1 dx=none->dx≠x->
 sp (.ref x :: vs) (upd (upd H1 dx (.own x)) x (.ins C dx [])) (fun v H2=>v= .non/\Q (.ref x) H2) (R U)
section
variable {X:Cx} {K:W.Frag} {k:Nat} {f C:Addr} {ps:List Str} {sp:Sp} {R:St->XK} {x m fn:Str} {p pos apos pos':Pos} {e o value:Expr} {es:List Expr} {ta tv:TE} {t:TA} {pins:List (Addr×Obj)} {U:St} {H:Hp} {s:Shared} {Q:VK} {us:List Value} {vs:List V}
theorem c7 {pl:Sem Bool} (he:JE X o ta) (c:pB X.K X.mg x) (F:jr X.prog X.w X.K X.mg X.base k x m ps sp) (hr:Room k X.A) (hx:mZ X R) (ha:JA X (e :: es) t)
  (hs:autoParam ((e :: es).all notStar=true) L2.auto4._auto_1)
  (ht:eval (.Call (.Attribute o m apos) (e :: es) [] pos) X.env=(do
   let ov ← eval o X.env
   standAt apos.atName
   let (f,first) ← holding [ov] (getMethod ov m pl)
   callWith pos f first (backTo pos (starEach (e :: es) X.env)) (backToKw pos (keywordEach [] X.env))):=by rfl):
  JE X (.Call (.Attribute o m apos) (e :: es) [] pos) (uy (bO X.mg x) m sp R ta t):=⟨by
 have h1:notStar e=true:=by simp only [List.all_cons,Bool.and_eq_true] at hs;exact hs.1
 have h2:es.all notStar=true:=by simp only [List.all_cons,Bool.and_eq_true] at hs;exact hs.2
 obtain ⟨f,fd,hm,hb,F⟩:=F
 intro pins s U H Q I h
 refine PySem.W.methodCall_KW (pl:=pl) (cP (he.run pins s U H _ I h) fun u s1 qq0=>?_) ht
 obtain ⟨x,H1,I1,rx,a,dx,fs,ex,ea,l,q⟩:=qq0
 subst ex
 obtain rfl:u=Value.ref a:=rx
 refine tW I1 ea c.cl hm l ?_
 refine PySem.W.callWith_K (first:=[.ref a]) (h₀:=X.base) I.ok.mod.kin hm.kp (cP (ha.run pos pins s1 U H1 _ I1 q) fun us s2 ⟨vs,H2,I2,r,q2⟩=>⟨I2.kIn,?_⟩) (bI h1) (jx h2)
 exact Cv (us:=.ref a :: us) (vs:=.ref a :: vs) F hr hb hx I2 (.cons rfl r) q2⟩
theorem wQ (c:pB X.K X.mg x) (F:jr X.prog X.w X.K X.mg X.base k x "__init__" ps sp) (hr:Room (k+1) X.A) (hx:mZ X R) (I:Inv X pins U H s) (r:Vals vs us)
  (h:∀ y dx,H y=none->H dx=none->dx≠y->sp (.ref y :: vs) (upd (upd H dx (.own y)) y (.ins (bO X.mg x) dx [])) (fun v H2=>v= .non/\Q (.ref y) H2) (R U)):
  wpAny (model X.prog X.w) X.A (call (.ref (bO X.mg x)) us) (EP X pins U Q) X.xe s:=by
 obtain ⟨f,fd,hm,hb,F⟩:=F
 have hq:=h (s.heap.objs.size+1) s.heap.objs.size (I.hok.fresh (Nat.le_succ _)) (I.hok.fresh (Nat.le_refl _)) (Nat.ne_of_lt (Nat.lt_succ_self _))
 have I2:=Inv.made (C:=bO X.mg x) I
 have r2:Vals (V.ref (s.heap.objs.size+1) :: vs) (Value.ref (s.heap.objs.size+1) :: us):=.cons rfl r
 have hl:((Value.ref (s.heap.objs.size+1) :: us) ++ []).length=ps.length:=by
  have e:=r2.length
  rw [F.len _ _ _ _ hq] at e
  rw [List.append_nil]
  exact e.symm
 have bd:=hb _ (Value.ref (s.heap.objs.size+1) :: us) I2.kIn hl
 rw [List.append_nil] at bd
 refine wpAny_call (xU (f:=f) I.kIn c.makes hm.at_ (beq_iff_eq.mp hm.fn) (codeAny_mono (F.run _ X.stack _ _ ⟨Value.ref (s.heap.objs.size+1) :: us,[]⟩ (Value.ref (s.heap.objs.size+1) :: us) _ _ (R U) (hr.make (bO X.mg x) us [])
  (I2.env0.make (bO X.mg x) us []) bd r2 hq) fun r s' hq'=>?_))
 cases r with
 | error e=>exact hx pins e s' (vq I2 hq')
 | ok fl=>
  cases fl with
  | ret u=>
   obtain ⟨v,H',I3,rv,ev,q3⟩:=I2.after hq'
   subst ev
   exact ⟨rv,⟨V.ref (s.heap.objs.size+1),H',I3,rfl,q3⟩⟩
  | next=>exact False.elim hq'
  | brk=>exact False.elim hq'
  | cont=>exact False.elim hq'
theorem vD (c:pB X.K X.mg x) (F:jr X.prog X.w X.K X.mg X.base k x "__init__" ps sp) (hr:Room (k+1) X.A) (hg:Gl X x) (hx:mZ X R) (ha:JA X (e :: es) t) (hdb:(x == ("__debug__":Str))=false) (h:autoParam ((e :: es).all notStar=true) L2.auto4._auto_1):
  JE X (.Call (.Name x p) (e :: es) [] pos) (uz (bO X.mg x) sp R t):=⟨by
 have h1:notStar e=true:=by simp only [List.all_cons,Bool.and_eq_true] at h;exact h.1
 have h2:es.all notStar=true:=by simp only [List.all_cons,Bool.and_eq_true] at h;exact h.2
 intro pins s U H Q I h
 refine wpAny_Call_Name_kw (qw I hg c.at_ ?_ hdb)
 refine PySem.W.callWith_K (h₀:=X.base) I.ok.mod.kin c.kp (cP (ha.run pos pins s U H _ I h) fun us s1 ⟨vs,H1,I1,r,q⟩=>⟨I1.kIn,?_⟩) (bI h1) (jx h2)
 exact wQ c F hr hx I1 r q⟩
theorem jE (hK:X.K=K) (he:JE X e ta) (h:autoParam (jN e=true) L2.auto4._auto_1):JE X (.Attribute e fn pos) (Gp K ta fn):=by
 subst hK
 exact ⟨Gr he.run (by cases e <;> first | rfl | cases h)⟩
theorem oO (hK:X.K=K) (ha:JE X o ta) (hv:JE X value tv) (h:autoParam (gP value=true) L2.auto4._auto_1):JS X (.Assign [.Attribute o fn pos'] value pos) (Gq K ta tv fn):=by
 subst hK
 exact ⟨Gs ha.run hv.run (rP h)⟩
end
section
variable {U:St} {H:Hp} {D:Ends} {Q:VK} {sp:Sp} {R:St->XK} {a:TA} {K:W.Frag} {C:Addr} {ta tv:TE} {f m:Str}
theorem dg (h:ta U H fun x H1=>∃ b dx fs,x= .ref b/\H1 b=some (.ins C dx fs)/\fs.lookup m=none/\a U H1 fun vs H2=>sp (x :: vs) H2 Q (R U)):uy C m sp R ta a U H Q:=h
theorem dh (h:a U H fun vs H1=>∀ x dx,H1 x=none->H1 dx=none->dx≠x->sp (.ref x :: vs) (upd (upd H1 dx (.own x)) x (.ins C dx [])) (fun v H2=>v= .non/\Q (.ref x) H2) (R U)):uz C sp R a U H Q:=h
theorem iB (h:ta U H fun x H1=>∃ a C dx fs v,x= .ref a/\H1 a=some (.ins C dx fs)/\Cls K C/\NoAttr K C f/\fs.lookup f=some v/\Q v H1):Gp K ta f U H Q:=h
theorem fV (h:tv U H fun y H1=>ta U H1 fun x H2=>∃ a C dx fs,x= .ref a/\H2 a=some (.ins C dx fs)/\Cls K C/\NoAttr K C f/\fs.length < 1000/\D.nx U (upd H2 a (.ins C dx (jf f y fs)))):Gq K ta tv f D U H:=h
end
section
variable {X:Cx} {mg:Str->Option Value} {o:Expr} {ta:TE} {t:TA} {x m:Str} {ps:List Str} {sp:Sp} {k:Nat} {R:St->XK} {e:Expr} {es:List Expr} {pos apos:Pos}
theorem sU {pl:Sem Bool} (hmg:X.mg=mg) (he:JE X o ta) (c:pB X.K X.mg x) (F:jr X.prog X.w X.K X.mg X.base k x m ps sp) (hr:Room k X.A) (hx:mZ X R) (ha:JA X (e :: es) t)
  (hs:autoParam ((e :: es).all notStar=true) L2.auto4._auto_1)
  (ht:eval (.Call (.Attribute o m apos) (e :: es) [] pos) X.env=(do
   let ov ← eval o X.env
   standAt apos.atName
   let (f,first) ← holding [ov] (getMethod ov m pl)
   callWith pos f first (backTo pos (starEach (e :: es) X.env)) (backToKw pos (keywordEach [] X.env))):=by rfl):
  JE X (.Call (.Attribute o m apos) (e :: es) [] pos) (uy (bO mg x) m sp R ta t):=by
 subst hmg
 exact c7 he c F hr hx ha hs ht
theorem zx {p:Pos} (hmg:X.mg=mg) (c:pB X.K X.mg x) (F:jr X.prog X.w X.K X.mg X.base k x "__init__" ps sp) (hr:Room (k+1) X.A) (hg:Gl X x) (hx:mZ X R) (ha:JA X (e :: es) t) (hdb:(x == ("__debug__":Str))=false) (h:autoParam ((e :: es).all notStar=true) L2.auto4._auto_1):
  JE X (.Call (.Name x p) (e :: es) [] pos) (uz (bO mg x) sp R t):=by
 subst hmg
 exact vD c F hr hg hx ha hdb h
end
section
variable {U:St} {H:Hp} {Q:VK}
def HQ (o:HO) (n:Nat) (H:Hp) (Q:VK):Prop:=n<=sizeLine/\∀ p,H p=none->Q (.ref p) (upd H p o)
theorem gq {a:TA} (h:a U H fun xs H1=>HQ (.lst xs) xs.length H1 Q):Gw a U H Q:=h
theorem gr {a:TA} (h:a U H fun xs H1=>HQ (.tup xs) xs.length H1 Q):Bs a U H Q:=h
theorem dI {o:HO} {n:Nat} (c:Nat.ble n 64=true) (h:∀ p H',H p=none->Same H H'->H' p=some o->Q (.ref p) H'):HQ o n H Q:=
 ⟨Nat.le_trans (Nat.le_of_ble_eq_true c) (by decide),fun p np=>h p _ np ((Same.refl H).upd np) aj⟩
end
section
variable {sub:List (Option Nat)} {g:TG} {tt:TT} {te:TE} {U:St} {Q:VK} {H:Hp} {K:W.Frag} {a:Addr} {xs:List V} {lo:Int} {n:Nat} {z:Str}
theorem gG (Pv:Nat->List V->Hp->Prop) (hn:n<=sizeLine) (h0:Pv 0 [] H) (hl:∀ i ys H,Pv i ys H->ys.length<=i)
  (hs:∀ i ys H,i < n->Pv i ys H->g (.int (lo+i)) (cC sub U) H fun σ2 H2=>KeepSt (cC sub U) σ2/\tt σ2 H2 fun b H3=>if b=true then te σ2 H3 fun y H4=>Pv (i+1) (ys ++ [y]) H4 else Pv (i+1) ys H3)
  (hd:∀ ys H D H',Pv n ys H->H D=none->Same H H'->H' D=some (.lst ys)->Q (.ref D) H'):mX sub g tt te U Q (w5 lo n) H:=
 yN Pv hn h0 hl hs fun ys H p D nD=>hd ys H D _ p nD ((Same.refl H).upd nD) aj
theorem oR (Pv:Nat->List V->Hp->Prop) (hn:xs.length<=sizeLine) (h0:Pv 0 [] H) (hl:∀ i ys H,Pv i ys H->ys.length<=i) (hq:∀ i ys H,Pv i ys H->SqL K H a xs)
  (hs:∀ i ys H x,xs[i]?=some x->Pv i ys H->g x (cC sub U) H fun σ2 H2=>KeepSt (cC sub U) σ2/\tt σ2 H2 fun b H3=>if b=true then te σ2 H3 fun y H4=>Pv (i+1) (ys ++ [y]) H4 else Pv (i+1) ys H3)
  (hd:∀ ys H D H',Pv xs.length ys H->H D=none->Same H H'->H' D=some (.lst ys)->Q (.ref D) H'):mX sub g tt te U Q (Eh K a) H:=
 wC Pv hn h0 hl hq hs fun ys H p D nD=>hd ys H D _ p nD ((Same.refl H).upd nD) aj
theorem gF {f:Nat->V} {i:Nat} {y:V} (h:y=f i):(List.range i).map f ++ [y]=(List.range (i+1)).map f:=by rw [h,List.range_succ,List.map_append];rfl
theorem iT (f:Nat->V) (hn:n<=sizeLine)
  (hs:∀ i,i < n->g (.int (lo+i)) (cC sub U) H fun σ2 H2=>KeepSt (cC sub U) σ2/\tt σ2 H2 fun b H3=>if b=true then te σ2 H3 fun y H4=>H4=H/\(List.range i).map f ++ [y]=(List.range (i+1)).map f else H3=H/\(List.range i).map f=(List.range (i+1)).map f)
  (hd:∀ D H',H D=none->Same H H'->H' D=some (.lst ((List.range n).map f))->Q (.ref D) H'):mX sub g tt te U Q (w5 lo n) H:=by
 refine gG (fun i ys H'=>H'=H/\ys=(List.range i).map f) hn ⟨rfl,rfl⟩ ?_ ?_ ?_
 ·rintro i ys H' ⟨_,rfl⟩
  simp
 ·rintro i ys H' hi ⟨rfl,rfl⟩
  exact hs i hi
 ·rintro ys H1 D H' ⟨rfl,rfl⟩ nD s e
  exact hd D H' nD s e
end
end L2
set_option maxHeartbeats 8000000
namespace L2
open PySem PySem.Spec PyProof.Rows
end L2
namespace L2
open PySem PySem.W PySem.Spec PyProof.Rows
end L2
namespace L2
open PySem PySem.Spec PyProof.Rows
theorem ql:Manifest.owners.lookup (String.ofList ['d','e','s','r','e','v','e','r'].reverse)=some Manifest.sig_reversed:=by kernel_rfl
theorem dO:Slot "reversed" "__next__" "reversed.__next__":=
 .of (owner:="reversed") (n:="__next__") (by rw [typeLookup_type,builtinLookup_eq_fast];kernel_rfl) (by trivial) (by trivial) (by trivial)
  (by first | exact .inl (by trivial) | exact .inr (by trivial)) (by rw [isSubtype_type];kernel_rfl)
theorem jF:entryFor table "reversed.__next__"=some Builtin.«reversed.__next__»:=entryFor_of_tree (by kernel_rfl)
theorem j6 (a:Value):argsOk "reversed.__next__" ⟨[a],[]⟩:=by
 unfold argsOk;rw [signature?_of (id:="reversed.__next__") (n:=['_','_','t','x','e','n','_','_']) (o:=['d','e','s','r','e','v','e','r']) (by kernel_rfl) ql];kernel_rfl
theorem j7:Slot "reversed" "__iter__" "reversed.__iter__":=
 .of (owner:="reversed") (n:="__iter__") (by rw [typeLookup_type,builtinLookup_eq_fast];kernel_rfl) (by trivial) (by trivial) (by trivial)
  (by first | exact .inl (by trivial) | exact .inr (by trivial)) (by rw [isSubtype_type];kernel_rfl)
theorem pG (a:Value):argsOk "reversed.__iter__" ⟨[a],[]⟩:=by
 unfold argsOk;rw [signature?_of (id:="reversed.__iter__") (n:=['_','_','r','e','t','i','_','_']) (o:=['d','e','s','r','e','v','e','r']) (by kernel_rfl) ql];kernel_rfl
theorem oU:entryFor table "reversed.__iter__"=some Builtin.«dict_keyiterator.__iter__»:=
 entryFor_alias (id':="dict_keyiterator.__iter__") (by kernel_rfl) (by first | rfl | trivial | (unfold String.splitOn;simp+decide [String.splitOnAux])) (by trivial) (by kernel_rfl)
theorem mH:typeLookup (.type "tuple") "__reversed__"=pure none:=by rw [typeLookup_type,builtinLookup_eq_fast];kernel_rfl
theorem sub_tuple_dict:isSubtype (.type "tuple") (.type "dict")=pure false:=by rw [isSubtype_type];kernel_rfl
theorem pH:Slot "reversed" "__init__" "object.__init__":=
 .of (owner:="object") (n:="__init__") (by rw [typeLookup_type,builtinLookup_eq_fast];kernel_rfl) (by trivial) (by trivial) (by trivial)
  (by first | exact .inl (by trivial) | exact .inr (by trivial)) (by rw [isSubtype_type];kernel_rfl)
theorem kJ:TypeCalled "reversed" "reversed.__new__" "object.__init__":=
 ⟨by trivial,F.create_reversed,⟨_,_,F.mro_reversed⟩,F.made_reversed,F.plain_reversed_new,F.sub_reversed_self,pH⟩
section
variable {prog:Program} {w:World} {A:Around} {E:Value->Shared->Prop} {s:Shared}
def kO (l:Addr) (i:Int):Obj:={cls:=.type "reversed",data:=.fields #[.ref l,rawInt i]}
def IsRvd (h:Heap) (a l:Addr) (i:Int):Prop:=∃ o,h.get? a=some o/\o.cls= .type "reversed"/\o.data= .fields #[.ref l,rawInt i]
theorem IsRvd.typeIs {a l:Addr} {i:Int} (x:IsRvd s.heap a l i):s.TypeIs (.ref a) "reversed":=let ⟨o,ho,hc,_⟩:=x;⟨o,ho,hc⟩
theorem IsRvd.at {h h':Heap} {a l:Addr} {i:Int} (x:IsRvd h a l i) (e:∀ o,h.get? a=some o->h'.get? a=some o):IsRvd h' a l i:=let ⟨o,ho,r⟩:=x;⟨o,e _ ho,r⟩
theorem zy {l:Addr} {items:Array Value} {Q₁:Value->Shared->Prop} (hl:IsTup s.heap l items) (hz:items.size < 2 ^ 62)
  (h:∀ k,Q₁ (.ref s.heap.objs.size) {s with heap:=s.heap.push (kO l ((items.size:Int) - 1)),toks:=k}):
  codeAny (model prog w) A (.call (.builtin "reversed.__new__") ⟨[.type "reversed",.ref l],[]⟩) (wants Q₁ E) s:=by
 refine codeAny_of_tree ?_
 show wpAny _ A.in1 (do checkBuiltinCall "reversed.__new__" ⟨[.type "reversed",.ref l],[]⟩;again (.builtin "reversed.__new__" ⟨[.type "reversed",.ref l],[]⟩)) _ _ s
 refine wpAny_bind (wpAny_of_eq (F.newCall_reversed_1 _) (wpAny_pure ⟨plainId_quiet F.plain_reversed_new _,codeAny_builtin F.entry_reversed_new ?_⟩))
 rw [Around.under_plainId F.plain_reversed_new _]
 unfold Builtin.«reversed.__new__»
 refine wpAny_bind (wpAny_of_eq (newClass_reversed _) ?_)
 try dsimp only
 refine wpAny_bind (wpAny_of_eq (a:=()) (by first | rfl | kernel_rfl) ?_)
 refine wpAny_bind (wpAny_of_eq (a:=()) (by first | rfl | kernel_rfl) ?_)
 try dsimp only
 refine wpAny_bind (wpAny_specialOf hl.typeIs mH ?_)
 try dsimp only
 refine wpAny_bind ?_
 refine wpAny_bind (wpAny_isInstance hl.typeIs sub_tuple_dict ?_)
 rw [if_neg (by decide)]
 refine wpAny_bind (wpAny_specialOf hl.typeIs F.slot_tuple_getitem.lookup ?_)
 dsimp only
 rw [if_pos (by trivial)]
 refine wpAny_pure ?_
 rw [if_neg (by decide)]
 refine wpAny_bind (len_tuple hl (by omega) ?_)
 refine wpAny_bind (wpAny_of_eq (a:=some ((items.size:Nat):Int)) rfl ?_)
 dsimp only
 refine wpAny_bind ?_
 unfold Builtin.SmallTypes.newRecord
 refine wpAny_newObj_type ?_
 exact wpAny_pure (h _)
theorem zA {l:Addr} {items:Array Value} {Q:Value->Shared->Prop} (hl:IsTup s.heap l items) (hz:items.size < 2 ^ 62)
  (h:∀ k,Q (.ref s.heap.objs.size) {s with heap:=s.heap.push (kO l ((items.size:Int) - 1)),toks:=k}):wpAny (model prog w) A (call (.type "reversed") [.ref l]) Q E s:=by
 refine callType_codes kJ (F.typeCall_reversed_1 _) F.entry_object_init (zy (Q₁:=fun obj s₁=>obj= .ref s.heap.objs.size/\∃ k,s₁={s with heap:=s.heap.push (kO l ((items.size:Int) - 1)),toks:=k}) hl hz fun k=>⟨rfl,k,rfl⟩) ?_
 rintro obj s₁ ⟨rfl,k,rfl⟩
 have hT:Shared.TypeIs {s with heap:=s.heap.push (kO l ((items.size:Int) - 1)),toks:=k} (.ref s.heap.objs.size) "reversed":=⟨_,Heap.get?_push_size _ rfl,rfl⟩
 exact ⟨hT,F.args_object_init_2 _ _,(object_init_meets kJ.init.lookup kJ.made (by decide)) prog w A.in1 _ _ ⟨hT,rfl,h k⟩⟩
theorem zB {it l:Addr} {i:Nat} {items:Array Value} {x:Value} {Q:Option Value->Shared->Prop} (hit:IsRvd s.heap it l (i:Int)) (hl:IsTup s.heap l items) (hx:items[i]?=some x) (hz:items.size < 2 ^ 62)
  (hQ:∀ h' k,IsRvd h' it l ((i:Int) - 1)->Heap.SameBut it s.heap h'->Q (some x) {s with heap:=h',toks:=k}):wpAny (model prog w) A (pyNext (.ref it)) Q E s:=by
 obtain ⟨o,ho,hc,hd⟩:=id hit
 have hi:i < items.size:=(Array.getElem?_eq_some_iff.mp hx).1
 unfold pyNext
 refine wpAny_bind (wpAny_attempt (wpAny_callSpecial?_slot (name:=Str.ofString "__next__") hit.typeIs dO
  (wpAny_call_entry dO hit.typeIs jF ?_ (j6 _))))
 unfold Builtin.«reversed.__next__»
 refine wpAny_bind (wpAny_of_eq (a:=(Value.ref it,[])) rfl ?_)
 try dsimp only
 refine wpAny_bind (wpAny_field ho hd (x:=.ref l) rfl ?_)
 refine wpAny_bind (wpAny_field ho hd (x:=rawInt (i:Int)) rfl ?_)
 show wpAny _ _ (if (i:Int) < 0 then _ else _) _ _ s
 rw [if_neg (by omega)]
 refine wpAny_bind (wpAny_specialOf hl.typeIs F.slot_tuple_getitem.lookup ?_)
 rw [if_neg (by decide)]
 refine wpAny_bind (wpAny_mkInt ?_)
 refine wpAny_bind (wpAny_attempt (getItem_tuple (j:=i) hl (by omega) (by omega) ?_ hx ?_))
 ·unfold seqIndex?
  simp
  omega
 dsimp only
 refine wpAny_bind (wpAny_field (s:={s with toks:=s.toks+1}) ho hd (x:=rawInt (i:Int)) rfl ?_)
 refine wpAny_bind (wpAny_setField (s:={s with toks:=s.toks+1}) ho hd (by simp) ?_)
 refine wpAny_pure ⟨x,rfl,wpAny_pure (hQ _ _ ?_ (Heap.SameBut.update ..))⟩
 exact ⟨_,Heap.get?_update_self _ ho (Obj.isFreed_of_fields (Obj.data_mapFields hd _)),(Obj.cls_mapFields ..).trans hc,by
  rw [Obj.data_mapFields hd];simp⟩
theorem CN {it l:Addr} {Q:Option Value->Shared->Prop} (hh:A.handled=none) (hit:IsRvd s.heap it l (-1))
  (hQ:∀ h',Heap.ExtBut it s.heap h'->Q none {s with heap:=h'}):wpAny (model prog w) A (pyNext (.ref it)) Q E s:=by
 obtain ⟨o,ho,hc,hd⟩:=id hit
 unfold pyNext
 refine wpAny_bind (wpAny_attempt (wpAny_callSpecial?_slot (name:=Str.ofString "__next__") hit.typeIs dO
  (wpAny_call_entry dO hit.typeIs jF ?_ (j6 _))))
 unfold Builtin.«reversed.__next__»
 refine wpAny_bind (wpAny_of_eq (a:=(Value.ref it,[])) rfl ?_)
 try dsimp only
 refine wpAny_bind (wpAny_field ho hd (x:=.ref l) rfl ?_)
 refine wpAny_bind (wpAny_field ho hd (x:=rawInt (-1)) rfl ?_)
 show wpAny _ _ (if (-1:Int) < 0 then _ else _) _ _ s
 rw [if_pos (by decide)]
 refine wpAny_bind (wpAny_rule ?_)
 refine wpAny_bind ?_
 refine wpAny_bind (wpAny_setField ho hd (by simp) ?_)
 have sb1:Heap.SameBut it s.heap (s.heap.update it (Obj.mapFields (·.setIfInBounds 1 (rawInt (-1))))):=Heap.SameBut.update ..
 have ho2:=Heap.get?_update_self (Obj.mapFields (·.setIfInBounds 1 (rawInt (-1)))) ho (Obj.isFreed_of_fields (Obj.data_mapFields hd _))
 refine wpAny_setField ho2 (Obj.data_mapFields hd _) (by simp) ?_
 have sb2:Heap.SameBut it (s.heap.update it (Obj.mapFields (·.setIfInBounds 1 (rawInt (-1))))) ((s.heap.update it (Obj.mapFields (·.setIfInBounds 1 (rawInt (-1))))).update it (Obj.mapFields (·.setIfInBounds 0 .none))):=Heap.SameBut.update ..
 have eb:Heap.ExtBut it s.heap ((s.heap.update it (Obj.mapFields (·.setIfInBounds 1 (rawInt (-1))))).update it (Obj.mapFields (·.setIfInBounds 0 .none))):=sb1.extBut.trans sb2.extBut
 show wpAny _ _ _ _ _ {s with heap:=((s.heap.update it (Obj.mapFields (·.setIfInBounds 1 (rawInt (-1))))).update it (Obj.mapFields (·.setIfInBounds 0 .none)))}
 generalize ((s.heap.update it (Obj.mapFields (·.setIfInBounds 1 (rawInt (-1))))).update it (Obj.mapFields (·.setIfInBounds 0 .none)))=h2 at eb ⊢
 refine wpAny_bind ?_
 show wpAny _ _ (newExc (.type "StopIteration") [] >>=_) _ _ _
 refine wpAny_bind ?_
 simp only [newExc,newTuple]
 refine wpAny_bind (wpAny_newObj_type ?_ (by size_fits))
 refine wpAny_bind (m:=firstArgMember _ _) (wpAny_of_eq (a:=Value.none) (by first | rfl | (simp only [firstArgMember];rfl)) ?_)
 refine wpAny_newObj_type ?_ (by size_fits)
 simp only [raiseNew]
 refine wpAny_bind (wpAny_handled ?_)
 first | rw [show A.in1.handled=none from hh] | rw [hh]
 refine wpAny_bind (wpAny_pure (wpAny_throw ?_))
 refine wpAny_bind (wpAny_isInstance (T:="StopIteration") (b:=true) ⟨_,Heap.get?_push_size _ rfl,rfl⟩ isSubtype_stop ?_)
 exact wpAny_pure (hQ _ ((eb.push _).push _))
theorem sV {it l:Addr} {i:Int} {Q:Value->Shared->Prop} (hit:IsRvd s.heap it l i) (h:Q (.ref it) s):wpAny (model prog w) A (pyIter (.ref it)) Q E s:=by
 refine wpAny_pyIter_slot hit.typeIs j7 (wpAny_call_entry j7 hit.typeIs oU ?_ (pG _))
 show wpAny _ _ (ret (.ref it)) _ _ s
 exact wpAny_pure ⟨_,rfl,"reversed",_,hit.typeIs,dO.lookup,h⟩
end
def JF (K:W.Frag) (a:Addr) (n:Nat):It:=
 ⟨fun i H=>i < n/\n < 2 ^ 62/\∃ xs,SqT K H a xs/\xs.length=n,
  fun i H v H'=>H'=H/\∀ xs,SqT K H a xs->xs[n - 1 - i]?=some v,
  fun i _=>i=n⟩
theorem zE {P:Program} {w:World} {K:W.Frag} {tg:Expr} {n:Nat} {it a:Addr} (hai:a≠it):
  Turn P w K tg (JF K a n) [it] it (fun i h=>i<=n/\IsRvd h it a ((n:Int) - 1 - (i:Int))) where
 mem:=by simp
 obj:=fun i h st c hc=>by
  obtain ⟨_,⟨o1,e1,c1,d1⟩⟩:=st
  have e:c=it:=by simpa using hc
  subst e
  exact ⟨_,e1,fun v z=>by rw [d1] at z;cases z⟩
 keep:=fun i h h' st kk=>⟨st.1,st.2.at fun o q=>kk it (by simp) o q⟩
 item:=by
  intro X hP hw hK hc i pins s U H E I hf st hg
  subst hP hw hK
  obtain ⟨hi,h1⟩:=st
  obtain ⟨hlt,h62,xs,hq,hlen⟩:=hg
  obtain ⟨its,rv,p,_⟩:=I.tuple hq
  have l1:=rv.length
  obtain ⟨x,hx⟩:∃ x,xs[n - 1 - i]?=some x:=⟨_,List.getElem?_eq_getElem (by omega)⟩
  obtain ⟨u,hu,ru⟩:=rv.get hx
  obtain ⟨f0,f1,f2,f3,f4,f5⟩:=hf it (by simp)
  have e:(n:Int) - 1 - (i:Int)=((n - 1 - i:Nat):Int):=by omega
  rw [e] at h1
  refine zB h1 p (x:=u) (by simpa using hu) (by simp;omega) fun h' k st' sb=>?_
  have I1:Inv X pins U H {s with heap:=h',toks:=k}:=I.turned (t':=k) (fun b o hb e=>(sb.2 b hb).trans e) f0 f1 f3 f4 f5
  obtain ⟨o,eo,c,d⟩:=id st'
  refine ⟨u,rfl,nO (s:={s with heap:=h',toks:=k}) eo c d (by decide) ⟨x,H,I1,ru,⟨rfl,fun ys hy=>by rw [I.tuple_inj hy hq];exact hx⟩,⟨hlt,?_⟩,fun b hb=>(hf b hb).1⟩⟩
  have e2:((n - 1 - i:Nat):Int) - 1=(n:Int) - 1 - ((i+1:Nat):Int):=by omega
  rw [← e2]
  exact st'
 done:=by
  intro X hP hw hK hc i pins s U H E I hf st hg
  subst hP hw hK
  obtain ⟨hi,h1⟩:=st
  have hin:i=n:=hg
  subst hin
  rw [show (i:Int) - 1 - (i:Int)= -1 by omega] at h1
  obtain ⟨f0,f1,f2,f3,f4,f5⟩:=hf it (by simp)
  exact CN (I.ok.hd hc) h1 fun h' eb=>⟨rfl,I.turned (t':=s.toks) (fun b o hb e=>eb b o hb e) f0 f1 f3 f4 f5⟩
 self:=fun _ _ _ _ _ st h=>sV st.2 h
def Fe (K:W.Frag) (ta:TE):TI:=fun U H R=>ta U H fun x H1=>(∃ l xs,x= .ref l/\SqL K H1 l xs/\R (JD K l xs.length) H1)\/∃ l xs,x= .ref l/\SqT K H1 l xs/\xs.length < 2 ^ 62/\R (JF K l xs.length) H1
theorem CP {X:Cx} {K:W.Frag} {a tg:Expr} {ta:TE} {p pos:Pos} (hK:X.K=K) (hg:Gl X "reversed") (hm:X.mg "reversed"=none) (ha:JE X a ta) (h:autoParam (notStar a=true) L2.auto4._auto_1):
  JI X tg (.Call (.Name "reversed" p) [a] [] pos) (Fe K ta):=⟨by
 subst hK
 intro pins s U H R I hq
 refine Call_ (fX I hg hm mY (PyProof.Rows.callWith_type1 (arg1 h (cP (ha.run pins s U H _ I hq) fun u s1 qq0=>?_)) (bI h) rfl))
 obtain ⟨x,H1,I1,rx,hx⟩:=qq0
 rcases hx with ⟨l,xs,ex,hx,q⟩ | ⟨l,xs,ex,hx,h62,q⟩
 ·subst ex
  cases rx
  obtain ⟨its,rv,ht,hz⟩:=I1.list hx
  have hlen:=rv.length
  have lt:l < s1.heap.objs.size:=by obtain ⟨o,ho,_⟩:=ht.isList;exact Heap.lt_size ho
  refine call_reversed_list ht.isList ?_
  have e0:(s1.heap.push (PySem.revObj l ((its.toArray.size:Int) - 1))).get? s1.heap.objs.size=some (PySem.revObj l ((its.toArray.size:Int) - 1)):=Heap.get?_push_size _ rfl
  have z2:(s1.heap.push (PySem.revObj l ((its.toArray.size:Int) - 1))).IsRevIter s1.heap.objs.size l ((xs.length:Int) - 1 - ((0:Nat):Int)):=⟨_,e0,rfl,by
   show Data.fields #[.ref l,rawInt ((its.toArray.size:Int) - 1)]=_
   rw [show ((its.toArray.size:Int) - 1)=(xs.length:Int) - 1 - ((0:Nat):Int) by rw [List.size_toArray];omega]⟩
  refine wpAny_pyIter_revIter z2 ?_
  refine ⟨s1.heap.objs.size,[s1.heap.objs.size],_,_,H1,rfl,I1.kept (t':=s1.toks) fun b o q=>Heap.get?_push_of_some _ q,zu (n:=xs.length) (Nat.ne_of_lt lt),⟨Nat.zero_le _,z2⟩,fun b hb=>?_,q⟩
  have e:b=s1.heap.objs.size:=by simpa using hb
  subst e
  exact I1.fpOk (Nat.le_refl _) (I1.hok.fresh (Nat.le_refl _))
 ·subst ex
  cases rx
  obtain ⟨its,rv,ht,hz⟩:=I1.tuple hx
  have hlen:=rv.length
  have lt:l < s1.heap.objs.size:=by obtain ⟨o,ho,_⟩:=id ht;exact Heap.lt_size ho
  refine zA ht (by simp;omega) fun k=>?_
  have e0:(s1.heap.push (kO l ((its.toArray.size:Int) - 1))).get? s1.heap.objs.size=some (kO l ((its.toArray.size:Int) - 1)):=Heap.get?_push_size _ rfl
  have z2:IsRvd (s1.heap.push (kO l ((its.toArray.size:Int) - 1))) s1.heap.objs.size l ((xs.length:Int) - 1 - ((0:Nat):Int)):=⟨_,e0,rfl,by
   show Data.fields #[.ref l,rawInt ((its.toArray.size:Int) - 1)]=_
   rw [show ((its.toArray.size:Int) - 1)=(xs.length:Int) - 1 - ((0:Nat):Int) by rw [List.size_toArray];omega]⟩
  refine sV z2 ?_
  refine ⟨s1.heap.objs.size,[s1.heap.objs.size],_,_,H1,rfl,I1.kept (t':=k) fun b o q=>Heap.get?_push_of_some _ q,zE (n:=xs.length) (Nat.ne_of_lt lt),⟨Nat.zero_le _,z2⟩,fun b hb=>?_,q⟩
  have e:b=s1.heap.objs.size:=by simpa using hb
  subst e
  exact I1.fpOk (Nat.le_refl _) (I1.hok.fresh (Nat.le_refl _))⟩
section
variable {K:W.Frag} {U:St} {H:Hp}
theorem zF {ta:TE} {R:It->Hp->Prop} (h:ta U H fun x H1=>(∃ l xs,x= .ref l/\SqL K H1 l xs/\R (JD K l xs.length) H1)\/∃ l xs,x= .ref l/\SqT K H1 l xs/\xs.length < 2 ^ 62/\R (JF K l xs.length) H1):Fe K ta U H R:=h
theorem CQ {a:Addr} {xs:List V} {g:TG} {tb:TS} {D:Ends} (Pv:Nat->St->Hp->Prop) (h0:Pv 0 U H) (hl:∀ i U H,i<=xs.length->Pv i U H->SqL K H a xs)
  (hs:∀ i x U H,i < xs.length->xs[xs.length - 1 - i]?=some x->Pv i U H->g x U H fun σ2 H2=>tb {D with nx:=Pv (i+1),ct:=Pv (i+1),bk:=D.nx} σ2 H2) (hd:∀ U H,Pv xs.length U H->D.nx U H):
  ∃ W:Nat->Nat->St->Hp->Prop,(∃ m,W 0 m U H)/\∀ i m U H,W i m U H->
   ((JD K a xs.length).stop i H/\D.nx U H)\/((JD K a xs.length).go i H/\∃ N:St->Hp->Prop,(∀ U' H',N U' H'->∃ m',m' < m/\W (i+1) m' U' H')/\∀ x H',(JD K a xs.length).yld i H x H'->g x U H' fun σ2 H2=>tb {D with nx:=N,ct:=N,bk:=D.nx} σ2 H2):=by
 refine ⟨fun i m U H=>m=xs.length - i/\i<=xs.length/\Pv i U H,⟨xs.length,by simp,Nat.zero_le _,h0⟩,?_⟩
 rintro i m U H ⟨rfl,hi,p⟩
 have hq:=hl i U H hi p
 by_cases hlt:i < xs.length
 ·refine .inr ⟨⟨hlt,xs,hq,rfl⟩,Pv (i+1),fun U' H' h=>⟨xs.length - (i+1),by omega,rfl,by omega,h⟩,fun x H' y=>?_⟩
  obtain ⟨rfl,hy⟩:=y
  exact hs i x U _ hlt (hy xs hq) p
 ·obtain rfl:i=xs.length:=by omega
  exact .inl ⟨rfl,hd U H p⟩
theorem CV {a:Addr} {xs:List V} {g:TG} {tb:TS} {D:Ends} (h62:xs.length < 2 ^ 62) (Pv:Nat->St->Hp->Prop) (h0:Pv 0 U H) (hl:∀ i U H,i<=xs.length->Pv i U H->SqT K H a xs)
  (hs:∀ i x U H,i < xs.length->xs[xs.length - 1 - i]?=some x->Pv i U H->g x U H fun σ2 H2=>tb {D with nx:=Pv (i+1),ct:=Pv (i+1),bk:=D.nx} σ2 H2) (hd:∀ U H,Pv xs.length U H->D.nx U H):
  ∃ W:Nat->Nat->St->Hp->Prop,(∃ m,W 0 m U H)/\∀ i m U H,W i m U H->
   ((JF K a xs.length).stop i H/\D.nx U H)\/((JF K a xs.length).go i H/\∃ N:St->Hp->Prop,(∀ U' H',N U' H'->∃ m',m' < m/\W (i+1) m' U' H')/\∀ x H',(JF K a xs.length).yld i H x H'->g x U H' fun σ2 H2=>tb {D with nx:=N,ct:=N,bk:=D.nx} σ2 H2):=by
 refine ⟨fun i m U H=>m=xs.length - i/\i<=xs.length/\Pv i U H,⟨xs.length,by simp,Nat.zero_le _,h0⟩,?_⟩
 rintro i m U H ⟨rfl,hi,p⟩
 have hq:=hl i U H hi p
 by_cases hlt:i < xs.length
 ·refine .inr ⟨⟨hlt,h62,xs,hq,rfl⟩,Pv (i+1),fun U' H' h=>⟨xs.length - (i+1),by omega,rfl,by omega,h⟩,fun x H' y=>?_⟩
  obtain ⟨rfl,hy⟩:=y
  exact hs i x U _ hlt (hy xs hq) p
 ·obtain rfl:i=xs.length:=by omega
  exact .inl ⟨rfl,hd U H p⟩
end
end L2
namespace L2
open PySem PySem.W PySem.Spec PyProof.Rows
section
variable {X:Cx}
theorem qm:∀ {as:List Addr} {its:List Value},Vals (as.map V.ref) its->its=as.map Value.ref
 | [],_,h=>by cases h;rfl
 | a :: as,_,h=>by
  cases h with
  | cons h1 h2=>
   cases h1
   rw [qm h2];rfl
end
end L2
namespace L2
open PySem PySem.Spec PyProof.Rows
end L2
namespace HT
open PySem PySem.Spec PyProof.Rows
end HT
namespace L2
open PySem PySem.Spec PyProof.Rows
def Lb (xs:Array Value) (c:Nat):Obj:={cls:=.type "list",dict:=none,data:=.seq xs c,slots:=#[]}
end L2
namespace L2
open PySem PySem.Spec PyProof.Rows
open PySem.Sem (wp)
open AutoSeq1 (wpAny_loadPart')
end L2
namespace L2
open PySem PySem.Spec PyProof.Rows
section
open PySem.SeqAt PySem.MeetsSeq PySem.MeetsSeq2 PySem.MeetsSeq3
open PySem.AutoSeq1 (wpAny_loadPart')
end
section
variable {fs ex:List Addr} {H:Hp} {h h':Heap} {T c:Addr} {ps more:Array Value} {o:HO} {P:Program} {w:World}
theorem Un.grow (hT:H T=some (.tbl ps)) (hc:h.objs.size<=c) (hc0:H c=none) (k:∀ b u,b≠T->h.get? b=some u->h'.get? b=some u) (hn:h'.get? T=some {cls:=.none,data:=.fields (ps ++ more)}):
  Un fs ex H (upd (upd H T (.tbl (ps ++ more))) c o) h h' where
 keep:=fun b u q n _ _=>k b u (fun z=>by rw [z,hT] at n;cases n) q
 slot:=fun b u q n _ _=>⟨u.slots,k b u (fun z=>by rw [z,hT] at n;cases n) q⟩
 free:=fun b u q n _=>by
  rw [aA (Nat.ne_of_lt (Nat.lt_of_lt_of_le (Heap.lt_size q) hc)),aA (fun z=>by rw [z,hT] at n;cases n)];exact n
 there:=fun b u q _=>by
  by_cases e:b=T
  ·exact ⟨_,e ▸ hn⟩
  ·exact ⟨u,k b u e q⟩
 tups:=fun b xs q=>by rw [aA (bQ q hc0),aA (fun z=>by rw [z,hT] at q;cases q)];exact q
 frzs:=fun b u xs q=>by rw [aA (bQ q hc0),aA (fun z=>by rw [z,hT] at q;cases q)];exact q
 tbls:=fun b qs q=>by
  rw [aA (bQ q hc0)]
  by_cases e:b=T
  ·subst e;rw [hT] at q;cases q;exact ⟨more,aj⟩
  ·exact ⟨#[],by rw [aA e,q];simp⟩
theorem HOk.grow (ok:HOk P w H h) (hT:H T=some (.tbl ps)) (hc0:H c=none) (k:∀ b u,b≠T->h.get? b=some u->h'.get? b=some u) (hn:h'.get? T=some {cls:=.none,data:=.fields (ps ++ more)})
  (new:ObjOk P w (upd (upd H T (.tbl (ps ++ more))) c o) h' c o):HOk P w (upd (upd H T (.tbl (ps ++ more))) c o) h':=fun b u q=>by
 by_cases e:b=c
 ·subst e;rw [aj] at q;cases q;exact new
 ·rw [aA e] at q
  by_cases e2:b=T
  ·subst e2;rw [aj] at q;cases q;exact hn
  ·rw [aA e2] at q
   refine (ok b u q).stay (fun a v hc r=>k a v ?_ r) (fun a r=>?_) fun a xs r=>?_
   ·rcases hc with rfl | hc
    ·exact e2
    ·rintro rfl;rw [hT] at hc;cases hc
   ·rw [aA (bQ r hc0),aA (fun z=>by rw [z,hT] at r;cases r)];exact r
   ·rw [aA (bQ r hc0),aA (fun z=>by rw [z,hT] at r;cases r)];exact r
end
def CW (c:Addr) (qual:Str):HO:=.ext fun h=>h.CodeRec (.ref c) qual
def Tb (T:Addr) (pos:Pos) (qual:Str) (H:Hp):Prop:=H T=some (.tbl #[])\/∃ c,H T=some (.tbl #[rawInt pos.line,rawInt pos.col,.ref c])/\H c=some (CW c qual)
def SmT (T:Addr) (H H':Hp):Prop:=∀ b o,b≠T->H b=some o->H' b=some o
theorem SmT.refl {T:Addr} {H:Hp}:SmT T H H:=fun _ _ _ e=>e
theorem SmT.trans {T:Addr} {H H1 H2:Hp} (a:SmT T H H1) (b:SmT T H1 H2):SmT T H H2:=fun x o n e=>b x o n (a x o n e)
theorem Same.smT {T:Addr} {H H':Hp} (s:Same H H'):SmT T H H':=fun b o _ e=>s b o e
theorem Tb.same {T:Addr} {pos:Pos} {qual:Str} {H H':Hp} (h:Tb T pos qual H) (s:Same H H'):Tb T pos qual H':=by
 rcases h with h | ⟨c,h,h2⟩
 ·exact .inl (s _ _ h)
 ·exact .inr ⟨c,s _ _ h,s _ _ h2⟩
theorem CZ {P:Program} {w:World} {H:Hp} {h:Heap} {c:Addr} {qual:Str} (r:h.CodeRec (.ref c) qual):ObjOk P w H h c (CW c qual):=by
 obtain ⟨c',oc,vs,t,e,ho,hd,hv⟩:=r
 cases e
 refine ⟨⟨c,oc,vs,t,rfl,ho,hd,hv⟩,⟨oc,ho⟩,fun h1 h2 r k=>?_⟩
 obtain ⟨c',oc,vs,t,e,ho,hd,hv⟩:=r
 cases e
 exact ⟨c,oc,vs,t,rfl,k _ ho,hd,hv⟩
section
variable {X:Cx} {pins:List (Addr×Obj)} {U:St} {H:Hp} {s:Shared} {Q:Value->Shared->Prop} {params:Arguments} {body:Expr} {scope:Scope} {pos:Pos} {c T:Addr}
theorem zG (I:Inv X pins U H s) (hcd:X.env.code= .ref c) (hC:PySem.W.CodeHd X.base c T) (hcl:closureFor scope X.env=pure []) (hdef:defaultsOf params X.env=([],[])) (hTb:Tb T pos (X.env.qual ++ "<lambda>") H)
  (h:∀ (f:Addr) (s2:Shared) (H2:Hp) (pm ctv:Value) (c':Addr),Inv X pins U H2 s2->SmT T H H2->Tb T pos (X.env.qual ++ "<lambda>") H2->s2.heap.get? f=some (PySem.W.kla_obj "<lambda>" (X.env.qual ++ "<lambda>") params body scope [] pm c' ctv)->H2 f=none->s.heap.objs.size<=f->
   H2 c'=some (CW c' (X.env.qual ++ "<lambda>"))->Q (.ref f) s2):
  wpAny (model X.prog X.w) X.A (eval (.Lambda params body scope pos) X.env) Q X.xe s:=by
 refine PySem.W.kla_eval hdef ?_
 have hg:s.heap.Ns mainGlobals X.mg:=I.mod.glob.keeps I.bk
 have C:PySem.W.CodeHd s.heap c T:=hC.keeps I.bk
 obtain ⟨bm,ob,b1,b2,b3,b4,b5,b6⟩:=I.mod.bmn
 have hTs:∀ ps,H T=some (.tbl ps)->s.heap.get? T=some (PySem.W.tabObj ps):=fun ps e=>I.hok T _ e
 have hneT:∀ ps,H T=some (.tbl ps)->s.heap.BuiltinsAt X.mg T/\mainGlobals≠T:=fun ps e=>by
  have e1:=hTs ps e
  have g3:=I.bk _ _ b3
  refine ⟨⟨bm,ob,b1,b2,fun z=>?_,fun z=>?_,g3,b4,b5,b6⟩,fun z=>?_⟩
  ·obtain ⟨o,es,ep,q,hd,_⟩:=hg
   rw [z,q] at g3;cases g3;rw [hd] at b6;cases b6
  ·rw [z,e1] at g3;cases g3;cases b4
  ·obtain ⟨o,es,ep,q,hd,_⟩:=hg
   rw [z,e1] at q;cases q;cases hd
 rcases hTb with hT | ⟨c',hT,hc'⟩
 ·obtain ⟨hb,hgT⟩:=hneT _ hT
  refine PySem.W.kla_makeFunction (mg:=X.mg) hcl I.ok.glob hg hcd C (hTs _ hT) trivial rfl hgT hb fun c' ctv h' tk hx hge hlt hrec htb=>?_
  have hc0:=I.hok.fresh hge
  have I1:Inv X pins U (upd (upd H T (.tbl (#[] ++ #[rawInt pos.line,rawInt pos.col,.ref c']))) c' (CW c' (X.env.qual ++ "<lambda>"))) {s with heap:=h',toks:=tk}:=
   I.un (Un.grow hT hge hc0 (fun b u n e=>hx b u n e) htb) (I.hok.grow hT hc0 (fun b u n e=>hx b u n e) htb (CZ hrec))
  have hTc:T≠c':=fun z=>by rw [z,hc0] at hT;cases hT
  refine h h'.objs.size _ _ _ ctv c' (I1.kept (h':=h'.push _) (t':=tk) fun b u e=>Heap.get?_push_of_some _ e) (fun b o n e=>?_) (.inr ⟨c',?_,aj⟩) (Heap.get?_push_size _ rfl) (I1.hok.fresh (Nat.le_refl _)) (Nat.le_trans hge (Nat.le_of_lt hlt)) aj
  ·rw [aA (bQ e hc0),aA n];exact e
  ·rw [aA hTc,aj];simp
 ·obtain ⟨hb,hgT⟩:=hneT _ hT
  refine PySem.W.kla_makeFunctionHit (mg:=X.mg) (cv:=.ref c') hcl I.ok.glob hg hcd C (hTs _ hT) (by simp [TriplesOk,rawInt]) (by simp [codeAmong,rawInt]) hb fun ctv h' tk hk hsz=>?_
  have I1:Inv X pins U H {s with heap:=h',toks:=tk}:=I.kept (h':=h') (t':=tk) hk
  exact h h'.objs.size _ _ _ ctv c' (I1.kept (h':=h'.push _) (t':=tk) fun b u e=>Heap.get?_push_of_some _ e) SmT.refl (.inr ⟨c',hT,hc'⟩) (Heap.get?_push_size _ rfl) (I1.hok.fresh (Nat.le_refl _)) hsz hc'
end
section
variable {P:Program} {w:World} {K:W.Frag} {mg:Str->Option Value} {base:Heap} {k:Nat} {f c':Addr} {qual:Str} {params:Arguments} {body:Expr} {scope:Scope} {pm ctv:Value} {N ps:List Str} {A:Around} {outer:List Env} {s:Shared} {H:Hp} {us:List Value} {vs:List V} {Q:VK} {te:TE}
theorem Dd (ho:s.heap.get? f=some (PySem.W.kla_obj "<lambda>" qual params body scope [] pm c' ctv)) (hcd:s.heap.CodeRec (.ref c') qual) (S:aG N ps scope) (hr:Room (k+1) A) (e0:Env0 P w K mg base A outer s H)
  (hb:bindArgs (PySem.W.kla_fn "<lambda>" qual params body scope [] pm (.ref c') ctv) ⟨us,[]⟩=pure (ps.zip us)) (hl:vs.length=ps.length) (r:Vals vs us)
  (hbody:JE (jw uV P w K mg base N qual scope f (.ref c') A outer s H E0).nox body te) (hq:te (start N vs) H Q):codeAny (model P w) A (.call (.ref f) ⟨us,[]⟩) (CR uV outer P w H s Q E0) s:=by
 have lim:s.heap.NoLimit:=e0.mod.nolimit.keeps fun b o e=>(e0.bs b o e).1
 have hkind:∀ y∈ps.zip us,scope.names.lookup y.1=some .local\/(scope.names.lookup y.1=some .cell/\((cellsFrom (s.heap.objs.size+1) scope.names []).lookup y.1).isSome=true):=fun ⟨n,v⟩ hy=>by
  rcases S.par n (List.of_mem_zip hy).1 with q | q
  ·exact .inl q
  ·exact .inr ⟨q,PySem.W.cellsFrom_some _ _ _ (.inl q)⟩
 refine PySem.W.kla_callFunE hr.depth ho rfl S.co S.gen rfl hcd ?_
 rw [hb]
 refine wpAny_pure ?_
 refine wpAny_newFunctionEnv_cells S.kind hkind fun env he s1 x=>?_
 subst he
 refine ⟨lim.keeps x.toInCall.keep,PySem.W.kla_codeExpr ?_⟩
 have I:Inv (jw uV P w K mg base N qual scope f (.ref c') A outer s H E0) [] (start N vs) H s1:=pU S hr.hd e0 hl r x
 refine wpAny_mono (hbody.run.nox [] s1 (start N vs) H _ I hq) (fun u s' hs=>?_) fun e s' hs=>hs
 obtain ⟨v,H',J,rv,q⟩:=hs
 exact ⟨v,H',J.os,J.bare,J.base,J.hok,rv,q⟩
end
abbrev mnl (It f S:Addr) (d:Value):Code:=.builtin "min.loop" ⟨[.ref It,.ref f,.ref S],[(Str.ofString "default",d)]⟩
theorem jT {X:Cx} {pins:List (Addr×Obj)} {U:St} {H H':Hp} {s s':Shared} {b:Addr} {o:Obj} (I:Inv X pins U H s) (u:Un (frs X.stack) [] H H' s.heap s'.heap) (e:s.heap.get? b=some o) (hn:H b=none) (hL:b≠X.env.locals) (hf:b ∉ X.fs):s'.heap.get? b=some o/\H' b=none:=
 ⟨u.keep b o e hn (fun z=>(List.mem_cons.mp (I.stkSub b z)).elim hL hf) (by simp),u.free b o e hn (by simp)⟩
section
variable {X:Cx} {pins:List (Addr×Obj)} {U:St} {H0:Hp} {p It S f:Addr} {d:Value} {as:List Addr} {kf:Nat->List Int} {R:Result->Shared->Prop} {fo:Obj}
def zH (X:Cx) (pins:List (Addr×Obj)) (U:St) (H0:Hp) (f:Addr) (fo:Obj) (as:List Addr) (kf:Nat->List Int):Prop:=
 ∀ (i:Nat) (a:Addr) (H:Hp) (s:Shared),as[i]?=some a->Inv X pins U H s->Same H0 H->s.heap.get? f=some fo->
  wpAny (model X.prog X.w) X.A.in1 (call (.ref f) [.ref a]) (fun u s'=>∃ b H',u= .ref b/\H' b=some (.tup ((kf i).map V.int))/\Same H H'/\Inv X pins U H' s'/\Un (frs X.stack) [] H H' s.heap s'.heap) (fun _ _=>False) s
theorem FpOk.to {H':Hp} {b:Addr} {H:Hp} (h:FpOk X pins H b) (hn:H' b=none):FpOk X pins H' b:=⟨hn,h.2⟩
theorem Inv.turn1 {H:Hp} {s:Shared} {h':Heap} {t':Nat} {it:Addr} (I:Inv X pins U H s) (F:FpOk X pins H it) (k:∀ b o,b≠it->s.heap.get? b=some o->h'.get? b=some o):Inv X pins U H {s with heap:=h',toks:=t'}:=
 I.turned k F.1 F.2.1 F.2.2.2.1 F.2.2.2.2.1 F.2.2.2.2.2
theorem iU {H:Hp} {s:Shared} (I:Inv X pins U H s) (hp:H p=some (.lst (as.map V.ref))):s.heap.IsList p (as.map Value.ref).toArray:=by
 obtain ⟨_,its,n,rv,g⟩:=I.hok p _ hp
 rw [qm rv] at g
 exact ⟨_,g,rfl,n,rfl⟩
theorem De {A:Around} {E:Value->Shared->Prop} {H:Hp} {s:Shared} {a b:Addr} {ns ms:List Int} {Q:Value->Shared->Prop} (I:Inv X pins U H s) (ha:H a=some (.tup (ns.map V.int))) (hb:H b=some (.tup (ms.map V.int))) (hu:A.units < cLine) (q:Q (.bool (HT.lexLt ns ms)) s):
  wpAny (model X.prog X.w) A (richCompare .Lt (.ref a) (.ref b)) Q E s:=by
 obtain ⟨its,r1,p1,_⟩:=I.tuple (SqT.of ha)
 obtain ⟨its2,r2,p2,_⟩:=I.tuple (SqT.of hb)
 have i1:IntsAre its.toArray.toList ns:=intsAre_of r1
 have i2:IntsAre its2.toArray.toList ms:=intsAre_of r2
 exact (HT.lt_tupInts p1 p2 i1 i2 hu q:wpAny (model X.prog X.w) A (compareOp .Lt (.ref a) (.ref b)) Q E s)
theorem Df (hh:X.A.handled=none) (hu:X.A.in1.units < cLine) (key:zH X pins U H0 f fo as kf) (hp0:H0 p=some (.lst (as.map V.ref))) (hpI:p≠It) (hIS:It≠S)
  (hR:∀ (i:Nat) (a:Addr) (H':Hp) (s':Shared),as[i]?=some a->Inv X pins U H' s'->Same H0 H'->(∀ j,j < as.length->HT.lexLt (kf j) (kf i)=false)->R (.ok (.ret (.ref a))) s'):
  ∀ (r j i:Nat) (H:Hp) (s:Shared) (vb kb:Addr) (c:Nat),as.length - (j+1)=r->j+1<=as.length->Inv X pins U H s->Same H0 H->FpOk X pins H It->FpOk X pins H S->FpOk X pins H f->s.heap.IsListIter It p (j+1)->
   s.heap.get? S=some (Lb #[.ref vb,.ref kb] c)->s.heap.get? f=some fo->It≠f->S≠f->as[i]?=some vb->H kb=some (.tup ((kf i).map V.int))->(∀ j',j'<=j->HT.lexLt (kf j') (kf i)=false)->
   codeAny (model X.prog X.w) X.A (mnl It f S d) R s:=by
 have nm:(toString "min" ++ toString ".loop":String)="min.loop":=by decide
 have W:=Walks.list (prog:=X.prog) (w:=X.w) (A:=X.A.in1) hh It p hpI (as.map Value.ref).toArray
 have hsz:(as.map Value.ref).toArray.size=as.length:=by simp
 intro r
 induction r with
 | zero=>
  intro j i H s vb kb c hr hj I sH fI fS ff hit hS hf nIf nSf hvb hkb hbest
  refine codeAny_builtin F.entry_min_loop ?_
  rw [Around.under_plainId F.plain_min_loop _]
  show wpAny _ X.A.in1 (seqItems? (.ref S) >>=_) _ _ s
  refine wpAny_bind (wpAny_seqItems hS rfl ?_)
  show wpAny _ X.A.in1 (tryCatch (pyNext (.ref It)) _ >>=_) _ _ s
  have e':j+1=as.length:=by omega
  refine wpAny_bind (wpAny_tryCatch (W.done s _ _ ⟨by rw [hsz,← e'];exact hit,iU I (sH _ _ hp0)⟩ fun h' tk kp=>?_))
  refine wpAny_bind (m:=updateSeq S fun _=>#[]) ?_
  have hS':=kp S _ (by simpa using hIS.symm) hS
  have I1:Inv X pins U H {s with heap:=h',toks:=tk}:=I.turn1 fI fun b o n e=>kp b o (by simpa using n) e
  refine wpAny_updateSeq hS' rfl (wpAny_bind (wpAny_letGo (wpAny_pure (hR i vb H _ hvb (I1.turn1 fS fun b o n e=>?_) sH fun j' hj'=>hbest j' (by omega)))))
  exact (Heap.get?_update_other _ _ (Ne.symm n)).trans e
 | succ r ih=>
  intro j i H s vb kb c hr hj I sH fI fS ff hit hS hf nIf nSf hvb hkb hbest
  refine codeAny_builtin F.entry_min_loop ?_
  rw [Around.under_plainId F.plain_min_loop _]
  show wpAny _ X.A.in1 (seqItems? (.ref S) >>=_) _ _ s
  refine wpAny_bind (wpAny_seqItems hS rfl ?_)
  show wpAny _ X.A.in1 (tryCatch (pyNext (.ref It)) _ >>=_) _ _ s
  refine wpAny_bind (wpAny_tryCatch (W.item (j+1) s _ _ (by rw [hsz];omega) ⟨hit,iU I (sH _ _ hp0)⟩ fun v h' tk hv hst' kp=>?_))
  obtain ⟨a,ha,rfl⟩:∃ a,as[j+1]?=some a/\v= .ref a:=by
   rw [List.getElem?_toArray,List.getElem?_map] at hv
   cases e:as[j+1]? with
   | none=>rw [e] at hv;cases hv
   | some a=>rw [e] at hv;cases hv;exact ⟨a,rfl,rfl⟩
  have I1:Inv X pins U H {s with heap:=h',toks:=tk}:=I.turn1 fI fun b o n e=>kp b o (by simpa using n) e
  have hS1:=kp S _ (by simpa using hIS.symm) hS
  have hf1:=kp f _ (by simpa using nIf.symm) hf
  obtain ⟨oI,hoI,hoc,hod⟩:=id hst'.1
  show wpAny _ X.A.in1 (tryCatch (holding [.ref a] (call (.ref f) [.ref a])) _ >>=_) _ _ _
  refine wpAny_bind (wpAny_tryCatch (wpAny_holding (wpAny_mono (key (j+1) a H _ ha I1 sH hf1) (fun u s2 hs=>?_) fun _ _ hF=>hF.elim)))
  obtain ⟨b,H2,rfl,hb2,S2,I2,un⟩:=hs
  have kI:=jT I1 un hoI fI.1 fI.2.1 fI.2.2.1
  have kS:=jT I1 un hS1 fS.1 fS.2.1 fS.2.2.1
  have kF:=jT I1 un hf1 ff.1 ff.2.1 ff.2.2.1
  have sH2:=sH.trans S2
  have hkb2:=S2 _ _ hkb
  show wpAny _ X.A.in1 (tryCatch (holding [.ref a,.ref b] (richCompare .Lt (.ref b) (.ref kb) >>=_)) _ >>=_) _ _ _
  refine wpAny_bind (wpAny_tryCatch (wpAny_holding (wpAny_bind (De I2 hb2 hkb2 hu ?_))))
  refine wpAny_bind (wpAny_holding (wpAny_truthy_bool ?_))
  refine wpAny_bind (wpAny_letGo (wpAny_pure ?_))
  cases hlt:HT.lexLt (kf (j+1)) (kf i) with
  | true=>
   rw [if_pos rfl]
   refine wpAny_bind (wpAny_updateSeq kS.1 rfl (wpAny_bind (wpAny_letGo ?_)))
   rw [nm]
   have k3:∀ b' o,b'≠S->s2.heap.get? b'=some o->(s2.heap.update S (Obj.mapSeq fun _=>#[Value.ref a,Value.ref b])).get? b'=some o:=fun b' o n e=>(Heap.get?_update_other _ _ (Ne.symm n)).trans e
   refine wpAny_pure ⟨plainId_quiet F.plain_min_loop _,ih (j+1) (j+1) H2 _ a b _ (by omega) (by omega) (I2.turn1 (fS.to kS.2) k3) sH2 (fI.to kI.2) (fS.to kS.2) (ff.to kF.2) ⟨oI,k3 _ _ hIS kI.1,hoc,hod⟩ (Heap.get?_update_self _ kS.1 rfl) (k3 _ _ nSf.symm kF.1) nIf nSf ha hb2 fun j' hj'=>?_⟩
   by_cases e:j'=j+1
   ·subst e;exact ux _
   ·cases h:HT.lexLt (kf j') (kf (j+1)) with
    | false=>rfl
    | true=>have:=sS h hlt;rw [hbest j' (by omega)] at this;cases this
  | false=>
   rw [if_neg (by decide)]
   refine wpAny_bind (wpAny_letGo ?_)
   rw [nm]
   refine wpAny_pure ⟨plainId_quiet F.plain_min_loop _,ih (j+1) i H2 _ vb kb c (by omega) (by omega) (I2.tok _) sH2 (fI.to kI.2) (fS.to kS.2) (ff.to kF.2) ⟨oI,kI.1,hoc,hod⟩ kS.1 kF.1 nIf nSf hvb hkb2 fun j' hj'=>?_⟩
   by_cases e:j'=j+1
   ·subst e;exact hlt
   ·exact hbest j' (by omega)
theorem uA (hh:X.A.handled=none) (hu:X.A.in1.units < cLine) (key:zH X pins U H0 f fo as kf) (hp0:H0 p=some (.lst (as.map V.ref))) (hpI:p≠It) (hIS:It≠S) {s:Shared} {c:Nat} (I:Inv X pins U H0 s) (fI:FpOk X pins H0 It) (fS:FpOk X pins H0 S) (ff:FpOk X pins H0 f)
  (hit:s.heap.IsListIter It p 0) (hS:s.heap.get? S=some (Lb #[] c)) (hf:s.heap.get? f=some fo) (nIf:It≠f) (nSf:S≠f) (h0:as=[]->∀ s',Inv X pins U H0 s'->R (.ok (.ret d)) s')
  (hR:∀ (i:Nat) (a:Addr) (H':Hp) (s':Shared),as[i]?=some a->Inv X pins U H' s'->Same H0 H'->(∀ j,j < as.length->HT.lexLt (kf j) (kf i)=false)->R (.ok (.ret (.ref a))) s'):
  codeAny (model X.prog X.w) X.A (mnl It f S d) R s:=by
 have nm:(toString "min" ++ toString ".loop":String)="min.loop":=by decide
 have W:=Walks.list (prog:=X.prog) (w:=X.w) (A:=X.A.in1) hh It p hpI (as.map Value.ref).toArray
 have hsz:(as.map Value.ref).toArray.size=as.length:=by simp
 refine codeAny_builtin F.entry_min_loop ?_
 rw [Around.under_plainId F.plain_min_loop _]
 show wpAny _ X.A.in1 (seqItems? (.ref S) >>=_) _ _ s
 refine wpAny_bind (wpAny_seqItems hS rfl ?_)
 show wpAny _ X.A.in1 (tryCatch (pyNext (.ref It)) _ >>=_) _ _ s
 by_cases hn:as=[]
 ·refine wpAny_bind (wpAny_tryCatch (W.done s _ _ ⟨by rw [hsz,hn];exact hit,iU I hp0⟩ fun h' tk kp=>?_))
  show wpAny _ X.A.in1 (rule _ >>=_) _ _ _
  exact wpAny_bind (wpAny_rule (wpAny_pure (h0 hn _ (I.turn1 fI fun b o n e=>kp b o (by simpa using n) e))))
 ·have hpos:0 < as.length:=List.length_pos_iff.mpr hn
  refine wpAny_bind (wpAny_tryCatch (W.item 0 s _ _ (by rw [hsz];exact hpos) ⟨hit,iU I hp0⟩ fun v h' tk hv hst' kp=>?_))
  obtain ⟨a,ha,rfl⟩:∃ a,as[0]?=some a/\v= .ref a:=by
   rw [List.getElem?_toArray,List.getElem?_map] at hv
   cases e:as[0]? with
   | none=>rw [e] at hv;cases hv
   | some a=>rw [e] at hv;cases hv;exact ⟨a,rfl,rfl⟩
  have I1:Inv X pins U H0 {s with heap:=h',toks:=tk}:=I.turn1 fI fun b o n e=>kp b o (by simpa using n) e
  have hS1:=kp S _ (by simpa using hIS.symm) hS
  have hf1:=kp f _ (by simpa using nIf.symm) hf
  obtain ⟨oI,hoI,hoc,hod⟩:=id hst'.1
  show wpAny _ X.A.in1 (tryCatch (holding [.ref a] (call (.ref f) [.ref a])) _ >>=_) _ _ _
  refine wpAny_bind (wpAny_tryCatch (wpAny_holding (wpAny_mono (key 0 a H0 _ ha I1 (Same.refl H0) hf1) (fun u s2 hs=>?_) fun _ _ hF=>hF.elim)))
  obtain ⟨b,H2,rfl,hb2,S2,I2,un⟩:=hs
  have kI:=jT I1 un hoI fI.1 fI.2.1 fI.2.2.1
  have kS:=jT I1 un hS1 fS.1 fS.2.1 fS.2.2.1
  have kF:=jT I1 un hf1 ff.1 ff.2.1 ff.2.2.1
  show wpAny _ X.A.in1 (updateSeq S (fun _=>#[.ref a,.ref b]) >>=_) _ _ _
  refine wpAny_bind (wpAny_updateSeq kS.1 rfl ?_)
  rw [nm]
  have k3:∀ b' o,b'≠S->s2.heap.get? b'=some o->(s2.heap.update S (Obj.mapSeq fun _=>#[Value.ref a,Value.ref b])).get? b'=some o:=fun b' o n e=>(Heap.get?_update_other _ _ (Ne.symm n)).trans e
  refine wpAny_pure ⟨plainId_quiet F.plain_min_loop _,Df hh hu key hp0 hpI hIS hR _ 0 0 H2 _ a b _ rfl hpos (I2.turn1 (fS.to kS.2) k3) S2 (fI.to kI.2) (fS.to kS.2) (ff.to kF.2) ⟨oI,k3 _ _ hIS kI.1,hoc,hod⟩ (Heap.get?_update_self _ kS.1 rfl) (k3 _ _ nSf.symm kF.1) nIf nSf ha hb2 fun j' hj'=>?_⟩
  have e:j'=0:=by omega
  subst e
  exact ux _
theorem wR (a v y:Value):argsOk "min" ⟨[a],[(Str.ofString "key",v),(Str.ofString "default",y)]⟩:=by unfold argsOk;kernel_rfl
theorem wU {Q:VK} {E:Value->Shared->Prop} {s:Shared} {y:V} (hh:X.A.handled=none) (hu:X.A.in1.units < cLine) (key:zH X pins U H0 f fo as kf) (hp0:H0 p=some (.lst (as.map V.ref))) (I:Inv X pins U H0 s) (ff:FpOk X pins H0 f) (hf:s.heap.get? f=some fo) (rd:RelV y d)
  (h0:as=[]->Q y H0) (hR:∀ (i:Nat) (a:Addr) (H':Hp),as[i]?=some a->Same H0 H'->(∀ j,j < as.length->HT.lexLt (kf j) (kf i)=false)->Q (.ref a) H'):
  wpAny (model X.prog X.w) X.A (call (.builtin "min") [.ref p] [(Str.ofString "key",.ref f),(Str.ofString "default",d)]) (EP X pins U Q) E s:=by
 have nm:(toString "min" ++ toString ".loop":String)="min.loop":=by decide
 refine kmk_tree F.kind_min F.plain_min F.entry_min (wR _ _ _) ?_
 show wpAny _ X.A.in1 (Builtin.Builtins.bindParams "min" ["key","default"] 0 ⟨[],[(Str.ofString "key",.ref f),(Str.ofString "default",d)]⟩ >>=_) _ _ s
 refine wpAny_bind (wpAny_of_eq (show Builtin.Builtins.bindParams "min" ["key","default"] 0 ⟨[],[(Str.ofString "key",.ref f),(Str.ofString "default",d)]⟩=pure [some (.ref f),some d] from rfl) ?_)
 refine wpAny_bind (wpAny_pure ?_)
 have hls:=iU I hp0
 obtain ⟨ol,hol,_⟩:=id hls
 have hll:p < s.heap.objs.size:=Heap.lt_size hol
 have hfl:f < s.heap.objs.size:=Heap.lt_size hf
 refine wpAny_bind (wpAny_pyIter_list hls ?_)
 refine wpAny_bind (wpAny_newList ?_ (Nat.zero_le _))
 rw [nm]
 have sz:∀ o:Obj,(s.heap.push o).objs.size=s.heap.objs.size+1:=fun o=>Heap.size_push ..
 refine wpAny_pure ⟨plainId_quiet F.plain_min_loop _,uA hh hu key hp0 (Nat.ne_of_lt hll) (Nat.ne_of_lt (by rw [sz];omega)) ((I.kept (t':=s.toks) fun b o e=>Heap.get?_push_of_some _ e).kept (t':=s.toks) fun b o e=>Heap.get?_push_of_some _ e) (I.fpOk (Nat.le_refl _) I.fresh) (I.fpOk (by rw [sz];omega) (I.hok.fresh (by rw [sz];omega))) ff
  ⟨_,Heap.get?_push_of_some _ (Heap.get?_push_size _ rfl),rfl,rfl⟩ (Heap.get?_push_size _ rfl) (Heap.get?_push_of_some _ (Heap.get?_push_of_some _ hf)) (Nat.ne_of_gt hfl) (fun z=>by have z':(s.heap.push _).objs.size=f:=z;rw [sz] at z';exact absurd hfl (Nat.not_lt.mpr (z' ▸ Nat.le_succ _))) (fun hn s' I'=>⟨y,H0,I',rd,h0 hn⟩) fun i a H' s' ha I' sH hb=>⟨.ref a,H',I',rfl,hR i a H' ha sH hb⟩⟩
end
def Ff (te:TE) (x0:Str) (y:V):V->Hp->VK->Prop:=fun x H Q=>∃ (p:Addr) (as:List Addr) (kf:Nat->List Int),x= .ref p/\H p=some (.lst (as.map V.ref))/\
 (∀ (i:Nat) (a:Addr) (H':Hp),as[i]?=some a->Same H H'->te (start [x0] [.ref a]) H' fun k H''=>∃ b,k= .ref b/\H'' b=some (.tup ((kf i).map V.int))/\Same H' H'')/\
 (as=[]->Q y H)/\∀ (i:Nat) (a:Addr) (H':Hp),as[i]?=some a->Same H H'->(∀ j,j < as.length->HT.lexLt (kf j) (kf i)=false)->Q (.ref a) H'
def Fg (T:Addr) (lpos:Pos) (qual x0:Str) (ta te:TE) (y:V):TE:=fun U H Q=>ta U H fun x H1=>Tb T lpos qual H1/\∀ H2,SmT T H1 H2->Tb T lpos qual H2->Ff te x0 y x H2 Q
section
variable {X:Cx} {pins:List (Addr×Obj)} {U:St} {H:Hp} {s:Shared} {Q:VK} {p pos kpos kpos2 lpos:Pos} {e dv body:Expr} {ta te:TE} {params:Arguments} {scope:Scope} {c T:Addr} {k:Nat} {x0:Str} {y:V}
theorem HR {x:Str} {vp:Pos} (i:Nat) (hv:JL X.env.scope x) (hN:autoParam (X.N[i]?=some x) L2.auto4._auto_1) (hd:autoParam ((x == ("__debug__":Str))=false) L2.auto2._auto_1) (hcd:autoParam ((x == ("__classdict__":Str))=false) L2.auto2._auto_1):JE X (.Name x vp) (nJ i):=⟨nM hN hv hd hcd⟩
theorem HS (hc:X.calm=true) (hg:Gl X "min") (hm:X.mg "min"=none) (hcd:X.env.code= .ref c) (hC:PySem.W.codeHdIn X.K c T=true) (hr:Room (k+2) X.A) (ha:JE X e ta) (hd:JE X dv (tC y)) (S:aG [x0] [x0] scope)
  (hcl:closureFor scope X.env=pure []) (hdef:defaultsOf params X.env=([],[]))
  (hb:∀ (pm cdv ctv u:Value),bindArgs (PySem.W.kla_fn "<lambda>" (X.env.qual ++ "<lambda>") params body scope [] pm cdv ctv) ⟨[u],[]⟩=pure [(x0,u)])
  (hbody:∀ (f:Addr) (cd:Value) (A:Around) (outer:List Env) (s:Shared) (H:Hp),JL scope x0->Room k (A.deeper (envOfC (X.env.qual ++ "<lambda>") scope s.heap.objs.size f cd))->JE (jw uV X.prog X.w X.K X.mg X.base [x0] (X.env.qual ++ "<lambda>") scope f cd A outer s H E0).nox body te)
  (h:autoParam (notStar e=true) L2.auto4._auto_1):
  JE X (.Call (.Name "min" p) [e] [⟨some "key",.Lambda params body scope lpos,kpos⟩,⟨some "default",dv,kpos2⟩] pos) (Fg T lpos (X.env.qual ++ "<lambda>") x0 ta te y):=⟨by
 intro pins s U H Q I hq
 refine wpAny_Call_Name_kw (fX I hg hm (show bootBuiltins "min"=some (.builtin "min") from by trivial) ?_)
 refine PyProof.Rows.callWith_kw (arg1 h (cP (ha.run pins s U H _ I hq) fun u s1 qq0=>?_)) (by rw [bI h];rfl) (by rw [bI h];rfl)
 obtain ⟨v,H1,I1,rv,hTb,q1⟩:=qq0
 refine wpAny_evalAll_cons (wpAny_bind (zG I1 hcd (PySem.W.codeHd_of_K I1.mod.kin hC) hcl hdef hTb fun f s2 H2 pm ctv c' I2 sm hTb2 hf hn hfz hc'=>wpAny_bind (wpAny_standAt (wpAny_pure ?_))))
 have q2:=q1 H2 sm hTb2
 have ff:=I1.fpOk hfz hn
 have I2p:Inv X (pins ++ [(f,PySem.W.kla_obj "<lambda>" (X.env.qual ++ "<lambda>") params body scope [] pm c' ctv)]) U H2 s2:=I2.pins_of fun q hq=>by
  rcases List.mem_append.mp hq with hq | hq
  ·exact I2.pin q (List.mem_append_right _ hq)
  ·rw [List.mem_singleton.mp hq]
   exact ⟨hf,hn,ff.2.1,ff.2.2.1,fun v z=>by cases z⟩
 refine wpAny_evalAll_cons (wpAny_bind (cP (hd.run _ s2 U H2 (fun y' H3=>y'=y/\H3=H2) I2p ⟨rfl,rfl⟩) fun ud s3 ⟨y',H3,I3,ry,ey,eH⟩=>wpAny_bind (wpAny_standAt (wpAny_pure (wpAny_evalAll_nil ?_)))))
 subst ey eH
 obtain ⟨p',as,kf,rfl,hp',kq,q0,qi⟩:=q2
 cases rv
 have pf:=I3.pin (f,PySem.W.kla_obj "<lambda>" (X.env.qual ++ "<lambda>") params body scope [] pm c' ctv) (List.mem_append_right _ (List.mem_append_right _ (by simp)))
 have hu:X.A.in1.units < cLine:=by have:=hr.in1.units;omega
 refine wU hr.hd hu (fun i a H' s' hai J sJ hfJ=>?_) hp' I3.unpinned ff pf.1 ry q0 qi
 have hcr:s'.heap.CodeRec (.ref c') (X.env.qual ++ "<lambda>"):=(J.hok c' _ (sJ _ _ hc')).1
 have run:=Dd (k:=k) (Q:=fun k H''=>∃ b,k= .ref b/\H'' b=some (.tup ((kf i).map V.int))/\Same H' H'') (us:=[.ref a]) (vs:=[.ref a]) hfJ hcr S hr.in1 J.env0.in1 (hb pm _ ctv _) rfl (.cons rfl .nil) (hbody f (.ref c') X.A.in1 X.stack s' H' ((S.par x0 (by simp)).imp id .inl) (hr.in1.deeper _)) (kq i a H' hai sJ)
 refine wpAny_call (codeAny_mono run fun r s'' hr'=>?_)
 cases r with
 | error e=>exact (show False from hr').elim
 | ok fl=>
  cases fl with
  | next=>exact (show False from hr').elim
  | brk=>exact (show False from hr').elim
  | cont=>exact (show False from hr').elim
  | ret u=>
   obtain ⟨v,H'',os,bare,un,hok,rv,b,rfl,hb2,sm2⟩:=hr'
   cases rv
   exact ⟨b,H'',rfl,hb2,sm2,J.call' os un hok bare (fun b z=>absurd z (by simp)),un⟩⟩
end
section
variable {U:St} {H:Hp} {Q:VK} {ta te:TE} {T:Addr} {lpos:Pos} {qual x0:Str} {y:V}
theorem vG (h:ta U H fun x H1=>Tb T lpos qual H1/\∀ H2,SmT T H1 H2->Tb T lpos qual H2->Ff te x0 y x H2 Q):Fg T lpos qual x0 ta te y U H Q:=h
end
structure LTxt (K:W.Frag) (mg:Str->Option Value) (x m qual:Str) (st:Stmt) (t:Addr):Prop where
 ex:∃ (f c:Addr) (oc:Value) (od:Option Addr) (kV doc pm:Value) (an:Option Addr) (ct:Value) (osl:Array (Option Value)),Meth K (bO mg x) m f/\
  K.lookup f=some ⟨oc,od,.func (PySem.W.fnOf m qual (dD st) (bK st) (aq st) .none kV doc pm an (.ref c) ct),osl⟩/\PySem.W.codeIn K (.ref c) qual=true/\PySem.W.keepIn K (.ref f)=true/\PySem.W.codeHdIn K c t=true
def zJ (K:W.Frag) (mg:Str->Option Value) (x m qual:Str) (st:Stmt):Prop:=∃ t,LTxt K mg x m qual st t
def Np (K:W.Frag) (mg:Str->Option Value) (x m qual:Str) (st:Stmt):Addr:=Classical.epsilon fun t=>LTxt K mg x m qual st t
theorem Ld {K:W.Frag} {mg:Str->Option Value} {h:Heap} (X:K.In h) (G:h.Ns mainGlobals mg) {x m qual:Str} {C f c0 t:Addr} {st:Stmt} {oc:Value} {od an:Option Addr} {osl:Array (Option Value)} {kV doc pm ct:Value}
  (a:PySem.W.nsIn K mainGlobals x=some (some (.ref C))) (i:PySem.W.findIn K (.ref C) m=some (some (.ref f))) (n:PySem.W.isFn K (.ref f)=true)
  (l:K.lookup f=some ⟨oc,od,.func (PySem.W.fnOf m qual (dD st) (bK st) (aq st) .none kV doc pm an (.ref c0) ct),osl⟩) (c:PySem.W.codeIn K (.ref c0) qual=true) (k:PySem.W.keepIn K (.ref f)=true) (z:PySem.W.codeHdIn K c0 t=true):LTxt K mg x m qual st t:=by
 have e:=nG (PySem.W.mg_of X G a)
 exact ⟨f,c0,oc,od,kV,doc,pm,an,ct,osl,by rw [e];exact ⟨i,n,k⟩,l,c,k,z⟩
theorem Dg {K:W.Frag} {c t t':Addr} (h:PySem.W.codeHdIn K c t=true) (h':PySem.W.codeHdIn K c t'=true):t=t':=by
 unfold PySem.W.codeHdIn at h h'
 split at h
 ·rename_i vs _ hk
  rw [hk] at h'
  simp only [Bool.and_eq_true] at h h'
  have a:=h.1.1.1.1.1
  have b:=h'.1.1.1.1.1
  split at a
  ·rename_i P' e
   rw [e] at b
   exact (beq_iff_eq.mp a).symm.trans (beq_iff_eq.mp b)
  ·cases a
 ·cases h
theorem LTxt.uniq {K:W.Frag} {mg:Str->Option Value} {x m qual:Str} {st:Stmt} {t t':Addr} (h:LTxt K mg x m qual st t) (h':LTxt K mg x m qual st t'):t=t':=by
 obtain ⟨f,c,oc,od,kV,doc,pm,an,ct,osl,hm,l,_,_,z⟩:=h.ex
 obtain ⟨f',c',oc',od',kV',doc',pm',an',ct',osl',hm',l',_,_,z'⟩:=h'.ex
 have e:f=f':=by
  have:=hm.1.symm.trans hm'.1
  injection this with this
  injection this with this
  injection this
 subst e
 rw [l] at l'
 have ec:c=c':=by
  injection l' with l'
  injection l' with _ _ l' _
  injection l' with l'
  injection l' with _ _ _ _ _ _ _ _ _ _ _ _ l' _
  first | injection l' | skip
 subst ec
 exact Dg z z'
theorem zK {K:W.Frag} {mg:Str->Option Value} {x m qual:Str} {st:Stmt} {t:Addr} (h:LTxt K mg x m qual st t):Np K mg x m qual st=t:=
 LTxt.uniq (Classical.epsilon_spec (p:=fun t=>LTxt K mg x m qual st t) ⟨t,h⟩) h
section
variable {P:Program} {w:World} {K:W.Frag} {mg:Str->Option Value} {base:Heap}
theorem Le {x m qual:Str} {st:Stmt} {N ps:List Str} {k:Nat} {sp:Sp} (D:zJ K mg x m qual st) (S:aG N ps (aq st))
  (hb:∀ (kV doc pm:Value) (an:Option Addr) (cdv ct:Value) (us:List Value),us.length=ps.length->bindArgs (PySem.W.fnOf m qual (dD st) (bK st) (aq st) .none kV doc pm an cdv ct) ⟨us,[]⟩=pure (ps.zip us))
  (len:∀ vs H Q E,sp vs H Q E->vs.length=ps.length)
  (hbody:∀ (f c:Addr) (A:Around) (outer:List Env) (s:Shared) (H:Hp) (vs:List V) (Q:VK) (E:XK),PySem.W.codeHdIn K c (Np K mg x m qual st)=true->Room k (A.deeper (envOfC qual (aq st) s.heap.objs.size f (.ref c)))->sp vs H Q E->
   ∃ t,JB (jw (Et P w) P w K mg base N qual (aq st) f (.ref c) A outer s H E) (bK st) t/\t {nx:=fun _ H'=>Q .non H',rt:=Q} (start N vs) H):jr P w K mg base (k+1) x m ps sp:=by
 obtain ⟨t,D⟩:=D
 have et:=zK D
 obtain ⟨f,c,oc,od,kV,doc,pm,an,ct,osl,hm,lk,hcd,kp,z⟩:=D.ex
 rw [← et] at z
 exact ⟨f,_,hm,.all (hb kV doc pm an (.ref c) ct),xW lk hcd S len fun A outer s H vs Q E hr h=>let ⟨t,j,q⟩:=hbody f c A outer s H vs Q E z hr h;⟨t,j.run,q⟩⟩
end
theorem wV {P:Program} {w:World} {K:W.Frag} {mg mb:Str->Option Value} {CX:xV} {k:Nat} {fa a T c:Addr} {fd:FuncData} {x:Str} {sp:Sp} {s₁:Shared} {vs:List Value} {ns:List Int}
  (KX:K.In s₁.heap) (hns:s₁.heap.Ns mainGlobals mg) (hb:s₁.heap.Ns builtinsNs mb) (hbb:∀ x:Str,x≠"__name__"->mb x=bootBuiltins x) (hlim:s₁.heap.NoLimit) (hsm:∃ mm,s₁.heap.Ns sysModules mm)
  (hbm:∃ bm ob,mg "__builtins__"=some (.ref bm)/\bm≠builtinsNs/\s₁.heap.get? bm=some ob/\ob.cls= .type "module"/\ob.dict=some builtinsNs/\ob.data= .plain) (hg:s₁.gens= #[])
  (ha:s₁.heap.get? a=some {cls:=.type "list",data:=.seq vs.toArray}) (hi:IntsAre vs ns) (hl:ns.length<=sizeLine) (hr:Room k callerA)
  (hTo:s₁.heap.get? T=some (PySem.W.tabObj #[])) (hKT:K.lookup T=none) (hTc:PySem.W.codeHdIn K c T=true)
  (F:∀ base:Heap,nQ P w K mg base CX k fa fd [x] sp) (hbind:∀ (s:Shared) (u:Value),BindsTo s fd ⟨[u],[]⟩ [(x,u)])
  (hsp:∀ H:Hp,SqL K H a (ns.map V.int)->H T=some (.tbl #[])->sp [.ref a] H (fun v _=>v= .bl true) fun _ _ _=>False)
  (hCX:∀ H e s',CX [] H s₁ (fun _ _ _=>False) e s'->False):
  codeAny (model P w) callerA (.call (.ref fa) ⟨[.ref a],[]⟩) (fun r s'=>r= .ok (.ret (.bool true))/\OldK s₁.heap s'.heap/\s'.os=s₁.os/\AllBare s'.gens) s₁:=by
 have rv:=pX hi
 have lenV:=hi.length
 have haT:a≠T:=fun z=>by rw [z,hTo] at ha;cases ha
 have hCh:=PySem.W.codeHd_of_K KX hTc
 have hct:=(hCh.tab hTo).isCodeTable
 have core:∀ H:Hp,(∀ b,b≠T->H b=none\/∃ o xs,H b=some (.frz o (.lst xs)))->H T=some (.tbl #[])->SqL K H a (ns.map V.int)->HOk P w H s₁.heap->(∀ b,H b≠none->b=a\/b=T)->(H a≠none->K.lookup a=none)->
   codeAny (model P w) callerA (.call (.ref fa) ⟨[.ref a],[]⟩) (fun r s'=>r= .ok (.ret (.bool true))/\OldK s₁.heap s'.heap/\s'.os=s₁.os/\AllBare s'.gens) s₁:=by
  intro H hO hT hS hok hA hK
  have noA:∀ {b:Addr} {o:Obj},s₁.heap.get? b=some o->o≠{cls:=.type "list",data:=.seq vs.toArray}->o≠PySem.W.tabObj #[]->H b=none:=fun {b o} e n1 n2=>by
   cases q:H b with
   | none=>rfl
   | some u=>
    rcases hA b (by rw [q];simp) with rfl | rfl
    ·rw [ha] at e;cases e;exact absurd rfl n1
    ·rw [hTo] at e;cases e;exact absurd rfl n2
  have base_of:∀ {b:Addr} {o:Obj},s₁.heap.get? b=some o->H b=none->(qu s₁.heap H).get? b=some o:=fun e n=>w6 e n
  have nsK:∀ {b:Addr} {m:Str->Option Value},s₁.heap.Ns b m->(qu s₁.heap H).Ns b m:=fun {b m} ⟨o,es,ep,e,d,r⟩=>⟨o,es,ep,base_of e (noA e (fun z=>by rw [z] at d;cases d) (fun z=>by rw [z] at d;cases d)),d,r⟩
  have hKb:K.In (qu s₁.heap H):=fun b o e=>base_of (KX b o e) (by
   cases q:H b with
   | none=>rfl
   | some u=>
    rcases hA b (by rw [q];simp) with rfl | rfl
    ·rw [hK (by rw [q];simp)] at e;cases e
    ·rw [hKT] at e;cases e)
  have hM:Mod K mg (qu s₁.heap H):=⟨hKb,nsK hns,⟨mb,nsK hb,hbb⟩,(let ⟨mc,h1,h2⟩:=hlim;⟨mc,nsK h1,h2⟩),(let ⟨mm,h1⟩:=hsm;⟨mm,nsK h1⟩),
   let ⟨bm,ob,b1,b2,b3,b4,b5⟩:=hbm;⟨bm,ob,b1,b2,base_of b3 (noA b3 (fun z=>by rw [z] at b4;exact absurd (Value.type.inj b4) (by decide)) (fun z=>by rw [z] at b4;cases b4)),b4,b5⟩⟩
  have e0:Env0 P w K mg (qu s₁.heap H) callerA [] s₁ H:=⟨rfl,hM,fun b o e=>Aw e,Nat.le_of_eq (vW _ _),trivial,fun b hb=>absurd (show b∈([]:List Addr) from hb) (by simp),hok,.of_eq hg⟩
  refine codeAny_mono ((F _).run callerA [] s₁ H ⟨[.ref a],[]⟩ [.ref a] [.ref a] _ _ hr e0 (hbind s₁ (.ref a)) (.cons rfl .nil) (hsp H hS hT)) fun r s' h=>?_
  cases r with
  | error e=>exact (hCX H e s' h).elim
  | ok fl=>
   cases fl with
   | next=>exact False.elim h
   | brk=>exact False.elim h
   | cont=>exact False.elim h
   | ret u=>
    obtain ⟨v,H',os,bare,un,hok',r',q⟩:=h
    have q':v= .bl true:=q
    subst q'
    obtain rfl:u=Value.bool true:=r'
    obtain ⟨more,hT'⟩:=un.tbls T #[] hT
    have gT:s'.heap.get? T=some (PySem.W.tabObj (#[] ++ more)):=hok' T _ hT'
    have keep:∀ b o,b≠T->s₁.heap.get? b=some o->s'.heap.get? b=some o:=fun b o n e=>by
     cases q:H b with
     | none=>exact un.keep b o e q (by intro z;exact absurd (show b∈([]:List Addr) from z) (by simp)) (by simp)
     | some u=>
      rcases hO b n with z | ⟨ob,xs,z⟩
      ·rw [q] at z;cases z
      ·have z2:=un.frzs b ob _ z
       obtain ⟨e1,_⟩:=hok b _ z
       obtain ⟨e2,_⟩:=hok' b _ z2
       rw [e] at e1;cases e1
       exact e2
    refine ⟨rfl,⟨fun b o e=>?_,fun b o e=>?_⟩,os,bare⟩
    ·by_cases n:b=T
     ·subst n
      rw [hTo] at e;cases e
      exact .inr (.inl ⟨hct,rfl,#[],more,rfl,gT⟩)
     ·exact .inl (keep b o n e)
    ·by_cases n:b=T
     ·subst n;exact ⟨_,gT⟩
     ·exact ⟨o,keep b o n e⟩
 cases hk:K.lookup a with
 | some o=>
  have e:=KX a o hk
  rw [ha] at e
  cases e
  refine core (fun b=>if b=T then some (.tbl #[]) else none) (fun b n=>.inl (if_neg n)) (if_pos rfl) (.inr ⟨_,vs.toArray,_,hk,rfl,rfl,rfl,by rw [List.size_toArray,lenV];exact hl,by simpa using rv⟩) (fun b u z=>?_) (fun b z=>?_) fun z=>absurd (if_neg haT) z
  ·by_cases n:b=T
   ·have z':=(if_pos n).symm.trans z
    cases z'
    subst n
    exact hTo
   ·have z':=(if_neg n).symm.trans z
    cases z'
  ·by_cases n:b=T
   ·exact .inr n
   ·exact absurd (if_neg n) z
 | none=>
  refine core (fun b=>if b=T then some (.tbl #[]) else if b=a then some (.frz {cls:=.type "list",data:=.seq vs.toArray} (.lst (ns.map V.int))) else none) (fun b n=>?_) (if_pos rfl) (.inl (.inr ⟨{cls:=.type "list",data:=.seq vs.toArray},(if_neg haT).trans (if_pos rfl)⟩)) (fun b u z=>?_) (fun b z=>?_) fun _=>hk
  ·by_cases hb:b=a
   ·exact .inr ⟨_,_,(if_neg n).trans (if_pos hb)⟩
   ·exact .inl ((if_neg n).trans (if_neg hb))
  ·by_cases n:b=T
   ·have z':=(if_pos n).symm.trans z
    cases z'
    subst n
    exact hTo
   ·by_cases hb:b=a
    ·have z':=((if_neg n).trans (if_pos hb)).symm.trans z
     cases z'
     subst hb
     exact ⟨ha,by rw [List.length_map];exact hl,vs,_,rv,ha⟩
    ·have z':=((if_neg n).trans (if_neg hb)).symm.trans z
     cases z'
  ·by_cases n:b=T
   ·exact .inr n
   ·by_cases hb:b=a
    ·exact .inl hb
    ·exact absurd ((if_neg n).trans (if_neg hb)) z
theorem Lf {l:PySem.W.OpenLaw} {q:Program} {loose:List Str} {XP:(Str->Option Value)->Heap->Prop} {YP:World->Heap->Prop} {d:DefRec} {K:Params->W.Frag} {st:Stmt} {k:Nat} {T:Addr} {sp:W.Frag->(Str->Option Value)->Sp} {x:Str}
  (hn:l.most=some 63) (hdf:d.params.defaults=[]) (hdn:d.name="law") (hk:Room k callerA) (hY:∀ (w:World) (h:Heap),YP w h->(K w.params).In h/\h.get? T=some (PySem.W.tabObj #[]))
  (hb:∀ (kV doc pm:Value) (an:Option Addr) (cdv ct:Value) (us:List Value),us.length=[x].length->bindArgs (PySem.W.fnOf "law" "law" (dD st) (bK st) (aq st) .none kV doc pm an cdv ct) ⟨us,[]⟩=pure ([x].zip us))
  (F:∀ (w:World) (mg:Str->Option Value) (h:Heap),(K w.params).In h->h.Ns mainGlobals mg->jo (K w.params) mg "law" st/\(∀ (base:Heap) (f:Addr) (fd:FuncData),Fun (K w.params) "law" "law" st f fd->nQ l.prog w (K w.params) mg base uV k f fd [x] (sp (K w.params) mg))/\
   (∀ (H:Hp) (a:Addr) (ns:List Int),ns.length<=63->SqL (K w.params) H a (ns.map V.int)->H T=some (.tbl #[])->sp (K w.params) mg [.ref a] H (fun v _=>v= .bl true) fun _ _ _=>False)/\(K w.params).lookup T=none/\∃ c,PySem.W.codeHdIn (K w.params) c T=true) (him:autoParam (importsNone q=true) L2.auto6._auto_1):
  PySem.W.WalkO q loose XP YP l.row.toRowW d [] (fun f vs=>PySem.call f vs):=by
 refine Att.attach_call hn hdf fun w s₀ s₁ mg mb fa o pm cd doc a vs ns G Y ho hd hcd hmg hobj hints hlen hg=>?_
 obtain ⟨KX,hTo⟩:=hY w _ Y
 obtain ⟨⟨f,fd,Fn,hm⟩,ok,hsp,hKT,c,hTc⟩:=F w mg _ KX G.T.g
 have ef:f=fa:=by
  rw [hdn,hm] at hmg
  injection (Option.some.inj hmg)
 subst ef
 refine wV KX G.T.g G.T.b G.T.builtins G.T.nolimit (let ⟨mm,h1,_⟩:=(G.T.seer him).mods;⟨mm,h1⟩) G.T.bmain hg hobj hints (Nat.le_trans hlen (by decide)) hk hTo hKT hTc (fun base=>ok base f fd Fn) (fun s u=>?_) (fun H hS hT=>hsp H a ns hlen hS hT) (fun _ _ _ z=>z)
 obtain ⟨oc,od,kV,doc,pm,an,cdv,ct,osl,rfl,lk,hcd⟩:=Fn.ex
 exact .of_eq (hb kV doc pm an cdv ct [u] rfl)
end L2
namespace My
open PySem L2
local macro_rules | `(tactic| walk_at "p") => `(tactic| first | exact bF _ | with_unfolding_all rfl)
local macro_rules | `(tactic| walk_at "0") => `(tactic| (first | refine lG ?_ | refine lr ?_ | refine lq ?_ | refine iy ?_ | refine iz ?_ | (refine' ie ?hz0 ?_; (case hz0 => with_unfolding_all rfl)) | refine uY ?_ | refine lM ?_ | refine fH ?_ | refine eV ?_ | refine ig ?_ | refine gQ ?_ | refine eG ?_ | refine gU ?_ | refine d9 ?_ | refine lD ?_ | refine eO ?_ | refine lN ?_ | refine lJ ?_ | refine eY ?_ | refine lE ?_ | refine gW ?_ | refine gY ?_ | refine lF ?_ | refine eQ ?_ | refine gZ ?_ | refine eU ?_ | refine g8 ?_ | refine gR ?_ | refine eN ?_ | refine lH ?_ | refine Eo ?_ | refine lK ?_ | refine ik ?_ | refine lL ?_ | refine il ?_ | refine eZ ?_ | refine fc ?_ | refine fj ?_ | refine fu ?_ | refine fB ?_ | refine fG ?_ | refine ir ?_ | refine vg ?_ | refine cX ?_ | refine fM ?_ | (refine' cU (SqT.of ?hz0) ?hz1 ?_; (case hz0 => first | assumption | exact aj); (case hz1 => rfl)) | refine cZ ?_ | refine fO ?_ | refine fP ?_ | refine dX ?_ | refine fQ ?_ | refine iw ?_ | refine lO ?_ | refine dW ?_ | refine cY ?_ | refine fK ?_ | (refine' uZ ?hz0 ?_; (case hz0 => with_unfolding_all first | assumption | omega | (dsimp only <;> omega) | exact ⟨by omega, by omega⟩ | exact .inl ⟨by omega, by omega⟩ | exact .inr ⟨by omega, by omega⟩ | exact ⟨by decide, by decide, by decide⟩)) | (refine' fJ ?hz0 ?_; (case hz0 => with_unfolding_all first | assumption | omega | (dsimp only <;> omega) | exact ⟨by omega, by omega⟩ | exact .inl ⟨by omega, by omega⟩ | exact .inr ⟨by omega, by omega⟩ | exact ⟨by decide, by decide, by decide⟩)) | (refine' bw (SqL.of ?hz0) ?hz1 ?_; (case hz0 => first | assumption | exact aj); (case hz1 => with_unfolding_all rfl)) | (refine' iu (SqT.of ?hz0) ?hz1 ?_; (case hz0 => first | assumption | exact aj); (case hz1 => with_unfolding_all rfl)) | (refine' dU ?hz0 ?hz1 ?_; (case hz0 => first | assumption | exact aj); (case hz1 => with_unfolding_all rfl)) | refine dg ?_ | refine dh ?_ | refine iB ?_ | refine fV ?_ | refine fU ?_))
local macro_rules | `(tactic| walk_at "1") => `(tactic| (first | refine lG ?_ | refine lr ?_ | refine lq ?_ | refine iy ?_ | refine iz ?_ | (refine' ie ?hz0 ?_; (case hz0 => with_unfolding_all rfl)) | refine uY ?_ | refine lM ?_ | refine fH ?_ | refine eV ?_ | refine ig ?_ | refine gQ ?_ | refine eG ?_ | refine gU ?_ | refine d9 ?_ | refine lD ?_ | refine eO ?_ | refine lN ?_ | refine lJ ?_ | refine eY ?_ | refine lE ?_ | refine gW ?_ | refine gY ?_ | refine lF ?_ | refine eQ ?_ | refine gZ ?_ | refine eU ?_ | refine g8 ?_ | refine gR ?_ | refine eN ?_ | refine lH ?_ | refine gr ?_ | refine gq ?_ | refine lK ?_ | refine ik ?_ | refine lL ?_ | refine il ?_ | refine eZ ?_ | refine fc ?_ | refine fj ?_ | refine fu ?_ | refine fB ?_ | refine fG ?_ | refine ir ?_ | refine vg ?_ | refine cX ?_ | refine fM ?_ | (refine' cU (SqT.of ?hz0) ?hz1 ?_; (case hz0 => first | assumption | exact aj); (case hz1 => rfl)) | refine cZ ?_ | refine fO ?_ | refine fP ?_ | refine dX ?_ | refine fQ ?_ | refine iw ?_ | refine lO ?_ | refine dW ?_ | refine cY ?_ | refine fK ?_ | (refine' uZ ?hz0 ?_; (case hz0 => with_unfolding_all first | assumption | omega | (dsimp only <;> omega) | exact ⟨by omega, by omega⟩ | exact .inl ⟨by omega, by omega⟩ | exact .inr ⟨by omega, by omega⟩ | exact ⟨by decide, by decide, by decide⟩)) | (refine' fJ ?hz0 ?_; (case hz0 => with_unfolding_all first | assumption | omega | (dsimp only <;> omega) | exact ⟨by omega, by omega⟩ | exact .inl ⟨by omega, by omega⟩ | exact .inr ⟨by omega, by omega⟩ | exact ⟨by decide, by decide, by decide⟩)) | (refine' bw (SqL.of ?hz0) ?hz1 ?_; (case hz0 => first | assumption | exact aj); (case hz1 => with_unfolding_all rfl)) | (refine' iu (SqT.of ?hz0) ?hz1 ?_; (case hz0 => first | assumption | exact aj); (case hz1 => with_unfolding_all rfl)) | (refine' dU ?hz0 ?hz1 ?_; (case hz0 => first | assumption | exact aj); (case hz1 => with_unfolding_all rfl)) | refine dg ?_ | refine dh ?_ | refine iB ?_ | refine fV ?_ | refine fU ?_ | refine zF ?_))
local macro_rules | `(tactic| walk_at "2") => `(tactic| (first | refine lG ?_ | refine lr ?_ | refine lq ?_ | refine iy ?_ | refine iz ?_ | (refine' ie ?hz0 ?_; (case hz0 => with_unfolding_all rfl)) | refine uY ?_ | refine lM ?_ | refine fH ?_ | refine eV ?_ | refine ig ?_ | refine gQ ?_ | refine eG ?_ | refine gU ?_ | refine d9 ?_ | refine lD ?_ | refine eO ?_ | refine lN ?_ | refine lJ ?_ | refine eY ?_ | refine lE ?_ | refine gW ?_ | refine gY ?_ | refine lF ?_ | refine eQ ?_ | refine gZ ?_ | refine eU ?_ | refine g8 ?_ | refine gR ?_ | refine eN ?_ | refine lH ?_ | refine gr ?_ | refine gq ?_ | refine lK ?_ | refine ik ?_ | refine lL ?_ | refine il ?_ | refine eZ ?_ | refine fc ?_ | refine fj ?_ | refine fu ?_ | refine fB ?_ | refine fG ?_ | refine ir ?_ | refine vg ?_ | refine cX ?_ | refine fM ?_ | (refine' cU (SqT.of ?hz0) ?hz1 ?_; (case hz0 => first | assumption | exact aj); (case hz1 => rfl)) | refine cZ ?_ | refine fO ?_ | refine fP ?_ | refine dX ?_ | refine fQ ?_ | refine iw ?_ | refine lO ?_ | refine dW ?_ | refine cY ?_ | refine fK ?_ | (refine' uZ ?hz0 ?_; (case hz0 => with_unfolding_all first | assumption | omega | (dsimp only <;> omega) | exact ⟨by omega, by omega⟩ | exact .inl ⟨by omega, by omega⟩ | exact .inr ⟨by omega, by omega⟩ | exact ⟨by decide, by decide, by decide⟩)) | (refine' fJ ?hz0 ?_; (case hz0 => with_unfolding_all first | assumption | omega | (dsimp only <;> omega) | exact ⟨by omega, by omega⟩ | exact .inl ⟨by omega, by omega⟩ | exact .inr ⟨by omega, by omega⟩ | exact ⟨by decide, by decide, by decide⟩)) | (refine' bw (SqL.of ?hz0) ?hz1 ?_; (case hz0 => first | assumption | exact aj); (case hz1 => with_unfolding_all rfl)) | (refine' iu (SqT.of ?hz0) ?hz1 ?_; (case hz0 => first | assumption | exact aj); (case hz1 => with_unfolding_all rfl)) | (refine' dU ?hz0 ?hz1 ?_; (case hz0 => first | assumption | exact aj); (case hz1 => with_unfolding_all rfl)) | refine dg ?_ | refine dh ?_ | refine iB ?_ | refine fV ?_ | refine fU ?_))
local macro_rules | `(tactic| walk_at "3") => `(tactic| (first | refine lG ?_ | refine lr ?_ | refine lq ?_ | refine iy ?_ | refine iz ?_ | (refine' ie ?hz0 ?_; (case hz0 => with_unfolding_all rfl)) | refine uY ?_ | refine lM ?_ | refine fH ?_ | refine eV ?_ | refine ig ?_ | refine gQ ?_ | refine eG ?_ | refine gU ?_ | refine d9 ?_ | refine lD ?_ | refine eO ?_ | refine lN ?_ | refine lJ ?_ | refine eY ?_ | refine lE ?_ | refine gW ?_ | refine gY ?_ | refine lF ?_ | refine eQ ?_ | refine gZ ?_ | refine eU ?_ | refine g8 ?_ | refine gR ?_ | refine eN ?_ | refine lH ?_ | refine gr ?_ | refine gq ?_ | refine lK ?_ | refine ik ?_ | refine lL ?_ | refine il ?_ | refine eZ ?_ | refine fc ?_ | refine fj ?_ | refine fu ?_ | refine fB ?_ | refine fG ?_ | refine ir ?_ | refine vg ?_ | refine cX ?_ | refine fM ?_ | (refine' cU (SqT.of ?hz0) ?hz1 ?_; (case hz0 => first | assumption | exact aj); (case hz1 => rfl)) | refine cZ ?_ | refine fO ?_ | refine fP ?_ | refine dX ?_ | refine fQ ?_ | refine iw ?_ | refine lO ?_ | refine dW ?_ | refine cY ?_ | refine fK ?_ | (refine' uZ ?hz0 ?_; (case hz0 => with_unfolding_all first | assumption | omega | (dsimp only <;> omega) | exact ⟨by omega, by omega⟩ | exact .inl ⟨by omega, by omega⟩ | exact .inr ⟨by omega, by omega⟩ | exact ⟨by decide, by decide, by decide⟩)) | (refine' fJ ?hz0 ?_; (case hz0 => with_unfolding_all first | assumption | omega | (dsimp only <;> omega) | exact ⟨by omega, by omega⟩ | exact .inl ⟨by omega, by omega⟩ | exact .inr ⟨by omega, by omega⟩ | exact ⟨by decide, by decide, by decide⟩)) | (refine' bw (SqL.of ?hz0) ?hz1 ?_; (case hz0 => first | assumption | exact aj); (case hz1 => with_unfolding_all rfl)) | (refine' iu (SqT.of ?hz0) ?hz1 ?_; (case hz0 => first | assumption | exact aj); (case hz1 => with_unfolding_all rfl)) | (refine' dU ?hz0 ?hz1 ?_; (case hz0 => first | assumption | exact aj); (case hz1 => with_unfolding_all rfl)) | refine dg ?_ | refine dh ?_ | refine iB ?_ | refine fV ?_ | refine vG ?_ | refine fU ?_))
local macro_rules | `(tactic| walk_at "4") => `(tactic| (first | refine lG ?_ | refine lr ?_ | refine lq ?_ | refine iy ?_ | refine iz ?_ | (refine' ie ?hz0 ?_; (case hz0 => with_unfolding_all rfl)) | refine uY ?_ | refine lM ?_ | refine fH ?_ | refine eV ?_ | refine ig ?_ | refine gQ ?_ | refine eG ?_ | refine gU ?_ | refine d9 ?_ | refine lD ?_ | refine eO ?_ | refine lN ?_ | refine lJ ?_ | refine eY ?_ | refine lE ?_ | refine gW ?_ | refine gY ?_ | refine lF ?_ | refine eQ ?_ | refine gZ ?_ | refine eU ?_ | refine g8 ?_ | refine gR ?_ | refine eN ?_ | refine lH ?_ | refine gr ?_ | refine gq ?_ | refine lK ?_ | refine ik ?_ | refine lL ?_ | refine il ?_ | refine eZ ?_ | refine fc ?_ | refine fj ?_ | refine fu ?_ | refine fB ?_ | refine fG ?_ | refine ir ?_ | refine vg ?_ | refine cX ?_ | refine fM ?_ | (refine' cU (SqT.of ?hz0) ?hz1 ?_; (case hz0 => first | assumption | exact aj); (case hz1 => rfl)) | refine cZ ?_ | refine fO ?_ | refine fP ?_ | refine dX ?_ | refine fQ ?_ | refine iw ?_ | refine lO ?_ | refine dW ?_ | refine cY ?_ | refine fK ?_ | (refine' uZ ?hz0 ?_; (case hz0 => with_unfolding_all first | assumption | omega | (dsimp only <;> omega) | exact ⟨by omega, by omega⟩ | exact .inl ⟨by omega, by omega⟩ | exact .inr ⟨by omega, by omega⟩ | exact ⟨by decide, by decide, by decide⟩)) | (refine' fJ ?hz0 ?_; (case hz0 => with_unfolding_all first | assumption | omega | (dsimp only <;> omega) | exact ⟨by omega, by omega⟩ | exact .inl ⟨by omega, by omega⟩ | exact .inr ⟨by omega, by omega⟩ | exact ⟨by decide, by decide, by decide⟩)) | (refine' bw (SqL.of ?hz0) ?hz1 ?_; (case hz0 => first | assumption | exact aj); (case hz1 => with_unfolding_all rfl)) | (refine' iu (SqT.of ?hz0) ?hz1 ?_; (case hz0 => first | assumption | exact aj); (case hz1 => with_unfolding_all rfl)) | (refine' dU ?hz0 ?hz1 ?_; (case hz0 => first | assumption | exact aj); (case hz1 => with_unfolding_all rfl)) | refine dg ?_ | refine dh ?_ | refine iB ?_ | refine fV ?_ | refine fU ?_ | refine qW ?_))
abbrev bL (d:Stmt) (x:Str):Prop:=(aq d).names.lookup x=some NameKind.local
abbrev sW (d:Stmt) (x:Str):Prop:=(aq d).names.lookup x=some NameKind.cell
abbrev dH (d:Stmt) (x:Str):Prop:=(aq d).names.lookup x=some NameKind.globalImplicit
def nI (cs:List Nat):List Int:=cs.map fun i:Nat=>(i:Int)
structure Prm (t:List Nat):Prop where
 le:t.length<=96
 pm:t.Perm (List.range t.length)
theorem Prm.nd {t:List Nat} (h:Prm t):t.Nodup:=h.pm.nodup_iff.mpr List.nodup_range
theorem Prm.lt {t:List Nat} (h:Prm t) {x:Nat} (hx:x∈t):x < t.length:=List.mem_range.mp (h.pm.mem_iff.mp hx)
theorem getD_some {B:List Nat} {i:Nat} (h:i < B.length):B[i]?=some (B.getD i 0):=by rw [List.getD_eq_getElem?_getD,List.getElem?_eq_getElem h];rfl
def top (i:Nat):Stmt:=PySem.Challenge.pw_panethread_k43_tight_stretches.main.body.getD i (.Pass ⟨0,0,0,0⟩)
abbrev dw:Stmt:=top 7
abbrev dz:Stmt:=top 8
abbrev cN:Stmt:=top 9
abbrev bc:Stmt:=top 11
abbrev dB:Stmt:=top 12
abbrev cu:Stmt:=top 13
abbrev fY:Stmt:=top 19
abbrev bA:Stmt:=top 20
abbrev aQ:Stmt:=top 21
abbrev jk:Stmt:=top 22
abbrev aK:Stmt:=top 23
abbrev aH:Stmt:=top 24
abbrev aZ:Stmt:=top 25
abbrev cz:Stmt:=top 26
abbrev dF:Stmt:=top 27
abbrev aF:Stmt:=top 28
abbrev bY:Stmt:=top 29
abbrev bx:Stmt:=jD 0 (top 15)
abbrev bN:Stmt:=jD 1 (top 15)
abbrev bh:Stmt:=jD 0 (top 17)
abbrev bj:Stmt:=jD 1 (top 17)
abbrev aR:Stmt:=jD 2 (top 17)
abbrev bG:Stmt:=jD 8 (top 17)
abbrev bJ:Stmt:=jD 11 (top 17)
abbrev bB:Stmt:=jD 12 (top 17)
abbrev bz:Stmt:=jD 13 (top 17)
abbrev aO:Stmt:=jD 14 (top 17)
abbrev aP:Stmt:=jD 15 (top 17)
local macro_rules | `(tactic| walk_at "s") => `(tactic| (with_reducible repeat (first | refine j4 ?_ | walk_at "0")))
local macro_rules | `(tactic| walk_at "n") => `(tactic| (with_reducible repeat (walk_at "0")))
structure Txt (K:W.Frag) (mg:Str->Option Value):Prop where
 b_bool:mg "bool"=none
 b_enumerate:mg "enumerate"=none
 b_int:mg "int"=none
 b_isinstance:mg "isinstance"=none
 b_len:mg "len"=none
 b_list:mg "list"=none
 b_min:mg "min"=none
 b_range:mg "range"=none
 b_reversed:mg "reversed"=none
 b_tuple:mg "tuple"=none
 c_MOST_LINES:∃ t,mg "MOST_LINES"=some (.int 96 t)
 d_is_number:jo K mg "is_number" dw
 d_is_within:jo K mg "is_within" dz
 d_need_place:jo K mg "need_place" cN
 d_is_turning:jo K mg "is_turning" bc
 d_need_turning:jo K mg "need_turning" dB
 d_counts:jo K mg "counts" cu
 d_law_cell:jo K mg "_law_cell" fY
 d_law_numbers:jo K mg "_law_numbers" bA
 d_law_turning:jo K mg "_law_turning" aQ
 d_law_size:jo K mg "_law_size" jk
 d_law_lengths:jo K mg "_law_lengths" aK
 d_law_tightest:jo K mg "_law_tightest" aH
 d_law_shortest:jo K mg "_law_shortest" aZ
 d_law_gains:jo K mg "_law_gains" cz
 d_law_losses:jo K mg "_law_losses" dF
 d_law_asked:jo K mg "_law_asked" aF
 d_law:jo K mg "law" bY
 o_Tally:pB K mg "Tally"
 n_Tally:∀ f∈(["held_ends","held_counts"]:List Str),NoAttr K (bO mg "Tally") f
 o_Asks:pB K mg "Asks"
 n_Asks:∀ f∈(["held_tally","held_many","held_far"]:List Str),NoAttr K (bO mg "Asks") f
 m_Tally___init__:gM K mg "Tally" "__init__" "Tally.__init__" bx
 m_Tally_below:gM K mg "Tally" "below" "Tally.below" bN
 m_Asks___init__:gM K mg "Asks" "__init__" "Asks.__init__" bh
 m_Asks_reckoned:gM K mg "Asks" "reckoned" "Asks.reckoned" bj
 m_Asks_reckoned_stretch:gM K mg "Asks" "reckoned_stretch" "Asks.reckoned_stretch" aR
 m_Asks_table_row:gM K mg "Asks" "table_row" "Asks.table_row" bG
 m_Asks_gains:gM K mg "Asks" "gains" "Asks.gains" bJ
 m_Asks_losses:gM K mg "Asks" "losses" "Asks.losses" bB
 m_Asks_least_end:gM K mg "Asks" "least_end" "Asks.least_end" bz
 m_Asks_tightest:gM K mg "Asks" "tightest" "Asks.tightest" aO
 m_Asks_shortest:zJ K mg "Asks" "shortest" "Asks.shortest" aP
def Kd (K:W.Frag) (H:Hp) (v:V):Prop:=(∃ n,v= .int n)\/(∃ b,v= .bl b)\/∃ T,TyOf K H v (.type T)/\PySem.W.kitOne K (.type T) (.type "int")=some false
theorem Kd.same {K:W.Frag} {H H':Hp} {v:V} (h:Kd K H v) (s:Same H H'):Kd K H' v:=by
 rcases h with h | h | ⟨T,a,c⟩
 ·exact .inl h
 ·exact .inr (.inl h)
 ·exact .inr (.inr ⟨T,a.mono fun b o e _=>s b o e,c⟩)
def Lg:V->Bool
 | .int _=>true
 | _=>false
def inB (v:V) (lo hi:Int):Bool:=match v with
 | .int n=>decide (lo<=n) && decide (n<=hi)
 | _=>false
section
variable {P:Program} {w:World} {K:W.Frag} {mg:Str->Option Value} {base:Heap}
theorem Lh:dH dw "isinstance":=by trivial
theorem kz01:dH dw "bool":=by trivial
theorem Li:bL dw "thing":=by trivial
theorem kz03:dH dw "int":=by trivial
theorem kz04:bL dz "low":=by trivial
theorem Lj:bL dz "thing":=by trivial
theorem kz06:bL dz "high":=by trivial
theorem kz07:dH dz "is_number":=by trivial
theorem kz08:dH cN "is_within":=by trivial
theorem kz09:bL cN "high":=by trivial
theorem kz0a:bL cN "low":=by trivial
theorem kz0b:bL cN "thing":=by trivial
theorem Same.put {H H':Hp} {p:Addr} {o:HO} (s:Same H H') (hn:H p=none):Same H (upd H' p o):=fun b u e=>by
 rw [aA (fun z=>by rw [z,hn] at e;cases e)]
 exact s b u e
theorem Same.back {H H':Hp} {p:Addr} (s:Same H H') (h:H' p=none):H p=none:=by
 cases e:H p with
 | none=>rfl
 | some o=>rw [s _ _ e] at h;cases h
theorem HW {H:Hp} {v:V} {T:String} (h:TyOf K H v (.type T)) (k:PySem.W.kitOne K (.type T) (.type "int")=some false):Lg v=false/\∀ lo hi,inB v lo hi=false:=by
 cases v with
 | int z=>
  cases h
  have:PySem.W.kitOne K (.type "int") (.type "int")=some true:=rfl
  rw [this] at k;cases k
 | _=>exact ⟨rfl,fun _ _=>rfl⟩
def zL (K:W.Frag):Sp:=fun vs H Q _=>∃ v:V,vs=[v]/\Kd K H v/\Q (.bl (Lg v)) H
theorem qX:aG ["thing"] ["thing"] (aq dw):=⟨rfl,rfl,rfl,by trivial,rfl,by trivial,by trivial⟩
theorem jG (T:Txt K mg):ph P w K mg base 1 "is_number" ["thing"] (zL K):=by
 refine jX T.d_is_number qX (fun _ _ _ _ _ _ us hl=>L2.vR (fun _=>rfl) us hl) ?_ fun f cdv A outer s H vs Q E hr h=>?_
 ·rintro vs H Q E ⟨v,rfl,_⟩;rfl
 obtain ⟨v,rfl,hT,q⟩:=h
 have hu:=hr.units0
 have hu64:=hr.units
 refine ⟨_,(aD (aW (Ep (bD (mC (K:=K) rfl) (cD Lh) T.b_isinstance gj (aa (au 0 Li) (aa (yP (cD kz03) T.b_int yM (by trivial) (by trivial)) ao)) (by trivial) (by trivial)) (u9 (KY (bD (mC (K:=K) rfl) (cD Lh) T.b_isinstance gj (aa (au 0 Li) (aa (yP (cD kz01) T.b_bool BW (by trivial) (by trivial)) ao)) (by trivial) (by trivial))))))),?_⟩
 walk_at "s"
 rcases hT with ⟨n,rfl⟩ | ⟨b,rfl⟩ | ⟨T',hty,hk⟩
 ·refine p8 (.int _) rfl ?_
  walk_at "s"
  refine p8 (.int _) rfl ?_
  walk_at "s"
  exact q
 ·refine p8 (.bl _) (b:=true) (by rfl) ?_
  walk_at "s"
  refine p8 (.bl _) (b:=true) (by rfl) ?_
  walk_at "s"
  exact q
 ·refine p8 hty hk ?_
  walk_at "s"
  rw [(HW hty hk).1] at q
  exact q
def zM (K:W.Frag):Sp:=fun vs H Q _=>∃ (v:V) (lo hi:Int),vs=[v,.int lo,.int hi]/\Kd K H v/\Q (.bl (inB v lo hi)) H
theorem qY:aG ["thing","low","high"] ["thing","low","high"] (aq dz):=⟨rfl,rfl,rfl,by trivial,rfl,by trivial,by trivial⟩
theorem d7 (T:Txt K mg):ph P w K mg base 2 "is_within" ["thing","low","high"] (zM K):=by
 have jG:=jG (P:=P) (w:=w) (base:=base) T
 refine jX T.d_is_within qY (fun _ _ _ _ _ _ us hl=>L2.qt (fun _ _ _=>rfl) us hl) ?_ fun f cdv A outer s H vs Q E hr h=>?_
 ·rintro vs H Q E ⟨v,lo,hi,rfl,_⟩;rfl
 obtain ⟨v,lo,hi,rfl,hT,q⟩:=h
 have hu:=hr.units0
 have hu64:=hr.units
 refine ⟨_,(aD (aW (Ep (bC jG (hr.mono (by decide)) (cD kz07) (aa (au 0 Lj) ao) (by trivial)) (u9 (Ck xO xO (au 1 kz04) (au 0 Lj) (au 2 kz06)))))),?_⟩
 walk_at "s"
 refine ⟨v,rfl,hT,?_⟩
 walk_at "s"
 cases v with
 | int n=>
  show if true=true then _ else _
  walk_at "s"
  show if decide (lo<=n)=true then _ else _
  unfold inB at q
  dsimp only at q
  by_cases h:lo<=n
  ·rw [decide_eq_true h] at q ⊢
   rw [Bool.true_and] at q
   walk_at "s"
   exact q
  ·rw [decide_eq_false h] at q ⊢
   rw [Bool.false_and] at q
   walk_at "s"
   exact q
 | _=>exact q
def vH (K:W.Frag):Sp:=fun vs H Q _=>∃ (n lo hi:Int),vs=[.int n,.int lo,.int hi]/\lo<=n/\n<=hi/\Q .non H
theorem pI:aG ["thing","low","high"] ["thing","low","high"] (aq cN):=⟨rfl,rfl,rfl,by trivial,rfl,by trivial,by trivial⟩
theorem aM (T:Txt K mg):ph P w K mg base 3 "need_place" ["thing","low","high"] (vH K):=by
 have d7:=d7 (P:=P) (w:=w) (base:=base) T
 refine jX T.d_need_place pI (fun _ _ _ _ _ _ us hl=>L2.qt (fun _ _ _=>rfl) us hl) ?_ fun f cdv A outer s H vs Q E hr h=>?_
 ·rintro vs H Q E ⟨n,lo,hi,rfl,_⟩;rfl
 obtain ⟨n,lo,hi,rfl,h1,h2,q⟩:=h
 have hu:=hr.units0
 have hu64:=hr.units
 refine ⟨_,(aD (dM (kh (jh (bC d7 (hr.mono (by decide)) (cD kz08) (aa (au 0 kz0b) (aa (au 1 kz0a) (aa (au 2 kz09) ao))) (by trivial)))) (aD rW) dq)),?_⟩
 walk_at "s"
 refine ⟨.int n,lo,hi,rfl,.inl ⟨_,rfl⟩,?_⟩
 walk_at "s"
 have hb:inB (.int n) lo hi=true:=by unfold inB;simp;omega
 rw [hb]
 walk_at "s"
 exact q
theorem bM (t:List Nat):((nI t).map V.int).length=t.length:=by unfold nI;rw [List.length_map,List.length_map]
theorem Fi {t:List Nat} {k i:Nat} (h:t[k]?=some i):((nI t).map V.int)[k]?=some (.int (i:Int)):=by unfold nI;rw [List.getElem?_map,List.getElem?_map,h];rfl
theorem Fj {t:List Nat} {k:Nat} {v:V} (h:((nI t).map V.int)[k]?=some v):∃ i,t[k]?=some i/\v= .int (i:Int):=by
 unfold nI at h
 rw [List.getElem?_map,List.getElem?_map] at h
 cases e:t[k]? with
 | none=>rw [e] at h;cases h
 | some y=>rw [e] at h;exact ⟨y,rfl,(Option.some.inj h).symm⟩
theorem vI (t:List Nat) (x:Nat):(nI t).map V.int ++ [.int (x:Int)]=(nI (t ++ [x])).map V.int:=by unfold nI;rw [List.map_append,List.map_append];rfl
theorem Lk {n p:Nat} {j:Int} (hj:j=(p:Int)) (h:p < n):wg n j=some p:=by
 subst hj
 unfold wg
 rw [if_pos (by omega),if_pos (by omega)]
 simp
theorem iV {H:Hp} {Q:VK} {E:XK} {n lo hi:Int} (h1:lo<=n) (h2:n<=hi) (h:Q .non H):vH K [.int n,.int lo,.int hi] H Q E:=⟨n,lo,hi,rfl,h1,h2,h⟩
theorem Dh:bL bc "thing":=by trivial
theorem Di:bL bc "end":=by trivial
theorem HX:bL bc "seen":=by trivial
theorem kz0f:dH bc "is_within":=by trivial
theorem Ln:dH bc "len":=by trivial
theorem kz0h:dH bc "MOST_LINES":=by trivial
theorem kz0i:dH bc "isinstance":=by trivial
theorem kz0j:dH bc "tuple":=by trivial
theorem kz0k:dH bc "list":=by trivial
theorem kz0l:dH dB "is_turning":=by trivial
theorem kz0m:bL dB "thing":=by trivial
def Tn (H:Hp) (a:Addr) (t:List Nat):Prop:=H a=some (.lst ((nI t).map V.int))\/H a=some (.tup ((nI t).map V.int))
theorem Tn.same {H H':Hp} {a:Addr} {t:List Nat} (h:Tn H a t) (s:Same H H'):Tn H' a t:=h.imp (s _ _) (s _ _)
def Dj (us:List V):Bool:=decide (us.length<=96) && (us.all fun u=>inB u 0 ((us.length:Int) - 1)) && decide us.Nodup
theorem vJ {us:List V} (h:96 < us.length):Dj us=false:=by unfold Dj;rw [decide_eq_false (by omega)];rfl
theorem zN {us:List V} {u:V} (h:u∈us) (hb:inB u 0 ((us.length:Int) - 1)=false):Dj us=false:=by
 unfold Dj
 have:(us.all fun u=>inB u 0 ((us.length:Int) - 1))=false:=List.all_eq_false.mpr ⟨u,h,by rw [hb];simp⟩
 rw [this,Bool.and_false,Bool.false_and]
theorem zO {us:List V} {k:Nat} {u:V} (h:us[k]?=some u) (hm:u∈us.take k):Dj us=false:=by
 have:¬ us.Nodup:=fun nd=>by
  obtain ⟨i,hi,e⟩:=List.mem_iff_getElem.mp hm
  obtain ⟨hk,e2⟩:=List.getElem?_eq_some_iff.mp h
  rw [List.length_take] at hi
  rw [List.getElem_take] at e
  exact List.pairwise_iff_getElem.mp nd i k (by omega) hk (by omega) (e.trans e2.symm)
 unfold Dj
 rw [decide_eq_false this,Bool.and_false]
theorem zP {us:List V} (h:us.length<=96) (hin:∀ u∈us,inB u 0 ((us.length:Int) - 1)=true) (hnd:us.Nodup):Dj us=true:=by
 unfold Dj
 rw [decide_eq_true h,decide_eq_true hnd,List.all_eq_true.mpr hin];rfl
theorem oV {us:List V} {v:V} (h:us.Nodup) (hm:v ∉ us):(us ++ [v]).Nodup:=by
 refine List.nodup_append.mpr ⟨h,by simp,fun a ha b hb=>?_⟩
 rw [List.mem_singleton.mp hb]
 exact fun z=>hm (z ▸ ha)
theorem vK {v:V} {h:Int} (hb:inB v 0 h=true):∃ i:Nat,v= .int (i:Int)/\(i:Int)<=h:=by
 cases v with
 | int n=>
  unfold inB at hb
  simp at hb
  exact ⟨n.toNat,by rw [Int.toNat_of_nonneg hb.1],by omega⟩
 | _=>cases hb
def TnK (K:W.Frag) (H:Hp) (v:V) (b:Bool):Prop:=(∃ a us,v= .ref a/\(H a=some (.lst us)\/H a=some (.tup us))/\us.length<=10000/\(∀ u∈us,Kd K H u)/\b=Dj us)\/
 ∃ T,TyOf K H v (.type T)/\PySem.W.kitAny K (.type T) [.type "list",.type "tuple"]=some false/\b=false
theorem Dk {H:Hp} {a:Addr} {t:List Nat} (h:Tn H a t) (hP:Prm t):TnK K H (.ref a) true:=by
 have hle:=hP.le
 refine .inl ⟨a,_,rfl,h,by rw [bM];omega,fun u hu=>?_,?_⟩
 ·obtain ⟨x,_,rfl⟩:=List.mem_map.mp hu
  exact .inl ⟨x,rfl⟩
 ·refine (zP (by rw [bM];exact hle) (fun u hu=>?_) ?_).symm
  ·obtain ⟨x,hx,rfl⟩:=List.mem_map.mp hu
   unfold nI at hx
   obtain ⟨y,hy,rfl⟩:=List.mem_map.mp hx
   have:=hP.lt hy
   rw [bM]
   unfold inB
   simp;omega
  ·unfold nI List.Nodup
   rw [List.map_map,List.pairwise_map]
   exact hP.nd.imp fun {x y} h z=>h (by have e:((x:Nat):Int)=((y:Nat):Int):=V.int.inj z;omega)
def HY (K:W.Frag):Sp:=fun vs H Q _=>∃ (v:V) (b:Bool),vs=[v]/\TnK K H v b/\∀ H',Same H H'->Q (.bl b) H'
theorem iD:aG ["thing","seen","end"] ["thing"] (aq bc):=⟨rfl,rfl,rfl,by trivial,rfl,by trivial,by trivial⟩
theorem jl (T:Txt K mg):ph P w K mg base 3 "is_turning" ["thing"] (HY K):=by
 have d7:=d7 (P:=P) (w:=w) (base:=base) T
 refine jX T.d_is_turning iD (fun _ _ _ _ _ _ us hl=>L2.vR (fun _=>rfl) us hl) ?_ fun f cdv A outer s H vs Q E hr h=>?_
 ·rintro vs H Q E ⟨v,bb,rfl,_⟩;rfl
 obtain ⟨v,bb,rfl,h,q⟩:=h
 have hu:=hr.units0
 have hu64:=hr.units
 refine ⟨_,(az (dM (qb (u6 (kh (jh (bD (wJ (K:=K) rfl) (cD kz0i) T.b_isinstance gj (aa (au 0 Dh) (aa (qd (aa (yP (cD kz0k) T.b_list jO (by trivial) (by trivial)) (aa (yP (cD kz0j) T.b_tuple yL (by trivial) (by trivial)) ao))) ao)) (by trivial) (by trivial)))) (qO (bT uM (bD (aV (K:=K) rfl) (cD Ln) T.b_len cM (aa (au 0 Dh) ao) (by trivial) (by trivial)) (yO (cD kz0h) T.c_MOST_LINES (by trivial)) (by walk_at "p"))))) (aD (aW pA)) dq) (az (aL (i:=1) iD.nd rfl (Or.inl HX) Cw rfl) (az (gn PassesOwn.never rfl (mF (K:=K) rfl (au 0 Dh)) (cj (i:=2) iD.nd rfl (Or.inl Di) rfl) (az (dM (qb (u6 (kh (jh (bC d7 (hr.mono (by decide)) (cD kz0f) (aa (au 2 Di) (aa aB (aa (aN cL (bD (aV (K:=K) rfl) (cD Ln) T.b_len cM (aa (au 0 Dh) ao) (by trivial) (by trivial)) aB) ao))) (by trivial)))) (qO (bT (HJ (K:=K) rfl hu64) (au 2 Di) (au 1 HX) (by walk_at "p"))))) (aD (aW pA)) dq) (aD (vf (ts:=vA) pA (yR (au 1 HX) (au 2 Di) (vB hu64)))))) (aD (aW pA))))),?_⟩
 walk_at "s"
 have hs:20000<=sizeLine:=by decide
 rcases h with ⟨a,us,rfl,ha,hlen,hkd,rfl⟩ | ⟨T',hty,hk,rfl⟩
 ·rcases ha with ha | ha
  ·skip
   refine vz rfl fun p np=>?_
   walk_at "s"
   have ha1:upd H p (.tup [.ty "list",.ty "tuple"]) a=some (.lst us):=nj np ha
   refine qT (.lst ha1) aj rfl (b:=true) (by rfl) ?_
   walk_at "s"
   refine cT (SqL.of ha1) ?_
   walk_at "s"
   by_cases h96:96 < us.length
   ·rw [decide_eq_true (show (96:Int) < (us.length:Int) by omega)]
    rw [vJ h96] at q
    walk_at "s"
    exact q _ ((Same.refl H).upd np)
   rw [decide_eq_false (show ¬ (96:Int) < (us.length:Int) by omega)]
   walk_at "s"
   intro d nd
   have S1:Same H (upd (upd H p (.tup [.ty "list",.ty "tuple"])) d (.dK [])):=((Same.refl H).upd np).upd nd
   have hd0:upd (upd H p (.tup [.ty "list",.ty "tuple"])) d (.dK []) d=some (.dK []):=aj
   have nd':H d=none:=Same.back ((Same.refl H).upd np) nd
   generalize upd (upd H p (.tup [.ty "list",.ty "tuple"])) d (.dK [])=H1 at S1 hd0 ⊢
   walk_at "s"
   refine .inl ⟨a,rfl,⟨_,SqL.of (S1 _ _ ha)⟩,?_⟩
   refine kZ (xs:=us) (fun k U H'=>∃ (kvs:List (Key×V)) (x2:Option V),U=[some (.ref a),some (.ref d),x2]/\Same H H'/\H' d=some (.dK kvs)/\kvs.length<=k/\(∀ n:Nat,gH kvs (Sum.inl (n:Int))=if V.int (n:Int)∈us.take k then some (.bl true) else none)/\(∀ u∈us.take k,inB u 0 ((us.length:Int) - 1)=true)/\(us.take k).Nodup)
    ⟨[],_,rfl,S1,hd0,by simp,fun n=>by simp [rH],by simp,by simp⟩ (fun i U H' _ h=>?_) ?_ ?_
   ·obtain ⟨_,_,_,s,_⟩:=h
    exact SqL.of (s _ _ ha)
   ·rintro k v U H' hk ⟨kvs,x2,rfl,s,hd,hkl,hv,hin,hnd⟩
    have hkt:k < us.length:=(List.getElem?_eq_some_iff.mp hk).1
    have hmem:=List.mem_of_getElem? hk
    walk_at "s"
    refine cT (SqL.of (s _ _ ha)) ?_
    walk_at "s"
    refine ⟨_,_,_,rfl,(hkd v hmem).same s,?_⟩
    walk_at "s"
    cases hb:inB v 0 ((us.length:Int) - 1) with
    | false=>
     rw [zN hmem hb] at q
     walk_at "s"
     exact q _ s
    | true=>
     obtain ⟨i,rfl,hi⟩:=vK hb
     walk_at "s"
     refine .inr ⟨d,_,rfl,DGet.k (k:=Sum.inl (i:Int)) hd,?_⟩
     rw [hv i]
     by_cases hm:V.int (i:Int)∈us.take k
     ·rw [if_pos hm,show (some (V.bl true)).isSome=true from rfl]
      rw [zO hk hm] at q
      walk_at "s"
      exact q _ s
     ·rw [if_neg hm,show (none:Option V).isSome=false from rfl]
      walk_at "s"
      refine .inr ⟨d,_,rfl,DPut.k (k:=Sum.inl (i:Int)) hd (by omega),?_⟩
      have tk:us.take (k+1)=us.take k ++ [V.int (i:Int)]:=by rw [List.take_add_one,hk];rfl
      refine ⟨_,_,rfl,Same.put s nd',aj,Nat.le_trans (gO _ _ _) (by omega),fun n=>?_,fun u hu=>?_,?_⟩
      ·rw [rK,hv n,tk]
       by_cases hn:n=i
       ·subst hn;simp
       ·rw [if_neg (fun z=>hn (by have:=Sum.inl.inj z;omega))]
        have hne:¬ V.int (n:Int)=V.int (i:Int):=fun z=>hn (by have:=V.int.inj z;omega)
        simp [hne]
      ·rw [tk] at hu
       rcases List.mem_append.mp hu with h | h
       ·exact hin u h
       ·rw [List.mem_singleton.mp h];exact hb
      ·rw [tk]
       exact oV hnd hm
   ·rintro U H' ⟨kvs,x2,rfl,s,hd,_,_,hin,hnd⟩
    rw [List.take_length] at hin hnd
    rw [zP (by omega) hin hnd] at q
    walk_at "s"
    exact q _ s
  ·skip
   refine vz rfl fun p np=>?_
   walk_at "s"
   have ha1:upd H p (.tup [.ty "list",.ty "tuple"]) a=some (.tup us):=nj np ha
   refine qT (.tup ha1) aj rfl (b:=true) (by rfl) ?_
   walk_at "s"
   refine qN (SqT.of ha1) ?_
   walk_at "s"
   by_cases h96:96 < us.length
   ·rw [decide_eq_true (show (96:Int) < (us.length:Int) by omega)]
    rw [vJ h96] at q
    walk_at "s"
    exact q _ ((Same.refl H).upd np)
   rw [decide_eq_false (show ¬ (96:Int) < (us.length:Int) by omega)]
   walk_at "s"
   intro d nd
   have S1:Same H (upd (upd H p (.tup [.ty "list",.ty "tuple"])) d (.dK [])):=((Same.refl H).upd np).upd nd
   have hd0:upd (upd H p (.tup [.ty "list",.ty "tuple"])) d (.dK []) d=some (.dK []):=aj
   have nd':H d=none:=Same.back ((Same.refl H).upd np) nd
   generalize upd (upd H p (.tup [.ty "list",.ty "tuple"])) d (.dK [])=H1 at S1 hd0 ⊢
   walk_at "s"
   refine .inr (.inl ⟨a,rfl,⟨_,SqT.of (S1 _ _ ha)⟩,?_⟩)
   refine Bh (xs:=us) (fun k U H'=>∃ (kvs:List (Key×V)) (x2:Option V),U=[some (.ref a),some (.ref d),x2]/\Same H H'/\H' d=some (.dK kvs)/\kvs.length<=k/\(∀ n:Nat,gH kvs (Sum.inl (n:Int))=if V.int (n:Int)∈us.take k then some (.bl true) else none)/\(∀ u∈us.take k,inB u 0 ((us.length:Int) - 1)=true)/\(us.take k).Nodup)
    ⟨[],_,rfl,S1,hd0,by simp,fun n=>by simp [rH],by simp,by simp⟩ (fun i U H' _ h=>?_) ?_ ?_
   ·obtain ⟨_,_,_,s,_⟩:=h
    exact SqT.of (s _ _ ha)
   ·rintro k v U H' hk ⟨kvs,x2,rfl,s,hd,hkl,hv,hin,hnd⟩
    have hkt:k < us.length:=(List.getElem?_eq_some_iff.mp hk).1
    have hmem:=List.mem_of_getElem? hk
    walk_at "s"
    refine qN (SqT.of (s _ _ ha)) ?_
    walk_at "s"
    refine ⟨_,_,_,rfl,(hkd v hmem).same s,?_⟩
    walk_at "s"
    cases hb:inB v 0 ((us.length:Int) - 1) with
    | false=>
     rw [zN hmem hb] at q
     walk_at "s"
     exact q _ s
    | true=>
     obtain ⟨i,rfl,hi⟩:=vK hb
     walk_at "s"
     refine .inr ⟨d,_,rfl,DGet.k (k:=Sum.inl (i:Int)) hd,?_⟩
     rw [hv i]
     by_cases hm:V.int (i:Int)∈us.take k
     ·rw [if_pos hm,show (some (V.bl true)).isSome=true from rfl]
      rw [zO hk hm] at q
      walk_at "s"
      exact q _ s
     ·rw [if_neg hm,show (none:Option V).isSome=false from rfl]
      walk_at "s"
      refine .inr ⟨d,_,rfl,DPut.k (k:=Sum.inl (i:Int)) hd (by omega),?_⟩
      have tk:us.take (k+1)=us.take k ++ [V.int (i:Int)]:=by rw [List.take_add_one,hk];rfl
      refine ⟨_,_,rfl,Same.put s nd',aj,Nat.le_trans (gO _ _ _) (by omega),fun n=>?_,fun u hu=>?_,?_⟩
      ·rw [rK,hv n,tk]
       by_cases hn:n=i
       ·subst hn;simp
       ·rw [if_neg (fun z=>hn (by have:=Sum.inl.inj z;omega))]
        have hne:¬ V.int (n:Int)=V.int (i:Int):=fun z=>hn (by have:=V.int.inj z;omega)
        simp [hne]
      ·rw [tk] at hu
       rcases List.mem_append.mp hu with h | h
       ·exact hin u h
       ·rw [List.mem_singleton.mp h];exact hb
      ·rw [tk]
       exact oV hnd hm
   ·rintro U H' ⟨kvs,x2,rfl,s,hd,_,_,hin,hnd⟩
    rw [List.take_length] at hin hnd
    rw [zP (by omega) hin hnd] at q
    walk_at "s"
    exact q _ s
 ·refine vz rfl fun p np=>?_
  walk_at "s"
  refine qT (hty.mono fun b o e _=>nj np e) aj rfl hk ?_
  walk_at "s"
  exact q _ ((Same.refl H).upd np)
def Dl (K:W.Frag):Sp:=fun vs H Q _=>∃ (a:Addr) (t:List Nat),vs=[.ref a]/\Tn H a t/\Prm t/\∀ H',Same H H'->Q .non H'
theorem m8:aG ["thing"] ["thing"] (aq dB):=⟨rfl,rfl,rfl,by trivial,rfl,by trivial,by trivial⟩
theorem cG (T:Txt K mg):ph P w K mg base 4 "need_turning" ["thing"] (Dl K):=by
 have jl:=jl (P:=P) (w:=w) (base:=base) T
 refine jX T.d_need_turning m8 (fun _ _ _ _ _ _ us hl=>L2.vR (fun _=>rfl) us hl) ?_ fun f cdv A outer s H vs Q E hr h=>?_
 ·rintro vs H Q E ⟨a,t,rfl,_⟩;rfl
 obtain ⟨a,t,rfl,ha,hP,q⟩:=h
 have hu:=hr.units0
 have hu64:=hr.units
 refine ⟨_,(aD (dM (kh (jh (bC jl (hr.mono (by decide)) (cD kz0l) (aa (au 0 kz0m) ao) (by trivial)))) (aD rW) dq)),?_⟩
 walk_at "s"
 refine ⟨.ref a,true,rfl,Dk ha hP,fun H1 S1=>?_⟩
 walk_at "s"
 walk_at "s"
 exact q H1 S1
theorem Ia (n:Nat):((List.range n).map fun i:Nat=>V.int (0+(i:Int)*1))=(nI (List.range n)).map V.int:=by
 unfold nI
 rw [List.map_map]
 refine List.map_congr_left fun x _=>?_
 show V.int (0+(x:Int)*1)=V.int (x:Int)
 congr 1;omega
end
local macro_rules | `(tactic| walk_at "s") => `(tactic| (with_reducible repeat (first | refine j4 ?_ | walk_at "1")))
local macro_rules | `(tactic| walk_at "n") => `(tactic| (with_reducible repeat (walk_at "1")))
section
variable {P:Program} {w:World} {K:W.Frag} {mg:Str->Option Value} {base:Heap}
theorem sX:(["end","behind","line_end"]:List Str).Nodup:=by trivial
theorem kz0n:dH cu "list":=by trivial
theorem Lp:dH cu "reversed":=by trivial
theorem Dm:bL cu "table":=by trivial
theorem Ib:bL cu "turning":=by trivial
theorem kz0r:sW cu "line_end":=by trivial
theorem kz0s:dH cu "range":=by trivial
theorem Ie:bL cu "many":=by trivial
theorem kz0u:sW cu "behind":=by trivial
theorem kz0v:dH cu "len":=by trivial
theorem kz0w:dH cu "need_turning":=by trivial
def mj (t:List Nat) (b e:Nat):Nat:=(t.drop b).countP fun x=>decide (x < e)
def qZ (t:List Nat) (b:Nat):List Int:=(List.range (t.length+1)).map fun e=>((mj t b e:Nat):Int)
theorem uB {t:List Nat} {b e:Nat} {j:Int} (hj:j=(e:Int)) (h:e<=t.length):tL ((qZ t b).map V.int) j=some (.int ((mj t b e:Nat):Int)):=by
 subst hj
 refine cV ?_
 unfold qZ
 rw [List.getElem?_map,List.getElem?_map,List.getElem?_range (by omega)];rfl
theorem jH {t:List Nat} {b x:Nat} (h:t[b]?=some x) (e:Nat):mj t b e=mj t (b+1) e+if x < e then 1 else 0:=by
 obtain ⟨hb,hx⟩:=List.getElem?_eq_some_iff.mp h
 unfold mj
 rw [List.drop_eq_getElem_cons hb,List.countP_cons,hx]
 by_cases c:x < e
 ·rw [if_pos (by simpa using c),if_pos c]
 ·rw [if_neg (by simpa using c),if_neg c]
theorem vL (t:List Nat) (e:Nat):mj t t.length e=0:=by unfold mj;rw [List.drop_length];rfl
def CT (H:Hp) (rs:List V) (n:Nat) (f:Nat->List Int):Prop:=rs.length=n/\∀ k,k < n->∃ a,rs[k]?=some (.ref a)/\H a=some (.lst ((f k).map V.int))
theorem CT.same {H H':Hp} {rs:List V} {n:Nat} {f:Nat->List Int} (h:CT H rs n f) (s:Same H H'):CT H' rs n f:=⟨h.1,fun k hk=>by
 obtain ⟨a,e,ha⟩:=h.2 k hk
 exact ⟨a,e,s _ _ ha⟩⟩
theorem CT.push {H:Hp} {rs:List V} {n:Nat} {f:Nat->List Int} {a:Addr} (h:CT H rs n f) (ha:H a=some (.lst ((f n).map V.int))):CT H (rs ++ [.ref a]) (n+1) f:=⟨by rw [List.length_append,h.1];rfl,fun k hk=>by
 by_cases e:k=n
 ·subst e
  exact ⟨a,by rw [List.getElem?_append_right (by rw [h.1];exact Nat.le_refl _),h.1,Nat.sub_self];rfl,ha⟩
 ·obtain ⟨b,e1,hb⟩:=h.2 k (by omega)
  exact ⟨b,by rw [List.getElem?_append_left (by rw [h.1];omega)];exact e1,hb⟩⟩
theorem CT.rev {H:Hp} {rs:List V} {n:Nat} {f:Nat->List Int} (h:CT H rs n f):CT H rs.reverse n fun k=>f (n - 1 - k):=⟨by rw [List.length_reverse];exact h.1,fun k hk=>by
 obtain ⟨a,e,ha⟩:=h.2 (n - 1 - k) (by omega)
 exact ⟨a,by rw [List.getElem?_reverse (by rw [h.1];exact hk),h.1];exact e,ha⟩⟩
def zQ:Sp:=fun vs H Q _=>∃ (a:Addr) (t:List Nat),vs=[.ref a]/\Tn H a t/\Prm t/\∀ q rs H',H q=none->Same H H'->H' q=some (.lst rs)->CT H' rs (t.length+1) (qZ t)->(∀ r,V.ref r∈rs->H r=none)->Q (.ref q) H'
theorem iW:aG ["turning","many","table","line_end","behind"] ["turning"] (aq cu):=⟨rfl,rfl,rfl,by trivial,rfl,by trivial,by trivial⟩
theorem oW (T:Txt K mg):ph P w K mg base 5 "counts" ["turning"] zQ:=by
 have cG:=cG (P:=P) (w:=w) (base:=base) T
 refine jX T.d_counts iW (fun _ _ _ _ _ _ us hl=>L2.vR (fun _=>rfl) us hl) ?_ fun f cdv A outer s H vs Q E hr h=>?_
 ·rintro vs H Q E ⟨a,t,rfl,_⟩;rfl
 obtain ⟨a,t,rfl,ha,hP,q⟩:=h
 have hu:=hr.units0
 have hu64:=hr.units
 refine ⟨_,(az (bW (bC cG (hr.mono (by decide)) (cD kz0w) (aa (au 0 Ib) ao) (by trivial))) (az (aL (i:=1) iW.nd rfl (Or.inl Ie) (bD (aV (K:=K) rfl) (cD kz0v) T.b_len cM (aa (au 0 Ib) ao) (by trivial) (by trivial)) rfl) (az (aL (i:=2) iW.nd rfl (Or.inl Dm) (jy (aa (aN jg (jy (aa aB ao)) (aN aJ (au 1 Ie) aB)) ao)) rfl) (az (gn PassesOwn.never rfl (CP (K:=K) rfl (cD Lp) T.b_reversed (au 0 Ib)) (cj (i:=3) iW.nd rfl (Or.inr kz0r) rfl) (az (aL (i:=4) iW.nd rfl (Or.inr kz0u) (dJ (K:=K) rfl (au 2 Dm) (rQ ju aB)) rfl) (aD (bW (jj (K:=K) rfl PySem.F.plainAttrs_list PySem.F.slot_list_append PySem.F.type_list_append dY (au 2 Dm) (aa (jA (sub:=[none,some 4,some 3]) (b8 (N:=["turning","many","table","line_end","behind"]) (sc:=aq cu) (N':=["end","behind","line_end"]) (by trivial)) rfl rfl rfl (cQ (cD kz0s) T.b_range (aa (aN aJ (au 1 Ie) aB) ao)) (fun C s₀ H₀ ex=>(jz 0 (by trivial) sX)) (fun C s₀ H₀ ex=>gk) (fun C s₀ H₀ ex=>(aN aJ (dJ (K:=K) rfl (cW 1 (by trivial)) (cF 0 (by trivial))) (j_if (bT uL (cW 2 (by trivial)) (cF 0 (by trivial)) (by walk_at "p")) aB aB)))) ao)))))) (aD (aW (wG (K:=K) rfl rfl (cD kz0n) T.b_list (cD Lp) T.b_reversed (au 2 Dm)))))))),?_⟩
 walk_at "s"
 have hsz:20000<=sizeLine:=by decide
 have hle:=hP.le
 refine ⟨a,t,rfl,ha,hP,fun H1 S1=>?_⟩
 walk_at "s"
 have hlen:∀ (n:Nat),n=t.length->n=t.length:=fun _ h=>h
 have step:∀ (R:V->Hp->Prop),R (.int (t.length:Int)) H1->yH K [.ref a] H1 R:=fun R hR=>by
  rcases ha.same S1 with h | h
  ·refine cT (SqL.of h) ?_
   rw [bM];exact hR
  ·refine qN (SqT.of h) ?_
   rw [bM];exact hR
 refine step _ ?_
 walk_at "s"
 refine dI rfl fun p0 H2 _ S2 f2=>?_
 walk_at "s"
 refine qQ f2 (by omega) (by omega) (by simp;omega) fun p1 np1=>?_
 have S3:=(Same.refl H2).upd np1 (o:=.lst (List.replicate ((t.length:Int)+1).toNat [V.int 0]).flatten)
 have f3:=aj (H:=H2) (a:=p1) (o:=.lst (List.replicate ((t.length:Int)+1).toNat [V.int 0]).flatten)
 generalize upd H2 p1 (.lst (List.replicate ((t.length:Int)+1).toNat [V.int 0]).flatten)=H3 at S3 f3 ⊢
 have f3':H3 p1=some (.lst ((qZ t (t.length - 0)).map V.int)):=by
  rw [f3,show ((t.length:Int)+1).toNat=t.length+1 by omega]
  congr 2
  unfold qZ
  rw [List.map_map]
  have:∀ n,(List.replicate n [V.int 0]).flatten=(List.range n).map fun _=>V.int 0:=fun n=>by
   induction n with
   | zero=>rfl
   | succ n ih=>rw [List.replicate_succ',List.flatten_append,ih,List.range_succ,List.map_append];rfl
  rw [this]
  refine List.map_congr_left fun e _=>?_
  show V.int 0=V.int ((mj t (t.length - 0) e:Nat):Int)
  rw [Nat.sub_zero,vL];rfl
 walk_at "s"
 refine dI rfl fun tb H4 ntb S4 f4=>?_
 walk_at "s"
 have U4:=S1.trans (S2.trans (S3.trans S4))
 have ntb0:H tb=none:=by
  have:=Same.back (S1.trans (S2.trans S3)) ntb
  exact this
 have C4:CT H4 [.ref p1] (0+1) fun k=>qZ t (t.length - k):=⟨rfl,fun k hk=>by
  obtain rfl:k=0:=by omega
  exact ⟨p1,rfl,S4 _ _ f3'⟩⟩
 have N4:∀ r,V.ref r∈[V.ref p1]->H r=none:=fun r hr=>by
  simp only [List.mem_cons,List.mem_nil_iff,or_false] at hr
  cases hr
  exact Same.back (S1.trans S2) np1
 rcases ha with ha | ha
 ·refine .inl ⟨a,_,rfl,SqL.of (U4 _ _ ha),?_⟩
  refine CQ (xs:=(nI t).map V.int) (fun i U G=>Same H G/\(∃ rs,G tb=some (.lst rs)/\(CT G rs (i+1) fun k=>qZ t (t.length - k))/\∀ r,V.ref r∈rs->H r=none)/\∃ x3 x4,U=[some (.ref a),some (.int (t.length:Int)),some (.ref tb),x3,x4])
   ⟨U4,⟨_,f4,C4,N4⟩,_,_,rfl⟩ (fun i U G _ h=>SqL.of (h.1 _ _ ha)) ?_ ?_
  ·rintro i x U G hi hx ⟨sG,⟨rs,htb,hC,hN⟩,x3,x4,rfl⟩
   rw [bM] at hi
   rw [bM] at hx
   obtain ⟨le,hle2,rfl⟩:=Fj hx
   obtain ⟨pb,epb,hpb⟩:=hC.2 i (by omega)
   have hrl:rs.length=i+1:=hC.1
   walk_at "s"
   refine bw (SqL.of htb) (HH (n:=i) hrl epb) ?_
   walk_at "s"
   refine ⟨.inl ⟨rfl,_,SqL.of htb⟩,?_⟩
   walk_at "s"
   refine ⟨_,rfl,by omega,by omega,?_⟩
   rw [show ((t.length:Int)+1).toNat=t.length+1 by omega]
   refine iT (n:=t.length+1) (fun e=>.int ((mj t (t.length - (i+1)) e:Nat):Int)) (by omega) ?_ ?_
   ·intro e he
    have ec:=jH (t:=t) (b:=t.length - (i+1)) (x:=le) (by rw [show t.length - (i+1)=t.length - 1 - i by omega];exact hle2) e
    rw [show t.length - (i+1)+1=t.length - i by omega] at ec
    rw [Int.zero_add]
    walk_at "s"
    refine ⟨KeepSt.set rfl,?_⟩
    walk_at "s"
    refine bw (SqL.of hpb) (uB rfl (by omega)) ?_
    walk_at "s"
    refine pq (fun h=>?_) (fun h=>?_)
    ·walk_at "s"
     exact ⟨rfl,gF (by rw [ec,if_pos (by omega)];rfl)⟩
    ·walk_at "s"
     exact ⟨rfl,gF (by rw [ec,if_neg (by omega)];rfl)⟩
   ·intro nw G2 nnw s2 hnw
    walk_at "s"
    refine dN (s2 _ _ htb) (by omega) ?_
    walk_at "s"
    have hnw':G2 nw=some (.lst ((qZ t (t.length - (i+1))).map V.int)):=by
     rw [hnw]
     unfold qZ
     rw [List.map_map];rfl
    have hne:∀ {b:Addr} {xs:List V},G2 b=some (.lst xs)->True:=fun _=>trivial
    have C2:=(hC.same s2).push hnw'
    refine ⟨Same.put (sG.trans s2) ntb0,⟨_,aj,⟨C2.1,fun k hk=>?_⟩,fun r hr=>(List.mem_append.mp hr).elim (hN r) fun hr=>by
     simp only [List.mem_cons,List.mem_nil_iff,or_false] at hr
     cases hr
     exact Same.back sG nnw⟩,_,_,rfl⟩
    obtain ⟨b,e1,hb⟩:=C2.2 k hk
    refine ⟨b,e1,?_⟩
    rw [aA (fun z=>?_)]
    ·exact hb
    ·rw [z,s2 _ _ htb] at hb
     have e0:rs=(qZ t (t.length - k)).map V.int:=by injection hb with hb;injection hb
     obtain ⟨a0,ea0,_⟩:=hC.2 0 (by omega)
     rw [e0,List.getElem?_map] at ea0
     cases hq:(qZ t (t.length - k))[0]? with
     | none=>rw [hq] at ea0;cases ea0
     | some v=>rw [hq] at ea0;cases ea0
  ·rintro U G ⟨sG,⟨rs,htb,hC,hN⟩,x3,x4,rfl⟩
   rw [bM] at hC
   walk_at "s"
   refine ⟨_,rfl,tb,rs,rfl,SqL.of htb,fun qq nqq=>?_⟩
   have s5:=(Same.refl G).upd nqq (o:=.lst rs.reverse)
   refine q qq rs.reverse _ (Same.back sG nqq) (sG.trans s5) aj ?_ fun r hr=>hN r (List.mem_reverse.mp hr)
   have:=hC.rev.same s5
   refine ⟨this.1,fun k hk=>?_⟩
   obtain ⟨b,e1,hb⟩:=this.2 k hk
   refine ⟨b,e1,?_⟩
   rw [hb]
   show some (HO.lst (List.map V.int (qZ t (t.length - (t.length+1 - 1 - k)))))=_
   rw [show t.length - (t.length+1 - 1 - k)=k by omega]
 ·refine .inr ⟨a,_,rfl,SqT.of (U4 _ _ ha),by rw [bM];omega,?_⟩
  refine CV (xs:=(nI t).map V.int) (by rw [bM];omega) (fun i U G=>Same H G/\(∃ rs,G tb=some (.lst rs)/\(CT G rs (i+1) fun k=>qZ t (t.length - k))/\∀ r,V.ref r∈rs->H r=none)/\∃ x3 x4,U=[some (.ref a),some (.int (t.length:Int)),some (.ref tb),x3,x4])
   ⟨U4,⟨_,f4,C4,N4⟩,_,_,rfl⟩ (fun i U G _ h=>SqT.of (h.1 _ _ ha)) ?_ ?_
  ·rintro i x U G hi hx ⟨sG,⟨rs,htb,hC,hN⟩,x3,x4,rfl⟩
   rw [bM] at hi
   rw [bM] at hx
   obtain ⟨le,hle2,rfl⟩:=Fj hx
   obtain ⟨pb,epb,hpb⟩:=hC.2 i (by omega)
   have hrl:rs.length=i+1:=hC.1
   walk_at "s"
   refine bw (SqL.of htb) (HH (n:=i) hrl epb) ?_
   walk_at "s"
   refine ⟨.inl ⟨rfl,_,SqL.of htb⟩,?_⟩
   walk_at "s"
   refine ⟨_,rfl,by omega,by omega,?_⟩
   rw [show ((t.length:Int)+1).toNat=t.length+1 by omega]
   refine iT (n:=t.length+1) (fun e=>.int ((mj t (t.length - (i+1)) e:Nat):Int)) (by omega) ?_ ?_
   ·intro e he
    have ec:=jH (t:=t) (b:=t.length - (i+1)) (x:=le) (by rw [show t.length - (i+1)=t.length - 1 - i by omega];exact hle2) e
    rw [show t.length - (i+1)+1=t.length - i by omega] at ec
    rw [Int.zero_add]
    walk_at "s"
    refine ⟨KeepSt.set rfl,?_⟩
    walk_at "s"
    refine bw (SqL.of hpb) (uB rfl (by omega)) ?_
    walk_at "s"
    refine pq (fun h=>?_) (fun h=>?_)
    ·walk_at "s"
     exact ⟨rfl,gF (by rw [ec,if_pos (by omega)];rfl)⟩
    ·walk_at "s"
     exact ⟨rfl,gF (by rw [ec,if_neg (by omega)];rfl)⟩
   ·intro nw G2 nnw s2 hnw
    walk_at "s"
    refine dN (s2 _ _ htb) (by omega) ?_
    walk_at "s"
    have hnw':G2 nw=some (.lst ((qZ t (t.length - (i+1))).map V.int)):=by
     rw [hnw]
     unfold qZ
     rw [List.map_map];rfl
    have hne:∀ {b:Addr} {xs:List V},G2 b=some (.lst xs)->True:=fun _=>trivial
    have C2:=(hC.same s2).push hnw'
    refine ⟨Same.put (sG.trans s2) ntb0,⟨_,aj,⟨C2.1,fun k hk=>?_⟩,fun r hr=>(List.mem_append.mp hr).elim (hN r) fun hr=>by
     simp only [List.mem_cons,List.mem_nil_iff,or_false] at hr
     cases hr
     exact Same.back sG nnw⟩,_,_,rfl⟩
    obtain ⟨b,e1,hb⟩:=C2.2 k hk
    refine ⟨b,e1,?_⟩
    rw [aA (fun z=>?_)]
    ·exact hb
    ·rw [z,s2 _ _ htb] at hb
     have e0:rs=(qZ t (t.length - k)).map V.int:=by injection hb with hb;injection hb
     obtain ⟨a0,ea0,_⟩:=hC.2 0 (by omega)
     rw [e0,List.getElem?_map] at ea0
     cases hq:(qZ t (t.length - k))[0]? with
     | none=>rw [hq] at ea0;cases ea0
     | some v=>rw [hq] at ea0;cases ea0
  ·rintro U G ⟨sG,⟨rs,htb,hC,hN⟩,x3,x4,rfl⟩
   rw [bM] at hC
   walk_at "s"
   refine ⟨_,rfl,tb,rs,rfl,SqL.of htb,fun qq nqq=>?_⟩
   have s5:=(Same.refl G).upd nqq (o:=.lst rs.reverse)
   refine q qq rs.reverse _ (Same.back sG nqq) (sG.trans s5) aj ?_ fun r hr=>hN r (List.mem_reverse.mp hr)
   have:=hC.rev.same s5
   refine ⟨this.1,fun k hk=>?_⟩
   obtain ⟨b,e1,hb⟩:=this.2 k hk
   refine ⟨b,e1,?_⟩
   rw [hb]
   show some (HO.lst (List.map V.int (qZ t (t.length - (t.length+1 - 1 - k)))))=_
   rw [show t.length - (t.length+1 - 1 - k)=k by omega]
end
local macro_rules | `(tactic| walk_at "s") => `(tactic| (with_reducible repeat (first | refine j4 ?_ | walk_at "2")))
local macro_rules | `(tactic| walk_at "n") => `(tactic| (with_reducible repeat (walk_at "2")))
section
variable {P:Program} {w:World} {K:W.Frag} {mg:Str->Option Value} {base:Heap}
theorem Lq:bL bx "self":=by trivial
theorem kz0y:dH bx "counts":=by trivial
theorem Ig:bL bx "turning":=by trivial
theorem kz10:dH bx "list":=by trivial
theorem kz11:dH bx "need_turning":=by trivial
theorem Ih:bL bN "self":=by trivial
theorem Lr:bL bN "begin":=by trivial
theorem Ls:bL bN "end":=by trivial
theorem Lw:dH bN "need_place":=by trivial
theorem Lx:dH bN "len":=by trivial
def Nq (ae ac:Addr):List (Str×V):=[("held_ends",.ref ae),("held_counts",.ref ac)]
structure TyO (H:Hp) (t:List Nat) (ae ac:Addr) (rs:List V):Prop where
 ends:H ae=some (.lst ((nI t).map V.int))
 cnts:H ac=some (.lst rs)
 rows:CT H rs (t.length+1) (qZ t)
theorem TyO.same {H H':Hp} {t:List Nat} {ae ac:Addr} {rs:List V} (h:TyO H t ae ac rs) (s:Same H H'):TyO H' t ae ac rs:=⟨s _ _ h.ends,s _ _ h.cnts,h.rows.same s⟩
def Ty (mg:Str->Option Value) (H:Hp) (x:Addr) (t:List Nat):Prop:=Prm t/\∃ dx ae ac rs,H x=some (.ins (bO mg "Tally") dx (Nq ae ac))/\TyO H t ae ac rs
theorem Ty.same {H H':Hp} {x:Addr} {t:List Nat} (h:Ty mg H x t) (s:Same H H'):Ty mg H' x t:=by
 obtain ⟨hP,dx,ae,ac,rs,hx,hO⟩:=h
 exact ⟨hP,dx,ae,ac,rs,s _ _ hx,hO.same s⟩
def TyD (mg:Str->Option Value) (D:Addr->Prop) (H:Hp) (x:Addr) (t:List Nat):Prop:=Prm t/\∃ dx ae ac rs,H x=some (.ins (bO mg "Tally") dx (Nq ae ac))/\TyO H t ae ac rs/\¬ D x/\¬ D ae/\¬ D ac/\∀ r,V.ref r∈rs->¬ D r
theorem TyD.ty {H:Hp} {D:Addr->Prop} {x:Addr} {t:List Nat} (h:TyD mg D H x t):Ty mg H x t:=by
 obtain ⟨hP,dx,ae,ac,rs,hx,hO,_⟩:=h
 exact ⟨hP,dx,ae,ac,rs,hx,hO⟩
theorem TyD.same {H H':Hp} {D:Addr->Prop} {x:Addr} {t:List Nat} (h:TyD mg D H x t) (s:Same H H'):TyD mg D H' x t:=by
 obtain ⟨hP,dx,ae,ac,rs,hx,hO,r⟩:=h
 exact ⟨hP,dx,ae,ac,rs,s _ _ hx,hO.same s,r⟩
theorem TyD.sub {H:Hp} {D D':Addr->Prop} {x:Addr} {t:List Nat} (h:TyD mg D H x t) (s:∀ g,D' g->D g):TyD mg D' H x t:=by
 obtain ⟨hP,dx,ae,ac,rs,hx,hO,n1,n2,n3,n4⟩:=h
 exact ⟨hP,dx,ae,ac,rs,hx,hO,fun z=>n1 (s _ z),fun z=>n2 (s _ z),fun z=>n3 (s _ z),fun r hr z=>n4 r hr (s _ z)⟩
theorem Ly {D:Addr->Prop} {x g:Addr} (h:¬ D x) (hg:D g):x≠g:=fun z=>h (by rw [z];exact hg)
theorem TyD.put {H:Hp} {D:Addr->Prop} {g x:Addr} {t:List Nat} {o:HO} (h:TyD mg D H x t) (hg:D g):TyD mg D (upd H g o) x t:=by
 obtain ⟨hP,dx,ae,ac,rs,hx,hO,n1,n2,n3,n4⟩:=h
 refine ⟨hP,dx,ae,ac,rs,by rw [aA (Ly n1 hg)];exact hx,⟨by rw [aA (Ly n2 hg)];exact hO.ends,by rw [aA (Ly n3 hg)];exact hO.cnts,hO.rows.1,fun k hk=>?_⟩,n1,n2,n3,n4⟩
 obtain ⟨b,e,hb⟩:=hO.rows.2 k hk
 exact ⟨b,e,by rw [aA (Ly (n4 b (List.mem_of_getElem? e)) hg)];exact hb⟩
theorem Chg.put {x:Addr} {H H1:Hp} {o:HO} (c:Chg x H H1):Chg x H (upd H1 x o):=fun b u n e=>by rw [aA n];exact c b u n e
theorem iY {f:Str} {y:V}:∀ {fs:List (Str×V)},(fs.map (·.1)).contains f=false->jf f y fs=fs ++ [(f,y)]
 | [],_=>rfl
 | (g,z) :: fs,h=>by
  simp only [List.map_cons,List.contains_cons,Bool.or_eq_false_iff] at h
  have hne:¬ g=f:=fun e=>by rw [e] at h;simp at h
  have ih:=iY (y:=y) (fs:=fs) h.2
  unfold jf
  simp [hne,ih]
def Dn (mg:Str->Option Value):Sp:=fun vs H Q _=>∃ (x dx a:Addr) (t:List Nat),vs=[.ref x,.ref a]/\H x=some (.ins (bO mg "Tally") dx [])/\Tn H a t/\Prm t/\∀ H',Chg x H H'->TyD mg (fun g=>g≠x/\∃ o,H g=some o) H' x t->Q .non H'
theorem lW:aG ["self","turning"] ["self","turning"] (aq bx):=⟨rfl,rfl,rfl,by trivial,rfl,by trivial,by trivial⟩
theorem fZ (T:Txt K mg):jr P w K mg base 6 "Tally" "__init__" ["self","turning"] (Dn mg):=by
 have cG:=cG (P:=P) (w:=w) (base:=base) T
 have oW:=oW (P:=P) (w:=w) (base:=base) T
 refine pC T.m_Tally___init__ lW (fun _ _ _ _ _ _ us hl=>L2.m5 (fun _ _=>rfl) us hl) ?_ fun f cdv A outer s H vs Q E hr h=>?_
 ·rintro vs H Q E ⟨x,dx,a,t,rfl,_⟩;rfl
 obtain ⟨x,dx,a,t,rfl,hx,ha,hP,q⟩:=h
 have hu:=hr.units0
 have hu64:=hr.units
 refine ⟨_,(az (bW (bC cG (hr.mono (by decide)) (cD kz11) (aa (au 1 Ig) ao) (by trivial))) (az (oO (K:=K) rfl (au 0 Lq) (oG (oF (K:=K) rfl rfl) (cD kz10) T.b_list jO (aa (au 1 Ig) ao) (by trivial) (by trivial))) (aD (oO (K:=K) rfl (au 0 Lq) (bC oW (hr.mono (by decide)) (cD kz0y) (aa (au 1 Ig) ao) (by trivial)))))),?_⟩
 walk_at "s"
 have hsz:20000<=sizeLine:=by decide
 have cl:=T.o_Tally.cl
 have na:=T.n_Tally
 refine ⟨a,t,rfl,ha,hP,fun H1 S1=>?_⟩
 walk_at "s"
 refine .inl ⟨a,(nI t).map V.int,rfl,(ha.same S1).imp SqL.of SqT.of,fun ae nae=>?_⟩
 have S2:=(Same.refl H1).upd nae (o:=.lst ((nI t).map V.int))
 have f2:=aj (H:=H1) (a:=ae) (o:=.lst ((nI t).map V.int))
 generalize upd H1 ae (.lst ((nI t).map V.int))=H2 at S2 f2 ⊢
 have U2:=S1.trans S2
 have hx2:=U2 _ _ hx
 have nx:∀ {G:Hp} {b:Addr} {fs:List (Str×V)} {us:List V},G x=some (.ins (bO mg "Tally") dx fs)->(G b=some (.lst us)\/G b=some (.tup us))->b≠x:=fun {G b fs us} h1 h2 z=>by
  rw [z,h1] at h2
  rcases h2 with h2 | h2 <;> cases h2
 walk_at "s"
 refine ⟨x,_,dx,_,rfl,hx2,cl,na _ (by simp),by simp,?_⟩
 walk_at "s"
 rw [iY (by show ([]:List Str).contains "held_ends"=false;trivial)]
 have hx3:=aj (H:=H2) (a:=x) (o:=.ins (bO mg "Tally") dx (([]:List (Str×V)) ++ ([("held_ends",.ref ae)]:List (Str×V))))
 have C3:Chg x H2 (upd H2 x (.ins (bO mg "Tally") dx (([]:List (Str×V)) ++ ([("held_ends",.ref ae)]:List (Str×V))))):=Chg.put (Chg.refl x H2)
 generalize upd H2 x (.ins (bO mg "Tally") dx (([]:List (Str×V)) ++ ([("held_ends",.ref ae)]:List (Str×V))))=H3 at hx3 C3 ⊢
 replace hx3:H3 x=some (.ins (bO mg "Tally") dx ([("held_ends",.ref ae)]:List (Str×V))):=hx3
 have ha2:=ha.same U2
 have ha3:Tn H3 a t:=by
  have nxa:=nx hx2 ha2
  rcases ha2 with h | h
  ·exact .inl (C3 _ _ nxa h)
  ·exact .inr (C3 _ _ nxa h)
 have f3:=C3 _ _ (nx hx2 (.inl f2)) f2
 walk_at "s"
 refine ⟨a,t,rfl,ha3,hP,fun ac rs H4 nac S4 hac hrs hfr=>?_⟩
 walk_at "s"
 have hx4:=S4 _ _ hx3
 refine ⟨x,_,dx,_,rfl,hx4,cl,na _ (by simp),by simp,?_⟩
 walk_at "s"
 rw [iY (by show (["held_ends"]:List Str).contains "held_counts"=false;trivial)]
 have hx5:=aj (H:=H4) (a:=x) (o:=.ins (bO mg "Tally") dx (([("held_ends",.ref ae)]:List (Str×V)) ++ ([("held_counts",.ref ac)]:List (Str×V))))
 have C5:Chg x H4 (upd H4 x (.ins (bO mg "Tally") dx (([("held_ends",.ref ae)]:List (Str×V)) ++ ([("held_counts",.ref ac)]:List (Str×V))))):=Chg.put (Chg.refl x H4)
 generalize upd H4 x (.ins (bO mg "Tally") dx (([("held_ends",.ref ae)]:List (Str×V)) ++ ([("held_counts",.ref ac)]:List (Str×V))))=H5 at hx5 C5 ⊢
 have hO5:TyO H5 t ae ac rs:=by
  refine ⟨?_,?_,hrs.1,fun k hk=>?_⟩
  ·exact C5 _ _ (nx hx4 (.inl (S4 _ _ f3))) (S4 _ _ f3)
  ·exact C5 _ _ (nx hx4 (.inl hac)) hac
  ·obtain ⟨b,e,hb⟩:=hrs.2 k hk
   exact ⟨b,e,C5 _ _ (nx hx4 (.inl hb)) hb⟩
 refine q H5 ?_ ⟨hP,dx,ae,ac,rs,hx5,hO5,fun z=>z.1 rfl,?_,?_,fun r hr z=>?_⟩
 ·intro b o nb e
  exact C5 b o nb (S4 _ _ (C3 b o nb (U2 _ _ e)))
 ·rintro ⟨ng,o,hg⟩
  rw [S1 _ _ hg] at nae;cases nae
 ·rintro ⟨ng,o,hg⟩
  rw [C3 _ o ng (U2 _ _ hg)] at nac;cases nac
 ·obtain ⟨ng,o,hg⟩:=z
  have:=hfr r hr
  rw [C3 _ o ng (U2 _ _ hg)] at this;cases this
theorem tyM {ae ac:Addr} {m:Str} (h:(["held_ends","held_counts"]:List Str).contains m=false):(Nq ae ac).lookup m=none:=by
 unfold Nq
 simp only [List.contains_cons,Bool.or_eq_false_iff] at h
 obtain ⟨h1,h2,_⟩:=h
 simp only [List.lookup_cons,h1,h2,List.lookup_nil]
def zR (mg:Str->Option Value):Sp:=fun vs H Q _=>∃ (x:Addr) (t:List Nat) (b e:Nat),vs=[.ref x,.int b,.int e]/\Ty mg H x t/\b<=t.length/\e<=t.length/\Q (.int ((mj t b e:Nat):Int)) H
theorem oX:aG ["self","begin","end"] ["self","begin","end"] (aq bN):=⟨rfl,rfl,rfl,by trivial,rfl,by trivial,by trivial⟩
theorem iG (T:Txt K mg):jr P w K mg base 4 "Tally" "below" ["self","begin","end"] (zR mg):=by
 have aM:=aM (P:=P) (w:=w) (base:=base) T
 refine pC T.m_Tally_below oX (fun _ _ _ _ _ _ us hl=>L2.qt (fun _ _ _=>rfl) us hl) ?_ fun f cdv A outer s H vs Q E hr h=>?_
 ·rintro vs H Q E ⟨x,t,b,e,rfl,_⟩;rfl
 obtain ⟨x,t,b,e,rfl,⟨hP,dx,ae,ac,rs,hx,hO⟩,hb,he,q⟩:=h
 have hu:=hr.units0
 have hu64:=hr.units
 refine ⟨_,(az (bW (bC aM (hr.mono (by decide)) (cD Lw) (aa (au 1 Lr) (aa aB (aa (bD (aV (K:=K) rfl) (cD Lx) T.b_len cM (aa (jE (K:=K) rfl (au 0 Ih)) ao) (by trivial) (by trivial)) ao))) (by trivial))) (az (bW (bC aM (hr.mono (by decide)) (cD Lw) (aa (au 2 Ls) (aa aB (aa (bD (aV (K:=K) rfl) (cD Lx) T.b_len cM (aa (jE (K:=K) rfl (au 0 Ih)) ao) (by trivial) (by trivial)) ao))) (by trivial))) (aD (aW (dJ (K:=K) rfl (dJ (K:=K) rfl (jE (K:=K) rfl (au 0 Ih)) (au 1 Lr)) (au 2 Ls)))))),?_⟩
 walk_at "s"
 have cl:=T.o_Tally.cl
 have na:=T.n_Tally
 refine ⟨x,_,dx,_,_,rfl,hx,cl,na _ (by simp),rfl,?_⟩
 walk_at "s"
 refine cT (SqL.of hO.ends) ?_
 walk_at "s"
 rw [bM]
 walk_at "s"
 refine iV (by omega) (by omega) ?_
 walk_at "s"
 refine ⟨x,_,dx,_,_,rfl,hx,cl,na _ (by simp),rfl,?_⟩
 walk_at "s"
 refine cT (SqL.of hO.ends) ?_
 walk_at "s"
 rw [bM]
 walk_at "s"
 refine iV (by omega) (by omega) ?_
 walk_at "s"
 refine ⟨x,_,dx,_,_,rfl,hx,cl,na _ (by simp),rfl,?_⟩
 walk_at "s"
 obtain ⟨pb,epb,hpb⟩:=hO.rows.2 b (by omega)
 refine bw (SqL.of hO.cnts) (cV epb) ?_
 walk_at "s"
 refine bw (SqL.of hpb) (uB rfl he) ?_
 walk_at "s"
 exact q
theorem Do {xs:List V} {k:Nat}:qC xs none (some (k:Int))=xs.take k:=by
 unfold qC
 rw [HT.sIx_none,HT.sIx_nat,List.drop_zero,Nat.sub_zero]
 by_cases h:k<=xs.length
 ·rw [Nat.min_eq_left h]
 ·rw [Nat.min_eq_right (by omega),List.take_length,List.take_of_length_le (by omega)]
theorem made {H1 H2:Hp} {x dx:Addr} {o o':HO} (nx:H1 x=none) (ndx:H1 dx=none) (c:Chg x (upd (upd H1 dx o) x o') H2):Same H1 H2:=fun b u e=>by
 have n1:b≠x:=fun z=>by rw [z,nx] at e;cases e
 have n2:b≠dx:=fun z=>by rw [z,ndx] at e;cases e
 exact c b u n1 (by rw [aA n1,aA n2];exact e)
theorem zU {H1:Hp} {x dx g:Addr} {o o' u:HO} (nx:H1 x=none) (ndx:H1 dx=none) (e:H1 g=some u):upd (upd H1 dx o) x o' g=some u/\g≠x:=by
 have n1:g≠x:=fun z=>by rw [z,nx] at e;cases e
 have n2:g≠dx:=fun z=>by rw [z,ndx] at e;cases e
 exact ⟨by rw [aA n1,aA n2];exact e,n1⟩
theorem gNe {H1:Hp} {x g:Addr} {u:HO} (nx:H1 x=none) (e:H1 g=some u):g≠x:=fun z=>by rw [z,nx] at e;cases e
theorem Ii:bL bh "self":=by trivial
theorem Lz:dH bh "len":=by trivial
theorem Ij:bL bh "lines":=by trivial
theorem Ik:bL bh "many":=by trivial
theorem kz1b:dH bh "need_place":=by trivial
theorem kz1c:dH bh "Tally":=by trivial
theorem LC:bL bj "end":=by trivial
theorem LK:bL bj "begin":=by trivial
theorem LQ:bL bj "self":=by trivial
theorem Il:bL bj "many":=by trivial
theorem kz1h:bL bj "last":=by trivial
theorem kz1i:bL bj "first":=by trivial
def Nr (ty:Addr) (m f:Nat):List (Str×V):=[("held_tally",.ref ty),("held_many",.int (m:Int)),("held_far",.int (f:Int))]
theorem vM {ty:Addr} {m' f:Nat} {m:Str} (h:(["held_tally","held_many","held_far"]:List Str).contains m=false):(Nr ty m' f).lookup m=none:=by
 unfold Nr
 simp only [List.contains_cons,Bool.or_eq_false_iff] at h
 obtain ⟨h1,h2,h3,_⟩:=h
 simp only [List.lookup_cons,h1,h2,h3,List.lookup_nil]
def Ak (mg:Str->Option Value) (H:Hp) (x:Addr) (t:List Nat) (m f:Nat):Prop:=m+f=t.length/\∃ dx ty,H x=some (.ins (bO mg "Asks") dx (Nr ty m f))/\Ty mg H ty t
theorem Ak.same {H H':Hp} {x:Addr} {t:List Nat} {m f:Nat} (h:Ak mg H x t m f) (s:Same H H'):Ak mg H' x t m f:=by
 obtain ⟨hl,dx,ty,hx,hT⟩:=h
 exact ⟨hl,dx,ty,s _ _ hx,hT.same s⟩
def AkD (mg:Str->Option Value) (D:Addr->Prop) (H:Hp) (x:Addr) (t:List Nat) (m f:Nat):Prop:=m+f=t.length/\∃ dx ty,H x=some (.ins (bO mg "Asks") dx (Nr ty m f))/\TyD mg D H ty t/\¬ D x
theorem AkD.ak {H:Hp} {D:Addr->Prop} {x:Addr} {t:List Nat} {m f:Nat} (h:AkD mg D H x t m f):Ak mg H x t m f:=by
 obtain ⟨hl,dx,ty,hx,hT,_⟩:=h
 exact ⟨hl,dx,ty,hx,hT.ty⟩
theorem AkD.same {H H':Hp} {D:Addr->Prop} {x:Addr} {t:List Nat} {m f:Nat} (h:AkD mg D H x t m f) (s:Same H H'):AkD mg D H' x t m f:=by
 obtain ⟨hl,dx,ty,hx,hT,n⟩:=h
 exact ⟨hl,dx,ty,s _ _ hx,hT.same s,n⟩
theorem AkD.sub {H:Hp} {D D':Addr->Prop} {x:Addr} {t:List Nat} {m f:Nat} (h:AkD mg D H x t m f) (s:∀ g,D' g->D g):AkD mg D' H x t m f:=by
 obtain ⟨hl,dx,ty,hx,hT,n⟩:=h
 exact ⟨hl,dx,ty,hx,hT.sub s,fun z=>n (s _ z)⟩
theorem AkD.put {H:Hp} {D:Addr->Prop} {g x:Addr} {t:List Nat} {m f:Nat} {o:HO} (h:AkD mg D H x t m f) (hg:D g):AkD mg D (upd H g o) x t m f:=by
 obtain ⟨hl,dx,ty,hx,hT,n⟩:=h
 exact ⟨hl,dx,ty,by rw [aA (Ly n hg)];exact hx,hT.put hg,n⟩
def Dp (mg:Str->Option Value):Sp:=fun vs H Q _=>∃ (x dx a:Addr) (t:List Nat) (m f:Nat),vs=[.ref x,.ref a,.int m]/\H x=some (.ins (bO mg "Asks") dx [])/\Tn H a t/\Prm t/\m+f=t.length/\∀ H',Chg x H H'->AkD mg (fun g=>g≠x/\∃ o,H g=some o) H' x t m f->Q .non H'
theorem mJ:aG ["self","lines","many"] ["self","lines","many"] (aq bh):=⟨rfl,rfl,rfl,by trivial,rfl,by trivial,by trivial⟩
theorem gw (T:Txt K mg):jr P w K mg base 8 "Asks" "__init__" ["self","lines","many"] (Dp mg):=by
 have fZ:=fZ (P:=P) (w:=w) (base:=base) T
 have aM:=aM (P:=P) (w:=w) (base:=base) T
 refine pC T.m_Asks___init__ mJ (fun _ _ _ _ _ _ us hl=>L2.qt (fun _ _ _=>rfl) us hl) ?_ fun f cdv A outer s H vs Q E hr h=>?_
 ·rintro vs H Q E ⟨x,dx,a,t,m,f',rfl,_⟩;rfl
 obtain ⟨x,dx,a,t,m,f',rfl,hx,ha,hP,hmf,q⟩:=h
 have hu:=hr.units0
 have hu64:=hr.units
 refine ⟨_,(az (oO (K:=K) rfl (au 0 Ii) (vD T.o_Tally fZ (hr.mono (by decide)) (cD kz1c) jB (aa (au 1 Ij) ao) (by trivial))) (az (bW (bC aM (hr.mono (by decide)) (cD kz1b) (aa (au 2 Ik) (aa aB (aa (bD (aV (K:=K) rfl) (cD Lz) T.b_len cM (aa (au 1 Ij) ao) (by trivial) (by trivial)) ao))) (by trivial))) (az (oO (K:=K) rfl (au 0 Ii) (au 2 Ik)) (aD (oO (K:=K) rfl (au 0 Ii) (aN cL (bD (aV (K:=K) rfl) (cD Lz) T.b_len cM (aa (au 1 Ij) ao) (by trivial) (by trivial)) (au 2 Ik))))))),?_⟩
 walk_at "s"
 have hsz:20000<=sizeLine:=by decide
 have cl:=T.o_Asks.cl
 have na:=T.n_Asks
 intro ty dty nty ndty ne
 have hat:Tn (upd (upd H dty (.own ty)) ty (.ins (bO mg "Tally") dty [])) a t:=ha.imp (fun h=>(zU nty ndty h).1) (fun h=>(zU nty ndty h).1)
 refine ⟨ty,dty,a,t,rfl,aj,hat,hP,fun H1 c1 hT1=>⟨rfl,?_⟩⟩
 walk_at "s"
 have S1:=made nty ndty c1
 replace hT1:=hT1.sub (D':=fun g=>∃ o,H g=some o) (fun g hg=>by
  obtain ⟨o,hg⟩:=hg
  exact ⟨gNe nty hg,o,(zU nty ndty hg).1⟩)
 clear c1
 have hx1:=S1 _ _ hx
 have ax:a≠x:=fun z=>by
  rcases ha with h | h <;> rw [z,hx] at h <;> cases h
 refine ⟨x,_,dx,_,rfl,hx1,cl,na _ (by simp),by simp,?_⟩
 walk_at "s"
 rw [iY (by show ([]:List Str).contains "held_tally"=false;trivial)]
 have hx2:=aj (H:=H1) (a:=x) (o:=.ins (bO mg "Asks") dx (([]:List (Str×V)) ++ ([("held_tally",.ref ty)]:List (Str×V))))
 have C2:Chg x H (upd H1 x (.ins (bO mg "Asks") dx (([]:List (Str×V)) ++ ([("held_tally",.ref ty)]:List (Str×V))))):=Chg.put (fun b o n e=>S1 _ _ e)
 have hT2:=hT1.put (g:=x) (o:=.ins (bO mg "Asks") dx (([]:List (Str×V)) ++ ([("held_tally",.ref ty)]:List (Str×V)))) ⟨_,hx⟩
 generalize upd H1 x (.ins (bO mg "Asks") dx (([]:List (Str×V)) ++ ([("held_tally",.ref ty)]:List (Str×V))))=H2 at hx2 C2 hT2 ⊢
 replace hx2:H2 x=some (.ins (bO mg "Asks") dx ([("held_tally",.ref ty)]:List (Str×V))):=hx2
 have ha2:Tn H2 a t:=ha.imp (C2 _ _ ax) (C2 _ _ ax)
 have len:∀ (G:Hp) (R:V->Hp->Prop),Tn G a t->R (.int (t.length:Int)) G->yH K [.ref a] G R:=fun G R hG hR=>by
  rcases hG with h | h
  ·refine cT (SqL.of h) ?_
   rw [bM];exact hR
  ·refine qN (SqT.of h) ?_
   rw [bM];exact hR
 walk_at "s"
 refine len _ _ ha2 ?_
 walk_at "s"
 refine iV (by omega) (by omega) ?_
 walk_at "s"
 refine ⟨x,_,dx,_,rfl,hx2,cl,na _ (by simp),by simp,?_⟩
 walk_at "s"
 rw [iY (by show (["held_tally"]:List Str).contains "held_many"=false;trivial)]
 have hx3:=aj (H:=H2) (a:=x) (o:=.ins (bO mg "Asks") dx (([("held_tally",.ref ty)]:List (Str×V)) ++ ([("held_many",.int (m:Int))]:List (Str×V))))
 have C3:Chg x H (upd H2 x (.ins (bO mg "Asks") dx (([("held_tally",.ref ty)]:List (Str×V)) ++ ([("held_many",.int (m:Int))]:List (Str×V))))):=Chg.put C2
 have hT3:=hT2.put (g:=x) (o:=.ins (bO mg "Asks") dx (([("held_tally",.ref ty)]:List (Str×V)) ++ ([("held_many",.int (m:Int))]:List (Str×V)))) ⟨_,hx⟩
 generalize upd H2 x (.ins (bO mg "Asks") dx (([("held_tally",.ref ty)]:List (Str×V)) ++ ([("held_many",.int (m:Int))]:List (Str×V))))=H3 at hx3 C3 hT3 ⊢
 replace hx3:H3 x=some (.ins (bO mg "Asks") dx ([("held_tally",.ref ty),("held_many",.int (m:Int))]:List (Str×V))):=hx3
 have ha3:Tn H3 a t:=ha.imp (C3 _ _ ax) (C3 _ _ ax)
 walk_at "s"
 refine len _ _ ha3 ?_
 walk_at "s"
 refine ⟨x,_,dx,_,rfl,hx3,cl,na _ (by simp),by simp,?_⟩
 walk_at "s"
 rw [iY (by show (["held_tally","held_many"]:List Str).contains "held_far"=false;trivial),show (t.length:Int) - (m:Int)=(f':Int) by omega]
 exact q _ (Chg.put C3) ⟨hmf,dx,ty,aj,(hT3.put ⟨_,hx⟩).sub (fun g hg=>hg.2),fun z=>z.1 rfl⟩
def rk (t:List Nat) (m a b c d:Nat):Int:=(d:Int) - (c:Int) - ((mj t (m - a+c) (m - b+d):Nat):Int)
def Im (mg:Str->Option Value):Sp:=fun vs H Q _=>∃ (x:Addr) (t:List Nat) (m f a b c d:Nat),vs=[.ref x,.int a,.int b,.int c,.int d]/\Ak mg H x t m f/\a<=m/\b<=m/\c<=f/\d<=f/\Q (.int (rk t m a b c d)) H
theorem iZ:aG ["self","first","last","begin","end","many"] ["self","first","last","begin","end"] (aq bj):=⟨rfl,rfl,rfl,by trivial,rfl,by trivial,by trivial⟩
theorem gA (T:Txt K mg):jr P w K mg base 5 "Asks" "reckoned" ["self","first","last","begin","end"] (Im mg):=by
 have iG:=iG (P:=P) (w:=w) (base:=base) T
 refine pC T.m_Asks_reckoned iZ (fun _ _ _ _ _ _ us hl=>L2.usN5 (fun _ _ _ _ _=>rfl) us hl) ?_ fun f cdv A outer s H vs Q E hr h=>?_
 ·rintro vs H Q E ⟨x,t,m,f',a,b,c,d,rfl,_⟩;rfl
 obtain ⟨x,t,m,f',a,b,c,d,rfl,⟨hl,dx,ty,hx,hT⟩,h1,h2,h3,h4,q⟩:=h
 have hu:=hr.units0
 have hu64:=hr.units
 refine ⟨_,(az (aL (i:=5) iZ.nd rfl (Or.inl Il) (jE (K:=K) rfl (au 0 LQ)) rfl) (aD (aW (aN cL (aN cL (au 4 LC) (au 3 LK)) (c7 (jE (K:=K) rfl (au 0 LQ)) T.o_Tally iG (hr.mono (by decide)) jB (aa (aN aJ (aN cL (au 5 Il) (au 1 kz1i)) (au 3 LK)) (aa (aN aJ (aN cL (au 5 Il) (au 2 kz1h)) (au 4 LC)) ao))))))),?_⟩
 walk_at "s"
 have cl:=T.o_Asks.cl
 have na:=T.n_Asks
 refine ⟨x,_,dx,_,_,rfl,hx,cl,na _ (by simp),rfl,?_⟩
 walk_at "s"
 refine ⟨x,_,dx,_,_,rfl,hx,cl,na _ (by simp),rfl,?_⟩
 walk_at "s"
 have hT':=hT
 obtain ⟨_,dt,ae,ac,rs,ht,_⟩:=hT'
 refine ⟨ty,dt,_,rfl,ht,tyM (by trivial),?_⟩
 walk_at "s"
 rw [show (m:Int) - (a:Int)+(c:Int)=((m - a+c:Nat):Int) by omega,show (m:Int) - (b:Int)+(d:Int)=((m - b+d:Nat):Int) by omega]
 refine ⟨ty,t,m - a+c,m - b+d,rfl,hT,by omega,by omega,?_⟩
 walk_at "s"
 exact q
end
local macro_rules | `(tactic| walk_at "s") => `(tactic| (with_reducible repeat (first | refine j4 ?_ | walk_at "3")))
local macro_rules | `(tactic| walk_at "n") => `(tactic| (with_reducible repeat (walk_at "3")))
section
variable {P:Program} {w:World} {K:W.Frag} {mg:Str->Option Value} {base:Heap}
theorem jY:(["end","self","begin"]:List Str).Nodup:=by trivial
theorem m9:(["width","begin","row"]:List Str).Nodup:=by trivial
theorem mK:(["begin","column"]:List Str).Nodup:=by trivial
theorem mL:(["begin","self","end"]:List Str).Nodup:=by trivial
theorem LR:bL aR "self":=by trivial
theorem kz1k:bL aR "end":=by trivial
theorem kz1l:bL aR "begin":=by trivial
theorem kz1m:dH bG "range":=by trivial
theorem kz1n:sW bG "self":=by trivial
theorem kz1o:sW bG "begin":=by trivial
theorem kz1p:dH bJ "range":=by trivial
theorem kz1q:dH bJ "len":=by trivial
theorem Ma:sW bJ "row":=by trivial
theorem Mf:bL bJ "self":=by trivial
theorem Mg:sW bJ "begin":=by trivial
theorem kz1u:dH bJ "need_place":=by trivial
theorem Mh:dH bB "range":=by trivial
theorem Io:sW bB "end":=by trivial
theorem kz1x:sW bB "column":=by trivial
theorem kz1y:dH bB "need_place":=by trivial
theorem kz1z:sW bB "self":=by trivial
def Ip (mg:Str->Option Value):Sp:=fun vs H Q _=>∃ (x:Addr) (t:List Nat) (m f c d:Nat),vs=[.ref x,.int c,.int d]/\Ak mg H x t m f/\c<=f/\d<=f/\Q (.int (rk t m 0 m c d)) H
theorem iH:aG ["self","begin","end"] ["self","begin","end"] (aq aR):=⟨rfl,rfl,rfl,by trivial,rfl,by trivial,by trivial⟩
theorem aC (T:Txt K mg):jr P w K mg base 6 "Asks" "reckoned_stretch" ["self","begin","end"] (Ip mg):=by
 have gA:=gA (P:=P) (w:=w) (base:=base) T
 refine pC T.m_Asks_reckoned_stretch iH (fun _ _ _ _ _ _ us hl=>L2.qt (fun _ _ _=>rfl) us hl) ?_ fun f cdv A outer s H vs Q E hr h=>?_
 ·rintro vs H Q E ⟨x,t,m,f',c,d,rfl,_⟩;rfl
 obtain ⟨x,t,m,f',c,d,rfl,hA,h3,h4,q⟩:=h
 have hu:=hr.units0
 have hu64:=hr.units
 refine ⟨_,(aD (aW (c7 (au 0 LR) T.o_Asks gA (hr.mono (by decide)) jB (aa aB (aa (jE (K:=K) rfl (au 0 LR)) (aa (au 1 kz1l) (aa (au 2 kz1k) ao))))))),?_⟩
 walk_at "s"
 have cl:=T.o_Asks.cl
 have na:=T.n_Asks
 obtain ⟨hl,dx,ty,hx,hT⟩:=id hA
 refine ⟨x,dx,_,rfl,hx,vM (by trivial),?_⟩
 walk_at "s"
 refine ⟨x,_,dx,_,_,rfl,hx,cl,na _ (by simp),rfl,?_⟩
 walk_at "s"
 refine ⟨x,t,m,f',0,m,c,d,rfl,hA,by omega,by omega,h3,h4,?_⟩
 walk_at "s"
 exact q
def wW (t:List Nat) (m f b:Nat):List Int:=(List.range (f+1 - b)).map fun i=>rk t m 0 m b (b+i)
def Ir (mg:Str->Option Value):Sp:=fun vs H Q _=>∃ (x:Addr) (t:List Nat) (m f b:Nat),vs=[.ref x,.int b]/\Ak mg H x t m f/\f<=96/\b<=f/\∀ q H',H q=none->Same H H'->H' q=some (.lst ((wW t m f b).map V.int))->Q (.ref q) H'
theorem lX:aG ["self","begin"] ["self","begin"] (aq bG):=⟨rfl,rfl,rfl,by trivial,rfl,by trivial,by trivial⟩
theorem f9 (T:Txt K mg):jr P w K mg base 7 "Asks" "table_row" ["self","begin"] (Ir mg):=by
 have aC:=aC (P:=P) (w:=w) (base:=base) T
 refine pC T.m_Asks_table_row lX (fun _ _ _ _ _ _ us hl=>L2.m5 (fun _ _=>rfl) us hl) ?_ fun f cdv A outer s H vs Q E hr h=>?_
 ·rintro vs H Q E ⟨x,t,m,f',b,rfl,_⟩;rfl
 obtain ⟨x,t,m,f',b,rfl,hA,hf,hb,q⟩:=h
 have hu:=hr.units0
 have hu64:=hr.units
 refine ⟨_,(aD (aW (jA (sub:=[none,some 0,some 1]) (b8 (N:=["self","begin"]) (sc:=aq bG) (N':=["end","self","begin"]) (by trivial)) rfl rfl rfl (jP (cD kz1m) T.b_range (aa (gD 1 kz1o) (aa (aN aJ (jE (K:=K) rfl (gD 0 kz1n)) aB) ao))) (fun C s₀ H₀ ex=>(jz 0 (by trivial) jY)) (fun C s₀ H₀ ex=>gk) (fun C s₀ H₀ ex=>(sU (mg:=mg) rfl (cW 1 (by trivial)) T.o_Asks aC (hr.mono (by decide)) (jq fun _ _=>rfl) (aa (cW 2 (by trivial)) (aa (cF 0 (by trivial)) ao))))))),?_⟩
 walk_at "s"
 have hsz:20000<=sizeLine:=by decide
 have cl:=T.o_Asks.cl
 have na:=T.n_Asks
 obtain ⟨hl,dx,ty,hx,hT⟩:=id hA
 refine ⟨x,_,dx,_,_,rfl,hx,cl,na _ (by simp),rfl,?_⟩
 walk_at "s"
 refine ⟨⟨by omega,by omega,by omega,by omega⟩,?_⟩
 rw [show ((f':Int)+1 - (b:Int)).toNat=f'+1 - b by omega]
 refine iT (n:=f'+1 - b) (fun i=>.int (rk t m 0 m b (b+i))) (by omega) ?_ ?_
 ·intro i hi
  walk_at "s"
  refine ⟨KeepSt.set rfl,?_⟩
  walk_at "s"
  refine ⟨x,dx,_,rfl,hx,vM (by trivial),?_⟩
  walk_at "s"
  refine ⟨x,t,m,f',b,b+i,rfl,hA,by omega,by omega,?_⟩
  walk_at "s"
  exact ⟨rfl,gF rfl⟩
 ·intro D H' nD s hD
  try walk_at "s"
  refine q D H' nD s ?_
  rw [hD]
  unfold wW
  rw [List.map_map];rfl
def gnL (t:List Nat) (m f b:Nat):List Int:=((List.range (f - b)).filter fun i=>decide (rk t m 0 m b (b+i) < rk t m 0 m b (b+i+1))).map fun i=>((b+i:Nat):Int)
def Dq (mg:Str->Option Value):Sp:=fun vs H Q _=>∃ (x:Addr) (t:List Nat) (m f b:Nat),vs=[.ref x,.int b]/\Ak mg H x t m f/\f<=96/\b<=f/\∀ q H',H q=none->Same H H'->H' q=some (.lst ((gnL t m f b).map V.int))->Q (.ref q) H'
theorem Av {xs:List V} {j:Int} {n:Nat} {v:V} (hj:j=(n:Int)) (h:xs[n]?=some v):tL xs j=some v:=by subst hj;exact cV h
theorem vN {t:List Nat} {m f b i:Nat} (h:b+i<=f):((wW t m f b).map V.int)[i]?=some (.int (rk t m 0 m b (b+i))):=by
 unfold wW
 rw [List.getElem?_map,List.getElem?_map,List.getElem?_range (by omega)];rfl
theorem zV {t:List Nat} {m f b:Nat}:((wW t m f b).map V.int).length=f+1 - b:=by unfold wW;simp
theorem jU {p:Nat->Bool} (n:Nat):(List.range (n+1)).filter p=(List.range n).filter p ++ (if p n=true then [n] else []):=by
 rw [List.range_succ,List.filter_append,List.filter_cons,List.filter_nil]
theorem j8:aG ["self","begin","row"] ["self","begin"] (aq bJ):=⟨rfl,rfl,rfl,by trivial,rfl,by trivial,by trivial⟩
theorem jm (T:Txt K mg):jr P w K mg base 8 "Asks" "gains" ["self","begin"] (Dq mg):=by
 have aM:=aM (P:=P) (w:=w) (base:=base) T
 have f9:=f9 (P:=P) (w:=w) (base:=base) T
 refine pC T.m_Asks_gains j8 (fun _ _ _ _ _ _ us hl=>L2.m5 (fun _ _=>rfl) us hl) ?_ fun f cdv A outer s H vs Q E hr h=>?_
 ·rintro vs H Q E ⟨x,t,m,f',b,rfl,_⟩;rfl
 obtain ⟨x,t,m,f',b,rfl,hA,hf,hb,q⟩:=h
 have hu:=hr.units0
 have hu64:=hr.units
 refine ⟨_,(az (bW (bC aM (hr.mono (by decide)) (cD kz1u) (aa (gD 1 Mg) (aa aB (aa (jE (K:=K) rfl (au 0 Mf)) ao))) (by trivial))) (az (aL (i:=2) j8.nd rfl (Or.inr Ma) (c7 (au 0 Mf) T.o_Asks f9 (hr.mono (by decide)) jB (aa (gD 1 Mg) ao)) rfl) (aD (aW (jA (sub:=[none,some 1,some 2]) (b8 (N:=["self","begin","row"]) (sc:=aq bJ) (N':=["width","begin","row"]) (by trivial)) rfl rfl rfl (cQ (cD kz1p) T.b_range (aa (aN cL (bD (aV (K:=K) rfl) (cD kz1q) T.b_len cM (aa (gD 2 Ma) ao) (by trivial) (by trivial)) aB) ao)) (fun C s₀ H₀ ex=>(jz 0 (by trivial) m9)) (fun C s₀ H₀ ex=>(nu (bT uM (dJ (K:=K) rfl (cW 2 (by trivial)) (aN aJ (cF 0 (by trivial)) aB)) (dJ (K:=K) rfl (cW 2 (by trivial)) (cF 0 (by trivial))) (by walk_at "p")))) (fun C s₀ H₀ ex=>(aN aJ (cW 1 (by trivial)) (cF 0 (by trivial))))))))),?_⟩
 walk_at "s"
 have hsz:20000<=sizeLine:=by decide
 have cl:=T.o_Asks.cl
 have na:=T.n_Asks
 obtain ⟨hl,dx,ty,hx,hT⟩:=id hA
 refine ⟨x,_,dx,_,_,rfl,hx,cl,na _ (by simp),rfl,?_⟩
 walk_at "s"
 refine iV (by omega) (by omega) ?_
 walk_at "s"
 refine ⟨x,dx,_,rfl,hx,vM (by trivial),?_⟩
 walk_at "s"
 refine ⟨x,t,m,f',b,rfl,hA,hf,hb,fun r H1 nr S1 hr1=>?_⟩
 walk_at "s"
 refine cT (SqL.of hr1) ?_
 walk_at "s"
 rw [zV]
 refine ⟨_,rfl,by omega,by omega,?_⟩
 rw [show (((f'+1 - b:Nat):Int) - 1).toNat=f' - b by omega]
 refine gG (n:=f' - b) (fun i ys G=>G=H1/\ys=(((List.range i).filter fun i=>decide (rk t m 0 m b (b+i) < rk t m 0 m b (b+i+1))).map fun i=>V.int ((b+i:Nat):Int))) (by omega) ⟨rfl,rfl⟩ ?_ ?_ ?_
 ·rintro i ys G ⟨_,rfl⟩
  rw [List.length_map]
  have:=List.length_filter_le (fun i=>decide (rk t m 0 m b (b+i) < rk t m 0 m b (b+i+1))) (List.range i)
  rw [List.length_range] at this
  exact this
 ·rintro i ys G hi ⟨rfl,rfl⟩
  rw [Int.zero_add]
  walk_at "s"
  refine ⟨KeepSt.set rfl,?_⟩
  walk_at "s"
  refine bw (SqL.of hr1) (Av (n:=i+1) (by omega) (vN (by omega))) ?_
  walk_at "s"
  refine bw (SqL.of hr1) (Av (n:=i) rfl (vN (by omega))) ?_
  walk_at "s"
  rw [jU i]
  by_cases hc:rk t m 0 m b (b+i) < rk t m 0 m b (b+i+1)
  ·have hc':rk t m 0 m b (b+i) < rk t m 0 m b (b+(i+1)):=hc
   rw [decide_eq_true hc',decide_eq_true hc]
   walk_at "s"
   refine ⟨rfl,?_⟩
   rw [List.map_append];rfl
  ·have hc':¬ rk t m 0 m b (b+i) < rk t m 0 m b (b+(i+1)):=hc
   rw [decide_eq_false hc',decide_eq_false hc]
   walk_at "s"
   exact ⟨rfl,by rw [if_neg (by decide),List.append_nil]⟩
 ·rintro ys G D G2 ⟨rfl,rfl⟩ nD s2 hD
  try walk_at "s"
  refine q D G2 (Same.back S1 nD) (S1.trans s2) ?_
  rw [hD]
  unfold gnL
  rw [List.map_map];rfl
def Mi (t:List Nat) (m e:Nat):List Int:=((List.range e).filter fun i=>decide (rk t m 0 m (i+1) e < rk t m 0 m i e)).map fun i:Nat=>(i:Int)
def zW (mg:Str->Option Value):Sp:=fun vs H Q _=>∃ (x:Addr) (t:List Nat) (m f e:Nat),vs=[.ref x,.int e]/\Ak mg H x t m f/\f<=96/\e<=f/\∀ q H',H q=none->Same H H'->H' q=some (.lst ((Mi t m e).map V.int))->Q (.ref q) H'
theorem jJ:aG ["self","end","column"] ["self","end"] (aq bB):=⟨rfl,rfl,rfl,by trivial,rfl,by trivial,by trivial⟩
theorem iI (T:Txt K mg):jr P w K mg base 7 "Asks" "losses" ["self","end"] (zW mg):=by
 have aM:=aM (P:=P) (w:=w) (base:=base) T
 have aC:=aC (P:=P) (w:=w) (base:=base) T
 refine pC T.m_Asks_losses jJ (fun _ _ _ _ _ _ us hl=>L2.m5 (fun _ _=>rfl) us hl) ?_ fun f cdv A outer s H vs Q E hr h=>?_
 ·rintro vs H Q E ⟨x,t,m,f',e,rfl,_⟩;rfl
 obtain ⟨x,t,m,f',e,rfl,hA,hf,he,q⟩:=h
 have hu:=hr.units0
 have hu64:=hr.units
 refine ⟨_,(az (bW (bC aM (hr.mono (by decide)) (cD kz1y) (aa (gD 1 Io) (aa aB (aa (jE (K:=K) rfl (gD 0 kz1z)) ao))) (by trivial))) (az (jQ (i:=2) jJ.nd rfl (Or.inr kz1x) (sub:=[none,some 0,some 1]) (b8 (N:=["self","end","column"]) (sc:=aq bB) (N':=["begin","self","end"]) (by trivial)) rfl rfl rfl (cQ (cD Mh) T.b_range (aa (aN aJ (gD 1 Io) aB) ao)) (fun C s₀ H₀ ex=>(jz 0 (by trivial) mL)) (fun C s₀ H₀ ex=>gk) (fun C s₀ H₀ ex=>(sU (mg:=mg) rfl (cW 1 (by trivial)) T.o_Asks aC (hr.mono (by decide)) (jq fun _ _=>rfl) (aa (cF 0 (by trivial)) (aa (cW 2 (by trivial)) ao)))) rfl) (aD (aW (jA (sub:=[none,some 2]) (b8 (N:=["self","end","column"]) (sc:=aq bB) (N':=["begin","column"]) (by trivial)) rfl rfl rfl (cQ (cD Mh) T.b_range (aa (gD 1 Io) ao)) (fun C s₀ H₀ ex=>(jz 0 (by trivial) mK)) (fun C s₀ H₀ ex=>(nu (bT uM (dJ (K:=K) rfl (cW 1 (by trivial)) (cF 0 (by trivial))) (dJ (K:=K) rfl (cW 1 (by trivial)) (aN aJ (cF 0 (by trivial)) aB)) (by walk_at "p")))) (fun C s₀ H₀ ex=>(cF 0 (by trivial)))))))),?_⟩
 walk_at "s"
 have hsz:20000<=sizeLine:=by decide
 have cl:=T.o_Asks.cl
 have na:=T.n_Asks
 obtain ⟨hl,dx,ty,hx,hT⟩:=id hA
 refine ⟨x,_,dx,_,_,rfl,hx,cl,na _ (by simp),rfl,?_⟩
 walk_at "s"
 refine iV (by omega) (by omega) ?_
 walk_at "s"
 refine ⟨_,rfl,by omega,by omega,?_⟩
 rw [show ((e:Int)+1).toNat=e+1 by omega]
 refine iT (n:=e+1) (fun i=>.int (rk t m 0 m i e)) (by omega) ?_ ?_
 ·intro i hi
  rw [Int.zero_add]
  walk_at "s"
  refine ⟨KeepSt.set rfl,?_⟩
  walk_at "s"
  refine ⟨x,dx,_,rfl,hx,vM (by trivial),?_⟩
  walk_at "s"
  refine ⟨x,t,m,f',i,e,rfl,hA,by omega,by omega,?_⟩
  walk_at "s"
  exact ⟨rfl,gF rfl⟩
 intro cd H1 nc S1 hc1
 have cat:∀ i,i<=e->((List.range (e+1)).map fun i=>V.int (rk t m 0 m i e))[i]?=some (.int (rk t m 0 m i e)):=fun i hi=>by
  rw [List.getElem?_map,List.getElem?_range (by omega)];rfl
 walk_at "s"
 refine ⟨_,rfl,by omega,by omega,?_⟩
 rw [show ((e:Int)).toNat=e by omega]
 refine gG (n:=e) (fun i ys G=>G=H1/\ys=(((List.range i).filter fun i=>decide (rk t m 0 m (i+1) e < rk t m 0 m i e)).map fun i:Nat=>V.int (i:Int))) (by omega) ⟨rfl,rfl⟩ ?_ ?_ ?_
 ·rintro i ys G ⟨_,rfl⟩
  rw [List.length_map]
  have:=List.length_filter_le (fun i=>decide (rk t m 0 m (i+1) e < rk t m 0 m i e)) (List.range i)
  rw [List.length_range] at this
  exact this
 ·rintro i ys G hi ⟨rfl,rfl⟩
  rw [Int.zero_add]
  walk_at "s"
  refine ⟨KeepSt.set rfl,?_⟩
  walk_at "s"
  refine bw (SqL.of hc1) (Av (n:=i) rfl (cat i (by omega))) ?_
  walk_at "s"
  refine bw (SqL.of hc1) (Av (n:=i+1) (by omega) (cat (i+1) (by omega))) ?_
  walk_at "s"
  rw [jU i]
  by_cases hc:rk t m 0 m (i+1) e < rk t m 0 m i e
  ·rw [decide_eq_true hc]
   walk_at "s"
   refine ⟨rfl,?_⟩
   rw [List.map_append];rfl
  ·rw [decide_eq_false hc]
   walk_at "s"
   exact ⟨rfl,by rw [if_neg (by decide),List.append_nil]⟩
 ·rintro ys G D G2 ⟨rfl,rfl⟩ nD s2 hD
  try walk_at "s"
  refine q D G2 (Same.back S1 nD) (S1.trans s2) ?_
  rw [hD]
  unfold Mi
  rw [List.map_map];rfl
theorem kz20:dH bz "range":=by trivial
theorem Mj:bL bz "self":=by trivial
theorem Ml:bL bz "begin":=by trivial
theorem Iu:bL bz "end":=by trivial
theorem kz24:bL bz "length":=by trivial
theorem Iv:bL aO "found":=by trivial
theorem kz26:dH aO "range":=by trivial
theorem Iw:bL aO "self":=by trivial
theorem zX:bL aO "begin":=by trivial
theorem zY:bL aO "end":=by trivial
theorem Iz:bL aO "length":=by trivial
theorem kz2b:dH aO "need_place":=by trivial
theorem kz2c:dH aO "MOST_LINES":=by trivial
def Ds (mg:Str->Option Value):Sp:=fun vs H Q _=>∃ (x:Addr) (t:List Nat) (m f b L:Nat),vs=[.ref x,.int b,.int L]/\Ak mg H x t m f/\f<=96/\b<=f/\
 (∀ e,b<=e->e<=f->(L:Int)<=rk t m 0 m b e->(∀ e',b<=e'->e' < e->rk t m 0 m b e' < (L:Int))->Q (.int (e:Int)) H)/\((∀ e,b<=e->e<=f->rk t m 0 m b e < (L:Int))->Q .non H)
theorem iC:aG ["self","begin","length","end"] ["self","begin","length"] (aq bz):=⟨rfl,rfl,rfl,by trivial,rfl,by trivial,by trivial⟩
theorem gb (T:Txt K mg):jr P w K mg base 7 "Asks" "least_end" ["self","begin","length"] (Ds mg):=by
 have aC:=aC (P:=P) (w:=w) (base:=base) T
 refine pC T.m_Asks_least_end iC (fun _ _ _ _ _ _ us hl=>L2.qt (fun _ _ _=>rfl) us hl) ?_ fun f cdv A outer s H vs Q E hr h=>?_
 ·rintro vs H Q E ⟨x,t,m,f',b,L,rfl,_⟩;rfl
 obtain ⟨x,t,m,f',b,L,rfl,hA,hf,hb,q1,q2⟩:=h
 have hu:=hr.units0
 have hu64:=hr.units
 refine ⟨_,(az (zp (gn PassesOwn.never rfl (jP (cD kz20) T.b_range (aa (au 1 Ml) (aa (aN aJ (jE (K:=K) rfl (au 0 Mj)) aB) ao))) (cj (i:=3) iC.nd rfl (Or.inl Iu) rfl) (aD (dM (bT uN (c7 (au 0 Mj) T.o_Asks aC (hr.mono (by decide)) (jq fun _ _=>rfl) (aa (au 1 Ml) (aa (au 3 Iu) ao))) (au 2 kz24) (by walk_at "p")) (aD (aW (au 3 Iu))) dq)))) (aD (aW u0))),?_⟩
 walk_at "s"
 have hsz:20000<=sizeLine:=by decide
 have cl:=T.o_Asks.cl
 have na:=T.n_Asks
 obtain ⟨hl,dx,ty,hx,hT⟩:=id hA
 refine ⟨x,_,dx,_,_,rfl,hx,cl,na _ (by simp),rfl,?_⟩
 walk_at "s"
 refine ⟨⟨by omega,by omega,by omega,by omega⟩,?_⟩
 rw [show ((f':Int)+1 - (b:Int)).toNat=f'+1 - b by omega]
 refine iM (n:=f'+1 - b) (fun k U G=>G=H/\(∀ e',b<=e'->e' < b+k->rk t m 0 m b e' < (L:Int))/\∃ x3,U=[some (.ref x),some (.int (b:Int)),some (.int (L:Int)),x3]) ⟨rfl,(fun e' h1 h2=>by omega),_,rfl⟩ ?_ ?_
 ·rintro k U G hk ⟨rfl,hall,x3,rfl⟩
  rw [show (b:Int)+(k:Int)=((b+k:Nat):Int) by omega]
  walk_at "s"
  refine ⟨x,dx,_,rfl,hx,vM (by trivial),?_⟩
  walk_at "s"
  refine ⟨x,t,m,f',b,b+k,rfl,hA,by omega,by omega,?_⟩
  walk_at "s"
  by_cases hc:(L:Int)<=rk t m 0 m b (b+k)
  ·rw [decide_eq_true hc]
   walk_at "s"
   exact q1 (b+k) (by omega) (by omega) hc hall
  ·rw [decide_eq_false hc]
   walk_at "s"
   refine ⟨rfl,fun e' h1 h2=>?_,_,rfl⟩
   by_cases e:e'=b+k
   ·subst e;omega
   ·exact hall e' h1 (by omega)
 ·rintro U G ⟨rfl,hall,x3,rfl⟩
  walk_at "s"
  exact q2 fun e h1 h2=>hall e h1 (by omega)
def tgt (t:List Nat) (m f L b e:Nat):Prop:=b<=e/\e<=f/\(L:Int)<=rk t m 0 m b e/\(∀ e',b<=e'->e' < e->rk t m 0 m b e' < (L:Int))/\(b=e\/rk t m 0 m (b+1) e < (L:Int))
def T2 (H:Hp) (vs:List V) (M:List (Nat×Nat)):Prop:=vs.length=M.length/\∀ (i:Nat) (v:V) (p:Nat×Nat),vs[i]?=some v->M[i]?=some p->∃ a,v= .ref a/\H a=some (.tup [.int (p.1:Int),.int (p.2:Int)])
theorem T2.same {H H':Hp} {vs:List V} {M:List (Nat×Nat)} (h:T2 H vs M) (s:Same H H'):T2 H' vs M:=⟨h.1,fun i v p e1 e2=>by
 obtain ⟨a,e,ha⟩:=h.2 i v p e1 e2
 exact ⟨a,e,s _ _ ha⟩⟩
theorem T2.nil {H:Hp}:T2 H [] []:=⟨rfl,fun i v p e=>by simp at e⟩
theorem T2.push {H:Hp} {vs:List V} {M:List (Nat×Nat)} {a:Addr} {p:Nat×Nat} (h:T2 H vs M) (ha:H a=some (.tup [.int (p.1:Int),.int (p.2:Int)])):T2 H (vs ++ [.ref a]) (M ++ [p]):=by
 refine ⟨by simp [h.1],fun i v r e1 e2=>?_⟩
 by_cases hi:i < vs.length
 ·rw [List.getElem?_append_left hi] at e1
  rw [List.getElem?_append_left (by rw [← h.1];exact hi)] at e2
  exact h.2 i v r e1 e2
 ·have h2:=(List.getElem?_eq_some_iff.mp e1).1
  rw [List.length_append,List.length_singleton] at h2
  have:i=vs.length:=by omega
  subst this
  rw [List.getElem?_append_right (Nat.le_refl _),Nat.sub_self] at e1
  rw [List.getElem?_append_right (by rw [h.1];exact Nat.le_refl _),h.1,Nat.sub_self] at e2
  cases e1;cases e2
  exact ⟨a,rfl,ha⟩
theorem T2.put {H:Hp} {vs:List V} {M:List (Nat×Nat)} {g:Addr} {o:HO} {xs:List V} (h:T2 H vs M) (hg:H g=some (.lst xs)):T2 (upd H g o) vs M:=⟨h.1,fun i v p e1 e2=>by
 obtain ⟨a,e,ha⟩:=h.2 i v p e1 e2
 exact ⟨a,e,by rw [aA (fun z=>by rw [z,hg] at ha;cases ha)];exact ha⟩⟩
structure Ris (P:Nat->Nat->Prop) (n:Nat) (M:List (Nat×Nat)):Prop where
 so:M.Pairwise fun p q=>p.1 < q.1
 me:∀ b e,(b,e)∈M↔b < n/\P b e
theorem Ris.skip {P:Nat->Nat->Prop} {n:Nat} {M:List (Nat×Nat)} (h:Ris P n M) (hn:∀ e,¬ P n e):Ris P (n+1) M:=⟨h.so,fun b e=>by
 rw [h.me]
 constructor
 ·rintro ⟨h1,h2⟩;exact ⟨by omega,h2⟩
 ·rintro ⟨h1,h2⟩
  refine ⟨?_,h2⟩
  by_cases z:b=n
  ·subst z;exact absurd h2 (hn e)
  ·omega⟩
theorem Ris.take {P:Nat->Nat->Prop} {n e0:Nat} {M:List (Nat×Nat)} (h:Ris P n M) (he:P n e0) (hu:∀ e,P n e->e=e0):Ris P (n+1) (M ++ [(n,e0)]):=by
 refine ⟨List.pairwise_append.mpr ⟨h.so,List.pairwise_singleton _ _,fun p hp q hq=>?_⟩,fun b e=>?_⟩
 ·obtain ⟨b,e⟩:=p
  rw [List.mem_singleton.mp hq]
  exact ((h.me b e).mp hp).1
 ·rw [List.mem_append,h.me,List.mem_singleton]
  constructor
  ·rintro (⟨h1,h2⟩ | z)
   ·exact ⟨by omega,h2⟩
   ·cases z;exact ⟨by omega,he⟩
  ·rintro ⟨h1,h2⟩
   by_cases z:b=n
   ·subst z;rw [hu e h2];exact .inr rfl
   ·exact .inl ⟨by omega,h2⟩
theorem uC:∀ (M:List (Nat×Nat)) (lo n:Nat),M.Pairwise (fun p q=>p.1 < q.1)->(∀ p∈M,lo<=p.1/\p.1 < n)->M=[]\/lo+M.length<=n
 | [],_,_,_,_=>.inl rfl
 | p :: M,lo,n,h,h2=>by
  obtain ⟨a,b⟩:=List.pairwise_cons.mp h
  have hp:=h2 p (List.mem_cons_self ..)
  rcases uC M (p.1+1) n b (fun q hq=>⟨a q hq,(h2 q (List.mem_cons_of_mem _ hq)).2⟩) with rfl | h3
  ·right;simp;omega
  ·right;rw [List.length_cons];omega
theorem Ris.len {P:Nat->Nat->Prop} {n:Nat} {M:List (Nat×Nat)} (h:Ris P n M):M.length<=n:=by
 rcases uC M 0 n h.so (fun p hp=>⟨Nat.zero_le _,((h.me p.1 p.2).mp hp).1⟩) with rfl | h2
 ·exact Nat.zero_le _
 ·omega
def Dt (mg:Str->Option Value):Sp:=fun vs H Q _=>∃ (x:Addr) (t:List Nat) (m f L:Nat),vs=[.ref x,.int L]/\Ak mg H x t m f/\f<=96/\L<=96/\
 ∀ q vs M H',H q=none->Same H H'->H' q=some (.lst vs)->T2 H' vs M->Ris (tgt t m f L) (f+1) M->Q (.ref q) H'
theorem oY {t:List Nat} {m f L b e e':Nat} (h:tgt t m f L b e) (h':tgt t m f L b e'):e=e':=by
 obtain ⟨a1,a2,a3,a4,_⟩:=h
 obtain ⟨b1,b2,b3,b4,_⟩:=h'
 by_cases z:e < e'
 ·have:=b4 e a1 z;omega
 ·by_cases z2:e' < e
  ·have:=a4 e' b1 z2;omega
  ·omega
theorem dG:aG ["self","length","found","begin","end"] ["self","length"] (aq aO):=⟨rfl,rfl,rfl,by trivial,rfl,by trivial,by trivial⟩
theorem bu (T:Txt K mg):jr P w K mg base 8 "Asks" "tightest" ["self","length"] (Dt mg):=by
 have aM:=aM (P:=P) (w:=w) (base:=base) T
 have gb:=gb (P:=P) (w:=w) (base:=base) T
 have aC:=aC (P:=P) (w:=w) (base:=base) T
 refine pC T.m_Asks_tightest dG (fun _ _ _ _ _ _ us hl=>L2.m5 (fun _ _=>rfl) us hl) ?_ fun f cdv A outer s H vs Q E hr h=>?_
 ·rintro vs H Q E ⟨x,t,m,f',L,rfl,_⟩;rfl
 obtain ⟨x,t,m,f',L,rfl,hA,hf,hL,q⟩:=h
 have hu:=hr.units0
 have hu64:=hr.units
 refine ⟨_,(az (bW (bC aM (hr.mono (by decide)) (cD kz2b) (aa (au 1 Iz) (aa aB (aa (yO (cD kz2c) T.c_MOST_LINES (by trivial)) ao))) (by trivial))) (az (aL (i:=2) dG.nd rfl (Or.inl Iv) (jy ao) rfl) (az (zp (gn PassesOwn.never rfl (cQ (cD kz26) T.b_range (aa (aN aJ (jE (K:=K) rfl (au 0 Iw)) aB) ao)) (cj (i:=3) dG.nd rfl (Or.inl zX) rfl) (az (aL (i:=4) dG.nd rfl (Or.inl zY) (c7 (au 0 Iw) T.o_Asks gb (hr.mono (by decide)) (jq fun _ _=>rfl) (aa (au 3 zX) (aa (au 1 Iz) ao))) rfl) (az (dM (bT HF (au 4 zY) u0 (by walk_at "p")) (aD rT) dq) (aD (dM (qb (u6 (bT (gJ (K:=K) rfl hu64) (au 3 zX) (au 4 zY) (by walk_at "p")) (qO (bT uL (c7 (au 0 Iw) T.o_Asks aC (hr.mono (by decide)) (jq fun _ _=>rfl) (aa (aN aJ (au 3 zX) aB) (aa (au 4 zY) ao))) (au 1 Iz) (by walk_at "p"))))) (aD (bW (jj (K:=K) rfl PySem.F.plainAttrs_list PySem.F.slot_list_append PySem.F.type_list_append dY (au 2 Iv) (aa (qd (aa (au 3 zX) (aa (au 4 zY) ao))) ao)))) dq)))))) (aD (aW (au 2 Iv)))))),?_⟩
 walk_at "s"
 have hsz:20000<=sizeLine:=by decide
 have cl:=T.o_Asks.cl
 have na:=T.n_Asks
 refine iV (by omega) (by omega) ?_
 walk_at "s"
 refine dI rfl fun fd H1 nfd S1 hfd=>?_
 walk_at "s"
 have hA1:=hA.same S1
 obtain ⟨hl,dx,ty,hx,hT⟩:=id hA1
 refine ⟨x,_,dx,_,_,rfl,hx,cl,na _ (by simp),rfl,?_⟩
 walk_at "s"
 refine ⟨_,rfl,by omega,by omega,?_⟩
 rw [show ((f':Int)+1).toNat=f'+1 by omega]
 refine iM (n:=f'+1) (fun k U G=>Same H G/\(∃ vs M,G fd=some (.lst vs)/\T2 G vs M/\Ris (tgt t m f' L) k M)/\∃ x3 x4,U=[some (.ref x),some (.int (L:Int)),some (.ref fd),x3,x4]) ⟨S1,⟨[],[],hfd,T2.nil,⟨List.Pairwise.nil,fun b e=>⟨(fun h=>nomatch h),fun h=>absurd h.1 (by omega)⟩⟩⟩,_,_,rfl⟩ ?_ ?_
 ·rintro k U G hk ⟨s,⟨vs,M,hG,h2,hM⟩,x3,x4,rfl⟩
  have hAG:=hA.same s
  obtain ⟨_,dx,ty,hx,hT⟩:=id hAG
  have hvl:vs.length<=k:=by rw [h2.1];exact hM.len
  rw [Int.zero_add]
  walk_at "s"
  refine ⟨x,dx,_,rfl,hx,vM (by trivial),?_⟩
  walk_at "s"
  refine ⟨x,t,m,f',k,L,rfl,hAG,hf,by omega,fun e he1 he2 he3 he4=>?_,fun hno=>?_⟩
  ·walk_at "s"
   rw [decide_eq_false (show ¬ V.int (e:Int)=V.non by intro z;cases z)]
   have fin:tgt t m f' L k e->∀ (a:Addr) (G2:Hp) (x3 x4:Option V),Same G G2->G2 a=some (.tup [.int (k:Int),.int (e:Int)])->Same H (upd G2 fd (.lst (vs ++ [.ref a])))/\(∃ ws M,upd G2 fd (.lst (vs ++ [.ref a])) fd=some (.lst ws)/\T2 (upd G2 fd (.lst (vs ++ [.ref a]))) ws M/\Ris (tgt t m f' L) (k+1) M):=fun ht a G2 _ _ s2 ha=>
    ⟨Same.put (s.trans s2) nfd,_,_,aj,((h2.same s2).push (p:=(k,e)) ha).put (s2 _ _ hG),hM.take ht fun e' h'=>oY h' ht⟩
   walk_at "s"
   by_cases hke:k=e
   ·rw [decide_eq_true (show V.int (k:Int)=V.int (e:Int) by rw [hke])]
    walk_at "s"
    refine ⟨.inl ⟨rfl,_,SqL.of hG⟩,?_⟩
    walk_at "s"
    refine dI rfl fun a G2 na s2 ha=>?_
    walk_at "s"
    refine dN (s2 _ _ hG) (by omega) ?_
    walk_at "s"
    obtain ⟨f1,f2⟩:=fin ⟨he1,he2,he3,he4,.inl hke⟩ a G2 none none s2 ha
    exact ⟨f1,f2,_,_,rfl⟩
   ·rw [decide_eq_false (show ¬ V.int (k:Int)=V.int (e:Int) from fun z=>hke (by have:=V.int.inj z;omega))]
    walk_at "s"
    refine ⟨x,dx,_,rfl,hx,vM (by trivial),?_⟩
    walk_at "s"
    rw [show (k:Int)+1=((k+1:Nat):Int) by omega]
    refine ⟨x,t,m,f',k+1,e,rfl,hAG,by omega,by omega,?_⟩
    walk_at "s"
    by_cases hc:rk t m 0 m (k+1) e < (L:Int)
    ·rw [decide_eq_true hc]
     walk_at "s"
     refine ⟨.inl ⟨rfl,_,SqL.of hG⟩,?_⟩
     walk_at "s"
     refine dI rfl fun a G2 na s2 ha=>?_
     walk_at "s"
     refine dN (s2 _ _ hG) (by omega) ?_
     walk_at "s"
     obtain ⟨f1,f2⟩:=fin ⟨he1,he2,he3,he4,.inr hc⟩ a G2 none none s2 ha
     exact ⟨f1,f2,_,_,rfl⟩
    ·rw [decide_eq_false hc]
     walk_at "s"
     refine ⟨s,⟨vs,M,hG,h2,hM.skip fun e' h'=>?_⟩,_,_,rfl⟩
     have:e'=e:=by
      obtain ⟨a1,a2,a3,a4,_⟩:=h'
      by_cases z:e < e'
      ·have:=a4 e he1 z;omega
      ·by_cases z2:e' < e
       ·have:=he4 e' a1 z2;omega
       ·omega
     subst this
     rcases h'.2.2.2.2 with z | z
     ·exact hke z
     ·exact hc z
  ·walk_at "s"
   rw [decide_eq_true (rfl:V.non=V.non)]
   walk_at "s"
   refine ⟨s,⟨vs,M,hG,h2,hM.skip fun e h=>?_⟩,_,_,rfl⟩
   have:=hno e h.1 h.2.1
   have:=h.2.2.1
   omega
 ·rintro U G ⟨s,⟨vs,M,hG,h2,hM⟩,x3,x4,rfl⟩
  walk_at "s"
  exact q fd vs M G nfd s hG h2 hM
theorem kz2d:dH aP "min":=by trivial
theorem Mm:bL aP "found":=by trivial
theorem kz2f:bL aP "self":=by trivial
theorem kz2g:bL aP "length":=by trivial
def lmP:Pos:={line:=135,col:=30,endLine:=135,endCol:=71}
def lmQ:Str:=(PyProof.Rows.envOfC "Asks.shortest" (aq aP) 0 0 .none).qual ++ "<lambda>"
def lT (K:W.Frag) (mg:Str->Option Value):Addr:=Np K mg "Asks" "shortest" "Asks.shortest" aP
def lTb (K:W.Frag) (mg:Str->Option Value) (H:Hp):Prop:=Tb (lT K mg) lmP lmQ H
theorem lTb.same {H H':Hp} (h:lTb K mg H) (s:Same H H'):lTb K mg H':=Tb.same h s
theorem Tb.ne {T a:Addr} {pos:Pos} {qual:Str} {H:Hp} {o:HO} (h:Tb T pos qual H) (ha:H a=some o) (ho:∀ ps,o≠.tbl ps):a≠T:=fun z=>by
 subst z
 rcases h with h | ⟨c,h,_⟩ <;> rw [ha] at h <;> exact ho _ (Option.some.inj h)
def IK (t:List Nat) (m f L b e:Nat):Prop:=b<=e/\e<=f/\(L:Int)<=rk t m 0 m b e
def Du (t:List Nat) (m f L b e:Nat):Prop:=IK t m f L b e/\∀ b' e',IK t m f L b' e'->e - b < e' - b'\/(e - b=e' - b'/\b<=b')
theorem sY {t:List Nat} {m f L:Nat}:∀ (n b e:Nat),e - b<=n->IK t m f L b e->∃ b' e',tgt t m f L b' e'/\b<=b'/\e'<=e:=by
 intro n
 induction n with
 | zero=>
  rintro b e hn ⟨h1,h2,h3⟩
  exact ⟨b,e,⟨h1,h2,h3,fun e' _ _=>by omega,.inl (by omega)⟩,Nat.le_refl _,Nat.le_refl _⟩
 | succ n ih=>
  rintro b e hn ⟨h1,h2,h3⟩
  by_cases hl:∀ e',b<=e'->e' < e->rk t m 0 m b e' < (L:Int)
  ·by_cases hb:b=e\/rk t m 0 m (b+1) e < (L:Int)
   ·exact ⟨b,e,⟨h1,h2,h3,hl,hb⟩,Nat.le_refl _,Nat.le_refl _⟩
   ·have hb1:b≠e:=fun z=>hb (.inl z)
    have hb2:¬ rk t m 0 m (b+1) e < (L:Int):=fun z=>hb (.inr z)
    obtain ⟨b',e',ht,a1,a2⟩:=ih (b+1) e (by omega) ⟨by omega,h2,by omega⟩
    exact ⟨b',e',ht,by omega,a2⟩
  ·have:∃ e',b<=e'/\e' < e/\¬ rk t m 0 m b e' < (L:Int):=by
    by_cases z:∃ e',b<=e'/\e' < e/\¬ rk t m 0 m b e' < (L:Int)
    ·exact z
    ·exact absurd (fun e' c1 c2=>Classical.byContradiction fun c3=>z ⟨e',c1,c2,c3⟩) hl
   obtain ⟨e',c1,c2,c3⟩:=this
   obtain ⟨b'',e'',ht,a1,a2⟩:=ih b e' (by omega) ⟨c1,by omega,by omega⟩
   exact ⟨b'',e'',ht,a1,by omega⟩
theorem T2.refs {H:Hp} {vs:List V} {M:List (Nat×Nat)} (h:T2 H vs M):∃ as:List Addr,vs=as.map V.ref/\as.length=M.length/\∀ (i:Nat) (a:Addr) (p:Nat×Nat),as[i]?=some a->M[i]?=some p->H a=some (.tup [.int (p.1:Int),.int (p.2:Int)]):=by
 refine ⟨vs.map fun v=>match v with | .ref a=>a | _=>0,?_,by rw [List.length_map];exact h.1,fun i a p e1 e2=>?_⟩
 ·rw [List.map_map]
  conv=>lhs;rw [← List.map_id vs]
  refine List.map_congr_left fun v hv=>?_
  obtain ⟨i,hi,e⟩:=List.mem_iff_getElem.mp hv
  obtain ⟨a,rfl,_⟩:=h.2 i v _ (by rw [List.getElem?_eq_getElem hi,e]) (List.getElem?_eq_getElem (by rw [← h.1];exact hi))
  rfl
 ·rw [List.getElem?_map] at e1
  cases e:vs[i]? with
  | none=>rw [e] at e1;cases e1
  | some v=>
   obtain ⟨a',rfl,ha⟩:=h.2 i v p e e2
   rw [e] at e1
   cases e1
   exact ha
def kfM (M:List (Nat×Nat)) (i:Nat):List Int:=match M[i]? with
 | some p=>[(p.2:Int) - (p.1:Int),(p.1:Int)]
 | none=>[]
theorem uD {M:List (Nat×Nat)} {i:Nat} {p:Nat×Nat} (h:M[i]?=some p):kfM M i=[(p.2:Int) - (p.1:Int),(p.1:Int)]:=by unfold kfM;rw [h]
def Dv (K:W.Frag) (mg:Str->Option Value):Sp:=fun vs H Q _=>∃ (x:Addr) (t:List Nat) (m f L:Nat),vs=[.ref x,.int L]/\Ak mg H x t m f/\f<=96/\L<=96/\lTb K mg H/\
 (∀ H',SmT (lT K mg) H H'->lTb K mg H'->(∀ b e,¬ IK t m f L b e)->Q .non H')/\∀ (a:Addr) (b e:Nat) (H':Hp),SmT (lT K mg) H H'->lTb K mg H'->H' a=some (.tup [.int (b:Int),.int (e:Int)])->Du t m f L b e->Q (.ref a) H'
theorem jb:aG ["self","length","found"] ["self","length"] (aq aP):=⟨rfl,rfl,rfl,by trivial,rfl,by trivial,by trivial⟩
theorem bZ (T:Txt K mg):jr P w K mg base 9 "Asks" "shortest" ["self","length"] (Dv K mg):=by
 have bu:=bu (P:=P) (w:=w) (base:=base) T
 refine Le T.m_Asks_shortest jb (fun _ _ _ _ _ _ us hl=>L2.m5 (fun _ _=>rfl) us hl) ?_ fun f cA A outer s H vs Q E hC hr h=>?_
 ·rintro vs H Q E ⟨x,t,m,f',L,rfl,_⟩;rfl
 obtain ⟨x,t,m,f',L,rfl,hA,hf,hL,hTb,q0,q1⟩:=h
 have hu:=hr.units0
 have hu64:=hr.units
 refine ⟨_,(az (aL (i:=2) jb.nd rfl (Or.inl Mm) (c7 (au 0 kz2f) T.o_Asks bu (hr.mono (by decide)) jB (aa (au 1 kz2g) ao)) rfl) (aD (aW (HS (k:=0) (x0:="span") rfl (cD kz2d) T.b_min rfl hC (hr.mono (by decide)) (au 2 Mm) u0 ⟨rfl,rfl,rfl,by trivial,rfl,by trivial,by trivial⟩ rfl rfl (fun _ _ _ _=>rfl) (fun _ _ _ _ _ _ hv _=>(qd (aa (aN cL (dJ (K:=K) rfl (HR 0 hv) aB) (dJ (K:=K) rfl (HR 0 hv) aB)) (aa (dJ (K:=K) rfl (HR 0 hv) aB) ao)))))))),?_⟩
 walk_at "s"
 have cl:=T.o_Asks.cl
 have na:=T.n_Asks
 obtain ⟨hl,dx,ty,hx,hT⟩:=id hA
 refine ⟨x,dx,_,rfl,hx,vM (by trivial),?_⟩
 walk_at "s"
 refine ⟨x,t,m,f',L,rfl,hA,hf,hL,fun fd vs M H1 nfd S1 hfd h2 hM=>?_⟩
 walk_at "s"
 have hTb1:lTb K mg H1:=hTb.same S1
 refine ⟨hTb1,fun H2 sm hTb2=>?_⟩
 obtain ⟨as,rfl,hal,has⟩:=h2.refs
 have up:∀ {a:Addr} {o:HO},H1 a=some o->(∀ ps,o≠.tbl ps)->H2 a=some o:=fun {a o} ha ho=>sm a o (Tb.ne hTb1 ha ho) ha
 have U2:SmT (lT K mg) H H2:=S1.smT.trans sm
 refine ⟨fd,as,kfM M,rfl,up hfd (fun ps z=>by cases z),fun i a H' hi s=>?_,fun hn=>?_,fun i a H' hi s hb=>?_⟩
 ·obtain ⟨p,hp⟩:∃ p,M[i]?=some p:=⟨_,List.getElem?_eq_getElem (by have:=(List.getElem?_eq_some_iff.mp hi).1;omega)⟩
  have ha:=s _ _ (up (has i a p hi hp) (fun ps z=>by cases z))
  walk_at "s"
  refine dI rfl fun b G nb sb hb=>?_
  walk_at "s"
  exact ⟨b,rfl,by rw [hb,uD hp];rfl,sb⟩
 ·refine q0 H2 U2 hTb2 fun b e he=>?_
  obtain ⟨b',e',ht,_,_⟩:=sY (e - b) b e (Nat.le_refl _) he
  have:=(hM.me b' e').mpr ⟨by have:=ht.1;have:=ht.2.1;omega,ht⟩
  rw [hn] at hal
  rw [List.length_eq_zero_iff.mp (by rw [← hal];rfl:M.length=0)] at this
  cases this
 ·obtain ⟨p,hp⟩:∃ p,M[i]?=some p:=⟨_,List.getElem?_eq_getElem (by have:=(List.getElem?_eq_some_iff.mp hi).1;omega)⟩
  have ha:=s _ _ (up (has i a p hi hp) (fun ps z=>by cases z))
  have hpm:=(hM.me p.1 p.2).mp (List.mem_of_getElem? hp)
  refine q1 a p.1 p.2 H' (U2.trans s.smT) (hTb2.same s) ha ⟨⟨hpm.2.1,hpm.2.2.1,hpm.2.2.2.1⟩,fun b' e' he=>?_⟩
  obtain ⟨b2,e2,ht,a1,a2⟩:=sY (e' - b') b' e' (Nat.le_refl _) he
  have hm2:=(hM.me b2 e2).mpr ⟨by have:=ht.1;have:=ht.2.1;omega,ht⟩
  obtain ⟨j,hj,ej⟩:=List.mem_iff_getElem.mp hm2
  have hj2:M[j]?=some (b2,e2):=by rw [List.getElem?_eq_getElem hj,ej]
  have hlx:=hb j (by omega)
  rw [uD hj2,uD hp] at hlx
  have h1:=ht.1
  have h3:=hpm.2.1
  have h4:=he.1
  rw [HT.lexLt_cons] at hlx
  by_cases z:((e2:Int) - (b2:Int))=((p.2:Int) - (p.1:Int))
  ·rw [if_pos z,HT.lexLt_cons] at hlx
   by_cases z2:(b2:Int)=(p.1:Int)
   ·omega
   ·rw [if_neg z2] at hlx
    have:=of_decide_eq_false hlx
    omega
  ·rw [if_neg z] at hlx
   have:=of_decide_eq_false hlx
   omega
theorem mO:(["_law_k","_law_many"]:List Str).Nodup:=by trivial
theorem IV:bL fY "_law_script":=by trivial
theorem kz2i:bL fY "_law_k":=by trivial
theorem Mp:dH fY "len":=by trivial
theorem Dw:bL bA "_law_found":=by trivial
theorem kz2l:bL bA "_law_bases":=by trivial
theorem Dy:bL bA "_law_base":=by trivial
theorem Mq:bL bA "_law_great":=by trivial
theorem zZ:bL bA "_law_cell_here":=by trivial
theorem z6:bL bA "_law_number":=by trivial
theorem IW:bL bA "_law_prime":=by trivial
theorem Ja:bL aQ "_law_found":=by trivial
theorem kz2s:dH aQ "_law_numbers":=by trivial
theorem kz2t:bL aQ "_law_prime":=by trivial
theorem Mr:dH aQ "range":=by trivial
theorem Ms:sW aQ "_law_many":=by trivial
theorem kz2w:bL aQ "_law_cell_here":=by trivial
theorem Mt:bL aQ "_law_at":=by trivial
theorem Mu:bL aQ "_law_pool":=by trivial
theorem kz2z:dH aQ "list":=by trivial
theorem Jb:bL jk "_law_cell_here":=by trivial
def Jc (K:W.Frag):Sp:=fun vs H Q _=>∃ (a:Addr) (ns:List Int) (k:Nat),vs=[.ref a,.int k]/\SqL K H a (ns.map V.int)/\∀ n,Q (.int n) H
theorem sZ:aG ["_law_script","_law_k"] ["_law_script","_law_k"] (aq fY):=⟨rfl,rfl,rfl,by trivial,rfl,by trivial,by trivial⟩
theorem gf (T:Txt K mg):ph P w K mg base 1 "_law_cell" ["_law_script","_law_k"] (Jc K):=by
 refine jX T.d_law_cell sZ (fun _ _ _ _ _ _ us hl=>L2.m5 (fun _ _=>rfl) us hl) ?_ fun f cdv A outer s H vs Q E hr h=>?_
 ·rintro vs H Q E ⟨a,ns,k,rfl,_⟩;rfl
 obtain ⟨a,ns,k,rfl,hS,q⟩:=h
 have hu:=hr.units0
 have hu64:=hr.units
 refine ⟨_,(az (dM (bT (gJ (K:=K) rfl hu64) (bD (aV (K:=K) rfl) (cD Mp) T.b_len cM (aa (au 0 IV) ao) (by trivial) (by trivial)) aB (by walk_at "p")) (aD (aW aB)) dq) (aD (aW (dJ (K:=K) rfl (au 0 IV) (aN d8 (au 1 kz2i) (bD (aV (K:=K) rfl) (cD Mp) T.b_len cM (aa (au 0 IV) ao) (by trivial) (by trivial))))))),?_⟩
 walk_at "s"
 refine cT hS ?_
 walk_at "s"
 rw [List.length_map]
 refine pq (fun h=>?_) (fun h=>?_)
 ·walk_at "s"
  exact q _
 ·have hl:0 < ns.length:=by
   have:¬ (ns.length:Int)=0:=fun z=>h (by rw [z])
   omega
  walk_at "s"
  refine cT hS ?_
  walk_at "s"
  rw [List.length_map]
  refine ⟨_,_,rfl,rfl,(show (0:Int) < (ns.length:Int) by omega),?_⟩
  walk_at "s"
  obtain ⟨v,hv,e⟩:=KJ (vs:=ns.map V.int) (d:=(k:Int) % (ns.length:Int)) (Int.emod_nonneg _ (by omega)) (by rw [List.length_map];exact Int.emod_lt_of_pos _ (by omega))
  obtain ⟨n,_,rfl⟩:=List.mem_map.mp hv
  refine bw hS e ?_
  walk_at "s"
  exact q _
def Fits (ms bs:List Int):Prop:=ms.length=bs.length/\∀ (i:Nat) (m b:Int),ms[i]?=some m->bs[i]?=some b->0<=m/\m < b
theorem Fits.push {ms bs:List Int} {k:Nat} {m b:Int} (h:Fits ms (bs.take k)) (hb:bs[k]?=some b) (h0:0<=m) (h1:m < b):Fits (ms ++ [m]) (bs.take (k+1)):=by
 have hk:k < bs.length:=(List.getElem?_eq_some_iff.mp hb).1
 have hl:ms.length=k:=by rw [h.1,List.length_take];omega
 refine ⟨by simp;omega,fun i m' b' e1 e2=>?_⟩
 by_cases hi:i < k
 ·rw [List.getElem?_append_left (by omega)] at e1
  rw [List.getElem?_take_of_lt (by omega)] at e2
  exact h.2 i m' b' e1 (by rw [List.getElem?_take_of_lt hi];exact e2)
 ·have hi2:i < k+1:=by have:=(List.getElem?_eq_some_iff.mp e1).1;simp at this;omega
  obtain rfl:i=k:=by omega
  rw [List.getElem?_append_right (by omega),hl,Nat.sub_self] at e1
  rw [List.getElem?_take_of_lt (by omega),hb] at e2
  cases e1;cases e2
  exact ⟨h0,h1⟩
def Jd:Sp:=fun vs H Q _=>∃ (n:Int) (b:Addr) (bs:List Int) (pr:Int),vs=[.int n,.ref b,.int pr]/\H b=some (.lst (bs.map V.int))/\bs.length<=100/\(∀ x∈bs,0 < x/\x < 1073741824)/\2147000000 < pr/\pr < 2147490000/\
 ∀ (q:Addr) (ms:List Int) (H':Hp),H q=none->Same H H'->H' q=some (.lst (ms.map V.int))->Fits ms bs->Q (.ref q) H'
theorem bU:aG ["_law_cell_here","_law_bases","_law_prime","_law_great","_law_number","_law_found","_law_base"] ["_law_cell_here","_law_bases","_law_prime"] (aq bA):=⟨rfl,rfl,rfl,by trivial,rfl,by trivial,by trivial⟩
theorem cR (T:Txt K mg):ph P w K mg base 1 "_law_numbers" ["_law_cell_here","_law_bases","_law_prime"] Jd:=by
 refine jX T.d_law_numbers bU (fun _ _ _ _ _ _ us hl=>L2.qt (fun _ _ _=>rfl) us hl) ?_ fun f cdv A outer s H vs Q E hr h=>?_
 ·rintro vs H Q E ⟨n,b,bs,pr,rfl,_⟩;rfl
 obtain ⟨n,b,bs,pr,rfl,hb,hlen,hbs,hp0,hp1,q⟩:=h
 have hu:=hr.units0
 have hu64:=hr.units
 refine ⟨_,(az (aL (i:=3) bU.nd rfl (Or.inl Mq) (rR uN (au 0 zZ) (aN Gm aB aB) (by walk_at "p")) rfl) (az (aL (i:=4) bU.nd rfl (Or.inl z6) (aN aJ (aN d8 (aN jg (aN d8 (au 0 zZ) (au 2 IW)) aB) (au 2 IW)) aB) rfl) (az (aL (i:=5) bU.nd rfl (Or.inl Dw) (jy ao) rfl) (az (gn PassesOwn.never rfl (mF (K:=K) rfl (au 1 kz2l)) (cj (i:=6) bU.nd rfl (Or.inl Dy) rfl) (az (aL (i:=4) bU.nd rfl (Or.inl z6) (aN d8 (aN aJ (aN jg (au 4 z6) aB) aB) (au 2 IW)) rfl) (aD (dM (jh (au 3 Mq)) (az (bW (jj (K:=K) rfl PySem.F.plainAttrs_list PySem.F.slot_list_append PySem.F.type_list_append dY (au 5 Dw) (aa (aN d8 (au 0 zZ) (au 6 Dy)) ao))) (aD (aL (i:=0) bU.nd rfl (Or.inl zZ) (aN jC (au 0 zZ) (au 6 Dy)) rfl))) (aD (bW (jj (K:=K) rfl PySem.F.plainAttrs_list PySem.F.slot_list_append PySem.F.type_list_append dY (au 5 Dw) (aa (aN d8 (aN d8 (aN jg (au 4 z6) (aN aJ (aN jC (au 4 z6) aB) aB)) aB) (au 6 Dy)) ao)))))))) (aD (aW (au 5 Dw))))))),?_⟩
 walk_at "s"
 have hs:1000<=sizeLine:=by decide
 refine vz rfl fun f nf=>?_
 walk_at "s"
 have hb1:upd H f (.lst []) b=some (.lst (bs.map V.int)):=nj nf hb
 have bf:b≠f:=fun e=>by rw [e,nf] at hb;cases hb
 refine .inl ⟨b,rfl,⟨_,SqL.of hb1⟩,?_⟩
 generalize hg:decide ((10:Int) ^ (18:Int).toNat<=n)=g
 have hm0:=Int.emod_nonneg (n % pr*48271) (show pr≠0 by omega)
 have hm1:=Int.emod_lt_of_pos (n % pr*48271) (show 0 < pr by omega)
 refine kZ (xs:=bs.map V.int) (fun k U H'=>∃ (n' N:Int) (ms:List Int) (x6:Option V),U=[some (.int n'),some (.ref b),some (.int pr),some (.bl g),some (.int N),some (.ref f),x6]/\0<=N/\N < 2147500000/\Same H H'/\H' f=some (.lst (ms.map V.int))/\Fits ms (bs.take k))
  ⟨n,_,[],none,rfl,by omega,by omega,(Same.refl H).upd nf,aj,rfl,fun i m b e=>by simp at e⟩ (fun i U H' _ h=>?_) ?_ ?_
 ·obtain ⟨_,_,_,_,_,_,_,s,_⟩:=h
  exact SqL.of (s _ _ hb)
 ·rintro k v U H' hk ⟨n',N,ms,x6,rfl,hN0,hN1,s,hf,hF⟩
  rw [List.getElem?_map] at hk
  obtain ⟨bb,hbb,rfl⟩:∃ y,bs[k]?=some y/\v=V.int y:=by
   cases e:bs[k]? with
   | none=>rw [e] at hk;cases hk
   | some y=>rw [e] at hk;exact ⟨y,rfl,(Option.some.inj hk).symm⟩
  obtain ⟨p0,p1⟩:=hbs bb (List.mem_of_getElem? hbb)
  have hml:ms.length<=100:=by rw [hF.1,List.length_take];omega
  walk_at "s"
  obtain ⟨M,eM⟩:∃ M,(N*69621+4099) % pr=M:=⟨_,rfl⟩
  have hM0:0<=M:=by rw [← eM];exact Int.emod_nonneg _ (by omega)
  have hM1:M < pr:=by rw [← eM];exact Int.emod_lt_of_pos _ (by omega)
  rw [eM]
  cases g with
  | true=>
   walk_at "s"
   refine ⟨.inl ⟨rfl,_,SqL.of hf⟩,?_⟩
   walk_at "s"
   refine dN hf (by simp;omega) ?_
   walk_at "s"
   refine ⟨_,M,ms ++ [n' % bb],_,rfl,hM0,by omega,Same.put s nf,?_,hF.push hbb (Int.emod_nonneg _ (by omega)) (Int.emod_lt_of_pos _ p0)⟩
   rw [List.map_append];exact aj
  | false=>
   walk_at "s"
   refine ⟨.inl ⟨rfl,_,SqL.of hf⟩,?_⟩
   walk_at "s"
   refine dN hf (by simp;omega) ?_
   walk_at "s"
   refine ⟨_,M,ms ++ [M*(M / 977+3) % 2147483629 % bb],_,rfl,hM0,by omega,Same.put s nf,?_,hF.push hbb (Int.emod_nonneg _ (by omega)) (Int.emod_lt_of_pos _ p0)⟩
   rw [List.map_append];exact aj
 ·rintro U H' ⟨n',N,ms,x6,rfl,_,_,s,hf,hF⟩
  walk_at "s"
  refine q f ms H' nf s hf ?_
  rw [List.length_map,List.take_length] at hF
  exact hF
theorem mQ {α β:Type} (f:α->β):∀ (l:List α) (k:Nat),(l.map f).eraseIdx k=(l.eraseIdx k).map f
 | [],_=>rfl
 | _ :: _,0=>rfl
 | a :: l,k+1=>congrArg (f a :: ·) (mQ f l k)
theorem oZ:∀ (l:List Nat) (k:Nat) (h:k < l.length),(l[k] :: l.eraseIdx k).Perm l
 | _ :: _,0,_=>List.Perm.refl _
 | a :: l,k+1,h=>(List.Perm.swap a _ _).trans (List.Perm.cons a (oZ l k (by simpa using h)))
theorem z7 (t:List Nat) (k:Nat):((nI t).map V.int).eraseIdx k=(nI (t.eraseIdx k)).map V.int:=by unfold nI;rw [mQ,mQ]
def Je (K:W.Frag):Sp:=fun vs H Q _=>∃ (n:Int) (m:Nat) (pr:Int),vs=[.int n,.int m,.int pr]/\m<=96/\2147000000 < pr/\pr < 2147490000/\∀ (q:Addr) (t:List Nat) (H':Hp),H q=none->Same H H'->H' q=some (.lst ((nI t).map V.int))->Prm t->t.length=m->Q (.ref q) H'
theorem fW:aG ["_law_cell_here","_law_many","_law_prime","_law_pool","_law_found","_law_at"] ["_law_cell_here","_law_many","_law_prime"] (aq aQ):=⟨rfl,rfl,rfl,by trivial,rfl,by trivial,by trivial⟩
theorem iJ (T:Txt K mg):ph P w K mg base 2 "_law_turning" ["_law_cell_here","_law_many","_law_prime"] (Je K):=by
 have cR:=cR (P:=P) (w:=w) (base:=base) T
 refine jX T.d_law_turning fW (fun _ _ _ _ _ _ us hl=>L2.qt (fun _ _ _=>rfl) us hl) ?_ fun f cdv A outer s H vs Q E hr h=>?_
 ·rintro vs H Q E ⟨n,m,pr,rfl,_⟩;rfl
 obtain ⟨n,m,pr,rfl,hm,hp0,hp1,q⟩:=h
 have hu:=hr.units0
 have hu64:=hr.units
 refine ⟨_,(az (aL (i:=3) fW.nd rfl (Or.inl Mu) (uw rfl (cD kz2z) T.b_list (cD Mr) T.b_range (aa (gD 1 Ms) ao)) rfl) (az (aL (i:=4) fW.nd rfl (Or.inl Ja) (jy ao) rfl) (az (gn PassesOwn.never rfl (mF (K:=K) rfl (bC cR (hr.mono (by decide)) (cD kz2s) (aa (au 0 kz2w) (aa (jA (sub:=[none,some 1]) (b8 (N:=["_law_cell_here","_law_many","_law_prime","_law_pool","_law_found","_law_at"]) (sc:=aq aQ) (N':=["_law_k","_law_many"]) (by trivial)) rfl rfl rfl (cQ (cD Mr) T.b_range (aa (gD 1 Ms) ao)) (fun C s₀ H₀ ex=>(jz 0 (by trivial) mO)) (fun C s₀ H₀ ex=>gk) (fun C s₀ H₀ ex=>(aN cL (cW 1 (by trivial)) (cF 0 (by trivial))))) (aa (au 2 kz2t) ao))) (by trivial))) (cj (i:=5) fW.nd rfl (Or.inl Mt) rfl) (aD (bW (jj (K:=K) rfl PySem.F.plainAttrs_list PySem.F.slot_list_append PySem.F.type_list_append dY (au 4 Ja) (aa (jj (K:=K) rfl PySem.F.plainAttrs_list PySem.F.slot_list_pop PySem.F.type_list_pop CK (au 3 Mu) (aa (au 5 Mt) ao)) ao))))) (aD (aW (au 4 Ja)))))),?_⟩
 walk_at "s"
 have hs:20000<=sizeLine:=by decide
 refine ⟨m,rfl,by omega,?_⟩
 walk_at "s"
 intro lf nlf
 rw [Ia]
 have S1:Same H (upd H lf (.lst ((nI (List.range m)).map V.int))):=(Same.refl H).upd nlf
 have hlf:upd H lf (.lst ((nI (List.range m)).map V.int)) lf=some (.lst ((nI (List.range m)).map V.int)):=aj
 generalize upd H lf (.lst ((nI (List.range m)).map V.int))=H1 at S1 hlf ⊢
 walk_at "s"
 refine dI rfl fun fd H2 nfd S2 hfd2=>?_
 walk_at "s"
 have hlf2:=S2 _ _ hlf
 have nfd0:=Same.back S1 nfd
 have ne:lf≠fd:=fun z=>by rw [z,nfd] at hlf;cases hlf
 refine ⟨_,rfl,by omega,by omega,?_⟩
 rw [show ((m:Int)).toNat=m by omega]
 refine iT (n:=m) (fun i=>.int ((m:Int) - (i:Int))) (by omega) ?_ ?_
 ·intro i hi
  walk_at "s"
  refine ⟨KeepSt.set rfl,?_⟩
  walk_at "s"
  exact ⟨rfl,gF (by rw [Int.zero_add])⟩
 intro bs H3 nbs S3 hbs
 replace hbs:H3 bs=some (.lst (((List.range m).map fun i:Nat=>(m:Int) - (i:Int)).map V.int)):=by rw [hbs,List.map_map];rfl
 have hlf3:=S3 _ _ hlf2
 have hfd3:=S3 _ _ hfd2
 walk_at "s"
 refine ⟨n,bs,(List.range m).map (fun i:Nat=>(m:Int) - (i:Int)),pr,rfl,hbs,by simp;omega,(fun x hx=>by obtain ⟨i,hi,rfl⟩:=List.mem_map.mp hx;have:=List.mem_range.mp hi;exact ⟨by omega,by omega⟩),hp0,hp1,fun tk ms H4 ntk S4 htk hF=>?_⟩
 walk_at "s"
 have ml:ms.length=m:=by rw [hF.1];simp
 have hlf4:=S4 _ _ hlf3
 have hfd4:=S4 _ _ hfd3
 have tl:tk≠lf:=fun z=>by rw [z,hlf3] at ntk;cases ntk
 have tf:tk≠fd:=fun z=>by rw [z,hfd3] at ntk;cases ntk
 have U4:=S1.trans (S2.trans (S3.trans S4))
 refine .inl ⟨tk,rfl,⟨_,SqL.of htk⟩,?_⟩
 refine kZ (xs:=ms.map V.int) (fun k U H'=>∃ (L F:List Nat) (x5:Option V),U=[some (.int n),some (.int m),some (.int pr),some (.ref lf),some (.ref fd),x5]/\Same H H'/\H' tk=some (.lst (ms.map V.int))/\H' lf=some (.lst ((nI L).map V.int))/\H' fd=some (.lst ((nI F).map V.int))/\(F ++ L).Perm (List.range m)/\L.length+k=m)
  ⟨List.range m,[],_,rfl,U4,htk,hlf4,hfd4,List.Perm.refl _,by simp⟩ (fun i U H' _ h=>?_) ?_ ?_
 ·obtain ⟨_,_,_,_,_,h,_⟩:=h
  exact SqL.of h
 ·rintro k v U H' hk ⟨L,F,x5,rfl,s,ht,hl,hf,hp,hlen⟩
  have hkm:k < m:=by have:=(List.getElem?_eq_some_iff.mp hk).1;rw [List.length_map] at this;omega
  rw [List.getElem?_map] at hk
  obtain ⟨cI,hc,rfl⟩:∃ y,ms[k]?=some y/\v=V.int y:=by
   cases e:ms[k]? with
   | none=>rw [e] at hk;cases hk
   | some y=>rw [e] at hk;exact ⟨y,rfl,(Option.some.inj hk).symm⟩
  obtain ⟨b0,b1⟩:=hF.2 k cI ((m:Int) - (k:Int)) hc (by rw [List.getElem?_map,List.getElem?_range hkm];rfl)
  obtain ⟨c,rfl⟩:∃ c:Nat,cI=(c:Int):=⟨cI.toNat,by omega⟩
  have hcl:c < L.length:=by omega
  have hFl:F.length=k:=by have:=hp.length_eq;rw [List.length_append,List.length_range] at this;omega
  walk_at "s"
  refine ⟨.inl ⟨rfl,_,SqL.of hf⟩,?_⟩
  walk_at "s"
  refine ⟨.inl ⟨rfl,_,SqL.of hl⟩,?_⟩
  walk_at "s"
  refine HN hl (Fi (getD_some hcl)) (by omega) ?_
  walk_at "s"
  rw [z7]
  refine dN (by rw [aA (Ne.symm ne)];exact hf) (by rw [bM];omega) ?_
  walk_at "s"
  rw [vI]
  refine ⟨_,_,_,rfl,Same.put (Same.put s nlf) nfd0,by rw [aA tf,aA tl];exact ht,by rw [aA ne];exact aj,aj,?_,by rw [List.length_eraseIdx_of_lt hcl];omega⟩
  refine List.Perm.trans ?_ hp
  rw [List.append_assoc]
  refine List.Perm.append_left _ ?_
  have e:L.getD c 0=L[c]:=by rw [List.getD_eq_getElem?_getD,List.getElem?_eq_getElem hcl];rfl
  rw [e]
  exact oZ L c hcl
 ·rintro U H' ⟨L,F,x5,rfl,s,ht,hl,hf,hp,hlen⟩
  walk_at "s"
  rw [List.length_map,ml] at hlen
  have e:L=[]:=List.length_eq_zero_iff.mp (by omega)
  subst e
  rw [List.append_nil] at hp
  have hFl:F.length=m:=by rw [hp.length_eq];simp
  exact q fd F H' nfd0 s hf ⟨by omega,by rw [hFl];exact hp⟩ hFl
def Jf:Sp:=fun vs H Q _=>∃ n:Int,vs=[.int n]/\∀ m:Nat,m<=60->Q (.int m) H
theorem tD:aG ["_law_cell_here"] ["_law_cell_here"] (aq jk):=⟨rfl,rfl,rfl,by trivial,rfl,by trivial,by trivial⟩
theorem kW (T:Txt K mg):ph P w K mg base 1 "_law_size" ["_law_cell_here"] Jf:=by
 refine jX T.d_law_size tD (fun _ _ _ _ _ _ us hl=>L2.vR (fun _=>rfl) us hl) ?_ fun f cdv A outer s H vs Q E hr h=>?_
 ·rintro vs H Q E ⟨n,rfl,_⟩;rfl
 obtain ⟨n,rfl,q⟩:=h
 have hu:=hr.units0
 have hu64:=hr.units
 refine ⟨_,(az (dM (bT (gJ (K:=K) rfl hu64) (aN d8 (au 0 Jb) aB) aB (by walk_at "p")) (aD (aW (aN d8 (aN jC (au 0 Jb) aB) aB))) dq) (aD (aW (aN d8 (aN aJ (aN jC (au 0 Jb) aB) aB) aB)))),?_⟩
 walk_at "s"
 refine pq (fun h=>?_) (fun h=>?_)
 ·walk_at "s"
  obtain ⟨m,hm⟩:∃ m:Nat,n / 8 % 61=(m:Int):=⟨(n / 8 % 61).toNat,by omega⟩
  rw [hm]
  exact q m (by omega)
 ·walk_at "s"
  obtain ⟨m,hm⟩:∃ m:Nat,(n / 8+5) % 13=(m:Int):=⟨((n / 8+5) % 13).toNat,by omega⟩
  rw [hm]
  exact q m (by omega)
end
local macro_rules | `(tactic| walk_at "s") => `(tactic| (with_reducible repeat (first | refine j4 ?_ | walk_at "4")))
local macro_rules | `(tactic| walk_at "n") => `(tactic| (with_reducible repeat (walk_at "4")))
section
variable {P:Program} {w:World} {K:W.Frag} {mg:Str->Option Value} {base:Heap}
theorem jc:(["_law_end","_law_many","_law_begin"]:List Str).Nodup:=by trivial
theorem jd:(["_law_end","_law_many","_law_goal"]:List Str).Nodup:=by trivial
theorem Jg:bL aK "_law_found":=by trivial
theorem kz32:dH aK "range":=by trivial
theorem Dz:bL aK "_law_wide":=by trivial
theorem Jh:sW aK "_law_begin":=by trivial
theorem Mv:dH aK "enumerate":=by trivial
theorem DG:bL aK "_law_numbered":=by trivial
theorem kz37:sW aK "_law_goal":=by trivial
theorem Mw:bL aK "_law_turning_here":=by trivial
theorem Mx:bL aK "_law_tall":=by trivial
theorem kz3a:dH aK "len":=by trivial
theorem kY {sub:List (Option Nat)} {g:TG} {tt:TT} {te:TE} {U:St} {Q:VK} {H:Hp} {a:Addr} {xs:List V} (Pv:Nat->List V->Hp->Prop) (hn:xs.length<=sizeLine) (h0:Pv 0 [] H) (hl:∀ i ys H,Pv i ys H->ys.length<=i) (hq:∀ i ys H,Pv i ys H->SqL K H a xs)
  (hs:∀ i ys H T x,xs[i]?=some x->Pv i ys H->H T=none->g (.ref T) (cC sub U) (upd H T (.tup [.int i,x])) fun σ2 H2=>KeepSt (cC sub U) σ2/\tt σ2 H2 fun b H3=>if b=true then te σ2 H3 fun y H4=>Pv (i+1) (ys ++ [y]) H4 else Pv (i+1) ys H3)
  (hd:∀ ys H D H',Pv xs.length ys H->H D=none->Same H H'->H' D=some (.lst ys)->Q (.ref D) H'):mX sub g tt te U Q (Nk K a) H:=
 qL (n:=xs.length) Pv hn h0 hl (fun i ys H hi p=>⟨xs,xs[i],hq i ys H p,List.getElem?_eq_getElem hi⟩) (fun ys H p=>⟨xs,hq _ ys H p,Nat.le_refl _⟩) (fun i ys H x H' hi p y=>by
  obtain ⟨T,u,hT,e1,e2,e4⟩:=y
  subst e1 e4
  exact hs i ys H T u (e2 xs (hq i ys H p)) p hT) fun ys H p D nD=>hd ys H D _ p nD ((Same.refl H).upd nD) aj
def lY (t:List Nat) (m f b:Nat):List Int:=(List.range (f+1)).map fun e=>((mj t (m+b) e:Nat):Int)
def jt (t:List Nat) (m f b:Nat):List Int:=(List.range (f+1)).map fun e=>rk t m 0 m b e
theorem jK (t:List Nat) (m f b:Nat):((lY t m f b).map V.int).length=f+1:=by unfold lY;simp
theorem vO {t:List Nat} {m f b i:Nat} {v:V} (h:((lY t m f b).map V.int)[i]?=some v):i<=f/\v= .int ((mj t (m+b) i:Nat):Int):=by
 have hi:i < f+1:=by
  have:=(List.getElem?_eq_some_iff.mp h).1
  rw [jK] at this;exact this
 unfold lY at h
 rw [List.getElem?_map,List.getElem?_map,List.getElem?_range hi] at h
 exact ⟨by omega,(Option.some.inj h).symm⟩
theorem z8 {t:List Nat} {m f:Nat} (h:m+f=t.length):(List.replicate ((f:Int)+1).toNat [V.int 0]).flatten=(lY t m f f).map V.int:=by
 rw [show ((f:Int)+1).toNat=f+1 by omega]
 unfold lY
 rw [List.map_map]
 have:∀ n,(List.replicate n [V.int 0]).flatten=(List.range n).map fun _=>V.int 0:=fun n=>by
  induction n with
  | zero=>rfl
  | succ n ih=>rw [List.replicate_succ',List.flatten_append,ih,List.range_succ,List.map_append];rfl
 rw [this]
 refine List.map_congr_left fun e _=>?_
 show V.int 0=V.int ((mj t (m+f) e:Nat):Int)
 rw [h,vL];rfl
def Mz:Sp:=fun vs H Q _=>∃ (a:Addr) (t:List Nat) (m f:Nat),vs=[.ref a,.int m]/\H a=some (.lst ((nI t).map V.int))/\m+f=t.length/\t.length<=96/\∀ q rs H',H q=none->Same H H'->H' q=some (.lst rs)->CT H' rs (f+1) (jt t m f)->Q (.ref q) H'
theorem bV:aG ["_law_turning_here","_law_tall","_law_wide","_law_numbered","_law_found","_law_begin","_law_goal"] ["_law_turning_here","_law_tall"] (aq aK):=⟨rfl,rfl,rfl,by trivial,rfl,by trivial,by trivial⟩
theorem iK (T:Txt K mg):ph P w K mg base 1 "_law_lengths" ["_law_turning_here","_law_tall"] Mz:=by
 refine jX T.d_law_lengths bV (fun _ _ _ _ _ _ us hl=>L2.m5 (fun _ _=>rfl) us hl) ?_ fun f cdv A outer s H vs Q E hr h=>?_
 ·rintro vs H Q E ⟨a,t,m,f',rfl,_⟩;rfl
 obtain ⟨a,t,m,f',rfl,ha,hl,hle,q⟩:=h
 have hu:=hr.units0
 have hu64:=hr.units
 refine ⟨_,(az (aL (i:=2) bV.nd rfl (Or.inl Dz) (aN cL (bD (aV (K:=K) rfl) (cD kz3a) T.b_len cM (aa (au 0 Mw) ao) (by trivial) (by trivial)) (au 1 Mx)) rfl) (az (aL (i:=3) bV.nd rfl (Or.inl DG) (aN jg (jy (aa aB ao)) (aN aJ (au 2 Dz) aB)) rfl) (az (aL (i:=4) bV.nd rfl (Or.inl Jg) (jy ao) rfl) (az (gn PassesOwn.never rfl (qg (cD kz32) T.b_range (aa (au 2 Dz) (aa (rQ ju aB) (aa (rQ ju aB) ao)))) (cj (i:=5) bV.nd rfl (Or.inr Jh) rfl) (az (dM (bT uL (gD 5 Jh) (au 2 Dz) (by walk_at "p")) (az (aL (i:=6) bV.nd rfl (Or.inr kz37) (dJ (K:=K) rfl (au 0 Mw) (aN aJ (au 1 Mx) (gD 5 Jh))) rfl) (aD (jQ (i:=3) bV.nd rfl (Or.inl DG) (sub:=[none,none,some 6]) (b8 (N:=["_law_turning_here","_law_tall","_law_wide","_law_numbered","_law_found","_law_begin","_law_goal"]) (sc:=aq aK) (N':=["_law_end","_law_many","_law_goal"]) (by trivial)) rfl rfl rfl (qR (K:=K) rfl rfl (cD Mv) T.b_enumerate (aa (au 3 DG) ao)) (fun C s₀ H₀ ex=>(qP (K:=K) (n:=2) rfl rfl (cO (jz 0 (by trivial) jd) (cO (jz 1 (by trivial) jd) lQ)))) (fun C s₀ H₀ ex=>gk) (fun C s₀ H₀ ex=>(aN aJ (cF 1 (by trivial)) (oG v6 (Kv (by trivial)) T.b_int yM (aa (rR uL (cW 2 (by trivial)) (cF 0 (by trivial)) (by walk_at "p")) ao) (by trivial) (by trivial)))) rfl))) dq) (aD (bW (jj (K:=K) rfl PySem.F.plainAttrs_list PySem.F.slot_list_append PySem.F.type_list_append dY (au 4 Jg) (aa (jA (sub:=[none,none,some 5]) (b8 (N:=["_law_turning_here","_law_tall","_law_wide","_law_numbered","_law_found","_law_begin","_law_goal"]) (sc:=aq aK) (N':=["_law_end","_law_many","_law_begin"]) (by trivial)) rfl rfl rfl (qR (K:=K) rfl rfl (cD Mv) T.b_enumerate (aa (au 3 DG) ao)) (fun C s₀ H₀ ex=>(qP (K:=K) (n:=2) rfl rfl (cO (jz 0 (by trivial) jc) (cO (jz 1 (by trivial) jc) lQ)))) (fun C s₀ H₀ ex=>gk) (fun C s₀ H₀ ex=>(aN cL (aN cL (cF 0 (by trivial)) (cW 2 (by trivial))) (cF 1 (by trivial))))) ao)))))) (aD (aW (mG (K:=K) rfl (au 4 Jg) ji ji (nq (rQ ju aB))))))))),?_⟩
 walk_at "s"
 have hsz:20000<=sizeLine:=by decide
 refine cT (SqL.of ha) ?_
 walk_at "s"
 rw [bM,show (t.length:Int) - (m:Int)=(f':Int) by omega]
 walk_at "s"
 refine dI rfl fun p0 H1 _ S1 f1=>?_
 walk_at "s"
 refine qQ f1 (by omega) (by omega) (by simp;omega) fun p1 np1=>?_
 rw [z8 hl]
 have S2:=(Same.refl H1).upd np1 (o:=.lst ((lY t m f' f').map V.int))
 have f2:=aj (H:=H1) (a:=p1) (o:=.lst ((lY t m f' f').map V.int))
 generalize upd H1 p1 (.lst ((lY t m f' f').map V.int))=H2 at S2 f2 ⊢
 walk_at "s"
 refine dI rfl fun fd H3 nfd S3 hfd=>?_
 walk_at "s"
 have U2:=S1.trans S2
 have U3:=U2.trans S3
 have nfd0:=Same.back U2 nfd
 refine ⟨(f':Int),-1,-1,f'+1,rfl,by decide,PyProof.noPylong_small (by decide),small_down (by omega) (by omega),?_,?_⟩
 ·have:=qj (n:=f'+1)
  rwa [show ((f'+1:Nat):Int) - 1=(f':Int) by omega] at this
 refine sy (n:=f'+1) (fun k U G=>Same H G/\∃ (nb:Addr) (rs:List V) (x5 x6:Option V),U=[some (.ref a),some (.int (m:Int)),some (.int (f':Int)),some (.ref nb),some (.ref fd),x5,x6]/\G nb=some (.lst ((lY t m f' (f' - (k - 1))).map V.int))/\nb≠fd/\G fd=some (.lst rs)/\CT G rs k (fun j=>jt t m f' (f' - j))/\∀ r,V.ref r∈rs->r≠fd)
  ⟨U3,p1,[],_,_,rfl,S3 _ _ f2,(fun z=>by rw [z,nfd] at f2;cases f2),hfd,⟨rfl,fun k hk=>by omega⟩,(fun r hr=>nomatch hr)⟩ ?_ ?_
 ·rintro k U G hk ⟨sG,nb,rs,x5,x6,rfl,hnb,nne,hG,hC,hN⟩
  obtain ⟨b,eb⟩:∃ b:Nat,b=f' - k:=⟨_,rfl⟩
  have evb:(f':Int)+(k:Int)* -1=(b:Int):=by omega
  rw [evb]
  walk_at "n"
  with_reducible refine oN (fun U G'=>Same G G'/\∃ (nb':Addr) (x6:Option V),U=[some (.ref a),some (.int (m:Int)),some (.int (f':Int)),some (.ref nb'),some (.ref fd),some (.int (b:Int)),x6]/\G' nb'=some (.lst ((lY t m f' b).map V.int))/\nb'≠fd) ?_ ?_
  rotate_left
  ·intro N hN'
   walk_at "s"
   by_cases hb:b < f'
   ·rw [decide_eq_true (show (b:Int) < (f':Int) by omega)]
    walk_at "s"
    obtain ⟨le,hle2⟩:∃ le,t[m+b]?=some le:=⟨_,List.getElem?_eq_getElem (by omega)⟩
    refine bw (SqL.of (sG _ _ ha)) (Av (n:=m+b) (by omega) (Fi hle2)) ?_
    walk_at "s"
    rw [show f' - (k - 1)=b+1 by omega] at hnb
    refine .inr ⟨nb,_,rfl,SqL.of hnb,?_⟩
    refine kY (xs:=(lY t m f' (b+1)).map V.int) (fun j ys G'=>Same G G'/\ys=(List.range j).map fun e=>.int ((mj t (m+b) e:Nat):Int)) (by rw [jK];omega) ⟨Same.refl G,rfl⟩ ?_ ?_ ?_ ?_
    ·rintro j ys G' ⟨_,rfl⟩
     simp
    ·rintro j ys G' ⟨s,_⟩
     exact SqL.of (s _ _ hnb)
    ·rintro e ys G' T' x hx2 ⟨s,rfl⟩ nT
     obtain ⟨he,rfl⟩:=vO hx2
     have s2:=(Same.refl G').upd nT (o:=.tup [.int (e:Int),.int ((mj t (m+(b+1)) e:Nat):Int)])
     have f2':=aj (H:=G') (a:=T') (o:=.tup [.int (e:Int),.int ((mj t (m+(b+1)) e:Nat):Int)])
     generalize upd G' T' (.tup [.int (e:Int),.int ((mj t (m+(b+1)) e:Nat):Int)])=G2 at s2 f2' ⊢
     have ec:=jH (t:=t) (b:=m+b) (x:=le) hle2 e
     rw [show m+b+1=m+(b+1) by omega] at ec
     refine cU (SqT.of f2') rfl ?_
     walk_at "s"
     refine ⟨KeepSt.trans (KeepSt.set rfl) (KeepSt.set rfl),?_⟩
     walk_at "s"
     refine .inr ⟨_,rfl,?_⟩
     walk_at "s"
     refine ⟨s.trans s2,gF ?_⟩
     rw [ec]
     by_cases h:le < e
     ·rw [if_pos h,decide_eq_true (show (le:Int) < (e:Int) by omega)];rfl
     ·rw [if_neg h,decide_eq_false (show ¬ (le:Int) < (e:Int) by omega)];rfl
    ·rintro ys G1 nw G2 ⟨s,rfl⟩ nnw s2 hnw
     try walk_at "s"
     refine hN' _ _ ⟨s.trans s2,nw,_,rfl,?_,fun z=>by rw [z,s _ _ hG] at nnw;cases nnw⟩
     rw [hnw,jK]
     unfold lY
     rw [List.map_map];rfl
   ·rw [decide_eq_false (show ¬ (b:Int) < (f':Int) by omega)]
    walk_at "s"
    refine hN' _ _ ⟨Same.refl G,nb,_,rfl,?_,nne⟩
    rw [hnb,show f' - (k - 1)=b by omega]
  rintro U G1 ⟨s1,nb',x6,rfl,hnb',nne'⟩
  have hG1:=s1 _ _ hG
  walk_at "s"
  refine ⟨.inl ⟨rfl,_,SqL.of hG1⟩,?_⟩
  walk_at "s"
  refine .inr ⟨nb',_,rfl,SqL.of hnb',?_⟩
  refine kY (xs:=(lY t m f' b).map V.int) (fun j ys G'=>Same G1 G'/\ys=(List.range j).map fun e=>.int (rk t m 0 m b e)) (by rw [jK];omega) ⟨Same.refl G1,rfl⟩ ?_ ?_ ?_ ?_
  ·rintro j ys G' ⟨_,rfl⟩
   simp
  ·rintro j ys G' ⟨s,_⟩
   exact SqL.of (s _ _ hnb')
  ·rintro e ys G' T' x hx2 ⟨s,rfl⟩ nT
   obtain ⟨he,rfl⟩:=vO hx2
   have s2:=(Same.refl G').upd nT (o:=.tup [.int (e:Int),.int ((mj t (m+b) e:Nat):Int)])
   have f2':=aj (H:=G') (a:=T') (o:=.tup [.int (e:Int),.int ((mj t (m+b) e:Nat):Int)])
   generalize upd G' T' (.tup [.int (e:Int),.int ((mj t (m+b) e:Nat):Int)])=G2 at s2 f2' ⊢
   refine cU (SqT.of f2') rfl ?_
   walk_at "s"
   refine ⟨KeepSt.trans (KeepSt.set rfl) (KeepSt.set rfl),?_⟩
   walk_at "s"
   refine ⟨s.trans s2,gF ?_⟩
   unfold rk
   rw [show m - 0+b=m+b by omega,show m - m+e=e by omega]
  ·rintro ys G2 nw G3 ⟨s,rfl⟩ nnw s2 hnw
   try walk_at "s"
   have sG2:=s.trans s2
   have hrl:rs.length=k:=hC.1
   refine dN (sG2 _ _ hG1) (by omega) ?_
   walk_at "s"
   have hnw':G3 nw=some (.lst ((jt t m f' (f' - k)).map V.int)):=by
    rw [hnw,jK,← eb]
    unfold jt
    rw [List.map_map];rfl
   have nwf:nw≠fd:=fun z=>by rw [z,s _ _ hG1] at nnw;cases nnw
   have C2:=(hC.same (s1.trans sG2)).push hnw'
   have hN2:∀ r,V.ref r∈rs ++ [V.ref nw]->r≠fd:=fun r hr=>(List.mem_append.mp hr).elim (hN r) fun hr=>by
    cases List.mem_singleton.mp hr
    exact nwf
   refine ⟨Same.put (sG.trans (s1.trans sG2)) nfd0,nb',_,_,_,rfl,?_,nne',aj,⟨C2.1,fun j hj=>?_⟩,hN2⟩
   ·rw [aA nne',show f' - (k+1 - 1)=b by omega];exact sG2 _ _ hnb'
   ·obtain ⟨b',e1,hb'⟩:=C2.2 j hj
    exact ⟨b',e1,by rw [aA (hN2 b' (List.mem_of_getElem? e1))];exact hb'⟩
 ·rintro U G ⟨sG,nb,rs,x5,x6,rfl,hnb,nne,hG,hC,hN⟩
  walk_at "s"
  have hrl:rs.length=f'+1:=hC.1
  refine ⟨fd,rs,-1,rfl,rfl,by decide,SqL.of hG,by rw [iR,List.length_reverse];omega,fun qq nqq=>?_⟩
  rw [iR]
  have s5:=(Same.refl G).upd nqq (o:=.lst rs.reverse)
  refine q qq rs.reverse _ (Same.back sG nqq) (sG.trans s5) aj ?_
  have:=hC.rev.same s5
  refine ⟨this.1,fun k hk=>?_⟩
  obtain ⟨b,e1,hb⟩:=this.2 k hk
  refine ⟨b,e1,?_⟩
  rw [hb]
  show some (HO.lst (List.map V.int (jt t m f' (f' - (f'+1 - 1 - k)))))=_
  rw [show f' - (f'+1 - 1 - k)=k by omega]
theorem Ji:bL aH "_law_found":=by trivial
theorem MF:dH aH "range":=by trivial
theorem z9:bL aH "_law_wide":=by trivial
theorem DK:bL aH "_law_begin":=by trivial
theorem Jj:bL aH "_law_later":=by trivial
theorem DN:bL aH "_law_row":=by trivial
theorem wX:bL aH "_law_end":=by trivial
theorem Jk:bL aH "_law_within":=by trivial
theorem Jl:bL aH "_law_enough":=by trivial
theorem MJ:bL aH "_law_known":=by trivial
theorem kz3l:bL aH "_law_length":=by trivial
theorem kz3m:dH aH "len":=by trivial
theorem DP {t:List Nat} (hP:t.Nodup) (b e:Nat):mj t b (e+1)<=mj t b e+1:=by
 unfold mj
 have hn:(t.drop b).Nodup:=hP.sublist (List.drop_sublist _ _)
 generalize t.drop b=l at hn
 induction l with
 | nil=>simp
 | cons x l ih=>
  obtain ⟨h1,h2⟩:=List.nodup_cons.mp hn
  rw [List.countP_cons,List.countP_cons]
  have:=ih h2
  by_cases hx:x=e
  ·subst hx
   have:l.countP (fun y=>decide (y < x+1))=l.countP (fun y=>decide (y < x)):=List.countP_congr fun y hy=>by
    have:y≠x:=fun z=>h1 (z ▸ hy)
    simp only [decide_eq_true_eq]
    omega
   rw [this]
   simp
  ·by_cases hx2:x < e
   ·rw [if_pos (decide_eq_true (by omega)),if_pos (decide_eq_true hx2)];omega
   ·rw [if_neg (by simp;omega),if_neg (by simp;omega)];omega
theorem rk_e {t:List Nat} {m b e e':Nat} (hP:t.Nodup) (h:e<=e'):rk t m 0 m b e<=rk t m 0 m b e':=by
 induction e' with
 | zero=>obtain rfl:e=0:=by omega
         exact Int.le_refl _
 | succ n ih=>
  by_cases z:e=n+1
  ·subst z;exact Int.le_refl _
  ·refine Int.le_trans (ih (by omega)) ?_
   have:=DP hP (m - 0+b) n
   unfold rk
   rw [show m - m+n=n by omega,show m - m+(n+1)=n+1 by omega]
   omega
theorem MK {t:List Nat} {m f b b' e:Nat} (hl:m+f=t.length) (h:b<=b') (hf:b'<=f):rk t m 0 m b' e<=rk t m 0 m b e:=by
 induction b' with
 | zero=>obtain rfl:b=0:=by omega
         exact Int.le_refl _
 | succ n ih=>
  by_cases z:b=n+1
  ·subst z;exact Int.le_refl _
  ·refine Int.le_trans ?_ (ih (by omega) (by omega))
   obtain ⟨x,hx⟩:∃ x,t[m+n]?=some x:=⟨_,List.getElem?_eq_getElem (by omega)⟩
   have:=jH hx e
   unfold rk
   rw [show m - 0+(n+1)=m+n+1 by omega,show m - 0+n=m+n by omega,show m - m+e=e by omega]
   split at this <;> omega
def uE (t:List Nat) (m L b e:Nat):Prop:=∃ b' e',b<=b'/\b'<=e'/\e'<=e/\(L:Int)<=rk t m 0 m b' e'
theorem Aa {t:List Nat} {m L b e:Nat} (h:b<=e):uE t m L b e↔((L:Int)<=rk t m 0 m b e\/(uE t m L (b+1) e\/(1<=e/\uE t m L b (e - 1)))):=by
 constructor
 ·rintro ⟨b',e',h1,h2,h3,h4⟩
  by_cases z:b'=b
  ·by_cases z2:e'=e
   ·subst z z2;exact .inl h4
   ·exact .inr (.inr ⟨by omega,b',e',h1,h2,by omega,h4⟩)
  ·exact .inr (.inl ⟨b',e',by omega,h2,h3,h4⟩)
 ·rintro (h4 | ⟨b',e',h1,h2,h3,h4⟩ | ⟨h0,b',e',h1,h2,h3,h4⟩)
  ·exact ⟨b,e,Nat.le_refl _,h,Nat.le_refl _,h4⟩
  ·exact ⟨b',e',by omega,h2,h3,h4⟩
  ·exact ⟨b',e',h1,h2,by omega,h4⟩
theorem DQ {t:List Nat} {m f L b e:Nat} (hP:t.Nodup) (hl:m+f=t.length) (h:b<=e) (hf:e<=f):tgt t m f L b e↔((L:Int)<=rk t m 0 m b e/\¬ (uE t m L (b+1) e\/(1<=e/\uE t m L b (e - 1)))):=by
 constructor
 ·rintro ⟨_,_,h3,h4,h5⟩
  refine ⟨h3,?_⟩
  rintro (⟨b',e',c1,c2,c3,c4⟩ | ⟨h0,b',e',c1,c2,c3,c4⟩)
  ·rcases h5 with z | z
   ·omega
   ·have:=MK (e:=e') hl c1 (by omega)
    have:=rk_e (m:=m) (b:=b+1) hP c3
    omega
  ·have:=MK (e:=e') hl c1 (by omega)
   have:=h4 e' (by omega) (by omega)
   omega
 ·rintro ⟨h3,h4⟩
  refine ⟨h,hf,h3,fun e' c1 c2=>?_,?_⟩
  ·refine Int.not_le.mp fun z=>h4 (.inr ⟨by omega,b,e',Nat.le_refl _,c1,by omega,z⟩)
  ·by_cases z:b=e
   ·exact .inl z
   ·exact .inr (Int.not_le.mp fun z2=>h4 (.inl ⟨b+1,e,Nat.le_refl _,by omega,Nat.le_refl _,z2⟩))
open Classical in
def bR (t:List Nat) (m f L b e:Nat):List V:=(List.range (f+2)).map fun j=>V.bl (decide (j < e/\uE t m L b j))
theorem jV {t:List Nat} {m f b e:Nat} (h:e<=f):((jt t m f b).map V.int)[e]?=some (.int (rk t m 0 m b e)):=by
 unfold jt;rw [List.getElem?_map,List.getElem?_map,List.getElem?_range (by omega)];rfl
theorem o4 (t:List Nat) (m f L b e:Nat):(bR t m f L b e).length=f+2:=by unfold bR;simp
open Classical in
theorem tE {t:List Nat} {m f L b e j:Nat} (h:j < f+2):(bR t m f L b e)[j]?=some (V.bl (decide (j < e/\uE t m L b j))):=by
 unfold bR;rw [List.getElem?_map,List.getElem?_range h];rfl
theorem vP {t:List Nat} {m f L b e:Nat} (h:e<=b):(List.replicate (f+2) [V.bl false]).flatten=bR t m f L b e:=by
 have:∀ n,(List.replicate n [V.bl false]).flatten=(List.range n).map fun _=>V.bl false:=fun n=>by
  induction n with
  | zero=>rfl
  | succ n ih=>rw [List.replicate_succ',List.flatten_append,ih,List.range_succ,List.map_append];rfl
 rw [this]
 unfold bR
 refine List.map_congr_left fun j _=>?_
 congr 1
 symm
 rw [decide_eq_false_iff_not]
 rintro ⟨h1,b',e',h2,h3,h4,_⟩
 omega
open Classical in
theorem Jm {t:List Nat} {m f L b e:Nat} (h:e < f+2):(bR t m f L b e).set e (V.bl (decide (uE t m L b e)))=bR t m f L b (e+1):=by
 refine List.ext_getElem? fun j=>?_
 rw [List.getElem?_set,o4]
 by_cases hj:j < f+2
 ·have r1:=tE (t:=t) (m:=m) (L:=L) (b:=b) (e:=e+1) hj
  have r2:=tE (t:=t) (m:=m) (L:=L) (b:=b) (e:=e) hj
  by_cases z:e=j
  ·subst z
   rw [if_pos rfl,if_pos h,r1]
   exact congrArg (fun b=>some (V.bl b)) (decide_eq_decide.mpr ⟨fun c=>⟨by omega,c⟩,fun c=>c.2⟩)
  ·rw [if_neg z,r1,r2]
   exact congrArg (fun b=>some (V.bl b)) (decide_eq_decide.mpr ⟨fun c=>⟨by omega,c.2⟩,fun c=>⟨by omega,c.2⟩⟩)
 ·have r1:=List.getElem?_eq_none (l:=bR t m f L b (e+1)) (i:=j) (by rw [o4];omega)
  have r2:=List.getElem?_eq_none (l:=bR t m f L b e) (i:=j) (by rw [o4];omega)
  rw [if_neg (by omega),r1,r2]
structure Dc (P:Nat->Nat->Prop) (M:List (Nat×Nat)):Prop where
 so:M.Pairwise fun p q=>q.1 < p.1
 me:∀ b e,(b,e)∈M↔P b e
theorem Dc.iff {P P':Nat->Nat->Prop} {M:List (Nat×Nat)} (h:Dc P M) (hi:∀ b e,P b e↔P' b e):Dc P' M:=⟨h.so,fun b e=>(h.me b e).trans (hi b e)⟩
theorem Dc.take {P P':Nat->Nat->Prop} {b0 e0:Nat} {M:List (Nat×Nat)} (h:Dc P M) (hb:∀ b e,P b e->b0 < b) (hi:∀ b e,P' b e↔(P b e\/(b=b0/\e=e0))):Dc P' (M ++ [(b0,e0)]):=by
 refine ⟨List.pairwise_append.mpr ⟨h.so,List.pairwise_singleton _ _,fun p hp q hq=>?_⟩,fun b e=>?_⟩
 ·obtain ⟨b,e⟩:=p
  rw [List.mem_singleton.mp hq]
  exact hb b e ((h.me b e).mp hp)
 ·rw [List.mem_append,h.me,List.mem_singleton,hi,Prod.mk.injEq]
theorem Dc.len {P:Nat->Nat->Prop} {n:Nat} {M:List (Nat×Nat)} (h:Dc P M) (hb:∀ b e,P b e->b < n):M.length<=n:=by
 have:=uC M.reverse 0 n (List.pairwise_reverse.mpr h.so) fun p hp=>⟨Nat.zero_le _,hb p.1 p.2 ((h.me p.1 p.2).mp (List.mem_reverse.mp hp))⟩
 rcases this with z | z
 ·rw [List.reverse_eq_nil_iff.mp z];exact Nat.zero_le _
 ·rw [List.length_reverse] at z;omega
theorem T2.rev {H:Hp} {vs:List V} {M:List (Nat×Nat)} (h:T2 H vs M):T2 H vs.reverse M.reverse:=by
 refine ⟨by rw [List.length_reverse,List.length_reverse];exact h.1,fun i v p e1 e2=>?_⟩
 have hi:=(List.getElem?_eq_some_iff.mp e1).1
 rw [List.length_reverse] at hi
 rw [List.getElem?_reverse hi] at e1
 rw [List.getElem?_reverse (by rw [← h.1];exact hi),← h.1] at e2
 exact h.2 _ v p e1 e2
def Ab (K:W.Frag):Sp:=fun vs H Q _=>∃ (kn:Addr) (rs:List V) (t:List Nat) (m f L:Nat),vs=[.ref kn,.int L]/\H kn=some (.lst rs)/\CT H rs (f+1) (jt t m f)/\Prm t/\m+f=t.length/\
 ∀ q vs M H',H q=none->Same H H'->H' q=some (.lst vs)->T2 H' vs M->Ris (tgt t m f L) (f+1) M->Q (.ref q) H'
theorem aU:aG ["_law_known","_law_length","_law_wide","_law_found","_law_later","_law_begin","_law_row","_law_end","_law_within","_law_enough"] ["_law_known","_law_length"] (aq aH):=⟨rfl,rfl,rfl,by trivial,rfl,by trivial,by trivial⟩
theorem cH (T:Txt K mg):ph P w K mg base 1 "_law_tightest" ["_law_known","_law_length"] (Ab K):=by
 refine jX T.d_law_tightest aU (fun _ _ _ _ _ _ us hl=>L2.m5 (fun _ _=>rfl) us hl) ?_ fun f cdv A outer s H vs Q E hr h=>?_
 ·rintro vs H Q E ⟨kn,rs,t,m,f',L,rfl,_⟩;rfl
 obtain ⟨kn,rs,t,m,f',L,rfl,hkn,hC,hP,hl,q⟩:=h
 have hu:=hr.units0
 have hu64:=hr.units
 refine ⟨_,(az (aL (i:=2) aU.nd rfl (Or.inl z9) (aN cL (bD (aV (K:=K) rfl) (cD kz3m) T.b_len cM (aa (au 0 MJ) ao) (by trivial) (by trivial)) aB) rfl) (az (aL (i:=3) aU.nd rfl (Or.inl Ji) (jy ao) rfl) (az (aL (i:=4) aU.nd rfl (Or.inl Jj) (aN jg (jy (aa pA ao)) (aN aJ (au 2 z9) aB)) rfl) (az (gn PassesOwn.never rfl (qg (cD MF) T.b_range (aa (au 2 z9) (aa (rQ ju aB) (aa (rQ ju aB) ao)))) (cj (i:=5) aU.nd rfl (Or.inl DK) rfl) (az (aL (i:=6) aU.nd rfl (Or.inl DN) (aN jg (jy (aa pA ao)) (aN aJ (au 2 z9) aB)) rfl) (az (gn PassesOwn.never rfl (jP (cD MF) T.b_range (aa (au 5 DK) (aa (aN aJ (au 2 z9) aB) ao))) (cj (i:=7) aU.nd rfl (Or.inl wX) rfl) (az (aL (i:=8) aU.nd rfl (Or.inl Jk) (KR (dJ (K:=K) rfl (au 4 Jj) (au 7 wX)) (u9 (dJ (K:=K) rfl (au 6 DN) (aN cL (au 7 wX) aB)))) rfl) (az (aL (i:=9) aU.nd rfl (Or.inl Jl) (rR uN (dJ (K:=K) rfl (dJ (K:=K) rfl (au 0 MJ) (au 5 DK)) (au 7 wX)) (au 1 kz3l) (by walk_at "p")) rfl) (az (dM (qb (yQ (jh (au 9 Jl)) (u5 (kh (jh (au 8 Jk)))))) (aD (bW (jj (K:=K) rfl PySem.F.plainAttrs_list PySem.F.slot_list_append PySem.F.type_list_append dY (au 3 Ji) (aa (qd (aa (au 5 DK) (aa (au 7 wX) ao))) ao)))) dq) (aD (vf (ts:=vA) (KR (au 9 Jl) (u9 (au 8 Jk))) (yR (au 6 DN) (au 7 wX) (vB hu64)))))))) (aD (aL (i:=4) aU.nd rfl (Or.inl Jj) (au 6 DN) rfl))))) (aD (aW (mG (K:=K) rfl (au 3 Ji) ji ji (nq (rQ ju aB))))))))),?_⟩
 walk_at "s"
 have hsz:20000<=sizeLine:=by decide
 have hle:=hP.le
 refine cT (SqL.of hkn) ?_
 walk_at "s"
 rw [hC.1,show ((f'+1:Nat):Int) - 1=(f':Int) by omega]
 walk_at "s"
 refine dI rfl fun fd H1 nfd S1 hfd=>?_
 walk_at "s"
 refine dI rfl fun p0 H2 _ S2 f2=>?_
 walk_at "s"
 refine qQ f2 (by omega) (by omega) (by simp;omega) fun p1 np1=>?_
 rw [show ((f':Int)+2).toNat=f'+2 by omega,vP (t:=t) (m:=m) (L:=L) (b:=f'+1) (e:=f'+1) (Nat.le_refl _)]
 have S3:=(Same.refl H2).upd np1 (o:=.lst (bR t m f' L (f'+1) (f'+1)))
 have f3:=aj (H:=H2) (a:=p1) (o:=.lst (bR t m f' L (f'+1) (f'+1)))
 generalize upd H2 p1 (.lst (bR t m f' L (f'+1) (f'+1)))=H3 at S3 f3 ⊢
 walk_at "s"
 have U2:=S1.trans S2
 have U3:=U2.trans S3
 refine ⟨(f':Int),-1,-1,f'+1,rfl,by decide,PyProof.noPylong_small (by decide),small_down (by omega) (by omega),?_,?_⟩
 ·have:=qj (n:=f'+1)
  rwa [show ((f'+1:Nat):Int) - 1=(f':Int) by omega] at this
 refine sy (n:=f'+1) (fun k U G=>Same H G/\∃ (lt:Addr) (vs:List V) (W:List (Nat×Nat)) (x5 x6 x7 x8 x9:Option V),U=[some (.ref kn),some (.int (L:Int)),some (.int (f':Int)),some (.ref fd),some (.ref lt),x5,x6,x7,x8,x9]/\G lt=some (.lst (bR t m f' L (f'+1 - k) (f'+1)))/\lt≠fd/\G fd=some (.lst vs)/\T2 G vs W/\Dc (fun b e=>tgt t m f' L b e/\f'+1 - k<=b) W)
  ⟨U3,p1,[],[],_,_,_,_,_,rfl,f3,(fun z=>by rw [z,S2 _ _ hfd] at np1;cases np1),(S2.trans S3) _ _ hfd,T2.nil,⟨List.Pairwise.nil,fun b e=>⟨(fun h=>nomatch h),fun h=>by have:=h.1.1;have:=h.1.2.1;have:=h.2;omega⟩⟩⟩ ?_ ?_
 ·rintro k U G hk ⟨sG,lt,vs,W,x5,x6,x7,x8,x9,rfl,hlt,nlt,hG,h2,hD⟩
  obtain ⟨b,eb⟩:∃ b:Nat,b=f' - k:=⟨_,rfl⟩
  have evb:(f':Int)+(k:Int)* -1=(b:Int):=by omega
  rw [evb]
  rw [show f'+1 - k=b+1 by omega] at hlt hD
  walk_at "s"
  refine dI rfl fun q0 G1 _ s1 g1=>?_
  walk_at "s"
  refine qQ g1 (by omega) (by omega) (by simp;omega) fun rw' nrw=>?_
  rw [show ((f':Int)+2).toNat=f'+2 by omega,vP (t:=t) (m:=m) (L:=L) (b:=b) (e:=b) (Nat.le_refl _)]
  have s2:=(Same.refl G1).upd nrw (o:=.lst (bR t m f' L b b))
  have g2:=aj (H:=G1) (a:=rw') (o:=.lst (bR t m f' L b b))
  generalize upd G1 rw' (.lst (bR t m f' L b b))=G2 at s2 g2 ⊢
  have s12:=s1.trans s2
  have nrl:lt≠rw':=fun z=>by rw [← z,s1 _ _ hlt] at nrw;cases nrw
  have nrf:fd≠rw':=fun z=>by rw [← z,s1 _ _ hG] at nrw;cases nrw
  have nrw0:H rw'=none:=Same.back (sG.trans s1) nrw
  walk_at "s"
  refine ⟨⟨by omega,by omega,by omega,by omega⟩,?_⟩
  rw [show ((f':Int)+1 - (b:Int)).toNat=f'+1 - b by omega]
  refine iM (n:=f'+1 - b) (fun i U G=>Same H G/\∃ (vs:List V) (W:List (Nat×Nat)) (x7 x8 x9:Option V),U=[some (.ref kn),some (.int (L:Int)),some (.int (f':Int)),some (.ref fd),some (.ref lt),some (.int (b:Int)),some (.ref rw'),x7,x8,x9]/\G lt=some (.lst (bR t m f' L (b+1) (f'+1)))/\G rw'=some (.lst (bR t m f' L b (b+i)))/\G fd=some (.lst vs)/\T2 G vs W/\Dc (fun b' e'=>tgt t m f' L b' e'/\(b+1<=b'\/(b'=b/\e' < b+i))) W)
   ⟨sG.trans s12,vs,W,_,_,_,rfl,s12 _ _ hlt,g2,s12 _ _ hG,h2.same s12,hD.iff fun b' e'=>⟨fun h=>⟨h.1,.inl h.2⟩,fun h=>⟨h.1,h.2.resolve_right fun z=>by have:=h.1.1;omega⟩⟩⟩ ?_ ?_
  ·rintro i U G3 hi ⟨s3,vs,W,x7,x8,x9,rfl,hlt3,hrw3,hG3,h23,hD3⟩
   rw [show (b:Int)+(i:Int)=((b+i:Nat):Int) by omega]
   obtain ⟨e,ee⟩:∃ e,e=b+i:=⟨_,rfl⟩
   rw [← ee] at hrw3 hD3 ⊢
   classical
   walk_at "n"
   with_reducible refine oN (fun U G=>G=G3/\∃ v:Bool,(v=true↔(uE t m L (b+1) e\/(1<=e/\uE t m L b (e - 1))))/\U=[some (.ref kn),some (.int (L:Int)),some (.int (f':Int)),some (.ref fd),some (.ref lt),some (.int (b:Int)),some (.ref rw'),some (.int (e:Int)),some (.bl v),x9]) ?_ ?_
   rotate_left
   ·intro N hN
    walk_at "s"
    refine bw (SqL.of hlt3) (cV (tE (by omega))) ?_
    walk_at "s"
    by_cases c1:uE t m L (b+1) e
    ·rw [decide_eq_true (show e < f'+1/\uE t m L (b+1) e from ⟨by omega,c1⟩)]
     walk_at "s"
     exact hN _ _ ⟨rfl,true,⟨fun _=>.inl c1,fun _=>rfl⟩,rfl⟩
    ·rw [decide_eq_false (show ¬ (e < f'+1/\uE t m L (b+1) e) from fun z=>c1 z.2)]
     walk_at "s"
     have hix:∃ v,tL (bR t m f' L b e) ((e:Int) - 1)=some (V.bl v)/\(v=true↔(1<=e/\uE t m L b (e - 1))):=by
      by_cases e0:1<=e
      ·refine ⟨_,Av (n:=e - 1) (by omega) (tE (by omega)),?_⟩
       rw [decide_eq_true_iff]
       exact ⟨fun z=>⟨e0,z.2⟩,fun z=>⟨by omega,z.2⟩⟩
      ·refine ⟨_,by rw [show (e:Int) - 1= -1 by omega];exact HH (n:=f'+1) (o4 ..) (tE (by omega)),?_⟩
       rw [decide_eq_true_iff]
       exact ⟨fun z=>by have:=z.1;omega,fun z=>absurd z.1 e0⟩
     obtain ⟨v,hv,hvi⟩:=hix
     refine bw (SqL.of hrw3) hv ?_
     walk_at "s"
     exact hN _ _ ⟨rfl,v,⟨fun z=>.inr (hvi.mp z),fun z=>hvi.mpr (z.resolve_left c1)⟩,rfl⟩
   rintro U G ⟨rfl,wn,hwn,rfl⟩
   obtain ⟨pb,epb,hpb⟩:=hC.2 b (by omega)
   have hkn3:=s3 _ _ hkn
   have hpb3:=s3 _ _ hpb
   refine j4 ?_
   walk_at "n"
   refine bw (SqL.of hkn3) (cV epb) ?_
   walk_at "n"
   refine bw (SqL.of hpb3) (cV (jV (by omega))) ?_
   walk_at "n"
   have hti:=DQ (L:=L) hP.nd hl (show b<=e by omega) (show e<=f' by omega)
   have hni:=Aa (t:=t) (m:=m) (L:=L) (show b<=e by omega)
   have hvl:vs.length<=f'+1:=by rw [h23.1];exact hD3.len fun b' e' h=>by have:=h.1.1;have:=h.1.2.1;omega
   rw [← hwn] at hti hni
   clear hwn
   with_reducible refine oN (fun U G'=>Same H G'/\∃ (vs:List V) (W:List (Nat×Nat)),U=[some (.ref kn),some (.int (L:Int)),some (.int (f':Int)),some (.ref fd),some (.ref lt),some (.int (b:Int)),some (.ref rw'),some (.int (e:Int)),some (.bl wn),some (.bl (decide ((L:Int)<=rk t m 0 m b e)))]/\G' lt=some (.lst (bR t m f' L (b+1) (f'+1)))/\G' rw'=some (.lst (bR t m f' L b e))/\G' fd=some (.lst vs)/\T2 G' vs W/\Dc (fun b' e'=>tgt t m f' L b' e'/\(b+1<=b'\/(b'=b/\e' < e+1))) W) ?_ ?_
   rotate_left
   ·intro N hN
    have no:¬ ((L:Int)<=rk t m 0 m b e/\¬ wn=true)->Dc (fun b' e'=>tgt t m f' L b' e'/\(b+1<=b'\/(b'=b/\e' < e+1))) W:=fun hno=>hD3.iff fun b' e'=>⟨fun h=>⟨h.1,h.2.imp id fun z=>⟨z.1,by omega⟩⟩,fun h=>⟨h.1,h.2.imp id fun z=>⟨z.1,by
     have:e'≠e:=fun z2=>by
      have h1:=h.1
      rw [z.1,z2] at h1
      exact hno (hti.mp h1)
     omega⟩⟩⟩
    walk_at "s"
    by_cases c1:(L:Int)<=rk t m 0 m b e
    ·by_cases c2:wn=true
     ·rw [decide_eq_true c1,c2]
      walk_at "s"
      refine hN _ _ ⟨s3,vs,W,?_,hlt3,hrw3,hG3,h23,no fun z=>z.2 c2⟩
      rw [decide_eq_true c1,c2];rfl
     ·rw [decide_eq_true c1,Bool.eq_false_iff.mpr c2]
      walk_at "s"
      refine ⟨.inl ⟨rfl,_,SqL.of hG3⟩,?_⟩
      walk_at "s"
      refine dI rfl fun a G4 na s4 ha=>?_
      walk_at "s"
      refine dN (s4 _ _ hG3) (by omega) ?_
      walk_at "s"
      have ht:=hti.mpr ⟨c1,c2⟩
      refine hN _ _ ⟨Same.put (s3.trans s4) nfd,_,W ++ [(b,e)],?_,?_,?_,aj,((h23.same s4).push (p:=(b,e)) ha).put (s4 _ _ hG3),hD3.take (fun b' e' h=>?_) fun b' e'=>⟨fun h=>?_,fun h=>?_⟩⟩
      ·rw [decide_eq_true c1,Bool.eq_false_iff.mpr c2];rfl
      ·rw [aA nlt];exact s4 _ _ hlt3
      ·rw [aA nrf.symm];exact s4 _ _ hrw3
      ·rcases h.2 with z | z
       ·omega
       ·have h1:=h.1
        rw [z.1] at h1
        have:=oY h1 ht
        omega
      ·rcases h.2 with z | z
       ·exact .inl ⟨h.1,.inl z⟩
       ·have h1:=h.1
        rw [z.1] at h1
        exact .inr ⟨z.1,oY h1 ht⟩
      ·rcases h with h | ⟨rfl,rfl⟩
       ·exact ⟨h.1,h.2.imp id fun z=>⟨z.1,by omega⟩⟩
       ·exact ⟨ht,.inr ⟨rfl,by omega⟩⟩
    ·rw [decide_eq_false c1]
     walk_at "s"
     refine hN _ _ ⟨s3,vs,W,?_,hlt3,hrw3,hG3,h23,no fun z=>c1 z.1⟩
     rw [decide_eq_false c1];rfl
   rintro U G4 ⟨s4,vs,W,rfl,hlt4,hrw4,hG4,h24,hD4⟩
   have fin:∀ v,v=decide (uE t m L b e)->Same H (upd G4 rw' (.lst ((bR t m f' L b e).set e (.bl v))))/\∃ (vs:List V) (W:List (Nat×Nat)) (x7 x8 x9:Option V),[some (.ref kn),some (.int (L:Int)),some (.int (f':Int)),some (.ref fd),some (.ref lt),some (.int (b:Int)),some (.ref rw'),some (.int (e:Int)),some (.bl wn),some (.bl (decide ((L:Int)<=rk t m 0 m b e)))]=[some (.ref kn),some (.int (L:Int)),some (.int (f':Int)),some (.ref fd),some (.ref lt),some (.int (b:Int)),some (.ref rw'),x7,x8,x9]/\upd G4 rw' (.lst ((bR t m f' L b e).set e (.bl v))) lt=some (.lst (bR t m f' L (b+1) (f'+1)))/\upd G4 rw' (.lst ((bR t m f' L b e).set e (.bl v))) rw'=some (.lst (bR t m f' L b (b+(i+1))))/\upd G4 rw' (.lst ((bR t m f' L b e).set e (.bl v))) fd=some (.lst vs)/\T2 (upd G4 rw' (.lst ((bR t m f' L b e).set e (.bl v)))) vs W/\Dc (fun b' e'=>tgt t m f' L b' e'/\(b+1<=b'\/(b'=b/\e' < b+(i+1)))) W:=fun v hv=>by
    refine ⟨Same.put s4 nrw0,vs,W,_,_,_,rfl,by rw [aA nrl];exact hlt4,?_,by rw [aA nrf];exact hG4,h24.put hrw4,hD4.iff fun b' e'=>by rw [show b+(i+1)=e+1 by omega]⟩
    rw [aj,hv,Jm (by omega),show b+(i+1)=e+1 by omega]
   have ixe:wg (bR t m f' L b e).length (e:Int)=some e:=Lk rfl (by rw [o4];omega)
   walk_at "s"
   by_cases c1:(L:Int)<=rk t m 0 m b e
   ·rw [decide_eq_true c1]
    walk_at "s"
    refine vC hrw4 ixe ?_
    have:=fin true (decide_eq_true (hni.mpr (.inl c1))).symm
    rw [decide_eq_true c1] at this
    exact this
   ·rw [decide_eq_false c1]
    walk_at "s"
    refine vC hrw4 ixe ?_
    have:=fin wn (by
     cases wn with
     | true=>exact (decide_eq_true (hni.mpr (.inr rfl))).symm
     | false=>exact (decide_eq_false fun z=>absurd ((hni.mp z).resolve_left c1) (by decide)).symm)
    rw [decide_eq_false c1] at this
    exact this
  ·rintro U G3 ⟨s3,vs,W,x7,x8,x9,rfl,hlt3,hrw3,hG3,h23,hD3⟩
   walk_at "s"
   rw [show b+(f'+1 - b)=f'+1 by omega] at hrw3 hD3
   refine ⟨s3,rw',vs,W,_,_,_,_,_,rfl,?_,nrf.symm,hG3,h23,hD3.iff fun b' e'=>⟨fun h=>⟨h.1,by have:=h.1.2.1;omega⟩,fun h=>⟨h.1,by have:=h.1.1;have:=h.1.2.1;omega⟩⟩⟩
   rw [hrw3,show f'+1 - (k+1)=b by omega]
 ·rintro U G ⟨sG,lt,vs,W,x5,x6,x7,x8,x9,rfl,hlt,nlt,hG,h2,hD⟩
  walk_at "s"
  have hvl:vs.length<=f'+1:=by rw [h2.1];exact hD.len fun b' e' h=>by have:=h.1.1;have:=h.1.2.1;omega
  refine ⟨fd,vs,-1,rfl,rfl,by decide,SqL.of hG,by rw [iR,List.length_reverse];omega,fun qq nqq=>?_⟩
  rw [iR]
  have s5:=(Same.refl G).upd nqq (o:=.lst vs.reverse)
  refine q qq vs.reverse W.reverse _ (Same.back sG nqq) (sG.trans s5) aj (h2.rev.same s5) ?_
  exact ⟨List.pairwise_reverse.mpr hD.so,fun b e=>by
   rw [List.mem_reverse,hD.me]
   exact ⟨fun h=>⟨by have:=h.1.1;have:=h.1.2.1;omega,h.1⟩,fun h=>⟨h.2,by omega⟩⟩⟩
theorem o5:(["_law_at","_law_row"]:List Str).Nodup:=by trivial
theorem ni:(["_law_at","_law_known","_law_end"]:List Str).Nodup:=by trivial
theorem MN:dH aZ "range":=by trivial
theorem Jo:bL aZ "_law_wide":=by trivial
theorem DW:bL aZ "_law_width":=by trivial
theorem Ac:bL aZ "_law_begin":=by trivial
theorem MP:bL aZ "_law_known":=by trivial
theorem kz3s:bL aZ "_law_length":=by trivial
theorem kz3t:dH aZ "len":=by trivial
theorem kz3u:dH cz "range":=by trivial
theorem kz3v:dH cz "len":=by trivial
theorem MT:sW cz "_law_row":=by trivial
theorem M3:bL cz "_law_begin":=by trivial
theorem kz3y:bL cz "_law_known":=by trivial
theorem kz3z:dH dF "range":=by trivial
theorem kz40:sW dF "_law_end":=by trivial
theorem M4 {t:List Nat} {m b e:Nat}:rk t m 0 m b (e+1)<=rk t m 0 m b e+1:=by
 have:mj t (m - 0+b) e<=mj t (m - 0+b) (e+1):=by
  unfold mj
  exact List.countP_mono_left fun x _ h=>decide_eq_true (by have:=of_decide_eq_true h;omega)
 unfold rk
 rw [show m - m+e=e by omega,show m - m+(e+1)=e+1 by omega]
 omega
theorem M5 {t:List Nat} {m f b e:Nat} (hl:m+f=t.length) (hb:b < f):rk t m 0 m b e<=rk t m 0 m (b+1) e+1:=by
 obtain ⟨x,hx⟩:∃ x,t[m+b]?=some x:=⟨_,List.getElem?_eq_getElem (by omega)⟩
 have:=jH hx e
 unfold rk
 rw [show m - 0+(b+1)=m+b+1 by omega,show m - 0+b=m+b by omega,show m - m+e=e by omega]
 split at this <;> omega
def Ad (K:W.Frag):Sp:=fun vs H Q _=>∃ (kn:Addr) (rs:List V) (t:List Nat) (m f L:Nat),vs=[.ref kn,.int L]/\H kn=some (.lst rs)/\CT H rs (f+1) (jt t m f)/\f<=96/\
 ((∀ b e,¬ IK t m f L b e)->Q .non H)/\∀ (a:Addr) (b e:Nat) (H':Hp),H a=none->Same H H'->H' a=some (.tup [.int (b:Int),.int (e:Int)])->Du t m f L b e->Q (.ref a) H'
theorem dR:aG ["_law_known","_law_length","_law_wide","_law_width","_law_begin"] ["_law_known","_law_length"] (aq aZ):=⟨rfl,rfl,rfl,by trivial,rfl,by trivial,by trivial⟩
theorem cJ (T:Txt K mg):ph P w K mg base 1 "_law_shortest" ["_law_known","_law_length"] (Ad K):=by
 refine jX T.d_law_shortest dR (fun _ _ _ _ _ _ us hl=>L2.m5 (fun _ _=>rfl) us hl) ?_ fun f cdv A outer s H vs Q E hr h=>?_
 ·rintro vs H Q E ⟨kn,rs,t,m,f',L,rfl,_⟩;rfl
 obtain ⟨kn,rs,t,m,f',L,rfl,hkn,hC,hf,q0,q1⟩:=h
 have hu:=hr.units0
 have hu64:=hr.units
 refine ⟨_,(az (aL (i:=2) dR.nd rfl (Or.inl Jo) (aN cL (bD (aV (K:=K) rfl) (cD kz3t) T.b_len cM (aa (au 0 MP) ao) (by trivial) (by trivial)) aB) rfl) (az (gn PassesOwn.never rfl (cQ (cD MN) T.b_range (aa (aN aJ (au 2 Jo) aB) ao)) (cj (i:=3) dR.nd rfl (Or.inl DW) rfl) (aD (gn PassesOwn.never rfl (cQ (cD MN) T.b_range (aa (aN aJ (aN cL (au 2 Jo) (au 3 DW)) aB) ao)) (cj (i:=4) dR.nd rfl (Or.inl Ac) rfl) (aD (dM (bT uN (dJ (K:=K) rfl (dJ (K:=K) rfl (au 0 MP) (au 4 Ac)) (aN aJ (au 4 Ac) (au 3 DW))) (au 1 kz3s) (by walk_at "p")) (aD (aW (qd (aa (au 4 Ac) (aa (aN aJ (au 4 Ac) (au 3 DW)) ao))))) dq))))) (aD (aW u0)))),?_⟩
 walk_at "s"
 have hsz:20000<=sizeLine:=by decide
 refine cT (SqL.of hkn) ?_
 walk_at "s"
 rw [hC.1,show ((f'+1:Nat):Int) - 1=(f':Int) by omega]
 walk_at "s"
 refine ⟨_,rfl,by omega,by omega,?_⟩
 rw [show ((f':Int)+1).toNat=f'+1 by omega]
 refine iM (n:=f'+1) (fun w U G=>G=H/\(∀ b e,IK t m f' L b e->w<=e - b)/\∃ x3 x4,U=[some (.ref kn),some (.int (L:Int)),some (.int (f':Int)),x3,x4]) ⟨rfl,(fun b e _=>Nat.zero_le _),_,_,rfl⟩ ?_ ?_
 ·rintro w U G hw ⟨rfl,hall,x3,x4,rfl⟩
  rw [Int.zero_add]
  walk_at "s"
  refine ⟨_,rfl,by omega,by omega,?_⟩
  rw [show ((f':Int) - (w:Int)+1).toNat=f' - w+1 by omega]
  refine iM (n:=f' - w+1) (fun i U G'=>G'=G/\(∀ b e,IK t m f' L b e->w < e - b\/(e - b=w/\i<=b))/\∃ x4,U=[some (.ref kn),some (.int (L:Int)),some (.int (f':Int)),some (.int (w:Int)),x4]) ⟨rfl,(fun b e h=>by have:=hall b e h;omega),_,rfl⟩ ?_ ?_
  ·rintro i U G' hi ⟨rfl,hin,x4,rfl⟩
   rw [Int.zero_add]
   obtain ⟨pb,epb,hpb⟩:=hC.2 i (by omega)
   walk_at "s"
   refine bw (SqL.of hkn) (cV epb) ?_
   walk_at "s"
   refine bw (SqL.of hpb) (Av (n:=i+w) (by omega) (jV (by omega))) ?_
   walk_at "s"
   by_cases hc:(L:Int)<=rk t m 0 m i (i+w)
   ·rw [decide_eq_true hc]
    walk_at "s"
    refine dI rfl fun a G2 na s2 ha=>?_
    walk_at "s"
    refine q1 a i (i+w) G2 na s2 (by rw [ha,show (i:Int)+(w:Int)=((i+w:Nat):Int) by omega]) ⟨⟨by omega,by omega,hc⟩,fun b' e' h=>?_⟩
    have:=hin b' e' h
    omega
   ·rw [decide_eq_false hc]
    walk_at "s"
    refine ⟨rfl,fun b e h=>?_,_,rfl⟩
    rcases hin b e h with z | ⟨z1,z2⟩
    ·exact .inl z
    ·by_cases z3:b=i
     ·subst z3
      have h1:=h.1
      have h3:=h.2.2
      rw [show e=b+w by omega] at h3
      exact absurd h3 hc
     ·exact .inr ⟨z1,by omega⟩
  ·rintro U G' ⟨rfl,hin,x4,rfl⟩
   walk_at "s"
   refine ⟨rfl,fun b e h=>?_,_,_,rfl⟩
   have:=hin b e h
   have:=h.1
   have:=h.2.1
   omega
 ·rintro U G ⟨rfl,hall,x3,x4,rfl⟩
  walk_at "s"
  refine q0 fun b e h=>?_
  have:=hall b e h
  have:=h.1
  have:=h.2.1
  omega
def Ae (K:W.Frag):Sp:=fun vs H Q _=>∃ (kn:Addr) (rs:List V) (t:List Nat) (m f b:Nat),vs=[.ref kn,.int b]/\H kn=some (.lst rs)/\CT H rs (f+1) (jt t m f)/\f<=96/\b<=f/\∀ q H',H q=none->Same H H'->H' q=some (.lst ((gnL t m f b).map V.int))->Q (.ref q) H'
theorem lZ:aG ["_law_known","_law_begin","_law_row"] ["_law_known","_law_begin"] (aq cz):=⟨rfl,rfl,rfl,by trivial,rfl,by trivial,by trivial⟩
theorem jL (T:Txt K mg):ph P w K mg base 1 "_law_gains" ["_law_known","_law_begin"] (Ae K):=by
 refine jX T.d_law_gains lZ (fun _ _ _ _ _ _ us hl=>L2.m5 (fun _ _=>rfl) us hl) ?_ fun f cdv A outer s H vs Q E hr h=>?_
 ·rintro vs H Q E ⟨kn,rs,t,m,f',b,rfl,_⟩;rfl
 obtain ⟨kn,rs,t,m,f',b,rfl,hkn,hC,hf,hb,q⟩:=h
 have hu:=hr.units0
 have hu64:=hr.units
 refine ⟨_,(az (aL (i:=2) lZ.nd rfl (Or.inr MT) (dJ (K:=K) rfl (au 0 kz3y) (au 1 M3)) rfl) (aD (aW (jA (sub:=[none,some 2]) (b8 (N:=["_law_known","_law_begin","_law_row"]) (sc:=aq cz) (N':=["_law_at","_law_row"]) (by trivial)) rfl rfl rfl (jP (cD kz3u) T.b_range (aa (au 1 M3) (aa (aN cL (bD (aV (K:=K) rfl) (cD kz3v) T.b_len cM (aa (gD 2 MT) ao) (by trivial) (by trivial)) aB) ao))) (fun C s₀ H₀ ex=>(jz 0 (by trivial) o5)) (fun C s₀ H₀ ex=>(nu (bT (gJ (K:=K) rfl hu64) (dJ (K:=K) rfl (cW 1 (by trivial)) (aN aJ (cF 0 (by trivial)) aB)) (aN aJ (dJ (K:=K) rfl (cW 1 (by trivial)) (cF 0 (by trivial))) aB) (by walk_at "p")))) (fun C s₀ H₀ ex=>(cF 0 (by trivial))))))),?_⟩
 walk_at "s"
 have hsz:20000<=sizeLine:=by decide
 obtain ⟨pb,epb,hpb⟩:=hC.2 b (by omega)
 refine bw (SqL.of hkn) (cV epb) ?_
 walk_at "s"
 refine cT (SqL.of hpb) ?_
 walk_at "s"
 rw [show ((jt t m f' b).map V.int).length=f'+1 by unfold jt;simp]
 walk_at "s"
 refine ⟨⟨by omega,by omega,by omega,by omega⟩,?_⟩
 rw [show (((f'+1:Nat):Int) - 1 - (b:Int)).toNat=f' - b by omega]
 refine gG (n:=f' - b) (fun i ys G=>G=H/\ys=(((List.range i).filter fun i=>decide (rk t m 0 m b (b+i) < rk t m 0 m b (b+i+1))).map fun i=>V.int ((b+i:Nat):Int))) (by omega) ⟨rfl,rfl⟩ ?_ ?_ ?_
 ·rintro i ys G ⟨_,rfl⟩
  rw [List.length_map]
  have:=List.length_filter_le (fun i=>decide (rk t m 0 m b (b+i) < rk t m 0 m b (b+i+1))) (List.range i)
  rw [List.length_range] at this
  exact this
 ·rintro i ys G hi ⟨rfl,rfl⟩
  rw [show (b:Int)+(i:Int)=((b+i:Nat):Int) by omega]
  walk_at "s"
  refine ⟨KeepSt.set rfl,?_⟩
  walk_at "s"
  refine bw (SqL.of hpb) (Av (n:=b+i+1) (by omega) (jV (by omega))) ?_
  walk_at "s"
  refine bw (SqL.of hpb) (Av (n:=b+i) rfl (jV (by omega))) ?_
  walk_at "s"
  rw [jU i]
  have h1:=M4 (t:=t) (m:=m) (b:=b) (e:=b+i)
  by_cases hc:rk t m 0 m b (b+i) < rk t m 0 m b (b+i+1)
  ·rw [decide_eq_true (show V.int (rk t m 0 m b (b+i+1))=V.int (rk t m 0 m b (b+i)+1) by congr 1;omega),decide_eq_true hc]
   walk_at "s"
   refine ⟨rfl,?_⟩
   rw [List.map_append];rfl
  ·rw [decide_eq_false (show ¬ V.int (rk t m 0 m b (b+i+1))=V.int (rk t m 0 m b (b+i)+1) from fun z=>by have:=V.int.inj z;omega),decide_eq_false hc]
   walk_at "s"
   exact ⟨rfl,by rw [if_neg (by decide),List.append_nil]⟩
 ·rintro ys G D G2 ⟨rfl,rfl⟩ nD s2 hD
  try walk_at "s"
  refine q D G2 nD s2 ?_
  rw [hD]
  unfold gnL
  rw [List.map_map];rfl
def wY (K:W.Frag):Sp:=fun vs H Q _=>∃ (kn:Addr) (rs:List V) (t:List Nat) (m f e:Nat),vs=[.ref kn,.int e]/\H kn=some (.lst rs)/\CT H rs (f+1) (jt t m f)/\m+f=t.length/\f<=96/\e<=f/\∀ q H',H q=none->Same H H'->H' q=some (.lst ((Mi t m e).map V.int))->Q (.ref q) H'
theorem pJ:aG ["_law_known","_law_end"] ["_law_known","_law_end"] (aq dF):=⟨rfl,rfl,rfl,by trivial,rfl,by trivial,by trivial⟩
theorem jn (T:Txt K mg):ph P w K mg base 1 "_law_losses" ["_law_known","_law_end"] (wY K):=by
 refine jX T.d_law_losses pJ (fun _ _ _ _ _ _ us hl=>L2.m5 (fun _ _=>rfl) us hl) ?_ fun f cdv A outer s H vs Q E hr h=>?_
 ·rintro vs H Q E ⟨kn,rs,t,m,f',e,rfl,_⟩;rfl
 obtain ⟨kn,rs,t,m,f',e,rfl,hkn,hC,hl,hf,he,q⟩:=h
 have hu:=hr.units0
 have hu64:=hr.units
 refine ⟨_,(aD (aW (jA (sub:=[none,some 0,some 1]) (b8 (N:=["_law_known","_law_end"]) (sc:=aq dF) (N':=["_law_at","_law_known","_law_end"]) (by trivial)) rfl rfl rfl (cQ (cD kz3z) T.b_range (aa (gD 1 kz40) ao)) (fun C s₀ H₀ ex=>(jz 0 (by trivial) ni)) (fun C s₀ H₀ ex=>(nu (bT (gJ (K:=K) rfl hu64) (dJ (K:=K) rfl (dJ (K:=K) rfl (cW 1 (by trivial)) (cF 0 (by trivial))) (cW 2 (by trivial))) (aN aJ (dJ (K:=K) rfl (dJ (K:=K) rfl (cW 1 (by trivial)) (aN aJ (cF 0 (by trivial)) aB)) (cW 2 (by trivial))) aB) (by walk_at "p")))) (fun C s₀ H₀ ex=>(cF 0 (by trivial)))))),?_⟩
 walk_at "s"
 have hsz:20000<=sizeLine:=by decide
 refine ⟨_,rfl,by omega,by omega,?_⟩
 rw [show ((e:Int)).toNat=e by omega]
 refine gG (n:=e) (fun i ys G=>G=H/\ys=(((List.range i).filter fun i=>decide (rk t m 0 m (i+1) e < rk t m 0 m i e)).map fun i:Nat=>V.int (i:Int))) (by omega) ⟨rfl,rfl⟩ ?_ ?_ ?_
 ·rintro i ys G ⟨_,rfl⟩
  rw [List.length_map]
  have:=List.length_filter_le (fun i=>decide (rk t m 0 m (i+1) e < rk t m 0 m i e)) (List.range i)
  rw [List.length_range] at this
  exact this
 ·rintro i ys G hi ⟨rfl,rfl⟩
  rw [Int.zero_add]
  obtain ⟨pb,epb,hpb⟩:=hC.2 i (by omega)
  obtain ⟨pc,epc,hpc⟩:=hC.2 (i+1) (by omega)
  walk_at "s"
  refine ⟨KeepSt.set rfl,?_⟩
  walk_at "s"
  refine bw (SqL.of hkn) (cV epb) ?_
  walk_at "s"
  refine bw (SqL.of hpb) (cV (jV he)) ?_
  walk_at "s"
  refine bw (SqL.of hkn) (Av (n:=i+1) (by omega) epc) ?_
  walk_at "s"
  refine bw (SqL.of hpc) (cV (jV he)) ?_
  walk_at "s"
  rw [jU i]
  have h1:=M5 (b:=i) (e:=e) hl (by omega)
  by_cases hc:rk t m 0 m (i+1) e < rk t m 0 m i e
  ·rw [decide_eq_true (show V.int (rk t m 0 m i e)=V.int (rk t m 0 m (i+1) e+1) by congr 1;omega),decide_eq_true hc]
   walk_at "s"
   refine ⟨rfl,?_⟩
   rw [List.map_append];rfl
  ·rw [decide_eq_false (show ¬ V.int (rk t m 0 m i e)=V.int (rk t m 0 m (i+1) e+1) from fun z=>by have:=V.int.inj z;omega),decide_eq_false hc]
   walk_at "s"
   exact ⟨rfl,by rw [if_neg (by decide),List.append_nil]⟩
 ·rintro ys G D G2 ⟨rfl,rfl⟩ nD s2 hD
  try walk_at "s"
  refine q D G2 nD s2 ?_
  rw [hD]
  unfold Mi
  rw [List.map_map];rfl
end
local macro_rules | `(tactic| walk_at "s") => `(tactic| (with_reducible repeat (first | refine j4 ?_ | walk_at "2")))
local macro_rules | `(tactic| walk_at "n") => `(tactic| (with_reducible repeat (walk_at "2")))
section
variable {P:Program} {w:World} {K:W.Frag} {mg:Str->Option Value} {base:Heap}
theorem uF:bL aF "_law_told":=by trivial
theorem DX:bL aF "_law_due":=by trivial
theorem kz43:dH aF "isinstance":=by trivial
theorem kz44:dH aF "list":=by trivial
theorem DY:bL aF "_law_kind":=by trivial
theorem kz46:dH aF "_law_gains":=by trivial
theorem Af:bL aF "_law_at":=by trivial
theorem Ag:bL aF "_law_known":=by trivial
theorem Ea:bL aF "_law_asks":=by trivial
theorem kz4a:dH aF "_law_losses":=by trivial
theorem kz4b:dH aF "_law_tightest":=by trivial
theorem wZ:bL aF "_law_length":=by trivial
theorem kz4d:dH aF "_law_shortest":=by trivial
theorem M6:bL aF "_law_much":=by trivial
theorem M7:bL aF "_law_cell_here":=by trivial
theorem kz4g:dH aF "_law_numbers":=by trivial
theorem Jp:bL aF "_law_wide":=by trivial
theorem kz4i:dH aF "len":=by trivial
theorem vQ {H:Hp}:∀ (ds:List PyData) (vs:List V),ds.length=vs.length->(∀ (k:Nat) (d:PyData) (v:V),ds[k]?=some d->vs[k]?=some v->DR H d v)->DRs H ds vs
 | [],[],_,_=>vm.mpr rfl
 | [],_ :: _,h,_=>by simp at h
 | _ :: _,[],h,_=>by simp at h
 | d :: ds,v :: vs,h,g=>rZ.mpr ⟨v,vs,rfl,g 0 d v rfl rfl,vQ ds vs (by simpa using h) fun k d' v' e1 e2=>g (k+1) d' v' e1 e2⟩
def d2 (p:Nat×Nat):PyData:=.tuple (([(p.1:Int),(p.2:Int)]:List Int).map PyData.int)
theorem tG {H:Hp} {a:Addr} {p:Nat×Nat} (ha:H a=some (.tup [.int (p.1:Int),.int (p.2:Int)])):DR H (d2 p) (.ref a):=yV.mpr ⟨a,_,rfl,ha,oJ [(p.1:Int),(p.2:Int)]⟩
theorem T2.dr {H:Hp} {vs:List V} {M:List (Nat×Nat)} {q:Addr} (h:T2 H vs M) (hq:H q=some (.lst vs)):DR H (.list (M.map d2)) (.ref q):=by
 refine vh.mpr ⟨q,vs,rfl,hq,vQ _ _ (by rw [List.length_map,h.1]) fun k d v e1 e2=>?_⟩
 rw [List.getElem?_map] at e1
 cases e:M[k]? with
 | none=>rw [e] at e1;cases e1
 | some p=>
  rw [e] at e1
  cases e1
  obtain ⟨a,rfl,ha⟩:=h.2 k v p e2 e
  exact tG ha
theorem nH {H:Hp} {ns:List Int} {q:Addr} (hq:H q=some (.lst (ns.map V.int))):DR H (.list (ns.map PyData.int)) (.ref q):=vh.mpr ⟨q,_,rfl,hq,oJ ns⟩
theorem Ris.uniq {P:Nat->Nat->Prop} {n:Nat} {M M':List (Nat×Nat)} (h:Ris P n M) (h':Ris P n M'):M=M':=by
 refine List.Perm.eq_of_pairwise (le:=fun p q=>p.1 < q.1) (fun p q _ _ h1 h2=>by omega) h.so h'.so ((List.perm_ext_iff_of_nodup ?_ ?_).mpr fun p=>(h.me p.1 p.2).trans (h'.me p.1 p.2).symm)
 ·exact h.so.imp fun z e=>by rw [e] at z;omega
 ·exact h'.so.imp fun z e=>by rw [e] at z;omega
theorem M8 {ms:List Int} {x0 x1 x2 x3:Int} (h:Fits ms [x0,x1,x2,x3]):∃ a b c d:Nat,ms=[(a:Int),(b:Int),(c:Int),(d:Int)]/\(a:Int) < x0/\(b:Int) < x1/\(c:Int) < x2/\(d:Int) < x3:=by
 obtain ⟨hl,h⟩:=h
 match ms,hl with
 | [a,b,c,d],_=>
  have h0:=h 0 _ _ rfl rfl
  have h1:=h 1 _ _ rfl rfl
  have h2:=h 2 _ _ rfl rfl
  have h3:=h 3 _ _ rfl rfl
  exact ⟨a.toNat,b.toNat,c.toNat,d.toNat,by rw [Int.toNat_of_nonneg h0.1,Int.toNat_of_nonneg h1.1,Int.toNat_of_nonneg h2.1,Int.toNat_of_nonneg h3.1],by omega,by omega,by omega,by omega⟩
theorem qp {t:List Nat} {m f L b e b' e':Nat} (h:Du t m f L b e) (h':Du t m f L b' e'):b=b'/\e=e':=by
 have:=h.2 b' e' h'.1
 have:=h'.2 b e h.1
 have:=h.1.1
 have:=h'.1.1
 omega
def Eb (K:W.Frag) (mg:Str->Option Value):Sp:=fun vs H Q _=>∃ (x kn:Addr) (rs:List V) (t:List Nat) (m f:Nat) (c:Int),vs=[.ref x,.ref kn,.int c]/\Ak mg H x t m f/\H kn=some (.lst rs)/\CT H rs (f+1) (jt t m f)/\Prm t/\t.length<=60/\lTb K mg H/\∀ H',SmT (lT K mg) H H'->lTb K mg H'->Q (.bl true) H'
theorem aX:aG ["_law_asks","_law_known","_law_cell_here","_law_wide","_law_kind","_law_much","_law_at","_law_length","_law_told","_law_due"] ["_law_asks","_law_known","_law_cell_here"] (aq aF):=⟨rfl,rfl,rfl,by trivial,rfl,by trivial,by trivial⟩
theorem jM (T:Txt K mg):ph P w K mg base 10 "_law_asked" ["_law_asks","_law_known","_law_cell_here"] (Eb K mg):=by
 have cR:=cR (P:=P) (w:=w) (base:=base) T
 have jm:=jm (P:=P) (w:=w) (base:=base) T
 have jL:=jL (P:=P) (w:=w) (base:=base) T
 have iI:=iI (P:=P) (w:=w) (base:=base) T
 have jn:=jn (P:=P) (w:=w) (base:=base) T
 have bu:=bu (P:=P) (w:=w) (base:=base) T
 have cH:=cH (P:=P) (w:=w) (base:=base) T
 have bZ:=bZ (P:=P) (w:=w) (base:=base) T
 have cJ:=cJ (P:=P) (w:=w) (base:=base) T
 refine jX T.d_law_asked aX (fun _ _ _ _ _ _ us hl=>L2.qt (fun _ _ _=>rfl) us hl) ?_ fun f cdv A outer s H vs Q E hr h=>?_
 ·rintro vs H Q E ⟨x,kn,rs,t,m,f',c,rfl,_⟩;rfl
 obtain ⟨x,kn,rs,t,m,f',c,rfl,hA,hkn,hC,hP,h60,hTb,q⟩:=h
 have hu:=hr.units0
 have hu64:=hr.units
 refine ⟨_,(az (aL (i:=3) aX.nd rfl (Or.inl Jp) (aN cL (bD (aV (K:=K) rfl) (cD kz4i) T.b_len cM (aa (au 1 Ag) ao) (by trivial) (by trivial)) aB) rfl) (az (Cg (bC cR (hr.mono (by decide)) (cD kz4g) (aa (au 2 M7) (aa (jy (aa aB (aa aB (aa (aN aJ (au 3 Jp) aB) (aa (aN aJ (au 3 Jp) aB) ao))))) (aa aB ao))) (by trivial)) (Ce (K:=K) rfl rfl (cO (cj (i:=4) aX.nd rfl (Or.inl DY) rfl) (cO (cj (i:=5) aX.nd rfl (Or.inl M6) rfl) (cO (cj (i:=6) aX.nd rfl (Or.inl Af) rfl) (cO (cj (i:=7) aX.nd rfl (Or.inl wZ) rfl) lQ)))))) (az (dM (bT (gJ (K:=K) rfl hu64) (au 5 M6) aB (by walk_at "p")) (aD (aL (i:=7) aX.nd rfl (Or.inl wZ) (aN d8 (au 2 M7) aB) rfl)) dq) (az (dM (bT (gJ (K:=K) rfl hu64) (au 4 DY) aB (by walk_at "p")) (az (aL (i:=8) aX.nd rfl (Or.inl uF) (c7 (au 0 Ea) T.o_Asks jm (hr.mono (by decide)) (jq fun _ _=>rfl) (aa (au 6 Af) ao)) rfl) (aD (aL (i:=9) aX.nd rfl (Or.inl DX) (bC jL (hr.mono (by decide)) (cD kz46) (aa (au 1 Ag) (aa (au 6 Af) ao)) (by trivial)) rfl))) (aD (dM (bT (gJ (K:=K) rfl hu64) (au 4 DY) aB (by walk_at "p")) (az (aL (i:=8) aX.nd rfl (Or.inl uF) (c7 (au 0 Ea) T.o_Asks iI (hr.mono (by decide)) (jq fun _ _=>rfl) (aa (au 6 Af) ao)) rfl) (aD (aL (i:=9) aX.nd rfl (Or.inl DX) (bC jn (hr.mono (by decide)) (cD kz4a) (aa (au 1 Ag) (aa (au 6 Af) ao)) (by trivial)) rfl))) (aD (dM (bT (gJ (K:=K) rfl hu64) (au 4 DY) aB (by walk_at "p")) (az (aL (i:=8) aX.nd rfl (Or.inl uF) (c7 (au 0 Ea) T.o_Asks bu (hr.mono (by decide)) (jq fun _ _=>rfl) (aa (au 7 wZ) ao)) rfl) (aD (aL (i:=9) aX.nd rfl (Or.inl DX) (bC cH (hr.mono (by decide)) (cD kz4b) (aa (au 1 Ag) (aa (au 7 wZ) ao)) (by trivial)) rfl))) (aD (aW (rR (gJ (K:=K) rfl hu64) (c7 (au 0 Ea) T.o_Asks bZ (hr.mono (by decide)) (jq fun _ _=>rfl) (aa (au 7 wZ) ao)) (bC cJ (hr.mono (by decide)) (cD kz4d) (aa (au 1 Ag) (aa (au 7 wZ) ao)) (by trivial)) (by walk_at "p"))))))))) (az (dM (qb (u6 (kh (jh (bD (mC (K:=K) rfl) (cD kz43) T.b_isinstance gj (aa (au 8 uF) (aa (yP (cD kz44) T.b_list jO (by trivial) (by trivial)) ao)) (by trivial) (by trivial)))) (qO (bT (zr (K:=K) rfl hu64) (au 8 uF) (au 9 DX) (by walk_at "p"))))) (aD (aW pA)) dq) (az (bW (jj (K:=K) rfl PySem.F.plainAttrs_list PySem.F.slot_list_append PySem.F.type_list_append dY (au 8 uF) (aa aB ao))) (az (bW (vd (K:=K) rfl PySem.F.plainAttrs_list PySem.F.slot_list_reverse PySem.F.type_list_reverse n6 (au 8 uF))) (aD (aW pA))))))))),?_⟩
 walk_at "s"
 have hsz:20000<=sizeLine:=by decide
 have hle:=hP.le
 have hl:=hA.1
 refine cT (SqL.of hkn) ?_
 walk_at "s"
 rw [hC.1,show ((f'+1:Nat):Int) - 1=(f':Int) by omega]
 walk_at "s"
 refine dI rfl fun p4 H1 _ S1 f1=>?_
 walk_at "s"
 replace f1:H1 p4=some (.lst (([4,4,(f':Int)+1,(f':Int)+2]:List Int).map V.int)):=f1
 refine ⟨c,p4,[4,4,(f':Int)+1,(f':Int)+2],2147483587,rfl,f1,by simp,(fun y hy=>by simp at hy;omega),by omega,by omega,fun p5 ms H2 _ S2 f2 hF=>?_⟩
 walk_at "s"
 obtain ⟨kd,mu,at_,L0,rfl,h0,h1,h2,h3⟩:=M8 hF
 replace f2:H2 p5=some (.lst [.int (kd:Int),.int (mu:Int),.int (at_:Int),.int (L0:Int)]):=f2
 have U2:=S1.trans S2
 refine Ci (SqL.of f2) rfl ?_
 walk_at "n"
 with_reducible show xn _ _ _ _ _
 with_reducible refine oN (fun U G=>G=H2/\∃ L:Nat,L<=96/\U=[some (.ref x),some (.ref kn),some (.int c),some (.int (f':Int)),some (.int (kd:Int)),some (.int (mu:Int)),some (.int (at_:Int)),some (.int (L:Int)),none,none]) ?_ ?_
 rotate_left
 ·intro N hN
  walk_at "s"
  refine pq (fun h=>?_) (fun h=>?_)
  ·walk_at "s"
   obtain ⟨L,hL⟩:∃ L:Nat,c % 97=(L:Int):=⟨(c % 97).toNat,by omega⟩
   rw [hL]
   exact hN _ _ ⟨rfl,L,by omega,rfl⟩
  ·walk_at "s"
   exact hN _ _ ⟨rfl,L0,by omega,rfl⟩
 rintro U G ⟨rfl,L,hL,rfl⟩
 have hA2:=hA.same U2
 obtain ⟨_,dx,ty,hx,hT⟩:=id hA2
 have hkn2:=U2 _ _ hkn
 have hC2:=hC.same U2
 have sh2:∀ M:List (Nat×Nat),PySem.SeqAt.shaped (.list (M.map d2))=true:=fun M=>gK (n:=2) (oM (n:=1) fun d hd=>by
  obtain ⟨p,_,rfl⟩:=List.mem_map.mp hd
  refine jR (n:=0) fun e he=>?_
  obtain ⟨i,_,rfl⟩:=List.mem_map.mp he
  exact lV i) (by omega)
 have shI:∀ ns:List Int,PySem.SeqAt.shaped (.list (ns.map PyData.int))=true:=fun ns=>gK (n:=1) (oM (n:=0) fun d hd=>by
  obtain ⟨p,_,rfl⟩:=List.mem_map.mp hd
  exact lV p) (by omega)
 walk_at "n"
 with_reducible refine oN (fun U G'=>Same H G'/\∃ (td du:Addr) (vs:List V) (D:PyData),U=[some (.ref x),some (.ref kn),some (.int c),some (.int (f':Int)),some (.int (kd:Int)),some (.int (mu:Int)),some (.int (at_:Int)),some (.int (L:Int)),some (.ref td),some (.ref du)]/\G' td=some (.lst vs)/\vs.length<=200/\H td=none/\DR G' D (.ref td)/\DR G' D (.ref du)/\PySem.SeqAt.shaped D=true) ?_ ?_
 rotate_left
 ·intro N hN
  walk_at "s"
  refine pq (fun h=>?_) (fun h=>?_)
  ·walk_at "s"
   refine ⟨x,dx,_,rfl,hx,vM (by trivial),?_⟩
   walk_at "s"
   refine ⟨x,t,m,f',at_,rfl,hA2,by omega,by omega,fun td G3 ntd s3 htd=>?_⟩
   walk_at "s"
   refine ⟨kn,rs,t,m,f',at_,rfl,s3 _ _ hkn2,hC2.same s3,by omega,by omega,fun du G4 ndu s4 hdu=>?_⟩
   walk_at "s"
   refine hN _ _ ⟨U2.trans (s3.trans s4),td,du,_,_,rfl,s4 _ _ htd,?_,Same.back U2 ntd,nH (s4 _ _ htd),nH hdu,shI _⟩
   unfold gnL
   have:=List.length_filter_le (fun i=>decide (rk t m 0 m at_ (at_+i) < rk t m 0 m at_ (at_+i+1))) (List.range (f' - at_))
   rw [List.length_range] at this
   rw [List.length_map,List.length_map]
   omega
  walk_at "s"
  refine pq (fun h=>?_) (fun h=>?_)
  ·walk_at "s"
   refine ⟨x,dx,_,rfl,hx,vM (by trivial),?_⟩
   walk_at "s"
   refine ⟨x,t,m,f',at_,rfl,hA2,by omega,by omega,fun td G3 ntd s3 htd=>?_⟩
   walk_at "s"
   refine ⟨kn,rs,t,m,f',at_,rfl,s3 _ _ hkn2,hC2.same s3,hl,by omega,by omega,fun du G4 ndu s4 hdu=>?_⟩
   walk_at "s"
   refine hN _ _ ⟨U2.trans (s3.trans s4),td,du,_,_,rfl,s4 _ _ htd,?_,Same.back U2 ntd,nH (s4 _ _ htd),nH hdu,shI _⟩
   unfold Mi
   have:=List.length_filter_le (fun i=>decide (rk t m 0 m (i+1) at_ < rk t m 0 m i at_)) (List.range at_)
   rw [List.length_range] at this
   rw [List.length_map,List.length_map]
   omega
  walk_at "s"
  refine pq (fun h=>?_) (fun h=>?_)
  ·walk_at "s"
   refine ⟨x,dx,_,rfl,hx,vM (by trivial),?_⟩
   walk_at "s"
   refine ⟨x,t,m,f',L,rfl,hA2,by omega,hL,fun td vs M G3 ntd s3 htd h23 hM=>?_⟩
   walk_at "s"
   refine ⟨kn,rs,t,m,f',L,rfl,s3 _ _ hkn2,hC2.same s3,hP,hl,fun du ws M' G4 ndu s4 hdu h24 hM'=>?_⟩
   walk_at "s"
   obtain rfl:=hM.uniq hM'
   exact hN _ _ ⟨U2.trans (s3.trans s4),td,du,vs,_,rfl,s4 _ _ htd,by rw [h23.1];have:=hM.len;omega,Same.back U2 ntd,(h23.same s4).dr (s4 _ _ htd),h24.dr hdu,sh2 _⟩
  walk_at "s"
  refine ⟨x,dx,_,rfl,hx,vM (by trivial),?_⟩
  walk_at "s"
  have hTb2:=hTb.same U2
  refine ⟨x,t,m,f',L,rfl,hA2,by omega,hL,hTb2,fun G3 s3 hTb3 hno=>?_,fun a b e G3 s3 hTb3 ha hls=>?_⟩
  ·have hkn3:=s3 _ _ (Tb.ne hTb2 hkn2 fun ps z=>by cases z) hkn2
   have hC3:CT G3 rs (f'+1) (jt t m f'):=⟨hC2.1,fun k hk=>by
    obtain ⟨pb,e1,e2⟩:=hC2.2 k hk
    exact ⟨pb,e1,s3 _ _ (Tb.ne hTb2 e2 fun ps z=>by cases z) e2⟩⟩
   walk_at "s"
   refine ⟨kn,rs,t,m,f',L,rfl,hkn3,hC3,by omega,fun _=>?_,fun a b e G4 _ s4 ha hls=>absurd hls.1 (hno b e)⟩
   show CG K V.non V.non G3 _
   refine .inl (.inl (lU (d:=.none) (nF.mpr rfl) (nF.mpr rfl) rfl ?_))
   exact q _ (U2.smT.trans s3) hTb3
  ·have hkn3:=s3 _ _ (Tb.ne hTb2 hkn2 fun ps z=>by cases z) hkn2
   have hC3:CT G3 rs (f'+1) (jt t m f'):=⟨hC2.1,fun k hk=>by
    obtain ⟨pb,e1,e2⟩:=hC2.2 k hk
    exact ⟨pb,e1,s3 _ _ (Tb.ne hTb2 e2 fun ps z=>by cases z) e2⟩⟩
   walk_at "s"
   refine ⟨kn,rs,t,m,f',L,rfl,hkn3,hC3,by omega,fun hno=>absurd hls.1 (hno b e),fun a' b' e' G4 _ s4 ha' hls'=>?_⟩
   obtain ⟨rfl,rfl⟩:=qp hls hls'
   have sha:PySem.SeqAt.shaped (d2 (b,e))=true:=gK (n:=1) (jR (n:=0) fun d he=>by
    obtain ⟨i,_,rfl⟩:=List.mem_map.mp he
    exact lV i) (by omega)
   refine .inl (.inl (lU (tG (p:=(b,e)) (s4 _ _ ha)) (tG (p:=(b,e)) ha') sha ?_))
   exact q _ (U2.smT.trans (s3.trans s4.smT)) (hTb3.same s4)
 rintro U G3 ⟨s3,td,du,vs,D,rfl,htd,hvl,ntd,hd1,hd2,hsh⟩
 walk_at "s"
 refine p8 (.lst htd) rfl ?_
 walk_at "s"
 refine .inl (sr hd1 hd2 hsh ?_)
 walk_at "s"
 refine ⟨.inl ⟨rfl,_,SqL.of htd⟩,?_⟩
 walk_at "s"
 refine dN htd (by omega) ?_
 walk_at "s"
 have hz:=aj (H:=G3) (a:=td) (o:=.lst (vs ++ [.int 0]))
 have sz:Same H (upd G3 td (.lst (vs ++ [.int 0]))):=Same.put s3 ntd
 generalize upd G3 td (.lst (vs ++ [.int 0]))=G4 at hz sz ⊢
 walk_at "s"
 refine ⟨.inl ⟨rfl,_,SqL.of hz⟩,td,_,rfl,rfl,hz,?_⟩
 walk_at "s"
 have s5:=Same.put (o:=.lst (vs ++ [V.int 0]).reverse) sz ntd
 exact q _ s5.smT (hTb.same s5)
end
local macro_rules | `(tactic| walk_at "s") => `(tactic| (with_reducible repeat (first | refine j4 ?_ | walk_at "4")))
local macro_rules | `(tactic| walk_at "n") => `(tactic| (with_reducible repeat (walk_at "4")))
section
variable {P:Program} {w:World} {K:W.Frag} {mg:Str->Option Value} {base:Heap}
theorem tH:(["_law_k","_law_cell_here"]:List Str).Nodup:=by trivial
theorem Ah:(["_law_tall","_law_turning_here"]:List Str).Nodup:=by trivial
theorem Ai:(["_law_tall","_law_given"]:List Str).Nodup:=by trivial
theorem Aj:(["_law_k","_law_script","_law_turning_here"]:List Str).Nodup:=by trivial
theorem Ec:bL bY "_law_many":=by trivial
theorem Al:bL bY "_law_length":=by trivial
theorem kz4l:dH bY "_law_shortest":=by trivial
theorem Ed:bL bY "_law_known":=by trivial
theorem kz4n:dH bY "_law_tightest":=by trivial
theorem Jq:dH bY "len":=by trivial
theorem Am:sW bY "_law_turning_here":=by trivial
theorem Jr:dH bY "_law_cell":=by trivial
theorem Ef:sW bY "_law_script":=by trivial
theorem Js:bL bY "_law_asked_here":=by trivial
theorem M9:bL bY "_law_cell_here":=by trivial
theorem Jt:bL bY "_law_which":=by trivial
theorem kz4v:dH bY "_law_asked":=by trivial
theorem kz4w:dH bY "enumerate":=by trivial
theorem Ju:bL bY "_law_many_cells":=by trivial
theorem Jv:bL bY "_law_talls":=by trivial
theorem Nb:sW bY "_law_given":=by trivial
theorem kz50:dH bY "list":=by trivial
theorem kz51:dH bY "range":=by trivial
theorem kz52:dH bY "_law_turning":=by trivial
theorem kz53:dH bY "_law_size":=by trivial
def AskM (H:Hp) (vs:List V):Prop:=∀ v∈vs,∃ (p:Addr) (w:Nat) (c:Int),v= .ref p/\H p=some (.tup [.int (w:Int),.int c])/\w < 2
theorem AskM.same {H H':Hp} {vs:List V} (h:AskM H vs) (s:Same H H'):AskM H' vs:=fun v hv=>by
 obtain ⟨p,w,c,e,hp,hw⟩:=h v hv
 exact ⟨p,w,c,e,s _ _ hp,hw⟩
theorem AskM.push {H:Hp} {vs:List V} {p:Addr} {w:Nat} {c:Int} (h:AskM H vs) (hp:H p=some (.tup [.int (w:Int),.int c])) (hw:w < 2):AskM H (vs ++ [.ref p]):=fun v hv=>(List.mem_append.mp hv).elim (h v) fun hv=>by
 simp only [List.mem_cons,List.mem_nil_iff,or_false] at hv
 exact ⟨p,w,c,hv,hp,hw⟩
def Up (H H':Hp):Prop:=∀ (a:Addr) (o:HO),H a=some o->(∀ ps,o≠.tbl ps)->H' a=some o
theorem An {H H':Hp} (hT:lTb K mg H) (s:SmT (lT K mg) H H'):Up H H':=fun a o ha ho=>s a o (Tb.ne hT ha ho) ha
theorem Up.trans {H H1 H2:Hp} (a:Up H H1) (b:Up H1 H2):Up H H2:=fun x o h n=>b x o (a x o h n) n
theorem Up.refl {H:Hp}:Up H H:=fun _ _ h _=>h
theorem Up.seq {H H':Hp} {a:Addr} {xs:List V} (u:Up H H') (h:SqL K H a xs):SqL K H' a xs:=by
 rcases h with (h | ⟨o,h⟩) | h
 ·exact .inl (.inl (u _ _ h fun ps z=>by cases z))
 ·exact .inl (.inr ⟨o,u _ _ h fun ps z=>by cases z⟩)
 ·exact .inr h
theorem CT.up {H H':Hp} {rs:List V} {n:Nat} {f:Nat->List Int} (h:CT H rs n f) (u:Up H H'):CT H' rs n f:=⟨h.1,fun k hk=>by
 obtain ⟨a,e,ha⟩:=h.2 k hk
 exact ⟨a,e,u _ _ ha fun ps z=>by cases z⟩⟩
theorem Ak.up {H H':Hp} {x:Addr} {t:List Nat} {m f:Nat} (h:Ak mg H x t m f) (u:Up H H'):Ak mg H' x t m f:=by
 obtain ⟨hl,dx,ty,hx,hP,dt,ae,ac,rs,ht,hO⟩:=h
 exact ⟨hl,dx,ty,u _ _ hx (fun ps z=>by cases z),hP,dt,ae,ac,rs,u _ _ ht (fun ps z=>by cases z),u _ _ hO.ends (fun ps z=>by cases z),u _ _ hO.cnts (fun ps z=>by cases z),hO.rows.up u⟩
def One (mg:Str->Option Value) (H:Hp) (t:List Nat) (x q:Addr) (m:Nat):Prop:=∃ (f:Nat) (rs:List V),Ak mg H x t m f/\H q=some (.lst rs)/\CT H rs (f+1) (jt t m f)
theorem One.same {H H':Hp} {t:List Nat} {x q:Addr} {m:Nat} (h:One mg H t x q m) (s:Same H H'):One mg H' t x q m:=by
 obtain ⟨f,rs,h1,h2,h3⟩:=h
 exact ⟨f,rs,h1.same s,s _ _ h2,h3.same s⟩
theorem One.up {H H':Hp} {t:List Nat} {x q:Addr} {m:Nat} (h:One mg H t x q m) (u:Up H H'):One mg H' t x q m:=by
 obtain ⟨f,rs,h1,h2,h3⟩:=h
 exact ⟨f,rs,h1.up u,u _ _ h2 (fun ps z=>by cases z),h3.up u⟩
theorem Jw {H:Hp} {t:List Nat} {x0 x1 q0 q1:Addr} {m0 m1 j:Nat} (h0:One mg H t x0 q0 m0) (h1:One mg H t x1 q1 m1) (hj:j < 2):
  ∃ (x q:Addr) (m:Nat),([.ref x0,.ref x1]:List V)[j]?=some (.ref x)/\([.ref q0,.ref q1]:List V)[j]?=some (.ref q)/\One mg H t x q m:=by
 match j,hj with
 | 0,_=>exact ⟨x0,q0,m0,rfl,rfl,h0⟩
 | 1,_=>exact ⟨x1,q1,m1,rfl,rfl,h1⟩
def Each (n:Nat) (ms:List Nat) (ys:List V) (R:Nat->Addr->Prop):Prop:=ys.length=n/\∀ (j m:Nat),j < n->ms[j]?=some m->∃ x,ys[j]?=some (.ref x)/\R m x
theorem Each.push {n:Nat} {ms:List Nat} {ys:List V} {R R':Nat->Addr->Prop} {x:Addr} {m:Nat} (h:Each n ms ys R) (hi:∀ m x,R m x->R' m x) (hm:ms[n]?=some m) (hx:R' m x):Each (n+1) ms (ys ++ [.ref x]) R':=by
 refine ⟨by rw [List.length_append,h.1];rfl,fun j m' hj hm'=>?_⟩
 by_cases e:j=n
 ·subst e
  rw [hm] at hm';cases hm'
  exact ⟨x,by rw [List.getElem?_append_right (by rw [h.1];exact Nat.le_refl _),h.1,Nat.sub_self];rfl,hx⟩
 ·obtain ⟨y,e1,e2⟩:=h.2 j m' (by omega) hm'
  exact ⟨y,by rw [List.getElem?_append_left (by rw [h.1];omega)];exact e1,hi _ _ e2⟩
theorem Each.two {m0 m1:Nat} {ys:List V} {R:Nat->Addr->Prop} (h:Each 2 [m0,m1] ys R):∃ x0 x1,ys=[.ref x0,.ref x1]/\R m0 x0/\R m1 x1:=by
 obtain ⟨hl,h⟩:=h
 match ys,hl with
 | [a,b],_=>
  obtain ⟨x0,e0,r0⟩:=h 0 m0 (by omega) rfl
  obtain ⟨x1,e1,r1⟩:=h 1 m1 (by omega) rfl
  cases e0;cases e1
  exact ⟨x0,x1,rfl,r0,r1⟩
theorem Ao {m0 m1 i:Nat} {v:V} (h:([.int (m0:Int),.int (m1:Int)]:List V)[i]?=some v):∃ m,([m0,m1]:List Nat)[i]?=some m/\v= .int (m:Int):=by
 match i,h with
 | 0,h=>exact ⟨m0,rfl,(Option.some.inj h).symm⟩
 | 1,h=>exact ⟨m1,rfl,(Option.some.inj h).symm⟩
def Fl (K:W.Frag) (mg:Str->Option Value):Sp:=fun vs H Q _=>∃ (a:Addr) (ns:List Int),vs=[.ref a]/\SqL K H a (ns.map V.int)/\ns.length<=63/\lTb K mg H/\∀ H',Q (.bl true) H'
theorem gB:aG ["_law_script","_law_turning_here","_law_talls","_law_given","_law_many","_law_known","_law_many_cells","_law_asked_here","_law_which","_law_cell_here","_law_length"] ["_law_script"] (aq bY):=⟨rfl,rfl,rfl,by trivial,rfl,by trivial,by trivial⟩
theorem Jx (T:Txt K mg) {f0:Addr} {fd0:FuncData} (F0:Fun K "law" "law" bY f0 fd0):nQ P w K mg base uV 11 f0 fd0 ["_law_script"] (Fl K mg):=by
 have iJ:=iJ (P:=P) (w:=w) (base:=base) T
 have gf:=gf (P:=P) (w:=w) (base:=base) T
 have kW:=kW (P:=P) (w:=w) (base:=base) T
 have gw:=gw (P:=P) (w:=w) (base:=base) T
 have iK:=iK (P:=P) (w:=w) (base:=base) T
 have jM:=jM (P:=P) (w:=w) (base:=base) T
 have bu:=bu (P:=P) (w:=w) (base:=base) T
 have cH:=cH (P:=P) (w:=w) (base:=base) T
 have bZ:=bZ (P:=P) (w:=w) (base:=base) T
 have cJ:=cJ (P:=P) (w:=w) (base:=base) T
 refine okJ F0 gB ?_ fun f cdv A outer s H vs Q E hr h=>?_
 ·rintro vs H Q E ⟨a,ns,rfl,_⟩;rfl
 obtain ⟨a,ns,rfl,hS,hlen,hTb,q⟩:=h
 have hu:=hr.units0
 have hu64:=hr.units
 refine ⟨_,(az (aL (i:=1) gB.nd rfl (Or.inr Am) (bC iJ (hr.mono (by decide)) (cD kz52) (aa (bC gf (hr.mono (by decide)) (cD Jr) (aa (gD 0 Ef) (aa aB ao)) (by trivial)) (aa (bC kW (hr.mono (by decide)) (cD kz53) (aa (bC gf (hr.mono (by decide)) (cD Jr) (aa (gD 0 Ef) (aa aB ao)) (by trivial)) ao) (by trivial)) (aa aB ao))) (by trivial)) rfl) (az (jQ (i:=2) gB.nd rfl (Or.inl Jv) (sub:=[none,some 0,some 1]) (b8 (N:=["_law_script","_law_turning_here","_law_talls","_law_given","_law_many","_law_known","_law_many_cells","_law_asked_here","_law_which","_law_cell_here","_law_length"]) (sc:=aq bY) (N':=["_law_k","_law_script","_law_turning_here"]) (by trivial)) rfl rfl rfl (cQ (cD kz51) T.b_range (aa aB ao)) (fun C s₀ H₀ ex=>(jz 0 (by trivial) Aj)) (fun C s₀ H₀ ex=>gk) (fun C s₀ H₀ ex=>(aN jC (aN d8 (bC gf (hr.mono (by decide)) (Kv (by trivial)) (aa (cW 1 (by trivial)) (aa (cF 0 (by trivial)) ao)) (by trivial)) (aN aJ (bD (aV (K:=K) rfl) (Kv (by trivial)) T.b_len cM (aa (cW 2 (by trivial)) ao) (by trivial) (by trivial)) aB)) (aN cL aB (cF 0 (by trivial))))) rfl) (az (aL (i:=3) gB.nd rfl (Or.inr Nb) (oG (oF (K:=K) rfl rfl) (cD kz50) T.b_list jO (aa (gD 1 Am) ao) (by trivial) (by trivial)) rfl) (az (jQ (i:=4) gB.nd rfl (Or.inl Ec) (sub:=[none,some 3]) (b8 (N:=["_law_script","_law_turning_here","_law_talls","_law_given","_law_many","_law_known","_law_many_cells","_law_asked_here","_law_which","_law_cell_here","_law_length"]) (sc:=aq bY) (N':=["_law_tall","_law_given"]) (by trivial)) rfl rfl rfl (mF (K:=K) rfl (au 2 Jv)) (fun C s₀ H₀ ex=>(jz 0 (by trivial) Ai)) (fun C s₀ H₀ ex=>gk) (fun C s₀ H₀ ex=>(zx (mg:=mg) rfl T.o_Asks gw (hr.mono (by decide)) (Kv (by trivial)) (jq fun _ _=>rfl) (aa (cW 1 (by trivial)) (aa (cF 0 (by trivial)) ao)) (by trivial))) rfl) (az (bW (vd (K:=K) rfl PySem.F.plainAttrs_list PySem.F.slot_list_reverse PySem.F.type_list_reverse n6 (gD 3 Nb))) (az (jQ (i:=5) gB.nd rfl (Or.inl Ed) (sub:=[none,some 1]) (b8 (N:=["_law_script","_law_turning_here","_law_talls","_law_given","_law_many","_law_known","_law_many_cells","_law_asked_here","_law_which","_law_cell_here","_law_length"]) (sc:=aq bY) (N':=["_law_tall","_law_turning_here"]) (by trivial)) rfl rfl rfl (mF (K:=K) rfl (au 2 Jv)) (fun C s₀ H₀ ex=>(jz 0 (by trivial) Ah)) (fun C s₀ H₀ ex=>gk) (fun C s₀ H₀ ex=>(bC iK (hr.mono (by decide)) (Kv (by trivial)) (aa (cW 1 (by trivial)) (aa (cF 0 (by trivial)) ao)) (by trivial))) rfl) (az (aL (i:=6) gB.nd rfl (Or.inl Ju) aB rfl) (az (dM (bT uM (bD (aV (K:=K) rfl) (cD Jq) T.b_len cM (aa (gD 1 Am) ao) (by trivial) (by trivial)) aB (by walk_at "p")) (aD (aL (i:=6) gB.nd rfl (Or.inl Ju) aB rfl)) dq) (az (jQ (i:=7) gB.nd rfl (Or.inl Js) (sub:=[none,none]) (b8 (N:=["_law_script","_law_turning_here","_law_talls","_law_given","_law_many","_law_known","_law_many_cells","_law_asked_here","_law_which","_law_cell_here","_law_length"]) (sc:=aq bY) (N':=["_law_k","_law_cell_here"]) (by trivial)) rfl rfl rfl (qR (K:=K) rfl rfl (cD kz4w) T.b_enumerate (aa (Cd (BL (K:=K) rfl) (gD 0 Ef) ji (nq (au 6 Ju))) ao)) (fun C s₀ H₀ ex=>(qP (K:=K) (n:=2) rfl rfl (cO (jz 0 (by trivial) tH) (cO (jz 1 (by trivial) tH) lQ)))) (fun C s₀ H₀ ex=>gk) (fun C s₀ H₀ ex=>(qd (aa (aN d8 (cF 0 (by trivial)) aB) (aa (cF 1 (by trivial)) ao)))) rfl) (az (gn PassesOwn.never rfl (mF (K:=K) rfl (aN aJ (au 7 Js) (mG (K:=K) rfl (au 7 Js) ji ji (nq (rQ ju aB))))) (qP (K:=K) rfl rfl (cO (cj (i:=8) gB.nd rfl (Or.inl Jt) rfl) (cO (cj (i:=9) gB.nd rfl (Or.inl M9) rfl) lQ))) (aD (dM (kh (jh (bC jM (hr.mono (by decide)) (cD kz4v) (aa (dJ (K:=K) rfl (au 4 Ec) (au 8 Jt)) (aa (dJ (K:=K) rfl (au 5 Ed) (au 8 Jt)) (aa (au 9 M9) ao))) (by trivial)))) (aD (aW pA)) dq))) (az (aL (i:=10) gB.nd rfl (Or.inl Al) (aN d8 (bC gf (hr.mono (by decide)) (cD Jr) (aa (gD 0 Ef) (aa aB ao)) (by trivial)) (aN aJ (bD (aV (K:=K) rfl) (cD Jq) T.b_len cM (aa (gD 1 Am) ao) (by trivial) (by trivial)) aB)) rfl) (az (dM (qb (yQ (bT xO (bD (aV (K:=K) rfl) (cD Jq) T.b_len cM (aa (gD 1 Am) ao) (by trivial) (by trivial)) aB (by walk_at "p")) (u5 (bT (zr (K:=K) rfl hu64) (c7 (dJ (K:=K) rfl (au 4 Ec) aB) T.o_Asks bu (hr.mono (by decide)) (jq fun _ _=>rfl) (aa (au 10 Al) ao)) (bC cH (hr.mono (by decide)) (cD kz4n) (aa (dJ (K:=K) rfl (au 5 Ed) aB) (aa (au 10 Al) ao)) (by trivial)) (by walk_at "p"))))) (aD (aW pA)) dq) (aD (aW (rR (gJ (K:=K) rfl hu64) (c7 (dJ (K:=K) rfl (au 4 Ec) aB) T.o_Asks bZ (hr.mono (by decide)) (jq fun _ _=>rfl) (aa (au 10 Al) ao)) (bC cJ (hr.mono (by decide)) (cD kz4l) (aa (dJ (K:=K) rfl (au 5 Ed) aB) (aa (au 10 Al) ao)) (by trivial)) (by walk_at "p")))))))))))))))),?_⟩
 walk_at "s"
 have hsz:20000<=sizeLine:=by decide
 refine ⟨a,ns,1,rfl,hS,fun c1=>?_⟩
 walk_at "s"
 refine ⟨a,ns,0,rfl,hS,fun c0=>?_⟩
 walk_at "s"
 refine ⟨c0,rfl,fun sz hsz0=>?_⟩
 walk_at "s"
 refine ⟨c1,sz,2147483647,rfl,by omega,by omega,by omega,fun tr t H1 ntr S1 htr P0 l0=>?_⟩
 walk_at "s"
 have h60:t.length<=60:=by omega
 walk_at "s"
 refine ⟨_,rfl,by omega,by omega,?_⟩
 rw [show ((2:Int)).toNat=2 from rfl]
 refine gG (n:=2) (fun i ys H'=>H'=H1/\∃ ms:List Nat,ys=(nI ms).map V.int/\ms.length=i/\∀ m∈ms,m<=t.length) (by omega) ⟨rfl,[],rfl,rfl,fun m hm=>by cases hm⟩ ?_ ?_ ?_
 ·rintro i ys H' ⟨_,ms,rfl,h,_⟩
  rw [bM];omega
 ·rintro i ys H' hi ⟨rfl,ms,rfl,hml,hm⟩
  rw [Int.zero_add]
  walk_at "s"
  refine ⟨KeepSt.set rfl,?_⟩
  walk_at "s"
  refine ⟨a,ns,i,rfl,S1.seq hS,fun c=>?_⟩
  walk_at "s"
  refine cT (SqL.of htr) ?_
  walk_at "s"
  rw [bM]
  walk_at "s"
  obtain ⟨m,em,hm'⟩:∃ m:Nat,c % ((t.length:Int)+1) / (3 - (i:Int))=(m:Int)/\m<=t.length:=by
   have e0:=Int.emod_nonneg c (show (t.length:Int)+1≠0 by omega)
   have e1:=Int.emod_lt_of_pos c (show 0 < (t.length:Int)+1 by omega)
   generalize c % ((t.length:Int)+1)=z at e0 e1
   have d0:0<=z / (3 - (i:Int)):=Int.ediv_nonneg e0 (by omega)
   have d1:z / (3 - (i:Int))<=z:=Int.ediv_le_self _ e0
   exact ⟨(z / (3 - (i:Int))).toNat,by omega,by omega⟩
  rw [em]
  refine ⟨rfl,ms ++ [m],vI _ _,by simp;omega,fun k hk=>?_⟩
  rcases List.mem_append.mp hk with hk | hk
  ·exact hm k hk
  ·simp only [List.mem_cons,List.mem_nil_iff,or_false] at hk
   omega
 rintro ys G tl H2 ⟨rfl,ms,rfl,hml,hm⟩ ntl S2 htl
 obtain ⟨m0,m1,rfl⟩:∃ m0 m1,ms=[m0,m1]:=by
  match ms,hml with
  | [x,y],_=>exact ⟨x,y,rfl⟩
 have h0:=hm m0 (by simp)
 have h1:=hm m1 (by simp)
 replace htl:H2 tl=some (.lst [.int (m0:Int),.int (m1:Int)]):=htl
 have htr2:=S2 _ _ htr
 walk_at "s"
 refine BZ (SqL.of htr2) fun gv ngv=>?_
 walk_at "s"
 have S3:=(Same.refl H2).upd ngv (o:=.lst ((nI t).map V.int))
 have hgv:=aj (H:=H2) (a:=gv) (o:=.lst ((nI t).map V.int))
 generalize upd H2 gv (.lst ((nI t).map V.int))=H3 at S3 hgv ⊢
 have htl3:=S3 _ _ htl
 walk_at "s"
 refine .inl ⟨tl,rfl,⟨_,SqL.of htl3⟩,?_⟩
 have hmm:∀ (i m:Nat),([m0,m1]:List Nat)[i]?=some m->m<=t.length:=fun i m h=>by
  have:=List.mem_of_getElem? h
  simp only [List.mem_cons,List.mem_nil_iff,or_false] at this
  omega
 refine oR (xs:=[.int (m0:Int),.int (m1:Int)]) (fun i ys G=>Same H3 G/\Each i [m0,m1] ys (fun m x=>AkD mg (fun g=>g=gv) G x t m (t.length - m))) (show 2<=sizeLine by omega) ⟨Same.refl H3,rfl,fun j m hj=>by omega⟩ ?_ ?_ ?_ ?_
 ·rintro i ys G ⟨_,h⟩
  exact Nat.le_of_eq h.1
 ·rintro i ys G ⟨s,_⟩
  exact SqL.of (s _ _ htl3)
 ·rintro i ys G v hv ⟨s,hE⟩
  obtain ⟨m,hmi,rfl⟩:=Ao hv
  have hml:=hmm i m hmi
  have hgG:=s _ _ hgv
  walk_at "s"
  refine ⟨KeepSt.set rfl,?_⟩
  walk_at "s"
  intro x dx nx ndx ne
  refine ⟨x,dx,gv,t,m,t.length - m,rfl,aj,.inl (zU nx ndx hgG).1,P0,by omega,fun G2 c2 hN=>⟨rfl,?_⟩⟩
  walk_at "s"
  replace hN:=hN.sub (D':=fun g=>g=gv) (by
   rintro g rfl
   exact ⟨gNe nx hgG,_,(zU nx ndx hgG).1⟩)
  have s2:=made nx ndx c2
  exact ⟨s.trans s2,hE.push (fun m x h=>h.same s2) hmi hN⟩
 rintro ys G ml H4 ⟨s4,hE⟩ nml s4' hml
 have S4:=s4.trans s4'
 obtain ⟨x0,x1,rfl,A0,A1⟩:=Each.two hE
 replace A0:=A0.same s4'
 replace A1:=A1.same s4'
 have hgv4:=S4 _ _ hgv
 try walk_at "s"
 refine ⟨.inl ⟨rfl,_,SqL.of hgv4⟩,gv,_,rfl,rfl,hgv4,?_⟩
 walk_at "s"
 have mlgv:ml≠gv:=fun z=>gNe nml (s4 _ _ hgv) z.symm
 have S5:Same H2 (upd H4 gv (.lst ((nI t).map V.int).reverse)):=Same.put (S3.trans S4) ngv
 replace A0:=A0.put (o:=.lst ((nI t).map V.int).reverse) rfl
 replace A1:=A1.put (o:=.lst ((nI t).map V.int).reverse) rfl
 have hml5:upd H4 gv (.lst ((nI t).map V.int).reverse) ml=some (.lst [.ref x0,.ref x1]):=by rw [aA mlgv];exact hml
 generalize upd H4 gv (.lst ((nI t).map V.int).reverse)=H5 at S5 A0 A1 hml5 ⊢
 have htl5:=S5 _ _ htl
 have htr5:=S5 _ _ htr2
 try walk_at "s"
 refine .inl ⟨tl,rfl,⟨_,SqL.of htl5⟩,?_⟩
 refine oR (xs:=[.int (m0:Int),.int (m1:Int)]) (fun i ys G=>Same H5 G/\Each i [m0,m1] ys (fun m q=>∃ rs,G q=some (.lst rs)/\CT G rs (t.length - m+1) (jt t m (t.length - m)))) (show 2<=sizeLine by omega) ⟨Same.refl H5,rfl,fun j m hj=>by omega⟩ ?_ ?_ ?_ ?_
 ·rintro i ys G ⟨_,h⟩
  exact Nat.le_of_eq h.1
 ·rintro i ys G ⟨s,_⟩
  exact SqL.of (s _ _ htl5)
 ·rintro i ys G v hv ⟨s,hE⟩
  obtain ⟨m,hmi,rfl⟩:=Ao hv
  have hml:=hmm i m hmi
  walk_at "s"
  refine ⟨KeepSt.set rfl,?_⟩
  walk_at "s"
  refine ⟨tr,t,m,t.length - m,rfl,s _ _ htr5,by omega,by omega,fun qq rs G2 nqq s2 hqq hC=>?_⟩
  walk_at "s"
  exact ⟨s.trans s2,hE.push (fun m x h=>let ⟨rs,h1,h2⟩:=h;⟨rs,s2 _ _ h1,h2.same s2⟩) hmi ⟨rs,hqq,hC⟩⟩
 rintro ys G kl H6 ⟨s6,hE⟩ nkl s6' hkl
 have S6:=s6.trans s6'
 obtain ⟨q0,q1,rfl,⟨r0,B0,C0⟩,r1,B1,C1⟩:=Each.two hE
 have O0:One mg H6 t x0 q0 m0:=⟨_,r0,(A0.same S6).ak,s6' _ _ B0,C0.same s6'⟩
 have O1:One mg H6 t x1 q1 m1:=⟨_,r1,(A1.same S6).ak,s6' _ _ B1,C1.same s6'⟩
 have U6:Same H H6:=S1.trans (S2.trans (S5.trans S6))
 have hml6:=S6 _ _ hml5
 have htr6:=S6 _ _ htr5
 have hTb6:=hTb.same U6
 have hS6:=U6.seq hS
 clear A0 A1 B0 B1 C0 C1 hE
 walk_at "n"
 with_reducible refine j4 ?_
 walk_at "n"
 with_reducible refine oN (fun U G=>G=H6/\∃ mc:Nat,U=[some (.ref a),some (.ref tr),some (.ref tl),some (.ref gv),some (.ref ml),some (.ref kl),some (.int (mc:Int)),none,none,none,none]) ?_ ?_
 rotate_left
 ·intro N hN
  walk_at "s"
  refine cT (SqL.of htr6) ?_
  walk_at "s"
  rw [bM]
  refine pq (fun h=>?_) (fun h=>?_)
  ·walk_at "s"
   exact hN _ _ ⟨rfl,10,rfl⟩
  ·walk_at "s"
   exact hN _ _ ⟨rfl,40,rfl⟩
 rintro U G ⟨rfl,mc,rfl⟩
 walk_at "s"
 refine KN hS6 fun sl nsl=>?_
 walk_at "s"
 rw [Do]
 have SK:=(Same.refl G).upd nsl (o:=.lst ((ns.map V.int).take mc))
 have hsl:=aj (H:=G) (a:=sl) (o:=.lst ((ns.map V.int).take mc))
 generalize upd G sl (.lst ((ns.map V.int).take mc))=HK at SK hsl ⊢
 refine .inr ⟨sl,_,rfl,SqL.of hsl,?_⟩
 have tkl:((ns.map V.int).take mc).length<=63:=by rw [List.length_take,List.length_map];omega
 refine kY (xs:=(ns.map V.int).take mc) (fun i ys G'=>Same HK G'/\AskM G' ys/\ys.length=i) (by omega) ⟨Same.refl HK,(fun v hv=>nomatch hv),rfl⟩ ?_ ?_ ?_ ?_
 ·rintro i ys G' ⟨_,_,h⟩
  omega
 ·rintro i ys G' ⟨s,_⟩
  exact SqL.of (s _ _ hsl)
 ·rintro i ys G' T' x hx ⟨s,hA,hl⟩ nT
  obtain ⟨c,rfl⟩:∃ c:Int,x= .int c:=by
   obtain ⟨c,_,rfl⟩:=List.mem_map.mp (List.mem_of_mem_take (List.mem_of_getElem? hx))
   exact ⟨c,rfl⟩
  have s2:=(Same.refl G').upd nT (o:=.tup [.int (i:Int),.int c])
  have f2:=aj (H:=G') (a:=T') (o:=.tup [.int (i:Int),.int c])
  generalize upd G' T' (.tup [.int (i:Int),.int c])=G2 at s2 f2 ⊢
  refine cU (SqT.of f2) rfl ?_
  walk_at "s"
  refine ⟨KeepSt.trans (KeepSt.set rfl) (KeepSt.set rfl),?_⟩
  walk_at "s"
  refine dI rfl fun tq G3 ntq s3 htq=>?_
  walk_at "s"
  refine ⟨s.trans (s2.trans s3),(hA.same (s2.trans s3)).push (w:=i % 2) htq (Nat.mod_lt _ (by decide)),by simp;omega⟩
 rintro ys G1 al HD' ⟨sD,hA,hyl⟩ nal sD2 hal
 have SL:=SK.trans (sD.trans sD2)
 have hAD:=hA.same sD2
 walk_at "s"
 refine ⟨al,ys,-1,rfl,rfl,by decide,SqL.of hal,by rw [iR,List.length_reverse];omega,fun ra nra=>?_⟩
 rw [iR]
 have SM:=(Same.refl HD').upd nra (o:=.lst ys.reverse)
 have hra:=aj (H:=HD') (a:=ra) (o:=.lst ys.reverse)
 generalize upd HD' ra (.lst ys.reverse)=HM at SM hra ⊢
 refine Hn (SM _ _ hal) hra (by rw [List.length_reverse];omega) fun ad nad=>?_
 walk_at "s"
 have SP:=(Same.refl HM).upd nad (o:=.lst (ys ++ ys.reverse))
 have had:=aj (H:=HM) (a:=ad) (o:=.lst (ys ++ ys.reverse))
 generalize upd HM ad (.lst (ys ++ ys.reverse))=HP at SP had ⊢
 have UP:=SL.trans (SM.trans SP)
 have hAF:=hAD.same (SM.trans SP)
 have W0:=O0.same UP
 have W1:=O1.same UP
 have hmlP:=UP _ _ hml6
 have hklP:=UP _ _ hkl
 have htrP:=UP _ _ htr6
 have hTbP:=hTb6.same UP
 have hSP:=UP.seq hS6
 clear O0 O1
 refine .inl ⟨ad,rfl,⟨_,SqL.of had⟩,?_⟩
 refine kZ (xs:=ys ++ ys.reverse) (fun i U G=>Up HP G/\lTb K mg G/\∃ x8 x9,U=[some (.ref a),some (.ref tr),some (.ref tl),some (.ref gv),some (.ref ml),some (.ref kl),some (.int (mc:Int)),some (.ref al),x8,x9,none]) ⟨Up.refl,hTbP,_,_,rfl⟩ (fun i U G _ h=>SqL.of (h.1 _ _ had fun ps z=>by cases z)) ?_ ?_
 ·rintro i v U G hv ⟨u,hT,x8,x9,rfl⟩
  obtain ⟨p,w',c,rfl,hp,hw⟩:=hAF v (by have:=List.mem_of_getElem? hv;simpa using this)
  obtain ⟨x,qx,m,e1,e2,f',rs',hA',hq',hC'⟩:=Jw (W0.up u) (W1.up u) hw
  refine cU (SqT.of (u _ _ hp fun ps z=>by cases z)) rfl ?_
  walk_at "s"
  refine bw (SqL.of (u _ _ hmlP fun ps z=>by cases z)) (cV e1) ?_
  walk_at "s"
  refine bw (SqL.of (u _ _ hklP fun ps z=>by cases z)) (cV e2) ?_
  walk_at "s"
  refine ⟨x,qx,rs',t,m,f',c,rfl,hA',hq',hC',P0,h60,hT,fun Hx Sx hTx=>?_⟩
  walk_at "s"
  exact ⟨u.trans (An hT Sx),hTx,_,_,rfl⟩
 rintro U G2 ⟨u,hT,x8,x9,rfl⟩
 have hS2:=u.seq hSP
 have htr2':=u _ _ htrP fun ps z=>by cases z
 have hml2:=u _ _ hmlP fun ps z=>by cases z
 have hkl2:=u _ _ hklP fun ps z=>by cases z
 replace W0:=W0.up u
 replace W1:=W1.up u
 have sh2:∀ M:List (Nat×Nat),PySem.SeqAt.shaped (.list (M.map d2))=true:=fun M=>gK (n:=2) (oM (n:=1) fun d hd=>by
  obtain ⟨p,_,rfl⟩:=List.mem_map.mp hd
  refine jR (n:=0) fun e he=>?_
  obtain ⟨i,_,rfl⟩:=List.mem_map.mp he
  exact lV i) (by omega)
 walk_at "n"
 with_reducible refine j4 ?_
 walk_at "n"
 refine ⟨a,ns,2,rfl,hS2,fun c2=>?_⟩
 walk_at "n"
 refine cT (SqL.of htr2') ?_
 walk_at "n"
 rw [bM]
 walk_at "n"
 obtain ⟨L,hL,hL2⟩:∃ L:Nat,c2 % ((t.length:Int)+1)=(L:Int)/\L<=60:=⟨(c2 % ((t.length:Int)+1)).toNat,by have:=Int.emod_nonneg c2 (show (t.length:Int)+1≠0 by omega);omega,by have:=Int.emod_lt_of_pos c2 (show 0 < (t.length:Int)+1 by omega);omega⟩
 rw [hL]
 with_reducible refine oN (fun U G=>Same G2 G/\U=[some (.ref a),some (.ref tr),some (.ref tl),some (.ref gv),some (.ref ml),some (.ref kl),some (.int (mc:Int)),some (.ref al),x8,x9,some (.int (L:Int))]) ?_ ?_
 rotate_left
 ·intro N hN
  walk_at "s"
  refine cT (SqL.of htr2') ?_
  walk_at "s"
  rw [bM]
  refine pq (fun h=>?_) (fun h=>?_)
  ·obtain ⟨f',rs',hA',hq',hC'⟩:=W1
   obtain ⟨_,dx,ty,hx,hT'⟩:=id hA'
   have hl':=hA'.1
   walk_at "s"
   refine ⟨x1,dx,_,rfl,hx,vM (by trivial),?_⟩
   walk_at "s"
   refine ⟨x1,t,m1,f',L,rfl,hA',by omega,by omega,fun td vs M G3 ntd s3 htd h23 hM=>?_⟩
   walk_at "s"
   have hkl3:=s3 _ _ hkl2
   walk_at "s"
   refine ⟨q1,rs',t,m1,f',L,rfl,s3 _ _ hq',hC'.same s3,P0,hl',fun du ws M' G4 ndu s4 hdu h24 hM'=>?_⟩
   walk_at "s"
   obtain rfl:=hM.uniq hM'
   refine .inl (sr ((h23.same s4).dr (s4 _ _ htd)) (h24.dr hdu) (sh2 _) ?_)
   walk_at "s"
   exact hN _ _ ⟨s3.trans s4,rfl⟩
  ·walk_at "s"
   exact hN _ _ ⟨Same.refl _,rfl⟩
 rintro U G3 ⟨s3,rfl⟩
 have hT3:=hT.same s3
 have hml3:=s3 _ _ hml2
 have hkl3:=s3 _ _ hkl2
 obtain ⟨f',rs',hA',hq',hC'⟩:=W0.same s3
 obtain ⟨_,dx,ty,hx,hT'⟩:=id hA'
 have hl':=hA'.1
 walk_at "s"
 refine ⟨x0,dx,_,rfl,hx,vM (by trivial),?_⟩
 walk_at "s"
 refine ⟨x0,t,m0,f',L,rfl,hA',by omega,by omega,hT3,fun G4 s4 hTb4 hno=>?_,fun b0 b e G4 s4 hTb4 hb hls=>?_⟩
 ·have u4:=An hT3 s4
  have hkl4:=u4 _ _ hkl3 fun ps z=>by cases z
  walk_at "s"
  refine ⟨q0,rs',t,m0,f',L,rfl,u4 _ _ hq' (fun ps z=>by cases z),hC'.up u4,by omega,fun _=>?_,fun a b e G5 _ s5 ha hls=>absurd hls.1 (hno b e)⟩
  show CG K V.non V.non G4 _
  refine .inl (.inl (lU (d:=.none) (nF.mpr rfl) (nF.mpr rfl) rfl ?_))
  exact q _
 ·have u4:=An hT3 s4
  have hkl4:=u4 _ _ hkl3 fun ps z=>by cases z
  walk_at "s"
  refine ⟨q0,rs',t,m0,f',L,rfl,u4 _ _ hq' (fun ps z=>by cases z),hC'.up u4,by omega,fun hno=>absurd hls.1 (hno b e),fun a' b' e' G5 _ s5 ha' hls'=>?_⟩
  obtain ⟨rfl,rfl⟩:=qp hls hls'
  have sha:PySem.SeqAt.shaped (d2 (b,e))=true:=gK (n:=1) (jR (n:=0) fun d he=>by
   obtain ⟨i,_,rfl⟩:=List.mem_map.mp he
   exact lV i) (by omega)
  refine .inl (.inl (lU (tG (p:=(b,e)) (s5 _ _ hb)) (tG (p:=(b,e)) ha') sha ?_))
  exact q _
end
end My
namespace PySem.W.Fast
def tw5279074867360029426:=0
def tw4778584691764017219:=0
def tw6477524893366425750:=0
def tw10558517831903544840:=0
def tw3448613585237893438:=0
def tw6407486444369622174:=0
def tw6663648187642797088:=0
def tw6554848165882226931:=0
def tw5659990085484881325:=0
def tw17308039767927678379:=0
def tw5240352452851942728:=0
def tw8294453210772261087:=0
def tw4971724492831840086:=0
def tw18027465374777317563:=0
def tw983950726264718160:=0
def tw18394786477545963444:=0
def tw7685603516880047694:=0
def tw5416636289308919799:=0
def tw878085291644768828:=0
def tw14502727016510622507:=0
def tw14069407798679214086:=0
def tw13045733521021927321:=0
def tw7146312581603122012:=0
def tw10846525123108331694:=0
def tw2411315155993099204:=0
def tw9599846564597087807:=0
def tw14288789139842208242:=0
def tw6361836971295839939:=0
def tw14469544150978694211:=0
def tw16278433098449673947:=0
def tw3492570805530556389:=0
def tw1044070287940914951:=0
def tw7032411829184162680:=0
def tw15894133625299181232:=0
def tw10501029045326054823:=0
def tw12104058308743462949:=0
def tw14534030779569574804:=0
def tw14516913383182688264:=0
def tw7190909259737047950:=0
def tw14566224815991849:=0
def tw4959675788160789250:=0
def tw1233415420006296994:=0
def tw6791530646873512808:=0
def tw14403622512099353458:=0
def tw1214637368072882656:=0
def tw17100109127508756088:=0
def tw6287791009292499014:=0
def tw10850178590135644532:=0
def tw15891289097307766849:=0
def tw3511679529841663263:=0
def tw8134690654117646722:=0
def tw891086530731245256:=0
def tw13225151116174149982:=0
def tw3033320594220682150:=0
def tw6525468099753092201:=0
def tw10968993177276424723:=0
def tw13416096915195103889:=0
def tw4324615296456157976:=0
def tw10562976533860436997:=0
def tw6619591609885549083:=0
def tw16162133477653856386:=0
def tw1131655882287444991:=0
def tw7530838011848792208:=0
def tw6784708364761210439:=0
def tw15863506270452567830:=0
def tw12142516340289623931:=0
def tw7016365468131605051:=0
def tw2884854015671194677:=0
def tw4984879451102635132:=0
def tw3361060328878314891:=0
def tw6052295201896420523:=0
def tw12944013745827552647:=0
def tw3673342529830301415:=0
def tw4031090718974229909:=0
def tw14338719482831563168:=0
def tw864713744546700019:=0
def tw6916646570250750147:=0
def tw4129567927305906551:=0
def tw3607803792035041534:=0
def tw4464686581839427213:=0
def tw32915403900500632:=0
def tw5373522055495985349:=0
def tw3390515171911555084:=0
def tw1492929453117619188:=0
def tw12623299529568877643:=0
def tw4413823988072271638:=0
def tw82043760673532847:=0
def tw3822201491345397256:=0
def tw12508333732398218114:=0
def tw3351309354295735814:=0
def tw8537584248582306038:=0
def tw4562542394862667526:=0
def tw4608157456951481845:=0
def tw17593531216752348621:=0
def tw15836809947781208167:=0
def tw17803549244680750716:=0
def tw15276553593877976040:=0
def tw5223026453402152590:=0
def tw12235834748420821474:=0
def tw16388279307835712647:=0
def tw4061585410725248807:=0
def tw7039225049170134481:=0
def tw1664107195959061670:=0
def tw17750688931836958219:=0
def tw11697832524760652670:=0
def tw2669981707705643123:=0
def tw15634559824303255158:=0
def tw14678938588165018248:=0
def tw470087855998796959:=0
def tw1443337835315811789:=0
def tw12239209598081508159:=0
def tw18056614731842001598:=0
def tw14354084252352783676:=0
def tw5201070519880077392:=0
def tw16696366282241527328:=0
def tw17053593081650645643:=0
def tw4397814615914034540:=0
def tw2032115115801961445:=0
def tw4095553628845008413:=0
def tw7917670004202239736:=0
def tw1929605819153874940:=0
def tw14561393729073513485:=0
def tw14391779496630324983:=0
def tw30296414475266150:=0
def tw16830048626259812969:=0
def tw4234657269967144650:=0
def tw209731342080341103:=0
def tw8783169131122171558:=0
def tw12193050519648340950:=0
def tw12962663587219910663:=0
def tw16327128774347583415:=0
def tw14522951324700212785:=0
def tw11969180704933328726:=0
def tw11226310562326395375:=0
def tw11623155725868983062:=0
def tw3118893539448246106:=0
def tw15893882551207664779:=0
def tw8959796333901220036:=0
def tw6118203427628242192:=0
def tw18070771238688866892:=0
def tw9704944518553859793:=0
def tw16842117399526395786:=0
def tw1728801326399321032:=0
def tw4793553347824265907:=0
def tw7350123952585570723:=0
def tw14675347657454521928:=0
def tw14615683185719511458:=0
def tw15489349700676863493:=0
def tw9546865710176125640:=0
def tw3851352788977416832:=0
def tw15358279351130326636:=0
def tw15338191710940049101:=0
def tw10051482563832209859:=0
def tw5696409861977426916:=0
def tw10227610108398454363:=0
def tw14420169221807111078:=0
def tw3051989989870757612:=0
def tw13515172880899875305:=0
def tw3094713629789962079:=0
def tw1675926607368682242:=0
def tw515837448843935053:=0
def tw2056332801784611737:=0
def tw330998926289494965:=0
def tw16017054033298529672:=0
def tw12332655890369135213:=0
def tw229031277234377171:=0
def tw4790640718689278391:=0
def tw10166719600621279510:=0
def tw6836436795283102479:=0
def tw5376015380433727404:=0
def tw11388113152377466489:=0
def tw17519985541801497796:=0
def tw14669030068564213104:=0
def tw4832031809500198778:=0
def tw4258049898433340875:=0
def tw13211935154372504763:=0
def tw5956181949372881466:=0
def tw16855457080728863853:=0
def tw1447195591971365190:=0
def tw8801302893778410259:=0
def tw14392473708872974221:=0
def tw14345630916590867265:=0
def tw7500865909760435845:=0
def tw12755551910991112086:=0
def tw2225675294920978615:=0
def tw5611177638415156312:=0
def tw11818338503299701992:=0
def tw429901582803636723:=0
def tw12497090491972411286:=0
def tw10892873261557423719:=0
def tw16816001357752017443:=0
def tw10531709916952349823:=0
def tw6773364009784635511:=0
def tw5570506128996367417:=0
def tw860080231739046081:=0
def tw712038971811014198:=0
def tw10980530091673469985:=0
def tw16145121380957363649:=0
def tw17472827534344870747:=0
def tw17027581906814909177:=0
def tw9066566388942789265:=0
def tw8894865277792434392:=0
def tw14421232456413250065:=0
def tw5261294693463557940:=0
def tw2376497662457825899:=0
def tw7886108218450358574:=0
def tw10812251715685565001:=0
def tw12731277135789180603:=0
def tw3020033837748119886:=0
def tw11763689246037946967:=0
def tw11392138067530603906:=0
def tw15177656259792436486:=0
def tw17295463106490696841:=0
def tw18000113533725228357:=0
def tw11537392901169877861:=0
def tw15917000675377490901:=0
def tw11557993570592348738:=0
def tw10305733249505109461:=0
def tw1667959030499926346:=0
def tw5141512877828931940:=0
def tw3141633807771936235:=0
def tw12411894393529856611:=0
def tw3647569679251163447:=0
def tw3930272140466398019:=0
def tw18033123692638409520:=0
def tw4793114626705337334:=0
def tw12916757781451749126:=0
def tw5348963542620132282:=0
def tw1502083987125596146:=0
def tw771009510734300316:=0
def tw12889337789216393943:=0
def tw4639775681465518331:=0
def tw17171771025201406073:=0
def tw14574617295082366833:=0
def tw17309505407945302222:=0
def tw3955263235617004418:=0
def tw15059600567939659071:=0
def tw11235893466975398445:=0
def tw8646052771532802034:=0
def tw3866643947765818851:=0
def tw3882167488982406019:=0
def tw16859198444508359741:=0
def tw12772543450873719926:=0
def tw16387810750095228062:=0
def tw9369001454350664260:=0
def tw18180498062878236190:=0
def tw1933375124778225422:=0
def tw17873320910993095183:=0
def tw13545642570429558123:=0
def tw16729575074372848887:=0
def tw10922533355765993508:=0
def tw5698610600303202125:=0
def tw17346326933914062547:=0
def tw11288600064550191838:=0
def tw15158996646192305587:=0
def tw5252718772449704132:=0
def tw14693191646343592388:=0
def tw17767316243481503572:=0
def tw10707595250125556748:=0
def tw9199693744813292157:=0
def tw13349013455677397661:=0
def tw12913165170261559705:=0
def tw16268923763021193295:=0
def tw3717299870333964841:=0
def tw16869260801237057442:=0
def tw16136684385033889129:=0
def tw8803912772468886633:=0
def tw9605169537724131546:=0
def tw9100442669530242901:=0
def tw926165082209900790:=0
def tw10649506718576698558:=0
def tw10539965109276073180:=0
def tw6734138089653310227:=0
def tw13413352757709891771:=0
def tw218631848360764371:=0
def tw15288540022169288224:=0
def tw6813840361384193471:=0
def tw15563793079472877922:=0
def tw17528034889504865599:=0
def tw17282629267236707006:=0
def tw1167859971145815370:=0
def tw11895852439632232023:=0
def tw5050406923231643493:=0
def tw1377989082315720290:=0
def tw9489427292720672237:=0
def tw12638807862034720125:=0
def tw15079401143847487503:=0
def tw10571282710992169175:=0
def tw17821665295177310197:=0
def tw6828079226481024180:=0
def tw14359903730325569846:=0
def tw1785896076261728096:=0
def tw8692858008266487471:=0
def tw8980199542831172246:=0
def tw5199744407645919640:=0
def tw2480010860645497398:=0
def tw18157464743460267934:=0
def tw9664000158149142274:=0
def tw14932959958784492123:=0
def tw13675915219997143450:=0
def tw897613275611499069:=0
def tw5627726667712156174:=0
def tw10553945704316633186:=0
def tw362446041044300644:=0
def tw16783543446911148808:=0
def tw11867825753560876271:=0
def tw1723421286051025183:=0
def tw3948993414160156576:=0
def tw1227126051023941214:=0
def tw4768293299802376174:=0
def tw6325224007905123038:=0
def tw8781637977753447601:=0
def tw18114929409613942825:=0
def tw358689955714310294:=0
def tw3125106897295967715:=0
def tw11105348039225983786:=0
def tw12017816175999462424:=0
def tw1633685554521339218:=0
def tw973632452143693098:=0
def tw9713390675870360130:=0
def tw3256974960641429037:=0
def tw15526845025036399298:=0
def tw2337394294330675115:=0
def tw2832714023718715851:=0
def tw3173939300944762312:=0
def tw6968254160672557503:=0
def tw11796383040702491476:=0
def tw17047261987523327305:=0
def tw15794537770514574541:=0
def tw12407064727991588495:=0
def tw18204953849157599397:=0
def tw17146428879407146391:=0
def tw8888585213102059901:=0
def tw12055549154229755163:=0
def tw13495006901857526393:=0
def tw2687850729381816499:=0
def tw7444575520521190377:=0
def tw7258519286226680663:=0
def tw11162151043000388273:=0
def tw7562943742074080559:=0
def tw16175630899468630777:=0
def tw12443413854550021355:=0
def tw13278874003988348153:=0
def tw3648887478151747840:=0
def tw15404259060405549047:=0
def tw2702403798501780661:=0
def tw5773011350413413556:=0
def tw13260434702545964231:=0
def tw12864414867279515164:=0
def tw4477714283892461460:=0
def tw1074212693598265841:=0
def tw3489246858631249946:=0
def tw1535011249284343535:=0
def tw5643846059123540320:=0
def tw6961599408298232620:=0
def tw1089876771037224441:=0
def tw15351683873850222523:=0
def tw2750652976292160447:=0
def tw4441483516705754593:=0
def tw8382770553225112597:=0
def tw18090108907705855704:=0
def tw11774901951425916771:=0
def tw1187420546071066200:=0
def tw10263862383787695114:=0
def tw8033845084742027247:=0
def tw9465712812204423846:=0
def tw17431286944945998592:=0
def tw6690144527304385078:=0
def tw3723572380657067740:=0
def tw10531599057860776947:=0
def tw5041032751057688825:=0
def tw13931864260816974742:=0
def tw17728133675383463755:=0
def tw18419313740770122687:=0
def tw15907741955215885229:=0
def tw12903437981318107075:=0
def tw15500714902092754056:=0
def tw12154795264895853618:=0
def tw7195609011658717129:=0
def tw3058790021427120200:=0
def tw7813178538550314053:=0
def tw13606443447511606638:=0
def tw18064739505793137504:=0
def tw6972990232218800427:=0
def tw18382006294320675202:=0
def tw14133355093195922991:=0
def tw8214759071877005077:=0
def tw3997731532059050270:=0
def tw5200010389080558073:=0
end PySem.W.Fast
open PySem PySem.W PyProof.Rows
set_option maxRecDepth 100000 in
set_option maxHeartbeats 0 in
theorem PySem.Challenge.cw_panethread_k43_tight_stretches_holds : PySem.Challenge.rw_panethread_k43_tight_stretches.Holds := by
 w_on;o_law;k_head;(case hw=>w_witness2)
 k_fill
 refine L2.Lf (l:=PySem.Challenge.rw_panethread_k43_tight_stretches) (st:=My.bY) (k:=11) (T:=267) (x:="_law_script") (sp:=My.Fl) rfl rfl rfl ⟨rfl,by decide,by decide,rfl⟩ (fun w h Y=>⟨PySem.W.km_in_of Y,PySem.W.km_tabs_of Y _ (List.Mem.head _)⟩) (fun _ _ _ _ _ _ us hl=>L2.vR (fun _=>rfl) us hl) ?F
 case F=>
  intro w mg h KX G
  have b_bool:mg "bool"=none:=by
   refine' PySem.W.mg_none_of KX G ?a
   (case a=>k_is)
  have b_enumerate:mg "enumerate"=none:=by
   refine' PySem.W.mg_none_of KX G ?a
   (case a=>k_is)
  have b_int:mg "int"=none:=by
   refine' PySem.W.mg_none_of KX G ?a
   (case a=>k_is)
  have b_isinstance:mg "isinstance"=none:=by
   refine' PySem.W.mg_none_of KX G ?a
   (case a=>k_is)
  have b_len:mg "len"=none:=by
   refine' PySem.W.mg_none_of KX G ?a
   (case a=>k_is)
  have b_list:mg "list"=none:=by
   refine' PySem.W.mg_none_of KX G ?a
   (case a=>k_is)
  have b_min:mg "min"=none:=by
   refine' PySem.W.mg_none_of KX G ?a
   (case a=>k_is)
  have b_range:mg "range"=none:=by
   refine' PySem.W.mg_none_of KX G ?a
   (case a=>k_is)
  have b_reversed:mg "reversed"=none:=by
   refine' PySem.W.mg_none_of KX G ?a
   (case a=>k_is)
  have b_tuple:mg "tuple"=none:=by
   refine' PySem.W.mg_none_of KX G ?a
   (case a=>k_is)
  have c_MOST_LINES:∃ t,mg "MOST_LINES"=some (.int 96 t):=by
   refine' L2.yS KX G ?a ?h
   (case a=>k_is);(case h=>exact ⟨_,by with_unfolding_all rfl⟩)
  have d_is_number:L2.jo (L2.KOf KX) mg "is_number" My.dw:=by
   dsimp only [L2.KOf]
   refine' L2.dm KX G ?a ?l ?c ?k
   (case a=>k_is);(case l=>k_is);(case c=>k_is);(case k=>k_is)
  have d_is_within:L2.jo (L2.KOf KX) mg "is_within" My.dz:=by
   dsimp only [L2.KOf]
   refine' L2.dm KX G ?a ?l ?c ?k
   (case a=>k_is);(case l=>k_is);(case c=>k_is);(case k=>k_is)
  have d_need_place:L2.jo (L2.KOf KX) mg "need_place" My.cN:=by
   dsimp only [L2.KOf]
   refine' L2.dm KX G ?a ?l ?c ?k
   (case a=>k_is);(case l=>k_is);(case c=>k_is);(case k=>k_is)
  have d_is_turning:L2.jo (L2.KOf KX) mg "is_turning" My.bc:=by
   dsimp only [L2.KOf]
   refine' L2.dm KX G ?a ?l ?c ?k
   (case a=>k_is);(case l=>k_is);(case c=>k_is);(case k=>k_is)
  have d_need_turning:L2.jo (L2.KOf KX) mg "need_turning" My.dB:=by
   dsimp only [L2.KOf]
   refine' L2.dm KX G ?a ?l ?c ?k
   (case a=>k_is);(case l=>k_is);(case c=>k_is);(case k=>k_is)
  have d_counts:L2.jo (L2.KOf KX) mg "counts" My.cu:=by
   dsimp only [L2.KOf]
   refine' L2.dm KX G ?a ?l ?c ?k
   (case a=>k_is);(case l=>k_is);(case c=>k_is);(case k=>k_is)
  have d_law_cell:L2.jo (L2.KOf KX) mg "_law_cell" My.fY:=by
   dsimp only [L2.KOf]
   refine' L2.dm KX G ?a ?l ?c ?k
   (case a=>k_is);(case l=>k_is);(case c=>k_is);(case k=>k_is)
  have d_law_numbers:L2.jo (L2.KOf KX) mg "_law_numbers" My.bA:=by
   dsimp only [L2.KOf]
   refine' L2.dm KX G ?a ?l ?c ?k
   (case a=>k_is);(case l=>k_is);(case c=>k_is);(case k=>k_is)
  have d_law_turning:L2.jo (L2.KOf KX) mg "_law_turning" My.aQ:=by
   dsimp only [L2.KOf]
   refine' L2.dm KX G ?a ?l ?c ?k
   (case a=>k_is);(case l=>k_is);(case c=>k_is);(case k=>k_is)
  have d_law_size:L2.jo (L2.KOf KX) mg "_law_size" My.jk:=by
   dsimp only [L2.KOf]
   refine' L2.dm KX G ?a ?l ?c ?k
   (case a=>k_is);(case l=>k_is);(case c=>k_is);(case k=>k_is)
  have d_law_lengths:L2.jo (L2.KOf KX) mg "_law_lengths" My.aK:=by
   dsimp only [L2.KOf]
   refine' L2.dm KX G ?a ?l ?c ?k
   (case a=>k_is);(case l=>k_is);(case c=>k_is);(case k=>k_is)
  have d_law_tightest:L2.jo (L2.KOf KX) mg "_law_tightest" My.aH:=by
   dsimp only [L2.KOf]
   refine' L2.dm KX G ?a ?l ?c ?k
   (case a=>k_is);(case l=>k_is);(case c=>k_is);(case k=>k_is)
  have d_law_shortest:L2.jo (L2.KOf KX) mg "_law_shortest" My.aZ:=by
   dsimp only [L2.KOf]
   refine' L2.dm KX G ?a ?l ?c ?k
   (case a=>k_is);(case l=>k_is);(case c=>k_is);(case k=>k_is)
  have d_law_gains:L2.jo (L2.KOf KX) mg "_law_gains" My.cz:=by
   dsimp only [L2.KOf]
   refine' L2.dm KX G ?a ?l ?c ?k
   (case a=>k_is);(case l=>k_is);(case c=>k_is);(case k=>k_is)
  have d_law_losses:L2.jo (L2.KOf KX) mg "_law_losses" My.dF:=by
   dsimp only [L2.KOf]
   refine' L2.dm KX G ?a ?l ?c ?k
   (case a=>k_is);(case l=>k_is);(case c=>k_is);(case k=>k_is)
  have d_law_asked:L2.jo (L2.KOf KX) mg "_law_asked" My.aF:=by
   dsimp only [L2.KOf]
   refine' L2.dm KX G ?a ?l ?c ?k
   (case a=>k_is);(case l=>k_is);(case c=>k_is);(case k=>k_is)
  have d_law:L2.jo (L2.KOf KX) mg "law" My.bY:=by
   dsimp only [L2.KOf]
   refine' L2.dm KX G ?a ?l ?c ?k
   (case a=>k_is);(case l=>k_is);(case c=>k_is);(case k=>k_is)
  have o_Tally:L2.pB (L2.KOf KX) mg "Tally":=by
   dsimp only [L2.KOf]
   refine' L2.Fb KX G ?a ?b ?s ?m ?k
   (case a=>k_is);(case b=>kernel_rfl);(case s=>k_is);(case m=>first | k_is | kernel_rfl);(case k=>k_is)
  have n_Tally:∀ f∈(["held_ends","held_counts"]:List Str),L2.NoAttr (L2.KOf KX) (L2.bO mg "Tally") f:=by
   dsimp only [L2.KOf]
   refine' L2.Fd KX G ?a ?b
   (case a=>k_is);(case b=>kernel_rfl)
  have o_Asks:L2.pB (L2.KOf KX) mg "Asks":=by
   dsimp only [L2.KOf]
   refine' L2.Fb KX G ?a ?b ?s ?m ?k
   (case a=>k_is);(case b=>kernel_rfl);(case s=>k_is);(case m=>first | k_is | kernel_rfl);(case k=>k_is)
  have n_Asks:∀ f∈(["held_tally","held_many","held_far"]:List Str),L2.NoAttr (L2.KOf KX) (L2.bO mg "Asks") f:=by
   dsimp only [L2.KOf]
   refine' L2.Fd KX G ?a ?b
   (case a=>k_is);(case b=>kernel_rfl)
  have lt_Asks_shortest:L2.LTxt (L2.KOf KX) mg "Asks" "shortest" "Asks.shortest" My.aP 267:=by
   dsimp only [L2.KOf]
   refine' L2.Ld KX G ?a ?i ?n ?l ?c ?k ?z
   (case a=>k_is);(case i=>k_is);(case n=>first | k_is | kernel_rfl);(case l=>k_is);(case c=>k_is);(case k=>k_is);(case z=>kernel_rfl)
  have m_Asks_shortest:L2.zJ (L2.KOf KX) mg "Asks" "shortest" "Asks.shortest" My.aP:=⟨_,lt_Asks_shortest⟩
  have m_Tally___init__:L2.gM (L2.KOf KX) mg "Tally" "__init__" "Tally.__init__" My.bx:=by
   dsimp only [L2.KOf]
   refine' L2.j5 KX G ?a ?i ?n ?l ?c ?k
   (case a=>k_is);(case i=>k_is);(case n=>first | k_is | kernel_rfl);(case l=>k_is);(case c=>k_is);(case k=>k_is)
  have m_Tally_below:L2.gM (L2.KOf KX) mg "Tally" "below" "Tally.below" My.bN:=by
   dsimp only [L2.KOf]
   refine' L2.j5 KX G ?a ?i ?n ?l ?c ?k
   (case a=>k_is);(case i=>k_is);(case n=>first | k_is | kernel_rfl);(case l=>k_is);(case c=>k_is);(case k=>k_is)
  have m_Asks___init__:L2.gM (L2.KOf KX) mg "Asks" "__init__" "Asks.__init__" My.bh:=by
   dsimp only [L2.KOf]
   refine' L2.j5 KX G ?a ?i ?n ?l ?c ?k
   (case a=>k_is);(case i=>k_is);(case n=>first | k_is | kernel_rfl);(case l=>k_is);(case c=>k_is);(case k=>k_is)
  have m_Asks_reckoned:L2.gM (L2.KOf KX) mg "Asks" "reckoned" "Asks.reckoned" My.bj:=by
   dsimp only [L2.KOf]
   refine' L2.j5 KX G ?a ?i ?n ?l ?c ?k
   (case a=>k_is);(case i=>k_is);(case n=>first | k_is | kernel_rfl);(case l=>k_is);(case c=>k_is);(case k=>k_is)
  have m_Asks_reckoned_stretch:L2.gM (L2.KOf KX) mg "Asks" "reckoned_stretch" "Asks.reckoned_stretch" My.aR:=by
   dsimp only [L2.KOf]
   refine' L2.j5 KX G ?a ?i ?n ?l ?c ?k
   (case a=>k_is);(case i=>k_is);(case n=>first | k_is | kernel_rfl);(case l=>k_is);(case c=>k_is);(case k=>k_is)
  have m_Asks_table_row:L2.gM (L2.KOf KX) mg "Asks" "table_row" "Asks.table_row" My.bG:=by
   dsimp only [L2.KOf]
   refine' L2.j5 KX G ?a ?i ?n ?l ?c ?k
   (case a=>k_is);(case i=>k_is);(case n=>first | k_is | kernel_rfl);(case l=>k_is);(case c=>k_is);(case k=>k_is)
  have m_Asks_gains:L2.gM (L2.KOf KX) mg "Asks" "gains" "Asks.gains" My.bJ:=by
   dsimp only [L2.KOf]
   refine' L2.j5 KX G ?a ?i ?n ?l ?c ?k
   (case a=>k_is);(case i=>k_is);(case n=>first | k_is | kernel_rfl);(case l=>k_is);(case c=>k_is);(case k=>k_is)
  have m_Asks_losses:L2.gM (L2.KOf KX) mg "Asks" "losses" "Asks.losses" My.bB:=by
   dsimp only [L2.KOf]
   refine' L2.j5 KX G ?a ?i ?n ?l ?c ?k
   (case a=>k_is);(case i=>k_is);(case n=>first | k_is | kernel_rfl);(case l=>k_is);(case c=>k_is);(case k=>k_is)
  have m_Asks_least_end:L2.gM (L2.KOf KX) mg "Asks" "least_end" "Asks.least_end" My.bz:=by
   dsimp only [L2.KOf]
   refine' L2.j5 KX G ?a ?i ?n ?l ?c ?k
   (case a=>k_is);(case i=>k_is);(case n=>first | k_is | kernel_rfl);(case l=>k_is);(case c=>k_is);(case k=>k_is)
  have m_Asks_tightest:L2.gM (L2.KOf KX) mg "Asks" "tightest" "Asks.tightest" My.aO:=by
   dsimp only [L2.KOf]
   refine' L2.j5 KX G ?a ?i ?n ?l ?c ?k
   (case a=>k_is);(case i=>k_is);(case n=>first | k_is | kernel_rfl);(case l=>k_is);(case c=>k_is);(case k=>k_is)
  have hno:(L2.KOf KX).lookup 267=none:=by
   dsimp only [L2.KOf]
   first | k_is | kernel_rfl
  refine ⟨d_law,fun base f fd F=>My.Jx ⟨b_bool,b_enumerate,b_int,b_isinstance,b_len,b_list,b_min,b_range,b_reversed,b_tuple,c_MOST_LINES,d_is_number,d_is_within,d_need_place,d_is_turning,d_need_turning,d_counts,d_law_cell,d_law_numbers,d_law_turning,d_law_size,d_law_lengths,d_law_tightest,d_law_shortest,d_law_gains,d_law_losses,d_law_asked,d_law,o_Tally,n_Tally,o_Asks,n_Asks,m_Tally___init__,m_Tally_below,m_Asks___init__,m_Asks_reckoned,m_Asks_reckoned_stretch,m_Asks_table_row,m_Asks_gains,m_Asks_losses,m_Asks_least_end,m_Asks_tightest,m_Asks_shortest⟩ F,fun H a ns hl hS hT=>⟨a,ns,rfl,hS,hl,.inl ?_,fun _=>rfl⟩,hno,?_⟩
  ·show H (L2.Np (L2.KOf KX) mg "Asks" "shortest" "Asks.shortest" My.aP)=_
   rw [L2.zK lt_Asks_shortest]
   exact hT
  ·obtain ⟨_,c,_,_,_,_,_,_,_,_,_,_,_,_,z⟩:=lt_Asks_shortest.ex
   exact ⟨c,z⟩
