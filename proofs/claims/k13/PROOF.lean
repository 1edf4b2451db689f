import PyProof.Rows.All
import Wide.All
import OpenK.AllK
import Wide.FinOn
import Lean
import PyProof.EqAt
import PyProof.EqKinds
import PyProof.TupleCall
import PyProof.ReprRoads
import KE.KSortTup
import PySem.Challenge.RW_panethread_k13_papers
noncomputable section
local macro_rules | `(tactic| trivial) => `(tactic| decide +kernel)
set_option compiler.extract_closed false
set_option Elab.async false
set_option linter.all false
set_option maxRecDepth 100000
namespace L2
@[elab_as_elim] theorem wu {p:List PySem.Value->Prop} (h:∀ a0:PySem.Value,p [a0]) (us:List PySem.Value) (hl:us.length=1):p us:=by
 rcases us with _ | ⟨a0,us0⟩
 ·cases hl
 rcases us0 with _ | ⟨b,us⟩
 ·exact h a0
 ·cases hl
@[elab_as_elim] theorem rP {p:List PySem.Value->Prop} (h:∀ a0 a1:PySem.Value,p [a0,a1]) (us:List PySem.Value) (hl:us.length=2):p us:=by
 rcases us with _ | ⟨a0,us0⟩
 ·cases hl
 rcases us0 with _ | ⟨a1,us1⟩
 ·cases hl
 rcases us1 with _ | ⟨b,us⟩
 ·exact h a0 a1
 ·cases hl
@[elab_as_elim] theorem rQ {p:List PySem.Value->Prop} (h:∀ a0 a1 a2:PySem.Value,p [a0,a1,a2]) (us:List PySem.Value) (hl:us.length=3):p us:=by
 rcases us with _ | ⟨a0,us0⟩
 ·cases hl
 rcases us0 with _ | ⟨a1,us1⟩
 ·cases hl
 rcases us1 with _ | ⟨a2,us2⟩
 ·cases hl
 rcases us2 with _ | ⟨b,us⟩
 ·exact h a0 a1 a2
 ·cases hl
@[elab_as_elim] theorem Ql {p:List PySem.Value->Prop} (h:∀ a0 a1 a2 a3:PySem.Value,p [a0,a1,a2,a3]) (us:List PySem.Value) (hl:us.length=4):p us:=by
 rcases us with _ | ⟨a0,us0⟩
 ·cases hl
 rcases us0 with _ | ⟨a1,us1⟩
 ·cases hl
 rcases us1 with _ | ⟨a2,us2⟩
 ·cases hl
 rcases us2 with _ | ⟨a3,us3⟩
 ·cases hl
 rcases us3 with _ | ⟨b,us⟩
 ·exact h a0 a1 a2 a3
 ·cases hl
theorem auto1 (h:True:=by first | exact .inl rfl | exact .inr rfl | assumption):True:=h
theorem auto2 (h:True:=by decide):True:=h
theorem auto3 (h:True:=by intro _;rfl):True:=h
theorem auto4 (h:True:=by rfl):True:=h
theorem auto5 (h:True:=by with_unfolding_all rfl):True:=h
theorem auto6 (h:True:=by trivial):True:=h
open PySem PySem.Spec PyProof.Rows
abbrev Key:=Sum Int Str
def wH:Key->Value->Bool
 | .inl k,v=>Value.isInt k v
 | .inr x,v=>Value.isStrOf x v
def keyH (w:World):Key->Int
 | .inl k=>hashInt k
 | .inr x=>hashStr w x
theorem cW:∀ {k:Key} {v:Value},wH k v=true->(∃ i t,k=Sum.inl i/\v=Value.int i t)\/(∃ x t,k=Sum.inr x/\v=Value.str x t)
 | .inl i,v,h=>by
  obtain ⟨t,e⟩:=Value.isInt_shape (k:=i) (v:=v) h
  exact .inl ⟨i,t,rfl,e⟩
 | .inr x,v,h=>by
  obtain ⟨t,e⟩:=Value.isStrOf_shape (x:=x) (v:=v) h
  exact .inr ⟨x,t,rfl,e⟩
theorem DN (i:Int) (t:Tok):wH (.inl i) (.int i t)=true:=by simp [wH,Value.isInt]
theorem DP (x:Str) (t:Tok):wH (.inr x) (.str x t)=true:=by simp [wH,Value.isStrOf]
theorem Qm (a b:Int):decide ((Sum.inl a:Key)=Sum.inl b)=(a == b):=by
 by_cases e:a=b
 ·subst e;simp
 ·have h:¬ (Sum.inl a:Key)=Sum.inl b:=fun q=>e (Sum.inl.inj q)
  rw [decide_eq_false h]
  exact (beq_eq_false_iff_ne.mpr e).symm
theorem Qn (a b:Str):decide ((Sum.inr a:Key)=Sum.inr b)=decide (a=b):=by
 by_cases e:a=b
 ·subst e;simp
 ·have h:¬ (Sum.inr a:Key)=Sum.inr b:=fun q=>e (Sum.inr.inj q)
  rw [decide_eq_false h,decide_eq_false e]
theorem Qo (a:Int) (b:Str):decide ((Sum.inl a:Key)=Sum.inr b)=false:=decide_eq_false (fun q=>nomatch q)
theorem Qp (a:Str) (b:Int):decide ((Sum.inr a:Key)=Sum.inl b)=false:=decide_eq_false (fun q=>nomatch q)
def cF (prog:Program) (w:World):PySem.KeyKind prog w Key where
 is:=wH
 hash:=keyH w
 inj:=fun v a b ha hb=>by
  rcases cW ha with ⟨i,t,rfl,rfl⟩ | ⟨x,t,rfl,rfl⟩
  ·rcases cW hb with ⟨j,u,rfl,e⟩ | ⟨y,u,rfl,e⟩
   ·injection e with e1 _;rw [e1]
   ·exact nomatch e
  ·rcases cW hb with ⟨j,u,rfl,e⟩ | ⟨y,u,rfl,e⟩
   ·exact nomatch e
   ·injection e with e1 _;rw [e1]
 byValue:=fun k v h=>by
  rcases cW h with ⟨i,t,rfl,rfl⟩ | ⟨x,t,rfl,rfl⟩ <;> rfl
 pyHash:=fun hv h=>by
  rcases cW hv with ⟨i,t,rfl,rfl⟩ | ⟨x,t,rfl,rfl⟩
  ·exact wpAny_pyHash_int h
  ·exact wpAny_pyHash_str h
 eqBool:=fun hu hv h=>by
  rcases cW hu with ⟨i,t,rfl,rfl⟩ | ⟨x,t,rfl,rfl⟩
  ·rcases cW hv with ⟨j,u,rfl,rfl⟩ | ⟨y,u,rfl,rfl⟩
   ·rw [Qm] at h;exact wpAny_eqBool_int h
   ·rw [Qo] at h;exact SeqAt.EqAt.int_str i t y u _ _ _ _ h
  ·rcases cW hv with ⟨j,u,rfl,rfl⟩ | ⟨y,u,rfl,rfl⟩
   ·rw [Qp] at h;exact SeqAt.EqAt.str_int x t j u _ _ _ _ h
   ·rw [Qn] at h;exact wpAny_eqBool_str h
 «strs»:=fun k x t v h=>by
  rcases cW h with ⟨i,u,rfl,e⟩ | ⟨y,u,rfl,e⟩
  ·exact nomatch e
  ·injection e with e1 _
   subst e1
   cases v <;> rfl
theorem yQ (prog:Program) (w:World) (i:Int) (t:Tok):(cF prog w).is (.inl i) (.int i t)=true:=DN i t
theorem yR (prog:Program) (w:World) (x:Str) (t:Tok):(cF prog w).is (.inr x) (.str x t)=true:=DP x t
end L2
namespace L2
open PySem PySem.Spec PyProof.Rows
inductive V where
 | non | bl (b:Bool) | int (i:Int) | str (x:Str) | byt (b:Array UInt8) | flt (b:UInt64) | ref (a:Addr) | ty (n:String)
 deriving DecidableEq
def RelV:V->Value->Prop
 | .non,u=>u=Value.none
 | .bl b,u=>u=Value.bool b
 | .int i,u=>∃ t,u=Value.int i t
 | .str x,u=>∃ t,u=Value.str x t
 | .byt b,u=>∃ t,u=Value.bytes b t
 | .flt b,u=>∃ t,u=Value.float b t
 | .ref a,u=>u=Value.ref a
 | .ty n,u=>u=Value.type n
abbrev Vals:List V->List Value->Prop:=Paired RelV
theorem Vals.length {xs:List V} {us:List Value} (r:Vals xs us):xs.length=us.length:=Paired.length r
theorem Vals.get:∀ {xs:List V} {us:List Value} {i:Nat} {x:V},Vals xs us->xs[i]?=some x->∃ u,us[i]?=some u/\RelV x u
 | _,_,_,_,.nil,e=>by simp at e
 | _,_,0,_,.cons r _,e=>by simp at e;subst e;exact ⟨_,rfl,r⟩
 | _,_,i+1,x,.cons _ t,e=>by
  obtain ⟨u,h1,h2⟩:=Vals.get (i:=i) (x:=x) t (by simpa using e)
  exact ⟨u,by simpa using h1,h2⟩
theorem Vals.set {x:V} {u:Value} (r:RelV x u):∀ {xs:List V} {us:List Value} (i:Nat),Vals xs us->Vals (xs.set i x) (us.set i u)
 | _,_,_,.nil=>.nil
 | _,_,0,.cons _ t=>.cons r t
 | _,_,i+1,.cons q t=>.cons q (Vals.set r i t)
theorem Vals.append:∀ {xs ys:List V} {us ws:List Value},Vals xs us->Vals ys ws->Vals (xs ++ ys) (us ++ ws)
 | _,_,_,_,.nil,s=>s
 | _,_,_,_,.cons r t,s=>.cons r (Vals.append t s)
theorem Vals.take:∀ {xs:List V} {us:List Value} (n:Nat),Vals xs us->Vals (xs.take n) (us.take n)
 | _,_,0,_=>.nil
 | _,_,_+1,.nil=>.nil
 | _,_,n+1,.cons r t=>.cons r (Vals.take n t)
theorem Vals.drop:∀ {xs:List V} {us:List Value} (n:Nat),Vals xs us->Vals (xs.drop n) (us.drop n)
 | _,_,0,r=>r
 | _,_,_+1,.nil=>.nil
 | _,_,n+1,.cons _ t=>Vals.drop n t
def RelO:Option V->Option Value->Prop
 | some v,some u=>RelV v u
 | none,none=>True
 | _,_=>False
def KV {κ:Type}:List (κ×V)->List (κ×Value)->Prop:=Paired fun (p:κ×V) (q:κ×Value)=>p.1=q.1/\RelV p.2 q.2
def kV:Key->V
 | .inl i=>.int i
 | .inr x=>.str x
inductive HO where
 /-- a list -/
 | lst (xs:List V)
 /-- a tuple (never changes) -/
 | tup (xs:List V)
 /-- a dict whose keys are ints and texts;one whose keys are tuples of ints and texts (the empty one is both) -/
 | dK (kvs:List (Key×V)) | dT (kvs:List (List Key×V))
 /-- a set of ints:its members,its size -/
 | set (S:Int->Bool) (n:Nat)
 /-- an instance of the class at C,its dict at dx,its attributes -/
 | ins (C dx:Addr) (fs:List (Str×V))
 /-- the dict of the instance at x -/
 | own (x:Addr)
 /-- the dict of an exception -/
 | xd (fs:List (Str×V))
 /-- a bound method,f of x -/
 | met (f x:Addr)
 /-- a range object lo,lo+1,.. below hi -/
 | rng (lo hi:Int)
 /-- a thing that is known to the object (the script;a dict while a loop walks it):read,never written while it is so -/
 | frz (o:Obj) (u:HO)
 /-- a code object's table -/
 | tbl (ps:Array Value)
 /-- any other thing,by what is true of its one object (a def of one's own:SetO a S n:=HO.ext fun h=>..) -/
 | ext (φ:Heap->Prop)
abbrev Hp:=Addr->Option HO
def upd (H:Hp) (a:Addr) (o:HO):Hp:=fun b=>if b=a then some o else H b
theorem ao {H:Hp} {a:Addr} {o:HO}:upd H a o a=some o:=by unfold upd;rw [if_pos rfl]
theorem aC {H:Hp} {a b:Addr} {o:HO} (h:b≠a):upd H a o b=H b:=by unfold upd;rw [if_neg h]
theorem Vz {H:Hp} {a b:Addr} {o u:HO} (h:H a=some o) (h':H b=some u) (d:o≠u):a≠b:=by
 intro e;subst e;rw [h] at h';exact d (Option.some.inj h')
theorem j8 {H:Hp} {a b:Addr} {o:HO} (h:H a=some o) (h':H b=none):a≠b:=by
 intro e;subst e;rw [h] at h';cases h'
section
variable (P:Program) (w:World)
def ObjOk (H:Hp) (h:Heap) (a:Addr):HO->Prop
 | .lst xs=>xs.length<=sizeLine/\∃ (its:List Value) (n:Nat),Vals xs its/\h.get? a=some {cls:=.type "list",data:=.seq its.toArray n}
 | .tup xs=>xs.length<=sizeLine/\∃ its:List Value,Vals xs its/\IsTup h a its.toArray
 | .dK kvs=>kvs.length<=sizeLine/\(a == sysModules)=false/\∃ vs,KV kvs vs/\h.DictOf (cF P w) a vs
 | .dT kvs=>kvs.length<=sizeLine/\(a == sysModules)=false/\∃ xs:List (List Key×Addr×Value),
   Paired (fun (p:List Key×V) (q:List Key×Addr×Value)=>p.1=q.1/\H q.2.1=some (.tup (p.1.map kV))/\RelV p.2 q.2.2) kvs xs/\
   ∃ o es ep,h.get? a=some o/\o.ExactDict/\o.data= .dict es ep/\es.toList=xs.map (entryOfKey (tupleKind (cF P w)))/\(xs.map (·.1)).Nodup
 | .set S n=>h.SetOf (intKind P w) a S n
 | .ins C dx fs=>H dx=some (.own a)/\fs.length<=1000/\dx≠a/\h.get? a=some (PySem.W.instObj C dx)/\
   ∃ mA,h.Ns1 dx mA/\(∀ f,RelO (fs.lookup f) (mA f))/\PySem.Within mA (fs.map (·.1))
 | .own _=>∃ o,h.get? a=some o
 | .xd fs=>∃ mA,h.Ns1 a mA/\∀ f,RelO (fs.lookup f) (mA f)
 | .rng lo hi=>∃ t u v,h.get? a=some {cls:=.type "range",data:=.fields #[.int lo t,.int hi u,.int 1 v]}
 | .frz o u=>h.get? a=some o/\ObjOk H h a u
 | .tbl ps=>h.get? a=some {cls:=.none,data:=.fields ps}
 | .met f x=>h.get? a=some (PySem.W.methodObj (.ref f) (.ref x))
 | .ext φ=>φ h/\(∃ o,h.get? a=some o)/\∀ h1 h2:Heap,φ h1->(∀ o,h1.get? a=some o->h2.get? a=some o)->φ h2
def HOk (H:Hp) (h:Heap):Prop:=∀ a o,H a=some o->ObjOk P w H h a o
end
section
variable {P:Program} {w:World} {H H':Hp} {h h':Heap} {a:Addr} {o:HO}
theorem ObjOk.lt (x:ObjOk P w H h a o):a < h.objs.size:=by
 cases o with
 | lst xs=>obtain ⟨_,_,_,_,e⟩:=x;exact Heap.lt_size e
 | tup xs=>obtain ⟨_,_,_,p⟩:=x;exact p.lt
 | dK kvs=>obtain ⟨_,_,_,_,o,_,_,e,_⟩:=x;exact Heap.lt_size e
 | dT kvs=>obtain ⟨_,_,_,_,o,_,_,e,_⟩:=x;exact Heap.lt_size e
 | set S n=>obtain ⟨o,_,_,_,e,_⟩:=x;exact Heap.lt_size e
 | ins C dx fs=>obtain ⟨_,_,_,e,_⟩:=x;exact Heap.lt_size e
 | own y=>obtain ⟨_,e⟩:=x;exact Heap.lt_size e
 | xd fs=>obtain ⟨_,⟨_,_,_,e,_⟩,_⟩:=x;exact Heap.lt_size e
 | rng lo hi=>obtain ⟨_,_,_,e⟩:=x;exact Heap.lt_size e
 | frz ob u=>obtain ⟨e,_⟩:=x;exact Heap.lt_size e
 | tbl ps=>exact Heap.lt_size (show h.get? a=some _ from x)
 | met f y=>exact Heap.lt_size (show h.get? a=some _ from x)
 | ext φ=>obtain ⟨_,⟨_,e⟩,_⟩:=x;exact Heap.lt_size e
theorem Paired.mapP {α β:Type} {F G:α->β->Prop}:∀ {l₁:List α} {l₂:List β},Paired F l₁ l₂->(∀ a b,F a b->G a b)->Paired G l₁ l₂
 | _,_,.nil,_=>.nil
 | _,_,.cons r t,f=>.cons (f _ _ r) (Paired.mapP t f)
theorem ObjOk.stay (x:ObjOk P w H h a o) (k:∀ b u,(b=a\/H b=some (.own a))->h.get? b=some u->h'.get? b=some u)
  (ho:∀ b,H b=some (.own a)->H' b=some (.own a)) (ht:∀ b xs,H b=some (.tup xs)->H' b=some (.tup xs)):ObjOk P w H' h' a o:=by
 induction o with
 | lst xs=>obtain ⟨z,its,n,r,e⟩:=x;exact ⟨z,its,n,r,k _ _ (.inl rfl) e⟩
 | tup xs=>obtain ⟨z,its,r,ob,e,c⟩:=x;exact ⟨z,its,r,ob,k _ _ (.inl rfl) e,c⟩
 | dK kvs=>obtain ⟨z,y,vs,r,ob,es,ep,e,c⟩:=x;exact ⟨z,y,vs,r,ob,es,ep,k _ _ (.inl rfl) e,c⟩
 | dT kvs=>
  obtain ⟨z,y,xs,r,ob,es,ep,e,c⟩:=x
  exact ⟨z,y,xs,Paired.mapP r fun p q z=>⟨z.1,ht _ _ z.2.1,z.2.2⟩,ob,es,ep,k _ _ (.inl rfl) e,c⟩
 | set S n=>obtain ⟨ob,es,ep,t,e,c⟩:=x;exact ⟨ob,es,ep,t,k _ _ (.inl rfl) e,c⟩
 | ins C dx fs=>
  obtain ⟨d,z,ne,e,mA,⟨od,es,ep,e2,c⟩,r⟩:=x
  exact ⟨ho _ d,z,ne,k _ _ (.inl rfl) e,mA,⟨od,es,ep,k _ _ (.inr d) e2,c⟩,r⟩
 | own y=>obtain ⟨ob,e⟩:=x;exact ⟨ob,k _ _ (.inl rfl) e⟩
 | xd fs=>obtain ⟨mA,⟨od,es,ep,e,c⟩,r⟩:=x;exact ⟨mA,⟨od,es,ep,k _ _ (.inl rfl) e,c⟩,r⟩
 | rng lo hi=>obtain ⟨t,u,v,e⟩:=x;exact ⟨t,u,v,k _ _ (.inl rfl) e⟩
 | frz ob u ih=>obtain ⟨e,q⟩:=x;exact ⟨k _ _ (.inl rfl) e,ih q⟩
 | tbl ps=>
  have e:h.get? a=some {cls:=.none,data:=.fields ps}:=x
  show h'.get? a=some {cls:=.none,data:=.fields ps}
  exact k a _ (.inl rfl) e
 | met f y=>
  have e:h.get? a=some (PySem.W.methodObj (.ref f) (.ref y)):=x
  show h'.get? a=some (PySem.W.methodObj (.ref f) (.ref y))
  exact k a _ (.inl rfl) e
 | ext φ=>obtain ⟨p,⟨o,e⟩,st⟩:=x;exact ⟨st _ _ p fun o q=>k _ _ (.inl rfl) q,⟨o,k _ _ (.inl rfl) e⟩,st⟩
theorem HOk.lt (x:HOk P w H h) (e:H a=some o):a < h.objs.size:=(x a o e).lt
theorem HOk.fresh (x:HOk P w H h) (e:h.objs.size<=a):H a=none:=by
 cases q:H a with
 | none=>rfl
 | some u=>exact absurd (Nat.lt_of_lt_of_le (x.lt q) e) (Nat.lt_irrefl _)
theorem HOk.kept (x:HOk P w H h) (k:∀ b u,h.get? b=some u->h'.get? b=some u):HOk P w H h':=fun a o e=>
 (x a o e).stay (fun b u _ q=>k b u q) (fun _ q=>q) fun _ _ q=>q
theorem HOk.laid (x:HOk P w H h) (k:∀ b u,h.get? b=some u->h'.get? b=some u) (hp:h.objs.size<=a) (new:ObjOk P w (upd H a o) h' a o):HOk P w (upd H a o) h':=fun b u e=>by
 have hn:=x.fresh hp
 by_cases hb:b=a
 ·subst hb;rw [ao] at e;cases e;exact new
 ·rw [aC hb] at e
  exact (x b u e).stay (fun c v _ q=>k c v q) (fun c q=>by rw [aC (j8 q hn)];exact q) fun c xs q=>by rw [aC (j8 q hn)];exact q
end
def Rd (H:Hp) (a:Addr) (u:HO):Prop:=H a=some u\/∃ o,H a=some (.frz o u)
theorem Rd.ok {P:Program} {w:World} {H:Hp} {h:Heap} {a:Addr} {u:HO} (r:Rd H a u) (x:HOk P w H h):ObjOk P w H h a u:=by
 rcases r with r | ⟨o,r⟩
 ·exact x a u r
 ·obtain ⟨_,q⟩:=x a _ r
  exact q
def VB:Option HO->Prop
 | some (.lst _)=>True
 | some (.dK _)=>True
 | some (.dT _)=>True
 | some (.set _ _)=>True
 | some (.ins _ _ _)=>True
 | some (.ext _)=>True
 | _=>False
section
variable {P:Program} {w:World} {H:Hp} {h h':Heap} {x e:Addr} {o':HO}
theorem HOk.write (ok:HOk P w H h) (mu:VB (H x)) (he:e=x\/H e=some (.own x)) (k:∀ b u,b≠e->h.get? b=some u->h'.get? b=some u) (heo:∃ u,h'.get? e=some u)
  (new:ObjOk P w (upd H x o') h' x o'):HOk P w (upd H x o') h':=fun b u q=>by
 have nown:∀ c y,H c=some (.own y)->c≠x:=fun c y r z=>by subst z;rw [r] at mu;exact mu
 have ntup:∀ c xs,H c=some (.tup xs)->c≠x:=fun c xs r z=>by subst z;rw [r] at mu;exact mu
 by_cases hb:b=x
 ·subst hb;rw [ao] at q;cases q;exact new
 ·rw [aC hb] at q
  by_cases hbe:b=e
  ·have q':H b=some (.own x):=by
    rcases he with z | z
    ·exact absurd (hbe.trans z) hb
    ·rw [hbe];exact z
   rw [q] at q';cases q'
   obtain ⟨v,hv⟩:=heo
   exact ⟨v,by rw [hbe];exact hv⟩
  ·refine (ok b u q).stay (fun c v hc r=>k c v ?_ r) (fun c r=>by rw [aC (nown c b r)];exact r) fun c xs r=>by rw [aC (ntup c xs r)];exact r
   rcases hc with rfl | hc
   ·exact hbe
   ·rintro rfl
    rcases he with z | z
    ·exact nown c b hc z
    ·rw [hc] at z;cases z;exact hb rfl
end
structure Un (fs ex:List Addr) (H H':Hp) (h h':Heap):Prop where
 keep:∀ b o,h.get? b=some o->H b=none->b ∉ fs->b ∉ ex->h'.get? b=some o
 slot:∀ b o,h.get? b=some o->H b=none->b∈fs->b ∉ ex->∃ sl,h'.get? b=some {o with slots:=sl}
 free:∀ b o,h.get? b=some o->H b=none->b ∉ ex->H' b=none
 there:∀ b o,h.get? b=some o->b ∉ ex->∃ o',h'.get? b=some o'
 tups:∀ b xs,H b=some (.tup xs)->H' b=some (.tup xs)
 frzs:∀ b o u,H b=some (.frz o u)->H' b=some (.frz o u)
 tbls:∀ b ps,H b=some (.tbl ps)->∃ more,H' b=some (.tbl (ps ++ more))
section
variable {fs fs' ex ex':List Addr} {H H1 H2:Hp} {h h1 h2 h':Heap} {a x e:Addr} {o:HO}
theorem Un.any (u:Un fs ex H H1 h h1) {b:Addr} {ob:Obj} (q:h.get? b=some ob) (n:H b=none) (hx:b ∉ ex):∃ sl,h1.get? b=some {ob with slots:=sl}:=by
 by_cases hb:b∈fs
 ·exact u.slot b ob q n hb hx
 ·exact ⟨ob.slots,u.keep b ob q n hb hx⟩
theorem Un.kept (k:∀ b u,h.get? b=some u->h'.get? b=some u):Un fs ex H H h h':=
 ⟨fun b ob q _ _ _=>k b ob q,fun b ob q _ _ _=>⟨ob.slots,k b ob q⟩,fun _ _ _ n _=>n,fun b ob q _=>⟨ob,k b ob q⟩,fun _ _ q=>q,fun _ _ _ q=>q,fun _ ps q=>⟨#[],by rw [q];simp⟩⟩
theorem Un.refl:Un fs ex H H h h:=Un.kept fun _ _ q=>q
theorem Un.laid (k:∀ b u,h.get? b=some u->h'.get? b=some u) (hp:h.objs.size<=a) (hn:H a=none):Un fs ex H (upd H a o) h h' where
 keep:=fun b u q _ _ _=>k b u q
 slot:=fun b u q _ _ _=>⟨u.slots,k b u q⟩
 free:=fun b u q n _=>by rw [aC (Nat.ne_of_lt (Nat.lt_of_lt_of_le (Heap.lt_size q) hp))];exact n
 there:=fun b u q _=>⟨u,k b u q⟩
 tups:=fun b xs q=>by rw [aC (j8 q hn)];exact q
 frzs:=fun b u xs q=>by rw [aC (j8 q hn)];exact q
 tbls:=fun b ps q=>⟨#[],by rw [aC (j8 q hn),q];simp⟩
theorem Un.write (mu:VB (H x)) (he:e=x\/H e=some (.own x)) (k:∀ b u,b≠e->h.get? b=some u->h'.get? b=some u) (heo:∃ u,h'.get? e=some u):Un fs ex H (upd H x o) h h':=by
 have hx:∀ b,H b=none->b≠x:=fun b n z=>by subst z;rw [n] at mu;exact mu
 have hb:∀ b,H b=none->b≠e:=fun b n z=>by
  subst z
  rcases he with r | r
  ·exact hx b n r
  ·rw [n] at r;cases r
 have hm:∀ b u,H b=some u->¬ VB (some u)->b≠x:=fun b u q nm z=>by subst z;rw [q] at mu;exact nm mu
 refine ⟨fun b u q n _ _=>k b u (hb b n) q,fun b u q n _ _=>⟨u.slots,k b u (hb b n) q⟩,fun b u q n _=>by rw [aC (hx b n)];exact n,fun b u q _=>?_,
  fun b xs q=>by rw [aC (hm b _ q fun z=>z)];exact q,fun b u xs q=>by rw [aC (hm b _ q fun z=>z)];exact q,fun b ps q=>⟨#[],by rw [aC (hm b _ q fun z=>z),q];simp⟩⟩
 by_cases hbe:b=e
 ·subst hbe;exact heo
 ·exact ⟨u,k b u hbe q⟩
end
def K5 (h:Heap) (H:Hp):List Addr:=(List.range h.objs.size).filter fun a=>(H a).isSome
def xH (h:Heap) (H:Hp):Heap:=PySem.W.hideAll h (K5 h H)
theorem DQ (h:Heap) (H:Hp):(xH h H).objs.size=h.objs.size:=PySem.W.hideAll_size _ _
theorem Gw {h:Heap} {H:Hp} {b:Addr} {o:Obj} (e:h.get? b=some o) (n:H b=none):(xH h H).get? b=some o:=
 PySem.W.hideAll_get _ e fun hm=>by
  have q:(H b).isSome=true:=(List.mem_filter.mp hm).2
  rw [n] at q;simp at q
theorem K7 {h:Heap} {H:Hp} {b:Addr} {o:Obj} (e:(xH h H).get? b=some o):h.get? b=some o/\H b=none:=by
 have e':h.get? b=some o:=PySem.W.of_hideAll (K5 h H) e
 refine ⟨e',?_⟩
 cases q:H b with
 | none=>rfl
 | some x=>
  have hm:b∈K5 h H:=List.mem_filter.mpr ⟨List.mem_range.mpr (Heap.lt_size e'),by simp [q]⟩
  have z:(xH h H).get? b=none:=PySem.W.hideAll_none (K5 h H) hm
  rw [z] at e;cases e
structure Mod (K:W.Frag) (mg:Str->Option Value) (base:Heap):Prop where
 kin:K.In base
 glob:base.Ns mainGlobals mg
 blt:∃ mb,base.Ns builtinsNs mb/\∀ x:Str,x≠"__name__"->mb x=bootBuiltins x
 nolimit:base.NoLimit
 sysm:∃ mm,base.Ns sysModules mm
structure Cx where
 prog:Program
 w:World
 K:W.Frag
 mg:Str->Option Value
 base:Heap
 A:Around
 N:List Str
 s₀:Shared
 H₀:Hp
 env:Env
 outer:List Env
 stack:List Env
 ex:List Addr
 fn:Str->Bool
 calm:Bool
 pn:List (Addr×Obj)
 xe:Value->Shared->Prop
def frs (l:List Env):List Addr:=l.filterMap (·.frame)
abbrev Cx.fs (X:Cx):List Addr:=frs X.outer
def Y0 (sc:Scope) (x:Str):Prop:=sc.names.lookup x=some .local\/sc.names.lookup x=some .cell\/sc.names.lookup x=some .free
def Loc (sc:Scope) (x:Str):Prop:=sc.names.lookup x=some .local\/sc.names.lookup x=some .cell
def Look (env:Env) (h:Heap) (m:Str->Option Value) (x:Str) (u:Value):Prop:=
 (env.kindOf x=some .local/\m x=some u)\/((env.kindOf x=some .cell\/env.kindOf x=some .free)/\∃ c,env.cells.lookup x=some c/\h.IsCell c (some u))
structure Cx.Ok (X:Cx):Prop where
 mod:Mod X.K X.mg X.base
 kind:X.env.scope.kind= .function
 glob:X.env.globals=mainGlobals
 blt:X.env.builtins=builtinsNs
 above:X.s₀.heap.objs.size<=X.env.locals
 inj:∀ x y c,X.env.cells.lookup x=some c->X.env.cells.lookup y=some c->x=y
 has:∀ x,(X.env.kindOf x=some .cell\/X.env.kindOf x=some .free)->∃ c,X.env.cells.lookup x=some c
 cab:∀ x c,X.fn x=true->X.env.cells.lookup x=some c->X.s₀.heap.objs.size<=c
 hd:X.calm=true->X.A.handled=none
 frames:X.A.frames=some X.stack
 stk:X.stack=X.outer\/(X.stack=X.env :: X.outer/\X.env.frame=some X.env.locals)
 exf:∀ b∈X.ex,b≠X.env.locals/\∀ x c,X.env.cells.lookup x=some c->c≠b
 bs:∀ b o,X.base.get? b=some o->X.s₀.heap.get? b=some o/\X.H₀ b=none
 bsz:X.base.objs.size<=X.s₀.heap.objs.size
 noex:∀ b o,X.base.get? b=some o->b ∉ X.ex
 exfs:∀ b∈X.ex,b ∉ X.fs
 funs:X.s₀.heap.FunFrames X.base X.outer
 frf:∀ b∈X.fs,X.H₀ b=none
structure Inv (X:Cx) (pins:List (Addr×Obj)) (U:List (Option V)) (H:Hp) (s:Shared):Prop where
 ok:X.Ok
 os:s.os=X.s₀.os
 bare:AllBare s.gens
 base:Un X.fs X.ex X.H₀ H X.s₀.heap s.heap
 loc:∃ m,s.heap.Ns X.env.locals m/\∀ (i:Nat) (x:Str) (v:V),X.N[i]?=some x->U[i]?=some (some v)->Y0 X.env.scope x->∃ u,RelV v u/\Look X.env s.heap m x u
 cell:∀ x c,X.env.cells.lookup x=some c->∃ v,s.heap.IsCell c v
 free:H X.env.locals=none
 freeC:∀ x c,X.env.cells.lookup x=some c->H c=none
 pin:∀ p∈X.pn ++ pins,s.heap.get? p.1=some p.2/\H p.1=none/\p.1≠X.env.locals/\p.1 ∉ X.fs/\∀ v,p.2.data≠.cell v
 hok:HOk X.prog X.w H s.heap
 len:U.length=X.N.length
section
variable {X:Cx} {pins:List (Addr×Obj)} {U:List (Option V)} {H H':Hp} {s:Shared} {h':Heap}
theorem Cx.Ok.nofr (ok:X.Ok) {b:Addr} {o:Obj} (e:X.base.get? b=some o):b ∉ X.fs:=fun hb=>by
 have:=(ok.funs.mem hb).1
 rw [e] at this;cases this
theorem Inv.bs (I:Inv X pins U H s):∀ b o,X.base.get? b=some o->s.heap.get? b=some o/\H b=none:=fun b o e=>
 ⟨I.base.keep b o (I.ok.bs b o e).1 (I.ok.bs b o e).2 (I.ok.nofr e) (I.ok.noex b o e),I.base.free b o (I.ok.bs b o e).1 (I.ok.bs b o e).2 (I.ok.noex b o e)⟩
theorem Inv.bk (I:Inv X pins U H s):∀ b o,X.base.get? b=some o->s.heap.get? b=some o:=fun b o e=>(I.bs b o e).1
theorem Inv.mod (I:Inv X pins U H s):Mod X.K X.mg X.base:=I.ok.mod
theorem Inv.kIn (I:Inv X pins U H s):X.K.In s.heap:=I.ok.mod.kin.keeps I.bk
theorem Inv.lt (I:Inv X pins U H s):X.env.locals < s.heap.objs.size:=let ⟨_,hn,_⟩:=I.loc;hn.lt
theorem Inv.sz (I:Inv X pins U H s):X.s₀.heap.objs.size<=s.heap.objs.size:=Nat.le_trans I.ok.above (Nat.le_of_lt I.lt)
theorem Inv.nofs (I:Inv X pins U H s) {a:Addr} (h:s.heap.objs.size<=a):a ∉ X.fs:=fun hb=>by
 obtain ⟨_,o,ho,_⟩:=I.ok.funs.mem hb
 exact absurd (Nat.lt_of_lt_of_le (Heap.lt_size ho) (Nat.le_trans I.sz h)) (Nat.lt_irrefl _)
theorem Inv.cne (I:Inv X pins U H s):∀ x c,X.env.cells.lookup x=some c->c≠X.env.locals:=fun x c e z=>by
 obtain ⟨v,o,ho,hd⟩:=I.cell x c e
 obtain ⟨m,⟨o',es,ep,ho',hd',_⟩,_⟩:=I.loc
 rw [z,ho'] at ho;cases ho;rw [hd'] at hd;cases hd
theorem Inv.funs (I:Inv X pins U H s):s.heap.FunFrames X.base X.outer:=by
 have all:∀ (l:List Env),(∀ b∈frs l,b∈X.fs)->X.s₀.heap.FunFrames X.base l->s.heap.FunFrames X.base l:=by
  intro l
  induction l with
  | nil=>intro _ _;trivial
  | cons env r ih=>
   intro hs hl
   obtain ⟨hk,⟨L,o,hf,hn,ho,hd⟩,hr⟩:=hl
   have hL:L∈X.fs:=hs L (by unfold frs;rw [List.filterMap_cons,hf];exact List.mem_cons_self)
   obtain ⟨sl,e⟩:=I.base.slot L o ho (I.ok.frf L hL) hL fun z=>I.ok.exfs L z hL
   exact ⟨hk,⟨L,_,hf,hn,e,hd⟩,ih (fun b hb=>hs b (by unfold frs;rw [List.filterMap_cons,hf];exact List.mem_cons_of_mem _ hb)) hr⟩
 exact all X.outer (fun _ hb=>hb) I.ok.funs
theorem Inv.stack (I:Inv X pins U H s):s.heap.FunFrames X.base X.stack:=by
 rcases I.ok.stk with e | ⟨e,hf⟩
 ·rw [e];exact I.funs
 ·rw [e]
  obtain ⟨m,hn,_⟩:=I.loc
  refine .cons (by rw [I.ok.kind];decide) hf hn ?_ I.funs
  exact Heap.get?_none_of_le (Nat.le_trans I.ok.bsz I.ok.above)
theorem Inv.stkSub (I:Inv X pins U H s):∀ b∈frs X.stack,b∈X.env.locals :: X.fs:=fun b hb=>by
 rcases I.ok.stk with e | ⟨e,hf⟩
 ·rw [e] at hb;exact List.mem_cons_of_mem _ hb
 ·rw [e] at hb
  unfold frs at hb
  rw [List.filterMap_cons,hf] at hb
  exact hb
theorem Inv.stkFree (I:Inv X pins U H s):∀ b∈frs X.stack,H b=none:=fun b hb=>by
 rcases List.mem_cons.mp (I.stkSub b hb) with e | hb
 ·rw [e];exact I.free
 ·obtain ⟨_,o,ho,_⟩:=I.ok.funs.mem hb
  exact I.base.free b o ho (I.ok.frf b hb) fun z=>I.ok.exfs b z hb
theorem Inv.step {g':Array GenState} {t':Nat} {d':Drawn} {ch:List Addr} (I:Inv X pins U H s)
  (hch:∀ b∈ch,(b∈X.ex\/X.s₀.heap.objs.size<=b)/\b≠X.env.locals/\(∀ x c,X.env.cells.lookup x=some c->c≠b)/\∀ p∈X.pn ++ pins,p.1≠b)
  (keep:∀ b o,b≠X.env.locals->b ∉ X.fs->b ∉ ch->s.heap.get? b=some o->H b=none->h'.get? b=some o)
  (slot:∀ b o,b≠X.env.locals->b∈X.fs->b ∉ ch->s.heap.get? b=some o->H b=none->∃ sl,h'.get? b=some {o with slots:=sl}) (free:∀ b o,b ∉ ch->s.heap.get? b=some o->H b=none->H' b=none)
  (there:∀ b o,b ∉ ch->s.heap.get? b=some o->∃ o',h'.get? b=some o')
  (tups:∀ b xs,H b=some (.tup xs)->H' b=some (.tup xs)) (frzs:∀ b o u,H b=some (.frz o u)->H' b=some (.frz o u)) (tbls:∀ b ps,H b=some (.tbl ps)->∃ more,H' b=some (.tbl (ps ++ more)))
  (ns:∀ m,s.heap.Ns X.env.locals m->h'.Ns X.env.locals m) (hok:HOk X.prog X.w H' h') (hg:AllBare g'):
  Inv X pins U H' {s with heap:=h',gens:=g',drawn:=d',toks:=t'}:=by
 have neL:∀ b o,X.s₀.heap.get? b=some o->b≠X.env.locals:=fun b o e=>Nat.ne_of_lt (Nat.lt_of_lt_of_le (Heap.lt_size e) I.ok.above)
 have neC:∀ b o,X.s₀.heap.get? b=some o->b ∉ X.ex->b ∉ ch:=fun b o e hx hb=>by
  rcases (hch b hb).1 with z | z
  ·exact hx z
  ·exact absurd (Nat.lt_of_lt_of_le (Heap.lt_size e) z) (Nat.lt_irrefl _)
 have cellK:∀ x c,X.env.cells.lookup x=some c->∀ v,s.heap.IsCell c v->h'.IsCell c v:=fun x c e v ⟨o,ho,hd⟩=>by
  have nch:c ∉ ch:=fun z=>(hch c z).2.2.1 x c e rfl
  by_cases hc:c∈X.fs
  ·obtain ⟨sl,q⟩:=slot c o (I.cne x c e) hc nch ho (I.freeC x c e)
   exact ⟨_,q,hd⟩
  ·exact ⟨o,keep c o (I.cne x c e) hc nch ho (I.freeC x c e),hd⟩
 refine ⟨I.ok,I.os,hg,⟨fun b o e n hb hx=>?_,fun b o e n hb hx=>?_,fun b o e n hx=>?_,fun b o e hx=>?_,fun b xs e=>tups b xs (I.base.tups b xs e),fun b o xs e=>frzs b o xs (I.base.frzs b o xs e),fun b ps e=>?_⟩,?_,fun x c e=>?_,?_,fun x c e=>?_,fun p hp=>?_,hok,I.len⟩
 ·exact keep b o (neL b o e) hb (neC b o e hx) (I.base.keep b o e n hb hx) (I.base.free b o e n hx)
 ·obtain ⟨sl,e1⟩:=I.base.slot b o e n hb hx
  obtain ⟨sl',e2⟩:=slot b _ (neL b o e) hb (neC b o e hx) e1 (I.base.free b o e n hx)
  exact ⟨sl',e2⟩
 ·obtain ⟨o',e1⟩:=I.base.there b o e hx
  exact free b o' (neC b o e hx) e1 (I.base.free b o e n hx)
 ·obtain ⟨o',e1⟩:=I.base.there b o e hx
  exact there b o' (neC b o e hx) e1
 ·obtain ⟨m1,e1⟩:=I.base.tbls b ps e
  obtain ⟨m2,e2⟩:=tbls b _ e1
  exact ⟨m1 ++ m2,by rw [e2,Array.append_assoc]⟩
 ·obtain ⟨m,hn,hl⟩:=I.loc
  refine ⟨m,ns m hn,fun i x v e1 e2 e3=>?_⟩
  obtain ⟨u,r,l⟩:=hl i x v e1 e2 e3
  refine ⟨u,r,?_⟩
  rcases l with l | ⟨k,c,e,z⟩
  ·exact .inl l
  ·exact .inr ⟨k,c,e,cellK x c e _ z⟩
 ·obtain ⟨v,z⟩:=I.cell x c e
  exact ⟨v,cellK x c e v z⟩
 ·obtain ⟨m,⟨o,_,_,ho,_⟩,_⟩:=I.loc
  exact free _ o (fun z=>(hch _ z).2.1 rfl) ho I.free
 ·obtain ⟨v,o,ho,hd⟩:=I.cell x c e
  exact free c o (fun z=>(hch c z).2.2.1 x c e rfl) ho (I.freeC x c e)
 ·obtain ⟨e,n,ne,nf,d⟩:=I.pin p hp
  have nch:p.1 ∉ ch:=fun z=>(hch p.1 z).2.2.2 p hp rfl
  exact ⟨keep p.1 p.2 ne nf nch e n,free p.1 p.2 nch e n,ne,nf,d⟩
theorem Inv.un {t':Nat} (I:Inv X pins U H s) (u:Un X.fs [] H H' s.heap h') (hok:HOk X.prog X.w H' h'):Inv X pins U H' {s with heap:=h',toks:=t'}:=by
 obtain ⟨m,⟨o,es,ep,ho,r⟩,_⟩:=id I.loc
 obtain ⟨sl,hL⟩:=u.any ho I.free (by simp)
 exact I.step (g':=s.gens) (d':=s.drawn) (ch:=[]) (fun _ z=>nomatch z) (fun b o _ hb _ e n=>u.keep b o e n hb (by simp)) (fun b o _ hb _ e n=>u.slot b o e n hb (by simp)) (fun b o _ e n=>u.free b o e n (by simp)) (fun b o _ e=>u.there b o e (by simp)) u.tups u.frzs u.tbls (fun m' hm=>by
  obtain ⟨o',es',ep',ho',r'⟩:=hm
  rw [ho] at ho';cases ho'
  exact ⟨_,es',ep',hL,r'⟩) hok I.bare
theorem Inv.call {g':Array GenState} {t':Nat} {d':Drawn} {ch:List Addr} (I:Inv X pins U H s) (u:Un (frs X.stack) ch H H' s.heap h') (hok:HOk X.prog X.w H' h') (hg:AllBare g')
  (hch:∀ b∈ch,(b∈X.ex\/X.s₀.heap.objs.size<=b)/\b≠X.env.locals/\(∀ x c,X.env.cells.lookup x=some c->c≠b)/\∀ p∈X.pn ++ pins,p.1≠b):
  Inv X pins U H' {s with heap:=h',gens:=g',drawn:=d',toks:=t'}:=by
 obtain ⟨m,⟨o,es,ep,ho,r⟩,_⟩:=id I.loc
 obtain ⟨sl,hL⟩:=u.any ho I.free fun z=>(hch _ z).2.1 rfl
 exact I.step (ch:=ch) hch (fun b o hL hb hc e n=>u.keep b o e n (fun z=>(List.mem_cons.mp (I.stkSub b z)).elim hL hb) hc) (fun b o _ _ hc e n=>u.any e n hc) (fun b o hc e n=>u.free b o e n hc) (fun b o hc e=>u.there b o e hc) u.tups u.frzs u.tbls (fun m' hm=>by
  obtain ⟨o',es',ep',ho',r'⟩:=hm
  rw [ho] at ho';cases ho'
  exact ⟨_,es',ep',hL,r'⟩) hok hg
theorem Inv.turned {t':Nat} {it:Addr} (I:Inv X pins U H s) (k:∀ b o,b≠it->s.heap.get? b=some o->h'.get? b=some o) (hn:H it=none) (hL:it≠X.env.locals)
  (h1:it∈X.ex\/X.s₀.heap.objs.size<=it) (h2:∀ x c,X.env.cells.lookup x=some c->c≠it) (h3:∀ p∈X.pn ++ pins,p.1≠it):Inv X pins U H {s with heap:=h',toks:=t'}:=by
 have nit:∀ b u,H b=some u->b≠it:=fun b u e z=>by rw [z,hn] at e;cases e
 refine I.step (g':=s.gens) (d':=s.drawn) (ch:=[it]) (fun b hb=>?_) (fun b o _ _ hc e _=>k b o (fun z=>hc (by simp [z])) e) (fun b o _ _ hc e _=>⟨o.slots,k b o (fun z=>hc (by simp [z])) e⟩) (fun _ _ _ _ n=>n)
  (fun b o hc e=>⟨o,k b o (fun z=>hc (by simp [z])) e⟩) (fun _ _ e=>e) (fun _ _ _ e=>e) (fun b ps e=>⟨#[],by rw [e];simp⟩) (fun m hm=>?_) (fun b u e=>?_) I.bare
 ·have e:b=it:=by simpa using hb
  subst e
  exact ⟨h1,hL,h2,h3⟩
 ·obtain ⟨o,es,ep,ho,r⟩:=hm
  exact ⟨o,es,ep,k _ o (Ne.symm hL) ho,r⟩
 ·refine (I.hok b u e).stay (fun c v hc q=>k c v ?_ q) (fun _ q=>q) fun _ _ q=>q
  rcases hc with z | z
  ·rw [z];exact nit b u e
  ·exact nit c _ z
theorem Inv.tok (I:Inv X pins U H s) (t:Nat):Inv X pins U H {s with toks:=t}:=I.un (h':=s.heap) (t':=t) Un.refl I.hok
theorem Inv.kept {t':Nat} (I:Inv X pins U H s) (k:∀ b u,s.heap.get? b=some u->h'.get? b=some u):Inv X pins U H {s with heap:=h',toks:=t'}:=I.un (Un.kept k) (I.hok.kept k)
theorem Inv.laid {a:Addr} {o:HO} {t':Nat} (I:Inv X pins U H s) (k:∀ b u,s.heap.get? b=some u->h'.get? b=some u) (hp:s.heap.objs.size<=a) (new:ObjOk X.prog X.w (upd H a o) h' a o):
  Inv X pins U (upd H a o) {s with heap:=h',toks:=t'}:=I.un (Un.laid k hp (I.hok.fresh hp)) (I.hok.laid k hp new)
theorem Inv.write {x e:Addr} {o:HO} {t':Nat} (I:Inv X pins U H s) (mu:VB (H x)) (he:e=x\/H e=some (.own x)) (k:∀ b u,b≠e->s.heap.get? b=some u->h'.get? b=some u) (heo:∃ u,h'.get? e=some u)
  (new:ObjOk X.prog X.w (upd H x o) h' x o):Inv X pins U (upd H x o) {s with heap:=h',toks:=t'}:=I.un (Un.write mu he k heo) (I.hok.write mu he k heo new)
theorem Inv.weak {U':List (Option V)} (I:Inv X pins U H s) (hl:U'.length=U.length) (w:∀ (i:Nat) v,U'[i]?=some (some v)->U[i]?=some (some v)):Inv X pins U' H s:=
 ⟨I.ok,I.os,I.bare,I.base,let ⟨m,hn,hl'⟩:=I.loc;⟨m,hn,fun i x v e1 e2 e3=>hl' i x v e1 (w i v e2) e3⟩,I.cell,I.free,I.freeC,I.pin,I.hok,hl.trans I.len⟩
theorem Inv.pins_of {pins':List (Addr×Obj)} (I:Inv X pins U H s) (h:∀ p∈pins',s.heap.get? p.1=some p.2/\H p.1=none/\p.1≠X.env.locals/\p.1 ∉ X.fs/\∀ v,p.2.data≠.cell v):Inv X pins' U H s:=
 ⟨I.ok,I.os,I.bare,I.base,I.loc,I.cell,I.free,I.freeC,fun p hp=>(List.mem_append.mp hp).elim (fun z=>I.pin p (List.mem_append_left _ z)) (h p),I.hok,I.len⟩
theorem yS {N:List Str} (hN:N.Nodup) {i j:Nat} {x:Str} (a:N[i]?=some x) (b:N[j]?=some x):i=j:=by
 obtain ⟨h1,e1⟩:=List.getElem?_eq_some_iff.mp a
 obtain ⟨h2,e2⟩:=List.getElem?_eq_some_iff.mp b
 exact (List.getElem_inj hN).mp (e1.trans e2.symm)
theorem wI {M:Model} {A:Around} {E:Value->Shared->Prop} {i:Nat} {x:Str} {v:V} {u:Value} {Q:Unit->Shared->Prop} (I:Inv X pins U H s) (hN:X.N.Nodup) (hi:X.N[i]?=some x) (hx:Loc X.env.scope x) (r:RelV v u)
  (h:∀ s',Inv X pins (U.set i (some v)) H s'->(∃ a,Heap.SameBut a s.heap s'.heap/\(a=X.env.locals\/X.env.cells.lookup x=some a))->Q () s') (hf:autoParam (X.fn x=true\/X.env.scope.names.lookup x=some .local) L2.auto1._auto_1):wpAny M A (storeName X.env x u) Q E s:=by
 obtain ⟨m,hn,hl⟩:=id I.loc
 have hcls:(X.env.scope.kind == .class || (X.env.scope.kind == .module && X.env.locals != X.env.globals))=false:=by rw [I.ok.kind];rfl
 have hiU:i < U.length:=by rw [I.len];exact (List.getElem?_eq_some_iff.mp hi).1
 have cne:=I.cne
 have tracked:∀ {a:Addr} {h':Heap},(∃ o,s.heap.get? a=some o/\H a=none)->Heap.SameBut a s.heap h'->HOk X.prog X.w H h':=fun {a h'} ha hs b ob e=>by
  obtain ⟨_,_,hfree⟩:=ha
  refine (I.hok b ob e).stay (fun c w' hc q=>(hs.2 c ?_).trans q) (fun _ q=>q) fun _ _ q=>q
  rintro rfl
  rcases hc with rfl | hc
  ·rw [hfree] at e;cases e
  ·rw [hfree] at hc;cases hc
 rcases hx with hk | hk
 ·refine wpAny_storeName_local hk hn (fun h' hn' hs=>?_) hcls
  obtain ⟨oL,_,_,hoL,_⟩:=id hn
  refine h _ ⟨I.ok,I.os,I.bare,⟨fun b o e n hb hx=>?_,fun b o e n hb hx=>?_,I.base.free,fun b o e hx=>?_,I.base.tups,I.base.frzs,I.base.tbls⟩,⟨_,hn',fun j y v' e1 e2 e3=>?_⟩,fun y c e=>?_,I.free,I.freeC,fun p hp=>?_,tracked ⟨oL,hoL,I.free⟩ hs,by simpa using I.len⟩ ⟨_,hs,.inl rfl⟩
  ·exact (hs.2 b (Nat.ne_of_lt (Nat.lt_of_lt_of_le (Heap.lt_size e) I.ok.above))).trans (I.base.keep b o e n hb hx)
  ·obtain ⟨sl,e1⟩:=I.base.slot b o e n hb hx
   exact ⟨sl,(hs.2 b (Nat.ne_of_lt (Nat.lt_of_lt_of_le (Heap.lt_size e) I.ok.above))).trans e1⟩
  ·obtain ⟨o',e1⟩:=I.base.there b o e hx
   exact ⟨o',(hs.2 b (Nat.ne_of_lt (Nat.lt_of_lt_of_le (Heap.lt_size e) I.ok.above))).trans e1⟩
  ·by_cases hj:j=i
   ·subst hj
    rw [hi] at e1;cases e1
    rw [List.getElem?_set_self hiU] at e2
    cases e2
    exact ⟨u,r,.inl ⟨hk,by simp⟩⟩
   ·rw [List.getElem?_set_ne (Ne.symm hj)] at e2
    obtain ⟨u',r',q⟩:=hl j y v' e1 e2 e3
    refine ⟨u',r',?_⟩
    rcases q with ⟨k,e⟩ | ⟨k,c,e,z⟩
    ·refine .inl ⟨k,?_⟩
     have:y≠x:=fun e=>hj (yS hN e1 (e ▸ hi))
     simp [this,e]
    ·exact .inr ⟨k,c,e,z.sameBut hs (cne y c e)⟩
  ·obtain ⟨w',z⟩:=I.cell y c e
   exact ⟨w',z.sameBut hs (cne y c e)⟩
  ·obtain ⟨e,n,ne,nf,d⟩:=I.pin p hp
   exact ⟨(hs.2 p.1 ne).trans e,n,ne,nf,d⟩
 ·have hfn:X.fn x=true:=by
   rcases hf with z | z
   ·exact z
   ·rw [z] at hk;cases hk
  obtain ⟨c,hc⟩:=I.ok.has x (.inl hk)
  obtain ⟨w',z⟩:=I.cell x c hc
  refine wpAny_storeName_cell I.ok.kind hk hc z (fun h' hc' hs=>?_)
  obtain ⟨oc,hoc,hocd⟩:=id z
  refine h {s with heap:=h'} ⟨I.ok,I.os,I.bare,⟨fun b o e n hb hx=>?_,fun b o e n hb hx=>?_,I.base.free,fun b o e hx=>?_,I.base.tups,I.base.frzs,I.base.tbls⟩,⟨m,hn.sameBut hs (Ne.symm (cne x c hc)),fun j y v' e1 e2 e3=>?_⟩,fun y c' e=>?_,I.free,I.freeC,fun p hp=>?_,tracked ⟨oc,hoc,I.freeC x c hc⟩ hs,by simpa using I.len⟩ ⟨c,hs,.inr hc⟩
  ·exact (hs.2 b (Nat.ne_of_lt (Nat.lt_of_lt_of_le (Heap.lt_size e) (I.ok.cab x c hfn hc)))).trans (I.base.keep b o e n hb hx)
  ·obtain ⟨sl,e1⟩:=I.base.slot b o e n hb hx
   exact ⟨sl,(hs.2 b (Nat.ne_of_lt (Nat.lt_of_lt_of_le (Heap.lt_size e) (I.ok.cab x c hfn hc)))).trans e1⟩
  ·obtain ⟨o',e1⟩:=I.base.there b o e hx
   exact ⟨o',(hs.2 b (Nat.ne_of_lt (Nat.lt_of_lt_of_le (Heap.lt_size e) (I.ok.cab x c hfn hc)))).trans e1⟩
  ·by_cases hj:j=i
   ·subst hj
    rw [hi] at e1;cases e1
    rw [List.getElem?_set_self hiU] at e2
    cases e2
    exact ⟨u,r,.inr ⟨.inl hk,c,hc,hc'⟩⟩
   ·rw [List.getElem?_set_ne (Ne.symm hj)] at e2
    obtain ⟨u',r',q⟩:=hl j y v' e1 e2 e3
    refine ⟨u',r',?_⟩
    rcases q with q | ⟨k,c',e,z'⟩
    ·exact .inl q
    ·refine .inr ⟨k,c',e,z'.sameBut hs ?_⟩
     rintro rfl
     exact hj (yS hN e1 (I.ok.inj _ _ _ e hc ▸ hi))
  ·by_cases hcc:c'=c
   ·subst hcc;exact ⟨_,hc'⟩
   ·obtain ⟨w2,z2⟩:=I.cell y c' e
    exact ⟨w2,z2.sameBut hs hcc⟩
  ·obtain ⟨e,n,ne,nf,d⟩:=I.pin p hp
   refine ⟨(hs.2 p.1 ?_).trans e,n,ne,nf,d⟩
   intro q
   rw [q,hoc] at e
   have q':oc=p.2:=Option.some.inj e
   exact d w' (by rw [← q'];exact hocd)
theorem nQ {M:Model} {A:Around} {E:Value->Shared->Prop} {i:Nat} {x:Str} {v:V} {u:Value} {Q:Unit->Shared->Prop} (I:Inv X pins U H s) (hN:X.N.Nodup) (hi:X.N[i]?=some x) (hx:Loc X.env.scope x) (r:RelV v u)
  (h:∀ s',Inv X pins (U.set i (some v)) H s'->Q () s') (hf:autoParam (X.fn x=true\/X.env.scope.names.lookup x=some .local) L2.auto1._auto_1):wpAny M A (storeName X.env x u) Q E s:=
 wI I hN hi hx r (fun s' I' _=>h s' I') hf
theorem Inv.call' {s':Shared} {ch:List Addr} (I:Inv X pins U H s) (ho:s'.os=s.os) (u:Un (frs X.stack) ch H H' s.heap s'.heap) (hok:HOk X.prog X.w H' s'.heap) (hg:AllBare s'.gens)
  (hch:∀ b∈ch,(b∈X.ex\/X.s₀.heap.objs.size<=b)/\b≠X.env.locals/\(∀ x c,X.env.cells.lookup x=some c->c≠b)/\∀ p∈X.pn ++ pins,p.1≠b):Inv X pins U H' s':=by
 obtain ⟨h',g',d',t',o'⟩:=s'
 have e:o'=s.os:=ho
 subst e
 exact I.call (g':=g') (t':=t') (d':=d') u hok hg hch
end
abbrev XK:=Value->Option Addr->Hp->Prop
abbrev St:=List (Option V)
abbrev VK:=V->Hp->Prop
abbrev TE:=St->Hp->VK->Prop
abbrev TT:=St->Hp->(Bool->Hp->Prop)->Prop
abbrev TA:=St->Hp->(List V->Hp->Prop)->Prop
structure Ends where
 nx:St->Hp->Prop
 rt:VK
 bk:St->Hp->Prop:=fun _ _=>False
 ct:St->Hp->Prop:=fun _ _=>False
abbrev TS:=Ends->St->Hp->Prop
def EP (X:Cx) (pins:List (Addr×Obj)) (U:St) (Q:VK) (u:Value) (s':Shared):Prop:=∃ v H',Inv X pins U H' s'/\RelV v u/\Q v H'
def TP (X:Cx) (pins:List (Addr×Obj)) (U:St) (Q:Bool->Hp->Prop) (b:Bool) (s':Shared):Prop:=∃ H',Inv X pins U H' s'/\Q b H'
def AP (X:Cx) (pins:List (Addr×Obj)) (U:St) (Q:List V->Hp->Prop) (us:List Value) (s':Shared):Prop:=∃ vs H',Inv X pins U H' s'/\Vals vs us/\Q vs H'
def SP (X:Cx) (pins:List (Addr×Obj)) (D:Ends) (f:Flow) (s':Shared):Prop:=
 match f with
 | .next=>∃ U' H',Inv X pins U' H' s'/\D.nx U' H'
 | .brk=>∃ U' H',Inv X pins U' H' s'/\D.bk U' H'
 | .cont=>∃ U' H',Inv X pins U' H' s'/\D.ct U' H'
 | .ret u=>∃ v U' H',Inv X pins U' H' s'/\RelV v u/\D.rt v H'
def PE (X:Cx) (e:Expr) (t:TE):Prop:=
 ∀ (pins:List (Addr×Obj)) (s:Shared) (U:St) (H:Hp) (Q:VK),Inv X pins U H s->t U H Q->wpAny (model X.prog X.w) X.A (eval e X.env) (EP X pins U Q) X.xe s
def PT (X:Cx) (e:Expr) (t:TT):Prop:=
 ∀ (pins:List (Addr×Obj)) (s:Shared) (U:St) (H:Hp) (Q:Bool->Hp->Prop),Inv X pins U H s->t U H Q->wpAny (model X.prog X.w) X.A (isTrue e X.env (eval e X.env)) (TP X pins U Q) X.xe s
def PW (X:Cx) (e:Expr) (t:TT):Prop:=
 ∀ (whole:Sem Value) (pins:List (Addr×Obj)) (s:Shared) (U:St) (H:Hp) (Q:Bool->Hp->Prop),Inv X pins U H s->t U H Q->wpAny (model X.prog X.w) X.A (isTrue e X.env whole) (TP X pins U Q) X.xe s
theorem PW.pt {X:Cx} {e:Expr} {t:TT} (h:PW X e t):PT X e t:=h _
def PA (X:Cx) (es:List Expr) (t:TA):Prop:=
 ∀ (pos:Pos) (pins:List (Addr×Obj)) (s:Shared) (U:St) (H:Hp) (Q:List V->Hp->Prop),Inv X pins U H s->t U H Q->wpAny (model X.prog X.w) X.A (spliced (backTo pos (starEach es X.env))) (AP X pins U Q) X.xe s
def PS (X:Cx) (st:Stmt) (t:TS):Prop:=
 ∀ (pins:List (Addr×Obj)) (s:Shared) (U:St) (H:Hp) (D:Ends),Inv X pins U H s->t D U H->wpAny (model X.prog X.w) X.A (exec st X.env) (SP X pins D) X.xe s
def PSs (X:Cx) (st:List Stmt) (t:TS):Prop:=
 ∀ (pins:List (Addr×Obj)) (s:Shared) (U:St) (H:Hp) (D:Ends),Inv X pins U H s->t D U H->wpAny (model X.prog X.w) X.A (execs st X.env) (SP X pins D) X.xe s
theorem d7 {α:Type} {t:Sem α} {Q Q':α->Shared->Prop} {M:Model} {A:Around} {E:Value->Shared->Prop} {s:Shared} (h:wpAny M A t Q E s) (hQ:∀ a s,Q a s->Q' a s):wpAny M A t Q' E s:=wpAny_mono h hQ fun _ _ x=>x
section
variable {X:Cx}
def rR (i:Nat):TE:=fun U H Q=>∃ v,U[i]?=some (some v)/\Q v H
def tC (v:V):TE:=fun _ H Q=>Q v H
theorem xJ {i:Nat} {x:Str} {pos:Pos} (hN:X.N[i]?=some x) (hv:Y0 X.env.scope x) (hd:autoParam ((x == ("__debug__":Str))=false) L2.auto2._auto_1) (hcd:autoParam ((x == ("__classdict__":Str))=false) L2.auto2._auto_1):PE X (.Name x pos) (rR i):=by
 intro pins s U H Q I h
 obtain ⟨v,e,h⟩:=h
 obtain ⟨m,hn,hl⟩:=I.loc
 obtain ⟨u,r,l⟩:=hl i x v hN e hv
 have fin:EP X pins U Q u s:=⟨v,H,I,r,h⟩
 rcases l with ⟨hk,hm⟩ | ⟨hk,c,hc,hcell⟩
 ·exact wpAny_Name (wpAny_loadName_local I.ok.kind hk hn hm fin) hd
 ·rcases hk with hk | hk
  ·exact wpAny_Name (wpAny_loadName_cell I.ok.kind hk hc hcell fin) hd
  ·exact wpAny_Name (wpAny_loadName_free I.ok.kind hk hc hcell fin hcd) hd
theorem Qq {i j pos}:PE X (.Constant (.int i) j pos) (tC (.int i)):=fun _ _ _ H _ I h=>wpAny_Constant_int ⟨.int i,H,I.tok _,⟨_,rfl⟩,h⟩
theorem VD {b j pos}:PE X (.Constant (.bool b) j pos) (tC (.bl b)):=fun _ _ _ H _ I h=>Constant_bool ⟨.bl b,H,I,rfl,h⟩
theorem Qs {j pos}:PE X (.Constant .none j pos) (tC .non):=fun _ _ _ H _ I h=>Constant_none ⟨.non,H,I,rfl,h⟩
theorem Qt {x j pos}:PE X (.Constant (.str x) j pos) (tC (.str x)):=fun _ _ _ H _ I h=>Calls.Constant_str ⟨.str x,H,I.tok _,⟨_,rfl⟩,h⟩
def Gl (X:Cx) (x:Str):Prop:=X.env.kindOf x=some .globalImplicit
theorem uF {E:Value->Shared->Prop} {pins:List (Addr×Obj)} {s:Shared} {U:St} {H:Hp} {x:Str} {u:Value} {pos:Pos} {Q:Value->Shared->Prop} (I:Inv X pins U H s) (hg:Gl X x) (hm:X.mg x=some u) (h:Q u s)
  (hd:autoParam ((x == ("__debug__":Str))=false) L2.auto2._auto_1):wpAny (model X.prog X.w) X.A (eval (.Name x pos) X.env) Q E s:=
 Calls.Name_function_global I.ok.kind hg (Calls.loadGlobal_global (by rw [I.ok.glob];exact I.mod.glob.keeps I.bk) hm h) hd
theorem p6 {E:Value->Shared->Prop} {pins:List (Addr×Obj)} {s:Shared} {U:St} {H:Hp} {x:Str} {u:Value} {pos:Pos} {Q:Value->Shared->Prop} (I:Inv X pins U H s) (hg:Gl X x) (hm:X.mg x=none) (hv:bootBuiltins x=some u) (h:Q u s)
  (hn:autoParam (x≠"__name__") L2.auto2._auto_1) (hd:autoParam ((x == ("__debug__":Str))=false) L2.auto2._auto_1):wpAny (model X.prog X.w) X.A (eval (.Name x pos) X.env) Q E s:=by
 obtain ⟨mb,h1,h2⟩:=I.mod.blt
 exact Calls.Name_function_global I.ok.kind hg (Calls.loadGlobal_builtin (by rw [I.ok.glob];exact I.mod.glob.keeps I.bk) hm (by rw [I.ok.blt];exact h1.keeps I.bk) ((h2 x hn).trans hv) h) hd
theorem BZ {x:Str} {v:V} {u:Value} {pos:Pos} (hg:Gl X x) (hm:X.mg x=some u) (r:RelV v u) (hd:autoParam ((x == ("__debug__":Str))=false) L2.auto2._auto_1):PE X (.Name x pos) (tC v):=
 fun _ _ _ H _ I h=>uF I hg hm ⟨v,H,I,r,h⟩ hd
theorem K8 {x:Str} {v:V} {u:Value} {pos:Pos} (hg:Gl X x) (hm:X.mg x=none) (hv:bootBuiltins x=some u) (r:RelV v u) (hn:autoParam (x≠"__name__") L2.auto2._auto_1) (hd:autoParam ((x == ("__debug__":Str))=false) L2.auto2._auto_1):PE X (.Name x pos) (tC v):=
 fun _ _ _ H _ I h=>p6 I hg hm hv ⟨v,H,I,r,h⟩ hn hd
variable {a b:Expr} {ta tb:TE} {pos:Pos}
def tB (t:TE):TT:=fun U H Q=>t U H fun x H1=>∃ c,x= .bl c/\Q c H1
theorem Qu {e:Expr} {t:TE} (h:PE X e t) (he:autoParam (∀ whole,isTrue e X.env whole=(do let v ← whole;standAt e.pos;holding [v] (truthy v))) L2.auto3._auto_1):PT X e (tB t):=by
 intro pins s U H Q I hw
 refine isTrue_plain (d7 (h pins s U H _ I hw) fun v s1 qq0=>?_) (he _)
 obtain ⟨x,H1,I1,r1,q1⟩:=qq0
 obtain ⟨d,rfl,q⟩:=q1
 cases r1
 exact wpAny_truthy_bool ⟨H1,I1,q⟩
variable {tA tB':TT} {rest:List Expr}
def K9 (t u:TT):TT:=fun U H Q=>t U H fun c H1=>if c=true then u U H1 Q else Q false H1
def tOr (t u:TT):TT:=fun U H Q=>t U H fun c H1=>if c=true then Q true H1 else u U H1 Q
def Qv (t:TT):TT:=fun U H Q=>t U H fun c H1=>Q (!c) H1
theorem La (ha:PT X a tA):PW X (.BoolOp .And [a] pos) tA:=by
 intro wh pins s U H Q I h
 refine isTrue_and (d7 (ha pins s U H Q I h) fun c s1 e=>?_)
 cases c with
 | true=>exact isTrue_and_nil e
 | false=>exact e
theorem Qw (ha:PT X a tA):PW X (.BoolOp .Or [a] pos) tA:=by
 intro wh pins s U H Q I h
 refine isTrue_or (d7 (ha pins s U H Q I h) fun c s1 e=>?_)
 cases c with
 | false=>exact isTrue_or_nil e
 | true=>exact e
theorem Qx (ha:PT X a tA) (hb:PW X (.BoolOp .And (b :: rest) pos) tB'):PW X (.BoolOp .And (a :: b :: rest) pos) (K9 tA tB'):=by
 intro wh pins s U H Q I h
 refine isTrue_and (d7 (ha pins s U H _ I h) fun c s1 qq0=>?_)
 obtain ⟨H1,I1,q1⟩:=qq0
 cases c with
 | true=>exact hb wh pins s1 U H1 Q I1 q1
 | false=>exact ⟨H1,I1,q1⟩
theorem VF (ha:PT X a tA) (hb:PW X (.BoolOp .Or (b :: rest) pos) tB'):PW X (.BoolOp .Or (a :: b :: rest) pos) (tOr tA tB'):=by
 intro wh pins s U H Q I h
 refine isTrue_or (d7 (ha pins s U H _ I h) fun c s1 qq0=>?_)
 obtain ⟨H1,I1,q1⟩:=qq0
 cases c with
 | true=>exact ⟨H1,I1,q1⟩
 | false=>exact hb wh pins s1 U H1 Q I1 q1
theorem Qy (ha:PT X a tA):PT X (.UnaryOp .Not a pos) (Qv tA):=by
 intro pins s U H Q I h
 exact isTrue_not (ha pins s U H (fun c H1=>Q (!c) H1) I h)
def Gx (ta tb:TE):TE:=fun U H Q=>ta U H fun x H1=>∃ c,x= .bl c/\if c=true then tb U H1 Q else Q (.bl false) H1
def Gy (ta:TE):TE:=fun U H Q=>ta U H fun x H1=>∃ c,x= .bl c/\Q (.bl (!c)) H1
theorem Qz {op} {t:TE} (h:PE X a t):PE X (.BoolOp op [a] pos) t:=fun pins s U H Q I hw=>BoolOp_one (h pins s U H Q I hw)
theorem QB (ha:PE X a ta) (hb:PE X (.BoolOp .And (b :: rest) pos) tb):PE X (.BoolOp .And (a :: b :: rest) pos) (Gx ta tb):=by
 intro pins s U H Q I h
 refine BoolOp_and (d7 (ha pins s U H _ I h) fun v s1 qq0=>?_)
 obtain ⟨x,H1,I1,r1,q1⟩:=qq0
 obtain ⟨c,rfl,q1⟩:=q1
 cases r1
 refine wpAny_truthy_bool ?_
 cases c with
 | true=>exact hb pins s1 U H1 Q I1 q1
 | false=>exact ⟨.bl false,H1,I1,rfl,q1⟩
theorem QC (ha:PE X a ta):PE X (.UnaryOp .Not a pos) (Gy ta):=by
 intro pins s U H Q I h
 refine UnaryOp_ (d7 (ha pins s U H _ I h) fun v s1 qq0=>?_)
 obtain ⟨x,H1,I1,r1,q1⟩:=qq0
 obtain ⟨c,rfl,q1⟩:=q1
 cases r1
 exact not_of (wpAny_truthy_bool ⟨.bl (!c),H1,I1,rfl,q1⟩)
end
def SqL (K:W.Frag) (H:Hp) (a:Addr) (xs:List V):Prop:=
 Rd H a (.lst xs)\/
  ∃ (o:Obj) (its:Array Value) (n:Nat),K.lookup a=some o/\o.cls= .type "list"/\o.dict=none/\o.data= .seq its n/\its.size<=sizeLine/\Vals xs its.toList
def SqT (K:W.Frag) (H:Hp) (a:Addr) (xs:List V):Prop:=
 Rd H a (.tup xs)\/
  ∃ (o:Obj) (its:Array Value) (n:Nat),K.lookup a=some o/\o.cls= .type "tuple"/\o.data= .seq its n/\its.size<=sizeLine/\Vals xs its.toList
def absV:Value->Option V
 | .none=>some .non
 | .bool b=>some (.bl b)
 | .int i _=>some (.int i)
 | .str x _=>some (.str x)
 | .bytes b _=>some (.byt b)
 | .float b _=>some (.flt b)
 | .ref a=>some (.ref a)
 | .type n=>some (.ty n)
 | _=>none
theorem RelV.abs {x:V} {u:Value} (r:RelV x u):absV u=some x:=by
 cases x with
 | non=>cases r;rfl
 | bl _=>cases r;rfl
 | int _=>obtain ⟨t,rfl⟩:=r;rfl
 | str _=>obtain ⟨t,rfl⟩:=r;rfl
 | byt _=>obtain ⟨t,rfl⟩:=r;rfl
 | flt _=>obtain ⟨t,rfl⟩:=r;rfl
 | ref _=>cases r;rfl
 | ty _=>cases r;rfl
theorem RelV.inj {x y:V} {u:Value} (r:RelV x u) (q:RelV y u):x=y:=Option.some.inj (r.abs.symm.trans q.abs)
theorem Vals.inj:∀ {xs ys:List V} {us:List Value},Vals xs us->Vals ys us->xs=ys
 | _,_,_,.nil,.nil=>rfl
 | _,_,_,.cons r t,.cons r' t'=>by rw [r.inj r',Vals.inj t t']
section
variable {X:Cx} {pins:List (Addr×Obj)} {U:St} {H:Hp} {s:Shared} {a:Addr} {xs ys:List V}
theorem SqL.of {K:W.Frag} (h:H a=some (.lst xs)):SqL K H a xs:=.inl (.inl h)
theorem SqT.of {K:W.Frag} (h:H a=some (.tup xs)):SqT K H a xs:=.inl (.inl h)
theorem Inv.list (I:Inv X pins U H s) (h:SqL X.K H a xs):∃ its:List Value,Vals xs its/\PlainL s.heap a its.toArray/\xs.length<=sizeLine:=by
 rcases h with h | ⟨o,its,n,hk,hc,hd,hs,hz,r⟩
 ·obtain ⟨z,its,n,r,e⟩:=h.ok I.hok
  exact ⟨its,r,⟨_,n,e,rfl,rfl,rfl⟩,z⟩
 ·refine ⟨its.toList,r,⟨o,n,I.kIn a o hk,hc,hd,by simpa using hs⟩,?_⟩
  have e:=r.length
  simp only [Array.length_toList] at e
  omega
theorem Inv.tuple (I:Inv X pins U H s) (h:SqT X.K H a xs):∃ its:List Value,Vals xs its/\IsTup s.heap a its.toArray/\xs.length<=sizeLine:=by
 rcases h with h | ⟨o,its,n,hk,hc,hs,hz,r⟩
 ·obtain ⟨z,its,r,p⟩:=h.ok I.hok
  exact ⟨its,r,p,z⟩
 ·refine ⟨its.toList,r,⟨o,I.kIn a o hk,hc,n,by simpa using hs⟩,?_⟩
  have e:=r.length
  simp only [Array.length_toList] at e
  omega
theorem Inv.list_inj (I:Inv X pins U H s) (h:SqL X.K H a xs) (h':SqL X.K H a ys):xs=ys:=by
 obtain ⟨its,r,⟨o,n,e,_,_,d⟩,_⟩:=I.list h
 obtain ⟨its',r',⟨o',n',e',_,_,d'⟩,_⟩:=I.list h'
 rw [e] at e';cases e'
 rw [d] at d'
 injection d' with d1 _
 have:its=its':=by simpa using congrArg Array.toList d1
 subst this
 exact r.inj r'
theorem Inv.tuple_inj (I:Inv X pins U H s) (h:SqT X.K H a xs) (h':SqT X.K H a ys):xs=ys:=by
 obtain ⟨its,r,⟨o,e,_,n,d⟩,_⟩:=I.tuple h
 obtain ⟨its',r',⟨o',e',_,n',d'⟩,_⟩:=I.tuple h'
 rw [e] at e';cases e'
 rw [d] at d'
 injection d' with d1 _
 have:its=its':=by simpa using congrArg Array.toList d1
 subst this
 exact r.inj r'
end
abbrev Cx.wish (X:Cx) (E:Value->Shared->Prop):Cx:={X with xe:=E}
abbrev Cx.nox (X:Cx):Cx:=X.wish fun _ _=>False
theorem Cx.Ok.wish {X:Cx} (ok:X.Ok) (E:Value->Shared->Prop):(X.wish E).Ok:=
 ⟨ok.mod,ok.kind,ok.glob,ok.blt,ok.above,ok.inj,ok.has,ok.cab,ok.hd,ok.frames,ok.stk,ok.exf,ok.bs,ok.bsz,ok.noex,ok.exfs,ok.funs,ok.frf⟩
theorem Cx.Ok.unwish {X:Cx} {E:Value->Shared->Prop} (ok:(X.wish E).Ok):X.Ok:=
 ⟨ok.mod,ok.kind,ok.glob,ok.blt,ok.above,ok.inj,ok.has,ok.cab,ok.hd,ok.frames,ok.stk,ok.exf,ok.bs,ok.bsz,ok.noex,ok.exfs,ok.funs,ok.frf⟩
section
variable {X:Cx} {pins:List (Addr×Obj)} {U:St} {H:Hp} {s:Shared} {E:Value->Shared->Prop}
theorem Inv.wish (I:Inv X pins U H s) (E:Value->Shared->Prop):Inv (X.wish E) pins U H s:=⟨I.ok.wish E,I.os,I.bare,I.base,I.loc,I.cell,I.free,I.freeC,I.pin,I.hok,I.len⟩
theorem Inv.unwish (I:Inv (X.wish E) pins U H s):Inv X pins U H s:=⟨I.ok.unwish,I.os,I.bare,I.base,I.loc,I.cell,I.free,I.freeC,I.pin,I.hok,I.len⟩
theorem SP.unwish {D:Ends} {f:Flow} {s':Shared} (h:SP (X.wish E) pins D f s'):SP X pins D f s':=by
 cases f with
 | next=>obtain ⟨U',H',I,q⟩:=h;exact ⟨U',H',I.unwish,q⟩
 | brk=>obtain ⟨U',H',I,q⟩:=h;exact ⟨U',H',I.unwish,q⟩
 | cont=>obtain ⟨U',H',I,q⟩:=h;exact ⟨U',H',I.unwish,q⟩
 | ret u=>obtain ⟨v,U',H',I,r,q⟩:=h;exact ⟨v,U',H',I.unwish,r,q⟩
theorem PSs.nox {st:List Stmt} {t:TS} (h:PSs X.nox st t):PSs X st t:=fun pins s U H D I hw=>
 wpAny_mono (h pins s U H D (I.wish _) hw) (fun _ _ q=>q.unwish) fun _ _ z=>False.elim z
end
section
variable {X:Cx} {st:Stmt} {rest:List Stmt} {t u:TS} {e:Expr} {te:TE} {pos:Pos}
def Gz:TS:=fun D U H=>D.nx U H
def Lb (t u:TS):TS:=fun D U H=>t {D with nx:=u D} U H
theorem Ld:PSs X [] Gz:=fun _ _ U H _ I h=>wpAny_execs_nil ⟨U,H,I,h⟩
theorem GC (h1:PS X st t) (h2:PSs X rest u):PSs X (st :: rest) (Lb t u):=by
 intro pins s U H D I h
 refine wpAny_execs_cons (d7 (h1 pins s U H {D with nx:=u D} I h) fun f s1 q=>?_)
 cases f with
 | next=>
  obtain ⟨U',H',I',q⟩:=q
  exact h2 pins s1 U' H' D I' q
 | ret v=>exact q
 | brk=>exact q
 | cont=>exact q
theorem Le (h1:PS X st t):PSs X [st] t:=by
 intro pins s U H D I h
 refine wpAny_execs_cons (d7 (h1 pins s U H D I h) fun f s1 q=>?_)
 cases f with
 | next=>exact wpAny_execs_nil q
 | ret v=>exact q
 | brk=>exact q
 | cont=>exact q
theorem Inv.quiet {pins:List (Addr×Obj)} {U:St} {H:Hp} {s:Shared} (I:Inv X pins U H s):interactive X.env=false:=by simp [interactive,I.ok.kind]
def Ca (te:TE):TS:=fun D U H=>te U H fun _ H1=>D.nx U H1
theorem Lg (he:PE X e te) (hs:autoParam (swapsWith e none pos.line X.env=pure false) L2.auto4._auto_1):PS X (.Expr e pos) (Ca te):=by
 intro pins s U H D I h
 exact wpAny_Expr_any (d7 (he pins s U H _ I h) fun v s1 ⟨x,H1,I1,r1,q1⟩=>⟨U,H1,I1,q1⟩) I.quiet hs
def QD (te:TE):TS:=fun D U H=>te U H D.rt
theorem QF (he:PE X e te):PS X (.Return (some e) pos) (QD te):=by
 intro pins s U H D I h
 exact wpAny_Return_some (d7 (he pins s U H _ I h) fun v s1 ⟨x,H1,I1,r1,q1⟩=>⟨x,U,H1,I1,r1,q1⟩)
def QG (c:TT) (t u:TS):TS:=fun D U H=>c U H fun b H1=>if b=true then t D U H1 else u D U H1
theorem VG {c:Expr} {a b:List Stmt} {tc:TT} (hc:PT X c tc) (ha:PSs X a t) (hb:PSs X b u):PS X (.If c a b pos) (QG tc t u):=by
 intro pins s U H D I h
 refine wpAny_If (d7 (hc pins s U H _ I h) fun d s1 qq0=>?_)
 obtain ⟨H1,I1,q1⟩:=qq0
 cases d with
 | true=>exact ha pins s1 U H1 D I1 q1
 | false=>exact hb pins s1 U H1 D I1 q1
end
abbrev TG:=V->St->Hp->(St->Hp->Prop)->Prop
abbrev Am:=List V->St->Hp->(St->Hp->Prop)->Prop
def PG (X:Cx) (target:Expr) (t:TG):Prop:=
 ∀ (pins:List (Addr×Obj)) (s:Shared) (U:St) (H:Hp) (v:V) (u:Value) (Q:St->Hp->Prop),Inv X pins U H s->RelV v u->t v U H Q->
  wpAny (model X.prog X.w) X.A (assign target X.env u) (fun _ s'=>∃ U' H',Inv X pins U' H' s'/\Q U' H') X.xe s
def Vu (X:Cx) (ts:List Expr) (t:Am):Prop:=
 ∀ (pins:List (Addr×Obj)) (s:Shared) (U:St) (H:Hp) (vs:List V) (us:List Value) (Q:St->Hp->Prop),Inv X pins U H s->Vals vs us->t vs U H Q->
  wpAny (model X.prog X.w) X.A (assignInOrder ((assignEach ts X.env).map (·.2)) us) (fun _ s'=>∃ U' H',Inv X pins U' H' s'/\Q U' H') X.xe s
abbrev An:=V->V->V->Hp->(Hp->Prop)->Prop
def Lh (X:Cx) (t:An):Prop:=
 ∀ (pins:List (Addr×Obj)) (s:Shared) (U:St) (H:Hp) (o i v:V) (ov iv u:Value) (Q:Hp->Prop),Inv X pins U H s->RelV o ov->RelV i iv->RelV v u->t o i v H Q->
  wpAny (model X.prog X.w) X.A (setItem ov iv u) (fun _ s'=>∃ H',Inv X pins U H' s'/\Q H') X.xe s
abbrev TIp:=V->V->Hp->VK->Prop
def PIp (X:Cx) (op:Operator) (t:TIp):Prop:=
 ∀ (pins:List (Addr×Obj)) (s:Shared) (U:St) (H:Hp) (x y:V) (v u:Value) (Q:VK),Inv X pins U H s->RelV x v->RelV y u->t x y H Q->
  wpAny (model X.prog X.w) X.A (inplaceOp op v u) (EP X pins U Q) X.xe s
section
variable {X:Cx} {pos:Pos}
def pO (i:Nat):TG:=fun v U H Q=>Q (U.set i (some v)) H
theorem Cd {i:Nat} {x:Str} (hN:X.N.Nodup) (hi:X.N[i]?=some x) (hx:Loc X.env.scope x) (hf:autoParam (X.fn x=true\/X.env.scope.names.lookup x=some .local) L2.auto1._auto_1):PG X (.Name x pos) (pO i):=by
 intro pins s U H v u Q I r h
 exact wpAny_assign_Name (nQ I hN hi hx r (fun s' I'=>⟨_,H,I',h⟩) hf)
def QH:Am:=fun vs U H Q=>vs=[]/\Q U H
def GD (t:TG) (u:Am):Am:=fun vs U H Q=>∃ v r,vs=v :: r/\t v U H fun U' H'=>u r U' H' Q
theorem Li:Vu X [] QH:=by
 intro pins s U H vs us Q I r h
 obtain ⟨e,h⟩:=h
 subst e
 cases r
 exact assignInOrder_nil ⟨U,H,I,h⟩
theorem GF {e:Expr} {es:List Expr} {t:TG} {u:Am} (h1:PG X e t) (h2:Vu X es u)
  (hs:autoParam ((assignEach (e :: es) X.env).map (·.2)=assign e X.env :: (assignEach es X.env).map (·.2)) L2.auto4._auto_1):Vu X (e :: es) (GD t u):=by
 intro pins s U H vs us Q I r h
 obtain ⟨v,vr,e1,h⟩:=h
 subst e1
 cases r with
 | cons r rr=>
  rw [hs]
  refine assignInOrder_cons (d7 (h1 pins s U H _ _ _ I r h) fun _ s1 qq0=>?_)
  obtain ⟨σ1,H1,I1,q1⟩:=qq0
  exact h2 pins s1 σ1 H1 _ _ Q I1 rr q1
def Lj (K:W.Frag) (n:Nat) (t:Am):TG:=fun v U H Q=>∃ a xs,v= .ref a/\SqT K H a xs/\xs.length=n/\t xs U H Q
theorem GJ {es:List Expr} {k:Nat} {t:Am} {n:Nat} (hc:X.calm=true) (h:Vu X es t)
  (hn:autoParam ((assignEach es X.env).length=n) L2.auto4._auto_1) (hst:autoParam ((assignEach es X.env).findIdx? (·.1)=none) L2.auto4._auto_1):PG X (.Tuple es k pos) (Lj X.K n t):=by
 intro pins s U H v u Q I r hw
 obtain ⟨a,xs,e1,hq,hl,hw⟩:=hw
 subst e1
 cases r
 obtain ⟨its,rv,ht,hz⟩:=I.tuple hq
 refine assign_Tuple_tuple (I.ok.hd hc) ht (by simp [hn,← hl,rv.length]) hst fun h' hx=>?_
 have I1:Inv X pins U H {s with heap:=h'}:=I.kept (t':=s.toks) fun b o e=>hx b o (Nat.ne_of_lt (Heap.lt_size e)) e
 exact h pins _ U H xs _ Q I1 (by simpa using rv) hw
def QJ (to ti:TE) (t:An):TG:=fun v U H Q=>to U H fun o H1=>ti U H1 fun i H2=>t o i v H2 fun H3=>Q U H3
theorem QK {o i:Expr} {to ti:TE} {t:An} (ho:PE X o to) (hi:PE X i ti) (hs:Lh X t)
  (ha:∀ v,assign (.Subscript o i pos) X.env v=(do
   let ov ← holding [v] (eval o X.env)
   let iv ← holding [v,ov] (eval i X.env)
   standAt pos
   holding [v,ov,iv] (setItem ov iv v)
   release [v,ov,iv] []):=by intro _;rfl):PG X (.Subscript o i pos) (QJ to ti t):=by
 intro pins s U H v u Q I r h
 rw [ha]
 refine wpAny_bind (wpAny_holding (d7 (ho pins s U H _ I h) fun ov s1 qq0=>?_))
 obtain ⟨x,H1,I1,r1,q1⟩:=qq0
 refine wpAny_bind (wpAny_holding (d7 (hi pins s1 U H1 _ I1 q1) fun iv s2 qq0=>?_))
 obtain ⟨y,H2,I2,r2,q2⟩:=qq0
 refine wpAny_bind (wpAny_standAt (wpAny_bind (wpAny_holding (d7 (hs pins s2 U H2 x y v ov iv u _ I2 r1 r2 r q2) fun _ s3 qq0=>?_))))
 obtain ⟨H3,I3,q3⟩:=qq0
 exact wpAny_release ⟨U,H3,I3,q3⟩
def xK (te:TE) (g:TG):TS:=fun D U H=>te U H fun x H1=>g x U H1 D.nx
theorem GK {tg e:Expr} {te:TE} {g:TG} (he:PE X e te) (hg:PG X tg g) (hs:autoParam (swapsWithSole [tg] e pos.line X.env=pure false) L2.auto4._auto_1) (hw:autoParam (swappedStores [tg] e X.env=pure none) L2.auto4._auto_1)
  (h1:autoParam ((assignEach [tg] X.env).map (·.2)=[assign tg X.env]) L2.auto4._auto_1):PS X (.Assign [tg] e pos) (xK te g):=by
 intro pins s U H D I h
 refine wpAny_Assign_stores (d7 (he pins s U H _ I h) fun v s1 qq0=>?_) hs hw
 obtain ⟨x,H1,I1,r1,q1⟩:=qq0
 rw [h1]
 exact d7 (hg pins s1 U H1 x v _ I1 r1 q1) fun _ s2 q=>q
theorem GP {i:Nat} {x:Str} {e:Expr} {te:TE} {pos':Pos} (hN:X.N.Nodup) (hi:X.N[i]?=some x) (hx:Loc X.env.scope x) (he:PE X e te) (hs:autoParam (swapsWith e (some (.Name x pos')) pos.line X.env=pure false) L2.auto4._auto_1) (hf:autoParam (X.fn x=true\/X.env.scope.names.lookup x=some .local) L2.auto1._auto_1):
  PS X (.Assign [.Name x pos'] e pos) (xK te (pO i)):=by
 intro pins s U H D I h
 refine wpAny_Assign_Name (d7 (he pins s U H _ I h) fun v s1 qq0=>?_) hs
 obtain ⟨y,H1,I1,r1,q1⟩:=qq0
 exact nQ I1 hN hi hx r1 (fun s2 I2=>⟨_,H1,I2,q1⟩) hf
def QL (i j:Nat) (ta:TA):TS:=fun D U H=>ta U H fun vs H1=>∃ v w,vs=[v,w]/\D.nx ((U.set i (some v)).set j (some w)) H1
theorem QM {i j:Nat} {x y:Str} {a b:Expr} {ta:TA} {px py pt:Pos} {kt k2 pt2} (hc:X.calm=true) (hN:X.N.Nodup) (hi:X.N[i]?=some x) (hj:X.N[j]?=some y) (hij:i≠j)
  (hx:X.env.scope.names.lookup x=some .local) (hy:X.env.scope.names.lookup y=some .local) (ha:PA X [a,b] ta)
  (hw:swappedStores [.Tuple [.Name x px,.Name y py] kt pt] (.Tuple [a,b] k2 pt2) X.env=pure (some [x,y]))
  (hs:autoParam (swapsWithSole [.Tuple [.Name x px,.Name y py] kt pt] (.Tuple [a,b] k2 pt2) pos.line X.env=pure false) L2.auto4._auto_1):
  PS X (.Assign [.Tuple [.Name x px,.Name y py] kt pt] (.Tuple [a,b] k2 pt2) pos) (QL i j ta):=by
 intro pins s U H D I h
 rw [exec_Assign_arm]
 refine wpAny_bind (wpAny_standAt ?_)
 rw [hs]
 refine wpAny_bind (wpAny_pure ?_)
 rw [if_neg (by decide)]
 refine wpAny_bind (Tuple_ (d7 (ha _ pins s U H _ I h) fun us s1 qq0=>?_))
 obtain ⟨vs,H1,I1,r1,q1⟩:=qq0
 obtain ⟨v,w,e1,q1⟩:=q1
 subst e1
 obtain ⟨u1,u2,rfl,rv,rw'⟩:∃ u1 u2,us=[u1,u2]/\RelV v u1/\RelV w u2:=by
  cases r1 with
  | cons p q=>
   cases q with
   | cons p' q'=>
    cases q'
    exact ⟨_,_,rfl,p,p'⟩
 refine wpAny_newObj_type ?_ (by show 2<=sizeLine;decide)
 have I2:Inv X pins U H1 {s1 with heap:=s1.heap.push {cls:=.type "tuple",data:=.seq [u1,u2].toArray}}:=I1.kept (t':=s1.toks) fun b o e=>Heap.get?_push_of_some _ e
 rw [hw]
 refine wpAny_bind (wpAny_pure ?_)
 show wpAny (model X.prog X.w) X.A (do rule "assign.swapped-stores";let items ← unpackItems (.ref s1.heap.objs.size) 2 none;assignInOrder [fun v=>bindName X.env y v,fun v=>bindName X.env x v] items.reverse;pure Flow.next) _ _ _
 refine wpAny_bind (wpAny_rule (wpAny_bind (unpackItems_tuple (items:=#[u1,u2]) (I.ok.hd hc) (IsTup.new s1.heap _) fun h' hx'=>?_)))
 have I3:=I2.kept (h':=h') (t':=s1.toks) fun b o e=>hx' b o (Nat.ne_of_lt (Heap.lt_size e)) e
 show wpAny _ _ (assignInOrder [fun v=>bindName X.env y v,fun v=>bindName X.env x v] [u2,u1] >>=fun _=>pure Flow.next) _ _ _
 refine wpAny_bind (assignInOrder_cons (wpAny_bindName (nQ I3 hN hj (.inl hy) rw' (fun s2 I4=>?_) (.inr hy))))
 refine assignInOrder_cons (wpAny_bindName (nQ I4 hN hi (.inl hx) rv (fun s3 I5=>assignInOrder_nil (wpAny_pure ?_)) (.inr hx)))
 rw [List.set_comm _ _ (Ne.symm hij)] at I5
 exact ⟨_,H1,I5,q1⟩
def QQ (i:Nat) (te:TE) (ti:TIp):TS:=fun D U H=>∃ x,U[i]?=some (some x)/\te U H fun y H1=>ti x y H1 fun z H2=>D.nx (U.set i (some z)) H2
theorem QR {i:Nat} {x:Str} {e:Expr} {te:TE} {op:Operator} {ti:TIp} {pos':Pos} (hN:X.N.Nodup) (hi:X.N[i]?=some x) (hx:Loc X.env.scope x) (he:PE X e te) (ho:PIp X op ti) (hf:autoParam (X.fn x=true\/X.env.scope.names.lookup x=some .local) L2.auto1._auto_1):
  PS X (.AugAssign (.Name x pos') op e pos) (QQ i te ti):=by
 intro pins s U H D I h
 obtain ⟨v,e1,h⟩:=h
 obtain ⟨m,hn,hl⟩:=I.loc
 have vis:Y0 X.env.scope x:=by rcases hx with k | k;exact .inl k;exact .inr (.inl k)
 obtain ⟨u,r,l⟩:=hl i x v hi e1 vis
 refine wpAny_AugAssign_Name ?_
 have go:wpAny (model X.prog X.w) X.A (eval e X.env) (fun w s₂=>wpAny (model X.prog X.w) X.A (inplaceOp op u w) (fun r s₃=>wpAny (model X.prog X.w) X.A (storeName X.env x r) (fun _=>SP X pins D .next) X.xe s₃) X.xe s₂) X.xe s:=by
  refine d7 (he pins s U H _ I h) fun w s1 qq0=>?_
  obtain ⟨y,H1,I1,r1,q1⟩:=qq0
  refine d7 (ho pins s1 U H1 v y u w _ I1 r r1 q1) fun z s2 qq0=>?_
  obtain ⟨zv,H2,I2,r2,q2⟩:=qq0
  exact nQ I2 hN hi hx r2 (fun s3 I3=>⟨_,H2,I3,q2⟩) hf
 rcases l with ⟨hk,hm⟩ | ⟨hk,c,hc,hcell⟩
 ·exact wpAny_loadName_local I.ok.kind hk hn hm go
 ·rcases hk with hk | hk
  ·exact wpAny_loadName_cell I.ok.kind hk hc hcell go
  ·rcases hx with k | k
   ·have:X.env.scope.names.lookup x=some .free:=hk
    rw [k] at this;cases this
   ·have:X.env.scope.names.lookup x=some .free:=hk
    rw [k] at this;cases this
def Ao (c:TT) (tb:TS):TS:=fun D U H=>∃ W:Nat->St->Hp->Prop,(∃ m,W m U H)/\∀ m U H,W m U H->
 c U H fun b H1=>if b=true then ∃ N:St->Hp->Prop,(∀ U' H',N U' H'->∃ m',m' < m/\W m' U' H')/\tb {D with nx:=N,ct:=N,bk:=D.nx} U H1 else D.nx U H1
theorem GQ {c:Expr} {body:List Stmt} {tc:TT} {tb:TS} (hp:PassesOwn (model X.prog X.w) X.A X.env X.xe) (hc:PT X c tc) (hb:PSs X body tb):PS X (.While c body [] pos) (Ao tc tb):=by
 intro pins s U H D I h
 obtain ⟨W,⟨m0,w0⟩,turn⟩:=h
 refine wpAny_While (codeAny_whileLoop (fun n s'=>∃ U' H',Inv X pins U' H' s'/\W n U' H') ?_ m0 ⟨U,H,I,w0⟩)
 rintro n s1 ⟨σ1,H1,I1,w1⟩
 refine wpAny_passesOwn hp (d7 (hc pins s1 σ1 H1 _ I1 (turn n σ1 H1 w1)) fun b s2 qq0=>?_)
 obtain ⟨H2,I2,q2⟩:=qq0
 cases b with
 | true=>
  obtain ⟨N,hN,q2⟩:=q2
  rw [if_pos rfl]
  refine wpAny_passesOwn hp (d7 (hb pins s2 σ1 H2 _ I2 q2) fun f s3 q3=>?_)
  cases f with
  | next=>
   obtain ⟨σ3,H3,I3,n3⟩:=q3
   obtain ⟨m',hm,w3⟩:=hN σ3 H3 n3
   exact ⟨m',hm,σ3,H3,I3,w3⟩
  | cont=>
   obtain ⟨σ3,H3,I3,n3⟩:=q3
   obtain ⟨m',hm,w3⟩:=hN σ3 H3 n3
   exact ⟨m',hm,σ3,H3,I3,w3⟩
  | brk=>exact q3
  | ret v=>exact q3
 | false=>
  rw [if_neg Bool.false_ne_true]
  exact wpAny_execs_nil ⟨σ1,H2,I2,q2⟩
end
structure It where
 go:Nat->Hp->Prop
 yld:Nat->Hp->V->Hp->Prop
 stop:Nat->Hp->Prop
def lg (X:Cx) (pins:List (Addr×Obj)) (H:Hp) (b:Addr):Prop:=
 H b=none/\b≠X.env.locals/\b ∉ X.fs/\(b∈X.ex\/X.s₀.heap.objs.size<=b)/\(∀ x c,X.env.cells.lookup x=some c->c≠b)/\∀ p∈X.pn ++ pins,p.1≠b
theorem Inv.fpOk {X:Cx} {pins:List (Addr×Obj)} {U:St} {H H':Hp} {s:Shared} {b:Addr} (I:Inv X pins U H s) (hb:s.heap.objs.size<=b) (hn:H' b=none):lg X pins H' b:=by
 refine ⟨hn,Nat.ne_of_gt (Nat.lt_of_lt_of_le I.lt hb),I.nofs hb,.inr (Nat.le_trans I.sz hb),fun x c e z=>?_,fun p hp z=>?_⟩
 ·obtain ⟨v,q⟩:=I.cell x c e
  exact absurd (Nat.lt_of_lt_of_le q.lt (by rw [z];exact hb)) (Nat.lt_irrefl _)
 ·exact absurd (Nat.lt_of_lt_of_le (Heap.lt_size (I.pin p hp).1) (by rw [z];exact hb)) (Nat.lt_irrefl _)
structure Turn (P:Program) (w:World) (K:W.Frag) (tg:Expr) (J:It) (fp:List Addr) (it:Addr) (tn:Nat->Heap->Prop):Prop where
 mem:it∈fp
 obj:∀ i h,tn i h->∀ b∈fp,∃ o,h.get? b=some o/\∀ v,o.data≠.cell v
 keep:∀ i h h',tn i h->(∀ b∈fp,∀ o,h.get? b=some o->h'.get? b=some o)->tn i h'
 item:∀ (X:Cx),X.prog=P->X.w=w->X.K=K->X.calm=true->∀ (i:Nat) (pins:List (Addr×Obj)) (s:Shared) (U:St) (H:Hp) (E:Value->Shared->Prop),Inv X pins U H s->(∀ b∈fp,lg X pins H b)->tn i s.heap->J.go i H->
  wpAny (model P w) X.A (pyNext (.ref it)) (fun r s1=>∃ u,r=some u/\
   wpAny (model P w) X.A (letOwnedTupleGo tg (.ref it) u) (fun _ s2=>∃ x H',Inv X pins U H' s2/\RelV x u/\J.yld i H x H'/\tn (i+1) s2.heap/\∀ b∈fp,H' b=none) E s1) E s
 done:∀ (X:Cx),X.prog=P->X.w=w->X.K=K->X.calm=true->∀ (i:Nat) (pins:List (Addr×Obj)) (s:Shared) (U:St) (H:Hp) (E:Value->Shared->Prop),Inv X pins U H s->(∀ b∈fp,lg X pins H b)->tn i s.heap->J.stop i H->
  wpAny (model P w) X.A (pyNext (.ref it)) (fun r s1=>r=none/\Inv X pins U H s1) E s
 self:∀ (A:Around) (i:Nat) (s:Shared) (Q:Value->Shared->Prop) (E:Value->Shared->Prop),tn i s.heap->Q (.ref it) s->wpAny (model P w) A (pyIter (.ref it)) Q E s
abbrev TI:=St->Hp->(It->Hp->Prop)->Prop
def PIE (X:Cx) (pins:List (Addr×Obj)) (U:St) (tg:Expr) (R:It->Hp->Prop) (itv:Value) (s2:Shared):Prop:=
 ∃ (it:Addr) (fp:List Addr) (tn:Nat->Heap->Prop) (J:It) (H':Hp),itv= .ref it/\Inv X pins U H' s2/\Turn X.prog X.w X.K tg J fp it tn/\tn 0 s2.heap/\(∀ b∈fp,lg X pins H' b)/\R J H'
def PI (X:Cx) (tg iter:Expr) (wi:TI):Prop:=
 ∀ (pins:List (Addr×Obj)) (s:Shared) (U:St) (H:Hp) (R:It->Hp->Prop),Inv X pins U H s->wi U H R->
  wpAny (model X.prog X.w) X.A (eval iter X.env) (fun v s1=>wpAny (model X.prog X.w) X.A (pyIter v) (PIE X pins U tg R) X.xe s1) X.xe s
theorem Ce {M:Model} {A:Around} {E:Value->Shared->Prop} {s:Shared} {tg:Expr} {it:Addr} {u:Value} {o:Obj} {n:String} {vs:Array Value} {Q:Unit->Shared->Prop} (ho:s.heap.get? it=some o) (hc:o.cls= .type n) (hd:o.data= .fields vs)
  (hn:["enumerate","zip","dict_itemiterator","dict_reverseitemiterator","odict_iterator","itertools.zip_longest","itertools.pairwise"].contains n=false) (hQ:Q () s):wpAny M A (letOwnedTupleGo tg (.ref it) u) Q E s:=by
 unfold letOwnedTupleGo
 cases tg <;> first
  | exact wpAny_pure hQ
  | (cases u <;> first
    | exact wpAny_pure hQ
    | (refine wpAny_bind (wpAny_load ho ?_)
       rw [hc,hd]
       show wpAny M A (if (["enumerate","zip","dict_itemiterator","dict_reverseitemiterator","odict_iterator","itertools.zip_longest","itertools.pairwise"].contains n && vs[0]? == some (rawInt _))=true then _ else _) Q E s
       rw [if_neg (by intro h;rw [hn,Bool.false_and] at h;cases h)]
       exact wpAny_pure hQ))
def QS (K:W.Frag) (a:Addr):It:=
 ⟨fun i H=>∃ xs x,SqL K H a xs/\xs[i]?=some x,fun i H x H'=>H'=H/\∀ xs,SqL K H a xs->xs[i]?=some x,fun i H=>∃ xs,SqL K H a xs/\xs.length<=i⟩
def Itt (K:W.Frag) (a:Addr):It:=
 ⟨fun i H=>∃ xs x,SqT K H a xs/\xs[i]?=some x,fun i H x H'=>H'=H/\∀ xs,SqT K H a xs->xs[i]?=some x,fun i H=>∃ xs,SqT K H a xs/\xs.length<=i⟩
def O7 (lo:Int) (n:Nat):It:=⟨fun i _=>i < n,fun i H x H'=>H'=H/\x= .int (lo+i),fun i _=>n<=i⟩
theorem DW {P:Program} {w:World} {K:W.Frag} {tg:Expr} (a it:Addr):Turn P w K tg (QS K a) [it] it (fun i h=>h.IsListIter it a i) where
 mem:=by simp
 obj:=fun i h st b hb=>by
  have e:b=it:=by simpa using hb
  subst e
  obtain ⟨o,e,c,d⟩:=st
  exact ⟨o,e,fun v z=>by rw [d] at z;cases z⟩
 keep:=fun i h h' st k=>st.at fun o e=>k it (by simp) o e
 item:=by
  intro X hP hw hK hc i pins s U H E I hf st hg
  subst hP hw hK
  obtain ⟨xs,x,hq,hx⟩:=hg
  obtain ⟨its,rv,p,hz⟩:=I.list hq
  obtain ⟨u,hu,ru⟩:=rv.get hx
  obtain ⟨f0,f1,f2,f3,f4,f5⟩:=hf it (by simp)
  refine wpAny_pyNext_list_item st p.isList (x:=u) (by simpa using hu) fun h' st' sb=>?_
  have I1:Inv X pins U H {s with heap:=h'}:=I.turned (t':=s.toks) (fun b o hb e=>(sb.2 b hb).trans e) f0 f1 f3 f4 f5
  obtain ⟨o,e,c,d⟩:=id st'
  exact ⟨u,rfl,Ce (s:={s with heap:=h'}) e c d (by decide) ⟨x,H,I1,ru,⟨rfl,fun ys hy=>by rw [I.list_inj hy hq];exact hx⟩,st',fun b hb=>(hf b hb).1⟩⟩
 done:=by
  intro X hP hw hK hc i pins s U H E I hf st hg
  subst hP hw hK
  obtain ⟨xs,hq,hx⟩:=hg
  obtain ⟨its,rv,p,hz⟩:=I.list hq
  obtain ⟨f0,f1,f2,f3,f4,f5⟩:=hf it (by simp)
  have hl:=rv.length
  exact wpAny_pyNext_list_end (I.ok.hd hc) st p.isList (by simp;omega) fun h' eb=>⟨rfl,I.turned (t':=s.toks) (fun b o hb e=>eb b o hb e) f0 f1 f3 f4 f5⟩
 self:=fun _ _ _ _ _ st h=>wpAny_pyIter_listiter st h
theorem Aq {P:Program} {w:World} {K:W.Frag} {tg:Expr} (a it:Addr):Turn P w K tg (Itt K a) [it] it (fun i h=>h.IsTupleIter it a i) where
 mem:=by simp
 obj:=fun i h st b hb=>by
  have e:b=it:=by simpa using hb
  subst e
  obtain ⟨o,e,c,d⟩:=st
  exact ⟨o,e,fun v z=>by rw [d] at z;cases z⟩
 keep:=fun i h h' st k=>st.at fun o e=>k it (by simp) o e
 item:=by
  intro X hP hw hK hc i pins s U H E I hf st hg
  subst hP hw hK
  obtain ⟨xs,x,hq,hx⟩:=hg
  obtain ⟨its,rv,p,hz⟩:=I.tuple hq
  obtain ⟨u,hu,ru⟩:=rv.get hx
  obtain ⟨f0,f1,f2,f3,f4,f5⟩:=hf it (by simp)
  refine wpAny_pyNext_tuple_item st (show s.heap.IsTuple a its.toArray from p) (x:=u) (by simpa using hu) fun h' st' sb=>?_
  have I1:Inv X pins U H {s with heap:=h'}:=I.turned (t':=s.toks) (fun b o hb e=>(sb.2 b hb).trans e) f0 f1 f3 f4 f5
  obtain ⟨o,e,c,d⟩:=id st'
  exact ⟨u,rfl,Ce (s:={s with heap:=h'}) e c d (by decide) ⟨x,H,I1,ru,⟨rfl,fun ys hy=>by rw [I.tuple_inj hy hq];exact hx⟩,st',fun b hb=>(hf b hb).1⟩⟩
 done:=by
  intro X hP hw hK hc i pins s U H E I hf st hg
  subst hP hw hK
  obtain ⟨xs,hq,hx⟩:=hg
  obtain ⟨its,rv,p,hz⟩:=I.tuple hq
  obtain ⟨f0,f1,f2,f3,f4,f5⟩:=hf it (by simp)
  have hl:=rv.length
  exact wpAny_pyNext_tuple_end (I.ok.hd hc) st (show s.heap.IsTuple a its.toArray from p) (by simp;omega) fun h' eb=>⟨rfl,I.turned (t':=s.toks) (fun b o hb e=>eb b o hb e) f0 f1 f3 f4 f5⟩
 self:=fun _ _ _ _ _ st h=>wpAny_pyIter_tupleiter st h
theorem Ar {P:Program} {w:World} {K:W.Frag} {tg:Expr} (it:Addr) (lo:Int) (n:Nat):Turn P w K tg (O7 lo n) [it] it (fun i h=>IsRangeIter h it (lo+(i:Nat)*1) ((n:Int) - (i:Nat)) 1) where
 mem:=by simp
 obj:=fun i h st b hb=>by
  have e:b=it:=by simpa using hb
  subst e
  exact ⟨_,st,fun v z=>by
   have z':Data.fields _=Data.cell v:=z
   cases z'⟩
 keep:=fun i h h' st k=>k it (by simp) _ st
 item:=by
  intro X hP hw hK hc i pins s U H E I hf st hg
  subst hP hw hK
  obtain ⟨f0,f1,f2,f3,f4,f5⟩:=hf it (by simp)
  have W:=Walks.range (prog:=X.prog) (w:=X.w) (I.ok.hd hc) it lo 1 n
  refine W.item i s _ _ hg st fun v h' tk hv st' kk=>?_
  obtain ⟨t,rfl⟩:=hv
  have I1:Inv X pins U H {s with heap:=h',toks:=tk}:=I.turned (fun b o hb e=>kk b o (by simpa using hb) e) f0 f1 f3 f4 f5
  refine ⟨_,rfl,Ce (s:={s with heap:=h',toks:=tk}) (n:="range_iterator") st' rfl rfl (by decide) ⟨.int (lo+i),H,I1,⟨t,?_⟩,⟨rfl,rfl⟩,st',fun b hb=>(hf b hb).1⟩⟩
  rw [Int.mul_one]
 done:=by
  intro X hP hw hK hc i pins s U H E I hf st hg
  subst hP hw hK
  obtain ⟨f0,f1,f2,f3,f4,f5⟩:=hf it (by simp)
  exact wpAny_pyNext_range_end (I.ok.hd hc) st (by have:n<=i:=hg;omega) fun h' eb=>⟨rfl,I.turned (t':=s.toks) (fun b o hb e=>eb b o hb e) f0 f1 f3 f4 f5⟩
 self:=fun _ _ _ _ _ st h=>wpAny_pyIter_rangeiter st h
section
variable {X:Cx} {tg:Expr}
theorem GR {pins:List (Addr×Obj)} {U:St} {H:Hp} {s:Shared} {R:It->Hp->Prop} {E:Value->Shared->Prop} {lo hi:Int} {t u v:Tok} {tk:Nat} (I:Inv X pins U H s) (h1: -(2 ^ 62)<=lo) (h2:lo < 2 ^ 62) (h3: -(2 ^ 62)<=hi) (h4:hi < 2 ^ 62)
  (q:R (O7 lo (hi - lo).toNat) H):wpAny (model X.prog X.w) X.A (pyIter (.ref s.heap.objs.size)) (PIE X pins U tg R) E {s with heap:=s.heap.push {cls:=.type "range",data:=.fields #[.int lo t,.int hi u,.int 1 v]},toks:=tk}:=by
 refine wpAny_pyIter_range (IsRange.new ..) (small_one h1 h2 h3 h4) ?_
 have I1:Inv X pins U H {s with heap:=s.heap.push {cls:=.type "range",data:=.fields #[.int lo t,.int hi u,.int 1 v]},toks:=tk}:=I.kept fun b o e=>Heap.get?_push_of_some _ e
 refine ⟨(s.heap.push {cls:=.type "range",data:=.fields #[.int lo t,.int hi u,.int 1 v]}).objs.size,[(s.heap.push {cls:=.type "range",data:=.fields #[.int lo t,.int hi u,.int 1 v]}).objs.size],_,_,H,rfl,
  I1.kept (t':=tk) fun b o e=>Heap.get?_push_of_some _ e,Ar _ lo (hi - lo).toNat,?_,fun b hb=>?_,q⟩
 ·have e1:lo+((0:Nat):Int)*1=lo:=by simp
  have e2:(((hi - lo).toNat:Nat):Int) - ((0:Nat):Int)=Builtin.Range.rangeSize lo hi 1:=by rw [rangeSize_one];split <;> omega
  show IsRangeIter _ _ (lo+((0:Nat):Int)*1) ((((hi - lo).toNat:Nat):Int) - ((0:Nat):Int)) 1
  rw [e1,e2]
  exact Heap.get?_push_size _ rfl
 ·have e:b=(s.heap.push {cls:=.type "range",data:=.fields #[.int lo t,.int hi u,.int 1 v]}).objs.size:=by simpa using hb
  subst e
  exact I1.fpOk (Nat.le_refl _) (I1.hok.fresh (Nat.le_refl _))
def GX (ta:TA):TI:=fun U H R=>ta U H fun vs H1=>∃ j:Int,vs=[.int j]/\-(2 ^ 62)<=j/\j < 2 ^ 62/\R (O7 0 j.toNat) H1
theorem DX {a:Expr} {ta:TA} {p pos:Pos} (hg:Gl X "range") (hm:X.mg "range"=none) (ha:PA X [a] ta) (hs:autoParam (starEach [a] X.env=[(false,eval a X.env)]) L2.auto4._auto_1):PI X tg (.Call (.Name "range" p) [a] [] pos) (GX ta):=by
 intro pins s U H R I h
 refine Call_ (p6 I hg hm boot_range (PyProof.Rows.callWith_type1 (d7 (ha pos pins s U H _ I h) fun us s1 ⟨vs,H1,I1,r1,q1⟩=>?_) hs rfl))
 obtain ⟨j,e,q1,q2,q⟩:=q1
 subst e
 cases r1 with
 | cons r rr=>
  cases rr
  obtain ⟨t,rfl⟩:=r
  exact call_range_1 (GR I1 (by omega) (by omega) q1 q2 (by simpa using q))
def Lk (wi:TI) (g:TG) (tb:TS):TS:=fun D U H=>wi U H fun J H1=>∃ W:Nat->Nat->St->Hp->Prop,(∃ m,W 0 m U H1)/\∀ i m U H,W i m U H->
 (J.stop i H/\D.nx U H)\/(J.go i H/\∃ N:St->Hp->Prop,(∀ U' H',N U' H'->∃ m',m' < m/\W (i+1) m' U' H')/\∀ x H',J.yld i H x H'->g x U H' fun σ2 H2=>tb {D with nx:=N,ct:=N,bk:=D.nx} σ2 H2)
def rT (fp:List Addr) (h:Heap):List (Addr×Obj):=fp.filterMap fun b=>(h.get? b).map fun o=>(b,o)
theorem lY {fp:List Addr} {h:Heap} {b:Addr} {o:Obj} (hb:b∈fp) (e:h.get? b=some o):(b,o)∈rT fp h:=List.mem_filterMap.mpr ⟨b,hb,by rw [e];rfl⟩
theorem DY {fp:List Addr} {h:Heap} {p:Addr×Obj} (hp:p∈rT fp h):p.1∈fp/\h.get? p.1=some p.2:=by
 obtain ⟨b,hb,e⟩:=List.mem_filterMap.mp hp
 cases q:h.get? b with
 | none=>rw [q] at e;cases e
 | some o=>
  rw [q] at e
  have e':(b,o)=p:=Option.some.inj e
  subst e'
  exact ⟨hb,q⟩
theorem Inv.pinned {pins:List (Addr×Obj)} {U:St} {H:Hp} {s:Shared} {fp:List Addr} (I:Inv X pins U H s) (hf:∀ b∈fp,lg X pins H b) (ho:∀ b∈fp,∃ o,s.heap.get? b=some o/\∀ v,o.data≠.cell v):Inv X (pins ++ rT fp s.heap) U H s:=
 I.pins_of fun p hp=>(List.mem_append.mp hp).elim (fun z=>I.pin p (List.mem_append_right _ z)) fun z=>by
  obtain ⟨hb,e⟩:=DY z
  obtain ⟨f0,f1,f2,_⟩:=hf p.1 hb
  obtain ⟨o,e',d⟩:=ho p.1 hb
  rw [e] at e';cases e'
  exact ⟨e,f0,f1,f2,d⟩
theorem Inv.unpinned {pins pl:List (Addr×Obj)} {U:St} {H:Hp} {s:Shared} (I:Inv X (pins ++ pl) U H s):Inv X pins U H s:=I.pins_of fun p hp=>I.pin p (List.mem_append_right _ (List.mem_append_left _ hp))
theorem QT {iter:Expr} {body:List Stmt} {wi:TI} {g:TG} {tb:TS} {pos:Pos} (hp:PassesOwn (model X.prog X.w) X.A X.env X.xe) (hc:X.calm=true) (hi:PI X tg iter wi) (hg:PG X tg g) (hb:PSs X body tb)
  (hs:autoParam (∀ x,foldedSetIterable iter X.env x=pure x) L2.auto3._auto_1):PS X (.For tg iter body [] pos) (Lk wi g tb):=by
 intro pins s U H D I h
 refine wpAny_For (d7 (hi pins s U H _ I h) fun v s1 h1=>d7 h1 fun itv s2 h2=>?_) hs
 obtain ⟨it,fp,tn,J,H2,e,I2,T,st2,f2,W,⟨m0,w0⟩,turn⟩:=h2
 subst e
 have stat:∀ {H':Hp},(∀ b∈fp,H' b=none)->∀ b∈fp,lg X pins H' b:=fun hn b hb=>⟨hn b hb,(f2 b hb).2⟩
 refine codeAny_forLoop_any (fun n s'=>∃ i U' H',Inv X pins U' H' s'/\tn i s'.heap/\(∀ b∈fp,H' b=none)/\W i n U' H') ?_ m0 ⟨0,U,H2,I2,st2,fun b hb=>(f2 b hb).1,w0⟩
 rintro n s3 ⟨i,σ3,H3,I3,st3,fr3,w3⟩
 rcases turn i n σ3 H3 w3 with ⟨stop,qn⟩ | ⟨go,N,hN,step⟩
 ·refine wpAny_passesOwn hp (d7 (T.done X rfl rfl rfl hc i pins s3 σ3 H3 X.xe I3 (stat fr3) st3 stop) fun r s4 qq0=>?_)
  obtain ⟨hr,I4⟩:=qq0
  subst hr
  exact wpAny_execs_nil ⟨σ3,H3,I4,qn⟩
 ·refine wpAny_passesOwn hp (d7 (T.item X rfl rfl rfl hc i pins s3 σ3 H3 X.xe I3 (stat fr3) st3 go) fun r s4 qq0=>?_)
  obtain ⟨u,hr,h4⟩:=qq0
  subst hr
  refine wpAny_passesOwn hp (d7 h4 fun _ s5 qq0=>?_)
  obtain ⟨x,H5,I5,r5,y5,st5,fr5⟩:=qq0
  have I5':=I5.pinned (stat fr5) (T.obj _ _ st5)
  refine wpAny_passesOwn hp (d7 (hg _ s5 σ3 H5 x u _ I5' r5 (step x H5 y5)) fun _ s6 qq0=>?_)
  obtain ⟨σ6,H6,I6,q6⟩:=qq0
  refine wpAny_passesOwn hp (d7 (hb _ s6 σ6 H6 _ I6 q6) fun f s7 q7=>?_)
  have again:∀ {σ7:St} {H7:Hp},Inv X (pins ++ rT fp s5.heap) σ7 H7 s7->N σ7 H7->∃ m,m < n/\∃ i U' H',Inv X pins U' H' s7/\tn i s7.heap/\(∀ b∈fp,H' b=none)/\W i m U' H':=fun {σ7 H7} I7 n7=>by
   obtain ⟨m',hm,w7⟩:=hN σ7 H7 n7
   refine ⟨m',hm,i+1,σ7,H7,I7.unpinned,T.keep _ _ _ st5 fun b hb o e=>(I7.pin (b,o) (List.mem_append_right _ (List.mem_append_right _ (lY hb e)))).1,fun b hb=>?_,w7⟩
   obtain ⟨o,e,d⟩:=T.obj _ _ st5 b hb
   exact (I7.pin (b,o) (List.mem_append_right _ (List.mem_append_right _ (lY hb e)))).2.1
  cases f with
  | next=>obtain ⟨σ7,H7,I7,n7⟩:=q7;exact again I7 n7
  | cont=>obtain ⟨σ7,H7,I7,n7⟩:=q7;exact again I7 n7
  | brk=>obtain ⟨σ7,H7,I7,q7⟩:=q7;exact ⟨σ7,H7,I7.unpinned,q7⟩
  | ret v=>obtain ⟨x7,σ7,H7,I7,r7,q7⟩:=q7;exact ⟨x7,σ7,H7,I7.unpinned,r7,q7⟩
end
theorem eZ {K:W.Frag} {a:Addr} {xs:List V} {g:TG} {tb:TS} {D:Ends} {U:St} {H:Hp} (Pv:Nat->St->Hp->Prop) (h0:Pv 0 U H) (hl:∀ i U H,i<=xs.length->Pv i U H->SqL K H a xs)
  (hs:∀ i x U H,xs[i]?=some x->Pv i U H->g x U H fun σ2 H2=>tb {D with nx:=Pv (i+1),ct:=Pv (i+1),bk:=D.nx} σ2 H2) (hd:∀ U H,Pv xs.length U H->D.nx U H):
  ∃ W:Nat->Nat->St->Hp->Prop,(∃ m,W 0 m U H)/\∀ i m U H,W i m U H->
   ((QS K a).stop i H/\D.nx U H)\/((QS K a).go i H/\∃ N:St->Hp->Prop,(∀ U' H',N U' H'->∃ m',m' < m/\W (i+1) m' U' H')/\∀ x H',(QS K a).yld i H x H'->g x U H' fun σ2 H2=>tb {D with nx:=N,ct:=N,bk:=D.nx} σ2 H2):=by
 refine ⟨fun i m U H=>m=xs.length - i/\i<=xs.length/\Pv i U H,⟨xs.length,by simp,Nat.zero_le _,h0⟩,?_⟩
 rintro i m U H ⟨rfl,hi,p⟩
 have q:=hl i U H hi p
 by_cases hlt:i < xs.length
 ·refine .inr ⟨⟨xs,xs[i],q,by simp [hlt]⟩,Pv (i+1),fun U' H' p'=>⟨xs.length - (i+1),by omega,rfl,hlt,p'⟩,fun x H' y=>?_⟩
  obtain ⟨e,y⟩:=y
  subst e
  exact hs i x U _ (y xs q) p
 ·have e:i=xs.length:=by omega
  subst e
  exact .inl ⟨⟨xs,q,Nat.le_refl _⟩,hd U H p⟩
theorem rW {lo:Int} {n:Nat} {g:TG} {tb:TS} {D:Ends} {U:St} {H:Hp} (Pv:Nat->St->Hp->Prop) (h0:Pv 0 U H)
  (hs:∀ i U H,i < n->Pv i U H->g (.int (lo+i)) U H fun σ2 H2=>tb {D with nx:=Pv (i+1),ct:=Pv (i+1),bk:=D.nx} σ2 H2) (hd:∀ U H,Pv n U H->D.nx U H):
  ∃ W:Nat->Nat->St->Hp->Prop,(∃ m,W 0 m U H)/\∀ i m U H,W i m U H->
   ((O7 lo n).stop i H/\D.nx U H)\/((O7 lo n).go i H/\∃ N:St->Hp->Prop,(∀ U' H',N U' H'->∃ m',m' < m/\W (i+1) m' U' H')/\∀ x H',(O7 lo n).yld i H x H'->g x U H' fun σ2 H2=>tb {D with nx:=N,ct:=N,bk:=D.nx} σ2 H2):=by
 refine ⟨fun i m U H=>m=n - i/\i<=n/\Pv i U H,⟨n,by simp,Nat.zero_le _,h0⟩,?_⟩
 rintro i m U H ⟨rfl,hi,p⟩
 by_cases hlt:i < n
 ·refine .inr ⟨hlt,Pv (i+1),fun U' H' p'=>⟨n - (i+1),by omega,rfl,hlt,p'⟩,fun x H' y=>?_⟩
  obtain ⟨e,y⟩:=y
  subst e y
  exact hs i U _ hlt p
 ·have e:i=n:=by omega
  subst e
  exact .inl ⟨Nat.le_refl _,hd U H p⟩
theorem GZ {c:TT} {tb:TS} {D:Ends} {U:St} {H:Hp} (Pv:St->Hp->Prop) (μ:St->Hp->Nat) (h0:Pv U H)
  (hs:∀ U H,Pv U H->c U H fun b H1=>if b=true then tb {D with nx:=fun U' H'=>Pv U' H'/\μ U' H' < μ U H,ct:=fun U' H'=>Pv U' H'/\μ U' H' < μ U H,bk:=D.nx} U H1 else D.nx U H1)
  (mono:∀ U H Q Q',(∀ b H1,Q b H1->Q' b H1)->c U H Q->c U H Q'):Ao c tb D U H:=by
 refine ⟨fun m U H=>m=μ U H/\Pv U H,⟨_,rfl,h0⟩,?_⟩
 rintro m U H ⟨rfl,p⟩
 refine mono U H _ _ (fun b H1 q=>?_) (hs U H p)
 cases b with
 | true=>exact ⟨_,fun U' H' ⟨p',l⟩=>⟨_,l,rfl,p'⟩,q⟩
 | false=>exact q
abbrev R2:=V->V->Hp->VK->Prop
def OpR (X:Cx) (f:Value->Value->Sem Value) (r:R2):Prop:=
 ∀ (pins:List (Addr×Obj)) (s:Shared) (U:St) (H:Hp) (x y:V) (v u:Value) (Q:VK),Inv X pins U H s->RelV x v->RelV y u->r x y H Q->
  wpAny (model X.prog X.w) X.A (f v u) (EP X pins U Q) X.xe s
def Y4 (X:Cx) (f:Value->Sem Value) (r:V->Hp->VK->Prop):Prop:=
 ∀ (pins:List (Addr×Obj)) (s:Shared) (U:St) (H:Hp) (x:V) (v:Value) (Q:VK),Inv X pins U H s->RelV x v->r x H Q->
  wpAny (model X.prog X.w) X.A (f v) (EP X pins U Q) X.xe s
def CallR (X:Cx) (f:Value) (r:List V->Hp->VK->Prop):Prop:=
 ∀ (pins:List (Addr×Obj)) (s:Shared) (U:St) (H:Hp) (xs:List V) (us:List Value) (Q:VK),Inv X pins U H s->Vals xs us->r xs H Q->
  wpAny (model X.prog X.w) X.A (call f us) (EP X pins U Q) X.xe s
def Ha (r:R2) (ta tb:TE):TE:=fun U H Q=>ta U H fun x H1=>tb U H1 fun y H2=>r x y H2 Q
def tUn (r:V->Hp->VK->Prop) (ta:TE):TE:=fun U H Q=>ta U H fun x H1=>r x H1 Q
def rI (C:Int->Int->Prop) (g:Int->Int->V):R2:=fun x y H Q=>∃ i j,x= .int i/\y= .int j/\C i j/\Q (g i j) H
def K6 (g:Int->Int->V):R2:=fun x y H Q=>∃ i j,x= .int i/\y= .int j/\Q (g i j) H
def rU (g:Int->V):V->Hp->VK->Prop:=fun x H Q=>∃ i,x= .int i/\Q (g i) H
section
variable {X:Cx} {a b c:Expr} {ta tb tc:TE} {pos:Pos}
theorem QV (ha:PE X a ta) (hb:PE X b tb) {pins:List (Addr×Obj)} {s:Shared} {U:St} {H:Hp} {R:V->V->Hp->Prop} (I:Inv X pins U H s)
  (h:ta U H fun x H1=>tb U H1 fun y H2=>R x y H2) {Q:Value->Shared->Prop} {f:Value->Value->Sem Value}
  (hf:∀ v u s2 x y H2,Inv X pins U H2 s2->RelV x v->RelV y u->R x y H2->wpAny (model X.prog X.w) X.A (f v u) Q X.xe s2):
  wpAny (model X.prog X.w) X.A (eval a X.env) (fun v s₁=>wpAny (model X.prog X.w) X.A (eval b X.env) (fun u s₂=>wpAny (model X.prog X.w) X.A (f v u) Q X.xe s₂) X.xe s₁) X.xe s:=by
 refine d7 (ha pins s U H _ I h) fun v s1 qq0=>?_
 obtain ⟨x,H1,I1,r1,q1⟩:=qq0
 refine d7 (hb pins s1 U H1 _ I1 q1) fun u s2 qq0=>?_
 obtain ⟨y,H2,I2,r2,q2⟩:=qq0
 exact hf v u s2 x y H2 I2 r1 r2 q2
theorem VH {op:Operator} {r:R2} (ho:OpR X (binaryOp op) r) (ha:PE X a ta) (hb:PE X b tb):PE X (.BinOp a op b pos) (Ha r ta tb):=by
 intro pins s U H Q I h
 exact wpAny_BinOp (QV ha hb I h fun v u s2 x y H2 I2 rx ry q=>ho pins s2 U H2 x y v u Q I2 rx ry q)
theorem VJ {op:UnaryOp} {r:V->Hp->VK->Prop} (ho:Y4 X (unaryOp op) r) (ha:PE X a ta):PE X (.UnaryOp op a pos) (tUn r ta):=by
 intro pins s U H Q I h
 exact UnaryOp_ (d7 (ha pins s U H _ I h) fun v s1 ⟨x,H1,I1,r1,q1⟩=>ho pins s1 U H1 x v Q I1 r1 q1)
theorem Y5 {f:Value->Value->Sem Value} {C:Int->Int->Prop} {g:Int->Int->Int}
  (rule:∀ (i j:Int) (t u:Tok) (s:Shared) (Q:Value->Shared->Prop) (E:Value->Shared->Prop),C i j->Q (.int (g i j) s.toks) {s with toks:=s.toks+1}->wpAny (model X.prog X.w) X.A (f (.int i t) (.int j u)) Q E s):
  OpR X f (rI C fun i j=>.int (g i j)):=by
 intro pins s U H x y v u Q I rx ry h
 obtain ⟨i,j,rfl,rfl,hc,q⟩:=h
 obtain ⟨t,rfl⟩:=rx
 obtain ⟨t',rfl⟩:=ry
 exact rule i j t t' s _ _ hc ⟨.int (g i j),H,I.tok _,⟨_,rfl⟩,q⟩
theorem QW {f:Value->Value->Sem Value} {g:Int->Int->Int}
  (rule:∀ (i j:Int) (t u:Tok) (s:Shared) (Q:Value->Shared->Prop) (E:Value->Shared->Prop),Q (.int (g i j) s.toks) {s with toks:=s.toks+1}->wpAny (model X.prog X.w) X.A (f (.int i t) (.int j u)) Q E s):
  OpR X f (K6 fun i j=>.int (g i j)):=by
 intro pins s U H x y v u Q I rx ry h
 obtain ⟨i,j,rfl,rfl,q⟩:=h
 obtain ⟨t,rfl⟩:=rx
 obtain ⟨t',rfl⟩:=ry
 exact rule i j t t' s _ _ ⟨.int (g i j),H,I.tok _,⟨_,rfl⟩,q⟩
theorem QX {f:Value->Value->Sem Value} {g:Int->Int->Bool}
  (rule:∀ (i j:Int) (t u:Tok) (s:Shared) (Q:Value->Shared->Prop) (E:Value->Shared->Prop),Q (.bool (g i j)) s->wpAny (model X.prog X.w) X.A (f (.int i t) (.int j u)) Q E s):
  OpR X f (K6 fun i j=>.bl (g i j)):=by
 intro pins s U H x y v u Q I rx ry h
 obtain ⟨i,j,rfl,rfl,q⟩:=h
 obtain ⟨t,rfl⟩:=rx
 obtain ⟨t',rfl⟩:=ry
 exact rule i j t t' s _ _ ⟨.bl (g i j),H,I,rfl,q⟩
def CDiv (i j:Int):Prop:=0 < j/\j < 1073741824
def CPow (i j:Int):Prop:=0<=j/\j<=1000000/\i.natAbs < 2 ^ 64
def CMul (i j:Int):Prop:=(-(2 ^ 64) < i/\i < 2 ^ 64)\/(-(2 ^ 64) < j/\j < 2 ^ 64)
theorem CMul.ok {i j:Int} (h:CMul i j):IntMulOk i j:=by
 rcases h with ⟨h1,h2⟩ | ⟨h1,h2⟩
 ·exact .of_left (intBits_le_64 h1 h2)
 ·exact .of_right (intBits_le_64 h1 h2)
theorem QZ:OpR X (binaryOp .Add) (K6 fun i j=>.int (i+j)):=QW fun _ _ _ _ _ _ _ q=>add_int q
theorem lG:OpR X (binaryOp .Sub) (K6 fun i j=>.int (i - j)):=QW fun _ _ _ _ _ _ _ q=>sub_int q
theorem Q0:OpR X (binaryOp .Mult) (rI CMul fun i j=>.int (i*j)):=Y5 fun _ _ _ _ _ _ _ hc q=>mul_int q hc.ok
theorem Cg:OpR X (binaryOp .FloorDiv) (rI CDiv fun i j=>.int (i / j)):=Y5 fun i j _ _ _ _ _ hc q=>by
 have h1:(0:Int) < j:=hc.1
 have h2:j < 1073741824:=hc.2
 exact floordiv_int (by omega) (by rw [Int.fdiv_eq_ediv_of_nonneg i (by omega)];exact q) (.inl (PyProof.noPylong_small (by omega)))
theorem nR:OpR X (binaryOp .Mod) (rI (fun _ j=>0 < j) fun i j=>.int (i % j)):=Y5 fun i j _ _ _ _ _ hc q=>by
 have h1:(0:Int) < j:=hc
 exact mod_int' (by omega) (by rw [Int.fmod_eq_emod_of_nonneg i (by omega)];exact q)
theorem Hb:OpR X (binaryOp .Pow) (rI CPow fun i j=>.int (i ^ j.toNat)):=Y5 fun _ _ _ _ _ _ _ hc q=>pow_int_small hc.1 hc.2.1 hc.2.2 q
theorem uG:OpR X (inplaceOp .Sub) (K6 fun i j=>.int (i - j)):=QW fun _ _ _ _ _ _ _ q=>isub_int q
theorem unI {f:Value->Sem Value} {g:Int->Int}
  (rule:∀ (i:Int) (t:Tok) (s:Shared) (Q:Value->Shared->Prop) (E:Value->Shared->Prop),Q (.int (g i) s.toks) {s with toks:=s.toks+1}->wpAny (model X.prog X.w) X.A (f (.int i t)) Q E s):
  Y4 X f (rU fun i=>.int (g i)):=by
 intro pins s U H x v Q I rx h
 obtain ⟨i,rfl,q⟩:=h
 obtain ⟨t,rfl⟩:=rx
 exact rule i t s _ _ ⟨.int (g i),H,I.tok _,⟨_,rfl⟩,q⟩
theorem lH:Y4 X (unaryOp .USub) (rU fun i=>.int (-i)):=unI fun _ _ _ _ _ q=>neg_int q
end
def VL:V->V->Bool
 | .non,.non=>true | .non,.int _=>true | .int _,.non=>true | .non,.bl _=>true | .bl _,.non=>true | .non,.str _=>true | .str _,.non=>true
 | .int _,.int _=>true | .bl _,.bl _=>true | .str _,.str _=>true | .byt _,.byt _=>true
 | .int _,.str _=>true | .str _,.int _=>true | .bl _,.str _=>true | .str _,.bl _=>true
 | _,_=>false
def rEq:R2:=fun x y H Q=>VL x y=true/\Q (.bl (decide (x=y))) H
def rNe:R2:=fun x y H Q=>VL x y=true/\Q (.bl (!decide (x=y))) H
theorem Ci {i j:Int}:decide (V.int i=V.int j)=(i == j):=by
 rw [Bool.eq_iff_iff]
 simp
theorem Hc {i j:Bool}:decide (V.bl i=V.bl j)=(i == j):=by
 rw [Bool.eq_iff_iff]
 simp
theorem Cj {i j:Str}:decide (V.str i=V.str j)=(i == j):=by
 rw [Bool.eq_iff_iff]
 simp
theorem Ck {i j:Array UInt8}:decide (V.byt i=V.byt j)=(i.toList == j.toList):=by
 rw [Bool.eq_iff_iff]
 cases i
 cases j
 simp
section
variable {X:Cx} {a b c:Expr} {ta tb tc:TE} {pos:Pos}
theorem bW {pins:List (Addr×Obj)} {U:St} {H:Hp} {s:Shared} {Q:VK} {k k':Bool} (I:Inv X pins U H s) (q:Q (.bl k) H) (e:k=k'):EP X pins U Q (.bool k') s:=by
 subst e
 exact ⟨.bl k,H,I,rfl,q⟩
theorem VM:OpR X (compareOp .Eq) rEq:=by
 intro pins s U H x y v u Q I rx ry h
 obtain ⟨hs,q⟩:=h
 cases x with
 | non=>
  cases rx
  cases y with
  | non=>cases ry;exact PySem.EqNone.eq_none_none (bW I q (by simp))
  | bl j=>cases ry;exact PySem.EqNone.eq_none_bool (bW I q (by simp))
  | int j=>obtain ⟨t',rfl⟩:=ry;exact PySem.EqNone.eq_none_int (bW I q (by simp))
  | str j=>obtain ⟨t',rfl⟩:=ry;exact PySem.EqNone.eq_none_str (bW I q (by simp))
  | _=>exact absurd (show false=true from hs) Bool.false_ne_true
 | bl i=>
  cases rx
  cases y with
  | non=>cases ry;exact PySem.EqNone.eq_bool_none (bW I q (by simp))
  | bl j=>cases ry;exact eq_bool (bW I q Hc)
  | str j=>obtain ⟨t',rfl⟩:=ry;exact PySem.EqMixed.eq_bool_str (bW I q (by simp))
  | _=>exact absurd (show false=true from hs) Bool.false_ne_true
 | int i=>
  obtain ⟨t,rfl⟩:=rx
  cases y with
  | non=>cases ry;exact PySem.EqNone.eq_int_none (bW I q (by simp))
  | int j=>obtain ⟨t',rfl⟩:=ry;exact eq_int (bW I q Ci)
  | str j=>obtain ⟨t',rfl⟩:=ry;exact PySem.EqMixed.eq_int_str (bW I q (by simp))
  | _=>exact absurd (show false=true from hs) Bool.false_ne_true
 | str i=>
  obtain ⟨t,rfl⟩:=rx
  cases y with
  | non=>cases ry;exact PySem.EqNone.eq_str_none (bW I q (by simp))
  | bl j=>cases ry;exact PySem.EqMixed.eq_str_bool (bW I q (by simp))
  | int j=>obtain ⟨t',rfl⟩:=ry;exact PySem.EqMixed.eq_str_int (bW I q (by simp))
  | str j=>obtain ⟨t',rfl⟩:=ry;exact eq_str (bW I q Cj)
  | _=>exact absurd (show false=true from hs) Bool.false_ne_true
 | byt i=>
  obtain ⟨t,rfl⟩:=rx
  cases y with
  | byt j=>obtain ⟨t',rfl⟩:=ry;exact PySem.W.eq_bytes (bW I q Ck)
  | _=>exact absurd (show false=true from hs) Bool.false_ne_true
 | _=>cases y <;> exact absurd (show false=true from hs) Bool.false_ne_true
theorem VN:OpR X (compareOp .NotEq) rNe:=by
 intro pins s U H x y v u Q I rx ry h
 obtain ⟨hs,q⟩:=h
 cases x with
 | non=>
  cases rx
  cases y with
  | non=>cases ry;exact PySem.EqNone.ne_none_none (bW I q (by simp))
  | bl j=>cases ry;exact PySem.EqNone.ne_none_bool (bW I q (by simp))
  | int j=>obtain ⟨t',rfl⟩:=ry;exact PySem.EqNone.ne_none_int (bW I q (by simp))
  | str j=>obtain ⟨t',rfl⟩:=ry;exact PySem.EqNone.ne_none_str (bW I q (by simp))
  | _=>exact absurd (show false=true from hs) Bool.false_ne_true
 | bl i=>
  cases rx
  cases y with
  | non=>cases ry;exact PySem.EqNone.ne_bool_none (bW I q (by simp))
  | bl j=>cases ry;exact ne_bool (bW I q (congrArg not Hc))
  | str j=>obtain ⟨t',rfl⟩:=ry;exact PySem.EqMixed.ne_bool_str (bW I q (by simp))
  | _=>exact absurd (show false=true from hs) Bool.false_ne_true
 | int i=>
  obtain ⟨t,rfl⟩:=rx
  cases y with
  | non=>cases ry;exact PySem.EqNone.ne_int_none (bW I q (by simp))
  | int j=>obtain ⟨t',rfl⟩:=ry;exact ne_int (bW I q (congrArg not Ci))
  | str j=>obtain ⟨t',rfl⟩:=ry;exact PySem.EqMixed.ne_int_str (bW I q (by simp))
  | _=>exact absurd (show false=true from hs) Bool.false_ne_true
 | str i=>
  obtain ⟨t,rfl⟩:=rx
  cases y with
  | non=>cases ry;exact PySem.EqNone.ne_str_none (bW I q (by simp))
  | bl j=>cases ry;exact PySem.EqMixed.ne_str_bool (bW I q (by simp))
  | int j=>obtain ⟨t',rfl⟩:=ry;exact PySem.EqMixed.ne_str_int (bW I q (by simp))
  | str j=>obtain ⟨t',rfl⟩:=ry;exact ne_str (bW I q (congrArg not Cj))
  | _=>exact absurd (show false=true from hs) Bool.false_ne_true
 | byt i=>
  obtain ⟨t,rfl⟩:=rx
  cases y with
  | byt j=>obtain ⟨t',rfl⟩:=ry;exact PySem.W.ne_bytes (bW I q (congrArg not Ck))
  | _=>exact absurd (show false=true from hs) Bool.false_ne_true
 | _=>cases y <;> exact absurd (show false=true from hs) Bool.false_ne_true
theorem qJ:OpR X (compareOp .Lt) (K6 fun i j=>.bl (decide (i < j))):=QX fun _ _ _ _ _ _ _ q=>lt_int q
theorem O8:OpR X (compareOp .LtE) (K6 fun i j=>.bl (decide (i<=j))):=QX fun _ _ _ _ _ _ _ q=>le_int q
theorem uU:OpR X (compareOp .Gt) (K6 fun i j=>.bl (decide (j < i))):=QX fun _ _ _ _ _ _ _ q=>gt_int q
theorem Ea:OpR X (compareOp .In) (fun x y H Q=>∃ i j,x= .str i/\y= .str j/\Q (.bl (!(Builtin.Str.occurrences j i 0 j.length 1).isEmpty)) H):=by
 intro pins s U H x y v u Q I rx ry h
 obtain ⟨i,j,rfl,rfl,q⟩:=h
 obtain ⟨t,rfl⟩:=rx
 obtain ⟨t',rfl⟩:=ry
 exact in_str (bW I q rfl)
theorem OpR.or {f:Value->Value->Sem Value} {r r':R2} (h:OpR X f r) (h':OpR X f r'):OpR X f (fun x y H Q=>r x y H Q\/r' x y H Q):=by
 intro pins s U H x y v u Q I rx ry q
 rcases q with q | q
 ·exact h pins s U H x y v u Q I rx ry q
 ·exact h' pins s U H x y v u Q I rx ry q
theorem aP (b:Expr) {op:CmpOp} (h:autoParam (op≠.In) L2.auto2._auto_1) (h2:autoParam (op≠.NotIn) L2.auto2._auto_1):behindInMarks op b=false:=by
 have e1:(op == CmpOp.In)=false:=by cases op <;> first | rfl | exact absurd rfl h
 have e2:(op == CmpOp.NotIn)=false:=by cases op <;> first | rfl | exact absurd rfl h2
 cases b <;> simp [behindInMarks,e1,e2]
theorem Ln {op:CmpOp} {r:R2} (ho:OpR X (compareOp op) r) (ha:PE X a ta) (hb:PE X b tb) (hm:behindInMarks op b=false):PE X (.Compare a [op] [b] pos) (Ha r ta tb):=by
 intro pins s U H Q I h
 exact wpAny_Compare1 (QV ha hb I h fun v u s2 x y H2 I2 rx ry q=>ho pins s2 U H2 x y v u Q I2 rx ry q) hm
def wJ (t:TE):TT:=fun U H Q=>t U H fun x H'=>∃ k,x= .bl k/\Q k H'
theorem Lp {op:CmpOp} {r:R2} (ho:OpR X (compareOp op) r) (ha:PE X a ta) (hb:PE X b tb) (hm:behindInMarks op b=false):PT X (.Compare a [op] [b] pos) (wJ (Ha r ta tb)):=by
 intro pins s U H Q I h
 refine wpAny_isTrue_Compare1 (d7 (ha pins s U H _ I h) fun v s1 ⟨x,H1,I1,r1,q1⟩=>d7 (hb pins s1 U H1 _ I1 q1) fun u s2 ⟨y,H2,I2,r2,q2⟩=>
  d7 (ho pins s2 U H2 x y v u _ I2 r1 r2 q2) fun c s3 ⟨z,H3,I3,r3,k,e,q3⟩=>?_) hm
 subst e
 cases r3
 exact wpAny_truthy_bool ⟨H3,I3,q3⟩
def uV (r r':R2) (ta tb tc:TE):TE:=fun U H Q=>ta U H fun x H1=>tb U H1 fun y H2=>r x y H2 fun z H3=>∃ k,z= .bl k/\
 (if k=true then tc U H3 fun w' H4=>r' y w' H4 Q else Q (.bl false) H3)
theorem Hd {op op':CmpOp} {r r':R2} (ho:OpR X (compareOp op) r) (ho':OpR X (compareOp op') r') (ha:PE X a ta) (hb:PE X b tb) (hc:PE X c tc)
  (hm:autoParam (lastMarks [op,op'] [b,c]=false) L2.auto5._auto_1):PE X (.Compare a [op,op'] [b,c] pos) (uV r r' ta tb tc):=by
 intro pins s U H Q I h
 refine Compare_chain (d7 (ha pins s U H _ I h) fun v s1 ⟨x,H1,I1,r1,q1⟩=>chain_link (d7 (hb pins s1 U H1 _ I1 q1) fun u s2 ⟨y,H2,I2,r2,q2⟩=>
  d7 (ho pins s2 U H2 x y v u _ I2 r1 r2 q2) fun d s3 ⟨z,H3,I3,r3,k,e,q3⟩=>?_)) hm
 subst e
 cases r3
 refine wpAny_truthy_bool ?_
 cases k with
 | false=>exact ite_ff ⟨.bl false,H3,I3,rfl,q3⟩
 | true=>exact ite_tt (chain_last (d7 (hc pins s3 U H3 _ I3 q3) fun w' s4 ⟨z',H4,I4,r4,q4⟩=>ho' pins s4 U H4 y z' u w' Q I4 r2 r4 q4))
theorem Hf {op op':CmpOp} {r r':R2} (ho:OpR X (compareOp op) r) (ho':OpR X (compareOp op') r') (ha:PE X a ta) (hb:PE X b tb) (hc:PE X c tc)
  (hm:autoParam (lastMarks [op,op'] [b,c]=false) L2.auto5._auto_1):PT X (.Compare a [op,op'] [b,c] pos) (wJ (uV r r' ta tb tc)):=by
 intro pins s U H Q I h
 refine isTrue_chain (d7 (ha pins s U H _ I h) fun v s1 ⟨x,H1,I1,r1,q1⟩=>test_link (d7 (hb pins s1 U H1 _ I1 q1) fun u s2 ⟨y,H2,I2,r2,q2⟩=>
  d7 (ho pins s2 U H2 x y v u _ I2 r1 r2 q2) fun d s3 ⟨z,H3,I3,r3,k,e,q3⟩=>?_)) hm
 subst e
 cases r3
 refine wpAny_truthy_bool ?_
 cases k with
 | false=>
  obtain ⟨k',e',q'⟩:=q3
  cases e'
  exact ite_ff ⟨H3,I3,q'⟩
 | true=>
  refine ite_tt (test_last (d7 (hc pins s3 U H3 _ I3 q3) fun w' s4 ⟨z',H4,I4,r4,q4⟩=>d7 (ho' pins s4 U H4 y z' u w' _ I4 r2 r4 q4) fun d' s5 qq0=>?_))
  obtain ⟨z2,H5,I5,r5,k2,e2,q5⟩:=qq0
  subst e2
  cases r5
  exact wpAny_truthy_bool ⟨H5,I5,q5⟩
theorem uW:(sizeLine:Nat) < 2 ^ 63:=by rw [sizeLine_eq];decide
theorem Av:OpR X (binaryOp .Add) (fun x y H Q=>∃ i j,x= .str i/\y= .str j/\i.length+j.length<=sizeLine/\Q (.str (i ++ j)) H):=by
 intro pins s U H x y v u Q I rx ry h
 obtain ⟨i,j,rfl,rfl,hz,q⟩:=h
 obtain ⟨t,rfl⟩:=rx
 obtain ⟨t',rfl⟩:=ry
 exact add_str (fun t' tk=>⟨.str (i ++ j),H,I.tok _,⟨_,rfl⟩,q⟩) hz
theorem vals1 {x:V} {us:List Value} (r:Vals [x] us):∃ u,us=[u]/\RelV x u:=by
 cases r with
 | cons r1 r2=>cases r2;exact ⟨_,rfl,r1⟩
theorem vals2 {x y:V} {us:List Value} (r:Vals [x,y] us):∃ u w',us=[u,w']/\RelV x u/\RelV y w':=by
 cases r with
 | cons r1 r2=>
  cases r2 with
  | cons r3 r4=>cases r4;exact ⟨_,_,rfl,r1,r3⟩
theorem lR (hc:X.calm=true):CallR X (.builtin "max") (fun xs H Q=>∃ i j,xs=[.int i,.int j]/\Q (.int (if j > i then j else i)) H):=by
 intro pins s U H xs us Q I r h
 obtain ⟨i,j,rfl,q⟩:=h
 obtain ⟨u,w',rfl,⟨t,rfl⟩,⟨t',rfl⟩⟩:=vals2 r
 refine max_two_ints (I.ok.hd hc) fun h' tk k=>⟨_,H,I.kept k,?_,q⟩
 by_cases hj:j > i
 ·rw [if_pos hj,if_pos hj];exact ⟨_,rfl⟩
 ·rw [if_neg hj,if_neg hj];exact ⟨_,rfl⟩
theorem Eb (hc:X.calm=true):CallR X (.builtin "min") (fun xs H Q=>∃ i j,xs=[.int i,.int j]/\Q (.int (if j < i then j else i)) H):=by
 intro pins s U H xs us Q I r h
 obtain ⟨i,j,rfl,q⟩:=h
 obtain ⟨u,w',rfl,⟨t,rfl⟩,⟨t',rfl⟩⟩:=vals2 r
 refine min_two_ints (I.ok.hd hc) fun h' tk k=>⟨_,H,I.kept k,?_,q⟩
 by_cases hj:j < i
 ·rw [if_pos hj,if_pos hj];exact ⟨_,rfl⟩
 ·rw [if_neg hj,if_neg hj];exact ⟨_,rfl⟩
def VP (K:W.Frag) (x:V) (H:Hp) (n:Nat):Prop:=
 match x with
 | .str y=>y.length<=sizeLine/\n=y.length
 | .byt y=>y.size<=sizeLine/\n=y.size
 | .ref p=>(∃ xs,SqL K H p xs/\n=xs.length)\/∃ xs,SqT K H p xs/\n=xs.length
 | _=>False
theorem Hg:CallR X (.builtin "len") (fun xs H Q=>∃ x n,xs=[x]/\VP X.K x H n/\Q (.int n) H):=by
 intro pins s U H xs us Q I r h
 obtain ⟨x,n,rfl,e,q⟩:=h
 obtain ⟨u,rfl,rx⟩:=vals1 r
 have hl:=uW
 have hs:sizeLine=16777216:=sizeLine_eq
 cases x with
 | str y=>
  obtain ⟨t,rfl⟩:=rx
  obtain ⟨hy,e'⟩:y.length<=sizeLine/\n=y.length:=e
  subst e'
  exact len_str (by omega) ⟨.int _,H,I.tok _,⟨_,rfl⟩,q⟩
 | byt y=>
  obtain ⟨t,rfl⟩:=rx
  obtain ⟨hy,e'⟩:y.size<=sizeLine/\n=y.size:=e
  subst e'
  exact PySem.W.len_bytes (by omega) ⟨.int _,H,I.tok _,⟨_,rfl⟩,q⟩
 | ref p=>
  cases rx
  have e':(∃ xs,SqL X.K H p xs/\n=xs.length)\/∃ xs,SqT X.K H p xs/\n=xs.length:=e
  rcases e' with ⟨xs,hx,e'⟩ | ⟨xs,hx,e'⟩
  ·subst e'
   obtain ⟨its,r',pl,hz⟩:=I.list hx
   have hlen:=r'.length
   exact Calls.call_len_list pl.isList (by simp only [List.size_toArray];omega) ⟨.int xs.length,H,I.tok _,⟨_,by simp only [List.size_toArray];rw [hlen]⟩,q⟩
  ·subst e'
   obtain ⟨its,r',pl,hz⟩:=I.tuple hx
   have hlen:=r'.length
   exact len_tuple pl (by simp only [List.size_toArray];omega) ⟨.int xs.length,H,I.tok _,⟨_,by simp only [List.size_toArray];rw [hlen]⟩,q⟩
 | _=>exact (show False from e).elim
end
structure ObjM (h:Heap) (x dx C:Addr) (mA:Str->Option Value):Prop where
 obj:h.get? x=some (PySem.W.instObj C dx)
 ns:h.Ns1 dx mA
 ne:dx≠x
theorem Ec {h:Heap} {dx:Addr} {mA:Str->Option Value} (n:h.Ns1 dx mA):∃ od,h.get? dx=some od/\∀ name,PySem.W.lookIn name od=some (mA name):=by
 obtain ⟨o,es,ep,ho,hd,hk,_,hm⟩:=n
 refine ⟨o,ho,fun name=>?_⟩
 have e:=hm name
 unfold nsFind findBy at e
 rw [← Array.find?_toList] at e
 unfold PySem.W.lookIn
 rw [hd]
 dsimp only
 split
 ·rename_i y q
  rw [q] at e
  exact congrArg some e
 ·rename_i q
  rw [q] at e
  have a:es.toList.any (·.refKey)=false:=by
   rw [List.any_eq_false]
   intro y hy
   obtain ⟨z,t,hkey⟩:=hk y (Array.mem_toList_iff.mp hy)
   simp [DictEntry.refKey,hkey]
  have a':¬ es.toList.any (·.refKey)=true:=by rw [a];exact Bool.false_ne_true
  rw [if_neg a']
  exact congrArg some e
theorem ObjM.look {h:Heap} {x dx C:Addr} {mA:Str->Option Value} (I:ObjM h x dx C mA):∃ od,PySem.W.InstAt h x (PySem.W.instObj C dx) C (some od)/\∀ name,PySem.W.lookIn name od=some (mA name):=
 let ⟨od,ho,hl⟩:=Ec I.ns
 ⟨od,⟨I.obj,rfl,rfl,ho⟩,hl⟩
def Ed (f:Str) (v:V):List (Str×V)->List (Str×V)
 | []=>[(f,v)]
 | (g,x) :: r=>if g=f then (g,v) :: r else (g,x) :: Ed f v r
theorem tQ (f g:Str) (v:V):∀ fs:List (Str×V),(Ed f v fs).lookup g=if g=f then some v else fs.lookup g
 | []=>by
  show List.lookup g [(f,v)]=_
  by_cases h:g=f
  ·have hb:(g == f)=true:=beq_iff_eq.mpr h
   simp only [List.lookup,hb,if_pos h]
  ·have hb:(g == f)=false:=beq_eq_false_iff_ne.mpr h
   simp only [List.lookup,hb,if_neg h]
 | (k,x) :: r=>by
  have ih:=tQ f g v r
  rw [show Ed f v ((k,x) :: r)=(if k=f then (k,v) :: r else (k,x) :: Ed f v r) from rfl]
  by_cases hk:k=f
  ·rw [if_pos hk]
   by_cases h:g=k
   ·have hb:(g == k)=true:=beq_iff_eq.mpr h
    simp only [List.lookup,hb,if_pos (h.trans hk)]
   ·have hb:(g == k)=false:=beq_eq_false_iff_ne.mpr h
    simp only [List.lookup,hb,if_neg (fun e:g=f=>h (e.trans hk.symm))]
  ·rw [if_neg hk]
   by_cases h:g=k
   ·have hb:(g == k)=true:=beq_iff_eq.mpr h
    simp only [List.lookup,hb,if_neg (fun e:g=f=>hk (h.symm.trans e))]
   ·have hb:(g == k)=false:=beq_eq_false_iff_ne.mpr h
    simp only [List.lookup,hb]
    exact ih
theorem RelO.none_of {o:Option Value} (r:RelO none o):o=none:=by
 cases o with
 | none=>rfl
 | some u=>exact (show False from r).elim
section
variable {P:Program} {w:World} {H H':Hp} {h h':Heap} {a C dx:Addr} {fs fs':List (Str×V)}
theorem Lq (hok:HOk P w H h) (e:H a=some (.ins C dx fs)):∃ mA,ObjM h a dx C mA/\(∀ f,RelO (fs.lookup f) (mA f))/\PySem.Within mA (fs.map (·.1))/\fs.length<=1000/\H dx=some (.own a):=by
 obtain ⟨d,z,ne,ob,mA,n,r,q⟩:=(show ObjOk P w H h a (.ins C dx fs) from hok a _ e)
 exact ⟨mA,⟨ob,n,ne⟩,r,q,z,d⟩
end
structure Cls (K:W.Frag) (C:Addr):Prop where
 pg:PySem.W.plainGet K C Str.empty=true
 hd:PySem.W.hasDictIn K C=true
 po:PySem.W.plainOver K C=true
 sa:PySem.W.findIn K (.ref C) "__setattr__"=some (some (.builtin "object.__setattr__"))
theorem Cls.get {K:W.Frag} {C:Addr} (c:Cls K C) (f:Str):PySem.W.plainGet K C f=true:=c.pg
def p7 (K:W.Frag) (C:Addr) (f:Str):Prop:=PySem.W.findIn K (.ref C) f=some none
structure Con (K:W.Frag) (C:Addr) (f:Str) (v:V) (u:Value):Prop where
 at_:PySem.W.findIn K (.ref C) f=some (some u)
 rel:RelV v u
 get:PySem.W.specialIn K u "__get__"=some none
 cp:PySem.W.copiedNames.contains f=false
structure Meth (K:W.Frag) (C:Addr) (m:Str) (f:Addr):Prop where
 at_:PySem.W.findIn K (.ref C) m=some (some (.ref f))
 fn:PySem.W.isFn K (.ref f)=true
 kp:PySem.W.keepIn K (.ref f)=true
section
variable {X:Cx} {pins:List (Addr×Obj)} {U:St} {H:Hp} {s:Shared} {A:Around} {E:Value->Shared->Prop} {Q:Value->Shared->Prop} {c:Value} {b:Bool}
inductive nU (K:W.Frag) (H:Hp):V->Value->Prop where
 | non:nU K H .non (.type "NoneType")
 | bl (x:Bool):nU K H (.bl x) (.type "bool")
 | int (i:Int):nU K H (.int i) (.type "int")
 | str (x:Str):nU K H (.str x) (.type "str")
 | flt (x:UInt64):nU K H (.flt x) (.type "float")
 | lst {a:Addr} {xs:List V} (e:H a=some (.lst xs)):nU K H (.ref a) (.type "list")
 | frz {a:Addr} {o:Obj} {xs:List V} (e:H a=some (.frz o (.lst xs))):nU K H (.ref a) (.type "list")
 | tup {a:Addr} {xs:List V} (e:H a=some (.tup xs)):nU K H (.ref a) (.type "tuple")
 | dK {a:Addr} {kvs:List (Key×V)} (e:H a=some (.dK kvs)):nU K H (.ref a) (.type "dict")
 | dT {a:Addr} {kvs:List (List Key×V)} (e:H a=some (.dT kvs)):nU K H (.ref a) (.type "dict")
 | ins {a C dx:Addr} {fs:List (Str×V)} (e:H a=some (.ins C dx fs)) (cl:Cls K C) (ha:PySem.W.findIn K (.ref C) "__class__"=some (some (.builtin "object.__class__")))
   (hn:PySem.W.specialIn K (.builtin "object.__class__") "__get__"=some (some (.builtin "getset_descriptor.__get__"))) (htk:PySem.W.takesIn K (.builtin "object.__class__")=some true)
   (hm:PySem.W.mroIn K C (.type "object")=some true):nU K H (.ref a) (.ref C)
theorem Ef {x:V} {u t:Value} (I:Inv X pins U H s) (rx:RelV x u) (ty:nU X.K H x t) (e:PySem.W.kitOne X.K t c=some b) (h:∀ tk,Q (.bool b) {s with toks:=tk}):
  wpAny (model X.prog X.w) A (call (.builtin "isinstance") [u,c]) Q E s:=by
 cases ty with
 | non=>cases (show u=Value.none from rx);exact PySem.W.kia_one PySem.W.kitx_none I.kIn True.intro e (fun z=>nomatch z) h
 | bl y=>cases (show u=Value.bool y from rx);exact PySem.W.kia_one PySem.W.kitx_bool I.kIn True.intro e (fun z=>nomatch z) h
 | int i=>obtain ⟨t,q⟩:=(show ∃ t,u=Value.int i t from rx);cases q;exact PySem.W.kia_one PySem.W.kitx_int I.kIn True.intro e (fun z=>nomatch z) h
 | str y=>obtain ⟨t,q⟩:=(show ∃ t,u=Value.str y t from rx);cases q;exact PySem.W.kia_one PySem.W.kitx_str I.kIn True.intro e (fun z=>nomatch z) h
 | flt y=>obtain ⟨t,q⟩:=(show ∃ t,u=Value.float y t from rx);cases q;exact PySem.W.kia_one PySem.W.kitx_float I.kIn True.intro e (fun z=>nomatch z) h
 | @lst a xs ea=>
  cases (show u=Value.ref a from rx)
  obtain ⟨_,_,n,_,h1⟩:=(show ObjOk X.prog X.w H s.heap a (.lst xs) from I.hok a _ ea)
  exact PySem.W.kia_one PySem.W.kitx_list I.kIn ⟨_,h1,rfl⟩ e (fun z=>nomatch z) h
 | @frz a ob xs ea=>
  cases (show u=Value.ref a from rx)
  obtain ⟨_,_,_,n,_,h1⟩:=(show ObjOk X.prog X.w H s.heap a (.frz ob (.lst xs)) from I.hok a _ ea)
  exact PySem.W.kia_one PySem.W.kitx_list I.kIn ⟨_,h1,rfl⟩ e (fun z=>nomatch z) h
 | @tup a xs ea=>
  cases (show u=Value.ref a from rx)
  obtain ⟨_,_,_,p⟩:=(show ObjOk X.prog X.w H s.heap a (.tup xs) from I.hok a _ ea)
  obtain ⟨o,h1,h2,_⟩:=p
  exact PySem.W.kia_one PySem.W.kitx_tuple I.kIn ⟨o,h1,h2⟩ e (fun z=>nomatch z) h
 | @dK a kvs ea=>
  cases (show u=Value.ref a from rx)
  obtain ⟨_,_,vs,_,p⟩:=(show ObjOk X.prog X.w H s.heap a (.dK kvs) from I.hok a _ ea)
  obtain ⟨o,es,ep,h1,h2,_⟩:=p
  exact PySem.W.kia_one PySem.W.kitx_dict I.kIn ⟨o,h1,h2.1⟩ e (fun z=>nomatch z) h
 | @dT a kvs ea=>
  cases (show u=Value.ref a from rx)
  obtain ⟨_,_,xs,_,o,es,ep,h1,h2,_⟩:=(show ObjOk X.prog X.w H s.heap a (.dT kvs) from I.hok a _ ea)
  exact PySem.W.kia_one PySem.W.kitx_dict I.kIn ⟨o,h1,h2.1⟩ e (fun z=>nomatch z) h
 | @ins a C dx fs ea cl ha hn htk hm=>
  cases (show u=Value.ref a from rx)
  obtain ⟨mA,O,_⟩:=Lq I.hok ea
  obtain ⟨od,J,_⟩:=O.look
  exact PySem.W.kia_one (PySem.W.kitx_own (cl.get _) cl.hd ha hn htk hm) I.kIn J e (fun z=>nomatch z) h
end
structure Room (k:Nat) (A:Around):Prop where
 hd:A.handled=none
 dp:A.depth+3*k+5 < recursionLimit
 un:A.units+16*k+200 < cLine
 gd:A.guards=some []
theorem Room.mono {j k:Nat} {A:Around} (r:Room k A) (h:j<=k):Room j A:=⟨r.hd,by have:=r.dp;omega,by have:=r.un;omega,r.gd⟩
theorem Room.deeper {k:Nat} {A:Around} (r:Room (k+1) A) (env:Env):Room k (A.deeper env):=
 ⟨r.hd,by have:=r.dp;show A.depth+1+3*k+5 < _;omega,by have:=r.un;show A.units+3+16*k+200 < _;omega,r.gd⟩
theorem Aw {A:Around} {C:Addr} {us:List Value} {kw:List (Str×Value)}:(A.under (.builtin "type.__call__" ⟨.ref C :: us,kw⟩)).depth=A.depth+1:=by
 first | rfl | simp [Around.under,Code.weight,Code.isCreation,Code.isGuard,Code.isCaller,Code.frames,Code.isFrame,guardIds]
theorem Ax {A:Around} {C:Addr} {us:List Value} {kw:List (Str×Value)}:(A.under (.builtin "type.__call__" ⟨.ref C :: us,kw⟩)).units=A.units+1:=by
 first | rfl | simp [Around.under,Code.cUnits,Code.frames,Code.isFrame]
theorem yU {A:Around} {C:Addr} {us:List Value} {kw:List (Str×Value)}:(A.under (.builtin "type.__call__" ⟨.ref C :: us,kw⟩)).guards=pushGuards [] A.guards:=by
 first | rfl | simp [Around.under,Code.guards,Code.isGuard,guardIds]
theorem Room.make {k:Nat} {A:Around} (r:Room (k+1) A) (C:Addr) (us:List Value) (kw:List (Str×Value)):Room k (A.under (.builtin "type.__call__" ⟨.ref C :: us,kw⟩)):=
 ⟨r.hd,by have:=r.dp;rw [Aw];omega,by have:=r.un;rw [Ax];omega,(yU.trans (by rw [r.gd];rfl))⟩
theorem Room.depth {k:Nat} {A:Around} (r:Room k A):A.depth < recursionLimit:=by have:=r.dp;omega
theorem Room.units {k:Nat} {A:Around} (r:Room k A):A.units+64 < cLine:=by have:=r.un;omega
theorem Room.units0 {k:Nat} {A:Around} (r:Room k A):A.units < cLine:=by have:=r.un;omega
def Q3:TA:=fun _ H Q=>Q [] H
def Cm (ta:TE) (tr:TA):TA:=fun U H Q=>ta U H fun x H1=>tr U H1 fun xs H2=>Q (x :: xs) H2
section
variable {X:Cx} {e:Expr} {es:List Expr} {te:TE} {t:TA} {pos:Pos}
theorem Q4:PA X [] Q3:=fun _ _ _ _ H Q I h=>Calls.spliced_nil ⟨[],H,I,.nil,h⟩
theorem Lr (ha:PE X e te) (hr:PA X es t) (hs:autoParam (starEach (e :: es) X.env=(false,eval e X.env) :: starEach es X.env) L2.auto4._auto_1):PA X (e :: es) (Cm te t):=by
 intro pos pins s U H Q I h
 rw [hs]
 show wpAny _ _ (spliced ((false,eval e X.env) :: backTo pos (starEach es X.env))) _ _ s
 refine Calls.spliced_cons (d7 (ha pins s U H _ I h) fun u s1 qq0=>?_)
 obtain ⟨x,H1,I1,r1,q1⟩:=qq0
 exact d7 (hr pos pins s1 U H1 _ I1 q1) fun us s2 ⟨xs,H2,I2,r2,q2⟩=>⟨x :: xs,H2,I2,.cons r1 r2,q2⟩
def Ls (t:TA):TE:=fun U H Q=>t U H fun xs H1=>xs.length<=sizeLine/\∀ p,H1 p=none->Q (.ref p) (upd H1 p (.tup xs))
def Lw (t:TA):TE:=fun U H Q=>t U H fun xs H1=>xs.length<=sizeLine/\∀ p,H1 p=none->Q (.ref p) (upd H1 p (.lst xs))
theorem Q5 {x1} (h:PA X es t):PE X (.Tuple es x1 pos) (Ls t):=by
 intro pins s U H Q I hq
 refine wpAny_Tuple_spliced (d7 (h pos pins s U H _ I hq) fun us s1 ⟨xs,H1,I1,r,z,q⟩=>⟨by rw [← r.length];exact z,?_⟩)
 have hf:H1 s1.heap.objs.size=none:=I1.hok.fresh (Nat.le_refl _)
 refine ⟨.ref s1.heap.objs.size,upd H1 s1.heap.objs.size (.tup xs),I1.laid (t':=s1.toks) (fun b u e=>Heap.get?_push_of_some _ e) (Nat.le_refl _) ?_,rfl,q _ hf⟩
 exact ⟨z,us,r,⟨_,Heap.get?_push_size _ rfl,rfl,_,rfl⟩⟩
theorem Q6 (h:PA X es t):PE X (.List es pos) (Lw t):=by
 intro pins s U H Q I hq
 refine wpAny_List_spliced (d7 (h pos pins s U H _ I hq) fun us s1 ⟨xs,H1,I1,r,z,q⟩=>⟨by rw [← r.length];exact z,?_⟩)
 have hf:H1 s1.heap.objs.size=none:=I1.hok.fresh (Nat.le_refl _)
 refine ⟨.ref s1.heap.objs.size,upd H1 s1.heap.objs.size (.lst xs),I1.laid (t':=s1.toks) (fun b u e=>Heap.get?_push_of_some _ e) (Nat.le_refl _) ?_,rfl,q _ hf⟩
 exact ⟨z,us,0,r,Heap.get?_push_size _ rfl⟩
end
abbrev Sp:=List V->Hp->VK->XK->Prop
abbrev Gp:=List Env->Hp->Shared->XK->Value->Shared->Prop
structure Env0 (P:Program) (w:World) (K:W.Frag) (mg:Str->Option Value) (base:Heap) (A:Around) (outer:List Env) (s:Shared) (H:Hp):Prop where
 frames:A.frames=some outer
 mod:Mod K mg base
 bs:∀ b o,base.get? b=some o->s.heap.get? b=some o/\H b=none
 bsz:base.objs.size<=s.heap.objs.size
 funs:s.heap.FunFrames base outer
 frf:∀ b∈frs outer,H b=none
 hok:HOk P w H s.heap
 bare:AllBare s.gens
def CE (outer:List Env) (P:Program) (w:World) (H:Hp) (s:Shared) (Q:VK) (u:Value) (s':Shared):Prop:=
 ∃ v H',s'.os=s.os/\AllBare s'.gens/\Un (frs outer) [] H H' s.heap s'.heap/\HOk P w H' s'.heap/\RelV v u/\Q v H'
def CR (CX:Gp) (outer:List Env) (P:Program) (w:World) (H:Hp) (s:Shared) (Q:VK) (E:XK) (r:Result) (s':Shared):Prop:=
 match r with
 | .ok (.ret u)=>CE outer P w H s Q u s'
 | .ok _=>False
 | .error e=>CX outer H s E e s'
structure rY (P:Program) (w:World) (K:W.Frag) (mg:Str->Option Value) (base:Heap) (CX:Gp) (k:Nat) (f:Addr) (fd:FuncData) (ps:List Str) (sp:Sp):Prop where
 len:∀ vs H Q E,sp vs H Q E->vs.length=ps.length
 run:∀ (A:Around) (outer:List Env) (s:Shared) (H:Hp) (args:Args) (us:List Value) (vs:List V) (Q:VK) (E:XK),Room k A->Env0 P w K mg base A outer s H->BindsTo s fd args (ps.zip us)->Vals vs us->sp vs H Q E->
  codeAny (model P w) A (.call (.ref f) args) (CR CX outer P w H s Q E) s
theorem Env0.make {P:Program} {w:World} {K:W.Frag} {mg:Str->Option Value} {base:Heap} {A:Around} {outer:List Env} {s:Shared} {H:Hp} (e:Env0 P w K mg base A outer s H) (C:Addr) (us:List Value) (kw:List (Str×Value)):
  Env0 P w K mg base (A.under (.builtin "type.__call__" ⟨.ref C :: us,kw⟩)) outer s H:=⟨by first | exact e.frames | (simpa [Around.under,Code.envs,Code.isFrame,pushEnvs] using e.frames),e.mod,e.bs,e.bsz,e.funs,e.frf,e.hok,e.bare⟩
section
variable {X:Cx} {pins:List (Addr×Obj)} {U:St} {H:Hp} {s s':Shared}
theorem Inv.env0 (I:Inv X pins U H s):Env0 X.prog X.w X.K X.mg X.base X.A X.stack s H:=
 ⟨I.ok.frames,I.ok.mod,I.bs,Nat.le_trans I.ok.bsz I.sz,I.stack,I.stkFree,I.hok,I.bare⟩
theorem Inv.after {Q:VK} {u:Value} (I:Inv X pins U H s) (h:CE X.stack X.prog X.w H s Q u s'):EP X pins U Q u s':=by
 obtain ⟨v,H',os,bare,un,hok,r,q⟩:=h
 obtain ⟨hh,g,d,t,os'⟩:=s'
 obtain rfl:os'=s.os:=os
 exact ⟨v,H',I.call (h':=hh) (g':=g) (d':=d) (t':=t) (ch:=[]) un hok bare (fun b z=>absurd z (by simp)),r,q⟩
end
def wK (sp:Sp) (dvs:List V) (E:XK) (t:TA):TE:=fun U H Q=>t U H fun vs H1=>sp (vs ++ dvs) H1 Q E
def Binds (K:W.Frag) (fd:FuncData) (ps:List Str) (ds:List Value):Prop:=
 ∀ (s:Shared) (us:List Value),K.In s.heap->(us ++ ds).length=ps.length->BindsTo s fd ⟨us,[]⟩ (ps.zip (us ++ ds))
theorem Binds.all {K:W.Frag} {fd:FuncData} {ps:List Str} (h:∀ us:List Value,us.length=ps.length->bindArgs fd ⟨us,[]⟩=pure (ps.zip us)):Binds K fd ps []:=fun s us _ hl=>by
 rw [List.append_nil] at hl ⊢
 exact .of_eq (h us hl)
def Ay (CX:Gp) (X:Cx) (E:XK):Prop:=∀ (pins:List (Addr×Obj)) (U:St) (H:Hp) (s:Shared) (e:Value) (s':Shared),Inv X pins U H s->CX X.stack H s E e s'->X.xe e s'
section
variable {X:Cx} {CX:Gp} {k:Nat} {f C:Addr} {fd:FuncData} {ps:List Str} {sp:Sp} {dvs:List V} {ds:List Value} {E:XK} {x m:Str} {p pos apos:Pos} {e o:Expr} {es:List Expr} {ta:TE} {t:TA}
theorem Q7 {pins:List (Addr×Obj)} {U:St} {H:Hp} {s:Shared} {Q:VK} {us:List Value} {vs:List V} (F:rY X.prog X.w X.K X.mg X.base CX k f fd ps sp) (hr:Room k X.A) (hb:Binds X.K fd ps ds) (hd:Vals dvs ds) (hx:Ay CX X E)
  (I:Inv X pins U H s) (r:Vals vs us) (h:sp (vs ++ dvs) H Q E):wpAny (model X.prog X.w) X.A (call (.ref f) us) (EP X pins U Q) X.xe s:=by
 have r2:Vals (vs ++ dvs) (us ++ ds):=r.append hd
 have hl:(us ++ ds).length=ps.length:=by rw [← r2.length];exact F.len _ _ _ _ h
 refine wpAny_call (codeAny_mono (F.run X.A X.stack s H ⟨us,[]⟩ (us ++ ds) (vs ++ dvs) Q E hr I.env0 (hb s us I.kIn hl) r2 h) fun r s' hq=>?_)
 cases r with
 | error e=>exact hx pins U H s e s' I hq
 | ok fl=>
  cases fl with
  | ret u=>exact I.after hq
  | next=>exact False.elim hq
  | brk=>exact False.elim hq
  | cont=>exact False.elim hq
theorem Lx (F:rY X.prog X.w X.K X.mg X.base CX k f fd ps sp) (hr:Room k X.A) (hg:Gl X x) (hm:X.mg x=some (.ref f)) (hk:PySem.W.keepIn X.K (.ref f)=true) (hb:Binds X.K fd ps ds) (hd:Vals dvs ds) (hx:Ay CX X E)
  (ha:PA X (e :: es) t) (hdb:autoParam ((x == ("__debug__":Str))=false) L2.auto2._auto_1) (he:autoParam (starEach (e :: es) X.env=(false,eval e X.env) :: starEach es X.env) L2.auto4._auto_1) (hpl:autoParam ((backTo pos (starEach es X.env)).any (·.1)=false) L2.auto4._auto_1):
  PE X (.Call (.Name x p) (e :: es) [] pos) (wK sp dvs E t):=by
 intro pins s U H Q I h
 refine wpAny_Call_Name_kw (uF I hg hm ?_ hdb)
 refine PySem.W.callWith_K (h₀:=X.base) I.ok.mod.kin hk (d7 (ha pos pins s U H _ I h) fun us s1 ⟨vs,H1,I1,r,q⟩=>⟨I1.kIn,?_⟩) he hpl
 exact Q7 F hr hb hd hx I1 r q
structure Mk (K:W.Frag) (C f:Addr):Prop where
 makes:PySem.W.makesIn K C=true
 init:PySem.W.findIn K (.ref C) "__init__"=some (some (.ref f))
 fn:PySem.W.isFn K (.ref f)=true
 kp:PySem.W.keepIn K (.ref C)=true
end
section
variable {X:Cx} {CX:Gp} {k:Nat} {f C:Addr} {fd:FuncData} {ps ks:List Str} {sp:Sp} {E:XK} {x m:Str} {p pos apos kpos:Pos} {e o:Expr} {es:List Expr} {kws:List Keyword} {te ta:TE} {t tk:TA} {nm:Option Str}
structure KBinds (K:W.Frag) (fd:FuncData) (ps ks:List Str) (g:List Value->List Value->List Value) (gV:List V->List V->List V):Prop where
 to:∀ (s:Shared) (us ws:List Value),K.In s.heap->(g us ws).length=ps.length->BindsTo s fd ⟨us,ks.zip ws⟩ (ps.zip (g us ws))
 rel:∀ {vs:List V} {us:List Value} {zs:List V} {ws:List Value},Vals vs us->Vals zs ws->Vals (gV vs zs) (g us ws)
variable {g:List Value->List Value->List Value} {gV:List V->List V->List V}
end
structure aJ (N P:List Str) (sc:Scope):Prop where
 kind:sc.kind= .function
 co:sc.isCoroutine=false
 gen:sc.isGenerator=false
 nd:N.Nodup
 pre:N.take P.length=P
 par:∀ x∈P,sc.names.lookup x=some .local\/sc.names.lookup x=some .cell
 nofree:∀ y∈sc.names,y.2≠.free
theorem wL {kindOf:Str->Option NameKind} {x:Str}:∀ {binds:List (Str×Value)} {m:Str->Option Value},(∀ v,(x,v) ∉ binds)->bindL kindOf binds m x=m x
 | [],_,_=>rfl
 | (n,v) :: r,m,h=>by
  unfold bindL
  rw [wL fun w hw=>h w (List.mem_cons_of_mem _ hw)]
  split
  ·have:x≠n:=by rintro rfl;exact h v List.mem_cons_self
   simp [this]
  ·rfl
theorem wM {kindOf:Str->Option NameKind} {x:Str}:∀ {binds:List (Str×Value)} {m:Str->Option Value},(∀ v,(x,v) ∉ binds)->bindC kindOf binds m x=m x
 | [],_,_=>rfl
 | (n,v) :: r,m,h=>by
  unfold bindC
  rw [wM fun w hw=>h w (List.mem_cons_of_mem _ hw)]
  split
  ·rfl
  ·have:x≠n:=by rintro rfl;exact h v List.mem_cons_self
   simp [this]
theorem wN {kindOf:Str->Option NameKind} {x:Str} {v:Value}:∀ {P:List Str} {vs:List Value} {i:Nat} {m:Str->Option Value},P.Nodup->P[i]?=some x->vs[i]?=some v->kindOf x=some .local->
  bindL kindOf (P.zip vs) m x=some v
 | [],_,_,_,_,h,_,_=>by simp at h
 | _ :: _,[],_,_,_,_,h,_=>by simp at h
 | p :: P,w :: vs,0,m,nd,h1,h2,hk=>by
  simp at h1 h2;subst h1;subst h2
  show bindL kindOf ((p,w) :: P.zip vs) m p=_
  unfold bindL
  rw [wL fun v hv=>(List.nodup_cons.mp nd).1 (List.of_mem_zip hv).1,if_pos hk]
  simp
 | p :: P,w :: vs,i+1,m,nd,h1,h2,hk=>by
  show bindL kindOf ((p,w) :: P.zip vs) m x=_
  unfold bindL
  exact wN (i:=i) (List.nodup_cons.mp nd).2 (by simpa using h1) (by simpa using h2) hk
theorem wO {kindOf:Str->Option NameKind} {x:Str} {v:Value}:∀ {P:List Str} {vs:List Value} {i:Nat} {m:Str->Option Value},P.Nodup->P[i]?=some x->vs[i]?=some v->kindOf x≠some .local->
  bindC kindOf (P.zip vs) m x=some v
 | [],_,_,_,_,h,_,_=>by simp at h
 | _ :: _,[],_,_,_,_,h,_=>by simp at h
 | p :: P,w :: vs,0,m,nd,h1,h2,hk=>by
  simp at h1 h2;subst h1;subst h2
  show bindC kindOf ((p,w) :: P.zip vs) m p=_
  unfold bindC
  rw [wM fun v hv=>(List.nodup_cons.mp nd).1 (List.of_mem_zip hv).1,if_neg hk]
  simp
 | p :: P,w :: vs,i+1,m,nd,h1,h2,hk=>by
  show bindC kindOf ((p,w) :: P.zip vs) m x=_
  unfold bindC
  exact wO (i:=i) (List.nodup_cons.mp nd).2 (by simpa using h1) (by simpa using h2) hk
def start (N:List Str) (vs:List V):St:=vs.map some ++ List.replicate (N.length - vs.length) none
def qK (CX:Gp) (P:Program) (w:World) (K:W.Frag) (mg:Str->Option Value) (base:Heap) (N:List Str) (qual:Str) (scope:Scope) (f:Addr) (cd:Value) (A:Around) (outer:List Env) (s:Shared) (H:Hp) (E:XK):Cx where
 prog:=P
 w:=w
 K:=K
 mg:=mg
 base:=base
 A:=A.deeper (envOfC qual scope s.heap.objs.size f cd)
 N:=N
 s₀:=s
 H₀:=H
 env:=envOfC qual scope s.heap.objs.size f cd
 outer:=outer
 stack:=envOfC qual scope s.heap.objs.size f cd :: outer
 ex:=[]
 calm:=true
 fn:=fun _=>true
 pn:=[]
 xe:=fun e s'=>wpAny (model P w) (A.deeper (envOfC qual scope s.heap.objs.size f cd)) (leaving (envOfC qual scope s.heap.objs.size f cd) e) (fun _ s''=>CX outer H s E e s'') (fun e' s''=>CX outer H s E e' s'') s'
theorem yV {sc:Scope} {n:Nat} {x:Str} (h:sc.names.lookup x=some .cell):∃ c,(cellsFrom n sc.names []).lookup x=some c:=by
 have q:=PySem.W.cellsFrom_some sc.names n [] (.inl h)
 exact Option.isSome_iff_exists.mp q
theorem Eg {CX:Gp} {P:Program} {w:World} {K:W.Frag} {mg:Str->Option Value} {base:Heap} {N ps:List Str} {qual:Str} {scope:Scope} {f:Addr} {cd:Value} {A:Around} {outer:List Env} {s s1:Shared} {H:Hp} {E:XK} {us:List Value} {vs:List V}
  (S:aJ N ps scope) (hd:A.handled=none) (e0:Env0 P w K mg base A outer s H) (hl:vs.length=ps.length) (r:Vals vs us)
  (x:InCallC s s.heap.objs.size (bindL (envOfC qual scope s.heap.objs.size f cd).kindOf (ps.zip us) fun _=>none) (cellsFrom (s.heap.objs.size+1) scope.names []) (bindC (envOfC qual scope s.heap.objs.size f cd).kindOf (ps.zip us) fun _=>none) s1):
  Inv (qK CX P w K mg base N qual scope f cd A outer s H E) [] (start N vs) H s1:=by
 have hpl:ps.length<=N.length:=by have:=congrArg List.length S.pre;rw [List.length_take] at this;omega
 obtain ⟨h1,tk,rfl,hk⟩:=x.done
 have noA:∀ b:Addr,b ∉ (qK CX P w K mg base N qual scope f cd A outer s H E).ex:=fun b z=>absurd (show b∈([]:List Addr) from z) (by simp)
 refine ⟨⟨e0.mod,S.kind,rfl,rfl,Nat.le_refl _,fun y z c h1 h2=>?_,fun y hy=>?_,fun y c _ h=>?_,fun _=>hd,Around.frames_deeper e0.frames,.inr ⟨rfl,rfl⟩,fun b z=>absurd z (noA b),e0.bs,e0.bsz,fun b _ _=>noA b,fun b z=>absurd z (noA b),e0.funs,e0.frf⟩,
  rfl,e0.bare,Un.kept hk,⟨_,x.toInCall.ns,fun i y v h1 h2 h3=>?_⟩,fun y c h=>⟨_,x.cell y c h⟩,e0.hok.fresh (Nat.le_refl _),fun y c h=>?_,fun p hp=>absurd (show p∈([]:List (Addr×Obj)) from hp) (by simp),e0.hok.kept hk,?_⟩
 ·exact name_of_addr x.apart (PySem.mem_of_lookup h1) (PySem.mem_of_lookup h2)
 ·have hy:scope.names.lookup y=some .cell\/scope.names.lookup y=some .free:=hy
  rcases hy with hy | hy
  ·exact yV hy
  ·exact absurd rfl (S.nofree _ (PySem.mem_of_lookup hy))
 ·exact Nat.le_of_lt (x.above y c (PySem.mem_of_lookup h))
 ·have hi:i < vs.length:=by
   unfold start at h2
   by_cases hi:i < vs.length
   ·exact hi
   ·rw [List.getElem?_append_right (by simpa using hi)] at h2
    rw [List.getElem?_replicate] at h2
    split at h2 <;> cases h2
  have ha:vs[i]?=some v:=by
   unfold start at h2
   rw [List.getElem?_append_left (by simpa using hi),List.getElem?_map] at h2
   cases e:vs[i]? with
   | none=>rw [e] at h2;cases h2
   | some a=>rw [e] at h2;cases h2;rfl
  obtain ⟨u,hu,rv⟩:=r.get ha
  have hp:ps[i]?=some y:=by
   rw [← S.pre,List.getElem?_take_of_lt (by omega)];exact h1
  have ndP:ps.Nodup:=by rw [← S.pre];exact S.nd.sublist (List.take_sublist _ _)
  refine ⟨u,rv,?_⟩
  rcases S.par y (List.mem_of_getElem? hp) with k | k
  ·exact .inl ⟨k,wN ndP hp hu k⟩
  ·obtain ⟨c,e⟩:=yV (n:=s.heap.objs.size+1) k
   refine .inr ⟨.inl k,c,e,?_⟩
   have q:=x.cell y c e
   rw [wO ndP hp hu (by show scope.names.lookup y≠_;rw [k];decide)] at q
   exact q
 ·exact e0.hok.fresh (Nat.le_of_lt (x.above y c (PySem.mem_of_lookup h)))
 ·unfold start
  show _=N.length
  rw [List.length_append,List.length_map,List.length_replicate]
  omega
theorem O9 {CX:Gp} {P:Program} {w:World} {K:W.Frag} {mg:Str->Option Value} {base:Heap} {k:Nat} {f:Addr} {name qual:Str} {params:Arguments} {body:List Stmt} {scope:Scope} {dV kV doc pm cdv ct oc:Value} {an od:Option Addr}
  {osl:Array (Option Value)} {N ps:List Str} {sp:Sp} (lk:K.lookup f=some ⟨oc,od,.func (PySem.W.fnOf name qual params body scope dV kV doc pm an cdv ct),osl⟩) (hcd:PySem.W.codeIn K cdv qual=true) (S:aJ N ps scope)
  (len:∀ vs H Q E,sp vs H Q E->vs.length=ps.length)
  (hbody:∀ (A:Around) (outer:List Env) (s:Shared) (H:Hp) (vs:List V) (Q:VK) (E:XK),Room k (A.deeper (envOfC qual scope s.heap.objs.size f cdv))->sp vs H Q E->
   ∃ t,PSs (qK CX P w K mg base N qual scope f cdv A outer s H E) body t/\t {nx:=fun _ H'=>Q .non H',rt:=Q} (start N vs) H):
  rY P w K mg base CX (k+1) f (PySem.W.fnOf name qual params body scope dV kV doc pm an cdv ct) ps sp:=by
 refine ⟨len,fun A outer s H args us vs Q E hr e0 hb r hsp=>?_⟩
 have hl:=len _ _ _ _ hsp
 have KX:K.In s.heap:=e0.mod.kin.keeps fun b o e=>(e0.bs b o e).1
 have lim:s.heap.NoLimit:=e0.mod.nolimit.keeps fun b o e=>(e0.bs b o e).1
 have hkind:∀ y∈ps.zip us,scope.names.lookup y.1=some .local\/(scope.names.lookup y.1=some .cell/\((cellsFrom (s.heap.objs.size+1) scope.names []).lookup y.1).isSome=true):=fun ⟨n,v⟩ hy=>by
  rcases S.par n (List.of_mem_zip hy).1 with q | q
  ·exact .inl q
  ·exact .inr ⟨q,PySem.W.cellsFrom_some _ _ _ (.inl q)⟩
 refine codeAny_call_function hr.depth (KX _ _ lk) rfl S.co S.gen rfl (PySem.W.codeRec_of KX hcd) (hb _ _ _ _ ?_)
 refine wpAny_newFunctionEnv_cells S.kind hkind fun env he s1 x=>?_
 subst he
 refine ⟨lim.keeps x.toInCall.keep,codeAny_func ?_⟩
 obtain ⟨t,ht,hq⟩:=hbody A outer s H vs Q E (hr.deeper _) hsp
 have I:Inv (qK CX P w K mg base N qual scope f cdv A outer s H E) [] (start N vs) H s1:=Eg S hr.hd e0 hl r x
 refine wpAny_mono (ht [] s1 (start N vs) H _ I hq) (fun fl s' hs=>?_) fun e s' hs=>hs
 have fin:∀ {U':St} {H':Hp} {v:V} {u:Value},Inv (qK CX P w K mg base N qual scope f cdv A outer s H E) [] U' H' s'->RelV v u->Q v H'->CE outer P w H s Q u s':=
  fun {U' H' v u} J rv q=>⟨v,H',J.os,J.bare,J.base,J.hok,rv,q⟩
 cases fl with
 | ret u=>
  obtain ⟨v,U',H',J,rv,q⟩:=hs
  exact fin J rv q
 | next=>
  obtain ⟨U',H',J,q⟩:=hs
  exact fin (v:=V.non) (u:=Value.none) J rfl q
 | brk=>
  obtain ⟨_,_,_,q⟩:=hs
  exact False.elim q
 | cont=>
  obtain ⟨_,_,_,q⟩:=hs
  exact False.elim q
section
variable {X:Cx} {x:Str} {p pos:Pos} {e:Expr} {es:List Expr} {t:TA} {id T:String} {r:List V->Hp->VK->Prop}
def Q8 (r:List V->Hp->VK->Prop) (t:TA):TE:=fun U H Q=>t U H fun vs H1=>r vs H1 Q
theorem Hh (hc:CallR X (.builtin id) r) (hg:Gl X x) (hm:X.mg x=none) (hv:bootBuiltins x=some (.builtin id)) (ha:PA X (e :: es) t) (hn:autoParam (x≠"__name__") L2.auto2._auto_1) (hdb:autoParam ((x == ("__debug__":Str))=false) L2.auto2._auto_1)
  (he:autoParam (starEach (e :: es) X.env=(false,eval e X.env) :: starEach es X.env) L2.auto4._auto_1) (hpl:autoParam ((backTo pos (starEach es X.env)).any (·.1)=false) L2.auto4._auto_1):PE X (.Call (.Name x p) (e :: es) [] pos) (Q8 r t):=by
 intro pins s U H Q I h
 refine wpAny_Call_Name_kw (p6 I hg hm hv ?_ hn hdb)
 exact PyProof.Rows.callWith_builtin1 (d7 (ha pos pins s U H _ I h) fun us s1 ⟨vs,H1,I1,r1,q1⟩=>hc pins s1 U H1 vs us Q I1 r1 q1) he hpl
theorem Eh (hc:CallR X (.type T) r) (hg:Gl X x) (hm:X.mg x=none) (hv:bootBuiltins x=some (.type T)) (ha:PA X (e :: es) t) (hn:autoParam (x≠"__name__") L2.auto2._auto_1) (hdb:autoParam ((x == ("__debug__":Str))=false) L2.auto2._auto_1)
  (he:autoParam (starEach (e :: es) X.env=(false,eval e X.env) :: starEach es X.env) L2.auto4._auto_1) (hpl:autoParam ((backTo pos (starEach es X.env)).any (·.1)=false) L2.auto4._auto_1):PE X (.Call (.Name x p) (e :: es) [] pos) (Q8 r t):=by
 intro pins s U H Q I h
 refine wpAny_Call_Name_kw (p6 I hg hm hv ?_ hn hdb)
 exact PyProof.Rows.callWith_type1 (d7 (ha pos pins s U H _ I h) fun us s1 ⟨vs,H1,I1,r1,q1⟩=>hc pins s1 U H1 vs us Q I1 r1 q1) he hpl
end
end L2
namespace HT
open PySem PyProof.Rows
def lexLt:List Int->List Int->Bool
 | [],[]=>false
 | [],_ :: _=>true
 | _ :: _,[]=>false
 | x :: xs,y :: ys=>if x=y then lexLt xs ys else decide (x < y)
theorem lexLt_cons (x y:Int) (xs ys:List Int):lexLt (x :: xs) (y :: ys)=if x=y then lexLt xs ys else decide (x < y):=rfl
theorem lexLt_nil_nil:lexLt [] []=false:=rfl
section
open PySem.SeqAt
open PySem.AutoSeq1 (wpAny_loadPart')
open PySem.MeetsSeq PySem.MeetsSeq2 PySem.MeetsSeq3
end
section
variable {prog:Program} {w:World} {A:Around} {E:Value->Shared->Prop} {s:Shared}
def sIx (n d:Nat):Option Int->Nat
 | none=>d
 | some v=>if v < 0 then (v+(n:Int)).toNat else min v.toNat n
theorem sIx_none (n d:Nat):sIx n d none=d:=rfl
theorem sIx_nat (n d k:Nat):sIx n d (some (k:Int))=min k n:=by
 show (if (k:Int) < 0 then ((k:Int)+(n:Int)).toNat else min (k:Int).toNat n)=min k n
 rw [if_neg (by omega),Int.toNat_natCast]
theorem sIx_le (n d:Nat) (hd:d<=n) (o:Option Int):sIx n d o<=n:=by
 cases o with
 | none=>exact hd
 | some v=>
  show (if v < 0 then (v+(n:Int)).toNat else min v.toNat n)<=n
  by_cases hv:v < 0
  ·rw [if_pos hv];omega
  ·rw [if_neg hv];exact Nat.min_le_right _ _
theorem clip_eq (v:Int) (n d:Nat):(if v < 0 then max (v+(n:Int)) 0 else min v (n:Int))=((sIx n d (some v):Nat):Int):=by
 show (if v < 0 then max (v+(n:Int)) 0 else min v (n:Int))=(((if v < 0 then (v+(n:Int)).toNat else min v.toNat n):Nat):Int)
 by_cases hv:v < 0
 ·simp only [if_pos hv];omega
 ·simp only [if_neg hv];omega
theorem Az (lo hi:Option Int) (n:Nat):Builtin.Slice.sliceAdjust lo hi 1 (n:Int)=(((sIx n 0 lo:Nat):Int),((sIx n n hi:Nat):Int)):=by
 have h1:¬ ((1:Int) < 0):=by omega
 unfold Builtin.Slice.sliceAdjust
 simp only [h1,if_false]
 refine Prod.ext ?_ ?_
 ·cases lo with
  | none=>rfl
  | some v=>exact clip_eq v n 0
 ·cases hi with
  | none=>rfl
  | some v=>exact clip_eq v n n
theorem Ba (i j:Nat):Builtin.Slice.slicePlaces (i:Int) (j:Int) 1=j - i:=by
 unfold Builtin.Slice.slicePlaces
 have h1:(1:Int) > 0:=by omega
 simp only [h1,if_true,Int.ediv_one]
 split <;> omega
theorem uX {v:Value} {o:Option Int} {Q:Option Int->Shared->Prop} (p:IsPart v o) (h:Q o s):wpAny (model prog w) A (Builtin.Slice.slicePartIndex v) Q E s:=by
 cases p with
 | none=>exact slicePart_none h
 | int i t=>exact slicePart_int h
theorem lU {sl:Addr} {vl vu:Value} {lo hi:Option Int} {n:Nat} {Q:Int×Int×Nat->Shared->Prop} (hs:s.heap.IsSliceOf sl vl vu .none) (pl:IsPart vl lo) (pu:IsPart vu hi)
  (h:Q (((sIx n 0 lo:Nat):Int),1,sIx n n hi - sIx n 0 lo) s):wpAny (model prog w) A (Builtin.Slice.sliceApplied (.ref sl) (pure (n:Int))) Q E s:=by
 obtain ⟨os,hos,hcs,hds⟩:=id hs
 unfold Builtin.Slice.sliceApplied Builtin.Slice.sliceFields
 refine wpAny_bind (wpAny_bind (wpAny_field hos hds (x:=vl) rfl (wpAny_bind (wpAny_field hos hds (x:=vu) rfl (wpAny_bind (wpAny_field hos hds (x:=.none) rfl (wpAny_pure ?_)))))))
 refine wpAny_bind (slicePart_none ?_)
 show wpAny _ _ (if ((1:Int) == 0)=true then _ else _) _ _ s
 rw [if_neg (by decide)]
 refine wpAny_bind (uX pl (wpAny_bind (uX pu (wpAny_bind (wpAny_pure ?_)))))
 show wpAny _ _ (match Builtin.Slice.sliceAdjust lo hi 1 (n:Int) with | (lo,hi)=>pure (lo,(1:Int),Builtin.Slice.slicePlaces lo hi 1)) _ _ s
 rw [Az lo hi n]
 show wpAny _ _ (pure (((sIx n 0 lo:Nat):Int),(1:Int),Builtin.Slice.slicePlaces ((sIx n 0 lo:Nat):Int) ((sIx n n hi:Nat):Int) 1)) _ _ s
 rw [Ba]
 exact wpAny_pure h
theorem Hi (xs:Array Value) (i k:Nat):((List.range k).filterMap fun (m:Nat)=>xs[((i:Int)+(m:Int)*1).toNat]?).toArray=((xs.toList.drop i).take k).toArray:=by
 have e:(fun (m:Nat)=>xs[((i:Int)+(m:Int)*1).toNat]?)=fun m=>xs[i+m]?:=by
  funext m
  have:((i:Int)+(m:Int)*1).toNat=i+m:=by omega
  rw [this]
 rw [e]
 have:=pick_run xs i k
 rw [List.filterMap_map] at this
 have e2:((fun x=>xs[x]?) ∘ fun x=>i+x)=fun m=>xs[i+m]?:=rfl
 rw [e2] at this
 rw [this]
theorem getItem_tuple_cut {t sl:Addr} {items:Array Value} {vl vu:Value} {lo hi:Option Int} {Q:Value->Shared->Prop} (ht:IsTup s.heap t items) (hs:s.heap.IsSliceOf sl vl vu .none) (pl:IsPart vl lo) (pu:IsPart vu hi)
  (hw:¬ (sIx items.size 0 lo=0/\sIx items.size items.size hi=items.size))
  (h:Q (.ref s.heap.objs.size) {s with heap:=s.heap.push {cls:=.type "tuple",data:=.seq ((items.toList.drop (sIx items.size 0 lo)).take (sIx items.size items.size hi - sIx items.size 0 lo)).toArray}})
  (hsz:items.size<=sizeLine):wpAny (model prog w) A (getItem (.ref t) (.ref sl)) Q E s:=by
 have htake:sizeOk (.seq ((items.toList.drop (sIx items.size 0 lo)).take (sIx items.size items.size hi - sIx items.size 0 lo)).toArray):=by
  show ((items.toList.drop (sIx items.size 0 lo)).take (sIx items.size items.size hi - sIx items.size 0 lo)).toArray.size<=sizeLine
  rw [List.size_toArray,List.length_take,List.length_drop,Array.length_toList]
  omega
 have hj:sIx items.size items.size hi<=items.size:=sIx_le _ _ (Nat.le_refl _) hi
 obtain ⟨os,hos,hcs,hds⟩:=id hs
 have hTs:s.TypeIs (.ref sl) "slice":=⟨os,hos,hcs⟩
 unfold getItem
 try with_reducible refine wpAny_holding ?_
 first | refine wpAny_bind (wpAny_pure ?_) | skip
 refine wpAny_bind (wpAny_sequenceKey ht.typeIs (by decide) ?_)
 refine wpAny_bind (wpAny_callSpecial?_slot (name:=Str.ofString "__getitem__") ht.typeIs PyProof.Rows.slot_tuple_getitem
  (wpAny_call_entry PyProof.Rows.slot_tuple_getitem ht.typeIs entry_tuple_getitem ?_ (args_tuple_getitem _ _)))
 show wpAny _ _ (Builtin.Tuple.tupleItemsOf (.ref t) >>=_) _ _ s
 refine wpAny_bind (tupleItemsOf_ ht ?_)
 refine wpAny_bind (wpAny_typeOf hTs ?_)
 rw [if_pos (by decide)]
 refine wpAny_bind (lU hs pl pu ?_)
 have hno:¬ ((((sIx items.size 0 lo:Nat):Int) == 0 && (1:Int) == 1 && (sIx items.size items.size hi - sIx items.size 0 lo) == items.size)=true):=by
  intro q
  rw [Bool.and_eq_true,Bool.and_eq_true] at q
  have q1:((sIx items.size 0 lo:Nat):Int)=0:=eq_of_beq q.1.1
  have q2:sIx items.size items.size hi - sIx items.size 0 lo=items.size:=eq_of_beq q.2
  exact hw ⟨by omega,by omega⟩
 show wpAny _ _ (if (((sIx items.size 0 lo:Nat):Int) == 0 && (1:Int) == 1 && (sIx items.size items.size hi - sIx items.size 0 lo) == items.size)=true then _ else _) _ _ s
 rw [if_neg hno,Hi]
 first
  | exact wpAny_bind (m:=Builtin.Tuple.tupleExact _) (wpAny_newObj_type (wpAny_pure ⟨_,rfl,wpAny_pure h⟩) htake)
  | exact wpAny_bind (m:=Builtin.Tuple.tupleExact _) (wpAny_newObj_type (wpAny_bind (wpAny_pure (wpAny_pure ⟨_,rfl,wpAny_pure h⟩))) htake)
  | exact wpAny_bind (wpAny_bind (m:=Builtin.Tuple.tupleExact _) (wpAny_newObj_type (wpAny_pure (wpAny_pure ⟨_,rfl,wpAny_pure h⟩)) htake))
  | exact wpAny_bind (wpAny_bind (m:=Builtin.Tuple.tupleExact _) (wpAny_newObj_type (wpAny_pure ⟨_,rfl,wpAny_pure h⟩) htake))
end
end HT
namespace L2
open PySem PySem.Spec PyProof.Rows
abbrev TO:=St->Hp->(Option Int->Hp->Prop)->Prop
def PO (X:Cx) (e:Option Expr) (t:TO):Prop:=
 ∀ (pins:List (Addr×Obj)) (s:Shared) (U:St) (H:Hp) (Q:Option Int->Hp->Prop),Inv X pins U H s->t U H Q->
  wpAny (model X.prog X.w) X.A (evalPart e X.env) (fun u s'=>∃ o H',Inv X pins U H' s'/\IsPart u o/\Q o H') X.xe s
def xM:TO:=fun _ H Q=>Q none H
def Hj (t:TE):TO:=fun U H Q=>t U H fun x H1=>∃ i,x= .int i/\Q (some i) H1
theorem intsAre_of {ns:List Int}:∀ {us:List Value},Vals (ns.map V.int) us->IntsAre us ns:=by
 induction ns with
 | nil=>intro us r;rw [List.map_nil] at r;cases r;exact .nil
 | cons n ns ih=>
  intro us r
  rw [List.map_cons] at r
  cases r with
  | cons r1 r2=>
   obtain ⟨t,e⟩:=r1
   subst e
   exact .cons n t (ih r2)
section
variable {X:Cx} {e:Expr} {te:TE} {lo hi:Option Expr} {tl th:TO} {pos p2:Pos}
theorem Ly:PO X none xM:=by
 intro pins s U H Q I h
 rw [evalPart_none]
 exact wpAny_pure ⟨none,H,I,.none,h⟩
theorem Lz (h:PE X e te):PO X (some e) (Hj te):=by
 intro pins s U H Q I hw
 rw [evalPart_some]
 refine d7 (h pins s U H _ I hw) fun u s1 qq0=>?_
 obtain ⟨x,H1,I1,r1,q1⟩:=qq0
 obtain ⟨i,rfl,q⟩:=q1
 obtain ⟨t,rfl⟩:=r1
 exact ⟨some i,H1,I1,.int i t,q⟩
def SlR (X:Cx) (r:V->Option Int->Option Int->Hp->VK->Prop):Prop:=
 ∀ (pins:List (Addr×Obj)) (s:Shared) (U:St) (H:Hp) (x:V) (v vl vu:Value) (lo hi:Option Int) (sl:Addr) (Q:VK),Inv X pins U H s->RelV x v->s.heap.IsSliceOf sl vl vu .none->IsPart vl lo->IsPart vu hi->r x lo hi H Q->
  ∃ T id,typeLookup (.type T) "__getitem__"=pure (some (.builtin id))/\s.TypeIs v T/\wpAny (model X.prog X.w) X.A (getItem v (.ref sl)) (EP X pins U Q) X.xe s
theorem SlR.or {r r':V->Option Int->Option Int->Hp->VK->Prop} (h:SlR X r) (h':SlR X r'):SlR X (fun x lo hi H Q=>r x lo hi H Q\/r' x lo hi H Q):=by
 intro pins s U H x v vl vu lo hi sl Q I rx hs pl pu q
 rcases q with q | q
 ·exact h pins s U H x v vl vu lo hi sl Q I rx hs pl pu q
 ·exact h' pins s U H x v vl vu lo hi sl Q I rx hs pl pu q
def tSl (r:V->Option Int->Option Int->Hp->VK->Prop) (te:TE) (tl th:TO):TE:=fun U H Q=>te U H fun x H1=>tl U H1 fun l H2=>th U H2 fun u H3=>r x l u H3 Q
theorem Hk {r:V->Option Int->Option Int->Hp->VK->Prop} (hr:SlR X r) (he:PE X e te) (hl:PO X lo tl) (hu:PO X hi th):PE X (.Subscript e (.Slice lo hi none p2) pos) (tSl r te tl th):=by
 intro pins s U H Q I h
 refine Subscript_ (d7 (he pins s U H _ I h) fun v s1 qq0=>?_)
 obtain ⟨x,H1,I1,r1,q1⟩:=qq0
 refine wpAny_Slice (d7 (hl pins s1 U H1 _ I1 q1) fun vl s2 ⟨l,H2,I2,pl,q2⟩=>d7 (hu pins s2 U H2 _ I2 q2) fun vu s3 qq0=>?_)
 obtain ⟨u,H3,I3,pu,q3⟩:=qq0
 rw [evalPart_none]
 refine wpAny_pure ?_
 have I4:Inv X pins U H3 {s3 with heap:=s3.heap.push {cls:=.type "slice",data:=.fields #[vl,vu,.none]}}:=I3.kept (t':=s3.toks) fun b ob q=>Heap.get?_push_of_some _ q
 obtain ⟨T,id,hT,ht,hg⟩:=hr pins {s3 with heap:=s3.heap.push {cls:=.type "slice",data:=.fields #[vl,vu,.none]}} U H3 x v vl vu l u s3.heap.objs.size Q I4 r1 (Heap.IsSliceOf.new ..) pl pu q3
 show wpAny (model X.prog X.w) X.A (subscriptTail e (.Slice lo hi none p2) v (.ref s3.heap.objs.size)) (EP X pins U Q) X.xe {s3 with heap:=s3.heap.push {cls:=.type "slice",data:=.fields #[vl,vu,.none]}}
 exact tail_any (ops:=[.ref s3.heap.objs.size,v]) ht hT hg (by with_unfolding_all rfl)
def nJ (xs:List V) (lo hi:Option Int):List V:=(xs.drop (HT.sIx xs.length 0 lo)).take (HT.sIx xs.length xs.length hi - HT.sIx xs.length 0 lo)
theorem nY (xs:List V) (lo hi:Option Int):(nJ xs lo hi).length<=xs.length:=by
 unfold nJ
 rw [List.length_take,List.length_drop]
 omega
def VR (K:W.Frag):V->Option Int->Option Int->Hp->VK->Prop:=fun x lo hi H Q=>∃ a xs,x= .ref a/\SqT K H a xs/\
 ¬ (HT.sIx xs.length 0 lo=0/\HT.sIx xs.length xs.length hi=xs.length)/\∀ p,H p=none->Q (.ref p) (upd H p (.tup (nJ xs lo hi)))
theorem Q9:SlR X (VR X.K):=by
 intro pins s U H x v vl vu lo hi sl Q I rx hs pl pu h
 obtain ⟨a,xs,rfl,hx,hw,q⟩:=h
 cases rx
 obtain ⟨its,r,ht,hz⟩:=I.tuple hx
 have hlen:its.toArray.size=xs.length:=by rw [List.size_toArray];exact r.length.symm
 refine ⟨"tuple",_,PyProof.Rows.slot_tuple_getitem.lookup,ht.typeIs,?_⟩
 refine HT.getItem_tuple_cut ht hs pl pu (by rw [hlen];exact hw) ?_ (by rw [hlen];exact hz)
 rw [hlen]
 refine ⟨.ref s.heap.objs.size,_,I.laid (t':=s.toks) (o:=.tup (nJ xs lo hi)) (fun b ob q=>Heap.get?_push_of_some _ q) (Nat.le_refl _) ?_,rfl,q _ (I.hok.fresh (Nat.le_refl _))⟩
 exact ⟨Nat.le_trans (nY xs lo hi) hz,_,(r.drop (HT.sIx xs.length 0 lo)).take (HT.sIx xs.length xs.length hi - HT.sIx xs.length 0 lo),IsTup.new _ _⟩
end
def Cp (n:Nat) (i:Int):Option Nat:=if 0<=i then (if i < n then some i.toNat else none) else if -(n:Int)<=i then some (i+n).toNat else none
def uH {α:Type} (xs:List α) (i:Int):Option α:=(Cp xs.length i).bind fun j=>xs[j]?
theorem Cq {n:Nat} {i:Int} {j:Nat} (h:Cp n i=some j):seqIndex? i n=some j/\j < n/\-(n:Int)<=i/\i < n:=by
 unfold Cp at h
 by_cases h0:0<=i
 ·rw [if_pos h0] at h
  by_cases h1:i < n
  ·rw [if_pos h1] at h
   have e:i.toNat=j:=Option.some.inj h
   exact ⟨by rw [seqIndex_of h0 h1,e],by omega,by omega,h1⟩
  ·rw [if_neg h1] at h;cases h
 ·rw [if_neg h0] at h
  by_cases h1: -(n:Int)<=i
  ·rw [if_pos h1] at h
   have e:(i+n).toNat=j:=Option.some.inj h
   exact ⟨by rw [seqIndex_neg (by omega) h1,e],by omega,h1,by omega⟩
  ·rw [if_neg h1] at h;cases h
theorem xN {α:Type} {xs:List α} {i:Int} {v:α} (h:uH xs i=some v):∃ j,seqIndex? i xs.length=some j/\xs[j]?=some v/\j < xs.length/\-(xs.length:Int)<=i/\i < xs.length:=by
 unfold uH at h
 cases e:Cp xs.length i with
 | none=>rw [e] at h;cases h
 | some j=>
  rw [e] at h
  obtain ⟨h1,h2,h3,h4⟩:=Cq e
  exact ⟨j,h1,h,h2,h3,h4⟩
theorem uI {α:Type} {xs:List α} {j:Nat} {v:α} (h:xs[j]?=some v):uH xs (j:Int)=some v:=by
 have hj:j < xs.length:=(List.getElem?_eq_some_iff.mp h).1
 have e:Cp xs.length (j:Int)=some j:=by
  unfold Cp
  rw [if_pos (by omega),if_pos (by omega)];simp
 unfold uH;rw [e];exact h
def Cr (b:Expr):Prop:=∀ o i,subscripted b false o i=operate [o,i] (getItem o i)
def IxR (X:Cx) (r:R2):Prop:=
 ∀ (value slice:Expr) (pins:List (Addr×Obj)) (s:Shared) (U:St) (H:Hp) (x y:V) (v u:Value) (Q:VK),Inv X pins U H s->RelV x v->RelV y u->r x y H Q->
  subscripted slice false v u=operate [v,u] (getItem v u)->wpAny (model X.prog X.w) X.A (subscriptTail value slice v u) (EP X pins U Q) X.xe s
def LC (X:Cx) (id:String) (r:V->List V->Hp->VK->Prop):Prop:=
 ∀ (pins:List (Addr×Obj)) (s:Shared) (U:St) (H:Hp) (x:V) (xs:List V) (v:Value) (us:List Value) (Q:VK),Inv X pins U H s->RelV x v->Vals xs us->r x xs H Q->
  wpAny (model X.prog X.w) X.A (call (.builtin id) (v :: us)) (EP X pins U Q) X.xe s
section
variable {X:Cx} {a b:Expr} {ta tb:TE} {pos:Pos}
theorem IxR.or {r r':R2} (h:IxR X r) (h':IxR X r'):IxR X (fun x y H Q=>r x y H Q\/r' x y H Q):=by
 intro value slice pins s U H x y v u Q I rx ry q hs
 rcases q with q | q
 ·exact h value slice pins s U H x y v u Q I rx ry q hs
 ·exact h' value slice pins s U H x y v u Q I rx ry q hs
theorem V0 {r:R2} (hr:IxR X r) (ha:PE X a ta) (hb:PE X b tb) (hs:Cr b):PE X (.Subscript a b pos) (Ha r ta tb):=by
 intro pins s U H Q I h
 exact Subscript_ (QV ha hb I h fun v u s2 x y H2 I2 rx ry q=>hr a b pins s2 U H2 x y v u Q I2 rx ry q (hs _ _))
def V1 (K:W.Frag):R2:=fun x y H Q=>∃ p xs i v,x= .ref p/\y= .int i/\SqL K H p xs/\uH xs i=some v/\Q v H
def V2 (K:W.Frag):R2:=fun x y H Q=>∃ p xs i v,x= .ref p/\y= .int i/\SqT K H p xs/\uH xs i=some v/\Q v H
def V3:R2:=fun x y H Q=>∃ z i c,x= .str z/\y= .int i/\z.length<=sizeLine/\uH z.cps.toList i=some c/\Q (.str ⟨#[c]⟩) H
theorem LK:IxR X (V1 X.K):=by
 intro value slice pins s U H x y v u Q I rx ry h hs
 obtain ⟨p,xs,i,z,rfl,rfl,hq,he,q⟩:=h
 cases rx
 obtain ⟨t,rfl⟩:=ry
 obtain ⟨its,r,pl,hz⟩:=I.list hq
 obtain ⟨j,h1,h2,h3,h4,h5⟩:=xN he
 obtain ⟨w,ew,rw'⟩:=r.get h2
 have hl:=r.length
 have hn:=uW
 have fin:EP X pins U Q w s:=⟨z,H,I,rw',q⟩
 by_cases h0:0<=i
 ·have hj:i.toNat=j:=by
   rw [seqIndex_of h0 h5] at h1
   exact Option.some.inj h1
  exact item_listR pl.isList h0 (by omega) (by rw [hj];simpa using ew) fin hs
 ·have hj:(i+(its.toArray.size:Int)).toNat=j:=by
   rw [seqIndex_neg (by omega) h4] at h1
   rw [List.size_toArray,← hl]
   exact Option.some.inj h1
  exact subscriptTail_builtinR (x:=w) pl.isList.typeIs slot_list_getitem.lookup
   (wpAny_getItem_list_neg (Q:=fun r s'=>r=w/\EP X pins U Q r s') pl.isList (by omega) (by rw [List.size_toArray] <;> omega) (by omega) (by rw [hj];simpa using ew) ⟨rfl,fin⟩) hs
theorem Ra:IxR X (V2 X.K):=by
 intro value slice pins s U H x y v u Q I rx ry h hs
 obtain ⟨p,xs,i,z,rfl,rfl,hq,he,q⟩:=h
 cases rx
 obtain ⟨t,rfl⟩:=ry
 obtain ⟨its,r,pl,hz⟩:=I.tuple hq
 obtain ⟨j,h1,h2,h3,h4,h5⟩:=xN he
 obtain ⟨w,ew,rw'⟩:=r.get h2
 have hl:=r.length
 have hn:=uW
 have fin:EP X pins U Q w s:=⟨z,H,I,rw',q⟩
 exact subscriptTail_builtinR (x:=w) pl.typeIs slot_tuple_getitem.lookup
  (getItem_tuple (j:=j) (Q:=fun r s'=>r=w/\EP X pins U Q r s') pl (by omega) (by omega) (by rw [List.size_toArray,← hl];exact h1) (by simpa using ew) ⟨rfl,fin⟩) hs
theorem Rb:IxR X V3:=by
 intro value slice pins s U H x y v u Q I rx ry h hs
 obtain ⟨z,i,c,rfl,rfl,hz,he,q⟩:=h
 obtain ⟨t,rfl⟩:=rx
 obtain ⟨t',rfl⟩:=ry
 obtain ⟨j,h1,h2,h3,h4,h5⟩:=xN he
 have hl:z.cps.toList.length=z.length:=by simp [Str.length]
 rw [hl] at h1 h4 h5
 have hn:=uW
 exact tail_any (typeIs_str s z t) slot_str_getitem.lookup (getItem_str (c:=c) (by
  have e1:decide (i < -(2 ^ 63:Int))=false:=decide_eq_false (by omega)
  have e2:decide (i>=2 ^ 63)=false:=decide_eq_false (by omega)
  rw [e1,e2,Bool.or_false]) (by rw [h1];simpa using h2) ⟨.str ⟨#[c]⟩,H,I.tok _,⟨_,rfl⟩,q⟩) hs
def Rc (K:W.Frag):R2:=fun x y H Q=>V1 K x y H Q\/V2 K x y H Q\/V3 x y H Q
theorem Rf:IxR X (Rc X.K):=LK.or (Ra.or Rb)
theorem Bb (its:List Value) (n j:Nat) (u:Value):Obj.mapSeq (·.setIfInBounds j u) {cls:=.type "list",data:=.seq its.toArray n}={cls:=.type "list",data:=.seq (its.set j u).toArray n}:=by
 simp [Obj.mapSeq]
theorem Inv.lst {pins:List (Addr×Obj)} {U:St} {H:Hp} {s:Shared} {p:Addr} {xs:List V} (I:Inv X pins U H s) (h:H p=some (.lst xs)):
  ∃ (its:List Value) (n:Nat),Vals xs its/\s.heap.get? p=some {cls:=.type "list",data:=.seq its.toArray n}/\xs.length<=sizeLine:=by
 obtain ⟨z,its,n,r,e⟩:=I.hok p _ h
 exact ⟨its,n,r,e,z⟩
theorem Inv.lstUpd {pins:List (Addr×Obj)} {U:St} {H:Hp} {s:Shared} {p:Addr} {xs ys:List V} {its its':List Value} {n n':Nat} {f:Obj->Obj} (I:Inv X pins U H s) (h:H p=some (.lst xs))
  (ho:s.heap.get? p=some {cls:=.type "list",data:=.seq its.toArray n}) (hf:f {cls:=.type "list",data:=.seq its.toArray n}={cls:=.type "list",data:=.seq its'.toArray n'}) (r:Vals ys its') (hz:ys.length<=sizeLine) (t:Nat):
  Inv X pins U (upd H p (.lst ys)) {s with heap:=s.heap.update p f,toks:=t}:=by
 have e:(s.heap.update p f).get? p=some {cls:=.type "list",data:=.seq its'.toArray n'}:=by
  rw [Heap.get?_update_self f ho (by rw [hf] <;> rfl),hf]
 refine I.write (x:=p) (e:=p) (by rw [h];trivial) (.inl rfl) (fun b u hb q=>(Heap.get?_update_other _ _ (Ne.symm hb)).trans q) ⟨_,e⟩ ?_
 exact ⟨hz,its',n',r,e⟩
def yW:V->V->V->Hp->(Hp->Prop)->Prop:=fun o i v H Q=>∃ p xs k j,o= .ref p/\i= .int k/\H p=some (.lst xs)/\Cp xs.length k=some j/\Q (upd H p (.lst (xs.set j v)))
theorem set_list:Lh X yW:=by
 intro pins s U H o i v ov iv u Q I ro ri rv h
 obtain ⟨p,xs,k,j,rfl,rfl,hp,hj,q⟩:=h
 cases ro
 obtain ⟨t,rfl⟩:=ri
 obtain ⟨its,n,r,ho,hz⟩:=I.lst hp
 obtain ⟨h1,h2,h3,h4⟩:=Cq hj
 have hl:=r.length
 have hn:=uW
 have I':Inv X pins U (upd H p (.lst (xs.set j v))) {s with heap:=s.heap.update p (Obj.mapSeq (·.setIfInBounds j u))}:=
  I.lstUpd hp ho (Bb its n j u) (r.set rv j) (by rw [List.length_set];exact hz) s.toks
 by_cases h0:0<=k
 ·have hk:k.toNat=j:=by
   rw [seqIndex_of h0 h4] at h1
   exact Option.some.inj h1
  exact PySem.W.ki_setAt ho h0 (by omega) (by rw [List.size_toArray,← hl];exact h4) (by rw [hk];exact ⟨_,I',q⟩)
 ·have hk:(k+(its.toArray.size:Int)).toNat=j:=by
   rw [seqIndex_neg (by omega) h3] at h1
   rw [List.size_toArray,← hl]
   exact Option.some.inj h1
  exact PySem.W.ki_setBack ho (by omega) (by rw [List.size_toArray,← hl];exact h3) (by omega) (by rw [hk];exact ⟨_,I',q⟩)
theorem xO (lo hi:Option Int) (n:Nat):(sliceBounds lo hi none n).1=((HT.sIx n 0 lo:Nat):Int)/\(sliceBounds lo hi none n).2.1=((HT.sIx n n hi:Nat):Int)/\(sliceBounds lo hi none n).2.2=1:=by
 refine ⟨?_,?_,rfl⟩
 ·cases lo with
  | none=>simp [sliceBounds,HT.sIx]
  | some i=>
   simp only [sliceBounds,HT.sIx,Option.getD_none,show (1:Int) > 0 by decide,if_true]
   by_cases h:i < 0
   ·simp only [h,if_true] <;> omega
   ·simp only [h,if_false] <;> omega
 ·cases hi with
  | none=>simp [sliceBounds,HT.sIx]
  | some i=>
   simp only [sliceBounds,HT.sIx,Option.getD_none,show (1:Int) > 0 by decide,if_true]
   by_cases h:i < 0
   ·simp only [h,if_true] <;> omega
   ·simp only [h,if_false] <;> omega
theorem ww (its:List Value) (lo hi:Option Int):slicePick its.toArray lo hi none=((its.drop (HT.sIx its.length 0 lo)).take (HT.sIx its.length its.length hi - HT.sIx its.length 0 lo)).toArray:=by
 obtain ⟨h1,h2,h3⟩:=xO lo hi its.toArray.size
 unfold slicePick
 rw [h1,h2,h3]
 simp only [sliceRange_one,pick_run,List.size_toArray] <;> rfl
def V4 (K:W.Frag):V->Option Int->Option Int->Hp->VK->Prop:=fun x lo hi H Q=>∃ a xs,x= .ref a/\SqL K H a xs/\∀ p,H p=none->Q (.ref p) (upd H p (.lst (nJ xs lo hi)))
theorem LQ:SlR X (V4 X.K):=by
 intro pins s U H x v vl vu lo hi sl Q I rx hs pl pu h
 obtain ⟨a,xs,rfl,hx,q⟩:=h
 cases rx
 obtain ⟨its,r,ht,hz⟩:=I.list hx
 have hlen:=r.length
 refine ⟨"list",_,slot_list_getitem.lookup,ht.isList.typeIs,?_⟩
 refine wpAny_getItem_list_slice ht.isList hs pl pu .none (by simp) ?_ (by rw [List.size_toArray] <;> omega)
 rw [ww,← hlen]
 refine ⟨.ref s.heap.objs.size,_,I.laid (t':=s.toks) (o:=.lst (nJ xs lo hi)) (fun b ob q=>Heap.get?_push_of_some _ q) (Nat.le_refl _) ?_,rfl,q _ (I.hok.fresh (Nat.le_refl _))⟩
 exact ⟨Nat.le_trans (nY xs lo hi) hz,_,0,(r.drop (HT.sIx xs.length 0 lo)).take (HT.sIx xs.length xs.length hi - HT.sIx xs.length 0 lo),Heap.get?_push_size _ rfl⟩
def lw:V->Bool
 | .non=>true
 | .bl _=>true
 | .int _=>true
 | .str _=>true
 | _=>false
def Cu:V->V->Bool
 | .non,.non=>true
 | .bl a,.bl b=>a == b
 | .bl a,.int b=>(if a then 1 else 0) == b
 | .int a,.bl b=>a == (if b then 1 else 0)
 | .int a,.int b=>a == b
 | .str a,.str b=>a == b
 | _,_=>false
theorem uY {A:Around} {s:Shared} {y x:V} {u v:Value} (ry:RelV y u) (rx:RelV x v) (fy:lw y=true) (fx:lw x=true):SeqAt.EqAt A s u v (Cu y x):=by
 cases y with
 | non=>
  cases ry
  cases x with
  | non=>cases rx;exact SeqAt.EqAt.same _
  | bl b=>cases rx;exact SeqAt.EqAt.none_bool b
  | int b=>obtain ⟨t,rfl⟩:=rx;exact SeqAt.EqAt.none_int b t
  | str b=>obtain ⟨t,rfl⟩:=rx;exact SeqAt.EqAt.none_str b t
  | _=>exact absurd (show false=true from fx) Bool.false_ne_true
 | bl a=>
  cases ry
  cases x with
  | non=>cases rx;exact SeqAt.EqAt.bool_none a
  | bl b=>cases rx;exact SeqAt.EqAt.bool_bool a b
  | int b=>obtain ⟨t,rfl⟩:=rx;exact SeqAt.EqAt.bool_int a b t
  | str b=>obtain ⟨t,rfl⟩:=rx;exact SeqAt.EqAt.bool_str a b t
  | _=>exact absurd (show false=true from fx) Bool.false_ne_true
 | int a=>
  obtain ⟨t',rfl⟩:=ry
  cases x with
  | non=>cases rx;exact SeqAt.EqAt.int_none a t'
  | bl b=>cases rx;exact SeqAt.EqAt.int_bool a t' b
  | int b=>obtain ⟨t,rfl⟩:=rx;exact SeqAt.EqAt.int_int a t' b t
  | str b=>obtain ⟨t,rfl⟩:=rx;exact SeqAt.EqAt.int_str a t' b t
  | _=>exact absurd (show false=true from fx) Bool.false_ne_true
 | str a=>
  obtain ⟨t',rfl⟩:=ry
  cases x with
  | non=>cases rx;exact SeqAt.EqAt.str_none a t'
  | bl b=>cases rx;exact SeqAt.EqAt.str_bool a t' b
  | int b=>obtain ⟨t,rfl⟩:=rx;exact SeqAt.EqAt.str_int a t' b t
  | str b=>obtain ⟨t,rfl⟩:=rx;exact SeqAt.EqAt.str_str a t' b t
  | _=>exact absurd (show false=true from fx) Bool.false_ne_true
 | _=>exact absurd (show false=true from fy) Bool.false_ne_true
def LR (x:V) (u:Value):Bool:=match u with
 | .none=>Cu .non x
 | .bool b=>Cu (.bl b) x
 | .int i _=>Cu (.int i) x
 | .str z _=>Cu (.str z) x
 | _=>false
theorem Hl {x y:V} {u:Value} (r:RelV y u) (f:lw y=true):LR x u=Cu y x:=by
 cases y with
 | non=>cases r;rfl
 | bl b=>cases r;rfl
 | int i=>obtain ⟨t,rfl⟩:=r;rfl
 | str z=>obtain ⟨t,rfl⟩:=r;rfl
 | _=>exact absurd (show false=true from f) Bool.false_ne_true
theorem xP {x:V}:∀ {xs:List V} {us:List Value},Vals xs us->xs.all lw=true->us.any (LR x)=xs.any fun y=>Cu y x
 | _,_,.nil,_=>rfl
 | y :: xs,u :: us,.cons r t,f=>by
  rw [List.all_cons,Bool.and_eq_true] at f
  rw [List.any_cons,List.any_cons,Hl r f.1,xP t f.2]
theorem uZ {A:Around} {s:Shared} {x:V} {v:Value} (rx:RelV x v) (fx:lw x=true):∀ {xs:List V} {us:List Value},Vals xs us->xs.all lw=true->∀ u∈us,SeqAt.EqAt A s u v (LR x u)
 | _,_,.nil,_=>fun u hu=>by cases hu
 | y :: xs,u :: us,.cons r t,f=>fun u' hu=>by
  rw [List.all_cons,Bool.and_eq_true] at f
  rcases List.mem_cons.mp hu with rfl | hu
  ·rw [Hl r f.1];exact uY r rx f.1 fx
  ·exact uZ rx fx t f.2 u' hu
def inV (x:V) (xs:List V):Bool:=xs.any fun y=>Cu y x
def rIn (K:W.Frag) (neg:Bool):R2:=fun x y H Q=>∃ p xs,y= .ref p/\(SqL K H p xs\/SqT K H p xs)/\lw x=true/\xs.all lw=true/\Q (.bl (if neg then !inV x xs else inV x xs)) H
theorem Ei:OpR X (compareOp .In) (rIn X.K false):=by
 intro pins s U H x y v u Q I rx ry h
 obtain ⟨p,xs,rfl,hq,fx,fs,q⟩:=h
 cases ry
 rcases hq with hq | hq
 ·obtain ⟨its,r,pl,hz⟩:=I.list hq
  refine SeqAt.in_listAt (LR x) pl.isList (fun w hw=>uZ rx fx r fs w (by simpa using hw)) ⟨.bl _,H,I,rfl,?_⟩
  rw [show its.toArray.any (LR x)=its.any (LR x) by simp,xP r fs]
  exact q
 ·obtain ⟨its,r,pl,hz⟩:=I.tuple hq
  refine SeqAt.in_tupleAt (LR x) pl (fun w hw=>uZ rx fx r fs w (by simpa using hw)) ⟨.bl _,H,I,rfl,?_⟩
  rw [show its.toArray.any (LR x)=its.any (LR x) by simp,xP r fs]
  exact q
theorem CallR.or {f:Value} {r r':List V->Hp->VK->Prop} (h:CallR X f r) (h':CallR X f r'):CallR X f (fun xs H Q=>r xs H Q\/r' xs H Q):=by
 intro pins s U H xs us Q I rs q
 rcases q with q | q
 ·exact h pins s U H xs us Q I rs q
 ·exact h' pins s U H xs us Q I rs q
theorem xQ:CallR X (.type "list") (fun xs H Q=>∃ p ys,xs=[.ref p]/\(SqL X.K H p ys\/SqT X.K H p ys)/\∀ l,H l=none->Q (.ref l) (upd H l (.lst ys))):=by
 intro pins s U H xs us Q I r h
 obtain ⟨p,ys,rfl,hq,q⟩:=h
 obtain ⟨u,rfl,rx⟩:=vals1 r
 cases rx
 have fin:∀ (its:List Value),Vals ys its->ys.length<=sizeLine->∀ (h':Heap) (c':Nat),(∀ b o',s.heap.get? b=some o'->h'.get? b=some o')->
   h'.get? s.heap.objs.size=some {cls:=.type "list",dict:=none,data:=.seq its.toArray c',slots:=#[]}->EP X pins U Q (.ref s.heap.objs.size) {s with heap:=h'}:=fun its r' hz h' c' kp e=>
  ⟨.ref s.heap.objs.size,_,I.laid (t':=s.toks) kp (Nat.le_refl _) (show ObjOk X.prog X.w _ h' _ (.lst ys) from ⟨hz,its,c',r',e⟩),rfl,q _ (I.hok.fresh (Nat.le_refl _))⟩
 rcases hq with hq | hq
 ·obtain ⟨its,r',pl,hz⟩:=I.list hq
  have hlen:=r'.length
  obtain ⟨o,ho,hc,n,hd⟩:=pl.isList
  exact call_list_seq p (.inl rfl) ho hc hd (fun h' c' kp e=>fin its r' hz h' c' kp e) (by simp only [List.size_toArray] <;> omega)
 ·obtain ⟨its,r',pl,hz⟩:=I.tuple hq
  have hlen:=r'.length
  obtain ⟨o,ho,hc,n,hd⟩:=pl
  exact call_list_seq p (.inr rfl) ho hc hd (fun h' c' kp e=>fin its r' hz h' c' kp e) (by simp only [List.size_toArray] <;> omega)
def V5 (K:W.Frag) (T:String) (x:V) (H:Hp):Prop:=match x with
 | .str _=>T="str"
 | .int _=>T="int"
 | .ref p=>(T="list"/\∃ xs,SqL K H p xs)\/(T="tuple"/\∃ o,K.lookup p=some o/\o.cls= .type "tuple"/\o.dict=none)\/
   (T="dict"/\((∃ kvs,H p=some (.dK kvs))\/∃ kvs,H p=some (.dT kvs)))\/(T="set"/\∃ S n,H p=some (.set S n))
 | _=>False
theorem Hm {pins:List (Addr×Obj)} {U:St} {H:Hp} {s:Shared} {T:String} {x:V} {v:Value} (I:Inv X pins U H s) (r:RelV x v) (ty:V5 X.K T x H):
  s.TypeIs v T/\∀ a,v= .ref a->∃ ob,s.heap.get? a=some ob/\ob.dict=none:=by
 cases x with
 | str z=>
  obtain ⟨t,rfl⟩:=r
  cases (show T="str" from ty)
  exact ⟨typeIs_str s z t,fun _ e=>nomatch e⟩
 | int i=>
  obtain ⟨t,rfl⟩:=r
  cases (show T="int" from ty)
  exact ⟨typeIs_int s i t,fun _ e=>nomatch e⟩
 | ref p=>
  cases r
  rcases ty with ⟨rfl,xs,hq⟩ | ⟨rfl,o,hk,hc,hd⟩ | ⟨rfl,hk⟩ | ⟨rfl,S,n,hk⟩
  ·obtain ⟨its,_,pl,_⟩:=I.list hq
   refine ⟨pl.isList.typeIs,fun a e=>?_⟩
   cases e
   obtain ⟨o,n,e,c,hd,_⟩:=pl
   exact ⟨o,e,hd⟩
  ·refine ⟨⟨o,I.kIn p o hk,hc⟩,fun a e=>?_⟩
   cases e
   exact ⟨o,I.kIn _ o hk,hd⟩
  ·have z:∃ o,s.heap.get? p=some o/\o.ExactDict:=by
    rcases hk with ⟨kvs,hk⟩ | ⟨kvs,hk⟩
    ·obtain ⟨_,_,_,_,o,_,_,e,ex,_⟩:=I.hok p _ hk
     exact ⟨o,e,ex⟩
    ·obtain ⟨_,_,_,_,o,_,_,e,ex,_⟩:=I.hok p _ hk
     exact ⟨o,e,ex⟩
   obtain ⟨o,e,ex⟩:=z
   refine ⟨⟨o,e,ex.1⟩,fun a e2=>?_⟩
   cases e2
   exact ⟨o,e,ex.2.1⟩
  ·obtain ⟨o,_,_,_,e,ex,_⟩:=I.hok p _ hk
   refine ⟨⟨o,e,ex.1⟩,fun a e2=>?_⟩
   cases e2
   exact ⟨o,e,ex.2.1⟩
 | _=>exact False.elim ty
def Hn (K:W.Frag) (T:String) (r:V->List V->Hp->VK->Prop) (to:TE):TE:=fun U H Q=>to U H fun x H1=>V5 K T x H1/\r x [] H1 Q
def V6 (K:W.Frag) (T:String) (r:V->List V->Hp->VK->Prop) (to:TE) (t:TA):TE:=fun U H Q=>to U H fun x H1=>V5 K T x H1/\t U H1 fun xs H2=>r x xs H2 Q
variable {o e:Expr} {es:List Expr} {to:TE} {t:TA} {name:Str} {apos cpos:Pos} {T id:String} {r:V->List V->Hp->VK->Prop}
theorem Rg (pa:PlainAttrs T) (slot:Slot T name id) (hty:typeOf (.builtin id)=pure (.type "method_descriptor")) (hm:LC X id r) (ho:PE X o to)
  (hbase:autoParam (attributeBase o name X.env (eval o X.env)=eval o X.env) L2.auto4._auto_1) (hline:autoParam ((apos.endLine == cpos.line)=true) L2.auto4._auto_1):PE X (.Call (.Attribute o name apos) [] [] cpos) (Hn X.K T r to):=by
 intro pins s U H Q I h
 refine wpAny_Call_method0_late hbase hline (d7 (ho pins s U H _ I h) fun v s1 qq0=>?_)
 obtain ⟨x,H1,I1,r1,ty,q1⟩:=qq0
 obtain ⟨h1,h2⟩:=Hm I1 r1 ty
 exact ⟨T,id,pa,slot,hty,h1,h2,Calls.callWith_builtin rfl (PySem.evalArgs_none (hm pins s1 U H1 x [] v [] Q I1 r1 .nil q1))⟩
theorem V7 (pa:PlainAttrs T) (slot:Slot T name id) (hty:typeOf (.builtin id)=pure (.type "method_descriptor")) (hm:LC X id r) (ho:PE X o to) (ha:PA X (e :: es) t)
  (hbase:autoParam (attributeBase o name X.env (eval o X.env)=eval o X.env) L2.auto4._auto_1)
  (hfew:((backTo cpos (starEach (e :: es) X.env)).all (fun x=>!x.1) && (backToKw cpos (keywordEach [] X.env)).all (fun x=>x.1.isSome)
   && decide ((e :: es).length+([]:List Keyword).length+(if ([]:List Keyword).isEmpty then 0 else 1) < 30))=true:=by rfl)
  (hline:autoParam ((apos.endLine == cpos.line)=true) L2.auto4._auto_1) (hs:autoParam (starEach (e :: es) X.env=(false,eval e X.env) :: starEach es X.env) L2.auto4._auto_1) (hplain:autoParam ((backTo cpos (starEach es X.env)).any (·.1)=false) L2.auto4._auto_1):
  PE X (.Call (.Attribute o name apos) (e :: es) [] cpos) (V6 X.K T r to t):=by
 intro pins s U H Q I h
 refine wpAny_Call_method_late hbase hfew hline rfl (d7 (ho pins s U H _ I h) fun v s1 qq0=>?_)
 obtain ⟨x,H1,I1,r1,ty,q1⟩:=qq0
 obtain ⟨h1,h2⟩:=Hm I1 r1 ty
 refine ⟨T,id,pa,slot,hty,h1,h2,?_⟩
 have hA:=ha cpos pins s1 U H1 _ I1 q1
 rw [hs] at hA ⊢
 refine Calls.callWith_builtin (by show (false || (backTo cpos (starEach es X.env)).any (·.1))=false;rw [hplain] <;> rfl) (Calls.evalArgs_plain ?_)
 exact d7 hA fun us s2 ⟨vs,H2,I2,r2,q2⟩=>hm pins s2 U H2 x vs v us Q I2 r1 r2 q2
end
def MtM (X:Cx) (id:String) (r:V->List V->Hp->VK->Prop):Prop:=
 ∀ (pins:List (Addr×Obj)) (s:Shared) (U:St) (H:Hp) (x:V) (xs:List V) (v:Value) (us:List Value) (Q:VK),Inv X pins U H s->RelV x v->Vals xs us->r x xs H Q->
  wpAny (model X.prog X.w) X.A (call (.builtin id) (v :: us)) (EP X pins U Q) X.xe s
theorem Vals.one:∀ {x:V} {us:List Value},Vals [x] us->∃ u,us=[u]/\RelV x u
 | _,_,.cons r .nil=>⟨_,rfl,r⟩
theorem Vals.zero:∀ {us:List Value},Vals [] us->us=[]
 | _,.nil=>rfl
theorem Vals.reverse {xs:List V} {us:List Value} (h:Vals xs us):Vals xs.reverse us.reverse:=by
 induction h with
 | nil=>exact .nil
 | cons r t ih=>rw [List.reverse_cons,List.reverse_cons];exact Vals.append ih (.cons r .nil)
theorem Vals.rep {xs:List V} {us:List Value} (h:Vals xs us):∀ k:Nat,Vals (List.replicate k xs).flatten (List.replicate k us).flatten
 | 0=>.nil
 | k+1=>by
  rw [List.replicate_succ,List.replicate_succ,List.flatten_cons,List.flatten_cons]
  exact Vals.append h (Vals.rep h k)
theorem foldl_rep (its:List Value):∀ (k:Nat) (acc:List Value),
  List.foldl (fun x1 x2=>x1 ++ x2) acc.toArray (List.replicate k its.toArray)=(acc ++ (List.replicate k its).flatten).toArray
 | 0,acc=>by simp
 | k+1,acc=>by
  have e:acc.toArray ++ its.toArray=(acc ++ its).toArray:=by simp
  have e2:(acc ++ its) ++ (List.replicate k its).flatten=acc ++ (List.replicate (k+1) its).flatten:=by
   rw [List.replicate_succ,List.flatten_cons,List.append_assoc]
  rw [← e2,← foldl_rep its k (acc ++ its),← e,List.replicate_succ,List.foldl_cons]
section
variable {X:Cx} {pins:List (Addr×Obj)} {U:St} {H:Hp} {s:Shared} {l b:Addr} {xs ys zs:List V}
theorem Inv.lset {its its':List Value} {n:Nat} {f:Array Value->Array Value} {t':Nat} (I:Inv X pins U H s) (hH:H l=some (.lst xs))
  (e:s.heap.get? l=some {cls:=.type "list",data:=.seq its.toArray n}) (hf:f its.toArray=its'.toArray) (hv:Vals ys its') (hz:ys.length<=sizeLine):
  Inv X pins U (upd H l (.lst ys)) {s with heap:=s.heap.update l (Obj.mapSeq f),toks:=t'}:=by
 have q:=PySem.IsL.update e f
 rw [hf] at q
 refine I.write (x:=l) (e:=l) (by rw [hH];exact trivial) (.inl rfl) (fun b' u hb hu=>(Heap.get?_update_other s.heap (Obj.mapSeq f) (Ne.symm hb)).trans hu) ⟨_,q⟩ ?_
 exact ⟨hz,its',_,hv,q⟩
theorem Inv.lnew {its:List Value} {t':Nat} (I:Inv X pins U H s) (hv:Vals ys its) (hz:ys.length<=sizeLine):
  Inv X pins U (upd H s.heap.objs.size (.lst ys)) {s with heap:=s.heap.push {cls:=.type "list",data:=.seq its.toArray},toks:=t'}:=
 I.laid (fun _ _ q=>Heap.get?_push_of_some _ q) (Nat.le_refl _) ⟨hz,its,0,hv,Heap.get?_push_size _ rfl⟩
theorem Inv.fresh (I:Inv X pins U H s):H s.heap.objs.size=none:=I.hok.fresh (Nat.le_refl _)
theorem Inv.lstM (I:Inv X pins U H s) (hH:H l=some (.lst xs)):xs.length<=sizeLine/\∃ (its:List Value) (n:Nat),Vals xs its/\xs.length=its.length/\s.heap.get? l=some {cls:=.type "list",data:=.seq its.toArray n}:=by
 obtain ⟨z,its,n,r,e⟩:=I.hok l _ hH
 exact ⟨z,its,n,r,r.length,e⟩
theorem yX {n:Nat} (h:n<=sizeLine):Builtin.List.listTooLong n=false:=by
 unfold Builtin.List.listTooLong
 exact decide_eq_false (by omega)
end
section
variable {X:Cx}
def Cv:V->List V->Hp->VK->Prop:=fun x vs H Q=>∃ l xs y,x= .ref l/\vs=[y]/\H l=some (.lst xs)/\xs.length < sizeLine/\Q .non (upd H l (.lst (xs ++ [y])))
theorem gY:MtM X "list.append" Cv:=by
 intro pins s U H x vs v us Q I rx rv h
 obtain ⟨l,xs,y,rfl,rfl,hH,hz,q⟩:=h
 cases rx
 obtain ⟨u,rfl,ru⟩:=rv.one
 obtain ⟨z,its,n,r,hl,e⟩:=I.lstM hH
 refine call_meets F.slot_list_append ⟨_,e,rfl⟩ F.entry_list_append (F.args_list_append_2 _ _) (PySem.list_append l its.toArray n u (by rw [List.size_toArray];omega)) ⟨e,?_⟩
 refine ⟨.non,_,I.lset (its':=its ++ [u]) hH e (by simp) (r.append (.cons ru .nil)) ?_,rfl,q⟩
 rw [List.length_append,List.length_singleton]
 omega
def Ma:V->List V->Hp->VK->Prop:=fun x vs H Q=>∃ l b xs zs,x= .ref l/\vs=[.ref b]/\H l=some (.lst xs)/\H b=some (.lst zs)/\xs.length+zs.length<=sizeLine/\Q .non (upd H l (.lst (xs ++ zs)))
theorem wQ:MtM X "list.extend" Ma:=by
 intro pins s U H x vs v us Q I rx rv h
 obtain ⟨l,b,xs,zs,rfl,rfl,hH,hB,hz,q⟩:=h
 cases rx
 obtain ⟨u,rfl,ru⟩:=rv.one
 cases ru
 obtain ⟨z,its,n,r,hl,e⟩:=I.lstM hH
 obtain ⟨z2,its2,n2,r2,hl2,e2⟩:=I.lstM hB
 have hsz:its.toArray.size+its2.toArray.size<=sizeLine:=by rw [List.size_toArray,List.size_toArray];omega
 have hlong:¬ (!its.toArray.isEmpty && Builtin.List.listTooLong (its.toArray.size+its2.toArray.size))=true:=by
  rw [yX hsz,Bool.and_false]
  exact Bool.false_ne_true
 refine call_meets F.slot_list_extend ⟨_,e,rfl⟩ F.entry_list_extend (F.args_list_extend_2 _ _)
  (AutoSeq1.list_extend_list_list_0 l its.toArray n b its2.toArray n2 hlong (by rw [List.size_toArray];omega) (by omega)) ⟨e,e2,?_⟩
 refine ⟨.non,_,I.lset (its':=its ++ its2) hH e (by simp) (r.append r2) ?_,rfl,q⟩
 rw [List.length_append]
 omega
def Rh:V->List V->Hp->VK->Prop:=fun x vs H Q=>∃ l xs,x= .ref l/\vs=[]/\H l=some (.lst xs)/\Q .non (upd H l (.lst []))
theorem yZ:MtM X "list.clear" Rh:=by
 intro pins s U H x vs v us Q I rx rv h
 obtain ⟨l,xs,rfl,rfl,hH,q⟩:=h
 cases rx
 have hus:=rv.zero
 subst hus
 obtain ⟨z,its,n,r,hl,e⟩:=I.lstM hH
 refine call_meets F.slot_list_clear ⟨_,e,rfl⟩ F.entry_list_clear (F.args_list_clear_1 _) (AutoSeq1.list_clear_list_0 l its.toArray n (by rw [List.size_toArray];omega)) ⟨e,?_⟩
 exact ⟨.non,_,I.lset (its':=[]) (ys:=[]) hH e rfl .nil (Nat.zero_le _),rfl,q⟩
def V8:R2:=fun x y H Q=>∃ l b xs zs,x= .ref l/\y= .ref b/\H l=some (.lst xs)/\H b=some (.lst zs)/\xs.length+zs.length<=sizeLine/\∀ p,H p=none->Q (.ref p) (upd H p (.lst (xs ++ zs)))
theorem Ri:OpR X (binaryOp .Add) V8:=by
 intro pins s U H x y v u Q I rx ry h
 obtain ⟨l,b,xs,zs,rfl,rfl,hH,hB,hz,q⟩:=h
 cases rx
 cases ry
 obtain ⟨z,its,n,r,hl,e⟩:=I.lstM hH
 obtain ⟨z2,its2,n2,r2,hl2,e2⟩:=I.lstM hB
 refine PySem.P.add_list e e2 ?_ (by rw [List.size_toArray,List.size_toArray];omega)
 have ea:its.toArray ++ its2.toArray=(its ++ its2).toArray:=by simp
 rw [ea]
 exact ⟨.ref _,_,I.lnew (t':=s.toks) (r.append r2) (by rw [List.length_append];omega),rfl,q _ I.fresh⟩
def V9:R2:=fun x y H Q=>∃ l k xs,x= .ref l/\y= .int k/\H l=some (.lst xs)/\-(2 ^ 63)<=k/\k < 2 ^ 63/\xs.length*k.toNat<=sizeLine/\
 ∀ p,H p=none->Q (.ref p) (upd H p (.lst (List.replicate k.toNat xs).flatten))
theorem len_rep {α:Type} (xs:List α) (k:Nat):(List.replicate k xs).flatten.length=k*xs.length:=by
 induction k with
 | zero=>simp
 | succ k ih=>rw [List.replicate_succ,List.flatten_cons,List.length_append,ih,Nat.succ_mul,Nat.add_comm]
theorem Rj:OpR X (binaryOp .Mult) V9:=by
 intro pins s U H x y v u Q I rx ry h
 obtain ⟨l,k,xs,rfl,rfl,hH,h1,h2,hz,q⟩:=h
 cases rx
 obtain ⟨t,rfl⟩:=ry
 obtain ⟨z,its,n,r,hl,e⟩:=I.lstM hH
 have hlen:its.toArray.size*k.toNat<=sizeLine:=by rw [List.size_toArray,← hl];exact hz
 have hcap:¬ its.toArray.size*k.toNat > (2 ^ 63 - 1) / 8:=by
  have:(sizeLine:Nat)<=(2 ^ 63 - 1) / 8:=by decide
  omega
 have hfit:¬ (!Builtin.List.listFitsIndex k)=true:=by
  rw [fitsIndex_both h1 h2]
  exact Bool.false_ne_true
 have hlong:¬ Builtin.List.listTooLong (its.toArray.size*k.toNat)=true:=by
  rw [yX hlen]
  exact Bool.false_ne_true
 have hnew:List.foldl (fun x1 x2=>x1 ++ x2) #[] (List.replicate (if its.toArray.isEmpty=true then 0 else k.toNat) its.toArray)=(List.replicate k.toNat its).flatten.toArray:=by
  have f0:∀ m:Nat,List.foldl (fun x1 x2=>x1 ++ x2) #[] (List.replicate m its.toArray)=(List.replicate m its).flatten.toArray:=fun m=>by
   have:=foldl_rep its m []
   rw [List.nil_append] at this
   exact this
  rw [f0]
  cases its with
  | nil=>simp
  | cons a r'=>rw [if_neg (by simp)]
 refine wpAny_binaryOp_repeat_ref (T:="list") (U:="int") (by decide) ⟨_,e,rfl⟩ (fun s'=>typeIs_int s' k t) noFill_list_mul F.fills_int_mul F.slot_int_rmul repeat_list F.slot_int_index.lookup
  (call_meets F.slot_int_rmul (typeIs_int s k t) F.entry_int_rmul (F.args_int_rmul_2 _ _) (int___rmul___int_list k t l its.toArray n)
   ⟨e,rfl,⟨_,e,rfl⟩,call_meets F.slot_list_mul ⟨_,e,rfl⟩ F.entry_list_mul (F.args_list_mul_2 _ _) (AutoListH.list___mul___list_int_3 l its.toArray n k t hfit hcap hlong) ⟨e,?_⟩⟩)
 rw [hnew]
 exact ⟨.ref _,_,I.lnew (t':=s.toks) (r.rep k.toNat) (by rw [len_rep,Nat.mul_comm];exact hz),rfl,q _ I.fresh⟩
end
end L2
namespace Att
open PySem PySem.W PySem.Calls PyProof.Rows
theorem ud {P:Params} {h:Heap}:∀ (ns:List Int) (vs:List Value),WellAll P h vs (ns.map WData.int)->IntsAre vs ns:=by
 intro ns
 induction ns with
 | nil=>
  intro vs w
  rw [List.map_nil] at w
  cases w
  exact .nil
 | cons n ns ih=>
  intro vs w
  rw [List.map_cons] at w
  cases w with
  | cons a b=>
   cases a
   exact .cons _ _ (ih _ b)
theorem Ej {l:OpenLaw} {n:Nat} (hn:l.most=some n) {P:Params} {h:Heap} {args:List WData} {vals:List Value}
  (hpre:l.row.toRowW.claim.pre args=true) (hwl:WellAll P h vals args):
  ∃ a vs ns,vals=[Value.ref a]/\args=[WData.list (ns.map WData.int)]/\h.get? a=some {cls:=.type "list",data:=.seq vs.toArray}/\IntsAre vs ns/\ns.length<=n:=by
 have hsh:WShape.hasAll [] args [.list .int]=true:=(pre_splitW hpre).1
 have hc:l.pre.holds [] {args:=args}=true:=(pre_splitW hpre).2
 obtain ⟨d,r,rfl,h1,h2⟩:=hasAllW_cons hsh
 obtain rfl:=hasAllW_nil h2
 obtain ⟨xs,rfl,h3⟩:=hasW_list h1
 obtain ⟨ns,rfl⟩:=items_int h3
 have hlen:ns.length<=n:=by
  unfold OpenLaw.pre at hc
  have h4:(WTm.not (.lt (.lit (.int (n:Int))) (.len (.arg 0)))).holds [] {args:=[.list (ns.map .int)]}=true:=by
   have h4:=(holds_andW hc).1
   rw [hn] at h4
   exact h4
  have h5:=condW_of h4 (w_not (w_lt w_lit (w_len_list (w_arg rfl))))
  rw [List.length_map] at h5
  refine Nat.le_of_not_lt fun q=>?_
  have q':(n:Int) < ((ns.length:Nat):Int):=by omega
  first
   | (rw [decide_eq_true q'] at h5;exact absurd h5 (by decide))
   | (simp at h5;omega)
 cases hwl with
 | cons w1 w2=>
  cases w2
  cases w1 with
  | list ho hall=>exact ⟨_,_,ns,rfl,rfl,ho,ud ns _ hall,hlen⟩
theorem Ek (l:OpenLaw) (args:List WData):l.row.toRowW.claim.post args (.bool true) args=true:=
 postW_of (r:=l.row.toRowW) (X:=(true == true))
  (show WShape.has [] (.bool true) .bool=true by first | rfl | decide | simp [WShape.has,WShape.arms,WShape.armsAll])
  (show (WTm.eq .res (.lit (.bool true))).value [] {args:=args,res:=some (.bool true),after:=args}=some (.bool (true == true)) from w_eq_bool (w_res rfl) w_lit) rfl
theorem attach_call {l:OpenLaw} {n:Nat} {q:Program} {loose:List Str} {XP:(Str->Option Value)->Heap->Prop} {YP:World->Heap->Prop} {d:DefRec}
  (hn:l.most=some n) (hdf:d.params.defaults=[])
  (call:∀ (w:World) (s₀ s₁:Shared) (mg mb:Str->Option Value) (fa:Addr) (o:Obj) (pm cd doc:Value) (a:Addr) (vs:List Value) (ns:List Int),
   Ground q loose [] XP w s₀ mg mb s₁.heap->YP w s₁.heap->
   s₁.heap.get? fa=some o->o.data= .func (docDef d.name d.params d.body d.scope pm cd doc)->s₁.heap.CodeRec cd d.name->mg d.name=some (.ref fa)->
   s₁.heap.get? a=some {cls:=.type "list",data:=.seq vs.toArray}->IntsAre vs ns->ns.length<=n->s₁.gens= #[]->
   codeAny (model l.prog w) callerA (.call (.ref fa) ⟨[.ref a],[]⟩) (fun r s'=>r= .ok (.ret (.bool true))/\OldK s₁.heap s'.heap/\s'.os=s₁.os/\AllBare s'.gens) s₁):
  WalkO q loose XP YP l.row.toRowW d [] (fun f vs=>PySem.call f vs):=by
 intro w s₀ s₁ mg mb G Y fa o pm cd doc dV kV ho hd hcd hD hmg hg args vals as hpre hlay hrd hwl hlo
 obtain rfl:dV= .none:=Dflts.none hD hdf
 obtain rfl:kV= .none:=Dflts.noKw hD
 obtain ⟨a,vs,ns,rfl,rfl,hobj,hints,hlen⟩:=Ej hn hpre hwl
 refine enter_call (codeAny_mono (call w s₀ s₁ mg mb fa o pm cd doc a vs ns G Y ho (fd_plain hd) hcd hmg hobj hints hlen hg) fun r s' hq=>?_)
 obtain ⟨rfl,h2,h3,h4⟩:=hq
 exact ⟨.inl ⟨.bool true,.bool true,[],rfl,fun _=>rfl,.bool true,Ek l _,fun _=>⟨List.Pairwise.nil,fun _ hm=>(nomatch hm)⟩⟩,h2,h3,h4⟩
end Att
namespace L2
open PySem PySem.Spec PyProof.Rows
theorem wR:∀ {vs:List Value} {ns:List Int},IntsAre vs ns->Vals (ns.map V.int) vs
 | _,_,.nil=>.nil
 | _,_,.cons n t h=>.cons ⟨t,rfl⟩ (wR h)
def Only (H:Hp):Prop:=∀ b,H b=none\/∃ o xs,H b=some (.frz o (.lst xs))
theorem Ho {P:Program} {w:World} {K:W.Frag} {mg mb:Str->Option Value} {CX:Gp} {k:Nat} {fa a:Addr} {fd:FuncData} {x:Str} {sp:Sp} {s₁:Shared} {vs:List Value} {ns:List Int}
  (KX:K.In s₁.heap) (hns:s₁.heap.Ns mainGlobals mg) (hb:s₁.heap.Ns builtinsNs mb) (hbb:∀ x:Str,x≠"__name__"->mb x=bootBuiltins x) (hlim:s₁.heap.NoLimit) (hsm:∃ mm,s₁.heap.Ns sysModules mm) (hg:s₁.gens= #[])
  (ha:s₁.heap.get? a=some {cls:=.type "list",data:=.seq vs.toArray}) (hi:IntsAre vs ns) (hl:ns.length<=sizeLine) (hr:Room k callerA)
  (F:∀ base:Heap,K.In base->base.Ns mainGlobals mg->rY P w K mg base CX k fa fd [x] sp) (hbind:∀ (s:Shared) (u:Value),BindsTo s fd ⟨[u],[]⟩ [(x,u)])
  (hsp:∀ H:Hp,Only H->SqL K H a (ns.map V.int)->sp [.ref a] H (fun v _=>v= .bl true) fun _ _ _=>False)
  (hCX:∀ H e s',CX [] H s₁ (fun _ _ _=>False) e s'->False):
  codeAny (model P w) callerA (.call (.ref fa) ⟨[.ref a],[]⟩) (fun r s'=>r= .ok (.ret (.bool true))/\OldK s₁.heap s'.heap/\s'.os=s₁.os/\AllBare s'.gens) s₁:=by
 have rv:=wR hi
 have lenV:=hi.length
 have core:∀ H:Hp,Only H->SqL K H a (ns.map V.int)->HOk P w H s₁.heap->(∀ b,H b≠none->b=a)->(H a≠none->K.lookup a=none)->
   codeAny (model P w) callerA (.call (.ref fa) ⟨[.ref a],[]⟩) (fun r s'=>r= .ok (.ret (.bool true))/\OldK s₁.heap s'.heap/\s'.os=s₁.os/\AllBare s'.gens) s₁:=by
  intro H hO hS hok hA hK
  have base_of:∀ {b:Addr} {o:Obj},s₁.heap.get? b=some o->H b=none->(xH s₁.heap H).get? b=some o:=fun e n=>Gw e n
  have noA:∀ {b:Addr} {o:Obj} {es:Array DictEntry} {ep:Nat},s₁.heap.get? b=some o->o.data= .dict es ep->H b=none:=fun {b o es ep} e d=>by
   cases q:H b with
   | none=>rfl
   | some u=>
    have e':b=a:=hA b (by rw [q];simp)
    subst e'
    rw [ha] at e;cases e
    have d':Data.seq vs.toArray _=Data.dict es ep:=d
    cases d'
  have nsK:∀ {b:Addr} {m:Str->Option Value},s₁.heap.Ns b m->(xH s₁.heap H).Ns b m:=fun {b m} ⟨o,es,ep,e,d,r⟩=>⟨o,es,ep,base_of e (noA e d),d,r⟩
  have hKb:K.In (xH s₁.heap H):=fun b o e=>base_of (KX b o e) (by
   cases q:H b with
   | none=>rfl
   | some u=>
    have e':b=a:=hA b (by rw [q];simp)
    subst e'
    rw [hK (by rw [q];simp)] at e;cases e)
  have hM:Mod K mg (xH s₁.heap H):=⟨hKb,nsK hns,⟨mb,nsK hb,hbb⟩,(let ⟨mc,h1,h2⟩:=hlim;⟨mc,nsK h1,h2⟩),let ⟨mm,h1⟩:=hsm;⟨mm,nsK h1⟩⟩
  have e0:Env0 P w K mg (xH s₁.heap H) callerA [] s₁ H:=⟨rfl,hM,fun b o e=>K7 e,Nat.le_of_eq (DQ _ _),trivial,fun b hb=>absurd (show b∈([]:List Addr) from hb) (by simp),hok,.of_eq hg⟩
  refine codeAny_mono ((F _ hKb (nsK hns)).run callerA [] s₁ H ⟨[.ref a],[]⟩ [.ref a] [.ref a] _ _ hr e0 (hbind s₁ (.ref a)) (.cons rfl .nil) (hsp H hO hS)) fun r s' h=>?_
  cases r with
  | error e=>exact (hCX H e s' h).elim
  | ok fl=>
   cases fl with
   | next=>exact False.elim h
   | brk=>exact False.elim h
   | cont=>exact False.elim h
   | ret u=>
    obtain ⟨v,H',os,bare,un,hok',r',q⟩:=h
    have q':v= .bl true:=q
    subst q'
    obtain rfl:u=Value.bool true:=r'
    refine ⟨rfl,OldK.of_keep fun b o e=>?_,os,bare⟩
    cases q:H b with
    | none=>exact un.keep b o e q (by intro z;exact absurd (show b∈([]:List Addr) from z) (by simp)) (by simp)
    | some u=>
     rcases hO b with z | ⟨ob,xs,z⟩
     ·rw [q] at z;cases z
     ·have z2:=un.frzs b ob _ z
      obtain ⟨e1,_⟩:=hok b _ z
      obtain ⟨e2,_⟩:=hok' b _ z2
      rw [e] at e1;cases e1
      exact e2
 cases hk:K.lookup a with
 | some o=>
  have e:=KX a o hk
  rw [ha] at e
  cases e
  refine core (fun _=>none) (fun _=>.inl rfl) (.inr ⟨_,vs.toArray,_,hk,rfl,rfl,rfl,by rw [List.size_toArray,lenV];exact hl,by simpa using rv⟩) (fun b u z=>by have z':(none:Option HO)=some u:=z;cases z') (fun b z=>absurd rfl z) fun z=>absurd rfl z
 | none=>
  refine core (fun b=>if b=a then some (.frz {cls:=.type "list",data:=.seq vs.toArray} (.lst (ns.map V.int))) else none) (fun b=>?_) (.inl (.inr ⟨{cls:=.type "list",data:=.seq vs.toArray},if_pos rfl⟩)) (fun b u z=>?_) (fun b z=>?_) fun _=>hk
  ·by_cases hb:b=a
   ·exact .inr ⟨_,_,if_pos hb⟩
   ·exact .inl (if_neg hb)
  ·by_cases hb:b=a
   ·have z':=(if_pos hb).symm.trans z
    cases z'
    subst hb
    exact ⟨ha,by rw [List.length_map];exact hl,vs,_,rv,ha⟩
   ·have z':=(if_neg hb).symm.trans z
    cases z'
  ·by_cases hb:b=a
   ·exact hb
   ·exact absurd (if_neg hb) z
abbrev KOf {K:W.Frag} {h:Heap} (_:K.In h):W.Frag:=K
theorem Mf {l:PySem.W.OpenLaw} {n k:Nat} {q:Program} {loose:List Str} {XP:(Str->Option Value)->Heap->Prop} {YP:World->Heap->Prop} {d:DefRec} {K:Params->W.Frag} {CX:World->Gp} {sp:World->Sp} {x:Str}
  (hn:l.most=some n) (hn2:n<=sizeLine) (hdf:d.params.defaults=[]) (hr:Room k callerA)
  (hY:∀ (w:World) (h:Heap),YP w h->(K w.params).In h)
  (F:∀ (w:World) (mg:Str->Option Value) (fa:Addr) (h:Heap),(K w.params).In h->h.Ns mainGlobals mg->mg d.name=some (.ref fa)->
   ∃ fd:FuncData,(∀ (s:Shared) (u:Value),BindsTo s fd ⟨[u],[]⟩ [(x,u)])/\
    ∀ base:Heap,(K w.params).In base->base.Ns mainGlobals mg->rY l.prog w (K w.params) mg base (CX w) k fa fd [x] (sp w))
  (hsp:∀ (w:World) (H:Hp) (a:Addr) (ns:List Int),ns.length<=n->Only H->SqL (K w.params) H a (ns.map V.int)->sp w [.ref a] H (fun v _=>v= .bl true) fun _ _ _=>False)
  (hCX:∀ (w:World) (H:Hp) (s:Shared) (e:Value) (s':Shared),CX w [] H s (fun _ _ _=>False) e s'->False) (him:importsNone q=true):
  PySem.W.WalkO q loose XP YP l.row.toRowW d [] (fun f vs=>PySem.call f vs):=by
 refine Att.attach_call hn hdf fun w s₀ s₁ mg mb fa o pm cd doc a vs ns G Y ho hd hcd hmg hobj hints hlen hg=>?_
 have KX:=hY w _ Y
 obtain ⟨fd,hb,hF⟩:=F w mg fa _ KX G.T.g hmg
 exact Ho KX G.T.g G.T.b G.T.builtins G.T.nolimit (let ⟨mm,h1,_⟩:=(G.T.seer him).mods;⟨mm,h1⟩) hg hobj hints (Nat.le_trans hlen hn2) hr hF hb (fun H hO hS=>hsp w H a ns hlen hO hS) fun H e s'=>hCX w H s₁ e s'
def iy (s:Stmt):Arguments:=match s with
 | .FunctionDef _ a _ _ _ _ _ _ _ _=>a
 | _=>{posonlyargs:=[],args:=[],vararg:=none,kwonlyargs:=[],kw_defaults:=[],kwarg:=none,defaults:=[]}
def dm (s:Stmt):List Stmt:=match s with
 | .FunctionDef _ _ b _ _ _ _ _ _ _=>b
 | _=>[]
def au (s:Stmt):Scope:=match s with
 | .FunctionDef _ _ _ _ _ _ sc _ _ _=>sc
 | _=>{kind:=.function,names:=[],isGenerator:=false,isCoroutine:=false}
abbrev Bc:Gp:=fun _ _ _ _ _ _=>False
abbrev E0:XK:=fun _ _ _=>False
theorem Wa {X:Cx}:Ay Bc X E0:=fun _ _ _ _ _ _ _ h=>h.elim
structure Fun (K:W.Frag) (x qual:Str) (st:Stmt) (f:Addr) (fd:FuncData):Prop where
 ex:∃ (oc:Value) (od:Option Addr) (kV doc pm:Value) (an:Option Addr) (cdv ct:Value) (osl:Array (Option Value)),
  fd=PySem.W.fnOf x qual (iy st) (dm st) (au st) .none kV doc pm an cdv ct/\K.lookup f=some ⟨oc,od,.func fd,osl⟩/\PySem.W.codeIn K cdv qual=true
 kp:PySem.W.keepIn K (.ref f)=true
section
variable {P:Program} {w:World} {K:W.Frag} {mg:Str->Option Value} {base:Heap}
theorem Fun.ok {x qual:Str} {st:Stmt} {f:Addr} {fd:FuncData} {N ps:List Str} {k:Nat} {sp:Sp} (F:Fun K x qual st f fd) (S:aJ N ps (au st)) (len:∀ vs H Q E,sp vs H Q E->vs.length=ps.length)
  (hbody:∀ (cdv:Value) (A:Around) (outer:List Env) (s:Shared) (H:Hp) (vs:List V) (Q:VK) (E:XK),Room k (A.deeper (envOfC qual (au st) s.heap.objs.size f cdv))->sp vs H Q E->
   ∃ t,PSs (qK Bc P w K mg base N qual (au st) f cdv A outer s H E).nox (dm st) t/\t {nx:=fun _ H'=>Q .non H',rt:=Q} (start N vs) H):rY P w K mg base Bc (k+1) f fd ps sp:=by
 obtain ⟨oc,od,kV,doc,pm,an,cdv,ct,osl,rfl,lk,hcd⟩:=F.ex
 refine O9 lk hcd S len fun A outer s H vs Q E hr hsp=>?_
 obtain ⟨t,h,q⟩:=hbody cdv A outer s H vs Q E hr hsp
 exact ⟨t,h.nox,q⟩
theorem Fun.binds {x qual:Str} {st:Stmt} {f:Addr} {fd:FuncData} {ps:List Str} (F:Fun K x qual st f fd)
  (h:∀ (kV doc pm:Value) (an:Option Addr) (cdv ct:Value) (us:List Value),us.length=ps.length->bindArgs (PySem.W.fnOf x qual (iy st) (dm st) (au st) .none kV doc pm an cdv ct) ⟨us,[]⟩=pure (ps.zip us)):Binds K fd ps []:=by
 obtain ⟨oc,od,kV,doc,pm,an,cdv,ct,osl,rfl,lk,hcd⟩:=F.ex
 exact .all (h kV doc pm an cdv ct)
theorem Hq {x qual:Str} {st:Stmt} {f:Addr} {oc:Value} {od an:Option Addr} {osl:Array (Option Value)} {kV doc pm cdv ct:Value} (l:K.lookup f=some ⟨oc,od,.func (PySem.W.fnOf x qual (iy st) (dm st) (au st) .none kV doc pm an cdv ct),osl⟩)
  (c:PySem.W.codeIn K cdv qual=true) (k:PySem.W.keepIn K (.ref f)=true):Fun K x qual st f (PySem.W.fnOf x qual (iy st) (dm st) (au st) .none kV doc pm an cdv ct):=⟨⟨oc,od,kV,doc,pm,an,cdv,ct,osl,rfl,l,c⟩,k⟩
end
theorem qL {A B:Prop} (h:B):if false=true then A else B:=by
 rw [if_neg Bool.false_ne_true]
 exact h
theorem jz {A B:Prop} (h:A):if true=true then A else B:=by
 rw [if_pos rfl]
 exact h
def Same (H H':Hp):Prop:=∀ b o,H b=some o->H' b=some o
theorem Same.refl (H:Hp):Same H H:=fun _ _ h=>h
theorem Same.trans {H H1 H2:Hp} (a:Same H H1) (b:Same H1 H2):Same H H2:=fun c o h=>b c o (a c o h)
theorem Same.free {H H':Hp} (e:Same H H') {l:Addr} (h:H' l=Option.none):H l=Option.none:=by
 cases q:H l with
 | none=>rfl
 | some o=>
  rw [e l o q] at h
  cases h
theorem Same.seq {K:W.Frag} {H H':Hp} {a:Addr} {xs:List V} (e:Same H H') (h:SqL K H a xs):SqL K H' a xs:=by
 rcases h with (h | ⟨o,h⟩) | h
 ·exact .inl (.inl (e _ _ h))
 ·exact .inl (.inr ⟨o,e _ _ h⟩)
 ·exact .inr h
end L2
set_option maxHeartbeats 4000000
namespace L2
open PySem PySem.Spec PyProof.Rows
def ue (env:Env):List (Str×NameKind)->List (Str×Addr)->List (Str×Addr)
 | [],acc=>acc
 | (n,k) :: r,acc=>ue env r (if k == .free then (match env.cells.lookup n with | some c=>(n,c) :: acc | none=>acc) else acc)
theorem u0 {env:Env}:∀ {names:List (Str×NameKind)} {acc:List (Str×Addr)},(∀ x c,(x,c)∈acc->env.cells.lookup x=some c)->∀ x c,(x,c)∈ue env names acc->env.cells.lookup x=some c
 | [],_,h,x,c,m=>h x c m
 | (n,k) :: r,acc,h,x,c,m=>by
  refine u0 (names:=r) ?_ x c m
  intro y d hm
  cases hk:(k == NameKind.free) with
  | false=>rw [hk] at hm;exact h y d hm
  | true=>
   rw [hk] at hm
   simp only [if_true] at hm
   cases e:env.cells.lookup n with
   | none=>rw [e] at hm;exact h y d hm
   | some c'=>
    rw [e] at hm
    rcases List.mem_cons.mp hm with z | z
    ·cases z;exact e
    ·exact h y d z
theorem za {env:Env}:∀ {names:List (Str×NameKind)} {acc:List (Str×Addr)} {p:Str×Addr},p∈acc->p∈ue env names acc
 | [],_,_,h=>h
 | (n,k) :: r,acc,p,h=>by
  refine za (names:=r) ?_
  split
  ·split
   ·exact List.mem_cons_of_mem _ h
   ·exact h
  ·exact h
theorem u5 {env:Env} {x:Str} {c:Addr} (e:env.cells.lookup x=some c):∀ {names:List (Str×NameKind)} {acc:List (Str×Addr)},(x,NameKind.free)∈names->(x,c)∈ue env names acc
 | [],_,h=>by simp at h
 | (n,k) :: r,acc,h=>by
  rcases List.mem_cons.mp h with z | z
  ·cases z
   refine za (names:=r) ?_
   rw [e]
   simp
  ·exact u5 e (names:=r) z
theorem wy {l:List (Str×Addr)} {x:Str} {c:Addr} (hm:(x,c)∈l) (ha:∀ d,(x,d)∈l->d=c):l.lookup x=some c:=by
 induction l with
 | nil=>simp at hm
 | cons p r ih=>
  obtain ⟨n,d⟩:=p
  by_cases e:x=n
  ·subst e
   have:d=c:=ha d (by simp)
   subst this
   simp [List.lookup_cons]
  ·have hb:(x == n)=false:=by simpa using e
   rw [List.lookup_cons,hb]
   refine ih ?_ fun d' h'=>ha d' (List.mem_cons_of_mem _ h')
   rcases List.mem_cons.mp hm with z | z
   ·cases z;exact absurd rfl e
   ·exact z
theorem zb {env:Env} {names:List (Str×NameKind)} {x:Str} {c:Addr} (e:env.cells.lookup x=some c) (h:(x,NameKind.free)∈names):(ue env names []).lookup x=some c:=
 wy (u5 e h) fun d hd=>by
  have q:=u0 (names:=names) (acc:=[]) (env:=env) (by simp) x d hd
  rw [e] at q
  exact (Option.some.inj q).symm
theorem El {env:Env} {names:List (Str×NameKind)} {x:Str} {c:Addr} (e:(ue env names []).lookup x=some c):env.cells.lookup x=some c:=
 u0 (names:=names) (acc:=[]) (env:=env) (by simp) x c (PySem.mem_of_lookup e)
theorem p8 {env:Env}:∀ (names:List (Str×NameKind)) (acc:List (Str×Addr)),(∀ x∈names,x.2=NameKind.free->∃ c,env.cells.lookup x.1=some c)->
  (forIn (m:=Sem) names acc fun x r=>match x with
   | (name,kind)=>if (kind == NameKind.free)=true then do let c ← cellOf env name;pure (ForInStep.yield ((name,c) :: r)) else pure (ForInStep.yield r))=pure (ue env names acc)
 | [],acc,_=>rfl
 | (n,k) :: r,acc,h=>by
  rw [List.forIn_cons]
  cases hk:(k == NameKind.free) with
  | false=>
   simp only [hk,Bool.false_eq_true,if_false,pure_bind,ue]
   exact p8 r acc fun x hx=>h x (List.mem_cons_of_mem _ hx)
  | true=>
   obtain ⟨c,e⟩:=h (n,k) List.mem_cons_self (by simpa using hk)
   simp only [hk,if_true,pure_bind,ue,cellOf,e]
   exact p8 r ((n,c) :: acc) fun x hx=>h x (List.mem_cons_of_mem _ hx)
theorem pP {scope:Scope} {env:Env} (h:∀ x∈scope.names,x.2=NameKind.free->∃ c,env.cells.lookup x.1=some c):closureFor scope env=pure (ue env scope.names []):=by
 unfold closureFor
 have:=p8 (env:=env) scope.names [] h
 simp only [this,pure_bind]
theorem wU {prog:Program} {w:World} {A:Around} {R:Result->Shared->Prop} {s:Shared} {elt target iter:Expr} {ifs:List Expr} {scope:Scope} {pos:Pos} {it acc:Value} {env:Env} (I:Nat->Shared->Prop)
  (turn:∀ n s,I n s->wpAny (model prog w) A (pyNext it) (fun r s₁=>match r with
   | none=>R (.ok .next) s₁
   | some v=>wpAny (model prog w) A (letOwnedTupleGo target it v) (fun _ s₁'=>wpAny (model prog w) A (assign target env v) (fun _ s₂=>
     wpAny (model prog w) A (forIn ifs true fun c r=>if r=true then do let ok ← isTrue c env (eval c env);pure (ForInStep.yield ok) else pure (ForInStep.yield r)) (fun ok s₃=>
      if ok=true then wpAny (model prog w) A (eval elt env) (fun x s₄=>
       wpAny (model prog w) A (call (.builtin "list.append") [acc,x]) (fun _ s₅=>∃ m,m < n/\I m s₅) (fun _ _=>False) s₄) (fun _ _=>False) s₃
      else ∃ m,m < n/\I m s₃) (fun _ _=>False) s₂) (fun _ _=>False) s₁') (fun _ _=>False) s₁) (fun _ _=>False) s)
  (n:Nat) (h:I n s):
  codeAny (model prog w) A (.compLoop (.ListComp elt [⟨target,iter,ifs,0⟩] scope pos) 0 it acc env) R s:=by
 refine codeAny_loop rfl I (fun n s hI=>?_) n h
 show wpAny _ A ((compTurn (.ListComp elt [⟨target,iter,ifs,0⟩] scope pos) 0 it acc env).onRaise (fun x=>do noteFrame x env;theTreesLotGoes x)) _ _ s
 refine wpAny_noted ?_
 rw [compTurn_list]
 refine wpAny_bind (wpAny_standAt (wpAny_bind (wpAny_mono (turn n s hI) (fun r s₁ h₁=>?_) fun _ _ h'=>h'.elim)))
 cases r with
 | none=>exact wpAny_pure h₁
 | some v=>
  refine wpAny_bind (wpAny_mono h₁ (fun _ s₁' h₁'=>?_) fun _ _ h'=>h'.elim)
  refine wpAny_bind (wpAny_mono h₁' (fun _ s₂ h₂=>wpAny_bind (wpAny_mono h₂ (fun ok s₃ h₃=>?_) fun _ _ h'=>h'.elim)) fun _ _ h'=>h'.elim)
  cases ok with
  | false=>exact wpAny_pure ⟨rfl,h₃⟩
  | true=>
   exact wpAny_bind (wpAny_bind (wpAny_mono h₃ (fun x s₄ h₄=>wpAny_bind (wpAny_mono h₄ (fun _ s₅ h₅=>wpAny_pure (wpAny_pure ⟨rfl,h₅⟩)) fun _ _ h'=>h'.elim)) fun _ _ h'=>h'.elim))
theorem dH:∀ (names:List (Str×NameKind)) (n:Nat) (acc:List (Str×Addr)),cellsFrom n names acc=cellsFrom n names [] ++ acc
 | [],_,_=>rfl
 | (x,k) :: r,n,acc=>by
  unfold cellsFrom
  split
  ·rw [dH r (n+1) ((x,n) :: acc),dH r (n+1) [(x,n)],List.append_assoc];rfl
  ·exact dH r n acc
theorem qM {α:Type}:∀ {A B:List (Str×α)} {x:Str},(A ++ B).lookup x=(match A.lookup x with | some c=>some c | none=>B.lookup x)
 | [],_,_=>rfl
 | (y,c) :: A,B,x=>by
  rw [List.cons_append,List.lookup_cons,List.lookup_cons]
  cases x == y with
  | true=>rfl
  | false=>exact qM (A:=A)
theorem u6:∀ {names:List (Str×NameKind)} {n:Nat} {acc:List (Str×Addr)} {x:Str} {c:Addr},(x,c)∈cellsFrom n names acc->(x,c)∈acc\/(x,NameKind.cell)∈names
 | [],_,_,_,_,h=>.inl h
 | (y,k) :: r,n,acc,x,c,h=>by
  unfold cellsFrom at h
  split at h
  ·rename_i hk
   rcases u6 h with z | z
   ·rcases List.mem_cons.mp z with z | z
    ·cases z
     have:k= .cell:=by simpa using hk
     rw [this];exact .inr List.mem_cons_self
    ·exact .inl z
   ·exact .inr (List.mem_cons_of_mem _ z)
  ·exact (u6 h).imp id (List.mem_cons_of_mem _)
theorem qN {α:Type}:∀ {l:List (Str×α)} {x:Str} {c:α},(x,c)∈l->∃ d,l.lookup x=some d
 | (y,d) :: r,x,c,h=>by
  by_cases e:x=y
  ·subst e;exact ⟨d,by simp [List.lookup_cons]⟩
  ·have hb:(x == y)=false:=by simpa using e
   rw [List.lookup_cons,hb]
   rcases List.mem_cons.mp h with z | z
   ·cases z;exact absurd rfl e
   ·exact qN z
theorem qO:∀ {names:List (Str×NameKind)} {n:Nat} {acc:List (Str×Addr)} {x:Str},(x,NameKind.cell)∈names\/(∃ c,(x,c)∈acc)->∃ c,(x,c)∈cellsFrom n names acc
 | [],_,_,_,h=>h.elim (fun h=>by simp at h) id
 | (y,k) :: r,n,acc,x,h=>by
  unfold cellsFrom
  split
  ·refine qO ?_
   rcases h with h | ⟨c,h⟩
   ·rcases List.mem_cons.mp h with z | z
    ·cases z;exact .inr ⟨n,List.mem_cons_self⟩
    ·exact .inl z
   ·exact .inr ⟨c,List.mem_cons_of_mem _ h⟩
  ·rename_i hk
   refine qO ?_
   rcases h with h | h
   ·rcases List.mem_cons.mp h with z | z
    ·cases z;exact absurd (by decide) hk
    ·exact .inl z
   ·exact .inr h
def Em (X:Cx) (scope:Scope) (C:Addr):List (Str×Addr):=cellsFrom (C+1) scope.names (ue X.env scope.names [])
section
variable {M:Model} {A:Around} {E:Value->Shared->Prop} {s:Shared}
theorem gZ {scope:Scope} {globals:Addr} {cl:List (Str×Addr)} {qual:Str} {env:Env} {Q:Env->Shared->Prop}
  (hQ:∀ h':Heap,h'.Ns s.heap.objs.size (fun _=>none)->(∀ b o,s.heap.get? b=some o->h'.get? b=some o)->CellsOk h' (s.heap.objs.size+1) (cellsFrom (s.heap.objs.size+1) scope.names [])->
   Q (newEnv scope s.heap.objs.size globals (cellsFrom (s.heap.objs.size+1) scope.names cl) qual none .none (some env) builtinsNs) {s with heap:=h',toks:=s.toks+([]:List (Str×Value)).length}):
  wpAny M A (newFunctionEnv scope globals cl [] qual none .none (some env)) Q E s:=by
 simp only [newFunctionEnv,Option.isSome_some,if_true]
 refine wpAny_bind (wpAny_alloc ?_)
 refine wpAny_bind (wpAny_layCells _ (fun name kind cells=>by cases hkc:kind == NameKind.cell <;> simp [hkc]) _ _ _ _ ?_)
 have ok:=cellsFrom_ok scope.names (s.heap.push {cls:=.type "dict",data:=.dict #[]}) (s.heap.objs.size+1) [] ⟨fun _ _ hm=>(nomatch hm),List.Pairwise.nil⟩ (by rw [Heap.size_push];exact Nat.le_refl _)
 rw [Heap.size_push] at ok
 rw [show ({s with heap:=s.heap.push {cls:=.type "dict",data:=.dict #[]}}:Shared).heap.objs.size=s.heap.objs.size+1 from Heap.size_push ..]
 exact wpAny_bind (wpAny_pure (wpAny_pure (hQ _ ((Heap.Ns.new s.heap (.type "dict")).keeps (pushCells_keeps _ _)) (fun b o e=>pushCells_keeps _ _ b o (Heap.get?_push_of_some _ e)) ok)))
end
def pL (X:Cx) (N':List Str) (scope:Scope) (C:Addr) (s₀:Shared) (H₀:Hp) (ex:List Addr):Cx:=
 {X with N:=N',s₀:=s₀,H₀:=H₀,env:=compEnvC scope (Em X scope C) C X.env,outer:=X.stack,ex:=ex,fn:=fun x=>decide (scope.names.lookup x=some .cell),pn:=[],xe:=fun _ _=>False}
def fY (sub:List (Option Nat)) (U:St):St:=sub.map fun o=>o.bind fun j=>(U[j]?).join
structure tR (N:List Str) (sc:Scope) (N':List Str) (scope:Scope) (sub:List (Option Nat)):Prop where
 kind:scope.kind= .function
 cel:∀ x∈scope.names,x.2= .cell->scope.names.lookup x.1=some .cell
 loc:∀ x∈scope.names,x.2= .local->scope.names.lookup x.1=some .local
 free:∀ x∈scope.names,x.2= .free->sc.names.lookup x.1=some .cell\/sc.names.lookup x.1=some .free
 len:sub.length=N'.length
 at_:∀ (i j:Nat) (x:Str),sub[i]?=some (some j)->N'[i]?=some x->N[j]?=some x/\(x,NameKind.free)∈scope.names/\scope.names.lookup x=some .free
def Hr (N:List Str) (sc:Scope) (N':List Str) (scope:Scope) (sub:List (Option Nat)):Bool:=
 decide (scope.kind= .function) && scope.names.all (fun x=>decide (x.2= .cell->scope.names.lookup x.1=some .cell)) && scope.names.all (fun x=>decide (x.2= .local->scope.names.lookup x.1=some .local)) &&
 scope.names.all (fun x=>decide (x.2= .free->sc.names.lookup x.1=some .cell\/sc.names.lookup x.1=some .free)) && decide (sub.length=N'.length) &&
 (List.range sub.length).all fun i=>match sub[i]?,N'[i]? with
  | some (some j),some x=>decide (N[j]?=some x/\(x,NameKind.free)∈scope.names/\scope.names.lookup x=some .free)
  | _,_=>true
theorem cH {N:List Str} {sc:Scope} {N':List Str} {scope:Scope} {sub:List (Option Nat)} (h:Hr N sc N' scope sub=true):tR N sc N' scope sub:=by
 simp only [Hr,Bool.and_eq_true,decide_eq_true_eq,List.all_eq_true] at h
 obtain ⟨⟨⟨⟨⟨h1,h2⟩,h3⟩,h4⟩,h5⟩,h6⟩:=h
 refine ⟨h1,h2,h3,h4,h5,fun i j x e1 e2=>?_⟩
 have hi:i < sub.length:=(List.getElem?_eq_some_iff.mp e1).1
 have q:=h6 i (List.mem_range.mpr hi)
 rw [e1,e2] at q
 simpa using q
def Hs:TT:=fun _ H Q=>Q true H
def xR (X:Cx) (ifs:List Expr) (t:TT):Prop:=
 ∀ (pins:List (Addr×Obj)) (s:Shared) (U:St) (H:Hp) (Q:Bool->Hp->Prop),Inv X pins U H s->t U H Q->
  wpAny (model X.prog X.w) X.A (forIn ifs true fun c r=>if r=true then do let ok ← isTrue c X.env (eval c X.env);pure (ForInStep.yield ok) else pure (ForInStep.yield r)) (TP X pins U Q) X.xe s
theorem Ht {X:Cx}:xR X [] Hs:=fun _ _ _ H _ I h=>wpAny_tests_nil ⟨H,I,h⟩
theorem Hu {X:Cx} {c:Expr} {t:TT} (hc:PT X c t):xR X [c] t:=fun pins s U H Q I h=>wpAny_tests_one (hc pins s U H Q I h)
def KeepSt (U U':St):Prop:=U'.length=U.length/\∀ (i:Nat) (v:V),U[i]?=some (some v)->U'[i]?=some (some v)
theorem KeepSt.set {U:St} {i:Nat} {v:V} (h:U[i]?=some none):KeepSt U (U.set i (some v)):=by
 refine ⟨by simp,fun j u e=>?_⟩
 by_cases hj:i=j
 ·subst hj;rw [h] at e;cases e
 ·rw [List.getElem?_set_ne hj];exact e
def u9 (sub:List (Option Nat)) (wi:TI) (g:TG) (tt:TT) (te:TE):TE:=fun U H Q=>wi U H fun J H1=>∃ W:Nat->Nat->List V->Hp->Prop,(∃ m,W 0 m [] H1)/\∀ i m ys H,W i m ys H->
 (J.stop i H/\ys.length<=sizeLine/\∀ D,H D=none->Q (.ref D) (upd H D (.lst ys)))\/
 (J.go i H/\ys.length < sizeLine/\∃ N:List V->Hp->Prop,(∀ ys' H',N ys' H'->∃ m',m' < m/\W (i+1) m' ys' H')/\
  ∀ x H',J.yld i H x H'->g x (fY sub U) H' fun σ2 H2=>KeepSt (fY sub U) σ2/\tt σ2 H2 fun b H3=>if b=true then te σ2 H3 fun y H4=>N (ys ++ [y]) H4 else N ys H3)
theorem qP {scope:Scope} {env:Env} {x:Str} (hx:scope.names.lookup x=some .free):(relabel scope env).names.lookup x=some .cell\/(relabel scope env).names.lookup x=some .free:=by
 have:∀ names:List (Str×NameKind),names.lookup x=some .free->
  (names.map fun (n,k)=>if (k == NameKind.free && env.scope.kind == .function && env.kindOf n == some .cell) then (n,NameKind.cell) else (n,k)).lookup x=some .cell\/
  (names.map fun (n,k)=>if (k == NameKind.free && env.scope.kind == .function && env.kindOf n == some .cell) then (n,NameKind.cell) else (n,k)).lookup x=some .free:=by
  intro names
  induction names with
  | nil=>intro h;simp at h
  | cons p r ih=>
   obtain ⟨n,k⟩:=p
   intro h
   by_cases e:x=n
   ·subst e
    have hk:k= .free:=by simpa [List.lookup_cons] using h
    subst hk
    by_cases hc:((NameKind.free == NameKind.free && env.scope.kind == .function && env.kindOf x == some .cell)=true)
    ·left;simp only [List.map_cons];rw [if_pos hc];simp [List.lookup_cons]
    ·right;simp only [List.map_cons];rw [if_neg hc];simp [List.lookup_cons]
   ·have hb:(x == n)=false:=by simpa using e
    rw [List.lookup_cons,hb] at h
    have q:=ih h
    simp only [List.map_cons]
    split <;> (rw [List.lookup_cons,hb];exact q)
 exact this scope.names hx
theorem xT {scope:Scope} {env:Env} {x:Str} (h:(relabel scope env).names.lookup x=some .cell\/(relabel scope env).names.lookup x=some .free):(x,NameKind.cell)∈scope.names\/(x,NameKind.free)∈scope.names:=by
 have key:∀ k,(k=NameKind.cell\/k=NameKind.free)->(relabel scope env).names.lookup x=some k->(x,NameKind.cell)∈scope.names\/(x,NameKind.free)∈scope.names:=by
  intro k hk hl
  have hm:=PySem.mem_of_lookup hl
  unfold relabel at hm
  obtain ⟨⟨n,k'⟩,hm1,hm2⟩:=List.mem_map.mp hm
  dsimp only at hm2
  by_cases hc:(k' == NameKind.free && env.scope.kind == .function && env.kindOf n == some .cell)=true
  ·rw [if_pos hc] at hm2
   cases hm2
   simp only [Bool.and_eq_true,beq_iff_eq] at hc
   rw [← hc.1.1];exact .inr hm1
  ·rw [if_neg hc] at hm2
   cases hm2
   rcases hk with hk | hk
   ·subst hk;exact .inl hm1
   ·subst hk;exact .inr hm1
 rcases h with h | h
 ·exact key _ (.inl rfl) h
 ·exact key _ (.inr rfl) h
section
variable {X:Cx} {tg iter elt:Expr} {ifs:List Expr} {scope:Scope} {pos:Pos} {N':List Str} {sub:List (Option Nat)} {wi:TI} {g:TG} {tt:TT} {te:TE}
theorem wV {pins:List (Addr×Obj)} {U:St} {H:Hp} {s:Shared} {fp:List Addr} {D:Addr} {h':Heap} {tk:Nat} {N:List Str} {sc:Scope} (S:tR N sc N' scope sub) (hN:X.N=N) (hsc:X.env.scope=sc) (I:Inv X pins U H s) (hf:∀ b∈fp,lg X pins H b) (hfo:∀ b∈fp,b < s.heap.objs.size)
  (hD:D < s.heap.objs.size) (fD:lg X pins H D) (hns:h'.Ns s.heap.objs.size fun _=>none) (hk:∀ b o,s.heap.get? b=some o->h'.get? b=some o) (hc:CellsOk h' (s.heap.objs.size+1) (cellsFrom (s.heap.objs.size+1) scope.names [])):
  Inv (pL X N' scope s.heap.objs.size s H (D :: fp)) [] (fY sub U) H {s with heap:=h',toks:=tk}:=by
 have hex:∀ b∈D :: fp,lg X pins H b/\b < s.heap.objs.size:=fun b hb=>by
  rcases List.mem_cons.mp hb with rfl | z
  ·exact ⟨fD,hD⟩
  ·exact ⟨hf b z,hfo b z⟩
 have spl:∀ {x c},(Em X scope s.heap.objs.size).lookup x=some c->(h'.IsCell c none/\s.heap.objs.size+1<=c/\(x,c)∈cellsFrom (s.heap.objs.size+1) scope.names [])\/(X.env.cells.lookup x=some c/\∃ o,s.heap.get? c=some o):=fun {x c} h=>by
  unfold Em at h
  rw [dH,qM] at h
  cases e:(cellsFrom (s.heap.objs.size+1) scope.names []).lookup x with
  | some d=>
   rw [e] at h
   cases h
   have m:=PySem.mem_of_lookup e
   exact .inl ⟨(hc.empty _ _ m).1,(hc.empty _ _ m).2,m⟩
  | none=>
   rw [e] at h
   have z:=El h
   obtain ⟨v,o,ho,_⟩:=I.cell x c z
   exact .inr ⟨z,o,ho⟩
 have fre:∀ {x c},(x,NameKind.free)∈scope.names->scope.names.lookup x=some .free->X.env.cells.lookup x=some c->(Em X scope s.heap.objs.size).lookup x=some c:=fun {x c} h1 h2 h3=>by
  unfold Em
  rw [dH,qM]
  cases e:(cellsFrom (s.heap.objs.size+1) scope.names []).lookup x with
  | some d=>
   rcases u6 (PySem.mem_of_lookup e) with z | z
   ·cases z
   ·have:=S.cel _ z rfl
    rw [h2] at this;cases this
  | none=>exact zb h3 h1
 refine ⟨⟨I.ok.mod,S.kind,I.ok.glob,I.ok.blt,Nat.le_refl _,fun x y c h1 h2=>?_,fun x hx=>?_,fun x c hx h=>?_,I.ok.hd,I.ok.frames,.inl rfl,fun b hb=>?_,I.bs,Nat.le_trans I.ok.bsz I.sz,fun b o e hb=>?_,fun b hb=>?_,I.stack,I.stkFree⟩,
  rfl,I.bare,Un.kept hk,⟨_,hns,fun i x v h1 h2 h3=>?_⟩,fun x c h=>?_,I.hok.fresh (Nat.le_refl _),fun x c h=>?_,fun p hp=>(nomatch hp),I.hok.kept hk,?_⟩
 ·rcases spl h1 with ⟨_,l1,m1⟩ | ⟨z1,o1,q1⟩ <;> rcases spl h2 with ⟨_,l2,m2⟩ | ⟨z2,o2,q2⟩
  ·exact PySem.name_of_addr hc.apart m1 m2
  ·exact absurd (Nat.lt_of_lt_of_le (Heap.lt_size q2) (Nat.le_of_succ_le l1)) (Nat.lt_irrefl _)
  ·exact absurd (Nat.lt_of_lt_of_le (Heap.lt_size q1) (Nat.le_of_succ_le l2)) (Nat.lt_irrefl _)
  ·exact I.ok.inj x y c z1 z2
 ·rcases xT hx with z | z
  ·obtain ⟨c,m⟩:=qO (n:=s.heap.objs.size+1) (acc:=ue X.env scope.names []) (.inl z)
   exact qN m
  ·obtain ⟨c,e⟩:=I.ok.has x (by have:=S.free _ z rfl;rw [← hsc] at this;exact this)
   show ∃ c,(Em X scope s.heap.objs.size).lookup x=some c
   unfold Em
   rw [dH]
   exact qN (c:=c) (List.mem_append_right _ (u5 e z))
 ·have hx':scope.names.lookup x=some .cell:=by simpa [pL] using hx
  rcases spl h with ⟨_,l,_⟩ | ⟨z,o,q⟩
  ·exact Nat.le_of_succ_le l
  ·exfalso
   have m:(x,NameKind.cell)∈scope.names:=PySem.mem_of_lookup hx'
   obtain ⟨d,md⟩:=qO (n:=s.heap.objs.size+1) (acc:=[]) (.inl m)
   obtain ⟨d',e'⟩:=qN md
   have h:(Em X scope s.heap.objs.size).lookup x=some c:=h
   unfold Em at h
   rw [dH,qM,e'] at h
   cases h
   exact absurd (Nat.lt_of_lt_of_le (Heap.lt_size q) (Nat.le_of_succ_le (hc.empty _ _ (PySem.mem_of_lookup e')).2)) (Nat.lt_irrefl _)
 ·obtain ⟨⟨f0,f1,f2,f3,f4,f5⟩,hlt⟩:=hex b hb
  refine ⟨Nat.ne_of_lt hlt,fun x c h=>?_⟩
  rcases spl h with ⟨_,l,_⟩ | ⟨z,_⟩
  ·exact fun z=>absurd (Nat.lt_of_lt_of_le hlt (Nat.le_of_succ_le (z ▸ l))) (Nat.lt_irrefl _)
  ·exact f4 x c z
 ·obtain ⟨⟨f0,f1,f2,f3,f4,f5⟩,hlt⟩:=hex b hb
  rcases f3 with z | z
  ·exact I.ok.noex b o e z
  ·exact absurd (Nat.lt_of_lt_of_le (Heap.lt_size (I.ok.bs b o e).1) z) (Nat.lt_irrefl _)
 ·obtain ⟨⟨f0,f1,f2,f3,f4,f5⟩,hlt⟩:=hex b hb
  intro z
  rcases List.mem_cons.mp (I.stkSub b z) with z | z
  ·exact f1 z
  ·exact f2 z
 ·have hs:∃ j,sub[i]?=some (some j)/\U[j]?=some (some v):=by
   unfold fY at h2
   rw [List.getElem?_map] at h2
   cases e:sub[i]? with
   | none=>rw [e] at h2;cases h2
   | some o=>
    rw [e] at h2
    cases o with
    | none=>cases h2
    | some j=>
     refine ⟨j,rfl,?_⟩
     have h3:(U[j]?).join=some v:=Option.some.inj h2
     cases e2:U[j]? with
     | none=>rw [e2] at h3;cases h3
     | some z=>rw [e2] at h3;cases z with
      | none=>cases h3
      | some z=>cases h3;rfl
  obtain ⟨j,e1,e2⟩:=hs
  obtain ⟨g1,g2,g3⟩:=S.at_ i j x e1 h1
  rw [← hN] at g1
  obtain ⟨m,hn,hl⟩:=I.loc
  have hkf:X.env.kindOf x=some .cell\/X.env.kindOf x=some .free:=by have:=S.free _ g2 rfl;rw [← hsc] at this;exact this
  have hvis:Y0 X.env.scope x:=by
   rcases hkf with z | z
   ·exact .inr (.inl z)
   ·exact .inr (.inr z)
  obtain ⟨u,r,l⟩:=hl j x v g1 e2 hvis
  refine ⟨u,r,.inr ⟨qP g3,?_⟩⟩
  rcases l with ⟨k,_⟩ | ⟨_,c,e,o,ho,hd⟩
  ·have k':X.env.kindOf x=some .local:=k
   rcases hkf with z | z <;> (rw [k'] at z;cases z)
  ·exact ⟨c,fre g2 g3 e,o,hk _ _ ho,hd⟩
 ·rcases spl h with ⟨z,_⟩ | ⟨z,_⟩
  ·exact ⟨_,z⟩
  ·obtain ⟨v,o,ho,hd⟩:=I.cell x c z
   exact ⟨v,o,hk _ _ ho,hd⟩
 ·rcases spl h with ⟨_,l,_⟩ | ⟨z,_⟩
  ·exact I.hok.fresh (Nat.le_of_succ_le l)
  ·exact I.freeC x c z
 ·show (fY sub U).length=N'.length
  unfold fY
  rw [List.length_map]
  exact S.len
theorem Cw {N:List Str} {sc:Scope} (S:tR N sc N' scope sub) (hc:X.calm=true) (hN:X.N=N) (hsc:X.env.scope=sc) (hi:PI X tg iter wi)
  (hg:∀ (C:Addr) (s₀:Shared) (H₀:Hp) (ex:List Addr),PG (pL X N' scope C s₀ H₀ ex) tg g)
  (ht:∀ (C:Addr) (s₀:Shared) (H₀:Hp) (ex:List Addr),xR (pL X N' scope C s₀ H₀ ex) ifs tt)
  (he:∀ (C:Addr) (s₀:Shared) (H₀:Hp) (ex:List Addr),PE (pL X N' scope C s₀ H₀ ex) elt te)
  (hs:autoParam (∀ x,foldedSetIterable iter X.env x=pure x) L2.auto3._auto_1):
  PE X (.ListComp elt [⟨tg,iter,ifs,0⟩] scope pos) (u9 sub wi g tt te):=by
 intro pins s U H Q I h
 rw [eval_ListComp]
 have hcl:∀ x∈scope.names,x.2=NameKind.free->∃ c,X.env.cells.lookup x.1=some c:=fun x hx hk=>I.ok.has x.1 (by have:=S.free x hx hk;rw [← hsc] at this;exact this)
 refine wpAny_comprehension_free (use:=none) rfl hs (pP hcl) S.kind S.loc ?_
 refine d7 (hi pins s U H _ I h) fun v s1 h1=>d7 h1 fun itv s2 h2=>?_
 obtain ⟨it,fp,tn,J,H2,e,I2,T,st2,f2,W,⟨m0,w0⟩,turn⟩:=h2
 subst e
 refine wpAny_newObj_type (gZ fun h₁ hns₁ hk31 hcl₁=>?_)
 dsimp only at hns₁ hk31 hcl₁ ⊢
 generalize hs3:({s2 with heap:=s2.heap.push {cls:=.type "list",dict:=none,data:=.seq ([]:List Value).toArray}}:Shared)=s3
 have e3:s2.heap.push {cls:=.type "list",dict:=none,data:=.seq ([]:List Value).toArray}=s3.heap:=by rw [← hs3]
 rw [e3] at hns₁ hk31 hcl₁ ⊢
 have hD3:s3.heap.get? s2.heap.objs.size=some {cls:=.type "list",dict:=none,data:=.seq ([]:List Value).toArray}:=by rw [← e3];exact Heap.get?_push_size _ rfl
 have I3:Inv X pins U H2 s3:=by
  rw [← hs3]
  exact I2.kept (t':=s2.toks) fun b o e=>Heap.get?_push_of_some _ e
 have k23:∀ b o,s2.heap.get? b=some o->s3.heap.get? b=some o:=fun b o e=>by rw [← e3];exact Heap.get?_push_of_some _ e
 have hsz:s3.heap.objs.size=s2.heap.objs.size+1:=by rw [← e3,Heap.size_push]
 have hDn:H2 s2.heap.objs.size=none:=I2.hok.fresh (Nat.le_refl _)
 have fD:lg X pins H2 s2.heap.objs.size:=I2.fpOk (Nat.le_refl _) hDn
 have hfo:∀ b∈fp,b < s2.heap.objs.size:=fun b hb=>let ⟨o,e,_⟩:=T.obj _ _ st2 b hb;Heap.lt_size e
 have hDfp:s2.heap.objs.size ∉ fp:=fun z=>absurd (hfo _ z) (Nat.lt_irrefl _)
 have I4:=wV (tk:=s3.toks+([]:List (Str×Value)).length) S hN hsc I3 f2 (fun b hb=>by rw [hsz];exact Nat.lt_succ_of_lt (hfo b hb)) (D:=s2.heap.objs.size) (by rw [hsz];exact Nat.lt_succ_self _) fD hns₁ hk31 hcl₁
 have stat:∀ {H':Hp} {ob:Obj},(∀ b∈fp,H' b=none)->∀ b∈fp,lg (pL X N' scope s3.heap.objs.size s3 H2 (s2.heap.objs.size :: fp)) [(s2.heap.objs.size,ob)] H' b:=fun {H' ob} hn b hb=>by
  obtain ⟨q1,q2⟩:=I4.ok.exf b (List.mem_cons_of_mem _ hb)
  refine ⟨hn b hb,q1,I4.ok.exfs b (List.mem_cons_of_mem _ hb),.inl (List.mem_cons_of_mem _ hb),q2,fun p hp z=>?_⟩
  have hp':p=(s2.heap.objs.size,ob):=by simpa [pL] using hp
  subst hp'
  have z':s2.heap.objs.size=b:=z
  exact hDfp (by rw [z'];exact hb)
 generalize hXC:pL X N' scope s3.heap.objs.size s3 H2 (s2.heap.objs.size :: fp)=XC at I4 stat
 have eP:XC.prog=X.prog:=by rw [← hXC];rfl
 have eW:XC.w=X.w:=by rw [← hXC];rfl
 have eK:XC.K=X.K:=by rw [← hXC];rfl
 have eA:XC.A=X.A:=by rw [← hXC];rfl
 have eE:XC.env=compEnvC scope (Em X scope s3.heap.objs.size) s3.heap.objs.size X.env:=by rw [← hXC];rfl
 have eC:XC.calm=true:=by rw [← hXC];exact hc
 have eX:XC.xe=fun _ _=>False:=by rw [← hXC];rfl
 have eH:XC.H₀=H2:=by rw [← hXC];rfl
 have eS:XC.s₀=s3:=by rw [← hXC];rfl
 have eF:XC.fs=frs X.stack:=by rw [← hXC];rfl
 have eEx:XC.ex=s2.heap.objs.size :: fp:=by rw [← hXC];rfl
 have ePn:XC.pn=[]:=by rw [← hXC];rfl
 have hgC:PG XC tg g:=by rw [← hXC];exact hg _ _ _ _
 have htC:xR XC ifs tt:=by rw [← hXC];exact ht _ _ _ _
 have heC:PE XC elt te:=by rw [← hXC];exact he _ _ _ _
 have pinD:∀ {U':St} {H':Hp} {s':Shared} {ob:Obj},Inv XC [] U' H' s'->H' s2.heap.objs.size=none->s'.heap.get? s2.heap.objs.size=some ob->(∀ v,ob.data≠.cell v)->Inv XC [(s2.heap.objs.size,ob)] U' H' s':=fun {U' H' s' ob} J hn hg hd=>
  J.pins_of fun p hp=>by
   have hp':p=(s2.heap.objs.size,ob):=by simpa using hp
   subst hp'
   refine ⟨hg,hn,(J.ok.exf _ (by rw [eEx];exact List.mem_cons_self)).1,J.ok.exfs _ (by rw [eEx];exact List.mem_cons_self),hd⟩
 have loop:codeAny (model X.prog X.w) X.A (.compLoop (.ListComp elt [⟨tg,iter,ifs,0⟩] scope pos) 0 (.ref it) (.ref s2.heap.objs.size) (compEnvC scope (Em X scope s3.heap.objs.size) s3.heap.objs.size X.env))
   (compPost (model X.prog X.w) X.A X.xe none (EP X pins U Q) (.ref s2.heap.objs.size) s3.heap.objs.size) {s3 with heap:=h₁,toks:=s3.toks+([]:List (Str×Value)).length}:=by
  refine wU (fun n s'=>∃ (i:Nat) (ys:List V) (its:List Value) (nn:Nat) (H':Hp),Inv XC [] (fY sub U) H' s'/\tn i s'.heap/\(∀ b∈fp,H' b=none)/\H' s2.heap.objs.size=none/\
   s'.heap.get? s2.heap.objs.size=some {cls:=.type "list",data:=.seq its.toArray nn}/\Vals ys its/\W i n ys H') ?_ m0
   ⟨0,[],[],_,H2,I4,T.keep _ _ _ st2 fun b _ o e=>hk31 b o (k23 b o e),fun b hb=>(f2 b hb).1,hDn,hk31 _ _ hD3,.nil,w0⟩
  rintro n s4 ⟨i,ys,its,nn,H4,J4,st4,fr4,dn4,dg4,rv4,w4⟩
  have P4:=pinD J4 dn4 dg4 (fun v z=>by cases z)
  rcases turn i n ys H4 w4 with ⟨stop,hyl,qn⟩ | ⟨go,hyl,N,hN,step⟩
  ·have hdone:=T.done XC eP eW eK eC i _ s4 _ H4 (fun _ _=>False) P4 (stat fr4) st4 stop
   rw [eA] at hdone
   refine wpAny_mono hdone (fun r s5 ⟨hr,I5⟩=>?_) fun _ _ z=>z
   subst hr
   obtain ⟨m,hn,_⟩:=id I5.loc
   have hCe:XC.env.locals=s3.heap.objs.size:=by rw [eE];rfl
   rw [hCe] at hn
   refine ⟨m,hn,fun h6 hs6=>?_⟩
   have hDg:=(I5.pin (s2.heap.objs.size,_) (by rw [ePn];exact List.mem_cons_self)).1
   have hDne:s2.heap.objs.size≠s3.heap.objs.size:=by rw [hsz];exact Nat.ne_of_lt (Nat.lt_succ_self _)
   have hHC:H4 s3.heap.objs.size=none:=by have:=I5.free;rw [hCe] at this;exact this
   have k56:∀ b o,b≠s3.heap.objs.size->s5.heap.get? b=some o->h6.get? b=some o:=fun b o hb e=>hs6.extBut b o hb e
   have un:=I5.base
   rw [eF,eEx,eH,eS] at un
   have nC:∀ b o,s3.heap.get? b=some o->b≠s3.heap.objs.size:=fun b o e=>Nat.ne_of_lt (Heap.lt_size e)
   have hok6:HOk X.prog X.w (upd H4 s2.heap.objs.size (.lst ys)) h6:=by
    have h5:=I5.hok
    rw [eP,eW] at h5
    have K5:∀ b u,H4 b=some u->b≠s3.heap.objs.size:=fun b u e z=>by rw [z,hHC] at e;cases e
    intro b u e
    by_cases hb:b=s2.heap.objs.size
    ·subst hb
     rw [ao] at e;cases e
     exact ⟨hyl,its,nn,rv4,k56 _ _ hDne hDg⟩
    ·rw [aC hb] at e
     have nD:∀ c u,H4 c=some u->c≠s2.heap.objs.size:=fun c u e z=>by rw [z,dn4] at e;cases e
     refine (h5 b u e).stay (fun c v hc' q=>k56 c v ?_ q) (fun c q=>by rw [aC (nD c _ q)];exact q) fun c xs q=>by rw [aC (nD c _ q)];exact q
     rcases hc' with z | z
     ·rw [z];exact K5 b u e
     ·exact K5 c _ z
   have nD2:∀ c u,H4 c=some u->c≠s2.heap.objs.size:=fun c u e z=>by rw [z,dn4] at e;cases e
   have un6:Un (frs X.stack) (s2.heap.objs.size :: fp) H2 (upd H4 s2.heap.objs.size (.lst ys)) s3.heap h6:=
    ⟨fun b o e nn' hb hx=>k56 b o (nC b o e) (un.keep b o e nn' hb hx),fun b o e nn' hb hx=>let ⟨sl,q⟩:=un.slot b o e nn' hb hx;⟨sl,k56 b _ (nC b o e) q⟩,
     fun b o e nn' hx=>by rw [aC (fun z=>hx (by rw [z];exact List.mem_cons_self))];exact un.free b o e nn' hx,
     fun b o e hx=>let ⟨o',q⟩:=un.there b o e hx;⟨o',k56 b o' (nC b o e) q⟩,
     fun b xs e=>by have q:=un.tups b xs e;rw [aC (nD2 b _ q)];exact q,
     fun b o u e=>by have q:=un.frzs b o u e;rw [aC (nD2 b _ q)];exact q,
     fun b ps e=>let ⟨more,q⟩:=un.tbls b ps e;⟨more,by rw [aC (nD2 b _ q)];exact q⟩⟩
   have I6:Inv X pins U (upd H4 s2.heap.objs.size (.lst ys)) {s5 with heap:=h6}:=by
    refine I3.call' (s':={s5 with heap:=h6}) (ch:=s2.heap.objs.size :: fp) ?_ un6 hok6 I5.bare fun b hb=>?_
    ·show s5.os=s3.os
     have:=I5.os
     rw [eS] at this
     exact this
    ·have q:lg X pins H2 b:=by
      rcases List.mem_cons.mp hb with rfl | z
      ·exact fD
      ·exact f2 b z
     obtain ⟨f0,f1,f2',f3,f4,f5⟩:=q
     exact ⟨f3,f1,f4,f5⟩
   exact ⟨.ref s2.heap.objs.size,_,I6,rfl,qn _ dn4⟩
  ·have hitem:=T.item XC eP eW eK eC i _ s4 _ H4 (fun _ _=>False) P4 (stat fr4) st4 go
   rw [eA] at hitem
   refine wpAny_mono hitem (fun r s5 ⟨u,hr,h5⟩=>?_) fun _ _ z=>z
   subst hr
   dsimp only
   refine wpAny_mono h5 (fun _ s6 ⟨x,H6,I6,r6,y6,st6,fr6⟩=>?_) fun _ _ z=>z
   have P6:=I6.pinned (stat fr6) (T.obj _ _ st6)
   rw [← eE,← eP,← eW,← eA]
   refine wpAny_mono (hgC _ s6 _ H6 x u _ P6 r6 (step x H6 y6)) (fun _ s7 ⟨σ7,H7,I7,kp7,q7⟩=>?_) fun _ _ z=>by rw [eX] at z;exact z
   refine wpAny_mono (htC _ s7 σ7 H7 _ I7 q7) (fun ok s8 ⟨H8,I8,q8⟩=>?_) fun _ _ z=>by rw [eX] at z;exact z
   have fin:∀ {H9:Hp} {s9:Shared},Inv XC ([(s2.heap.objs.size,({cls:=.type "list",data:=.seq its.toArray nn}:Obj))] ++ rT fp s6.heap) σ7 H9 s9->Inv XC [] (fY sub U) H9 s9/\tn (i+1) s9.heap/\(∀ b∈fp,H9 b=none)/\H9 s2.heap.objs.size=none/\
     s9.heap.get? s2.heap.objs.size=some {cls:=.type "list",data:=.seq its.toArray nn}:=fun {H9 s9} J=>by
    have pD:=J.pin (s2.heap.objs.size,({cls:=.type "list",data:=.seq its.toArray nn}:Obj)) (by rw [ePn];simp)
    have pF:∀ b∈fp,∀ o,s6.heap.get? b=some o->s9.heap.get? b=some o/\H9 b=none:=fun b hb o e=>by
     have q:=J.pin (b,o) (by rw [ePn];exact List.mem_append_right _ (List.mem_append_right _ (lY hb e)))
     exact ⟨q.1,q.2.1⟩
    refine ⟨?_,T.keep _ _ _ st6 fun b hb o e=>(pF b hb o e).1,fun b hb=>?_,pD.2.1,pD.1⟩
    ·have J0:Inv XC [] σ7 H9 s9:=J.pins_of fun p hp=>nomatch hp
     exact J0.weak kp7.1.symm fun j v e=>kp7.2 j v e
    ·obtain ⟨o,e,_⟩:=T.obj _ _ st6 b hb
     exact (pF b hb o e).2
   cases ok with
   | false=>
    rw [if_neg (by simp)]
    rw [if_neg (by simp)] at q8
    obtain ⟨m',hm,w8⟩:=hN _ _ q8
    obtain ⟨a1,a2,a3,a4,a5⟩:=fin I8
    exact ⟨m',hm,i+1,ys,its,nn,H8,a1,a2,a3,a4,a5,rv4,w8⟩
   | true=>
    rw [if_pos rfl]
    rw [if_pos rfl] at q8
    refine wpAny_mono (heC _ s8 σ7 H8 _ I8 q8) (fun xv s9 ⟨y,H9,I9,r9,n9⟩=>?_) fun _ _ z=>by rw [eX] at z;exact z
    obtain ⟨m',hm,w9⟩:=hN _ _ n9
    obtain ⟨a1,a2,a3,a4,a5⟩:=fin I9
    refine wpAny_list_append_plain (items:=its.toArray) ⟨nn,a5⟩ (fun h' ⟨n',hp'⟩ sb=>?_) (by simp;rw [← rv4.length];omega)
    obtain ⟨q1,q2⟩:=I4.ok.exf s2.heap.objs.size (by rw [eEx];exact List.mem_cons_self)
    have a1':Inv XC [] (fY sub U) H9 {s9 with heap:=h'}:=a1.turned (t':=s9.toks) (fun b o hb e=>(sb.2 b hb).trans e) a4 q1 (.inl (by rw [eEx];exact List.mem_cons_self)) q2 (fun p hp=>by rw [ePn] at hp;exact nomatch hp)
    refine ⟨m',hm,i+1,ys ++ [y],its ++ [xv],n',H9,a1',T.keep _ _ _ a2 fun b hb o e=>(sb.2 b (fun z=>hDfp (by rw [← z];exact hb))).trans e,a3,a4,?_,rv4.append (.cons r9 .nil),w9⟩
    rw [hp']
    simp
 subst hs3
 exact codeAny_compStart_list loop (T.self _ 0 _ _ _ (T.keep _ _ _ st2 fun b _ o e=>hk31 b o (k23 b o e)) loop)
end
abbrev zc (sub:List (Option Nat)) (g:TG) (tt:TT) (te:TE) (U:St) (Q:VK) (J:It) (H1:Hp):Prop:=∃ W:Nat->Nat->List V->Hp->Prop,(∃ m,W 0 m [] H1)/\∀ i m ys H,W i m ys H->
 (J.stop i H/\ys.length<=sizeLine/\∀ D,H D=none->Q (.ref D) (upd H D (.lst ys)))\/
 (J.go i H/\ys.length < sizeLine/\∃ N:List V->Hp->Prop,(∀ ys' H',N ys' H'->∃ m',m' < m/\W (i+1) m' ys' H')/\
  ∀ x H',J.yld i H x H'->g x (fY sub U) H' fun σ2 H2=>KeepSt (fY sub U) σ2/\tt σ2 H2 fun b H3=>if b=true then te σ2 H3 fun y H4=>N (ys ++ [y]) H4 else N ys H3)
theorem xU {sub:List (Option Nat)} {g:TG} {tt:TT} {te:TE} {U:St} {Q:VK} {J:It} {H:Hp} {n:Nat} (Pv:Nat->List V->Hp->Prop) (hn:n<=sizeLine) (h0:Pv 0 [] H) (hl:∀ i ys H,Pv i ys H->ys.length<=i)
  (hgo:∀ i ys H,i < n->Pv i ys H->J.go i H) (hstop:∀ ys H,Pv n ys H->J.stop n H)
  (hs:∀ i ys H x H',i < n->Pv i ys H->J.yld i H x H'->g x (fY sub U) H' fun σ2 H2=>KeepSt (fY sub U) σ2/\tt σ2 H2 fun b H3=>if b=true then te σ2 H3 fun y H4=>Pv (i+1) (ys ++ [y]) H4 else Pv (i+1) ys H3)
  (hd:∀ ys H,Pv n ys H->∀ D,H D=none->Q (.ref D) (upd H D (.lst ys))):zc sub g tt te U Q J H:=by
 refine ⟨fun i m ys H=>m=n - i/\i<=n/\Pv i ys H,⟨n,by simp,Nat.zero_le _,h0⟩,?_⟩
 rintro i m ys H ⟨rfl,hi,p⟩
 have hl':=hl i ys H p
 by_cases hlt:i < n
 ·exact .inr ⟨hgo i ys H hlt p,by omega,fun ys' H'=>Pv (i+1) ys' H',fun ys' H' p'=>⟨n - (i+1),by omega,rfl,hlt,p'⟩,fun x H' y=>hs i ys H x H' hlt p y⟩
 ·have e:i=n:=by omega
  subst e
  exact .inl ⟨hstop ys H p,by omega,hd ys H p⟩
section
variable {κ:Type} [DecidableEq κ]
def pM (kvs:List (κ×V)) (k:κ):Option V:=(kvs.find? fun kv=>decide (kv.1=k)).map (·.2)
def putK (kvs:List (κ×V)) (k:κ) (v:V):List (κ×V):=
 if (kvs.any fun kv=>decide (kv.1=k))=true then kvs.map (fun kv=>if kv.1=k then (kv.1,v) else kv) else kvs ++ [(k,v)]
theorem vd {p:κ×V} {r:List (κ×V)} {k:κ} (e:p.1=k):pM (p :: r) k=some p.2:=by simp [pM,List.find?_cons,e]
theorem vf {p:κ×V} {r:List (κ×V)} {k:κ} (e:¬ p.1=k):pM (p :: r) k=pM r k:=by simp [pM,List.find?_cons,e]
theorem nZ (k:κ):∀ kvs:List (κ×V),(kvs.any fun kv=>decide (kv.1=k))=(pM kvs k).isSome
 | []=>rfl
 | p :: r=>by
  rw [List.any_cons]
  by_cases e:p.1=k
  ·simp only [vd e,decide_eq_true e,Bool.true_or,Option.isSome_some]
  ·rw [vf e,decide_eq_false e,Bool.false_or];exact nZ k r
theorem tU (kvs:List (κ×V)) (k:κ) (v:V):(putK kvs k v).length<=kvs.length+1:=by
 unfold putK
 split
 ·rw [List.length_map];omega
 ·rw [List.length_append,List.length_cons,List.length_nil];omega
theorem Hv {kvs:List (κ×V)} {k:κ} (v:V) (h:pM kvs k=none):putK kvs k v=kvs ++ [(k,v)]:=by
 unfold putK
 rw [nZ,h]
 exact if_neg (by decide)
theorem RelO.isSome_eq {o:Option V} {u:Option Value} (r:RelO o u):o.isSome=u.isSome:=by
 cases o with
 | none=>cases u with
  | none=>rfl
  | some _=>exact (show False from r).elim
 | some _=>cases u with
  | none=>exact (show False from r).elim
  | some _=>rfl
theorem KV.val {kvs:List (κ×V)} {vs:List (κ×Value)} (r:KV kvs vs) (k:κ):RelO (pM kvs k) (valueAt vs k):=by
 unfold KV at r
 induction r with
 | nil=>exact True.intro
 | @cons p q ps qs h t ih=>
  obtain ⟨h1,h2⟩:=h
  by_cases e:p.1=k
  ·have e':q.1=k:=h1.symm.trans e
   have b:valueAt (q :: qs) k=some q.2:=by simp [valueAt,List.find?_cons,e']
   rw [vd e,b];exact h2
  ·have e':¬ q.1=k:=fun z=>e (h1.trans z)
   have b:valueAt (q :: qs) k=valueAt qs k:=by simp [valueAt,List.find?_cons,e']
   rw [vf e,b];exact ih
theorem KV.any {kvs:List (κ×V)} {vs:List (κ×Value)} (r:KV kvs vs) (k:κ):(kvs.any fun kv=>decide (kv.1=k))=vs.any fun kv=>decide (kv.1=k):=by
 unfold KV at r
 induction r with
 | nil=>rfl
 | cons h t ih=>rw [List.any_cons,List.any_cons,ih,h.1]
theorem KV.repl {kvs:List (κ×V)} {vs:List (κ×Value)} (r:KV kvs vs) (k:κ) {y:V} {u:Value} (ry:RelV y u):
  KV (kvs.map fun kv=>if kv.1=k then (kv.1,y) else kv) (vs.map fun kv=>if kv.1=k then (kv.1,u) else kv):=by
 unfold KV at r ⊢
 induction r with
 | nil=>exact .nil
 | @cons p q ps qs h t ih=>
  rw [List.map_cons,List.map_cons]
  refine .cons ?_ ih
  obtain ⟨h1,h2⟩:=h
  by_cases e:p.1=k
  ·rw [if_pos e,if_pos (h1.symm.trans e)];exact ⟨h1,ry⟩
  ·rw [if_neg e,if_neg (fun z=>e (h1.trans z))];exact ⟨h1,h2⟩
theorem KV.put {kvs:List (κ×V)} {vs:List (κ×Value)} (r:KV kvs vs) (k:κ) {y:V} {u:Value} (ry:RelV y u):KV (putK kvs k y) (stored vs k u):=by
 unfold putK stored
 rw [r.any k]
 by_cases e:(vs.any fun kv=>decide (kv.1=k))=true
 ·rw [if_pos e,if_pos e];exact r.repl k ry
 ·rw [if_neg e,if_neg e];exact Paired.snoc r ⟨rfl,ry⟩
theorem KV.length {kvs:List (κ×V)} {vs:List (κ×Value)} (r:KV kvs vs):kvs.length=vs.length:=Paired.length r
end
theorem Hw {P:Program} {w:World} {k:Key} {u:Value} (r:RelV (kV k) u):(cF P w).is k u=true:=by
 cases k with
 | inl i=>obtain ⟨t,e⟩:=(show ∃ t,u=Value.int i t from r);subst e;exact yQ P w i t
 | inr x=>obtain ⟨t,e⟩:=(show ∃ t,u=Value.str x t from r);subst e;exact yR P w x t
theorem wW {P:Program} {w:World}:∀ {ks:List Key} {us:List Value},Vals (ks.map kV) us->ItemsAre (cF P w) ks us
 | [],_,r=>by rw [List.map_nil] at r;cases r;exact .nil
 | k :: ks,_,r=>by
  rw [List.map_cons] at r
  cases r with
  | cons h t=>exact .cons (Hw h) (wW t)
abbrev KT (H:Hp):List (List Key×V)->List (List Key×Addr×Value)->Prop:=Paired fun p q=>p.1=q.1/\H q.2.1=some (.tup (p.1.map kV))/\RelV p.2 q.2.2
theorem KT.val {H:Hp} {kvs:List (List Key×V)} {xs:List (List Key×Addr×Value)} (r:KT H kvs xs) (k:List Key):RelO (pM kvs k) ((atKey xs k).map (·.2)):=by
 induction r with
 | nil=>exact True.intro
 | @cons p q ps qs h t ih=>
  obtain ⟨h1,_,h2⟩:=h
  by_cases e:p.1=k
  ·have e':q.1=k:=h1.symm.trans e
   have b:atKey (q :: qs) k=some q.2:=by simp [atKey,List.find?_cons,e']
   rw [vd e,b];exact h2
  ·have e':¬ q.1=k:=fun z=>e (h1.trans z)
   have b:atKey (q :: qs) k=atKey qs k:=by simp [atKey,List.find?_cons,e']
   rw [vf e,b];exact ih
theorem KT.repl {H:Hp} {kvs:List (List Key×V)} {xs:List (List Key×Addr×Value)} (r:KT H kvs xs) (k:List Key) {y:V} {u:Value} (ry:RelV y u):
  KT H (kvs.map fun kv=>if kv.1=k then (kv.1,y) else kv) (xs.map (putAt k u)):=by
 induction r with
 | nil=>exact .nil
 | @cons p q ps qs h t ih=>
  rw [List.map_cons,List.map_cons]
  refine .cons ?_ ih
  obtain ⟨h1,h2,h3⟩:=h
  unfold putAt
  by_cases e:p.1=k
  ·rw [if_pos e,if_pos (h1.symm.trans e)];exact ⟨h1,h2,ry⟩
  ·rw [if_neg e,if_neg (fun z=>e (h1.trans z))];exact ⟨h1,h2,h3⟩
theorem KT.put {H:Hp} {kvs:List (List Key×V)} {xs:List (List Key×Addr×Value)} (r:KT H kvs xs) (k:List Key) {b:Addr} {y:V} {u:Value} (hb:H b=some (.tup (k.map kV))) (ry:RelV y u):
  KT H (putK kvs k y) (storedH xs k b u):=by
 have e:(kvs.any fun kv=>decide (kv.1=k))=(atKey xs k).isSome:=by
  rw [nZ,(r.val k).isSome_eq,Option.isSome_map]
 unfold putK storedH
 rw [e]
 by_cases q:(atKey xs k).isSome=true
 ·rw [if_pos q,if_pos q];exact r.repl k ry
 ·rw [if_neg q,if_neg q];exact Paired.snoc r ⟨rfl,hb,ry⟩
theorem KT.keeps {H H':Hp} {kvs:List (List Key×V)} {xs:List (List Key×Addr×Value)} (r:KT H kvs xs) (ht:∀ b ys,H b=some (.tup ys)->H' b=some (.tup ys)):KT H' kvs xs:=
 Paired.mapP r fun _ _ z=>⟨z.1,ht _ _ z.2.1,z.2.2⟩
section
variable {P:Program} {w:World} {H:Hp} {h:Heap} {a:Addr}
theorem Pa {u:HO} (ok:HOk P w H h) (e:Rd H a u):ObjOk P w H h a u:=e.ok ok
theorem Pb {kvs:List (Key×V)} (ok:HOk P w H h) (e:Rd H a (.dK kvs)):kvs.length<=sizeLine/\(a == sysModules)=false/\∃ vs,KV kvs vs/\h.DictOf (cF P w) a vs:=
 show ObjOk P w H h a (.dK kvs) from Pa ok e
theorem Wb {kvs:List (Key×V)} (ok:HOk P w H h) (e:H a=some (.dK kvs)):kvs.length<=sizeLine/\(a == sysModules)=false/\∃ vs,KV kvs vs/\h.DictOf (cF P w) a vs:=Pb ok (.inl e)
theorem Bd {ks:List Key} (ok:HOk P w H h) (e:H a=some (.tup (ks.map kV))):(tupleKind (cF P w)).is h ks a:=by
 obtain ⟨_,its,r,o,h1,h2,n,h3⟩:=(show ObjOk P w H h a (.tup (ks.map kV)) from ok a _ e)
 exact ⟨o,its.toArray,n,h1,h2,h3,by simpa using wW r⟩
theorem Pg {kvs:List (List Key×V)} (ok:HOk P w H h) (e:Rd H a (.dT kvs)):kvs.length<=sizeLine/\(a == sysModules)=false/\
  ∃ xs,KT H kvs xs/\h.DictOfH (tupleKind (cF P w)) a xs:=by
 obtain ⟨z,y,xs,r,o,es,ep,h1,h2,h3,h4,h5⟩:=(show ObjOk P w H h a (.dT kvs) from Pa ok e)
 refine ⟨z,y,xs,r,o,es,ep,h1,h2,h3,h4,fun x hx=>?_,h5⟩
 have all:∀ {l:List (List Key×V)} {m:List (List Key×Addr×Value)},KT H l m->∀ x∈m,(tupleKind (cF P w)).is h x.1 x.2.1:=by
  intro l m q
  induction q with
  | nil=>intro x hx;exact nomatch hx
  | @cons p q ps qs hq t ih=>
   intro x hx
   rcases List.mem_cons.mp hx with e | hx
   ·subst e
    exact Bd ok (by rw [← hq.1];exact hq.2.1)
   ·exact ih x hx
 exact all r x hx
theorem Wc {kvs:List (List Key×V)} (ok:HOk P w H h) (e:H a=some (.dT kvs)):kvs.length<=sizeLine/\(a == sysModules)=false/\
  ∃ xs,KT H kvs xs/\h.DictOfH (tupleKind (cF P w)) a xs:=Pg ok (.inl e)
end
def DGet (H:Hp) (a:Addr) (y:V) (r:Option V):Prop:=
 (∃ kvs k,Rd H a (.dK kvs)/\y=kV k/\r=pM kvs k)\/∃ kvs k b,Rd H a (.dT kvs)/\y= .ref b/\H b=some (.tup (k.map kV))/\r=pM kvs k
def DPut (H:Hp) (a:Addr) (y v:V) (H':Hp):Prop:=
 (∃ kvs k,H a=some (.dK kvs)/\y=kV k/\kvs.length < sizeLine/\H'=upd H a (.dK (putK kvs k v)))\/
 ∃ kvs k b,H a=some (.dT kvs)/\y= .ref b/\H b=some (.tup (k.map kV))/\kvs.length < sizeLine/\H'=upd H a (.dT (putK kvs k v))
theorem DGet.t {H:Hp} {a b:Addr} {kvs:List (List Key×V)} {k:List Key} (e:H a=some (.dT kvs)) (eb:H b=some (.tup (k.map kV))):DGet H a (.ref b) (pM kvs k):=.inr ⟨kvs,k,b,.inl e,rfl,eb,rfl⟩
theorem DPut.t {H:Hp} {a b:Addr} {kvs:List (List Key×V)} {k:List Key} {v:V} (e:H a=some (.dT kvs)) (eb:H b=some (.tup (k.map kV))) (hl:kvs.length < sizeLine):
  DPut H a (.ref b) v (upd H a (.dT (putK kvs k v))):=.inr ⟨kvs,k,b,e,rfl,eb,hl,rfl⟩
section
variable {X:Cx} {pins:List (Addr×Obj)} {U:St} {H:Hp} {s:Shared} {a:Addr} {y v:V} {u r:Value} {o:Option V} {A:Around} {E:Value->Shared->Prop}
theorem Inv.big (I:Inv X pins U H s):sysModules < s.heap.objs.size:=by
 have h:mainGlobals < s.heap.objs.size:=(I.mod.glob.keeps I.bk).lt
 exact Nat.lt_trans (by decide) h
theorem d_in {Q:Value->Shared->Prop} (hu:A.units+1 < cLine) (I:Inv X pins U H s) (g:DGet H a y o) (ry:RelV y u) (h:∀ s',Inv X pins U H s'->Q (.bool o.isSome) s'):
  wpAny (model X.prog X.w) A (compareOp .In u (.ref a)) Q E s:=by
 rcases g with ⟨kvs,k,e,ey,l⟩ | ⟨kvs,k,b,e,ey,eb,l⟩
 ·subst ey
  obtain ⟨z,hd,vs,rel,dd⟩:=Pb I.hok e
  refine wpAny_in_of (Hw ry) hd dd.mapOf ?_
  rw [← (rel.val k).isSome_eq,← l]
  exact h _ (I.tok _)
 ·subst ey
  cases (show u=Value.ref b from ry)
  obtain ⟨z,hd,xs,rel,dd⟩:=Pg I.hok e
  refine wpAny_in_heap (tupleKind_room_in1 hu) (Bd I.hok eb) hd dd ?_
  have q:=(rel.val k).isSome_eq
  rw [Option.isSome_map] at q
  rw [← q,← l]
  exact h _ (I.tok _)
theorem Cy {h':Heap} {t':Nat} {ob:HO} (I:Inv X pins U H s) (mu:VB (H a)) (hs:Heap.SameBut a s.heap h') (he:∃ q,h'.get? a=some q) (new:ObjOk X.prog X.w (upd H a ob) h' a ob):
  Inv X pins U (upd H a ob) {s with heap:=h',toks:=t'}:=
 I.write (x:=a) (e:=a) mu (.inl rfl) (fun b q hb z=>(hs.2 b hb).trans z) he new
theorem Rk {P:Program} {w:World} {H':Hp} {h':Heap} {kvs:List (Key×V)} {vs:List (Key×Value)} (z:kvs.length<=sizeLine) (hd:(a == sysModules)=false) (rel:KV kvs vs) (dd:h'.DictOf (cF P w) a vs):
  ObjOk P w H' h' a (.dK kvs):=⟨z,hd,vs,rel,dd⟩
theorem En {H':Hp} {Q:Unit->Shared->Prop} (hu:A.units+1 < cLine) (I:Inv X pins U H s) (g:DPut H a y v H') (ry:RelV y u) (rv:RelV v r) (h:∀ s',Inv X pins U H' s'->Q () s'):
  wpAny (model X.prog X.w) A (setItem (.ref a) u r) Q E s:=by
 rcases g with ⟨kvs,k,e,ey,l,eH⟩ | ⟨kvs,k,b,e,ey,eb,l,eH⟩
 ·subst ey eH
  obtain ⟨z,hd,vs,rel,dd⟩:=Wb I.hok e
  have hz:vs.length<=sizeLine:=by rw [← rel.length];exact z
  have hl:(putK kvs k v).length<=sizeLine:=by have:=tU kvs k v;omega
  refine wpAny_setItem_pairs (hsz:=hz) (Hw ry) dd fun h' dd' hs=>h _ ?_
  have he:∃ q,h'.get? a=some q:=let ⟨q,_,_,hq,_⟩:=dd';⟨q,hq⟩
  exact Cy I (by rw [e];exact True.intro) hs he (Rk hl hd (rel.put k rv) dd')
 ·subst ey eH
  cases (show u=Value.ref b from ry)
  obtain ⟨z,hd,xs,rel,dd⟩:=Wc I.hok e
  have hz:xs.length<=sizeLine:=by rw [← Paired.length rel];exact z
  have hl:(putK kvs k v).length<=sizeLine:=by have:=tU kvs k v;omega
  refine wpAny_setItem_heap (hsz:=hz) (tupleKind_room_in1 hu) (Bd I.hok eb) dd fun h' dd' hs=>h _ ?_
  obtain ⟨q,es,ep,hq,h2,h3,h4,_,h5⟩:=dd'
  refine Cy I (by rw [e];exact True.intro) hs ⟨q,hq⟩ ⟨hl,hd,_,(rel.put k eb rv).keeps fun c ys ec=>?_,q,es,ep,hq,h2,h3,h4,h5⟩
  rw [aC (Vz ec e (fun z=>nomatch z))]
  exact ec
end
theorem Hz {P:Program} {w:World} {H:Hp} (h:Heap) (hb:sysModules < h.objs.size):ObjOk P w H (h.push {cls:=.type "dict",data:=.dict #[]}) h.objs.size (.dT []):=
 ⟨Nat.zero_le _,beq_eq_false_iff_ne.mpr (Ne.symm (Nat.ne_of_lt hb)),[],.nil,_,#[],0,Heap.get?_push_size _ rfl,⟨rfl,rfl,rfl⟩,rfl,rfl,List.nodup_nil⟩
def Be:TE:=fun _ H Q=>∀ p,H p=none->Q (.ref p) (upd H p (.dT []))
section
variable {X:Cx} {pos:Pos}
theorem HQ:PE X (.Dict [] [] pos) Be:=fun pins s U H Q I h=>
 wpAny_Dict_empty ⟨.ref s.heap.objs.size,_,I.laid (a:=s.heap.objs.size) (o:=.dT []) (t':=s.toks) (fun _ _ q=>Heap.get?_push_of_some _ q) (Nat.le_refl _) (Hz s.heap I.big),rfl,h _ (I.hok.fresh (Nat.le_refl _))⟩
end
def HR:List (TE×TE)->St->Hp->(List (V×V)->Hp->Prop)->Prop
 | [],_,H,Q=>Q [] H
 | (tk,tv) :: r,U,H,Q=>tk U H fun x H1=>tv U H1 fun y H2=>HR r U H2 fun ps H3=>Q ((x,y) :: ps) H3
abbrev VV:List (V×V)->List (Value×Value)->Prop:=Paired fun p q=>RelV p.1 q.1/\RelV p.2 q.2
def PPs (X:Cx) (pos:Pos) (keys:List (Option Expr)) (values:List Expr) (trs:List (TE×TE)):Prop:=
 ∀ (pins:List (Addr×Obj)) (s:Shared) (U:St) (H:Hp) (Q:List (V×V)->Hp->Prop),Inv X pins U H s->HR trs U H Q->
  wpAny (model X.prog X.w) X.A (evalPairs (pairTrees keys values X.env pos)) (fun vs s'=>∃ ps H',Inv X pins U H' s'/\VV ps vs/\Q ps H') X.xe s
structure M1 (X:Cx) (o:Expr) (m:Str) (apos:Pos) (e:Expr) (cpos:Pos):Prop where
 base:attributeBase o m X.env (eval o X.env)=eval o X.env
 few:((backTo cpos (starEach [e] X.env)).all (fun x=>!x.1) && (backToKw cpos (keywordEach [] X.env)).all (fun x=>x.1.isSome)
  && decide (([e]:List Expr).length+([]:List Keyword).length+(if ([]:List Keyword).isEmpty then 0 else 1) < 30))=true
 line:(apos.endLine == cpos.line)=true
 trees:backTo cpos (starEach [e] X.env)=[(false,eval e X.env)]
structure M2 (X:Cx) (o:Expr) (m:Str) (apos:Pos) (e f:Expr) (cpos:Pos):Prop where
 base:attributeBase o m X.env (eval o X.env)=eval o X.env
 few:((backTo cpos (starEach [e,f] X.env)).all (fun x=>!x.1) && (backToKw cpos (keywordEach [] X.env)).all (fun x=>x.1.isSome)
  && decide (([e,f]:List Expr).length+([]:List Keyword).length+(if ([]:List Keyword).isEmpty then 0 else 1) < 30))=true
 line:(apos.endLine == cpos.line)=true
 trees:backTo cpos (starEach [e,f] X.env)=[(false,eval e X.env),(false,eval f X.env)]
section
variable {X:Cx}
section
variable {κ:Type} [DecidableEq κ]
theorem HW {kvs:List (κ×V)} {k:κ} (h:pM kvs k=none):¬ k∈kvs.map (·.1):=by
 intro m
 obtain ⟨p,hp,e⟩:=List.mem_map.mp m
 have q:(kvs.any fun kv=>decide (kv.1=k))=true:=List.any_eq_true.mpr ⟨p,hp,decide_eq_true e⟩
 rw [nZ,h] at q
 exact absurd q (by simp)
theorem Mg {kvs:List (κ×V)} {k:κ} {v:V} (h:pM kvs k=some v):k∈kvs.map (·.1):=by
 have q:(kvs.any fun kv=>decide (kv.1=k))=true:=by
  rw [nZ,h]
  all_goals rfl
 obtain ⟨p,hp,e⟩:=List.any_eq_true.mp q
 exact List.mem_map.mpr ⟨p,hp,of_decide_eq_true e⟩
end
end
def Ph (x:Str):It:=⟨fun i _=>i < x.cps.size,fun i H v H'=>H'=H/\∃ c,x.cps[i]?=some c/\v= .str ⟨#[c]⟩,fun i _=>i=x.cps.size⟩
theorem zf {P:Program} {w:World} {K:W.Frag} {tg:Expr} (it:Addr) (x:Str) (t:Tok) (ty:String)
  (hty:["enumerate","zip","dict_itemiterator","dict_reverseitemiterator","odict_iterator","itertools.zip_longest","itertools.pairwise"].contains ty=false)
  (W:∀ A:Around,A.handled=none->Walks P w A it [it] [it] x.cps.size (SignAt x) fun i h=>h.IsStrIter it ty x t i)
  (hself:∀ (A:Around) (i:Nat) (s:Shared) (Q:Value->Shared->Prop) (E:Value->Shared->Prop),s.heap.IsStrIter it ty x t i->Q (.ref it) s->wpAny (model P w) A (pyIter (.ref it)) Q E s):Turn P w K tg (Ph x) [it] it (fun i h=>h.IsStrIter it ty x t i) where
 mem:=by simp
 obj:=fun i h st b hb=>by
  have e:b=it:=by simpa using hb
  subst e
  obtain ⟨o,e,c,d⟩:=st
  exact ⟨o,e,fun v z=>by rw [d] at z;cases z⟩
 keep:=fun i h h' st k=>by
  obtain ⟨o,e,r⟩:=st
  exact ⟨o,k it (by simp) o e,r⟩
 item:=by
  intro X hP hw hK hc i pins s U H E I hf st hg
  subst hP hw hK
  obtain ⟨f0,f1,f2,f3,f4,f5⟩:=hf it (by simp)
  refine (W X.A (I.ok.hd hc)).item i s _ _ hg st fun v h' tk hv st' kk=>?_
  obtain ⟨c,u,e1,rfl⟩:=hv
  have I1:Inv X pins U H {s with heap:=h',toks:=tk}:=I.turned (fun b o hb e=>kk b o (by simpa using hb) e) f0 f1 f3 f4 f5
  obtain ⟨o,e,cl,d⟩:=id st'
  exact ⟨_,rfl,Ce (s:={s with heap:=h',toks:=tk}) e cl d hty ⟨.str ⟨#[c]⟩,H,I1,⟨u,rfl⟩,⟨rfl,c,e1,rfl⟩,st',fun b hb=>(hf b hb).1⟩⟩
 done:=by
  intro X hP hw hK hc i pins s U H E I hf st hg
  subst hP hw hK
  obtain ⟨f0,f1,f2,f3,f4,f5⟩:=hf it (by simp)
  have hg:i=x.cps.size:=hg
  subst hg
  exact (W X.A (I.ok.hd hc)).done s _ _ st fun h' tk kk=>⟨rfl,I.turned (fun b o hb e=>kk b o (by simpa using hb) e) f0 f1 f3 f4 f5⟩
 self:=hself
section
variable {X:Cx}
theorem all_range {bs:List Bool}:(List.range bs.length).all (fun i=>bs.getD i false)=bs.all id:=by
 rw [Bool.eq_iff_iff]
 simp only [List.all_eq_true,List.mem_range]
 constructor
 ·intro h b hb
  obtain ⟨i,hi,e⟩:=List.mem_iff_getElem.mp hb
  have:=h i hi
  rw [List.getD_eq_getElem?_getD,List.getElem?_eq_getElem hi] at this
  simp only [Option.getD_some] at this
  rw [← e];exact this
 ·intro h i hi
  rw [List.getD_eq_getElem?_getD,List.getElem?_eq_getElem hi]
  exact h _ (List.getElem_mem hi)
theorem any_range {bs:List Bool}:(List.range bs.length).any (fun i=>bs.getD i false)=bs.any id:=by
 rw [Bool.eq_iff_iff]
 simp only [List.any_eq_true,List.mem_range]
 constructor
 ·rintro ⟨i,hi,h⟩
  rw [List.getD_eq_getElem?_getD,List.getElem?_eq_getElem hi] at h
  exact ⟨_,List.getElem_mem hi,h⟩
 ·rintro ⟨b,hb,h⟩
  obtain ⟨i,hi,e⟩:=List.mem_iff_getElem.mp hb
  refine ⟨i,hi,?_⟩
  rw [List.getD_eq_getElem?_getD,List.getElem?_eq_getElem hi]
  simp only [Option.getD_some]
  rw [e];exact h
theorem oh:∀ {bs:List Bool} {us:List Value} {i:Nat} {v:Value},Vals (bs.map V.bl) us->us[i]?=some v->v= .bool (bs.getD i false)
 | [],_,i,v,.nil,e=>by simp at e
 | b :: bs,_,0,v,.cons r t,e=>by simp at e;subst e;exact r
 | b :: bs,_,i+1,v,.cons r t,e=>by
  simp at e
  have:=oh (bs:=bs) t e
  simpa using this
def rAll:List V->Hp->VK->Prop:=fun xs H Q=>∃ (p:Addr) (bs:List Bool),xs=[.ref p]/\H p=some (.lst (bs.map V.bl))/\Q (.bl (bs.all id)) H
theorem ou (hc:X.calm=true):CallR X (.builtin "all") rAll:=by
 intro pins s U H xs us Q I r h
 obtain ⟨p,bs,rfl,hp,q⟩:=h
 obtain ⟨u,rfl,ru⟩:=vals1 r
 cases ru
 obtain ⟨hz,its,n,rv,e⟩:=I.hok p _ hp
 refine call_all_walk (wpAny_pyIter_list (items:=its.toArray) ⟨_,e,rfl,n,rfl⟩ ?_)
 refine ⟨s.heap.objs.size,_,_,_,_,_,fun i=>bs.getD i false,rfl,Walks.list (A:=X.A.in1) (I.ok.hd hc) s.heap.objs.size p (Nat.ne_of_lt (Heap.lt_size e)) its.toArray,⟨⟨_,Heap.get?_push_size _ rfl,rfl,rfl⟩,⟨_,Heap.get?_push_of_some _ e,rfl,n,rfl⟩⟩,?_,fun h' tk hk=>?_⟩
 ·intro i v s' Q' E' hv hq
  have:=oh rv (by simpa using hv)
  subst this
  exact wpAny_truthy_bool hq
 ·have hl:its.toArray.size=bs.length:=by have:=rv.length;simpa using this.symm
  rw [hl,all_range]
  refine ⟨.bl _,H,?_,rfl,q⟩
  exact I.kept fun b o e=>hk b o (by simp;exact Nat.ne_of_lt (Heap.lt_size e)) (Heap.get?_push_of_some _ e)
def rAny:List V->Hp->VK->Prop:=fun xs H Q=>∃ (p:Addr) (bs:List Bool),xs=[.ref p]/\H p=some (.lst (bs.map V.bl))/\Q (.bl (bs.any id)) H
theorem HX (hc:X.calm=true):CallR X (.builtin "any") rAny:=by
 intro pins s U H xs us Q I r h
 obtain ⟨p,bs,rfl,hp,q⟩:=h
 obtain ⟨u,rfl,ru⟩:=vals1 r
 cases ru
 obtain ⟨hz,its,n,rv,e⟩:=I.hok p _ hp
 refine call_any_walk (wpAny_pyIter_list (items:=its.toArray) ⟨_,e,rfl,n,rfl⟩ ?_)
 refine ⟨s.heap.objs.size,_,_,_,_,_,fun i=>bs.getD i false,rfl,Walks.list (A:=X.A.in1) (I.ok.hd hc) s.heap.objs.size p (Nat.ne_of_lt (Heap.lt_size e)) its.toArray,⟨⟨_,Heap.get?_push_size _ rfl,rfl,rfl⟩,⟨_,Heap.get?_push_of_some _ e,rfl,n,rfl⟩⟩,?_,fun h' tk hk=>?_⟩
 ·intro i v s' Q' E' hv hq
  have:=oh rv (by simpa using hv)
  subst this
  exact wpAny_truthy_bool hq
 ·have hl:its.toArray.size=bs.length:=by have:=rv.length;simpa using this.symm
  rw [hl,any_range]
  refine ⟨.bl _,H,?_,rfl,q⟩
  exact I.kept fun b o e=>hk b o (by simp;exact Nat.ne_of_lt (Heap.lt_size e)) (Heap.get?_push_of_some _ e)
theorem vg:∀ {ys:List Str} {us:List Value},Vals (ys.map V.str) us->StrsAre us ys
 | [],_,.nil=>.nil
 | y :: ys,_,.cons r t=>by
  obtain ⟨k,e⟩:=(show ∃ t,_=Value.str y t from r)
  subst e
  exact .cons y k (vg t)
def rJoin:V->List V->Hp->VK->Prop:=fun x xs H Q=>∃ (sep:Str) (p:Addr) (ys:List Str),x= .str sep/\xs=[.ref p]/\H p=some (.lst (ys.map V.str))/\(ys.map (·.length)).sum+ys.length*sep.length<=16777216/\Q (.str (Txt.join sep ys)) H
theorem Mh:LC X "str.join" rJoin:=by
 intro pins s U H x xs v us Q I rx r h
 obtain ⟨sep,p,ys,rfl,rfl,hp,hz,q⟩:=h
 obtain ⟨u,rfl,ru⟩:=vals1 r
 cases ru
 obtain ⟨t,rfl⟩:=rx
 obtain ⟨hz',its,n,rv,e⟩:=I.hok p _ hp
 exact join_list (items:=its.toArray) ⟨_,e,rfl,n,rfl⟩ (by simpa using vg rv) hz fun t' k=>⟨.str _,H,I.tok _,⟨_,rfl⟩,q⟩
def Wd:V->Option Int->Option Int->Hp->VK->Prop:=fun v lo hi H Q=>∃ x,v= .str x/\x.length<=sizeLine/\Q (.str (Txt.slice x lo hi)) H
theorem Rm:SlR X Wd:=by
 intro pins s U H x v vl vu lo hi sl Q I rx hs pl pu h
 obtain ⟨z,rfl,hz,q⟩:=h
 obtain ⟨t,rfl⟩:=rx
 refine ⟨"str",_,F.slot_str_getitem.lookup,typeIs_str _ _ _,?_⟩
 have fin:∀ (t' k:Nat),EP X pins U Q (.str (Txt.slice z lo hi) t') {s with toks:=k}:=fun t' k=>⟨.str _,H,I.tok _,⟨_,rfl⟩,q⟩
 have sz:=Nat.le_trans (Txt.slice_le z lo hi) hz
 obtain ⟨o,ho,hc,hd⟩:=hs
 cases pl with
 | none=>
  cases pu with
  | none=>exact wpAny_getItem_str_slice (l:=none) (u:=none) (st:=none) ⟨o,ho,hc,hd⟩ rfl (post_val_or_str ⟨sz,fin⟩)
  | int j tj=>exact wpAny_getItem_str_slice (l:=none) (u:=some (j,tj)) (st:=none) ⟨o,ho,hc,hd⟩ rfl (post_val_or_str ⟨sz,fin⟩)
 | int i ti=>
  cases pu with
  | none=>exact wpAny_getItem_str_slice (l:=some (i,ti)) (u:=none) (st:=none) ⟨o,ho,hc,hd⟩ rfl (post_val_or_str ⟨sz,fin⟩)
  | int j tj=>exact wpAny_getItem_str_slice (l:=some (i,ti)) (u:=some (j,tj)) (st:=none) ⟨o,ho,hc,hd⟩ rfl (post_val_or_str ⟨sz,fin⟩)
def Pj:R2:=fun x y H Q=>∃ i n,x= .str i/\y= .int n/\MulOk i n/\Q (.str (Txt.mul i n)) H
theorem Bf:OpR X (binaryOp .Mult) Pj:=by
 intro pins s U H x y v u Q I rx ry h
 obtain ⟨i,n,rfl,rfl,hk,q⟩:=h
 obtain ⟨t,rfl⟩:=rx
 obtain ⟨t',rfl⟩:=ry
 exact SB.mul hk fun t' k=>⟨.str _,H,I.tok _,⟨_,rfl⟩,q⟩
def sgn (x:Str):List V:=x.cps.toList.map fun c=>V.str ⟨#[c]⟩
theorem Eo {x:Str} {acc:Array Value} (h:ItemsOf (SignAt x) acc x.cps.size):Vals (sgn x) acc.toList:=by
 obtain ⟨h1,h2⟩:=h
 have key:∀ (l:List Nat) (a:List Value),l.length=a.length->(∀ (j:Nat) (v:Value),a[j]?=some v->∃ (c:Nat) (u:Tok),l[j]?=some c/\v=Value.str ⟨#[c]⟩ u)->Vals (l.map fun c=>V.str ⟨#[c]⟩) a:=by
  intro l
  induction l with
  | nil=>intro a hl _;cases a with
   | nil=>exact .nil
   | cons _ _=>simp at hl
  | cons c l ih=>
   intro a hl hh
   cases a with
   | nil=>simp at hl
   | cons v a=>
    obtain ⟨c',u,e1,e2⟩:=hh 0 v (by simp)
    simp at e1;subst e1
    refine .cons ⟨u,e2⟩ (ih a (by simpa using hl) fun j v' e=>?_)
    obtain ⟨c',u,e1,e2⟩:=hh (j+1) v' (by simpa using e)
    exact ⟨c',u,by simpa using e1,e2⟩
 refine key x.cps.toList acc.toList (by simp [h1]) fun j v e=>?_
 obtain ⟨c,u,e1,e2⟩:=h2 j v (by simpa using e)
 exact ⟨c,u,by simpa using e1,e2⟩
theorem zg (hc:X.calm=true):CallR X (.type "list") (fun xs H Q=>∃ x,xs=[.str x]/\x.cps.size<=sizeLine/\∀ p,H p=none->Q (.ref p) (upd H p (.lst (sgn x)))):=by
 intro pins s U H xs us Q I r h
 obtain ⟨x,rfl,hz,q⟩:=h
 obtain ⟨u,rfl,t,rfl⟩:=vals1 r
 refine call_list_str (I.ok.hd hc) x t (hn:=hz) fun h' tk acc' c' hk hS hacc=>?_
 refine ⟨.ref s.heap.objs.size,_,I.laid (o:=.lst (sgn x)) hk (Nat.le_refl _) ⟨by simp [sgn];exact hz,acc'.toList,c',Eo hacc,by simpa using hS⟩,rfl,q _ I.fresh⟩
def Rn (K:W.Frag):List V->Hp->VK->Prop:=fun xs H Q=>∃ x T t b,xs=[x,.ty T]/\nU K H x t/\PySem.W.kitOne K t (.type T)=some b/\Q (.bl b) H
theorem HY:CallR X (.builtin "isinstance") (Rn X.K):=by
 intro pins s U H xs us Q I r h
 obtain ⟨x,T,t,b,rfl,ty,e,q⟩:=h
 obtain ⟨u,v,rfl,ru,rv⟩:=vals2 r
 cases rv
 exact Ef I ru ty e fun tk=>⟨.bl b,H,I.tok _,rfl,q⟩
def Bg:List V->List V->Bool
 | [],[]=>true
 | x :: xs,y :: ys=>Cu x y && Bg xs ys
 | _,_=>false
theorem vh:∀ (xs ys:List V),xs.length=ys.length->(List.range xs.length).all (fun j=>Cu (xs.getD j .non) (ys.getD j .non))=Bg xs ys
 | [],[],_=>rfl
 | x :: xs,y :: ys,h=>by
  have ih:=vh xs ys (by simpa using h)
  rw [List.length_cons,List.range_succ_eq_map,List.all_cons,List.all_map]
  simp only [Bg]
  rw [← ih]
  rfl
 | [],y :: ys,h=>by simp at h
 | x :: xs,[],h=>by simp at h
theorem zj:∀ {xs ys:List V},xs.length≠ys.length->Bg xs ys=false
 | [],[],h=>absurd rfl h
 | [],y :: ys,_=>rfl
 | x :: xs,[],_=>rfl
 | x :: xs,y :: ys,h=>by simp [Bg,zj (xs:=xs) (ys:=ys) (by simpa using h)]
def We (K:W.Frag) (neg:Bool):R2:=fun x y H Q=>∃ a b xs ys,x= .ref a/\y= .ref b/\SqL K H a xs/\SqL K H b ys/\xs.all lw=true/\ys.all lw=true/\Q (.bl (if neg then !Bg xs ys else Bg xs ys)) H
theorem Ep (hu:X.A.units < cLine):OpR X (compareOp .Eq) (We X.K false):=by
 intro pins s U H x y v u Q I rx ry h
 obtain ⟨a,b,xs,ys,rfl,rfl,ha,hb,fx,fy,q⟩:=h
 cases rx
 cases ry
 obtain ⟨its,r1,p1,z1⟩:=I.list ha
 obtain ⟨jts,r2,p2,z2⟩:=I.list hb
 have l1:its.toArray.size=xs.length:=by simpa using r1.length.symm
 have l2:jts.toArray.size=ys.length:=by simpa using r2.length.symm
 by_cases hl:xs.length=ys.length
 ·refine SeqAt.eq_listAt (e:=fun j=>Cu (xs.getD j .non) (ys.getD j .non)) p1.isList p2.isList (by rw [l1,l2];exact hl) hu (fun j h1 h2=>?_) ?_
  ·have h1':j < xs.length:=by omega
   have h2':j < ys.length:=by omega
   obtain ⟨u1,e1,q1⟩:=r1.get (List.getElem?_eq_getElem h1')
   obtain ⟨u2,e2,q2⟩:=r2.get (List.getElem?_eq_getElem h2')
   have e1':its.toArray[j]=u1:=by
    have:=List.getElem?_eq_some_iff.mp e1
    obtain ⟨_,z⟩:=this
    simpa using z
   have e2':jts.toArray[j]=u2:=by
    have:=List.getElem?_eq_some_iff.mp e2
    obtain ⟨_,z⟩:=this
    simpa using z
   rw [e1',e2']
   have g1:xs.getD j .non=xs[j]:=by rw [List.getD_eq_getElem?_getD,List.getElem?_eq_getElem h1'];rfl
   have g2:ys.getD j .non=ys[j]:=by rw [List.getD_eq_getElem?_getD,List.getElem?_eq_getElem h2'];rfl
   show SeqAt.EqAt X.A.in1 s u1 u2 (Cu (xs.getD j .non) (ys.getD j .non))
   rw [g1,g2]
   exact uY q1 q2 (List.all_eq_true.mp fx _ (List.getElem_mem h1')) (List.all_eq_true.mp fy _ (List.getElem_mem h2'))
  ·rw [l1,vh xs ys hl]
   exact ⟨.bl _,H,I,rfl,q⟩
 ·refine SeqAt.eq_list_lengthsAt p1.isList p2.isList (by rw [l1,l2];simpa using hl) hu ?_
  rw [if_neg (by simp),zj hl] at q
  exact ⟨.bl false,H,I,rfl,q⟩
end
def dO (K:W.Frag) (mg:Str->Option Value) (x:Str) (st:Stmt):Prop:=∃ f fd,Fun K x x st f fd/\mg x=some (.ref f)
theorem bA {K:W.Frag} {mg:Str->Option Value} {h:Heap} (X:K.In h) (G:h.Ns mainGlobals mg) {x:Str} {st:Stmt} {f:Addr} {oc:Value} {od an:Option Addr} {osl:Array (Option Value)} {kV doc pm cdv ct:Value}
  (a:PySem.W.nsIn K mainGlobals x=some (some (.ref f)))
  (l:K.lookup f=some ⟨oc,od,.func (PySem.W.fnOf x x (iy st) (dm st) (au st) .none kV doc pm an cdv ct),osl⟩)
  (c:PySem.W.codeIn K cdv x=true) (k:PySem.W.keepIn K (.ref f)=true):dO K mg x st:=⟨f,_,Hq l c k,PySem.W.mg_of X G a⟩
def pQ (P:Program) (w:World) (K:W.Frag) (mg:Str->Option Value) (base:Heap) (k:Nat) (x:Str) (ps:List Str) (sp:Sp):Prop:=
 ∃ f fd,mg x=some (.ref f)/\PySem.W.keepIn K (.ref f)=true/\Binds K fd ps []/\rY P w K mg base Bc k f fd ps sp
section
variable {P:Program} {w:World} {K:W.Frag} {mg:Str->Option Value} {base:Heap}
theorem Ro {x:Str} {st:Stmt} {N ps:List Str} {k:Nat} {sp:Sp} (D:dO K mg x st) (S:aJ N ps (au st))
  (hb:∀ (kV doc pm:Value) (an:Option Addr) (cdv ct:Value) (us:List Value),us.length=ps.length->bindArgs (PySem.W.fnOf x x (iy st) (dm st) (au st) .none kV doc pm an cdv ct) ⟨us,[]⟩=pure (ps.zip us))
  (len:∀ vs H Q E,sp vs H Q E->vs.length=ps.length)
  (hbody:∀ (f:Addr) (cdv:Value) (A:Around) (outer:List Env) (s:Shared) (H:Hp) (vs:List V) (Q:VK) (E:XK),Room k (A.deeper (envOfC x (au st) s.heap.objs.size f cdv))->sp vs H Q E->
   ∃ t,PSs (qK Bc P w K mg base N x (au st) f cdv A outer s H E).nox (dm st) t/\t {nx:=fun _ H'=>Q .non H',rt:=Q} (start N vs) H):pQ P w K mg base (k+1) x ps sp:=by
 obtain ⟨f,fd,F,hm⟩:=D
 exact ⟨f,fd,hm,F.kp,F.binds hb,F.ok S len fun cdv A outer s H vs Q E hr h=>hbody f cdv A outer s H vs Q E hr h⟩
end
section
variable {X:Cx}
theorem Ia {k:Nat} {x:Str} {ps:List Str} {sp:Sp} {p pos:Pos} {e:Expr} {es:List Expr} {t:TA} (F:pQ X.prog X.w X.K X.mg X.base k x ps sp) (hr:Room k X.A) (hg:Gl X x)
  (ha:PA X (e :: es) t) (hdb:autoParam ((x == ("__debug__":Str))=false) L2.auto2._auto_1) (he:autoParam (starEach (e :: es) X.env=(false,eval e X.env) :: starEach es X.env) L2.auto4._auto_1) (hpl:autoParam ((backTo pos (starEach es X.env)).any (·.1)=false) L2.auto4._auto_1):
  PE X (.Call (.Name x p) (e :: es) [] pos) (wK sp [] E0 t):=by
 obtain ⟨f,fd,a,b,c,d⟩:=F
 exact Lx d hr hg a b c .nil Wa ha hdb he hpl
def zm:R2:=fun x y H Q=>(∃ i j,x= .int i/\y= .int j/\Q (.int (i+j)) H)\/(∃ i j,x= .str i/\y= .str j/\i.length+j.length<=sizeLine/\Q (.str (i ++ j)) H)\/V8 x y H Q
theorem bz:OpR X (binaryOp .Add) zm:=QZ.or (Av.or Ri)
def Ib:R2:=fun x y H Q=>(∃ i j,x= .int i/\y= .int j/\CMul i j/\Q (.int (i*j)) H)\/Pj x y H Q\/V9 x y H Q
theorem jo:OpR X (binaryOp .Mult) Ib:=Q0.or (Bf.or Rj)
theorem Ie {x:Str} {z:Str} {pos:Pos} (hg:Gl X x) (hm:∃ t,X.mg x=some (.str z t)) (hd:autoParam ((x == ("__debug__":Str))=false) L2.auto2._auto_1):PE X (.Name x pos) (tC (.str z)):=
 let ⟨t,e⟩:=hm;BZ hg e ⟨t,rfl⟩ hd
theorem Ig {x:Str} {z:Int} {pos:Pos} (hg:Gl X x) (hm:∃ t,X.mg x=some (.int z t)) (hd:autoParam ((x == ("__debug__":Str))=false) L2.auto2._auto_1):PE X (.Name x pos) (tC (.int z)):=
 let ⟨t,e⟩:=hm;BZ hg e ⟨t,rfl⟩ hd
theorem Wf {x:Str} {T:String} {pos:Pos} (hg:Gl X x) (hm:X.mg x=none) (hv:bootBuiltins x=some (.type T)) (hn:autoParam (x≠"__name__") L2.auto2._auto_1) (hd:autoParam ((x == ("__debug__":Str))=false) L2.auto2._auto_1):PE X (.Name x pos) (tC (.ty T)):=
 K8 hg hm hv rfl hn hd
def Mi (K:W.Frag):R2:=fun x y H Q=>(∃ i j,x= .str i/\y= .str j/\Q (.bl (!(Builtin.Str.occurrences j i 0 j.length 1).isEmpty)) H)\/rIn K false x y H Q
theorem Rp:OpR X (compareOp .In) (Mi X.K):=Ea.or Ei
def Rq (K:W.Frag):R2:=fun x y H Q=>rEq x y H Q\/We K false x y H Q
theorem Rr (hu:X.A.units < cLine):OpR X (compareOp .Eq) (Rq X.K):=VM.or (Ep hu)
def Wg (K:W.Frag):V->Option Int->Option Int->Hp->VK->Prop:=fun x lo hi H Q=>V4 K x lo hi H Q\/VR K x lo hi H Q\/Wd x lo hi H Q
theorem Ih:SlR X (Wg X.K):=LQ.or (Q9.or Rm)
def Mj (K:W.Frag) (tl:TE):TI:=fun U H R=>tl U H fun x H1=>(∃ a,x= .ref a/\(∃ xs,SqL K H1 a xs)/\R (QS K a) H1)\/(∃ a,x= .ref a/\(∃ xs,SqT K H1 a xs)/\R (Itt K a) H1)\/(∃ z,x= .str z/\R (Ph z) H1)
theorem Rt {tg l:Expr} {tl:TE} (hl:PE X l tl):PI X tg l (Mj X.K tl):=by
 intro pins s U H R I h
 refine d7 (hl pins s U H _ I h) fun v s1 qq0=>?_
 obtain ⟨x,H1,I1,r1,q1⟩:=qq0
 rcases q1 with ⟨a,rfl,⟨xs,hq⟩,q⟩ | ⟨a,rfl,⟨xs,hq⟩,q⟩ | ⟨z,rfl,q⟩
 ·cases r1
  obtain ⟨its,rv,p,hz⟩:=I1.list hq
  refine wpAny_pyIter_list p.isList ?_
  refine ⟨s1.heap.objs.size,[s1.heap.objs.size],_,_,H1,rfl,I1.kept (t':=s1.toks) fun b o e=>Heap.get?_push_of_some _ e,DW a _,⟨_,Heap.get?_push_size _ rfl,rfl,rfl⟩,fun b hb=>?_,q⟩
  have e:b=s1.heap.objs.size:=by simpa using hb
  subst e
  exact I1.fpOk (Nat.le_refl _) (I1.hok.fresh (Nat.le_refl _))
 ·cases r1
  obtain ⟨its,rv,p,hz⟩:=I1.tuple hq
  refine wpAny_pyIter_tuple (show s1.heap.IsTuple a its.toArray from p) ?_
  refine ⟨s1.heap.objs.size,[s1.heap.objs.size],_,_,H1,rfl,I1.kept (t':=s1.toks) fun b o e=>Heap.get?_push_of_some _ e,Aq a _,⟨_,Heap.get?_push_size _ rfl,rfl,rfl⟩,fun b hb=>?_,q⟩
  have e:b=s1.heap.objs.size:=by simpa using hb
  subst e
  exact I1.fpOk (Nat.le_refl _) (I1.hok.fresh (Nat.le_refl _))
 ·obtain ⟨t,rfl⟩:=r1
  have fin:∀ (ty:String) (T:Turn X.prog X.w X.K tg (Ph z) [s1.heap.objs.size] s1.heap.objs.size (fun i h=>h.IsStrIter s1.heap.objs.size ty z t i)) (o:Obj),(s1.heap.push o).IsStrIter s1.heap.objs.size ty z t 0->PIE X pins U tg R (.ref s1.heap.objs.size) {s1 with heap:=s1.heap.push o}:=
   fun ty T o st=>⟨s1.heap.objs.size,[s1.heap.objs.size],_,_,H1,rfl,I1.kept (t':=s1.toks) fun b o e=>Heap.get?_push_of_some _ e,T,st,fun b hb=>by
    have e:b=s1.heap.objs.size:=by simpa using hb
    subst e
    exact I1.fpOk (Nat.le_refl _) (I1.hok.fresh (Nat.le_refl _)),q⟩
  cases ha:z.cps.all (· < 128)
  ·exact wpAny_pyIter_wide ha (fin "str_iterator" (zf _ z t _ (by decide) (fun A' hA=>Walks.strWide hA _ z t) fun A i s Q E st h=>wpAny_pyIter_striter_wide st h) _ ⟨_,Heap.get?_push_size _ rfl,rfl,rfl⟩)
  ·exact wpAny_pyIter_ascii ha (fin "str_ascii_iterator" (zf _ z t _ (by decide) (fun A' hA=>Walks.strAscii hA _ z t) fun A i s Q E st h=>wpAny_pyIter_striter_ascii st h) _ ⟨_,Heap.get?_push_size _ rfl,rfl,rfl⟩)
end
section
variable {X:Cx} {K:W.Frag}
theorem Ml (hK:X.K=K):IxR X (Rc K):=hK ▸ Rf
theorem Ru (hK:X.K=K):OpR X (compareOp .In) (Mi K):=hK ▸ Rp
theorem Rv (hK:X.K=K) (hu:X.A.units < cLine):OpR X (compareOp .Eq) (Rq K):=hK ▸ Rr hu
theorem Mm (hK:X.K=K):SlR X (Wg K):=hK ▸ Ih
theorem Mp {tg l:Expr} {tl:TE} (hK:X.K=K) (hl:PE X l tl):PI X tg l (Mj K tl):=hK ▸ Rt hl
def Mq (K:W.Frag):List V->Hp->VK->Prop:=fun xs H Q=>∃ x n,xs=[x]/\VP K x H n/\Q (.int n) H
theorem aG (hK:X.K=K):CallR X (.builtin "len") (Mq K):=hK ▸ Hg
theorem b8 (hK:X.K=K):CallR X (.builtin "isinstance") (Rn K):=hK ▸ HY
def Bh (K:W.Frag):List V->Hp->VK->Prop:=fun xs H Q=>(∃ p ys,xs=[.ref p]/\(SqL K H p ys\/SqT K H p ys)/\∀ l,H l=none->Q (.ref l) (upd H l (.lst ys)))\/(∃ x,xs=[.str x]/\x.cps.size<=sizeLine/\∀ p,H p=none->Q (.ref p) (upd H p (.lst (sgn x))))
theorem j9 (hK:X.K=K) (hc:X.calm=true):CallR X (.type "list") (Bh K):=hK ▸ xQ.or (zg hc)
variable {o e:Expr} {es:List Expr} {to:TE} {t:TA} {name:Str} {apos cpos:Pos} {T id:String} {r:V->List V->Hp->VK->Prop}
theorem Mr (hK:X.K=K) (pa:PlainAttrs T) (slot:Slot T name id) (hty:typeOf (.builtin id)=pure (.type "method_descriptor")) (hm:LC X id r) (ho:PE X o to)
  (hbase:autoParam (attributeBase o name X.env (eval o X.env)=eval o X.env) L2.auto4._auto_1) (hline:autoParam ((apos.endLine == cpos.line)=true) L2.auto4._auto_1):PE X (.Call (.Attribute o name apos) [] [] cpos) (Hn K T r to):=by
 subst hK;exact Rg pa slot hty hm ho hbase hline
theorem Rw (hK:X.K=K) (pa:PlainAttrs T) (slot:Slot T name id) (hty:typeOf (.builtin id)=pure (.type "method_descriptor")) (hm:LC X id r) (ho:PE X o to) (ha:PA X (e :: es) t)
  (hbase:autoParam (attributeBase o name X.env (eval o X.env)=eval o X.env) L2.auto4._auto_1)
  (hfew:((backTo cpos (starEach (e :: es) X.env)).all (fun x=>!x.1) && (backToKw cpos (keywordEach [] X.env)).all (fun x=>x.1.isSome)
   && decide ((e :: es).length+([]:List Keyword).length+(if ([]:List Keyword).isEmpty then 0 else 1) < 30))=true:=by rfl)
  (hline:autoParam ((apos.endLine == cpos.line)=true) L2.auto4._auto_1) (hs:autoParam (starEach (e :: es) X.env=(false,eval e X.env) :: starEach es X.env) L2.auto4._auto_1) (hplain:autoParam ((backTo cpos (starEach es X.env)).any (·.1)=false) L2.auto4._auto_1):
  PE X (.Call (.Attribute o name apos) (e :: es) [] cpos) (V6 K T r to t):=by
 subst hK;exact V7 pa slot hty hm ho ha hbase hfew hline hs hplain
theorem Ms {ts:List Expr} {k:Nat} {gs:Am} {n:Nat} {pos:Pos} (hK:X.K=K) (hc:X.calm=true) (h:Vu X ts gs)
  (hn:autoParam ((assignEach ts X.env).length=n) L2.auto4._auto_1) (hst:autoParam ((assignEach ts X.env).findIdx? (·.1)=none) L2.auto4._auto_1):PG X (.Tuple ts k pos) (Lj K n gs):=by
 subst hK;exact GJ hc h hn hst
end
section
variable {X:Cx} {sc scope:Scope} {N':List Str} {C:Addr} {s₀:Shared} {H₀:Hp} {ex:List Addr} {x:Str} {pos:Pos}
theorem pvL (i:Nat) (h:sc.names.lookup x=some .local) (hN:autoParam (X.N[i]?=some x) L2.auto4._auto_1) (hsc:autoParam (X.env.scope=sc) L2.auto4._auto_1) (hd:autoParam ((x == ("__debug__":Str))=false) L2.auto6._auto_1) (hcd:autoParam ((x == ("__classdict__":Str))=false) L2.auto6._auto_1):
  PE X (.Name x pos) (rR i):=xJ hN (.inl (by rw [hsc];exact h)) hd hcd
theorem pvC (i:Nat) (h:sc.names.lookup x=some .cell) (hN:autoParam (X.N[i]?=some x) L2.auto4._auto_1) (hsc:autoParam (X.env.scope=sc) L2.auto4._auto_1) (hd:autoParam ((x == ("__debug__":Str))=false) L2.auto6._auto_1) (hcd:autoParam ((x == ("__classdict__":Str))=false) L2.auto6._auto_1):
  PE X (.Name x pos) (rR i):=xJ hN (.inr (.inl (by rw [hsc];exact h))) hd hcd
theorem pvBL (i:Nat) (h:scope.names.lookup x=some .local) (hN:autoParam (N'[i]?=some x) L2.auto4._auto_1) (hd:autoParam ((x == ("__debug__":Str))=false) L2.auto6._auto_1) (hcd:autoParam ((x == ("__classdict__":Str))=false) L2.auto6._auto_1):
  PE (pL X N' scope C s₀ H₀ ex) (.Name x pos) (rR i):=xJ hN (.inl (lookup_relabel_local h)) hd hcd
theorem pvBF (i:Nat) (h:scope.names.lookup x=some .free) (hN:autoParam (N'[i]?=some x) L2.auto4._auto_1) (hd:autoParam ((x == ("__debug__":Str))=false) L2.auto6._auto_1) (hcd:autoParam ((x == ("__classdict__":Str))=false) L2.auto6._auto_1):
  PE (pL X N' scope C s₀ H₀ ex) (.Name x pos) (rR i):=xJ hN (by
   rcases qP (env:=X.env) h with z | z
   ·exact .inr (.inl z)
   ·exact .inr (.inr z)) hd hcd
theorem aX (h:sc.names.lookup x=some .globalImplicit) (hsc:autoParam (X.env.scope=sc) L2.auto4._auto_1):Gl X x:=by
 show X.env.scope.names.lookup x=_
 rw [hsc];exact h
theorem j4 {env:Env}:∀ {names:List (Str×NameKind)} {x:Str},names.lookup x=some .globalImplicit->
  (names.map fun (n,k)=>if (k == NameKind.free && env.scope.kind == .function && env.kindOf n == some .cell) then (n,NameKind.cell) else (n,k)).lookup x=some .globalImplicit
 | [],_,h=>by simp at h
 | (n,k) :: r,x,h=>by
  have ih:=@j4 env r x
  show List.lookup x ((if (k == NameKind.free && env.scope.kind == .function && env.kindOf n == some .cell)=true then (n,NameKind.cell) else (n,k)) :: _)=_
  cases hx:x == n with
  | true=>
   simp only [List.lookup_cons,hx] at h
   cases h
   simp [List.lookup_cons,hx]
  | false=>
   simp only [List.lookup_cons,hx] at h
   by_cases hc:(k == NameKind.free && env.scope.kind == .function && env.kindOf n == some .cell)=true
   ·rw [if_pos hc];simp only [List.lookup_cons,hx];exact ih h
   ·rw [if_neg hc];simp only [List.lookup_cons,hx];exact ih h
theorem Gq (h:scope.names.lookup x=some .globalImplicit):Gl (pL X N' scope C s₀ H₀ ex) x:=j4 h
theorem pgB (i:Nat) (h:scope.names.lookup x=some .local) (hN:N'.Nodup) (hi:autoParam (N'[i]?=some x) L2.auto4._auto_1):PG (pL X N' scope C s₀ H₀ ex) (.Name x pos) (pO i):=
 Cd hN hi (.inl (lookup_relabel_local h)) (.inr (lookup_relabel_local h))
end
def lA:Expr->Bool
 | .ListComp ..=>false | .SetComp ..=>false | .DictComp ..=>false | _=>true
theorem zp {value:Expr} {target:Option Expr} {line:Nat} {env:Env} (h:lA value=true):swapsWith value target line env=pure false:=by
 cases value <;> first | rfl | cases h
def qQ:Expr->Bool
 | .Slice ..=>false | _=>true
theorem pix {b:Expr} (h:qQ b=true):Cr b:=by
 intro o i
 cases b <;> first | rfl | cases h
def rZ:Expr->Bool
 | .Set ..=>false | _=>true
theorem Ii {e:Expr} {env:Env} (h:rZ e=true):∀ x,foldedSetIterable e env x=pure x:=by
 intro x
 cases e <;> first | rfl | cases h
def notStar:Expr->Bool
 | .Starred ..=>false | _=>true
theorem fP {e:Expr} {es:List Expr} {env:Env} (h:notStar e=true):starEach (e :: es) env=(false,eval e env) :: starEach es env:=by
 cases e <;> first | rfl | cases h
theorem qd {env:Env} {pos:Pos}:∀ {es:List Expr},es.all notStar=true->(backTo pos (starEach es env)).any (·.1)=false
 | [],_=>rfl
 | e :: es,h=>by
  simp only [List.all_cons,Bool.and_eq_true] at h
  rw [fP h.1]
  show (false || (backTo pos (starEach es env)).any (·.1))=false
  rw [qd h.2];rfl
theorem Ij {env:Env} {pos:Pos}:∀ {es:List Expr},es.all notStar=true->(backTo pos (starEach es env)).all (fun x=>!x.1)=true
 | [],_=>rfl
 | e :: es,h=>by
  simp only [List.all_cons,Bool.and_eq_true] at h
  rw [fP h.1]
  show (true && (backTo pos (starEach es env)).all (fun x=>!x.1))=true
  rw [Ij h.2];rfl
section
variable {X:Cx} {K:W.Frag} {e:Expr} {es:List Expr} {te:TE} {t:TA} {pos p:Pos}
theorem paC (ha:PE X e te) (hr:PA X es t) (h:autoParam (notStar e=true) L2.auto4._auto_1):PA X (e :: es) (Cm te t):=Lr ha hr (fP h)
theorem Wh {k:Nat} {x:Str} {ps:List Str} {sp:Sp} (F:pQ X.prog X.w X.K X.mg X.base k x ps sp) (hr:Room k X.A) (hg:Gl X x) (ha:PA X (e :: es) t) (hdb:(x == ("__debug__":Str))=false) (h:autoParam ((e :: es).all notStar=true) L2.auto4._auto_1):
  PE X (.Call (.Name x p) (e :: es) [] pos) (wK sp [] E0 t):=by
 simp only [List.all_cons,Bool.and_eq_true] at h
 exact Ia F hr hg ha hdb (fP h.1) (qd h.2)
theorem Wi {x:Str} {id:String} {r:List V->Hp->VK->Prop} (hc:CallR X (.builtin id) r) (hg:Gl X x) (hm:X.mg x=none) (hv:bootBuiltins x=some (.builtin id)) (ha:PA X (e :: es) t) (hn:x≠"__name__") (hdb:(x == ("__debug__":Str))=false) (h:autoParam ((e :: es).all notStar=true) L2.auto4._auto_1):
  PE X (.Call (.Name x p) (e :: es) [] pos) (Q8 r t):=by
 simp only [List.all_cons,Bool.and_eq_true] at h
 exact Hh hc hg hm hv ha hn hdb (fP h.1) (qd h.2)
theorem Rx {x:Str} {T:String} {r:List V->Hp->VK->Prop} (hc:CallR X (.type T) r) (hg:Gl X x) (hm:X.mg x=none) (hv:bootBuiltins x=some (.type T)) (ha:PA X (e :: es) t) (hn:x≠"__name__") (hdb:(x == ("__debug__":Str))=false) (h:autoParam ((e :: es).all notStar=true) L2.auto4._auto_1):
  PE X (.Call (.Name x p) (e :: es) [] pos) (Q8 r t):=by
 simp only [List.all_cons,Bool.and_eq_true] at h
 exact Eh hc hg hm hv ha hn hdb (fP h.1) (qd h.2)
def qR:Expr->Bool
 | .Call ..=>false | _=>true
theorem Pk {o:Expr} {f:Str} {env:Env} {w:Sem Value} (h:qR o=true):attributeBase o f env w=w:=by
 cases o <;> first | rfl | cases h
theorem Wj {o:Expr} {to:TE} {name:Str} {apos cpos:Pos} {T id:String} {r:V->List V->Hp->VK->Prop} (hK:X.K=K) (pa:PlainAttrs T) (slot:Slot T name id) (hty:typeOf (.builtin id)=pure (.type "method_descriptor")) (hm:LC X id r) (ho:PE X o to) (ha:PA X (e :: es) t)
  (hbase:autoParam (qR o=true) L2.auto4._auto_1) (hl:autoParam (es.length < 20) L2.auto2._auto_1) (hline:autoParam ((apos.endLine == cpos.line)=true) L2.auto4._auto_1) (h:autoParam ((e :: es).all notStar=true) L2.auto4._auto_1):
  PE X (.Call (.Attribute o name apos) (e :: es) [] cpos) (V6 K T r to t):=by
 have hA:=Ij (env:=X.env) (pos:=cpos) h
 simp only [List.all_cons,Bool.and_eq_true] at h
 refine Rw hK pa slot hty hm ho ha (Pk hbase) ?_ hline (fP h.1) (qd h.2)
 rw [hA]
 have:(e :: es).length+([]:List Keyword).length+(if ([]:List Keyword).isEmpty then 0 else 1) < 30:=by simp;omega
 rw [decide_eq_true this];rfl
theorem Ry {o:Expr} {to:TE} {name:Str} {apos cpos:Pos} {T id:String} {r:V->List V->Hp->VK->Prop} (hK:X.K=K) (pa:PlainAttrs T) (slot:Slot T name id) (hty:typeOf (.builtin id)=pure (.type "method_descriptor")) (hm:LC X id r) (ho:PE X o to)
  (hbase:autoParam (qR o=true) L2.auto4._auto_1) (hline:autoParam ((apos.endLine == cpos.line)=true) L2.auto4._auto_1):PE X (.Call (.Attribute o name apos) [] [] cpos) (Hn K T r to):=
 Mr hK pa slot hty hm ho (Pk hbase) hline
theorem Wk {i:Nat} {x:Str} {pos':Pos} (hN:X.N.Nodup) (hi:X.N[i]?=some x) (hx:Loc X.env.scope x) (he:PE X e te) (hf:X.fn x=true) (h:autoParam (lA e=true) L2.auto4._auto_1):PS X (.Assign [.Name x pos'] e pos) (xK te (pO i)):=
 GP hN hi hx he (zp h) (.inl hf)
theorem Rz (he:PE X e te) (h:autoParam (lA e=true) L2.auto4._auto_1):PS X (.Expr e pos) (Ca te):=Lg he (zp h)
theorem ixE {a b:Expr} {ta tb:TE} (hK:X.K=K) (ha:PE X a ta) (hb:PE X b tb) (h:autoParam (qQ b=true) L2.auto4._auto_1):PE X (.Subscript a b pos) (Ha (Rc K) ta tb):=V0 (Ml hK) ha hb (pix h)
theorem Wl {tg iter:Expr} {body:List Stmt} {wi:TI} {g:TG} {tb:TS} (hp:PassesOwn (model X.prog X.w) X.A X.env X.xe) (hc:X.calm=true) (hi:PI X tg iter wi) (hg:PG X tg g) (hb:PSs X body tb) (h:autoParam (rZ iter=true) L2.auto4._auto_1):PS X (.For tg iter body [] pos) (Lk wi g tb):=
 QT hp hc hi hg hb (Ii h)
end
section
variable {X:Cx} {tg iter elt:Expr} {ifs:List Expr} {scope:Scope} {pos:Pos} {N':List Str} {sub:List (Option Nat)} {wi:TI} {g:TG} {tt:TT} {te:TE} {N:List Str} {sc:Scope}
theorem Wm (S:tR N sc N' scope sub) (hc:X.calm=true) (hN:X.N=N) (hsc:X.env.scope=sc) (hi:PI X tg iter wi)
  (hg:∀ (C:Addr) (s₀:Shared) (H₀:Hp) (ex:List Addr),PG (pL X N' scope C s₀ H₀ ex) tg g)
  (ht:∀ (C:Addr) (s₀:Shared) (H₀:Hp) (ex:List Addr),xR (pL X N' scope C s₀ H₀ ex) ifs tt)
  (he:∀ (C:Addr) (s₀:Shared) (H₀:Hp) (ex:List Addr),PE (pL X N' scope C s₀ H₀ ex) elt te) (h:autoParam (rZ iter=true) L2.auto4._auto_1):
  PE X (.ListComp elt [⟨tg,iter,ifs,0⟩] scope pos) (u9 sub wi g tt te):=Cw S hc hN hsc hi hg ht he (Ii h)
end
theorem bJ:bootBuiltins "len"=some (.builtin "len"):=by trivial
theorem vm:bootBuiltins "max"=some (.builtin "max"):=by trivial
theorem RC:bootBuiltins "min"=some (.builtin "min"):=by trivial
theorem aR:bootBuiltins "isinstance"=some (.builtin "isinstance"):=by trivial
theorem vo:bootBuiltins "all"=some (.builtin "all"):=by trivial
theorem RG:bootBuiltins "any"=some (.builtin "any"):=by trivial
theorem wX:bootBuiltins "sorted"=some (.builtin "sorted"):=by trivial
theorem Cz:bootBuiltins "repr"=some (.builtin "repr"):=by trivial
theorem gC:bootBuiltins "list"=some (.type "list"):=by trivial
theorem oA:bootBuiltins "tuple"=some (.type "tuple"):=by trivial
theorem Ik:bootBuiltins "int"=some (.type "int"):=by trivial
theorem RJ:bootBuiltins "str"=some (.type "str"):=by trivial
theorem xV:bootBuiltins "enumerate"=some (.type "enumerate"):=by trivial
theorem zq:bootBuiltins "reversed"=some (.type "reversed"):=by trivial
theorem xW:bootBuiltins "bool"=some (.type "bool"):=by trivial
theorem lu {c A B:Prop} [Decidable c] (h1:c->A) (h2:¬ c->B):if decide c=true then A else B:=by
 by_cases h:c
 ·rw [if_pos (decide_eq_true h)];exact h1 h
 ·rw [if_neg (by rw [decide_eq_false h];exact Bool.false_ne_true)];exact h2 h
theorem dJ {α:Type} {xs:List α} {k:Int} {v:α} (h0:0<=k) (h:xs[k.toNat]?=some v):uH xs k=some v:=by
 have e:((k.toNat:Nat):Int)=k:=by omega
 rw [← e]
 exact uI h
section
variable {U:St} {H:Hp} {D:Ends} {ta tb te tc:TE} {tt tu:TT} {Q:VK} {t u:TS} {g:TG}
theorem wY (h:t {D with nx:=u D} U H):Lb t u D U H:=h
theorem jA (h:D.nx U H):Gz D U H:=h
theorem mR (h:te U H fun x H1=>g x U H1 D.nx):xK te g D U H:=h
theorem jB {i:Nat} {v:V} {R:St->Hp->Prop} (h:R (U.set i (some v)) H):pO i v U H R:=h
theorem mU {to ti:TE} {ts:An} {v:V} {R:St->Hp->Prop} (h:to U H fun o H1=>ti U H1 fun i H2=>ts o i v H2 fun H3=>R U H3):QJ to ti ts v U H R:=h
theorem mV (h:te U H D.rt):QD te D U H:=h
theorem jC (h:te U H fun _ H1=>D.nx U H1):Ca te D U H:=h
theorem uf (h:tt U H fun b H1=>if b=true then t D U H1 else u D U H1):QG tt t u D U H:=h
theorem jD {R:Bool->Hp->Prop} (h:te U H fun x H1=>∃ k,x= .bl k/\R k H1):wJ te U H R:=h
theorem ug {R:Bool->Hp->Prop} (h:te U H fun x H1=>∃ k,x= .bl k/\R k H1):tB te U H R:=h
theorem mW {R:Bool->Hp->Prop} (h:tt U H fun c H1=>R (!c) H1):Qv tt U H R:=h
theorem mX {R:Bool->Hp->Prop} (h:tt U H fun c H1=>if c=true then tu U H1 R else R false H1):K9 tt tu U H R:=h
theorem uh {R:Bool->Hp->Prop} (h:tt U H fun c H1=>if c=true then R true H1 else tu U H1 R):tOr tt tu U H R:=h
theorem jE (h:ta U H fun x H1=>∃ c,x= .bl c/\if c=true then tb U H1 Q else Q (.bl false) H1):Gx ta tb U H Q:=h
theorem jF (h:ta U H fun x H1=>∃ c,x= .bl c/\Q (.bl (!c)) H1):Gy ta U H Q:=h
theorem mY {i:Nat} {v:V} (e:U[i]?=some (some v)) (h:Q v H):rR i U H Q:=⟨v,e,h⟩
theorem Gr {v:V} (h:Q v H):tC v U H Q:=h
theorem ul {r:R2} (h:ta U H fun x H1=>tb U H1 fun y H2=>r x y H2 Q):Ha r ta tb U H Q:=h
theorem um {r:V->Hp->VK->Prop} (h:ta U H fun x H1=>r x H1 Q):tUn r ta U H Q:=h
theorem uo {r:List V->Hp->VK->Prop} {a:TA} (h:a U H fun vs H1=>r vs H1 Q):Q8 r a U H Q:=h
theorem jG {a:TA} {R:List V->Hp->Prop} (h:te U H fun x H1=>a U H1 fun xs H2=>R (x :: xs) H2):Cm te a U H R:=h
theorem mZ {R:List V->Hp->Prop} (h:R [] H):Q3 U H R:=h
theorem jH {sp:Sp} {E:XK} {a:TA} (h:a U H fun vs H1=>sp vs H1 Q E):wK sp [] E a U H Q:=by
 unfold wK
 simpa only [List.append_nil] using h
theorem wZ {a:TA} (h:a U H fun xs H1=>xs.length<=sizeLine/\∀ p,H1 p=none->Q (.ref p) (upd H1 p (.tup xs))):Ls a U H Q:=h
theorem w5 {a:TA} (h:a U H fun xs H1=>xs.length<=sizeLine/\∀ p,H1 p=none->Q (.ref p) (upd H1 p (.lst xs))):Lw a U H Q:=h
theorem uq {K:W.Frag} {T:String} {r:V->List V->Hp->VK->Prop} {a:TA} (h:te U H fun x H1=>V5 K T x H1/\a U H1 fun xs H2=>r x xs H2 Q):V6 K T r te a U H Q:=h
theorem m8 {K:W.Frag} {T:String} {r:V->List V->Hp->VK->Prop} (h:te U H fun x H1=>V5 K T x H1/\r x [] H1 Q):Hn K T r te U H Q:=h
theorem ur {r:V->Option Int->Option Int->Hp->VK->Prop} {tl th:TO} (h:te U H fun x H1=>tl U H1 fun l H2=>th U H2 fun u H3=>r x l u H3 Q):tSl r te tl th U H Q:=h
theorem m9 {R:Option Int->Hp->Prop} (h:R none H):xM U H R:=h
theorem jJ {R:Option Int->Hp->Prop} (h:te U H fun x H1=>∃ i,x= .int i/\R (some i) H1):Hj te U H R:=h
theorem jK {R:Bool->Hp->Prop} (h:R true H):Hs U H R:=h
theorem jL {a:TA} {R:It->Hp->Prop} (h:a U H fun vs H1=>∃ j:Int,vs=[.int j]/\-(2 ^ 62)<=j/\j < 2 ^ 62/\R (O7 0 j.toNat) H1):GX a U H R:=h
theorem jM {K:W.Frag} {R:It->Hp->Prop} (h:te U H fun x H1=>(∃ a,x= .ref a/\(∃ xs,SqL K H1 a xs)/\R (QS K a) H1)\/(∃ a,x= .ref a/\(∃ xs,SqT K H1 a xs)/\R (Itt K a) H1)\/(∃ z,x= .str z/\R (Ph z) H1)):Mj K te U H R:=h
theorem jN {sub:List (Option Nat)} {wi:TI} (h:wi U H fun J H1=>zc sub g tt te U Q J H1):u9 sub wi g tt te U H Q:=h
theorem ni {wi:TI} {tbd:TS} (h:wi U H fun J H1=>∃ W:Nat->Nat->St->Hp->Prop,(∃ m,W 0 m U H1)/\∀ i m U H,W i m U H->
 (J.stop i H/\D.nx U H)\/(J.go i H/\∃ N:St->Hp->Prop,(∀ U' H',N U' H'->∃ m',m' < m/\W (i+1) m' U' H')/\∀ x H',J.yld i H x H'->g x U H' fun σ2 H2=>tbd {D with nx:=N,ct:=N,bk:=D.nx} σ2 H2)):Lk wi g tbd D U H:=h
variable {i j:Int} {x y:Str} {f:Int->Int->V} {C:Int->Int->Prop} {K:W.Frag}
theorem ut (h:Q (f i j) H):K6 f (.int i) (.int j) H Q:=⟨_,_,rfl,rfl,h⟩
theorem Gs (c:C i j) (h:Q (f i j) H):rI C f (.int i) (.int j) H Q:=⟨_,_,rfl,rfl,c,h⟩
theorem jO (h:Q (.int (i+j)) H):zm (.int i) (.int j) H Q:=.inl ⟨_,_,rfl,rfl,h⟩
theorem Il (c:x.length+y.length<=sizeLine) (h:Q (.str (x ++ y)) H):zm (.str x) (.str y) H Q:=.inr (.inl ⟨_,_,rfl,rfl,c,h⟩)
theorem Bj {a b:Addr} {xs ys:List V} (ha:H a=some (.lst xs)) (hb:H b=some (.lst ys)) (c:xs.length+ys.length<=sizeLine) (h:∀ p,H p=none->Q (.ref p) (upd H p (.lst (xs ++ ys)))):zm (.ref a) (.ref b) H Q:=
 .inr (.inr ⟨a,b,xs,ys,rfl,rfl,ha,hb,c,h⟩)
theorem jP (c:CMul i j) (h:Q (.int (i*j)) H):Ib (.int i) (.int j) H Q:=.inl ⟨_,_,rfl,rfl,c,h⟩
theorem bD {p:Addr} {xs:List V} {v:V} (s:SqL K H p xs) (e:uH xs i=some v) (h:Q v H):Rc K (.ref p) (.int i) H Q:=.inl ⟨p,xs,i,v,rfl,rfl,s,e,h⟩
theorem ju {p:Addr} {xs:List V} {v:V} (s:SqT K H p xs) (e:uH xs i=some v) (h:Q v H):Rc K (.ref p) (.int i) H Q:=.inr (.inl ⟨p,xs,i,v,rfl,rfl,s,e,h⟩)
theorem pR {c:Nat} (s:x.length<=sizeLine) (e:uH x.cps.toList i=some c) (h:Q (.str ⟨#[c]⟩) H):Rc K (.str x) (.int i) H Q:=.inr (.inr ⟨x,i,c,rfl,rfl,s,e,h⟩)
theorem iM {p:Addr} {xs:List V} {n:Nat} {v:V} {R:Hp->Prop} (hp:H p=some (.lst xs)) (e:Cp xs.length i=some n) (h:R (upd H p (.lst (xs.set n v)))):yW (.ref p) (.int i) v H R:=⟨p,xs,i,n,rfl,rfl,hp,e,h⟩
theorem lV (h:Q (.bl (!(Builtin.Str.occurrences y x 0 y.length 1).isEmpty)) H):Mi K (.str x) (.str y) H Q:=.inl ⟨_,_,rfl,rfl,h⟩
theorem uv {b:Bool} {R:Bool->Prop} (h:R b):∃ k,V.bl b= .bl k/\R k:=⟨b,rfl,h⟩
theorem jQ {n:Int} {R:Int->Prop} (h:R n):∃ k,V.int n= .int k/\R k:=⟨n,rfl,h⟩
end
theorem Same.upd {H H':Hp} {p:Addr} {o:HO} (s:Same H H') (hn:H' p=none):Same H (upd H' p o):=fun b u e=>by
 have q:=s b u e
 rw [aC (fun z=>by rw [z,hn] at q;cases q)]
 exact q
def Chg (p:Addr) (H H':Hp):Prop:=∀ b o,b≠p->H b=some o->H' b=some o
def Pur (H:Hp) (p:Addr):Prop:=∃ a b c:Int,H p=some (.lst [.int a,.int b,.int c])/\0<=a/\0<=b/\b < 2147483629
theorem Chg.refl (p:Addr) (H:Hp):Chg p H H:=fun _ _ _ e=>e
theorem Chg.trans {p:Addr} {H H1 H2:Hp} (a:Chg p H H1) (b:Chg p H1 H2):Chg p H H2:=fun c o n e=>b c o n (a c o n e)
theorem Chg.of_same {p:Addr} {H H':Hp} (s:Same H H'):Chg p H H':=fun b o _ e=>s b o e
theorem Chg.new {p q:Addr} {H H1:Hp} {o:HO} (a:Chg p H H1) (hn:H1 q=none):Chg p H (upd H1 q o):=fun b u n e=>by
 have z:=a b u n e
 rw [aC (fun k=>by rw [k,hn] at z;cases z)]
 exact z
theorem Chg.at_ {p q:Addr} {H H':Hp} {o:HO} (a:Chg p H H') (hq:H q=some o) (hn:q≠p):H' q=some o:=a q o hn hq
theorem Chg.none_ {p q:Addr} {H H':Hp} (a:Chg p H H') (hq:H' q=none) (hn:q≠p):H q=none:=by
 cases e:H q with
 | none=>rfl
 | some o=>rw [a q o hn e] at hq;cases hq
theorem Pur.ne {H:Hp} {p q:Addr} (h:Pur H p) (hq:H q=none):q≠p:=by
 obtain ⟨a,b,c,e,_⟩:=h
 intro z;subst z;rw [e] at hq;cases hq
theorem Pur.new {H:Hp} {p q:Addr} {o:HO} (h:Pur H p) (hq:H q=none):Pur (upd H q o) p:=by
 have n:=h.ne hq
 obtain ⟨a,b,c,e,r⟩:=h
 exact ⟨a,b,c,by rw [aC (Ne.symm n)];exact e,r⟩
theorem dM {H:Hp} {q b:Addr} {o u:HO} (hq:H q=none) (hb:H b=some u):upd H q o b=some u:=by
 rw [aC (fun z=>by rw [z,hq] at hb;cases hb)];exact hb
theorem Im {ns:List Int} {d:Int} (h0:0<=d) (h1:d < ns.length):∃ n,n∈ns/\uH (ns.map V.int) d=some (.int n):=by
 have hl:d.toNat < ns.length:=by omega
 refine ⟨ns[d.toNat],List.getElem_mem hl,dJ h0 ?_⟩
 rw [List.getElem?_map,List.getElem?_eq_getElem hl];rfl
theorem Wn {ns:List Str} {d:Int} (h0:0<=d) (h1:d < ns.length):∃ n,n∈ns/\uH (ns.map V.str) d=some (.str n):=by
 have hl:d.toNat < ns.length:=by omega
 refine ⟨ns[d.toNat],List.getElem_mem hl,dJ h0 ?_⟩
 rw [List.getElem?_map,List.getElem?_eq_getElem hl];rfl
theorem Wo {ns:List Nat} {d:Int} (h0:0<=d) (h1:d < ns.length):∃ n,n∈ns/\uH ns d=some n:=by
 have hl:d.toNat < ns.length:=by omega
 exact ⟨ns[d.toNat],List.getElem_mem hl,dJ h0 (List.getElem?_eq_getElem hl)⟩
theorem Io {vs:List V} {d:Int} (h0:0<=d) (h1:d < vs.length):∃ v,v∈vs/\uH vs d=some v:=by
 have hl:d.toNat < vs.length:=by omega
 exact ⟨vs[d.toNat],List.getElem_mem hl,dJ h0 (List.getElem?_eq_getElem hl)⟩
theorem Bk (sep:Str) (ys:List Str):Txt.join sep ys=Str.join sep ys:=by
 show Builtin.Str.glued sep ys=Str.join sep ys
 exact PySem.StrLaws.glued_eq_join sep ys
theorem zr (ys:List Str):(Txt.join (Str.ofString "") ys).cps.toList=(ys.map fun y=>y.cps.toList).flatten:=by
 rw [Bk]
 have e0:(Str.ofString "").cps= #[]:=by trivial
 have key:∀ ys:List Str,(Str.join (Str.ofString "") ys).cps.toList=(ys.map fun y=>y.cps.toList).flatten:=by
  intro ys
  induction ys with
  | nil=>rfl
  | cons y r ih=>
   cases r with
   | nil=>simp [Str.join]
   | cons z r=>
    show ((y ++ Str.ofString "") ++ Str.join (Str.ofString "") (z :: r)).cps.toList=_
    rw [Str.cps_append,Str.cps_append,e0]
    simp only [Array.append_empty,Array.toList_append,ih,List.map_cons,List.flatten_cons]
 exact key ys
theorem cC (x:Str):x.length=x.cps.toList.length:=by simp [Str.length]
theorem Ip {ys:List Str} (h:∀ y∈ys,y.length=1):(Txt.join (Str.ofString "") ys).length=ys.length:=by
 rw [cC,zr]
 induction ys with
 | nil=>rfl
 | cons y r ih=>
  have h1:=h y (by simp)
  rw [cC] at h1
  simp only [List.map_cons,List.flatten_cons,List.length_append,List.length_cons,h1]
  rw [ih fun z hz=>h z (by simp [hz])]
  omega
theorem Ir {ys:List Str} (h:∀ y∈ys,y.length=1):(ys.map (·.length)).sum=ys.length:=by
 induction ys with
 | nil=>rfl
 | cons y r ih=>
  simp only [List.map_cons,List.sum_cons,List.length_cons,h y (by simp),ih fun z hz=>h z (by simp [hz])]
  omega
theorem len1 (c:Nat):(⟨#[c]⟩:Str).length=1:=by simp [Str.length]
section
variable {H:Hp} {Q:VK} {K:W.Frag}
theorem jR {p:Addr} {xs:List V} (s:SqL K H p xs) (h:Q (.int xs.length) H):Mq K [V.ref p] H Q:=⟨_,_,rfl,.inl ⟨_,s,rfl⟩,h⟩
theorem vp {p:Addr} {xs:List V} (s:SqT K H p xs) (h:Q (.int xs.length) H):Mq K [V.ref p] H Q:=⟨_,_,rfl,.inr ⟨_,s,rfl⟩,h⟩
theorem fZ {z:Str} (s:z.length<=sizeLine) (h:Q (.int z.length) H):Mq K [V.str z] H Q:=⟨_,_,rfl,⟨s,rfl⟩,h⟩
theorem uw {i j:Int} {R:Int->Int->Prop} (h:R i j):∃ a b,[V.int i,V.int j]=[.int a,.int b]/\R a b:=⟨_,_,rfl,h⟩
theorem bV {x:V} {T:String} {t:Value} {b:Bool} (ty:nU K H x t) (e:PySem.W.kitOne K t (.type T)=some b) (h:Q (.bl b) H):Rn K [x,.ty T] H Q:=⟨x,T,t,b,rfl,ty,e,h⟩
theorem RK {sep:Str} {p:Addr} {ys:List Str} (hp:H p=some (.lst (ys.map V.str))) (hz:(ys.map (·.length)).sum+ys.length*sep.length<=16777216) (h:Q (.str (Txt.join sep ys)) H):rJoin (.str sep) [.ref p] H Q:=⟨sep,p,ys,rfl,rfl,hp,hz,h⟩
theorem Wq {x:Str} {lo hi:Option Int} (hz:x.length<=sizeLine) (h:Q (.str (Txt.slice x lo hi)) H):Wg K (.str x) lo hi H Q:=.inr (.inr ⟨x,rfl,hz,h⟩)
theorem Iu {p:Addr} {xs:List V} {lo hi:Option Int} (s:SqL K H p xs) (h:∀ q,H q=none->Q (.ref q) (upd H q (.lst (nJ xs lo hi)))):Wg K (.ref p) lo hi H Q:=.inl ⟨p,xs,rfl,s,h⟩
end
section
variable {U:St} {H:Hp} {Q:VK}
theorem Mu {K:W.Frag} {a:Addr} {xs:List V} (s:SqL K H a xs) (h:∀ p,H p=none->Q (.ref p) (upd H p (.lst xs))):Bh K [.ref a] H Q:=.inl ⟨a,xs,rfl,.inl s,h⟩
end
theorem lW {sub:List (Option Nat)} {g:TG} {tt:TT} {te:TE} {U:St} {Q:VK} {H:Hp} {lo:Int} {n:Nat} (Pv:Nat->List V->Hp->Prop) (hn:n<=sizeLine) (h0:Pv 0 [] H) (hl:∀ i ys H,Pv i ys H->ys.length<=i)
  (hs:∀ i ys H,i < n->Pv i ys H->g (.int (lo+i)) (fY sub U) H fun σ2 H2=>KeepSt (fY sub U) σ2/\tt σ2 H2 fun b H3=>if b=true then te σ2 H3 fun y H4=>Pv (i+1) (ys ++ [y]) H4 else Pv (i+1) ys H3)
  (hd:∀ ys H,Pv n ys H->∀ D,H D=none->Q (.ref D) (upd H D (.lst ys))):zc sub g tt te U Q (O7 lo n) H:=
 xU (n:=n) Pv hn h0 hl (fun i ys H hi _=>hi) (fun ys H _=>Nat.le_refl _) (fun i ys H x H' hi p y=>by
  obtain ⟨e1,e2⟩:=y
  subst e1 e2
  exact hs i ys _ hi p) hd
theorem Iv {sub:List (Option Nat)} {g:TG} {tt:TT} {te:TE} {U:St} {Q:VK} {H:Hp} {z:Str} (Pv:Nat->List V->Hp->Prop) (hn:z.cps.size<=sizeLine) (h0:Pv 0 [] H) (hl:∀ i ys H,Pv i ys H->ys.length<=i)
  (hs:∀ i ys H c,z.cps.toList[i]?=some c->Pv i ys H->g (.str ⟨#[c]⟩) (fY sub U) H fun σ2 H2=>KeepSt (fY sub U) σ2/\tt σ2 H2 fun b H3=>if b=true then te σ2 H3 fun y H4=>Pv (i+1) (ys ++ [y]) H4 else Pv (i+1) ys H3)
  (hd:∀ ys H,Pv z.cps.size ys H->∀ D,H D=none->Q (.ref D) (upd H D (.lst ys))):zc sub g tt te U Q (Ph z) H:=
 xU (n:=z.cps.size) Pv hn h0 hl (fun i ys H hi _=>hi) (fun ys H _=>rfl) (fun i ys H x H' hi p y=>by
  obtain ⟨e1,c,e2,e3⟩:=y
  subst e1 e3
  exact hs i ys _ c (by simpa using e2) p) hd
theorem eG {sub:List (Option Nat)} {g:TG} {tt:TT} {te:TE} {U:St} {Q:VK} {H:Hp} {K:W.Frag} {a:Addr} {xs:List V} (Pv:Nat->List V->Hp->Prop) (hn:xs.length<=sizeLine) (h0:Pv 0 [] H) (hl:∀ i ys H,Pv i ys H->ys.length<=i)
  (hq:∀ i ys H,Pv i ys H->SqL K H a xs)
  (hs:∀ i ys H x,xs[i]?=some x->Pv i ys H->g x (fY sub U) H fun σ2 H2=>KeepSt (fY sub U) σ2/\tt σ2 H2 fun b H3=>if b=true then te σ2 H3 fun y H4=>Pv (i+1) (ys ++ [y]) H4 else Pv (i+1) ys H3)
  (hd:∀ ys H,Pv xs.length ys H->∀ D,H D=none->Q (.ref D) (upd H D (.lst ys))):zc sub g tt te U Q (QS K a) H:=
 xU (n:=xs.length) Pv hn h0 hl (fun i ys H hi p=>⟨xs,xs[i],hq i ys H p,List.getElem?_eq_getElem hi⟩) (fun ys H p=>⟨xs,hq _ ys H p,Nat.le_refl _⟩) (fun i ys H x H' hi p y=>by
  obtain ⟨e1,e2⟩:=y
  subst e1
  exact hs i ys _ x (e2 xs (hq i ys _ p)) p) hd
structure JE (X:Cx) (e:Expr) (t:TE):Prop where
 run:PE X e t
structure JT (X:Cx) (e:Expr) (t:TT):Prop where
 run:PT X e t
structure JW (X:Cx) (e:Expr) (t:TT):Prop where
 run:PW X e t
structure JA (X:Cx) (es:List Expr) (t:TA):Prop where
 run:PA X es t
structure JS (X:Cx) (s:Stmt) (t:TS):Prop where
 run:PS X s t
structure JB (X:Cx) (s:List Stmt) (t:TS):Prop where
 run:PSs X s t
structure JI (X:Cx) (tg iter:Expr) (t:TI):Prop where
 run:PI X tg iter t
structure JG (X:Cx) (tg:Expr) (t:TG):Prop where
 run:PG X tg t
structure Wr (X:Cx) (tg:List Expr) (t:Am):Prop where
 run:Vu X tg t
structure JO (X:Cx) (e:Option Expr) (t:TO):Prop where
 run:PO X e t
structure JPs (X:Cx) (pos:Pos) (keys:List (Option Expr)) (values:List Expr) (t:List (TE×TE)):Prop where
 run:PPs X pos keys values t
structure Mv (X:Cx) (ifs:List Expr) (t:TT):Prop where
 run:xR X ifs t
section
variable {X:Cx} {K:W.Frag} {sc scope:Scope} {N':List Str} {C:Addr} {s₀:Shared} {H₀:Hp} {ex:List Addr} {x:Str} {pos p p2 pos' apos cpos tpos:Pos} {a b c e o:Expr} {es:List Expr} {ta tb tc te to ti:TE} {t:TA} {tA tB' tt:TT} {rest:List Expr}
theorem ak (i:Nat) (h:sc.names.lookup x=some .local) (hN:autoParam (X.N[i]?=some x) L2.auto4._auto_1) (hsc:autoParam (X.env.scope=sc) L2.auto4._auto_1) (hd:autoParam ((x == ("__debug__":Str))=false) L2.auto6._auto_1) (hcd:autoParam ((x == ("__classdict__":Str))=false) L2.auto6._auto_1):JE X (.Name x pos) (rR i):=⟨pvL i h hN hsc hd hcd⟩
theorem sr (i:Nat) (h:sc.names.lookup x=some .cell) (hN:autoParam (X.N[i]?=some x) L2.auto4._auto_1) (hsc:autoParam (X.env.scope=sc) L2.auto4._auto_1) (hd:autoParam ((x == ("__debug__":Str))=false) L2.auto6._auto_1) (hcd:autoParam ((x == ("__classdict__":Str))=false) L2.auto6._auto_1):JE X (.Name x pos) (rR i):=⟨pvC i h hN hsc hd hcd⟩
theorem iI (i:Nat) (h:scope.names.lookup x=some .local) (hN:autoParam (N'[i]?=some x) L2.auto4._auto_1) (hd:autoParam ((x == ("__debug__":Str))=false) L2.auto6._auto_1) (hcd:autoParam ((x == ("__classdict__":Str))=false) L2.auto6._auto_1):JE (pL X N' scope C s₀ H₀ ex) (.Name x pos) (rR i):=⟨pvBL i h hN hd hcd⟩
theorem iJ (i:Nat) (h:scope.names.lookup x=some .free) (hN:autoParam (N'[i]?=some x) L2.auto4._auto_1) (hd:autoParam ((x == ("__debug__":Str))=false) L2.auto6._auto_1) (hcd:autoParam ((x == ("__classdict__":Str))=false) L2.auto6._auto_1):JE (pL X N' scope C s₀ H₀ ex) (.Name x pos) (rR i):=⟨pvBF i h hN hd hcd⟩
theorem az {i j}:JE X (.Constant (.int i) j pos) (tC (.int i)):=⟨Qq⟩
theorem iw {i j}:JE X (.Constant (.bool i) j pos) (tC (.bl i)):=⟨VD⟩
theorem Pn {j}:JE X (.Constant .none j pos) (tC .non):=⟨Qs⟩
theorem CG {i j}:JE X (.Constant (.str i) j pos) (tC (.str i)):=⟨Qt⟩
theorem Iw {z:Str} (hg:Gl X x) (hm:∃ t,X.mg x=some (.str z t)) (hd:(x == ("__debug__":Str))=false):JE X (.Name x pos) (tC (.str z)):=⟨Ie hg hm hd⟩
theorem RL {z:Int} (hg:Gl X x) (hm:∃ t,X.mg x=some (.int z t)) (hd:(x == ("__debug__":Str))=false):JE X (.Name x pos) (tC (.int z)):=⟨Ig hg hm hd⟩
theorem oE {T:String} (hg:Gl X x) (hm:X.mg x=none) (hv:bootBuiltins x=some (.type T)) (hn:x≠"__name__") (hd:(x == ("__debug__":Str))=false):JE X (.Name x pos) (tC (.ty T)):=⟨Wf hg hm hv hn hd⟩
theorem bY {op:Operator} {r:R2} (ho:OpR X (binaryOp op) r) (ha:JE X a ta) (hb:JE X b tb):JE X (.BinOp a op b pos) (Ha r ta tb):=⟨VH ho ha.run hb.run⟩
theorem wz {op:UnaryOp} {r:V->Hp->VK->Prop} (ho:Y4 X (unaryOp op) r) (ha:JE X a ta):JE X (.UnaryOp op a pos) (tUn r ta):=⟨VJ ho ha.run⟩
theorem kh {op:CmpOp} {r:R2} (ho:OpR X (compareOp op) r) (ha:JE X a ta) (hb:JE X b tb) (hm:behindInMarks op b=false):JE X (.Compare a [op] [b] pos) (Ha r ta tb):=⟨Ln ho ha.run hb.run hm⟩
theorem bH {op:CmpOp} {r:R2} (ho:OpR X (compareOp op) r) (ha:JE X a ta) (hb:JE X b tb) (hm:behindInMarks op b=false):JT X (.Compare a [op] [b] pos) (wJ (Ha r ta tb)):=⟨Lp ho ha.run hb.run hm⟩
theorem CJ (ha:JT X a tA):JW X (.BoolOp .And [a] pos) tA:=⟨La ha.run⟩
theorem gf (ha:JT X a tA):JW X (.BoolOp .Or [a] pos) tA:=⟨Qw ha.run⟩
theorem Iz (ha:JT X a tA) (hb:JW X (.BoolOp .And (b :: rest) pos) tB'):JW X (.BoolOp .And (a :: b :: rest) pos) (K9 tA tB'):=⟨Qx ha.run hb.run⟩
theorem gn (ha:JT X a tA) (hb:JW X (.BoolOp .Or (b :: rest) pos) tB'):JW X (.BoolOp .Or (a :: b :: rest) pos) (tOr tA tB'):=⟨VF ha.run hb.run⟩
theorem iK (h:JW X e tt):JT X e tt:=⟨h.run.pt⟩
theorem bN (ha:JT X a tA):JT X (.UnaryOp .Not a pos) (Qv tA):=⟨Qy ha.run⟩
def plainT:Expr->Bool
 | .BoolOp ..=>false | .UnaryOp ..=>false | .Compare ..=>false | .IfExp ..=>false | _=>true
theorem bO (h:JE X e te) (hp:autoParam (plainT e=true) L2.auto4._auto_1):JT X e (tB te):=⟨Qu h.run (by
 intro whole
 cases e <;> first | rfl | cases hp)⟩
theorem w6 {op} (h:JE X a te):JE X (.BoolOp op [a] pos) te:=⟨Qz h.run⟩
theorem pU (ha:JE X a ta) (hb:JE X (.BoolOp .And (b :: rest) pos) tb):JE X (.BoolOp .And (a :: b :: rest) pos) (Gx ta tb):=⟨QB ha.run hb.run⟩
theorem IK (ha:JE X a ta):JE X (.UnaryOp .Not a pos) (Gy ta):=⟨QC ha.run⟩
theorem cI {x1} (h:JA X es t):JE X (.Tuple es x1 pos) (Ls t):=⟨Q5 h.run⟩
theorem dj (h:JA X es t):JE X (.List es pos) (Lw t):=⟨Q6 h.run⟩
theorem aj:JA X [] Q3:=⟨Q4⟩
theorem aa (ha:JE X e te) (hr:JA X es t) (h:autoParam (notStar e=true) L2.auto4._auto_1):JA X (e :: es) (Cm te t):=⟨paC ha.run hr.run h⟩
theorem dU:JO X none xM:=⟨Ly⟩
theorem eQ (h:JE X e te):JO X (some e) (Hj te):=⟨Lz h.run⟩
theorem fQ {r:V->Option Int->Option Int->Hp->VK->Prop} {lo hi:Option Expr} {tl th:TO} (hr:SlR X r) (he:JE X e te) (hl:JO X lo tl) (hu:JO X hi th):JE X (.Subscript e (.Slice lo hi none p2) pos) (tSl r te tl th):=⟨Hk hr he.run hl.run hu.run⟩
theorem aV (hK:X.K=K) (ha:JE X a ta) (hb:JE X b tb) (h:autoParam (qQ b=true) L2.auto4._auto_1):JE X (.Subscript a b pos) (Ha (Rc K) ta tb):=⟨ixE hK ha.run hb.run h⟩
theorem aH {k:Nat} {ps:List Str} {sp:Sp} (F:pQ X.prog X.w X.K X.mg X.base k x ps sp) (hr:Room k X.A) (hg:Gl X x) (ha:JA X (e :: es) t) (hdb:(x == ("__debug__":Str))=false) (h:autoParam ((e :: es).all notStar=true) L2.auto4._auto_1):
  JE X (.Call (.Name x p) (e :: es) [] pos) (wK sp [] E0 t):=⟨Wh F hr hg ha.run hdb h⟩
theorem aB {id:String} {r:List V->Hp->VK->Prop} (hc:CallR X (.builtin id) r) (hg:Gl X x) (hm:X.mg x=none) (hv:bootBuiltins x=some (.builtin id)) (ha:JA X (e :: es) t) (hn:x≠"__name__") (hdb:(x == ("__debug__":Str))=false) (h:autoParam ((e :: es).all notStar=true) L2.auto4._auto_1):
  JE X (.Call (.Name x p) (e :: es) [] pos) (Q8 r t):=⟨Wi hc hg hm hv ha.run hn hdb h⟩
theorem oF {T:String} {r:List V->Hp->VK->Prop} (hc:CallR X (.type T) r) (hg:Gl X x) (hm:X.mg x=none) (hv:bootBuiltins x=some (.type T)) (ha:JA X (e :: es) t) (hn:x≠"__name__") (hdb:(x == ("__debug__":Str))=false) (h:autoParam ((e :: es).all notStar=true) L2.auto4._auto_1):
  JE X (.Call (.Name x p) (e :: es) [] pos) (Q8 r t):=⟨Rx hc hg hm hv ha.run hn hdb h⟩
theorem kj {name:Str} {T id:String} {r:V->List V->Hp->VK->Prop} (hK:X.K=K) (pa:PlainAttrs T) (slot:Slot T name id) (hty:typeOf (.builtin id)=pure (.type "method_descriptor")) (hm:LC X id r) (ho:JE X o to) (ha:JA X (e :: es) t)
  (hbase:autoParam (qR o=true) L2.auto4._auto_1) (hl:autoParam (es.length < 20) L2.auto2._auto_1) (hline:autoParam ((apos.endLine == cpos.line)=true) L2.auto4._auto_1) (h:autoParam ((e :: es).all notStar=true) L2.auto4._auto_1):JE X (.Call (.Attribute o name apos) (e :: es) [] cpos) (V6 K T r to t):=⟨Wj hK pa slot hty hm ho.run ha.run hbase hl hline h⟩
theorem CK {name:Str} {T id:String} {r:V->List V->Hp->VK->Prop} (hK:X.K=K) (pa:PlainAttrs T) (slot:Slot T name id) (hty:typeOf (.builtin id)=pure (.type "method_descriptor")) (hm:LC X id r) (ho:JE X o to)
  (hbase:autoParam (qR o=true) L2.auto4._auto_1) (hline:autoParam ((apos.endLine == cpos.line)=true) L2.auto4._auto_1):JE X (.Call (.Attribute o name apos) [] [] cpos) (Hn K T r to):=⟨Ry hK pa slot hty hm ho.run hbase hline⟩
theorem dW:Mv X [] Hs:=⟨Ht⟩
theorem CN (hc:JT X c tt):Mv X [c] tt:=⟨Hu hc.run⟩
variable {tg iter elt:Expr} {ifs:List Expr} {sub:List (Option Nat)} {wi:TI} {g:TG} {N:List Str}
theorem fU {ta:TA} (hg:Gl X "range") (hm:X.mg "range"=none) (ha:JA X [a] ta) (h:autoParam (notStar a=true) L2.auto4._auto_1):JI X tg (.Call (.Name "range" p) [a] [] pos) (GX ta):=⟨DX hg hm ha.run (fP h)⟩
theorem cT (hK:X.K=K) (hl:JE X e te):JI X tg e (Mj K te):=⟨Mp hK hl.run⟩
theorem bI {i:Nat} (hN:X.N.Nodup) (hi:X.N[i]?=some x) (hx:Loc X.env.scope x) (hf:X.fn x=true):JG X (.Name x pos) (pO i):=⟨Cd hN hi hx (.inl hf)⟩
theorem oG (i:Nat) (h:scope.names.lookup x=some .local) (hN:N'.Nodup) (hi:autoParam (N'[i]?=some x) L2.auto4._auto_1):JG (pL X N' scope C s₀ H₀ ex) (.Name x pos) (pO i):=⟨pgB i h hN hi⟩
theorem lZ:Wr X [] QH:=⟨Li⟩
theorem dq {gs:Am} (h1:JG X e g) (h2:Wr X es gs) (hs:autoParam ((assignEach (e :: es) X.env).map (·.2)=assign e X.env :: (assignEach es X.env).map (·.2)) L2.auto4._auto_1):Wr X (e :: es) (GD g gs):=⟨GF h1.run h2.run hs⟩
theorem su {ts:List Expr} {k:Nat} {gs:Am} {n:Nat} (hK:X.K=K) (hc:X.calm=true) (h:Wr X ts gs) (hn:autoParam ((assignEach ts X.env).length=n) L2.auto4._auto_1) (hst:autoParam ((assignEach ts X.env).findIdx? (·.1)=none) L2.auto4._auto_1):JG X (.Tuple ts k pos) (Lj K n gs):=⟨Ms hK hc h.run hn hst⟩
theorem oH {ts:An} (ho:JE X a ta) (hi:JE X b tb) (hs:Lh X ts) (h:autoParam (qQ b=true) L2.auto4._auto_1):JG X (.Subscript a b pos) (QJ ta tb ts):=⟨QK ho.run hi.run hs (by
 intro v
 cases b <;> first | rfl | cases h)⟩
theorem gO (S:tR N sc N' scope sub) (hc:X.calm=true) (hN:X.N=N) (hsc:X.env.scope=sc) (hi:JI X tg iter wi)
  (hg:∀ (C:Addr) (s₀:Shared) (H₀:Hp) (ex:List Addr),JG (pL X N' scope C s₀ H₀ ex) tg g)
  (ht:∀ (C:Addr) (s₀:Shared) (H₀:Hp) (ex:List Addr),Mv (pL X N' scope C s₀ H₀ ex) ifs tt)
  (he:∀ (C:Addr) (s₀:Shared) (H₀:Hp) (ex:List Addr),JE (pL X N' scope C s₀ H₀ ex) elt te) (h:autoParam (rZ iter=true) L2.auto4._auto_1):
  JE X (.ListComp elt [⟨tg,iter,ifs,0⟩] scope pos) (u9 sub wi g tt te):=⟨Wm S hc hN hsc hi.run (fun C s₀ H₀ ex=>(hg C s₀ H₀ ex).run) (fun C s₀ H₀ ex=>(ht C s₀ H₀ ex).run) (fun C s₀ H₀ ex=>(he C s₀ H₀ ex).run) h⟩
variable {st:Stmt} {sts:List Stmt} {u v:TS}
theorem aN {i:Nat} (hN:X.N.Nodup) (hi:X.N[i]?=some x) (hx:Loc X.env.scope x) (he:JE X e te) (hf:X.fn x=true) (h:autoParam (lA e=true) L2.auto4._auto_1):JS X (.Assign [.Name x pos'] e pos) (xK te (pO i)):=⟨Wk hN hi hx he.run hf h⟩
theorem lB {ts:An} (he:JE X e te) (hg:JG X (.Subscript a b pos') g) (h:autoParam (lA e=true) L2.auto4._auto_1):JS X (.Assign [.Subscript a b pos'] e pos) (xK te g):=⟨GK he.run hg.run (by show swapsWith e (some (.Subscript a b pos')) pos.line X.env=pure false;exact zp h) (by cases e <;> rfl) rfl⟩
theorem aD (he:JE X e te):JS X (.Return (some e) pos) (QD te):=⟨QF he.run⟩
theorem cU (he:JE X e te) (h:autoParam (lA e=true) L2.auto4._auto_1):JS X (.Expr e pos) (Ca te):=⟨Rz he.run h⟩
theorem bM {sa sb:List Stmt} (hc:JT X c tt) (ha:JB X sa u) (hb:JB X sb v):JS X (.If c sa sb pos) (QG tt u v):=⟨VG hc.run ha.run hb.run⟩
theorem dN {body:List Stmt} (hp:PassesOwn (model X.prog X.w) X.A X.env X.xe) (hc:X.calm=true) (hi:JI X tg iter wi) (hg:JG X tg g) (hb:JB X body u) (h:autoParam (rZ iter=true) L2.auto4._auto_1):JS X (.For tg iter body [] pos) (Lk wi g u):=⟨Wl hp hc hi.run hg.run hb.run h⟩
theorem IV {body:List Stmt} (hp:PassesOwn (model X.prog X.w) X.A X.env X.xe) (hc:JT X c tt) (hb:JB X body u):JS X (.While c body [] pos) (Ao tt u):=⟨GQ hp hc.run hb.run⟩
theorem bx:JB X [] Gz:=⟨Ld⟩
theorem aA (h:JS X st u):JB X [st] u:=⟨Le h.run⟩
theorem aq (h:JS X st u) (h2:JB X sts v):JB X (st :: sts) (Lb u v):=⟨GC h.run h2.run⟩
end
section
variable {P:Program} {w:World} {K:W.Frag} {mg:Str->Option Value} {base:Heap}
theorem iQ {x:Str} {st:Stmt} {N ps:List Str} {k:Nat} {sp:Sp} (D:dO K mg x st) (S:aJ N ps (au st))
  (hb:∀ (kV doc pm:Value) (an:Option Addr) (cdv ct:Value) (us:List Value),us.length=ps.length->bindArgs (PySem.W.fnOf x x (iy st) (dm st) (au st) .none kV doc pm an cdv ct) ⟨us,[]⟩=pure (ps.zip us))
  (len:∀ vs H Q E,sp vs H Q E->vs.length=ps.length)
  (hbody:∀ (f:Addr) (cdv:Value) (A:Around) (outer:List Env) (s:Shared) (H:Hp) (vs:List V) (Q:VK) (E:XK),Room k (A.deeper (envOfC x (au st) s.heap.objs.size f cdv))->sp vs H Q E->
   ∃ t,JB (qK Bc P w K mg base N x (au st) f cdv A outer s H E).nox (dm st) t/\t {nx:=fun _ H'=>Q .non H',rt:=Q} (start N vs) H):pQ P w K mg base (k+1) x ps sp:=
 Ro D S hb len fun f cdv A outer s H vs Q E hr h=>let ⟨t,j,q⟩:=hbody f cdv A outer s H vs Q E hr h;⟨t,j.run,q⟩
theorem okJ {x:Str} {st:Stmt} {N ps:List Str} {k:Nat} {sp:Sp} {f:Addr} {fd:FuncData} (F:Fun K x x st f fd) (S:aJ N ps (au st)) (len:∀ vs H Q E,sp vs H Q E->vs.length=ps.length)
  (hbody:∀ (f:Addr) (cdv:Value) (A:Around) (outer:List Env) (s:Shared) (H:Hp) (vs:List V) (Q:VK) (E:XK),Room k (A.deeper (envOfC x (au st) s.heap.objs.size f cdv))->sp vs H Q E->
   ∃ t,JB (qK Bc P w K mg base N x (au st) f cdv A outer s H E).nox (dm st) t/\t {nx:=fun _ H'=>Q .non H',rt:=Q} (start N vs) H):rY P w K mg base Bc (k+1) f fd ps sp:=
 F.ok S len fun cdv A outer s H vs Q E hr h=>let ⟨t,j,q⟩:=hbody f cdv A outer s H vs Q E hr h;⟨t,j.run,q⟩
end
theorem vq {K:W.Frag} {mg:Str->Option Value} {h:Heap} (X:K.In h) (G:h.Ns mainGlobals mg) {x:Str} {v:Value} {f:Tok->Value} (a:PySem.W.nsIn K mainGlobals x=some (some v)) (e:∃ t,v=f t):∃ t,mg x=some (f t):=by
 obtain ⟨t,rfl⟩:=e
 exact ⟨t,PySem.W.mg_of X G a⟩
theorem Ws {l:PySem.W.OpenLaw} {q:Program} {loose:List Str} {XP:(Str->Option Value)->Heap->Prop} {YP:World->Heap->Prop} {d:DefRec} {K:Params->W.Frag} {st:Stmt} {k:Nat} {sp:W.Frag->Sp} {x:Str}
  (hn:l.most=some 63) (hdf:d.params.defaults=[]) (hdn:d.name="law") (hk:Room k callerA) (hY:∀ (w:World) (h:Heap),YP w h->(K w.params).In h)
  (hb:∀ (kV doc pm:Value) (an:Option Addr) (cdv ct:Value) (us:List Value),us.length=[x].length->bindArgs (PySem.W.fnOf "law" "law" (iy st) (dm st) (au st) .none kV doc pm an cdv ct) ⟨us,[]⟩=pure ([x].zip us))
  (F:∀ (w:World) (mg:Str->Option Value) (h:Heap),(K w.params).In h->h.Ns mainGlobals mg->dO (K w.params) mg "law" st/\∀ (base:Heap) (f:Addr) (fd:FuncData),Fun (K w.params) "law" "law" st f fd->rY l.prog w (K w.params) mg base Bc k f fd [x] (sp (K w.params)))
  (hsp:∀ (K:W.Frag) (H:Hp) (a:Addr) (ns:List Int),ns.length<=63->SqL K H a (ns.map V.int)->sp K [.ref a] H (fun v _=>v= .bl true) fun _ _ _=>False) (him:autoParam (importsNone q=true) L2.auto6._auto_1):
  PySem.W.WalkO q loose XP YP l.row.toRowW d [] (fun f vs=>PySem.call f vs):=
 L2.Mf (n:=63) (k:=k) (x:=x) (CX:=fun _=>Bc) (sp:=fun w=>sp (K w.params)) hn (by decide) hdf hk hY (fun w mg fa h X G e=>by
  obtain ⟨⟨f,fd,Fn,hm⟩,ok⟩:=F w mg h X G
  rw [hdn,hm] at e
  have ef:f=fa:=by injection (Option.some.inj e)
  subst ef
  refine ⟨fd,fun s u=>?_,fun base _ _=>ok base f fd Fn⟩
  obtain ⟨oc,od,kV,doc,pm,an,cdv,ct,osl,rfl,lk,hcd⟩:=Fn.ex
  exact .of_eq (hb kV doc pm an cdv ct [u] rfl)) (fun w H a ns hl _ hS=>hsp _ H a ns hl hS) (fun _ _ _ _ _ z=>z) him
def RM (xs:Nat->List V) (n:Nat):It:=⟨fun i _=>i < n,fun i H v H'=>∃ T,H T=none/\v= .ref T/\H'=upd H T (.tup (xs i)),fun i _=>i=n⟩
theorem RN {P:Program} {w:World} {K:W.Frag} {elts:List Expr} {k:Nat} {pos:Pos} {it:Addr} {fp wr:List Addr} {n:Nat} {xs:Nat->List V} {Pt:Nat->Array Value->Prop} {St:Nat->Heap->Prop} {Mid:Nat->Addr->Heap->Prop}
  (W:∀ A:Around,A.handled=none->WalksT P w A it fp wr n Pt St Mid) (hxs:∀ i,(xs i).length<=sizeLine) (hPt:∀ i vals,Pt i vals->Vals (xs i) vals.toList) (hmem:it∈fp)
  (hobj:∀ i h,St i h->∀ b∈fp,∃ o,h.get? b=some o/\∀ v,o.data≠.cell v)
  (hself:∀ (A:Around) (i:Nat) (s:Shared) (Q:Value->Shared->Prop) (E:Value->Shared->Prop),St i s.heap->Q (.ref it) s->wpAny (model P w) A (pyIter (.ref it)) Q E s):
  Turn P w K (.Tuple elts k pos) (RM xs n) fp it St where
 mem:=hmem
 obj:=hobj
 keep:=fun i h h' st kk=>(W {} rfl).frame i h h' st kk
 item:=by
  intro X hP hw hK hc i pins s U H E I hf st hg
  subst hP hw hK
  have W':=W X.A (I.ok.hd hc)
  refine W'.item i s _ _ hg st fun T vals h' tk hPv hT isT mid kk=>?_
  refine ⟨.ref T,rfl,W'.go elts k pos i T _ _ _ mid fun h'' st'' kk2=>?_⟩
  have hTn:H T=none:=I.hok.fresh hT
  have hTw:T ∉ wr:=W'.apart i T h' mid
  have kall:∀ b o,b ∉ wr->s.heap.get? b=some o->h''.get? b=some o:=fun b o hb e=>kk2 b o hb (kk b o hb e)
  have nT:∀ b o,s.heap.get? b=some o->b≠T:=fun b o e=>Nat.ne_of_lt (Nat.lt_of_lt_of_le (Heap.lt_size e) hT)
  have nTH:∀ b u,H b=some u->b≠T:=fun b u e z=>by rw [z,hTn] at e;cases e
  have nW:∀ b u,H b=some u->b ∉ wr:=fun b u e hb=>by rw [(hf b (W'.sub b hb)).1] at e;cases e
  have isT':h''.IsTuple T vals:=by
   obtain ⟨o,ho,r⟩:=isT
   exact ⟨o,kk2 T o hTw ho,r⟩
  have hlT:∃ o,h''.get? T=some o:=let ⟨o,ho,_⟩:=isT';⟨o,ho⟩
  have I':Inv X pins U (upd H T (.tup (xs i))) {s with heap:=h'',toks:=tk}:=by
   refine I.step (g':=s.gens) (d':=s.drawn) (ch:=wr) (fun b hb=>?_) (fun b o _ _ hc e _=>kall b o hc e) (fun b o _ _ hc e _=>⟨o.slots,kall b o hc e⟩) (fun b o _ e hn=>by rw [aC (nT b o e)];exact hn)
    (fun b o hc e=>⟨o,kall b o hc e⟩) (fun b ys e=>by rw [aC (nTH b _ e)];exact e) (fun b o u e=>by rw [aC (nTH b _ e)];exact e) (fun b ps e=>⟨#[],by rw [aC (nTH b _ e),e];simp⟩) (fun m hm=>?_) (fun b u e=>?_) I.bare
   ·obtain ⟨f0,f1,f2,f3,f4,f5⟩:=hf b (W'.sub b hb)
    exact ⟨f3,f1,f4,f5⟩
   ·obtain ⟨o,es,ep,ho,r⟩:=hm
    exact ⟨o,es,ep,kall _ o (fun hb=>(hf _ (W'.sub _ hb)).2.1 rfl) ho,r⟩
   ·by_cases hb:b=T
    ·subst hb
     rw [ao] at e;cases e
     obtain ⟨o,ho,hcl,nn,hd⟩:=isT'
     exact ⟨hxs i,vals.toList,hPt i vals hPv,o,ho,hcl,nn,by simpa using hd⟩
    ·rw [aC hb] at e
     refine (I.hok b u e).stay (fun c v hc' q=>kall c v ?_ q) (fun c q=>by rw [aC (nTH c _ q)];exact q) fun c ys q=>by rw [aC (nTH c _ q)];exact q
     rcases hc' with z | z
     ·rw [z];exact nW b u e
     ·exact nW c _ z
  refine ⟨.ref T,upd H T (.tup (xs i)),I',rfl,⟨T,hTn,rfl,rfl⟩,st'',fun b hb=>?_⟩
  obtain ⟨o,e,_⟩:=hobj i _ st b hb
  rw [aC (nT b o e)]
  exact (hf b hb).1
 done:=by
  intro X hP hw hK hc i pins s U H E I hf st hg
  subst hP hw hK
  have W':=W X.A (I.ok.hd hc)
  have hg:i=n:=hg
  subst hg
  refine W'.done s _ _ st fun h' tk kk=>⟨rfl,?_⟩
  have nW:∀ b u,H b=some u->b ∉ wr:=fun b u e hb=>by rw [(hf b (W'.sub b hb)).1] at e;cases e
  refine I.step (g':=s.gens) (d':=s.drawn) (ch:=wr) (fun b hb=>?_) (fun b o _ _ hc e _=>kk b o hc e) (fun b o _ _ hc e _=>⟨o.slots,kk b o hc e⟩) (fun b o _ e hn=>hn)
    (fun b o hc e=>⟨o,kk b o hc e⟩) (fun b ys e=>e) (fun b o u e=>e) (fun b ps e=>⟨#[],by rw [e];simp⟩) (fun m hm=>?_) (fun b u e=>?_) I.bare
  ·obtain ⟨f0,f1,f2,f3,f4,f5⟩:=hf b (W'.sub b hb)
   exact ⟨f3,f1,f4,f5⟩
  ·obtain ⟨o,es,ep,ho,r⟩:=hm
   exact ⟨o,es,ep,kk _ o (fun hb=>(hf _ (W'.sub _ hb)).2.1 rfl) ho,r⟩
  ·refine (I.hok b u e).stay (fun c v hc' q=>kk c v ?_ q) (fun c q=>q) fun c ys q=>q
   rcases hc' with z | z
   ·rw [z];exact nW b u e
   ·exact nW c _ z
 self:=hself
def nj (x:Str) (i:Nat):List V:=[.int i,.str ⟨#[x.cps.getD i 0]⟩]
section
variable {prog:Program} {w:World} {A:Around} {E:Value->Shared->Prop} {s:Shared}
theorem vy {it l:Addr} {items:Array Value} (hne:l≠it):∀ (n i:Nat) (s:Shared) (Q:List Value->Shared->Prop),s.heap.IsListIter it l i->s.heap.IsList l items->i+n<=items.size->
  (∀ h',h'.IsListIter it l (i+n)->Heap.SameBut it s.heap h'->Q ((items.toList.drop i).take n) {s with heap:=h'})->wpAny (model prog w) A (draw (.ref it) n) Q E s
 | 0,i,s,Q,hit,_,_,hQ=>by
  show wpAny _ _ (pure []) Q E s
  exact wpAny_pure (by simpa using hQ s.heap hit (Heap.SameBut.refl ..))
 | n+1,i,s,Q,hit,ht,hle,hQ=>by
  have hlt:i < items.size:=by omega
  show wpAny _ _ (pyNext (.ref it) >>=_) Q E s
  refine wpAny_bind (wpAny_pyNext_list_item hit ht (x:=items[i]) (by simp [hlt]) fun h₁ hit₁ hs₁=>?_)
  refine wpAny_bind (wpAny_holding (vy hne n (i+1) _ _ hit₁ (ht.extBut hs₁.extBut hne) (by omega) fun h₂ hit₂ hs₂=>wpAny_pure ?_))
  have hd:items.toList.drop i=items[i] :: items.toList.drop (i+1):=by simp [List.drop_eq_getElem_cons,hlt]
  have:=hQ h₂ (by rw [show i+(n+1)=i+1+n by omega];exact hit₂) (hs₁.trans hs₂)
  rw [hd,List.take_succ_cons] at this
  exact this
theorem qT {l:Addr} {items:Array Value} {Q:List Value->Shared->Prop} (hh:A.handled=none) (ht:s.heap.IsList l items)
  (hQ:∀ h',Heap.ExtBut s.heap.objs.size s.heap h'->Q items.toList {s with heap:=h'}):wpAny (model prog w) A (unpackItems (.ref l) items.size none) Q E s:=by
 have hlt:l≠s.heap.objs.size:=by obtain ⟨o,ho,_⟩:=ht;exact Nat.ne_of_lt (Heap.lt_size ho)
 unfold unpackItems
 refine wpAny_bind ?_
 ·unfold notIterableAtAll
  refine wpAny_bind (wpAny_specialOf ht.typeIs slot_list_iter.lookup ?_)
  refine wpAny_pure ?_
  simp only [Bool.false_eq_true,if_false]
  refine wpAny_bind (wpAny_holding (wpAny_pyIter_list ht ?_))
  refine wpAny_bind (wpAny_holding (vy hlt items.size 0 _ _ ⟨_,Heap.get?_push_size _ rfl,rfl,rfl⟩ (let ⟨o,ho,r⟩:=ht;⟨o,Heap.get?_push_of_some _ ho,r⟩) (by omega) fun h₁ hit₁ hs₁=>?_))
  have hall:List.take items.size (List.drop 0 items.toList)=items.toList:=by
   rw [List.drop_zero];exact List.take_of_length_le (by simp)
  rw [hall]
  rw [if_neg (by simp)]
  have ht₁:h₁.IsList l items:=by
   have:(s.heap.push {cls:=.type "list_iterator",data:=.fields #[.ref l,.int 0 0]}).IsList l items:=let ⟨o,ho,r⟩:=ht;⟨o,Heap.get?_push_of_some _ ho,r⟩
   exact this.extBut hs₁.extBut hlt
  refine wpAny_bind (wpAny_holding (wpAny_pyNext_list_end hh hit₁ ht₁ (by simp) fun h₂ he₂=>?_))
  simp only [Option.isSome_none,Bool.false_eq_true,if_false]
  refine wpAny_pure (hQ h₂ fun b o hb e=>he₂ b o hb (hs₁.extBut b o hb (Heap.get?_push_of_some _ e)))
theorem qe {env:Env} {elts:List Expr} {x1} {pos:Pos} {l:Addr} {items:Array Value} {Q:Unit->Shared->Prop} (hh:A.handled=none) (ht:s.heap.IsList l items)
  (hn:(assignEach elts env).length=items.size) (hstar:(assignEach elts env).findIdx? (·.1)=none)
  (h:∀ h',Heap.ExtBut s.heap.objs.size s.heap h'->wpAny (model prog w) A (assignInOrder ((assignEach elts env).map (·.2)) items.toList) Q E {s with heap:=h'}):
  wpAny (model prog w) A (assign (.Tuple elts x1 pos) env (.ref l)) Q E s:=by
 rw [assign_Tuple]
 refine wpAny_bind (wpAny_standAt ?_)
 unfold unpack
 rw [hn,hstar]
 exact wpAny_bind (wpAny_holding (qT hh ht h))
end
def Wt (K:W.Frag) (n:Nat) (t:Am):TG:=fun v U H Q=>∃ a xs,v= .ref a/\(SqT K H a xs\/SqL K H a xs)/\xs.length=n/\t xs U H Q
theorem Mw {X:Cx} {K:W.Frag} {ts:List Expr} {k:Nat} {gs:Am} {n:Nat} {pos:Pos} (hK:X.K=K) (hc:X.calm=true) (h:Wr X ts gs) (hn:autoParam ((assignEach ts X.env).length=n) L2.auto4._auto_1) (hst:autoParam ((assignEach ts X.env).findIdx? (·.1)=none) L2.auto4._auto_1):JG X (.Tuple ts k pos) (Wt K n gs):=⟨by
 subst hK
 intro pins s U H v u Q I r hw
 obtain ⟨a,xs,e1,hq,hl,hw⟩:=hw
 subst e1
 cases r
 rcases hq with hq | hq
 ·exact (GJ hc h.run hn hst) pins s U H (.ref a) (.ref a) Q I (show RelV (.ref a) (Value.ref a) from rfl) ⟨a,xs,rfl,hq,hl,hw⟩
 ·obtain ⟨its,rv,ht,hz⟩:=I.list hq
  refine qe (I.ok.hd hc) ht.isList (by simp [hn,← hl,rv.length]) hst fun h' hx=>?_
  have I1:Inv X pins U H {s with heap:=h'}:=I.kept (t':=s.toks) fun b o e=>hx b o (Nat.ne_of_lt (Heap.lt_size e)) e
  exact h.run pins _ U H xs _ Q I1 (by simpa using rv) hw⟩
theorem Mx {X:Cx} {ts:List Expr} {k:Nat} {e:Expr} {te:TE} {g:TG} {pos pos':Pos} (he:JE X e te) (hg:JG X (.Tuple ts k pos') g) (h:autoParam (lA e=true) L2.auto4._auto_1) (h2:autoParam ((match e with | .Tuple ..=>false | _=>true)=true) L2.auto4._auto_1):JS X (.Assign [.Tuple ts k pos'] e pos) (xK te g):=
 ⟨GK he.run hg.run (by show swapsWith e (some (.Tuple ts k pos')) pos.line X.env=pure false;exact zp h) (by cases e <;> first | rfl | cases h2) rfl⟩
def Wu (K:W.Frag):R2:=fun x y H Q=>rNe x y H Q\/∃ (a b:Addr) (ns ms:List Int),x= .ref a/\y= .ref b/\SqL K H a (ns.map V.int)/\SqL K H b (ms.map V.int)/\Q (.bl (!decide (ns=ms))) H
theorem RP {X:Cx} {K:W.Frag} (hK:X.K=K) (hu:X.A.units+64 < cLine):OpR X (compareOp .NotEq) (Wu K):=by
 subst hK
 intro pins s U H x y v u Q I rx ry h
 rcases h with h | ⟨a,b,ns,ms,rfl,rfl,ha,hb,q⟩
 ·exact VN pins s U H x y v u Q I rx ry h
 ·cases rx
  cases ry
  obtain ⟨its,r1,p1,z1⟩:=I.list ha
  obtain ⟨jts,r2,p2,z2⟩:=I.list hb
  exact PySem.W.ne_intsK p1.isList (intsAre_of r1) p2.isList (intsAre_of r2) hu ⟨.bl _,H,I,rfl,q⟩
section
variable {H:Hp} {Q:VK} {K:W.Frag} {U:St}
theorem eO {n:Nat} {gs:Am} {p:Addr} {xs:List V} {R:St->Hp->Prop} (s:SqT K H p xs) (hl:xs.length=n) (h:gs xs U H R):Lj K n gs (.ref p) U H R:=⟨p,xs,rfl,s,hl,h⟩
theorem gD {t:TG} {u:Am} {v:V} {vs:List V} {R:St->Hp->Prop} (h:t v U H fun U' H'=>u vs U' H' R):GD t u (v :: vs) U H R:=⟨v,vs,rfl,h⟩
theorem jT {R:St->Hp->Prop} (h:R U H):QH [] U H R:=⟨rfl,h⟩
theorem gq {p:Addr} {xs:List V} {y:V} (hp:H p=some (.lst xs)) (c:xs.length < sizeLine) (h:Q .non (upd H p (.lst (xs ++ [y])))):Cv (.ref p) [y] H Q:=⟨p,xs,y,rfl,rfl,hp,c,h⟩
theorem Bl {xs:Nat->List V} {n:Nat} {g:TG} {tb:TS} {D:Ends} {H:Hp} (Pv:Nat->St->Hp->Prop) (h0:Pv 0 U H)
  (hs:∀ i U H T,i < n->Pv i U H->H T=none->g (.ref T) U (upd H T (.tup (xs i))) fun σ2 H2=>tb {D with nx:=Pv (i+1),ct:=Pv (i+1),bk:=D.nx} σ2 H2) (hd:∀ U H,Pv n U H->D.nx U H):
  ∃ W:Nat->Nat->St->Hp->Prop,(∃ m,W 0 m U H)/\∀ i m U H,W i m U H->
   ((RM xs n).stop i H/\D.nx U H)\/((RM xs n).go i H/\∃ N:St->Hp->Prop,(∀ U' H',N U' H'->∃ m',m' < m/\W (i+1) m' U' H')/\∀ x H',(RM xs n).yld i H x H'->g x U H' fun σ2 H2=>tb {D with nx:=N,ct:=N,bk:=D.nx} σ2 H2):=by
 refine ⟨fun i m U H=>m=n - i/\i<=n/\Pv i U H,⟨n,by simp,Nat.zero_le _,h0⟩,?_⟩
 rintro i m U H ⟨rfl,hi,p⟩
 by_cases hlt:i < n
 ·refine .inr ⟨hlt,Pv (i+1),fun U' H' p'=>⟨n - (i+1),by omega,rfl,hlt,p'⟩,fun x H' y=>?_⟩
  obtain ⟨T,hT,e1,e2⟩:=y
  subst e1 e2
  exact hs i U H T hlt p hT
 ·have e:i=n:=by omega
  subst e
  exact .inl ⟨rfl,hd U H p⟩
theorem Gu {f:Int->V} {i:Int} (h:Q (f i) H):rU f (.int i) H Q:=⟨i,rfl,h⟩
theorem IW {a:Addr} {xs:List V} {k:Int} (ha:H a=some (.lst xs)) (h0: -(2 ^ 63)<=k) (h1:k < 2 ^ 63) (hz:xs.length*k.toNat<=sizeLine) (h:∀ p,H p=none->Q (.ref p) (upd H p (.lst (List.replicate k.toNat xs).flatten))):Ib (.ref a) (.int k) H Q:=
 .inr (.inr ⟨a,k,xs,rfl,rfl,ha,h0,h1,hz,h⟩)
theorem CP {z:Str} {g:TG} {tb:TS} {D:Ends} {H:Hp} (Pv:Nat->St->Hp->Prop) (h0:Pv 0 U H)
  (hs:∀ i U H c,z.cps.toList[i]?=some c->Pv i U H->g (.str ⟨#[c]⟩) U H fun σ2 H2=>tb {D with nx:=Pv (i+1),ct:=Pv (i+1),bk:=D.nx} σ2 H2) (hd:∀ U H,Pv z.length U H->D.nx U H):
  ∃ W:Nat->Nat->St->Hp->Prop,(∃ m,W 0 m U H)/\∀ i m U H,W i m U H->
   ((Ph z).stop i H/\D.nx U H)\/((Ph z).go i H/\∃ N:St->Hp->Prop,(∀ U' H',N U' H'->∃ m',m' < m/\W (i+1) m' U' H')/\∀ x H',(Ph z).yld i H x H'->g x U H' fun σ2 H2=>tb {D with nx:=N,ct:=N,bk:=D.nx} σ2 H2):=by
 refine ⟨fun i m U H=>m=z.cps.size - i/\i<=z.cps.size/\Pv i U H,⟨z.cps.size,by simp,Nat.zero_le _,h0⟩,?_⟩
 rintro i m U H ⟨rfl,hi,p⟩
 by_cases hlt:i < z.cps.size
 ·refine .inr ⟨hlt,Pv (i+1),fun U' H' p'=>⟨z.cps.size - (i+1),by omega,rfl,hlt,p'⟩,fun x H' y=>?_⟩
  obtain ⟨e1,c,e2,e3⟩:=y
  subst e1 e3
  exact hs i U _ c (by simpa using e2) p
 ·have e:i=z.cps.size:=by omega
  subst e
  exact .inl ⟨rfl,hd U H p⟩
end
section
variable {X:Cx} {tg iter elt:Expr} {ifs:List Expr} {scope:Scope} {pos:Pos} {N':List Str} {sub:List (Option Nat)} {wi:TI} {g:TG} {tt:TT} {te:TE}
theorem Ja {N:List Str} {sc:Scope} {use:Option (Value->Sem Unit)} {R:Value->Shared->Prop} {p0:Pos} (S:tR N sc N' scope sub) (hc:X.calm=true) (hN:X.N=N) (hsc:X.env.scope=sc) (hi:PI X tg iter wi)
  (hg:∀ (C:Addr) (s₀:Shared) (H₀:Hp) (ex:List Addr),PG (pL X N' scope C s₀ H₀ ex) tg g)
  (ht:∀ (C:Addr) (s₀:Shared) (H₀:Hp) (ex:List Addr),xR (pL X N' scope C s₀ H₀ ex) ifs tt)
  (he:∀ (C:Addr) (s₀:Shared) (H₀:Hp) (ex:List Addr),PE (pL X N' scope C s₀ H₀ ex) elt te)
  (hs:∀ x,foldedSetIterable iter X.env x=pure x) (pins:List (Addr×Obj)) (s:Shared) (U:St) (H:Hp) (Q:VK) (I:Inv X pins U H s) (h:u9 sub wi g tt te U H Q)
  (hend:∀ (D C:Addr) (s5:Shared) (H5:Hp) (m:Str->Option Value),Inv X pins U H5 s5->lg X pins H5 C->s5.heap.Ns C m->Q (.ref D) H5->compPost (model X.prog X.w) X.A X.xe use R (.ref D) C (.ok .next) s5):
  wpAny (model X.prog X.w) X.A (comprehension (.ListComp elt [⟨tg,iter,ifs,0⟩] scope pos) scope X.env p0 (newList []) false (eval iter X.env) use) R X.xe s:=by
 have hcl:∀ x∈scope.names,x.2=NameKind.free->∃ c,X.env.cells.lookup x.1=some c:=fun x hx hk=>I.ok.has x.1 (by have:=S.free x hx hk;rw [← hsc] at this;exact this)
 refine wpAny_comprehension_free (use:=use) rfl hs (pP hcl) S.kind S.loc ?_
 refine d7 (hi pins s U H _ I h) fun v s1 h1=>d7 h1 fun itv s2 h2=>?_
 obtain ⟨it,fp,tn,J,H2,e,I2,T,st2,f2,W,⟨m0,w0⟩,turn⟩:=h2
 subst e
 refine wpAny_newObj_type (gZ fun h₁ hns₁ hk31 hcl₁=>?_)
 dsimp only at hns₁ hk31 hcl₁ ⊢
 generalize hs3:({s2 with heap:=s2.heap.push {cls:=.type "list",dict:=none,data:=.seq ([]:List Value).toArray}}:Shared)=s3
 have e3:s2.heap.push {cls:=.type "list",dict:=none,data:=.seq ([]:List Value).toArray}=s3.heap:=by rw [← hs3]
 rw [e3] at hns₁ hk31 hcl₁ ⊢
 have hD3:s3.heap.get? s2.heap.objs.size=some {cls:=.type "list",dict:=none,data:=.seq ([]:List Value).toArray}:=by rw [← e3];exact Heap.get?_push_size _ rfl
 have I3:Inv X pins U H2 s3:=by
  rw [← hs3]
  exact I2.kept (t':=s2.toks) fun b o e=>Heap.get?_push_of_some _ e
 have k23:∀ b o,s2.heap.get? b=some o->s3.heap.get? b=some o:=fun b o e=>by rw [← e3];exact Heap.get?_push_of_some _ e
 have hsz:s3.heap.objs.size=s2.heap.objs.size+1:=by rw [← e3,Heap.size_push]
 have hDn:H2 s2.heap.objs.size=none:=I2.hok.fresh (Nat.le_refl _)
 have fD:lg X pins H2 s2.heap.objs.size:=I2.fpOk (Nat.le_refl _) hDn
 have hfo:∀ b∈fp,b < s2.heap.objs.size:=fun b hb=>let ⟨o,e,_⟩:=T.obj _ _ st2 b hb;Heap.lt_size e
 have hDfp:s2.heap.objs.size ∉ fp:=fun z=>absurd (hfo _ z) (Nat.lt_irrefl _)
 have I4:=wV (tk:=s3.toks+([]:List (Str×Value)).length) S hN hsc I3 f2 (fun b hb=>by rw [hsz];exact Nat.lt_succ_of_lt (hfo b hb)) (D:=s2.heap.objs.size) (by rw [hsz];exact Nat.lt_succ_self _) fD hns₁ hk31 hcl₁
 have stat:∀ {H':Hp} {ob:Obj},(∀ b∈fp,H' b=none)->∀ b∈fp,lg (pL X N' scope s3.heap.objs.size s3 H2 (s2.heap.objs.size :: fp)) [(s2.heap.objs.size,ob)] H' b:=fun {H' ob} hn b hb=>by
  obtain ⟨q1,q2⟩:=I4.ok.exf b (List.mem_cons_of_mem _ hb)
  refine ⟨hn b hb,q1,I4.ok.exfs b (List.mem_cons_of_mem _ hb),.inl (List.mem_cons_of_mem _ hb),q2,fun p hp z=>?_⟩
  have hp':p=(s2.heap.objs.size,ob):=by simpa [pL] using hp
  subst hp'
  have z':s2.heap.objs.size=b:=z
  exact hDfp (by rw [z'];exact hb)
 generalize hXC:pL X N' scope s3.heap.objs.size s3 H2 (s2.heap.objs.size :: fp)=XC at I4 stat
 have eP:XC.prog=X.prog:=by rw [← hXC];rfl
 have eW:XC.w=X.w:=by rw [← hXC];rfl
 have eK:XC.K=X.K:=by rw [← hXC];rfl
 have eA:XC.A=X.A:=by rw [← hXC];rfl
 have eE:XC.env=compEnvC scope (Em X scope s3.heap.objs.size) s3.heap.objs.size X.env:=by rw [← hXC];rfl
 have eC:XC.calm=true:=by rw [← hXC];exact hc
 have eX:XC.xe=fun _ _=>False:=by rw [← hXC];rfl
 have eH:XC.H₀=H2:=by rw [← hXC];rfl
 have eS:XC.s₀=s3:=by rw [← hXC];rfl
 have eF:XC.fs=frs X.stack:=by rw [← hXC];rfl
 have eEx:XC.ex=s2.heap.objs.size :: fp:=by rw [← hXC];rfl
 have ePn:XC.pn=[]:=by rw [← hXC];rfl
 have hgC:PG XC tg g:=by rw [← hXC];exact hg _ _ _ _
 have htC:xR XC ifs tt:=by rw [← hXC];exact ht _ _ _ _
 have heC:PE XC elt te:=by rw [← hXC];exact he _ _ _ _
 have pinD:∀ {U':St} {H':Hp} {s':Shared} {ob:Obj},Inv XC [] U' H' s'->H' s2.heap.objs.size=none->s'.heap.get? s2.heap.objs.size=some ob->(∀ v,ob.data≠.cell v)->Inv XC [(s2.heap.objs.size,ob)] U' H' s':=fun {U' H' s' ob} J hn hg hd=>
  J.pins_of fun p hp=>by
   have hp':p=(s2.heap.objs.size,ob):=by simpa using hp
   subst hp'
   refine ⟨hg,hn,(J.ok.exf _ (by rw [eEx];exact List.mem_cons_self)).1,J.ok.exfs _ (by rw [eEx];exact List.mem_cons_self),hd⟩
 have loop:codeAny (model X.prog X.w) X.A (.compLoop (.ListComp elt [⟨tg,iter,ifs,0⟩] scope pos) 0 (.ref it) (.ref s2.heap.objs.size) (compEnvC scope (Em X scope s3.heap.objs.size) s3.heap.objs.size X.env))
   (compPost (model X.prog X.w) X.A X.xe use R (.ref s2.heap.objs.size) s3.heap.objs.size) {s3 with heap:=h₁,toks:=s3.toks+([]:List (Str×Value)).length}:=by
  refine wU (fun n s'=>∃ (i:Nat) (ys:List V) (its:List Value) (nn:Nat) (H':Hp),Inv XC [] (fY sub U) H' s'/\tn i s'.heap/\(∀ b∈fp,H' b=none)/\H' s2.heap.objs.size=none/\
   s'.heap.get? s2.heap.objs.size=some {cls:=.type "list",data:=.seq its.toArray nn}/\Vals ys its/\W i n ys H') ?_ m0
   ⟨0,[],[],_,H2,I4,T.keep _ _ _ st2 fun b _ o e=>hk31 b o (k23 b o e),fun b hb=>(f2 b hb).1,hDn,hk31 _ _ hD3,.nil,w0⟩
  rintro n s4 ⟨i,ys,its,nn,H4,J4,st4,fr4,dn4,dg4,rv4,w4⟩
  have P4:=pinD J4 dn4 dg4 (fun v z=>by cases z)
  rcases turn i n ys H4 w4 with ⟨stop,hyl,qn⟩ | ⟨go,hyl,N,hN,step⟩
  ·have hdone:=T.done XC eP eW eK eC i _ s4 _ H4 (fun _ _=>False) P4 (stat fr4) st4 stop
   rw [eA] at hdone
   refine wpAny_mono hdone (fun r s5 ⟨hr,I5⟩=>?_) fun _ _ z=>z
   subst hr
   obtain ⟨m,hn,_⟩:=id I5.loc
   have hCe:XC.env.locals=s3.heap.objs.size:=by rw [eE];rfl
   rw [hCe] at hn
   have hDg:=(I5.pin (s2.heap.objs.size,_) (by rw [ePn];exact List.mem_cons_self)).1
   have hDne:s2.heap.objs.size≠s3.heap.objs.size:=by rw [hsz];exact Nat.ne_of_lt (Nat.lt_succ_self _)
   have hHC:H4 s3.heap.objs.size=none:=by have:=I5.free;rw [hCe] at this;exact this
   have k56:∀ b o,b≠s3.heap.objs.size->s5.heap.get? b=some o->s5.heap.get? b=some o:=fun b o hb e=>e
   have un:=I5.base
   rw [eF,eEx,eH,eS] at un
   have nC:∀ b o,s3.heap.get? b=some o->b≠s3.heap.objs.size:=fun b o e=>Nat.ne_of_lt (Heap.lt_size e)
   have hok6:HOk X.prog X.w (upd H4 s2.heap.objs.size (.lst ys)) s5.heap:=by
    have h5:=I5.hok
    rw [eP,eW] at h5
    have K5:∀ b u,H4 b=some u->b≠s3.heap.objs.size:=fun b u e z=>by rw [z,hHC] at e;cases e
    intro b u e
    by_cases hb:b=s2.heap.objs.size
    ·subst hb
     rw [ao] at e;cases e
     exact ⟨hyl,its,nn,rv4,k56 _ _ hDne hDg⟩
    ·rw [aC hb] at e
     have nD:∀ c u,H4 c=some u->c≠s2.heap.objs.size:=fun c u e z=>by rw [z,dn4] at e;cases e
     refine (h5 b u e).stay (fun c v hc' q=>k56 c v ?_ q) (fun c q=>by rw [aC (nD c _ q)];exact q) fun c xs q=>by rw [aC (nD c _ q)];exact q
     rcases hc' with z | z
     ·rw [z];exact K5 b u e
     ·exact K5 c _ z
   have nD2:∀ c u,H4 c=some u->c≠s2.heap.objs.size:=fun c u e z=>by rw [z,dn4] at e;cases e
   have un6:Un (frs X.stack) (s2.heap.objs.size :: fp) H2 (upd H4 s2.heap.objs.size (.lst ys)) s3.heap s5.heap:=
    ⟨fun b o e nn' hb hx=>k56 b o (nC b o e) (un.keep b o e nn' hb hx),fun b o e nn' hb hx=>let ⟨sl,q⟩:=un.slot b o e nn' hb hx;⟨sl,k56 b _ (nC b o e) q⟩,
     fun b o e nn' hx=>by rw [aC (fun z=>hx (by rw [z];exact List.mem_cons_self))];exact un.free b o e nn' hx,
     fun b o e hx=>let ⟨o',q⟩:=un.there b o e hx;⟨o',k56 b o' (nC b o e) q⟩,
     fun b xs e=>by have q:=un.tups b xs e;rw [aC (nD2 b _ q)];exact q,
     fun b o u e=>by have q:=un.frzs b o u e;rw [aC (nD2 b _ q)];exact q,
     fun b ps e=>let ⟨more,q⟩:=un.tbls b ps e;⟨more,by rw [aC (nD2 b _ q)];exact q⟩⟩
   have I6:Inv X pins U (upd H4 s2.heap.objs.size (.lst ys)) s5:=by
    refine I3.call' (s':=s5) (ch:=s2.heap.objs.size :: fp) ?_ un6 hok6 I5.bare fun b hb=>?_
    ·show s5.os=s3.os
     have:=I5.os
     rw [eS] at this
     exact this
    ·have q:lg X pins H2 b:=by
      rcases List.mem_cons.mp hb with rfl | z
      ·exact fD
      ·exact f2 b z
     obtain ⟨f0,f1,f2',f3,f4,f5⟩:=q
     exact ⟨f3,f1,f4,f5⟩
   have dC:upd H4 s2.heap.objs.size (.lst ys) s3.heap.objs.size=none:=by rw [aC (Ne.symm hDne)];exact hHC
   exact hend _ _ s5 _ m I6 (I3.fpOk (Nat.le_refl _) dC) hn (qn _ dn4)
  ·have hitem:=T.item XC eP eW eK eC i _ s4 _ H4 (fun _ _=>False) P4 (stat fr4) st4 go
   rw [eA] at hitem
   refine wpAny_mono hitem (fun r s5 ⟨u,hr,h5⟩=>?_) fun _ _ z=>z
   subst hr
   dsimp only
   refine wpAny_mono h5 (fun _ s6 ⟨x,H6,I6,r6,y6,st6,fr6⟩=>?_) fun _ _ z=>z
   have P6:=I6.pinned (stat fr6) (T.obj _ _ st6)
   rw [← eE,← eP,← eW,← eA]
   refine wpAny_mono (hgC _ s6 _ H6 x u _ P6 r6 (step x H6 y6)) (fun _ s7 ⟨σ7,H7,I7,kp7,q7⟩=>?_) fun _ _ z=>by rw [eX] at z;exact z
   refine wpAny_mono (htC _ s7 σ7 H7 _ I7 q7) (fun ok s8 ⟨H8,I8,q8⟩=>?_) fun _ _ z=>by rw [eX] at z;exact z
   have fin:∀ {H9:Hp} {s9:Shared},Inv XC ([(s2.heap.objs.size,({cls:=.type "list",data:=.seq its.toArray nn}:Obj))] ++ rT fp s6.heap) σ7 H9 s9->Inv XC [] (fY sub U) H9 s9/\tn (i+1) s9.heap/\(∀ b∈fp,H9 b=none)/\H9 s2.heap.objs.size=none/\
     s9.heap.get? s2.heap.objs.size=some {cls:=.type "list",data:=.seq its.toArray nn}:=fun {H9 s9} J=>by
    have pD:=J.pin (s2.heap.objs.size,({cls:=.type "list",data:=.seq its.toArray nn}:Obj)) (by rw [ePn];simp)
    have pF:∀ b∈fp,∀ o,s6.heap.get? b=some o->s9.heap.get? b=some o/\H9 b=none:=fun b hb o e=>by
     have q:=J.pin (b,o) (by rw [ePn];exact List.mem_append_right _ (List.mem_append_right _ (lY hb e)))
     exact ⟨q.1,q.2.1⟩
    refine ⟨?_,T.keep _ _ _ st6 fun b hb o e=>(pF b hb o e).1,fun b hb=>?_,pD.2.1,pD.1⟩
    ·have J0:Inv XC [] σ7 H9 s9:=J.pins_of fun p hp=>nomatch hp
     exact J0.weak kp7.1.symm fun j v e=>kp7.2 j v e
    ·obtain ⟨o,e,_⟩:=T.obj _ _ st6 b hb
     exact (pF b hb o e).2
   cases ok with
   | false=>
    rw [if_neg (by simp)]
    rw [if_neg (by simp)] at q8
    obtain ⟨m',hm,w8⟩:=hN _ _ q8
    obtain ⟨a1,a2,a3,a4,a5⟩:=fin I8
    exact ⟨m',hm,i+1,ys,its,nn,H8,a1,a2,a3,a4,a5,rv4,w8⟩
   | true=>
    rw [if_pos rfl]
    rw [if_pos rfl] at q8
    refine wpAny_mono (heC _ s8 σ7 H8 _ I8 q8) (fun xv s9 ⟨y,H9,I9,r9,n9⟩=>?_) fun _ _ z=>by rw [eX] at z;exact z
    obtain ⟨m',hm,w9⟩:=hN _ _ n9
    obtain ⟨a1,a2,a3,a4,a5⟩:=fin I9
    refine wpAny_list_append_plain (items:=its.toArray) ⟨nn,a5⟩ (fun h' ⟨n',hp'⟩ sb=>?_) (by simp;rw [← rv4.length];omega)
    obtain ⟨q1,q2⟩:=I4.ok.exf s2.heap.objs.size (by rw [eEx];exact List.mem_cons_self)
    have a1':Inv XC [] (fY sub U) H9 {s9 with heap:=h'}:=a1.turned (t':=s9.toks) (fun b o hb e=>(sb.2 b hb).trans e) a4 q1 (.inl (by rw [eEx];exact List.mem_cons_self)) q2 (fun p hp=>by rw [ePn] at hp;exact nomatch hp)
    refine ⟨m',hm,i+1,ys ++ [y],its ++ [xv],n',H9,a1',T.keep _ _ _ a2 fun b hb o e=>(sb.2 b (fun z=>hDfp (by rw [← z];exact hb))).trans e,a3,a4,?_,rv4.append (.cons r9 .nil),w9⟩
    rw [hp']
    simp
 subst hs3
 exact codeAny_compStart_list loop (T.self _ 0 _ _ _ (T.keep _ _ _ st2 fun b _ o e=>hk31 b o (k23 b o e)) loop)
theorem Bm {N:List Str} {sc:Scope} {i:Nat} {x:Str} {pos' spos:Pos} (hNd:X.N.Nodup) (hxi:X.N[i]?=some x) (hx:Loc X.env.scope x) (hf:X.fn x=true) (S:tR N sc N' scope sub) (hc:X.calm=true) (hN:X.N=N) (hsc:X.env.scope=sc) (hi:PI X tg iter wi)
  (hg:∀ (C:Addr) (s₀:Shared) (H₀:Hp) (ex:List Addr),PG (pL X N' scope C s₀ H₀ ex) tg g)
  (ht:∀ (C:Addr) (s₀:Shared) (H₀:Hp) (ex:List Addr),xR (pL X N' scope C s₀ H₀ ex) ifs tt)
  (he:∀ (C:Addr) (s₀:Shared) (H₀:Hp) (ex:List Addr),PE (pL X N' scope C s₀ H₀ ex) elt te)
  (hs:∀ x,foldedSetIterable iter X.env x=pure x):PS X (.Assign [.Name x pos'] (.ListComp elt [⟨tg,iter,ifs,0⟩] scope pos) spos) (xK (u9 sub wi g tt te) (pO i)):=by
 intro pins s U H D I h
 have hsw:∃ b,swapsWith (.ListComp elt [⟨tg,iter,ifs,0⟩] scope pos) (some (.Name x pos')) spos.line X.env=pure b:=⟨_,rfl⟩
 obtain ⟨b,hsw⟩:=hsw
 cases b with
 | false=>exact GP hNd hxi hx (Cw S hc hN hsc hi hg ht he hs) hsw (.inl hf) pins s U H D I h
 | true=>
  rw [exec_Assign_Name_used _ _ _ _ hsw]
  refine wpAny_bind (wpAny_standAt (wpAny_bind ?_))
  show wpAny _ X.A (do let _ ← comprehension (.ListComp elt [⟨tg,iter,ifs,0⟩] scope pos) scope X.env _ (newList []) false (eval iter X.env) (some (assign (.Name x pos') X.env))) _ _ s
  refine wpAny_bind (wpAny_mono (Ja (use:=some (assign (.Name x pos') X.env)) (R:=fun _ s'=>SP X pins D .next s') S hc hN hsc hi hg ht he hs pins s U H _ I h ?_) (fun _ s' hq=>wpAny_pure (wpAny_pure hq)) fun _ _ e=>e)
  intro Da C s5 H5 m I5 fC hn q
  show wpAny _ X.A (assign (.Name x pos') X.env (.ref Da)) _ _ _
  refine wpAny_assign_Name (wI I5 hNd hxi hx (v:=.ref Da) rfl (fun s6 I6 qq0=>?_) (.inl hf))
  obtain ⟨a,sb,ha⟩:=qq0
  obtain ⟨f0,f1,f2,f3,f4,f5⟩:=fC
  have hCa:C≠a:=fun z=>by
   rcases ha with e | e
   ·exact f1 (z.trans e)
   ·exact f4 x a e z.symm
  exact ⟨m,hn.sameBut sb hCa,fun h' hs'=>⟨_,H5,I6.turned (t':=s6.toks) (fun b o hb e=>hs'.extBut b o hb e) f0 f1 f3 f4 f5,q⟩⟩
end
section
variable {X:Cx} {tg iter elt:Expr} {ifs:List Expr} {scope:Scope} {pos:Pos} {N':List Str} {sub:List (Option Nat)} {wi:TI} {g:TG} {tt:TT} {te:TE} {N:List Str} {sc:Scope}
theorem CQ {i:Nat} {x:Str} {pos' spos:Pos} (hNd:X.N.Nodup) (hxi:X.N[i]?=some x) (hx:Loc X.env.scope x) (S:tR N sc N' scope sub) (hc:X.calm=true) (hN:X.N=N) (hsc:X.env.scope=sc) (hi:JI X tg iter wi)
  (hg:∀ (C:Addr) (s₀:Shared) (H₀:Hp) (ex:List Addr),JG (pL X N' scope C s₀ H₀ ex) tg g)
  (ht:∀ (C:Addr) (s₀:Shared) (H₀:Hp) (ex:List Addr),Mv (pL X N' scope C s₀ H₀ ex) ifs tt)
  (he:∀ (C:Addr) (s₀:Shared) (H₀:Hp) (ex:List Addr),JE (pL X N' scope C s₀ H₀ ex) elt te) (hf:X.fn x=true) (h:autoParam (rZ iter=true) L2.auto4._auto_1):
  JS X (.Assign [.Name x pos'] (.ListComp elt [⟨tg,iter,ifs,0⟩] scope pos) spos) (xK (u9 sub wi g tt te) (pO i)):=
 ⟨Bm hNd hxi hx hf S hc hN hsc hi.run (fun C s₀ H₀ ex=>(hg C s₀ H₀ ex).run) (fun C s₀ H₀ ex=>(ht C s₀ H₀ ex).run) (fun C s₀ H₀ ex=>(he C s₀ H₀ ex).run) (Ii h)⟩
end
section
variable {X:Cx} {pins:List (Addr×Obj)} {U:St} {H:Hp} {s:Shared}
theorem Inv.newtup {wr:List Addr} {T:Addr} {vals:Array Value} {xs:List V} {h'':Heap} {tk:Nat} (I:Inv X pins U H s) (hf:∀ b∈wr,lg X pins H b) (hT:s.heap.objs.size<=T)
  (kall:∀ b o,b ∉ wr->s.heap.get? b=some o->h''.get? b=some o) (isT':h''.IsTuple T vals) (hv:Vals xs vals.toList) (hx:xs.length<=sizeLine):Inv X pins U (upd H T (.tup xs)) {s with heap:=h'',toks:=tk}:=by
 have hTn:H T=none:=I.hok.fresh hT
 have nT:∀ b o,s.heap.get? b=some o->b≠T:=fun b o e=>Nat.ne_of_lt (Nat.lt_of_lt_of_le (Heap.lt_size e) hT)
 have nTH:∀ b u,H b=some u->b≠T:=fun b u e z=>by rw [z,hTn] at e;cases e
 have nW:∀ b u,H b=some u->b ∉ wr:=fun b u e hb=>by rw [(hf b hb).1] at e;cases e
 refine I.step (g':=s.gens) (d':=s.drawn) (ch:=wr) (fun b hb=>?_) (fun b o _ _ hc e _=>kall b o hc e) (fun b o _ _ hc e _=>⟨o.slots,kall b o hc e⟩) (fun b o _ e hn=>by rw [aC (nT b o e)];exact hn)
  (fun b o hc e=>⟨o,kall b o hc e⟩) (fun b ys e=>by rw [aC (nTH b _ e)];exact e) (fun b o u e=>by rw [aC (nTH b _ e)];exact e) (fun b ps e=>⟨#[],by rw [aC (nTH b _ e),e];simp⟩) (fun m hm=>?_) (fun b u e=>?_) I.bare
 ·obtain ⟨f0,f1,f2,f3,f4,f5⟩:=hf b hb
  exact ⟨f3,f1,f4,f5⟩
 ·obtain ⟨o,es,ep,ho,r⟩:=hm
  exact ⟨o,es,ep,kall _ o (fun hb=>(hf _ hb).2.1 rfl) ho,r⟩
 ·by_cases hb:b=T
  ·subst hb
   rw [ao] at e;cases e
   obtain ⟨o,ho,hcl,nn,hd⟩:=isT'
   exact ⟨hx,vals.toList,hv,o,ho,hcl,nn,by simpa using hd⟩
  ·rw [aC hb] at e
   refine (I.hok b u e).stay (fun c v hc' q=>kall c v ?_ q) (fun c q=>by rw [aC (nTH c _ q)];exact q) fun c ys q=>by rw [aC (nTH c _ q)];exact q
   rcases hc' with z | z
   ·rw [z];exact nW b u e
   ·exact nW c _ z
theorem Inv.only {wr:List Addr} {h':Heap} {tk:Nat} (I:Inv X pins U H s) (hf:∀ b∈wr,lg X pins H b) (kk:∀ b o,b ∉ wr->s.heap.get? b=some o->h'.get? b=some o):Inv X pins U H {s with heap:=h',toks:=tk}:=by
 have nW:∀ b u,H b=some u->b ∉ wr:=fun b u e hb=>by rw [(hf b hb).1] at e;cases e
 refine I.step (g':=s.gens) (d':=s.drawn) (ch:=wr) (fun b hb=>?_) (fun b o _ _ hc e _=>kk b o hc e) (fun b o _ _ hc e _=>⟨o.slots,kk b o hc e⟩) (fun b o _ e hn=>hn)
   (fun b o hc e=>⟨o,kk b o hc e⟩) (fun b ys e=>e) (fun b o u e=>e) (fun b ps e=>⟨#[],by rw [e];simp⟩) (fun m hm=>?_) (fun b u e=>?_) I.bare
 ·obtain ⟨f0,f1,f2,f3,f4,f5⟩:=hf b hb
  exact ⟨f3,f1,f4,f5⟩
 ·obtain ⟨o,es,ep,ho,r⟩:=hm
  exact ⟨o,es,ep,kk _ o (fun hb=>(hf _ hb).2.1 rfl) ho,r⟩
 ·refine (I.hok b u e).stay (fun c v hc' q=>kk c v ?_ q) (fun c q=>q) fun c ys q=>q
  rcases hc' with z | z
  ·rw [z];exact nW b u e
  ·exact nW c _ z
end
def Vv (K:W.Frag) (a:Addr):It:=
 ⟨fun i H=>∃ xs x,SqL K H a xs/\xs[i]?=some x,
  fun i H v H'=>∃ T x,H T=none/\v= .ref T/\(∀ xs,SqL K H a xs->xs[i]?=some x)/\H'=upd H T (.tup [.int i,x]),
  fun i H=>∃ xs,SqL K H a xs/\xs.length<=i⟩
theorem Bo {P:Program} {w:World} {K:W.Frag} {elts:List Expr} {k:Nat} {pos:Pos} {e it a:Addr} (hne:e≠it):
  Turn P w K (.Tuple elts k pos) (Vv K a) [e,it] e (fun i h=>(∃ old,IsEnum h e it i old)/\h.IsListIter it a i) where
 mem:=by simp
 obj:=fun i h st c hc=>by
  obtain ⟨⟨old,he⟩,⟨o1,e1,c1,d1⟩⟩:=st
  simp only [List.mem_cons,List.mem_nil_iff,or_false] at hc
  rcases hc with rfl | rfl
  ·exact ⟨_,he,fun v z=>by cases z⟩
  ·exact ⟨_,e1,fun v z=>by rw [d1] at z;cases z⟩
 keep:=fun i h h' st kk=>by
  obtain ⟨⟨old,he⟩,h1⟩:=st
  exact ⟨⟨old,kk e (by simp) _ he⟩,h1.at fun o q=>kk it (by simp) o q⟩
 item:=by
  intro X hP hw hK hc i pins s U H E I hf st hg
  subst hP hw hK
  obtain ⟨⟨old,he⟩,h1⟩:=st
  obtain ⟨xs,x,hq,hx⟩:=hg
  obtain ⟨its,rv,p,_⟩:=I.list hq
  obtain ⟨u,hu,ru⟩:=rv.get hx
  refine wpAny_pyNext_enum_item he h1 p.isList (x:=u) (by simpa using hu) hne fun h' a1 a2 a3 a4 hk=>?_
  refine ⟨_,rfl,wpAny_letOwnedTupleGo_enum a1 fun h'' a1' sb=>?_⟩
  have lt:∀ {c o},s.heap.get? c=some o->s.heap.objs.size≠c:=fun e=>Nat.ne_of_gt (Heap.lt_size e)
  have lti:s.heap.objs.size≠it:=by obtain ⟨o,q,_⟩:=h1;exact lt q
  have isT:h''.IsTuple s.heap.objs.size #[.int i s.toks,u]:=⟨_,sb.extBut _ _ (lt he) a3,rfl,_,rfl⟩
  have kall:∀ b o,b ∉ [e,it]->s.heap.get? b=some o->h''.get? b=some o:=fun b o hb q=>by
   simp only [List.mem_cons,List.mem_nil_iff,or_false,not_or] at hb
   exact sb.extBut _ _ hb.1 (hk b o hb.1 hb.2 q)
  have hTn:H s.heap.objs.size=none:=I.hok.fresh (Nat.le_refl _)
  refine ⟨.ref s.heap.objs.size,_,I.newtup (tk:=s.toks+1) hf (Nat.le_refl _) kall isT (xs:=[.int i,x]) (.cons ⟨_,rfl⟩ (.cons ru .nil)) (by simp;decide),rfl,⟨_,x,hTn,rfl,fun zs hs=>by rw [I.list_inj hs hq];exact hx,rfl⟩,?_,fun b hb=>?_⟩
  ·exact ⟨⟨_,a1'⟩,a2.extBut sb.extBut (Ne.symm hne)⟩
  ·have:s.heap.objs.size≠b:=by
    simp only [List.mem_cons,List.mem_nil_iff,or_false] at hb
    rcases hb with rfl | rfl
    ·exact lt he
    ·exact lti
   rw [aC (Ne.symm this)]
   exact (hf b hb).1
 done:=by
  intro X hP hw hK hc i pins s U H E I hf st hg
  subst hP hw hK
  obtain ⟨⟨old,he⟩,h1⟩:=st
  obtain ⟨xs,hq,hx⟩:=hg
  obtain ⟨its,rv,p,_⟩:=I.list hq
  have l1:=rv.length
  refine wpAny_pyNext_enum_end (I.ok.hd hc) he h1 p.isList (by simp;omega) fun h' hk=>⟨rfl,I.only (tk:=s.toks) hf fun b o hb q=>?_⟩
  simp only [List.mem_cons,List.mem_nil_iff,or_false,not_or] at hb
  exact hk b o hb.2 q
 self:=fun _ _ _ _ _ st h=>let ⟨⟨_,he⟩,_⟩:=st;wpAny_pyIter_enum he h
theorem Er {X:Cx} {elts:List Expr} {k:Nat} {tp:Pos} {pins:List (Addr×Obj)} {U:St} {H1:Hp} {s1:Shared} {x:Str} {t:Tok} {R:It->Hp->Prop} (hc:X.calm=true) (I1:Inv X pins U H1 s1) (q:R (RM (nj x) x.cps.size) H1):
  wpAny (model X.prog X.w) X.A (call (.type "enumerate") [.str x t]) (fun v s1=>wpAny (model X.prog X.w) X.A (pyIter v) (PIE X pins U (.Tuple elts k tp) R) X.xe s1) X.xe s1:=by
 refine call_enumerate_str fun h' he hit hsz hk=>?_
 have J1:Inv X pins U H1 {s1 with heap:=h'}:=I1.kept (t':=s1.toks) hk
 have ne1:s1.heap.objs.size+1≠s1.heap.objs.size:=Nat.succ_ne_self _
 have nm:s1.heap.objs.size+1 ∉ [s1.heap.objs.size]:=fun z=>ne1 (List.mem_singleton.mp z)
 have hPt:∀ (i:Nat) (vals:Array Value),(∃ t y,SignAt x i y/\vals= #[.int i t,y])->Vals (nj x i) vals.toList:=by
  rintro i vals ⟨t,y,⟨c,u,e1,rfl⟩,rfl⟩
  refine .cons ⟨t,rfl⟩ (.cons ⟨u,?_⟩ .nil)
  rw [show x.cps.getD i 0=c by simp [Array.getD_eq_getD_getElem?,e1]]
 have fin:∀ (ty:String) (Dr:∀ A:Around,A.handled=none->Draws X.prog X.w A s1.heap.objs.size [s1.heap.objs.size] x.cps.size (SignAt x) fun i h=>h.IsStrIter s1.heap.objs.size ty x t i),h'.IsStrIter s1.heap.objs.size ty x t 0->
   wpAny (model X.prog X.w) X.A (pyIter (.ref (s1.heap.objs.size+1))) (PIE X pins U (.Tuple elts k tp) R) X.xe {s1 with heap:=h'}:=by
  intro ty Dr hit'
  have W:∀ A:Around,A.handled=none->WalksT X.prog X.w A (s1.heap.objs.size+1) [s1.heap.objs.size+1,s1.heap.objs.size] [s1.heap.objs.size+1,s1.heap.objs.size] x.cps.size
    (fun i vals=>∃ t y,SignAt x i y/\vals= #[.int i t,y]) (fun i h=>(∃ old,IsEnum h (s1.heap.objs.size+1) s1.heap.objs.size i old)/\h.IsStrIter s1.heap.objs.size ty x t i)
    (fun i T h=>(∃ y,IsEnumOut h (s1.heap.objs.size+1) s1.heap.objs.size ((i:Int)+1) y T)/\h.IsStrIter s1.heap.objs.size ty x t (i+1)/\T≠s1.heap.objs.size+1/\T≠s1.heap.objs.size):=
   fun A hA=>WalksT.enumerateD (Dr A.in1 hA) (s1.heap.objs.size+1) ne1 nm (by simp)
  have hself:∀ (A:Around) (i:Nat) (s:Shared) (Q:Value->Shared->Prop) (E:Value->Shared->Prop),((∃ old,IsEnum s.heap (s1.heap.objs.size+1) s1.heap.objs.size i old)/\s.heap.IsStrIter s1.heap.objs.size ty x t i)->Q (.ref (s1.heap.objs.size+1)) s->wpAny (model X.prog X.w) A (pyIter (.ref (s1.heap.objs.size+1))) Q E s:=by
   rintro A i s Q E ⟨⟨old,he⟩,_⟩ hQ
   exact wpAny_pyIter_enum he hQ
  refine hself _ 0 _ _ _ ⟨⟨_,he⟩,hit'⟩ ?_
  refine ⟨s1.heap.objs.size+1,[s1.heap.objs.size+1,s1.heap.objs.size],_,_,H1,rfl,J1,RN W (fun i=>by simp [nj];decide) hPt (by simp) ?_ hself,⟨⟨_,he⟩,hit'⟩,fun b hb=>?_,q⟩
  ·rintro i h ⟨⟨old,he⟩,o,ho,hcl,hd⟩ b hb
   rcases List.mem_cons.mp hb with rfl | hb
   ·exact ⟨_,he,fun v z=>by cases z⟩
   ·rw [List.mem_singleton.mp hb]
    exact ⟨o,ho,fun v z=>by rw [hd] at z;cases z⟩
  ·have hb':s1.heap.objs.size<=b:=by
    rcases List.mem_cons.mp hb with rfl | hb
    ·exact Nat.le_succ _
    ·rw [List.mem_singleton.mp hb];exact Nat.le_refl _
   exact I1.fpOk hb' (I1.hok.fresh hb')
 cases hx:x.cps.all (· < 128)
 ·exact fin "str_iterator" (fun A hA=>Draws.strWide hA _ x t) (by simpa [strIterType,hx] using hit)
 ·exact fin "str_ascii_iterator" (fun A hA=>Draws.strAscii hA _ x t) (by simpa [strIterType,hx] using hit)
def Pq (K:W.Frag) (ta:TA):TI:=fun U H R=>ta U H fun vs H1=>(∃ x:Str,vs=[.str x]/\R (RM (nj x) x.cps.size) H1)\/∃ a xs,vs=[.ref a]/\SqL K H1 a xs/\R (Vv K a) H1
theorem uJ {X:Cx} {K:W.Frag} {a:Expr} {ta:TA} {elts:List Expr} {k:Nat} {tp p pos:Pos} (hK:X.K=K) (hc:X.calm=true) (hg:Gl X "enumerate") (hm:X.mg "enumerate"=none) (ha:JA X [a] ta) (h:autoParam (notStar a=true) L2.auto4._auto_1):
  JI X (.Tuple elts k tp) (.Call (.Name "enumerate" p) [a] [] pos) (Pq K ta):=⟨by
 subst hK
 intro pins s U H R I hq
 refine Call_ (p6 I hg hm xV (PyProof.Rows.callWith_type1 (d7 (ha.run pos pins s U H _ I hq) fun us s1 qq0=>?_) (fP h) rfl))
 obtain ⟨vs,H1,I1,r1,q1⟩:=qq0
 rcases q1 with ⟨x,e,q⟩ | ⟨l,xs,e,hl,q⟩
 ·subst e
  obtain ⟨u,rfl,t,rfl⟩:=vals1 r1
  exact Er hc I1 q
 ·subst e
  obtain ⟨u,rfl,ru⟩:=vals1 r1
  cases ru
  obtain ⟨its,rv,p1,_⟩:=I1.list hl
  refine call_enumerate_list p1.isList fun h' z1 z2 z3 hk=>?_
  have J1:Inv X pins U H1 {s1 with heap:=h'}:=I1.kept (t':=s1.toks) hk
  refine wpAny_pyIter_enum z1 ?_
  refine ⟨s1.heap.objs.size+1,_,_,_,H1,rfl,J1,Bo (Nat.succ_ne_self _),⟨⟨_,z1⟩,z2⟩,fun b hb=>?_,q⟩
  have hb':s1.heap.objs.size<=b:=by
   simp only [List.mem_cons,List.mem_nil_iff,or_false] at hb
   have key:∀ n c:Nat,(c=n+1\/c=n)->n<=c:=fun n c h=>by omega
   exact key _ _ hb
  exact I1.fpOk hb' (I1.hok.fresh hb')⟩
end L2
namespace L2
open PySem PySem.Spec PyProof.Rows PySem.SeqAt
mutual
def DR (H:Hp):PyData->V->Prop
 | .none,v=>v= .non
 | .bool b,v=>v= .bl b
 | .int n,v=>v= .int n
 | .str x,v=>v= .str x
 | .list ds,v=>∃ a vs,v= .ref a/\H a=some (.lst vs)/\DRs H ds vs
 | .tuple ds,v=>∃ a vs,v= .ref a/\H a=some (.tup vs)/\DRs H ds vs
 | .dict _,_=>False
def DRs (H:Hp):List PyData->List V->Prop
 | [],vs=>vs=[]
 | d :: ds,vs=>∃ v r,vs=v :: r/\DR H d v/\DRs H ds r
end
mutual
theorem DR.same {H H':Hp} (s:Same H H'):∀ (d:PyData) (v:V),DR H d v->DR H' d v
 | .none,_,h=>by rw [DR] at h ⊢;exact h
 | .bool _,_,h=>by rw [DR] at h ⊢;exact h
 | .int _,_,h=>by rw [DR] at h ⊢;exact h
 | .str _,_,h=>by rw [DR] at h ⊢;exact h
 | .list ds,v,h=>by rw [DR] at h ⊢;obtain ⟨a,vs,e,q,r⟩:=h;exact ⟨a,vs,e,s _ _ q,DRs.same s ds vs r⟩
 | .tuple ds,v,h=>by rw [DR] at h ⊢;obtain ⟨a,vs,e,q,r⟩:=h;exact ⟨a,vs,e,s _ _ q,DRs.same s ds vs r⟩
 | .dict _,_,h=>by rw [DR] at h;exact h.elim
theorem DRs.same {H H':Hp} (s:Same H H'):∀ (ds:List PyData) (vs:List V),DRs H ds vs->DRs H' ds vs
 | [],_,h=>by rw [DRs] at h ⊢;exact h
 | d :: ds,vs,h=>by rw [DRs] at h ⊢;obtain ⟨v,r,e,q,t⟩:=h;exact ⟨v,r,e,DR.same s d v q,DRs.same s ds r t⟩
end
theorem xX {H:Hp} {n:Int} {v:V}:DR H (.int n) v↔v= .int n:=by rw [DR]
theorem o4 {H:Hp} {ds:List PyData} {v:V}:DR H (.list ds) v↔∃ a vs,v= .ref a/\H a=some (.lst vs)/\DRs H ds vs:=by rw [DR]
theorem vz {H:Hp} {ds:List PyData} {v:V}:DR H (.tuple ds) v↔∃ a vs,v= .ref a/\H a=some (.tup vs)/\DRs H ds vs:=by rw [DR]
theorem dg {H:Hp} {vs:List V}:DRs H [] vs↔vs=[]:=by rw [DRs]
theorem du {H:Hp} {d:PyData} {ds:List PyData} {vs:List V}:DRs H (d :: ds) vs↔∃ v r,vs=v :: r/\DR H d v/\DRs H ds r:=by rw [DRs]
theorem km {H:Hp}:∀ {ds es:List PyData} {vs ws:List V},DRs H ds vs->DRs H es ws->DRs H (ds ++ es) (vs ++ ws)
 | [],_,_,_,h,q=>by rw [dg] at h;subst h;exact q
 | d :: ds,_,_,_,h,q=>by
  rw [du] at h
  obtain ⟨v,r,rfl,hd,hr⟩:=h
  exact du.mpr ⟨v,r ++ _,rfl,hd,km hr q⟩
theorem uK {H:Hp} {d:PyData} {v:V} (h:DR H d v):DRs H [d] [v]:=du.mpr ⟨v,[],rfl,h,dg.mpr rfl⟩
theorem qU {H:Hp}:∀ {ds:List PyData} {vs:List V},DRs H ds vs->vs.length=ds.length
 | [],_,h=>by rw [dg] at h;subst h;rfl
 | d :: ds,_,h=>by rw [du] at h;obtain ⟨v,r,rfl,_,hr⟩:=h;simp [qU hr]
theorem Jb {H:Hp}:∀ {ds:List PyData} {vs:List V} {i:Nat} {d:PyData},DRs H ds vs->ds[i]?=some d->∃ v,vs[i]?=some v/\DR H d v
 | [],_,_,_,_,e=>by simp at e
 | d :: ds,_,i,d',h,e=>by
  rw [du] at h
  obtain ⟨v,r,rfl,hd,hr⟩:=h
  cases i with
  | zero=>simp at e;subst e;exact ⟨v,rfl,hd⟩
  | succ i=>simp at e;obtain ⟨u,h1,h2⟩:=Jb hr e;exact ⟨u,by simpa using h1,h2⟩
theorem zu {H:Hp}:∀ (ns:List Int),DRs H (ns.map PyData.int) (ns.map V.int)
 | []=>dg.mpr rfl
 | n :: ns=>du.mpr ⟨_,_,rfl,xX.mpr rfl,zu ns⟩
mutual
theorem DR.reads {P:Program} {w:World} {H:Hp} {h:Heap} (ok:HOk P w H h):∀ (d:PyData) (v:V) (u:Value),DR H d v->RelV v u->∃ as,Reads h u d as
 | .none,_,u,q,r=>by rw [DR] at q;subst q;cases r;exact ⟨_,.none⟩
 | .bool b,_,u,q,r=>by rw [DR] at q;subst q;cases r;exact ⟨_,.bool _⟩
 | .int n,_,u,q,r=>by rw [DR] at q;subst q;obtain ⟨t,rfl⟩:=r;exact ⟨_,.int _ _⟩
 | .str n,_,u,q,r=>by rw [DR] at q;subst q;obtain ⟨t,rfl⟩:=r;exact ⟨_,.str _ _⟩
 | .list ds,v,u,q,r=>by
  rw [DR] at q
  obtain ⟨a,vs,rfl,e,t⟩:=q
  cases r
  obtain ⟨_,its,n,rv,g⟩:=ok a _ e
  obtain ⟨as,ra⟩:=DRs.reads ok ds vs its t rv
  exact ⟨_,.list g rfl rfl (by simpa using ra)⟩
 | .tuple ds,v,u,q,r=>by
  rw [DR] at q
  obtain ⟨a,vs,rfl,e,t⟩:=q
  cases r
  obtain ⟨_,its,rv,g⟩:=ok a _ e
  obtain ⟨as,ra⟩:=DRs.reads ok ds vs its t rv
  obtain ⟨o,ho,hc,n,hd⟩:=g
  exact ⟨_,.tuple ho hc hd (by simpa using ra)⟩
 | .dict _,_,_,q,_=>by rw [DR] at q;exact q.elim
theorem DRs.reads {P:Program} {w:World} {H:Hp} {h:Heap} (ok:HOk P w H h):∀ (ds:List PyData) (vs:List V) (us:List Value),DRs H ds vs->Vals vs us->∃ as,ReadsAll h us ds as
 | [],_,us,q,r=>by rw [DRs] at q;subst q;cases r;exact ⟨_,.nil⟩
 | d :: ds,_,us,q,r=>by
  rw [DRs] at q
  obtain ⟨v,r',rfl,q1,q2⟩:=q
  cases r with
  | cons a b=>
   obtain ⟨as,h1⟩:=DR.reads ok d v _ q1 a
   obtain ⟨bs,h2⟩:=DRs.reads ok ds r' _ q2 b
   exact ⟨_,.cons h1 h2⟩
end
def Wv:R2:=fun x y H Q=>∃ d e,DR H d x/\DR H e y/\shaped d=true/\shaped e=true/\Q (.bl (PyData.eqv d e)) H
def Ww:R2:=fun x y H Q=>∃ d e,DR H d x/\DR H e y/\shaped d=true/\shaped e=true/\Q (.bl (!PyData.eqv d e)) H
section
variable {X:Cx}
theorem RQ (hu:X.A.units+64 < cLine):OpR X (compareOp .Eq) Wv:=by
 intro pins s U H x y v u Q I rx ry h
 obtain ⟨d,e,h1,h2,h3,h4,q⟩:=h
 obtain ⟨as,r1⟩:=DR.reads I.hok d x v h1 rx
 obtain ⟨bs,r2⟩:=DR.reads I.hok e y u h2 ry
 exact eq_dataH r1 r2 h3 h4 hu ⟨.bl _,H,I,rfl,q⟩
theorem RT (hu:X.A.units+64 < cLine):OpR X (compareOp .NotEq) Ww:=by
 intro pins s U H x y v u Q I rx ry h
 obtain ⟨d,e,h1,h2,h3,h4,q⟩:=h
 obtain ⟨as,r1⟩:=DR.reads I.hok d x v h1 rx
 obtain ⟨bs,r2⟩:=DR.reads I.hok e y u h2 ry
 exact ne_dataH r1 r2 h3 h4 hu ⟨.bl _,H,I,rfl,q⟩
def Es (K:W.Frag):R2:=fun x y H Q=>Rq K x y H Q\/Wv x y H Q
def Et (K:W.Frag):R2:=fun x y H Q=>Wu K x y H Q\/Ww x y H Q
theorem iR {K:W.Frag} (hK:X.K=K) (hu:X.A.units+64 < cLine):OpR X (compareOp .Eq) (Es K):=(Rv hK (Nat.lt_of_le_of_lt (Nat.le_add_right _ _) hu)).or (RQ hu)
theorem Jc {K:W.Frag} (hK:X.K=K) (hu:X.A.units+64 < cLine):OpR X (compareOp .NotEq) (Et K):=(RP hK hu).or (RT hu)
end
section
variable {H:Hp} {Q:VK} {K:W.Frag} {U:St}
theorem iT {i j:Int} (h:Q (.bl (decide (V.int i=V.int j))) H):Es K (.int i) (.int j) H Q:=.inl (.inl ⟨rfl,h⟩)
theorem iU {i j:Str} (h:Q (.bl (decide (V.str i=V.str j))) H):Es K (.str i) (.str j) H Q:=.inl (.inl ⟨rfl,h⟩)
theorem iV {i j:Bool} (h:Q (.bl (decide (V.bl i=V.bl j))) H):Es K (.bl i) (.bl j) H Q:=.inl (.inl ⟨rfl,h⟩)
theorem iW {i j:Int} (h:Q (.bl (!decide (V.int i=V.int j))) H):Et K (.int i) (.int j) H Q:=.inl (.inl ⟨rfl,h⟩)
theorem iY {i j:Str} (h:Q (.bl (!decide (V.str i=V.str j))) H):Et K (.str i) (.str j) H Q:=.inl (.inl ⟨rfl,h⟩)
theorem zx {x y:V} {d:PyData} (h1:DR H d x) (h2:DR H d y) (hs:shaped d=true) (h:Q (.bl false) H):Et K x y H Q:=
 .inr ⟨d,d,h1,h2,hs,hs,by rw [PySem.SeqAt.eqv_refl d (canLay_of_shaped hs)];exact h⟩
theorem Jd {x y:V} {d e:PyData} (h1:DR H d x) (h2:DR H e y) (hs:shaped d=true) (hs2:shaped e=true) (h:Q (.bl (PyData.eqv d e)) H):Es K x y H Q:=.inr ⟨d,e,h1,h2,hs,hs2,h⟩
theorem Je {x y:V} {d e:PyData} (h1:DR H d x) (h2:DR H e y) (hs:shaped d=true) (hs2:shaped e=true) (h:Q (.bl (!PyData.eqv d e)) H):Et K x y H Q:=.inr ⟨d,e,h1,h2,hs,hs2,h⟩
theorem gF {a:TA} {R:It->Hp->Prop} (h:a U H fun vs H1=>(∃ x:Str,vs=[.str x]/\R (RM (nj x) x.cps.size) H1)\/∃ a xs,vs=[.ref a]/\SqL K H1 a xs/\R (Vv K a) H1):Pq K a U H R:=h
theorem Eu {a:Addr} {xs:List V} {g:TG} {tb:TS} {D:Ends} (Pv:Nat->St->Hp->Prop) (h0:Pv 0 U H) (hq:∀ i U H,i<=xs.length->Pv i U H->SqL K H a xs)
  (hs:∀ i U H T x,xs[i]?=some x->Pv i U H->H T=none->g (.ref T) U (upd H T (.tup [.int i,x])) fun σ2 H2=>tb {D with nx:=Pv (i+1),ct:=Pv (i+1),bk:=D.nx} σ2 H2) (hd:∀ U H,Pv xs.length U H->D.nx U H):
  ∃ W:Nat->Nat->St->Hp->Prop,(∃ m,W 0 m U H)/\∀ i m U H,W i m U H->
   ((Vv K a).stop i H/\D.nx U H)\/((Vv K a).go i H/\∃ N:St->Hp->Prop,(∀ U' H',N U' H'->∃ m',m' < m/\W (i+1) m' U' H')/\∀ x H',(Vv K a).yld i H x H'->g x U H' fun σ2 H2=>tb {D with nx:=N,ct:=N,bk:=D.nx} σ2 H2):=by
 refine ⟨fun i m U H=>m=xs.length - i/\i<=xs.length/\Pv i U H,⟨xs.length,by simp,Nat.zero_le _,h0⟩,?_⟩
 rintro i m U H ⟨rfl,hi,p⟩
 have q1:=hq i U H hi p
 by_cases hlt:i < xs.length
 ·refine .inr ⟨⟨xs,xs[i],q1,List.getElem?_eq_getElem hlt⟩,Pv (i+1),fun U' H' p'=>⟨xs.length - (i+1),by omega,rfl,hlt,p'⟩,fun x H' y=>?_⟩
  obtain ⟨T,u,hT,e1,e2,e4⟩:=y
  subst e1 e4
  exact hs i U H T u (e2 xs q1) p hT
 ·have e:i=xs.length:=by omega
  subst e
  exact .inl ⟨⟨xs,q1,Nat.le_refl _⟩,hd U H p⟩
end
end L2
namespace L2
open PySem PySem.Spec PyProof.Rows
theorem Jf:typeLookup (.type "list_reverseiterator") "__len__"=pure none:=by rw [typeLookup_type,builtinLookup_eq_fast];kernel_rfl
theorem Ew:typeLookup (.type "list_reverseiterator") "__length_hint__"=pure (some (.builtin "list_reverseiterator.__length_hint__")):=by rw [typeLookup_type,builtinLookup_eq_fast];kernel_rfl
section
variable {prog:Program} {w:World} {A:Around} {E:Value->Shared->Prop} {s:Shared}
theorem Jg {it l:Addr} {i:Int} {Q:Bool->Shared->Prop} (hit:s.heap.IsRevIter it l i) (h:Q false s):wpAny (model prog w) A (Builtin.List.listLengthHint (.ref it)) Q E s:=by
 unfold Builtin.List.listLengthHint
 refine wpAny_bind (wpAny_specialOf hit.typeIs Jf ?_)
 show wpAny _ _ (specialOf (Value.ref it) (Str.ofString "__length_hint__") >>=_) _ _ _
 refine wpAny_bind (wpAny_specialOf hit.typeIs Ew ?_)
 generalize hid:("list_reverseiterator.__length_hint__":String)=id0
 wp_delta
 rw [show splitId id0=some ("list_reverseiterator","__length_hint__") from by subst hid;trivial]
 subst hid
 refine wpAny_bind (wpAny_isInstance (T:="list_reverseiterator") (b:=true) hit.typeIs (by rw [isSubtype_type];kernel_rfl) ?_)
 refine wpAny_ite_split (fun hab=>absurd hab (by decide)) (fun _=>?_)
 refine wpAny_ite_split (fun _=>?_) (fun hab=>absurd (by trivial) hab)
 refine wpAny_ite_split (fun hab=>absurd hab (by trivial)) (fun _=>?_)
 exact wpAny_pure h
theorem Jh {it l:Addr} {items:Array Value} {Q:Value->Shared->Prop} (hh:A.handled=none) (hit:s.heap.IsRevIter it l ((items.size:Int) - 1)) (hl:s.heap.IsList l items) (hne:l≠it) (hn:items.size<=sizeLine)
  (hQ:∀ h' tk acc' c',(∀ b o,b≠it->s.heap.get? b=some o->h'.get? b=some o)->h'.get? s.heap.objs.size=some {cls:=.type "list",dict:=none,data:=.seq acc' c',slots:=#[]}->
   ItemsOf (fun i v=>items[items.size - 1 - i]?=some v) acc' items.size->Q (.ref s.heap.objs.size) {s with heap:=h',toks:=tk}):
  wpAny (model prog w) A (call (.type "list") [.ref it]) Q E s:=by
 refine callType_codes (Q₁:=fun obj s₁=>obj= .ref s.heap.objs.size/\s₁={s with heap:=s.heap.push {cls:=.type "list",data:=.seq #[]}}) F.called_list (F.typeCall_list_1 _) F.entry_list_init
  (code_list_new _ ⟨rfl,rfl⟩) fun obj s₁ h₁=>?_
 obtain ⟨rfl,rfl⟩:=h₁
 have iti:it < s.heap.objs.size:=by obtain ⟨o,e,_⟩:=hit;exact Heap.lt_size e
 have itl:l < s.heap.objs.size:=by obtain ⟨o,e,_⟩:=hl;exact Heap.lt_size e
 generalize hS0:s.heap.objs.size=S at iti itl hQ
 have hS:(s.heap.push {cls:=.type "list",data:=.seq #[]}).get? S=some {cls:=.type "list",data:=.seq #[]}:=by rw [← hS0];exact Heap.get?_push_size _ rfl
 have kp:∀ b o,s.heap.get? b=some o->(s.heap.push {cls:=.type "list",data:=.seq #[]}).get? b=some o:=fun b o e=>Heap.get?_push_of_some _ e
 generalize s.heap.push {cls:=.type "list",data:=.seq #[]}=h1 at hS kp
 have hit1:h1.IsRevIter it l ((items.size:Int) - 1):=hit.at fun o e=>kp it o e
 have hl1:h1.IsList l items:=hl.at fun o e=>kp l o e
 refine ⟨⟨_,hS,rfl⟩,F.args_list_init_2 _ _,?_⟩
 have nSi:S≠it:=Nat.ne_of_gt iti
 have nSl:S≠l:=Nat.ne_of_gt itl
 have hSf:S ∉ [it,l]:=by simp [nSi,nSl]
 have W:=(Walks.listRev (prog:=prog) (w:=w) (A:=A.in1.in1) hh it l hne items).toS
 show wpAny _ A.in1.in1 (do let old ← Builtin.List.listItems (.ref S);Builtin.List.listUpdate (.ref S) (fun _=>#[]);letGo old.toList.reverse;Builtin.List.listExtendWith (.ref S) (.ref it) .none) _ _ _
 unfold Builtin.List.listItems
 refine wpAny_bind (wpAny_bind (wpAny_seqItems hS rfl (wpAny_pure ?_)))
 show wpAny _ A.in1.in1 (updateSeq S (fun _=>#[]) >>=fun _=>letGo (#[]:Array Value).toList.reverse >>=fun _=>Builtin.List.listExtendWith (.ref S) (.ref it) .none) _ _ _
 refine wpAny_bind (wpAny_updateSeq hS rfl ?_)
 have hS2:=Heap.get?_update_self (Obj.mapSeq (fun _=>(#[]:Array Value))) hS rfl
 have k2:∀ b o,b≠S->h1.get? b=some o->(h1.update S (Obj.mapSeq (fun _=>(#[]:Array Value)))).get? b=some o:=fun b o hb e=>(Heap.get?_update_other _ _ (Ne.symm hb)).trans e
 generalize h1.update S (Obj.mapSeq (fun _=>(#[]:Array Value)))=h2 at hS2 k2
 have hit2:=hit1.at (h':=h2) fun o e=>k2 it o (Ne.symm nSi) e
 have hl2:=hl1.at (h':=h2) fun o e=>k2 l o (Ne.symm nSl) e
 refine wpAny_bind (wpAny_letGo ?_)
 unfold Builtin.List.listExtendWith
 refine wpAny_bind (wpAny_typeOf (T:="list_reverseiterator") (Heap.IsRevIter.typeIs (s:={s with heap:=h2}) hit2) ?_)
 have e1:Builtin.List.listSameRef (.ref S) (.ref it)=false:=by simp [Builtin.List.listSameRef,nSi]
 have e2:(Value.type "list_reverseiterator" == Value.type "list")=false:=by decide
 have e3:(Value.type "list_reverseiterator" == Value.type "tuple")=false:=by decide
 simp only [e1,e2,e3,Bool.or_false,Bool.false_eq_true,if_false]
 refine wpAny_bind (wpAny_pyIter_revIter (s:={s with heap:=h2}) hit2 ?_)
 refine wpAny_bind (wpAny_holding (Jg (s:={s with heap:=h2}) hit2 ?_))
 refine wpAny_ite_split (fun hab=>absurd hab (by trivial)) (fun _=>?_)
 refine wpAny_pure ⟨plainId_quiet F.plain_extend_loop _,?_⟩
 refine codeAny_extend_loopS W hn S hSf .none items.size 0 _ #[] _ rfl (Nat.zero_le _) ⟨Nat.zero_le _,by simpa using hit2,hl2⟩ hS2 (ItemsOf.nil _) fun s' acc' c' hm hS' hacc=>?_
 rw [Moved.eq_with hm]
 refine ⟨rfl,hQ s'.heap s'.toks acc' c' (fun b o hb e=>hm.heap b o (fun hmem=>?_) (k2 b o (fun z=>?_) (kp b o e))) hS' hacc⟩
 ·rcases List.mem_cons.mp hmem with e' | hmem
  ·exact absurd (Heap.lt_size e) (by rw [e',hS0];exact Nat.lt_irrefl _)
  ·exact hb (List.mem_singleton.mp hmem)
 ·exact absurd (Heap.lt_size e) (by rw [z,hS0];exact Nat.lt_irrefl _)
end
section
variable {X:Cx} {K:W.Frag} {a b c e:Expr} {ta tb tc te:TE} {pos p p2 p3:Pos}
theorem CT {op op':CmpOp} {r r':R2} (ho:OpR X (compareOp op) r) (ho':OpR X (compareOp op') r') (ha:JE X a ta) (hb:JE X b tb) (hc:JE X c tc) (hm:autoParam (lastMarks [op,op'] [b,c]=false) L2.auto5._auto_1):
  JE X (.Compare a [op,op'] [b,c] pos) (uV r r' ta tb tc):=⟨Hd ho ho' ha.run hb.run hc.run hm⟩
theorem zy {op op':CmpOp} {r r':R2} (ho:OpR X (compareOp op) r) (ho':OpR X (compareOp op') r') (ha:JE X a ta) (hb:JE X b tb) (hc:JE X c tc) (hm:autoParam (lastMarks [op,op'] [b,c]=false) L2.auto5._auto_1):
  JT X (.Compare a [op,op'] [b,c] pos) (wJ (uV r r' ta tb tc)):=⟨Hf ho ho' ha.run hb.run hc.run hm⟩
theorem arg1 {Q:List Value->Shared->Prop} {E:Value->Shared->Prop} {s:Shared} (hs:notStar e=true) (h:wpAny (model X.prog X.w) X.A (eval e X.env) (fun u s1=>Q [u] s1) E s):wpAny (model X.prog X.w) X.A (spliced (backTo pos (starEach [e] X.env))) Q E s:=by
 rw [fP hs]
 show wpAny _ _ (spliced ((false,eval e X.env) :: backTo pos (starEach [] X.env))) _ _ s
 exact Calls.spliced_cons (wpAny_mono h (fun u s1 q=>Calls.spliced_nil q) fun _ _ z=>z)
def Ji (K:W.Frag) (ta:TE):TE:=fun U H Q=>ta U H fun x H1=>∃ l xs,x= .ref l/\SqL K H1 l xs/\∀ q,H1 q=none->Q (.ref q) (upd H1 q (.lst xs.reverse))
theorem Ex (hK:X.K=K) (hc:X.calm=true) (hg:Gl X "list") (hm:X.mg "list"=none) (hg2:Gl X "reversed") (hm2:X.mg "reversed"=none) (ha:JE X a ta) (h:autoParam (notStar a=true) L2.auto4._auto_1):
  JE X (.Call (.Name "list" p) [.Call (.Name "reversed" p2) [a] [] p3] [] pos) (Ji K ta):=⟨by
 subst hK
 intro pins s U H Q I hq
 refine wpAny_Call_Name_kw (p6 I hg hm gC (PyProof.Rows.callWith_type1 (arg1 rfl (wpAny_Call_Name_kw (p6 I hg2 hm2 zq (PyProof.Rows.callWith_type1 (arg1 h (d7 (ha.run pins s U H _ I hq) fun u s1 qq0=>?_)) (fP h) rfl)))) rfl rfl))
 obtain ⟨x,H1,I1,rx,l,xs,ex,hx,q⟩:=qq0
 subst ex
 cases rx
 obtain ⟨its,r,ht,hz⟩:=I1.list hx
 have hlen:=r.length
 refine call_reversed_list ht.isList ?_
 have lt:l < s1.heap.objs.size:=by obtain ⟨o,ho,_⟩:=ht.isList;exact Heap.lt_size ho
 have e0:(s1.heap.push (PySem.revObj l ((its.toArray.size:Int) - 1))).get? s1.heap.objs.size=some (PySem.revObj l ((its.toArray.size:Int) - 1)):=Heap.get?_push_size _ rfl
 have k0:∀ b o,s1.heap.get? b=some o->(s1.heap.push (PySem.revObj l ((its.toArray.size:Int) - 1))).get? b=some o:=fun b o q=>Heap.get?_push_of_some _ q
 have s0:(s1.heap.push (PySem.revObj l ((its.toArray.size:Int) - 1))).objs.size=s1.heap.objs.size+1:=Heap.size_push ..
 refine Jh (it:=s1.heap.objs.size) (l:=l) (I1.ok.hd hc) ⟨_,e0,rfl,rfl⟩ (ht.isList.at fun o q=>k0 l o q) (Nat.ne_of_lt lt) (by simp;omega) fun h' tk acc' c' hk hS hacc=>?_
 have eacc:acc'.toList=its.reverse:=by
  apply List.ext_getElem?
  intro i
  have a1:acc'.size=its.length:=by have:=hacc.1;simpa using this
  by_cases hi:i < its.length
  ·have hi':i < acc'.size:=by omega
   have a2:=hacc.2 i acc'[i] (Array.getElem?_eq_getElem hi')
   rw [List.getElem?_reverse hi]
   simp at a2
   rw [a2]
   simp [hi']
  ·rw [List.getElem?_eq_none (by simp;omega),List.getElem?_eq_none (by simp;omega)]
 have rr:Vals xs.reverse acc'.toList:=by rw [eacc];exact r.reverse
 have k1:∀ b o,s1.heap.get? b=some o->h'.get? b=some o:=fun b o z=>hk b o (Nat.ne_of_lt (Heap.lt_size z)) (k0 b o z)
 have hle:s1.heap.objs.size<=(s1.heap.push (PySem.revObj l ((its.toArray.size:Int) - 1))).objs.size:=by rw [s0];exact Nat.le_succ _
 refine ⟨.ref _,_,I1.laid (t':=tk) (o:=.lst xs.reverse) k1 hle ⟨by simp;omega,acc'.toList,c',rr,by simpa using hS⟩,rfl,q _ (I1.hok.fresh hle)⟩⟩
end
def Ey (h:Heap) (T:Addr):Prop:=∃ oT ts,h.get? T=some oT/\oT.data= .fields ts/\3 < ts.size
def gP (C:Addr) (dd:Option Addr) (vs:Array Value):Obj:={cls:=.ref C,dict:=dd,data:=.fields vs}
def Mz (l:List Env):List Addr:=l.filterMap (·.frame)
section
variable {M:Model} {A:Around} {E:Value->Shared->Prop}
theorem xf {base:Heap} {env:Env} {outer:List Env} {L x C:Addr} {dd:Option Addr} {vs:Array Value} {hd:Value} {had:Bool} {Q:Unit->Shared->Prop} {s:Shared}
  (fr:A.frames=some (env :: outer)) (ff:s.heap.FunFrames base (env :: outer)) (fL:env.frame=some L) (ex:s.heap.get? x=some (gP C dd vs)) (sz:1 < vs.size) (nx:x ∉ Mz (env :: outer))
  (k:∀ h' T,h'.get? x=some (gP C dd (vs.setIfInBounds 1 (.ref T)))->s.heap.objs.size<=T->Ey h' T->(∀ b o,b≠x->b ∉ Mz (env :: outer)->s.heap.get? b=some o->h'.get? b=some o)->
   (∀ b o,b≠x->s.heap.get? b=some o->∃ sl,h'.get? b=some {o with slots:=sl})->Q () {s with heap:=h'}):
  wpAny M A (do let c ← frameOf env;let pl ← entryPlaceOf L had;let t ← EntryCells.newEntry hd c .none (rawInt L) .none pl;setField (.ref x) 1 t) Q E s:=by
 refine wpAny_bind (wpAny_frameOf_fun fr ff fL fun g1 so=>?_)
 refine wpAny_bind (wpAny_entryPlaceOf fun pl isp=>?_)
 unfold EntryCells.newEntry newFields
 refine wpAny_bind (wpAny_newObj_type ?_ (isp.sizeOk5 _ _ _ _ _))
 have x1:g1.get? x=some (gP C dd vs):=(so.2.1 x nx).trans ex
 have lts:([hd,Value.ref L,.none,rawInt L,.none] ++ (if pl.isEmpty then List.replicate 6 Value.none else pl)).toArray.size > 3:=by
  simp only [List.size_toArray,List.length_append,List.length_cons,List.length_nil];omega
 generalize ([hd,Value.ref L,.none,rawInt L,.none] ++ (if pl.isEmpty then List.replicate 6 Value.none else pl)).toArray=tv at lts
 have x2:(g1.push {cls:=.type "traceback",dict:=none,data:=.fields tv}).get? x=some (gP C dd vs):=Heap.get?_push_of_some _ x1
 have nTx:g1.objs.size≠x:=Nat.ne_of_gt (Heap.lt_size x1)
 have t2:(g1.push {cls:=.type "traceback",dict:=none,data:=.fields tv}).get? g1.objs.size=some {cls:=.type "traceback",dict:=none,data:=.fields tv}:=Heap.get?_push_size _ rfl
 have o2:∀ b o,g1.get? b=some o->(g1.push {cls:=.type "traceback",dict:=none,data:=.fields tv}).get? b=some o:=fun b o e=>Heap.get?_push_of_some _ e
 refine wpAny_setField (vs:=vs) x2 rfl sz ?_
 have e3:=Heap.get?_update_self (Obj.mapFields (·.setIfInBounds 1 (Value.ref g1.objs.size))) x2 rfl
 have ot:∀ b,b≠x->((g1.push {cls:=.type "traceback",dict:=none,data:=.fields tv}).update x (Obj.mapFields (·.setIfInBounds 1 (Value.ref g1.objs.size)))).get? b=(g1.push {cls:=.type "traceback",dict:=none,data:=.fields tv}).get? b:=fun b hb=>Heap.get?_update_other _ _ (Ne.symm hb)
 refine k _ g1.objs.size e3 (by rw [so.1];exact Nat.le_refl _) ⟨_,tv,(ot _ nTx).trans t2,rfl,lts⟩ (fun b o hb hf e=>?_) (fun b o hb e=>?_)
 ·rw [ot b hb];exact o2 b o ((so.2.1 b hf).trans e)
 ·obtain ⟨sl,q⟩:=so.2.2 b o e
  exact ⟨sl,by rw [ot b hb];exact o2 b _ q⟩
structure CV (fs:List Addr) (x C:Addr) (dd:Option Addr) (hd:Option Addr) (h h':Heap) (T:Addr):Prop where
 obj:∃ vs,h'.get? x=some (gP C dd vs)/\vs[1]?=some (.ref T)/\vs[2]?=some .none
 tb:Ey h' T
 ne:T≠x
 new:h.objs.size<=T\/hd=some T
 keep:∀ b o,b≠x->some b≠hd->b ∉ fs->h.get? b=some o->h'.get? b=some o
 slot:∀ b o,b≠x->some b≠hd->h.get? b=some o->∃ sl,h'.get? b=some {o with slots:=sl}
 tail:∀ b o,hd=some b->h.get? b=some o->∃ o',h'.get? b=some o'
theorem Wx {base:Heap} {env:Env} {outer:List Env} {L x C:Addr} {dd:Option Addr} {vs:Array Value} {Q:Unit->Shared->Prop} {s:Shared}
  (fr:A.frames=some (env :: outer)) (ff:s.heap.FunFrames base (env :: outer)) (fL:env.frame=some L) (ex:s.heap.get? x=some (gP C dd vs)) (h1:vs[1]?=some .none/\vs[2]?=some .none) (nx:x ∉ Mz (env :: outer))
  (k:∀ h' T,CV (Mz (env :: outer)) x C dd none s.heap h' T->Q () {s with heap:=h'}):wpAny M A (noteFrame (.ref x) env) Q E s:=by
 unfold noteFrame
 simp only [fL]
 refine wpAny_bind (wpAny_field ex rfl h1.1 ?_)
 rw [if_neg (by decide)]
 have sz:1 < vs.size:=(Array.getElem?_eq_some_iff.mp h1.1).1
 refine xf fr ff fL ex sz nx fun h' T a1 a2 a3 a4 a5=>k h' T ⟨⟨_,a1,by simp [sz],by rw [Array.getElem?_setIfInBounds_ne (by decide)];exact h1.2⟩,a3,?_,.inl a2,fun b o hb _ hf e=>a4 b o hb hf e,fun b o hb _ e=>a5 b o hb e,fun b o z=>by cases z⟩
 exact Nat.ne_of_gt (Nat.lt_of_lt_of_le (Heap.lt_size ex) a2)
theorem Wy {base:Heap} {env:Env} {outer:List Env} {L x C T0:Addr} {dd:Option Addr} {vs:Array Value} {Q:Unit->Shared->Prop} {s:Shared}
  (fr:A.frames=some (env :: outer)) (ff:s.heap.FunFrames base (env :: outer)) (fL:env.frame=some L) (ex:s.heap.get? x=some (gP C dd vs)) (h1:vs[1]?=some (.ref T0)/\vs[2]?=some .none) (t0:Ey s.heap T0) (ne:T0≠x) (nx:x ∉ Mz (env :: outer)) (nT:T0 ∉ Mz (env :: outer))
  (k:∀ h' T,CV (Mz (env :: outer)) x C dd (some T0) s.heap h' T->Q () {s with heap:=h'}):wpAny M A (noteFrame (.ref x) env) Q E s:=by
 obtain ⟨oT,ts,g,d,l3⟩:=id t0
 unfold noteFrame
 simp only [fL]
 refine wpAny_bind (wpAny_field ex rfl h1.1 ?_)
 rw [if_pos (show (Value.ref T0 != Value.none)=true from by simp)]
 refine wpAny_bind (wpAny_field g d (Array.getElem?_eq_getElem l3) ?_)
 by_cases q:(ts[3] == rawInt L)=true
 ·rw [if_pos q]
  exact wpAny_pure (k _ T0 ⟨⟨vs,ex,h1⟩,t0,ne,.inr rfl,fun b o _ _ _ e=>e,fun b o _ _ e=>⟨o.slots,e⟩,fun b o _ e=>⟨o,e⟩⟩)
 ·rw [if_neg q]
  refine wpAny_bind (wpAny_setField g d l3 ?_)
  have tT:=Heap.get?_update_self (Obj.mapFields (·.setIfInBounds 3 Value.none)) g (Obj.isFreed_of_fields (Obj.data_mapFields d _))
  have ot:∀ b,b≠T0->(s.heap.update T0 (Obj.mapFields (·.setIfInBounds 3 Value.none))).get? b=s.heap.get? b:=fun b hb=>Heap.get?_update_other _ _ (Ne.symm hb)
  have sz:1 < vs.size:=(Array.getElem?_eq_some_iff.mp h1.1).1
  have ff2:(s.heap.update T0 (Obj.mapFields (·.setIfInBounds 3 Value.none))).FunFrames base (env :: outer):=ff.of_keeps fun b o hb hn=>by
   refine ⟨o,(ot b (fun z=>?_)).trans hb,rfl⟩
   rw [z,g] at hb;cases hb;exact hn _ d
  refine xf (s:={s with heap:=s.heap.update T0 (Obj.mapFields (·.setIfInBounds 3 Value.none))}) fr ff2 fL ((ot x (Ne.symm ne)).trans ex) sz nx fun h' T a1 a2 a3 a4 a5=>k h' T ⟨⟨_,a1,by simp [sz],by rw [Array.getElem?_setIfInBounds_ne (by decide)];exact h1.2⟩,a3,?_,.inl (by rw [Heap.size_update] at a2;exact a2),fun b o hb h0 hf e=>a4 b o hb hf ((ot b (fun z=>h0 (by rw [z]))).trans e),fun b o hb h0 e=>a5 b o hb ((ot b (fun z=>h0 (by rw [z]))).trans e),fun b o hb e=>?_⟩
  ·exact Nat.ne_of_gt (Nat.lt_of_lt_of_le (Heap.lt_size ex) (by rw [Heap.size_update] at a2;exact a2))
  ·cases hb
   obtain ⟨sl,z⟩:=a5 T0 _ ne tT
   exact ⟨_,z⟩
theorem Wz {x C T0:Addr} {dd:Option Addr} {vs:Array Value} {Q:Unit->Shared->Prop} {s:Shared} (ex:s.heap.get? x=some (gP C dd vs)) (h1:vs[1]?=some (.ref T0)/\vs[2]?=some .none) (t0:Ey s.heap T0) (ne:T0≠x)
  (k:∀ h',CV [] x C dd (some T0) s.heap h' T0->Q () {s with heap:=h'}):wpAny M A (setFlight (.ref x) none) Q E s:=by
 obtain ⟨oT,ts,g,d,l3⟩:=id t0
 unfold setFlight
 refine wpAny_bind (wpAny_field ex rfl h1.1 ?_)
 rw [if_pos (show (Value.ref T0 != Value.none)=true from by simp)]
 refine wpAny_setField g d l3 (k _ ?_)
 have d2:=Obj.data_mapFields d (·.setIfInBounds 3 ((none:Option Addr).elim Value.none fun f=>rawInt f))
 have tT:=Heap.get?_update_self (Obj.mapFields (·.setIfInBounds 3 ((none:Option Addr).elim Value.none fun f=>rawInt f))) g (Obj.isFreed_of_fields d2)
 have ot:∀ b,b≠T0->(s.heap.update T0 (Obj.mapFields (·.setIfInBounds 3 ((none:Option Addr).elim Value.none fun f=>rawInt f)))).get? b=s.heap.get? b:=fun b hb=>Heap.get?_update_other _ _ (Ne.symm hb)
 exact ⟨⟨vs,(ot x (Ne.symm ne)).trans ex,h1⟩,⟨_,_,tT,d2,by simpa using l3⟩,ne,.inr rfl,fun b o _ h0 _ e=>(ot b (fun z=>h0 (by rw [z]))).trans e,fun b o _ h0 e=>⟨o.slots,(ot b (fun z=>h0 (by rw [z]))).trans e⟩,fun b o hb e=>by cases hb;exact ⟨_,tT⟩⟩
end
def Y6:List Value:=[.type "ValueError",.type "Exception",.type "BaseException",.type "object"]
def Vw (K:W.Frag) (D:Addr):Bool:=match K.lookup D with
 | some ⟨.type "type",_,.cls cd,sl⟩=>(match cd.mro,sl.toList with
  | .ref E :: bm,[_,_,_,_,some (.builtin n),_]=>E == D && n == "ValueError.__new__" && cd.hasDel == false && cd.hasDict && PySem.W.tailIn K Y6 bm
  | _,_=>false)
 | _=>false
theorem Bp {K:W.Frag} {D:Addr} (q:Vw K D=true):∃ nm qn N bs bm sn sub ab col dd k0 k1 k2 k3 k5,K.lookup D=some (excClassObj nm qn D N bs bm true sn sub ab col dd k0 k1 k2 k3 k5 "ValueError.__new__")/\∀ h,K.In h->OwnTail h Y6 bm:=by
 unfold Vw at q
 split at q
 ·rename_i dd cd sl ho
  split at q
  ·rename_i D' bm k0 k1 k2 k3 n k5 hm hs
   simp only [Bool.and_eq_true,beq_iff_eq] at q
   obtain ⟨⟨⟨⟨e1,e2⟩,e3⟩,e4⟩,e5⟩:=q
   subst e1 e2
   obtain ⟨nm,bs,mro,ns,qn,hd,sn,sub,ab,col,del⟩:=cd
   dsimp only at hm e3 e4
   subst hm e3 e4
   have hsl:sl= #[k0,k1,k2,k3,some (.builtin "ValueError.__new__"),k5]:=by
    obtain ⟨l⟩:=sl
    dsimp only at hs
    rw [hs]
   subst hsl
   exact ⟨nm,qn,ns,bs,bm,sn,sub,ab,col,dd,k0,k1,k2,k3,k5,ho,fun h X=>PySem.W.tail_of_in X e5⟩
  ·cases q
 ·cases q
section
variable {prog:Program} {w:World} {A:Around} {K:W.Frag} {D f:Addr} {E:Value->Shared->Prop}
theorem zA {h:Heap} {g:Array GenState} {d:Drawn} {t:Nat} {os:OsState} {us:List Value} {Q:Fin->Shared->Prop} (X:K.In h) (hx:Vw K D=true)
  (hi:PySem.W.findIn K (.ref D) "__init__"=some (some (.ref f))) (hf:PySem.W.typeIn K (.ref f)=some (.type "function")) (hl:us.length<=sizeLine)
  (k:wpAny (model prog w) A (call (.ref f) (.ref (h.objs.size+1) :: us)) (fun r s'=>r= .none/\Q (.done (.ret (.ref (h.objs.size+1)))) s') E
   ⟨(h.push {cls:=.type "tuple",data:=.seq us.toArray}).push (gP D none #[.ref h.objs.size,.none,.none,.none,.bool false,.none]),g,d,t,os⟩):
  wpAny (model prog w) A (Builtin.«type.__call__» ⟨.ref D :: us,[]⟩) Q E ⟨h,g,d,t,os⟩:=by
 obtain ⟨nm,qn,N,bs,bm,sn,sub,ab,col,dd,k0,k1,k2,k3,k5,lk0,tl⟩:=Bp hx
 have T:=tl h X
 have hD:=X _ _ lk0
 have L3:=PySem.W.looks_findIn (M:=model prog w) X hi
 have L4:=PySem.W.bind_fn (M:=model prog w) X (.ref (h.objs.size+1)) hf
 repeat (first | with_reducible refine wpAny_loadPart_at hD ?_ | with_reducible refine wpAny_madeBy_exc hD ?_ | wp_step)
 refine codeAny_call_builtin_code (Code.quiet_builtin _ F.excBase_ValueError.quiet) (wpAny_check_new_subT F.excBase_ValueError T hD (codeAny_exc_new_subT F.excBase_ValueError T hD ?_ hl))
 show wpAny _ _ _ _ _ _
 have keep:∀ b o,h.get? b=some o->((h.push {cls:=.type "tuple",data:=.seq us.toArray}).push (gP D none #[.ref h.objs.size,.none,.none,.none,.bool false,.none])).get? b=some o:=fun b o q=>Heap.get?_push_of_some _ (Heap.get?_push_of_some _ q)
 have gx:((h.push {cls:=.type "tuple",data:=.seq us.toArray}).push (gP D none #[.ref h.objs.size,.none,.none,.none,.bool false,.none])).get? (h.objs.size+1)=some (gP D none #[.ref h.objs.size,.none,.none,.none,.bool false,.none]):=by
  have:=Heap.get?_push_size (h.push {cls:=.type "tuple",data:=.seq us.toArray}) (o:=gP D none #[.ref h.objs.size,.none,.none,.none,.bool false,.none]) rfl
  rwa [Heap.size_push] at this
 have hD1:=keep _ _ hD
 have M3:=L3.keeps keep
 have M4:=L4.keeps keep
 have cD:(Value.ref D :: bm).contains (.ref D)=true:=by simp
 unfold gP at gx M3 M4 hD1 k
 unfold isInstance
 repeat (first | with_reducible refine wpAny_loadPart_at gx ?_ | (with_reducible refine wpAny_isSubtype_exc hD1 ?_;rw [cD]) | wp_step)
 show wpAny _ _ (typeLookup (.ref D) _) _ _ _
 refine M3.at ?_
 refine wpAny_holding (wpAny_bind (M4.at ?_))
 dsimp only
 refine wpAny_bind (wpAny_mono k (fun r s' hr=>?_) fun _ _ z=>z)
 obtain ⟨rfl,z⟩:=hr
 wp_walk
 exact z
theorem RV {s:Shared} {us:List Value} {Q:Value->Shared->Prop} (X:K.In s.heap) (hx:Vw K D=true)
  (hi:PySem.W.findIn K (.ref D) "__init__"=some (some (.ref f))) (hf:PySem.W.typeIn K (.ref f)=some (.type "function")) (hl:us.length<=sizeLine)
  (k:wpAny (model prog w) (A.under (.builtin "type.__call__" ⟨.ref D :: us,[]⟩)) (call (.ref f) (.ref (s.heap.objs.size+1) :: us)) (fun r s'=>r= .none/\Q (.ref (s.heap.objs.size+1)) s') E
   {s with heap:=(s.heap.push {cls:=.type "tuple",data:=.seq us.toArray}).push (gP D none #[.ref s.heap.objs.size,.none,.none,.none,.bool false,.none])}):
  wpAny (model prog w) A (call (.ref D) us) Q E s:=by
 obtain ⟨h,g,d,t,os⟩:=s
 obtain ⟨nm,qn,N,bs,bm,sn,sub,ab,col,dd,k0,k1,k2,k3,k5,lk0,tl⟩:=Bp hx
 have hD:=X _ _ lk0
 have f1:=tc_lookup
 have f2:=tc_bind (.ref D)
 have hT:(⟨h,g,d,t,os⟩:Shared).TypeIs (.ref D) "type":=⟨_,hD,rfl⟩
 refine wpAny_call (codeAny_of_tree ?_)
 show wpAny _ _ (callAny (.ref D) _) _ _ _
 repeat (any_goals (first | assumption | with_reducible refine wpAny_loadPart_at hD ?_ | wp_step))
 refine ⟨rfl,codeAny_call_builtin_at (Code.quiet_builtin _ (by trivial)) entry_typeCall (wpAny_check_type_call_sub hD (zA X hx hi hf hl ?_))⟩
 exact k
end
def vA (x C dx:Addr):HO:=.ext fun h=>∃ vs,h.get? x=some (gP C (some dx) vs)/\vs[2]?=some .none
def kE (x C:Addr):HO:=.ext fun h=>∃ t,h.get? x=some (gP C none #[.ref t,.none,.none,.none,.bool false,.none])
theorem CW {P:Program} {w:World} {H:Hp} {h:Heap} {x C dx:Addr} {vs:Array Value} (e:h.get? x=some (gP C (some dx) vs)) (h2:vs[2]?=some .none):ObjOk P w H h x (vA x C dx):=
 ⟨⟨vs,e,h2⟩,⟨_,e⟩,fun h1 h2 ⟨vs,e,z⟩ k=>⟨vs,k _ e,z⟩⟩
structure Head (X:Cx) (pins:List (Addr×Obj)) (H:Hp) (x C dx T:Addr) (h:Heap):Prop where
 obj:∃ vs,h.get? x=some (gP C (some dx) vs)/\vs[1]?=some (.ref T)/\vs[2]?=some .none
 tb:Ey h T
 fp:lg X pins H T
 tr:H x=some (vA x C dx)
theorem Head.ne {X:Cx} {pins:List (Addr×Obj)} {H:Hp} {x C dx T:Addr} {h:Heap} (a:Head X pins H x C dx T h):T≠x:=fun z=>by
 have:=a.fp.1
 rw [z,a.tr] at this;cases this
def Fly (X:Cx) (pins:List (Addr×Obj)) (H:Hp) (x C dx:Addr) (h:Heap):Prop:=
 H x=some (vA x C dx)/\((∃ vs,h.get? x=some (gP C (some dx) vs)/\vs[1]?=some .none/\vs[2]?=some .none)\/∃ T,Head X pins H x C dx T h)
section
variable {X:Cx} {pins:List (Addr×Obj)} {U:St} {H:Hp} {s:Shared} {x C dx:Addr} {h':Heap} {T:Addr} {hd:Option Addr}
theorem Inv.noted {fs:List Addr} (I:Inv X pins U H s) (hx:H x=some (vA x C dx)) (hh:∀ b,hd=some b->lg X pins H b) (hf:∀ b∈fs,b∈X.env.locals :: X.fs) (N:CV fs x C (some dx) hd s.heap h' T):Inv X pins U H {s with heap:=h'}:=by
 obtain ⟨m,⟨oL,esL,epL,hoL,rL⟩,_⟩:=id I.loc
 have fsF:∀ b∈fs,H b=none:=fun b hb=>by
  rcases List.mem_cons.mp (hf b hb) with e | hb
  ·rw [e];exact I.free
  ·obtain ⟨_,o,ho,_⟩:=I.ok.funs.mem hb
   exact I.base.free b o ho (I.ok.frf b hb) fun z=>I.ok.exfs b z hb
 have nx:∀ b,H b=none->b≠x:=fun b n z=>by rw [z,hx] at n;cases n
 have hdF:∀ b,hd=some b->H b=none:=fun b e=>(hh b e).1
 have mem:∀ b,b ∉ hd.toList->some b≠hd:=fun b nb z=>nb (by rw [← z];simp)
 refine I.step (g':=s.gens) (d':=s.drawn) (t':=s.toks) (ch:=hd.toList) (fun b hb=>?_) (fun b o hL hb hc e n=>?_) (fun b o hL hb hc e n=>?_) (fun _ _ _ _ n=>n) (fun b o hc e=>?_) (fun _ _ e=>e) (fun _ _ _ e=>e) (fun b ps e=>⟨#[],by rw [e];simp⟩) (fun m hm=>?_) (fun b u e=>?_) I.bare
 ·have e:hd=some b:=by cases hd <;> simp_all
  obtain ⟨_,a2,_,a4,a5,a6⟩:=hh b e
  exact ⟨a4,a2,a5,a6⟩
 ·refine N.keep b o (nx b n) (mem b hc) (fun z=>?_) e
  rcases List.mem_cons.mp (hf b z) with q | q
  ·exact hL q
  ·exact hb q
 ·exact N.slot b o (nx b n) (mem b hc) e
 ·by_cases q:b=x
  ·obtain ⟨vs,z,_⟩:=N.obj
   exact ⟨_,by rw [q];exact z⟩
  ·obtain ⟨sl,z⟩:=N.slot b o q (mem b hc) e
   exact ⟨_,z⟩
 ·obtain ⟨o,es,ep,ho,r⟩:=hm
  obtain ⟨sl,z⟩:=N.slot _ o (nx _ I.free) (fun q=>(hh _ q.symm).2.1 rfl) ho
  exact ⟨_,es,ep,z,r⟩
 ·by_cases q:b=x
  ·subst q
   rw [hx] at e;cases e
   obtain ⟨vs,z,_,z2⟩:=N.obj
   exact CW z z2
  ·refine (I.hok b u e).stay (fun c v hc z=>?_) (fun _ q=>q) fun _ _ q=>q
   have tc:∃ u,H c=some u:=by
    rcases hc with rfl | hc
    ·exact ⟨_,e⟩
    ·exact ⟨_,hc⟩
   obtain ⟨uc,tc⟩:=tc
   refine N.keep c v (fun zz=>?_) (fun zz=>?_) (fun zz=>?_) z
   ·rcases hc with rfl | hc
    ·exact q zz
    ·rw [zz,hx] at hc;cases hc
   ·rw [hdF c zz.symm] at tc;cases tc
   ·rw [fsF c zz] at tc;cases tc
theorem Jj {A:Around} {E:Value->Shared->Prop} {Q:Unit->Shared->Prop} (I:Inv X pins U H s) (hst:X.stack=X.env :: X.outer) (hfr:X.env.frame=some X.env.locals) (hA:A.frames=some X.stack) (F:Fly X pins H x C dx s.heap)
  (k:∀ h' T,Inv X pins U H {s with heap:=h'}->Head X pins H x C dx T h'->Q () {s with heap:=h'}):wpAny (model X.prog X.w) A (noteFrame (.ref x) X.env) Q E s:=by
 have ff:s.heap.FunFrames X.base (X.env :: X.outer):=hst ▸ I.stack
 have sub:∀ b∈Mz (X.env :: X.outer),b∈X.env.locals :: X.fs:=fun b hb=>I.stkSub b (by rw [hst];exact hb)
 have nf:∀ b u,H b=some u->b ∉ Mz (X.env :: X.outer):=fun b u e z=>by
  rw [I.stkFree b (by rw [hst];exact z)] at e;cases e
 obtain ⟨hx,⟨vs,e,h1⟩ | ⟨T0,hT⟩⟩:=F
 ·refine Wx (hst ▸ hA) ff hfr e h1 (nf x _ hx) fun h' T N=>?_
  have J:=I.noted hx (fun b z=>by cases z) sub N
  refine k h' T J ⟨N.obj,N.tb,?_,hx⟩
  have zT:s.heap.objs.size<=T:=by rcases N.new with z | z;exact z;cases z
  exact I.fpOk zT (I.hok.fresh zT)
 ·obtain ⟨vs,e,h1⟩:=hT.obj
  refine Wy (hst ▸ hA) ff hfr e h1 hT.tb hT.ne (nf x _ hx) (fun z=>?_) fun h' T N=>?_
  ·rcases List.mem_cons.mp (sub T0 z) with q | q
   ·exact hT.fp.2.1 q
   ·exact hT.fp.2.2.1 q
  ·have J:=I.noted hx (fun b z=>by cases z;exact hT.fp) sub N
   refine k h' T J ⟨N.obj,N.tb,?_,hx⟩
   rcases N.new with z | z
   ·exact I.fpOk z (I.hok.fresh z)
   ·cases z;exact hT.fp
theorem Jk {A:Around} {E:Value->Shared->Prop} {Q:Unit->Shared->Prop} (I:Inv X pins U H s) (F:Head X pins H x C dx T s.heap)
  (k:∀ h',Inv X pins U H {s with heap:=h'}->Head X pins H x C dx T h'->Q () {s with heap:=h'}):wpAny (model X.prog X.w) A (setFlight (.ref x) none) Q E s:=by
 obtain ⟨vs,e,h1⟩:=F.obj
 refine Wz e h1 F.tb F.ne fun h' N=>?_
 exact k h' (I.noted F.tr (fun b z=>by cases z;exact F.fp) (fun b z=>absurd z (by simp)) N) ⟨N.obj,N.tb,F.fp,F.tr⟩
def RW (P:Program) (w:World):Gp:=fun outer H s E e s'=>∃ x C dx T H',e= .ref x/\s'.os=s.os/\AllBare s'.gens/\Un (frs outer) [] H H' s.heap s'.heap/\HOk P w H' s'.heap/\H' x=some (vA x C dx)/\H' T=none/\s.heap.objs.size<=T/\
 (∃ vs,s'.heap.get? x=some (gP C (some dx) vs)/\vs[1]?=some (.ref T)/\vs[2]?=some .none)/\Ey s'.heap T/\E (.ref C) (some x) H'
def XE (X:Cx) (pins:List (Addr×Obj)) (R:St->XK) (e:Value) (s':Shared):Prop:=∃ x C dx U H',e= .ref x/\Inv X pins U H' s'/\Fly X pins H' x C dx s'.heap/\R U (.ref C) (some x) H'
theorem MF {R:St->XK} {e:Value} {s':Shared} (I:Inv X pins U H s) (c:RW X.prog X.w X.stack H s (R U) e s'):XE X pins R e s':=by
 obtain ⟨x,C,dx,T,H',rfl,os,bare,un,hok,tx,tT,zT,ob,tb,r⟩:=c
 obtain ⟨hh,g,d,t,os'⟩:=s'
 obtain rfl:os'=s.os:=os
 have J:=I.call (h':=hh) (g':=g) (d':=d) (t':=t) (ch:=[]) un hok bare (fun b z=>absurd z (by simp))
 exact ⟨x,C,dx,U,H',rfl,J,⟨tx,.inr ⟨T,ob,tb,I.fpOk zT tT,tx⟩⟩,r⟩
def tV (X:Cx) (R:St->XK):Prop:=∀ (pins:List (Addr×Obj)) (e:Value) (s':Shared),XE X pins R e s'->X.xe e s'
end
theorem dw {P:Program} {w:World} {K:W.Frag} {mg:Str->Option Value} {base:Heap} {N:List Str} {qual:Str} {scope:Scope} {f:Addr} {cd:Value} {A:Around} {outer:List Env} {s:Shared} {H:Hp} {E:XK}:
  tV (qK (RW P w) P w K mg base N qual scope f cd A outer s H E) (fun _=>E):=by
 rintro pins e s' ⟨x,C,dx,U,H',he,I,F,r⟩
 subst he
 show wpAny _ _ (leaving _ _) _ _ _
 unfold leaving
 refine wpAny_bind (Jj (X:=qK (RW P w) P w K mg base N qual scope f cd A outer s H E) I rfl rfl I.ok.frames F fun h1 T J1 F1=>?_)
 refine Jk (X:=qK (RW P w) P w K mg base N qual scope f cd A outer s H E) J1 F1 fun h2 J2 F2=>?_
 refine ⟨x,C,dx,T,H',rfl,J2.os,J2.bare,J2.base,J2.hok,F2.tr,F2.fp.1,?_,F2.obj,F2.tb,r⟩
 rcases F2.fp.2.2.2.1 with z | z
 ·exact absurd (show T∈([]:List Addr) from z) (by simp)
 ·exact z
def mj (d:Addr) (fs:List (Str×V)):HO:=.ext fun h=>∃ mA,h.Ns1 d mA/\∀ f,RelO (fs.lookup f) (mA f)
theorem xY {P:Program} {w:World} {H:Hp} {h:Heap} {d:Addr} {fs:List (Str×V)} {mA:Str->Option Value} (n:h.Ns1 d mA) (r:∀ f,RelO (fs.lookup f) (mA f)):ObjOk P w H h d (mj d fs):=by
 refine ⟨⟨mA,n,r⟩,let ⟨o,_,_,e,_⟩:=n;⟨o,e⟩,fun h1 h2 ⟨m,n,r⟩ k=>⟨m,?_,r⟩⟩
 obtain ⟨o,es,ep,e,q⟩:=n
 exact ⟨o,es,ep,k _ e,q⟩
theorem CZ {P:Program} {w:World} {H:Hp} {h:Heap} {d:Addr} {fs:List (Str×V)} (ok:HOk P w H h) (e:H d=some (mj d fs)):∃ mA,h.Ns1 d mA/\∀ f,RelO (fs.lookup f) (mA f):=(ok _ _ e).1
def gQ (x C d:Addr):HO:=.ext fun h=>∃ t,h.get? x=some (gP C (some d) #[.ref t,.none,.none,.none,.bool false,.none])
theorem Ez {P:Program} {w:World} {H:Hp} {h:Heap} {x C d t:Addr} (e:h.get? x=some (gP C (some d) #[.ref t,.none,.none,.none,.bool false,.none])):ObjOk P w H h x (gQ x C d):=
 ⟨⟨t,e⟩,⟨_,e⟩,fun h1 h2 ⟨t,e⟩ k=>⟨t,k _ e⟩⟩
theorem sy {P:Program} {w:World} {H:Hp} {h:Heap} {x C d:Addr} (ok:HOk P w H h) (e:H x=some (gQ x C d)):∃ t,h.get? x=some (gP C (some d) #[.ref t,.none,.none,.none,.bool false,.none]):=(ok _ _ e).1
def gr:List Value->Bool
 | [.type a,.type b,.type c,.type d]=>a == "ValueError" && b == "Exception" && c == "BaseException" && d == "object"
 | .ref _ :: r=>gr r
 | _=>false
theorem tW {l:List Value} (e:gr l=true):(∃ a r,l= .ref a :: r/\gr r=true)\/l=Y6:=by
 unfold gr at e
 split at e
 ·simp only [Bool.and_eq_true,beq_iff_eq] at e
  obtain ⟨⟨⟨rfl,rfl⟩,rfl⟩,rfl⟩:=e
  exact .inr rfl
 ·exact .inl ⟨_,_,rfl,e⟩
 ·cases e
theorem tX (self:Value):∀ (l:List Value),gr l=true->refuseLoop self "__setattr__" l=pure ()
 | [],e=>by cases e
 | v :: r,e=>by
  rcases tW e with ⟨a,r',q,e'⟩ | q
  ·cases q
   rw [refuseLoop_ref]
   exact tX self r e'
  ·rw [q]
   exact F.store_ValueError.passes self
theorem zB:∀ (l:List Value),gr l=true->l.contains (.type "object")=true/\l.contains (.type "BaseException")=true
 | [],e=>by cases e
 | v :: r,e=>by
  rcases tW e with ⟨a,r',q,e'⟩ | q
  ·cases q
   obtain ⟨h1,h2⟩:=zB r e'
   exact ⟨by rw [List.contains_cons,h1,Bool.or_true],by rw [List.contains_cons,h2,Bool.or_true]⟩
  ·rw [q]
   decide
def RX (K:W.Frag) (C:Addr):Bool:=Vw K C && (PySem.W.clsIn K C).any (fun cd=>gr cd.mro && cd.hasDict) && PySem.W.findIn K (.ref C) "__setattr__" == some (some (.builtin "object.__setattr__")) &&
 PySem.W.findIn K (.ref C) "__getattribute__" == some (some (.builtin "BaseException.__getattribute__")) && PySem.W.findIn K (.ref C) "__getattr__" == some none
structure XCls (K:W.Frag) (C:Addr):Prop where
 xi:Vw K C=true
 ov:∃ cd,PySem.W.clsIn K C=some cd/\gr cd.mro=true/\cd.hasDict=true
 sa:PySem.W.findIn K (.ref C) "__setattr__"=some (some (.builtin "object.__setattr__"))
 ga:PySem.W.findIn K (.ref C) "__getattribute__"=some (some (.builtin "BaseException.__getattribute__"))
 gh:PySem.W.findIn K (.ref C) "__getattr__"=some none
theorem MJ {K:W.Frag} {C:Addr} (h:RX K C=true):XCls K C:=by
 unfold RX at h
 simp only [Bool.and_eq_true,beq_iff_eq] at h
 obtain ⟨⟨⟨⟨h1,h2⟩,h3⟩,h4⟩,h5⟩:=h
 obtain ⟨cd,a,b⟩:=PySem.W.any_some h2
 simp only [Bool.and_eq_true] at b
 exact ⟨h1,⟨cd,a,b.1,b.2⟩,h3,h4,h5⟩
theorem MK {l:List Value} (e:gr l=true):l.isEmpty=false:=by
 cases l with
 | nil=>cases e
 | cons _ _=>rfl
section
variable {prog:Program} {w:World} {A:Around} {s:Shared} {K:W.Frag} {x C:Addr} {R:Result->Shared->Prop}
theorem XCls.mro {c:Value} {b:Bool} (k:XCls K C) (h:∀ cd,PySem.W.clsIn K C=some cd->gr cd.mro=true->cd.mro.contains c=b):PySem.W.mroIn K C c=some b:=by
 obtain ⟨cd,a,o,_⟩:=k.ov
 unfold PySem.W.mroIn
 rw [a,Option.bind_some,if_neg (by rw [MK o];decide),h cd a o]
theorem XCls.isObj (k:XCls K C):PySem.W.mroIn K C (.type "object")=some true:=k.mro fun cd _ o=>(zB _ o).1
theorem Pr {ox:Obj} {od:Option Obj} {name:Str} {tk:Tok} {v:Value} (X:K.In s.heap) (I:PySem.W.InstAt s.heap x ox C od) (c:XCls K C) (ht:p7 K C name)
  (h:wpAny (model prog w) A.in1 (Builtin.ObjectAttr.storeInOwnDict (.ref x) (.ref C) (.str name tk) name v false)
   (fun fin s'=>match fin with | .done f=>R (.ok f) s' | .again c'=>c'.quiet=true/\codeAny (model prog w) A c' R s') (fun e s'=>R (.error e) s') s):
  codeAny (model prog w) A (.call (.builtin "object.__setattr__") ⟨[.ref x,.str name tk,v],[]⟩) R s:=by
 obtain ⟨cd,hc,ho,_⟩:=c.ov
 have sub:PySem.W.Looks (model prog w) s.heap (isInstance (.ref x) (.type "object")) true:=I.type.andThen (PySem.W.looks_mroIn X c.isObj)
 refine codeAny_call_builtin F.store_object.slot.plain F.store_object.entry (@PySem.W.check_slot (model prog w) _ _ s "object.__setattr__" "object" "__setattr__" (.ref x) [.str name tk,v] [] _ F.store_object.kind F.store_object.split sub (F.store_object.args (.ref x) (.str name tk) v) ?_)
 have hm:PySem.W.Looks (model prog w) s.heap (mroOf (.ref C)) cd.mro:=(PySem.W.looks_clsIn X hc).andThen .now
 have L3:PySem.W.Looks (model prog w) s.heap (Builtin.ObjectAttr.storeTaker? none) none:=.now
 rw [PySem.W.osa_eq,refuse_eq]
 refine wpAny_bind (wpAny_bind (I.type.here (wpAny_bind (hm.here ?_))))
 rw [tX _ _ ho]
 refine wpAny_pure (wpAny_bind (I.type.here (wpAny_bind ((PySem.W.looks_findIn X ht).here (wpAny_bind (L3.here ?_))))))
 exact h
end
theorem Jl {H:Hp} {d x:Addr} {a b c:HO} (n:d≠x):upd (upd (upd H d a) x b) d c=upd (upd H x b) d c:=by
 funext y
 unfold upd
 by_cases h:y=d
 ·simp [h]
 ·simp [h]
section
variable {X:Cx} {pins:List (Addr×Obj)} {U:St} {H:Hp} {s:Shared} {x C d:Addr} {fs:List (Str×V)} {f:Str} {v y:V} {u:Value} {A:Around} {E:Value->Shared->Prop}
theorem WD {Q:Unit->Shared->Prop} (I:Inv X pins U H s) (e:H x=some (kE x C)) (c:XCls X.K C) (n:p7 X.K C f) (ry:RelV y u)
  (h:∀ s' d,H d=none->d≠x->Inv X pins U (upd (upd H x (gQ x C d)) d (mj d [(f,y)])) s'->Q () s'):wpAny (model X.prog X.w) A (setAttr (.ref x) f u) Q E s:=by
 obtain ⟨⟨t,hx⟩,-,-⟩:ObjOk X.prog X.w H s.heap x (kE x C):=I.hok x _ e
 obtain ⟨cd,hc,ho,hd⟩:=c.ov
 have J:PySem.W.InstAt s.heap x (gP C none #[.ref t,.none,.none,.none,.bool false,.none]) C none:=⟨hx,rfl,rfl,True.intro⟩
 refine PySem.W.set_plain I.kIn J c.sa (Pr (s:={s with toks:=s.toks+1}) I.kIn J c n ?_)
 refine wpAny_bind (wpAny_pure (wpAny_bind (wpAny_bind (wpAny_loadPart hx (wpAny_bind ((PySem.W.looks_clsIn (M:=model X.prog X.w) I.kIn hc).here (s:={s with toks:=s.toks+1}) ?_))))))
 rw [hd]
 have hp:s.heap.objs.size≠x:=Nat.ne_of_gt (Heap.lt_size hx)
 have hx1:(s.heap.push {cls:=.type "dict",data:=.dict #[]}).get? x=some (gP C none #[.ref t,.none,.none,.none,.bool false,.none]):=Heap.get?_push_of_some _ hx
 have d1:(s.heap.push {cls:=.type "dict",data:=.dict #[]}).get? s.heap.objs.size=some {cls:=.type "dict",data:=.dict #[]}:=Heap.get?_push_size _ rfl
 have n1:∀ {hh:Heap},hh.get? s.heap.objs.size=some {cls:=.type "dict",data:=.dict #[]}->hh.Ns1 s.heap.objs.size (fun _=>none):=fun q=>Heap.Ns1.of_empty ⟨_,#[],_,q,rfl,fun e he=>absurd he (by simp),fun _=>rfl⟩
 have I1:Inv X pins U (upd H s.heap.objs.size (mj s.heap.objs.size [])) {s with heap:=s.heap.push {cls:=.type "dict",data:=.dict #[]},toks:=s.toks+1}:=
  I.laid (t':=s.toks+1) (fun b o q=>Heap.get?_push_of_some _ q) (Nat.le_refl _) (xY (n1 d1) fun g=>True.intro)
 refine wpAny_bind (wpAny_alloc' ?_)
 refine wpAny_bind (wpAny_update' hx1 ?_)
 have hx2:=Heap.get?_update_self (fun o:Obj=>({o with dict:=some s.heap.objs.size}:Obj)) hx1 rfl
 have ot:∀ b,b≠x->((s.heap.push {cls:=.type "dict",data:=.dict #[]}).update x fun o=>{o with dict:=some s.heap.objs.size}).get? b=(s.heap.push {cls:=.type "dict",data:=.dict #[]}).get? b:=fun b hb=>Heap.get?_update_other _ _ (Ne.symm hb)
 have e1:upd H s.heap.objs.size (mj s.heap.objs.size []) x=some (kE x C):=(aC (Ne.symm hp)).trans e
 have I2:Inv X pins U (upd (upd H s.heap.objs.size (mj s.heap.objs.size [])) x (gQ x C s.heap.objs.size)) {s with heap:=(s.heap.push {cls:=.type "dict",data:=.dict #[]}).update x fun o=>{o with dict:=some s.heap.objs.size},toks:=s.toks+1}:=
  I1.write (t':=s.toks+1) (x:=x) (e:=x) (by rw [e1];exact True.intro) (.inl rfl) (fun b o hb q=>(ot b hb).trans q) ⟨_,hx2⟩ (Ez hx2)
 refine wpAny_pure (wpAny_bind (wpAny_pure (wpAny_bind ?_)))
 refine wpAny_nsSet1 (n1 ((ot _ hp).trans d1)) fun h' hn' hs=>?_
 obtain ⟨oD,esD,epD,hoD,hdD,hcD⟩:=hn'.count (PySem.Within.cons f u PySem.Within.nil)
 refine wpAny_bind (wpAny_lookBehind hoD (by rw [hdD];exact pastItsLine_dict (Nat.le_trans hcD (by rw [List.length_cons,List.length_nil,sizeLine_eq];omega))) ?_)
 refine wpAny_pure (h _ s.heap.objs.size (I.hok.fresh (Nat.le_refl _)) hp ?_)
 rw [← Jl (a:=mj s.heap.objs.size []) hp]
 refine I2.write (x:=s.heap.objs.size) (e:=s.heap.objs.size) (by rw [aC hp,ao];exact True.intro) (.inl rfl) (fun b o hb q=>(hs.2 b hb).trans q) ⟨_,hoD⟩ (xY hn' fun g=>?_)
 by_cases q:g=f
 ·have qb:(g == f)=true:=beq_iff_eq.mpr q
  simp only [List.lookup,qb,if_pos q]
  exact ry
 ·have qb:(g == f)=false:=beq_eq_false_iff_ne.mpr q
  simp only [List.lookup,qb,if_neg q]
  exact True.intro
theorem MN {h:Heap} {P:Program} {w:World} (ok:HOk P w H h) (e:H x=some (gQ x C d)) (e2:H d=some (mj d fs)):d≠x:=fun z=>by
 subst z
 obtain ⟨t,a⟩:=sy ok e
 obtain ⟨mA,⟨o,es,ep,b,q,_⟩,_⟩:=CZ ok e2
 rw [a] at b;cases b;cases q
theorem WF {Q:Unit->Shared->Prop} (I:Inv X pins U H s) (e:H x=some (gQ x C d)) (e2:H d=some (mj d fs)) (hl:fs.length < 1000) (c:XCls X.K C) (n:p7 X.K C f) (ry:RelV y u)
  (h:∀ s',Inv X pins U (upd H d (mj d (Ed f y fs))) s'->Q () s'):wpAny (model X.prog X.w) A (setAttr (.ref x) f u) Q E s:=by
 have ne:=MN I.hok e e2
 obtain ⟨vs,hx⟩:=sy I.hok e
 obtain ⟨mA,nA,rA⟩:=CZ I.hok e2
 obtain ⟨cd,hc,ho,hd⟩:=c.ov
 have J:PySem.W.InstAt s.heap x (gP C (some d) #[.ref vs,.none,.none,.none,.bool false,.none]) C (some (Classical.choose nA)):=⟨hx,rfl,rfl,let ⟨_,_,q,_⟩:=Classical.choose_spec nA;q⟩
 refine PySem.W.set_plain I.kIn J c.sa (Pr (s:={s with toks:=s.toks+1}) I.kIn J c n ?_)
 refine wpAny_bind (wpAny_pure (wpAny_bind (wpAny_bind (wpAny_loadPart hx (wpAny_bind ((PySem.W.looks_clsIn (M:=model X.prog X.w) I.kIn hc).here (s:={s with toks:=s.toks+1}) ?_))))))
 rw [hd]
 refine wpAny_pure (a:=some d) (wpAny_bind (wpAny_pure (wpAny_bind ?_)))
 refine wpAny_nsSet1 (s:={s with toks:=s.toks+1}) nA fun h' hn' hs=>?_
 have wi:PySem.Within mA (fs.map (·.1)):=fun z hz=>by
  have r:=rA z
  cases q:fs.lookup z with
  | none=>rw [q] at r;exact absurd (RelO.none_of r) hz
  | some a=>exact List.mem_map.mpr ⟨(z,a),PySem.mem_of_lookup q,rfl⟩
 obtain ⟨oD,esD,epD,hoD,hdD,hcD⟩:=hn'.count (PySem.Within.cons f u wi)
 refine wpAny_bind (wpAny_lookBehind hoD (by rw [hdD];exact pastItsLine_dict (Nat.le_trans hcD (by rw [List.length_cons,List.length_map,sizeLine_eq];omega))) ?_)
 refine wpAny_pure (h _ ?_)
 refine I.write (x:=d) (e:=d) (by rw [e2];exact True.intro) (.inl rfl) (fun b o hb q=>(hs.2 b hb).trans q) ⟨_,hoD⟩ (xY hn' fun g=>?_)
 rw [tQ]
 by_cases q:g=f
 ·rw [if_pos q,if_pos q];exact ry
 ·rw [if_neg q,if_neg q];exact rA g
end
def Dc (K:W.Frag) (C:Addr):Bool:=RX K C && PySem.W.findIn K (.ref C) "__class__" == some (some (.builtin "object.__class__")) && PySem.W.specialIn K (.builtin "object.__class__") "__get__" == some (some (.builtin "getset_descriptor.__get__")) && PySem.W.takesIn K (.builtin "object.__class__") == some true
structure Y7 (K:W.Frag) (C:Addr):Prop where
 cls:XCls K C
 ca:PySem.W.findIn K (.ref C) "__class__"=some (some (.builtin "object.__class__"))
 cg:PySem.W.specialIn K (.builtin "object.__class__") "__get__"=some (some (.builtin "getset_descriptor.__get__"))
 ct:PySem.W.takesIn K (.builtin "object.__class__")=some true
theorem Jm {K:W.Frag} {C:Addr} (h:Dc K C=true):Y7 K C:=by
 unfold Dc at h
 simp only [Bool.and_eq_true,beq_iff_eq] at h
 exact ⟨MJ h.1.1.1,h.1.1.2,h.1.2,h.2⟩
def Vx (H:Hp) (x C:Addr) (fs:List (Str×V)):Prop:=∃ d,H x=some (vA x C d)/\H d=some (mj d fs)
def sE (P:Program) (w:World) (K:W.Frag) (mg:Str->Option Value) (base:Heap) (k:Nat) (x:Str) (ps:List Str) (sp:Sp):Prop:=
 ∃ f fd,mg x=some (.ref f)/\PySem.W.keepIn K (.ref f)=true/\Binds K fd ps []/\rY P w K mg base (RW P w) k f fd ps sp
def Bq (sp:Sp) (R:St->XK) (t:TA):TE:=fun U H Q=>t U H fun vs H1=>sp vs H1 Q (R U)
theorem zE {X:Cx} (h:∀ (e:Value) (s:Shared),X.xe e s=False):tV X (fun _ _ _ _=>False):=fun _ _ _ ⟨_,_,_,_,_,_,_,_,z⟩=>z.elim
section
variable {X:Cx} {k:Nat} {f C:Addr} {fd:FuncData} {ps:List Str} {sp:Sp} {R:St->XK} {x:Str} {p pos:Pos} {e:Expr} {es:List Expr} {t:TA} {pins:List (Addr×Obj)} {U:St} {H:Hp} {s:Shared} {Q:VK} {us:List Value} {vs:List V}
theorem MP (F:rY X.prog X.w X.K X.mg X.base (RW X.prog X.w) k f fd ps sp) (hr:Room k X.A) (hb:Binds X.K fd ps []) (hx:tV X R) (I:Inv X pins U H s) (r:Vals vs us) (h:sp vs H Q (R U)):
  wpAny (model X.prog X.w) X.A (call (.ref f) us) (EP X pins U Q) X.xe s:=by
 have hl:(us ++ []).length=ps.length:=by rw [List.append_nil,← r.length];exact F.len _ _ _ _ h
 have bd:=hb s us I.kIn hl
 rw [List.append_nil] at bd
 refine wpAny_call (codeAny_mono (F.run X.A X.stack s H ⟨us,[]⟩ us vs Q (R U) hr I.env0 bd r h) fun rr s' hq=>?_)
 cases rr with
 | error e=>exact hx pins e s' (MF I hq)
 | ok fl=>
  cases fl with
  | ret u=>exact I.after hq
  | next=>exact False.elim hq
  | brk=>exact False.elim hq
  | cont=>exact False.elim hq
theorem Jo (F:sE X.prog X.w X.K X.mg X.base k x ps sp) (hr:Room k X.A) (hg:Gl X x) (hx:tV X R) (ha:PA X (e :: es) t) (hdb:(x == ("__debug__":Str))=false)
  (he:starEach (e :: es) X.env=(false,eval e X.env) :: starEach es X.env) (hpl:(backTo pos (starEach es X.env)).any (·.1)=false):PE X (.Call (.Name x p) (e :: es) [] pos) (Bq sp R t):=by
 obtain ⟨f,fd,a,b,c,d⟩:=F
 intro pins s U H Q I h
 refine wpAny_Call_Name_kw (uF I hg a ?_ hdb)
 refine PySem.W.callWith_K (h₀:=X.base) I.ok.mod.kin b (d7 (ha pos pins s U H _ I h) fun us s1 ⟨vs,H1,I1,r,q⟩=>⟨I1.kIn,?_⟩) he hpl
 exact MP d hr c hx I1 r q
def Jp (K:W.Frag) (ta tv:TE) (f:Str):TS:=fun D U H=>tv U H fun y H1=>ta U H1 fun x H2=>∃ a C,x= .ref a/\XCls K C/\p7 K C f/\
 ((H2 a=some (kE a C)/\∀ d,H2 d=none->d≠a->D.nx U (upd (upd H2 a (gQ a C d)) d (mj d [(f,y)])))\/
  (∃ d fs,H2 a=some (gQ a C d)/\H2 d=some (mj d fs)/\fs.length < 1000/\D.nx U (upd H2 d (mj d (Ed f y fs)))))
theorem M5 {o value:Expr} {ta tv:TE} {fn:Str} {pos':Pos} (ha:PE X o ta) (hv:PE X value tv) (hs:swapsWith value (some (.Attribute o fn pos')) pos.line X.env=pure false):PS X (.Assign [.Attribute o fn pos'] value pos) (Jp X.K ta tv fn):=by
 intro pins s U H D I h
 refine plainObj_wpAny_Assign_Attribute (d7 (hv pins s U H _ I h) fun u s1 ⟨y,H1,I1,ry,q⟩=>d7 (ha pins s1 U H1 _ I1 q) fun ov s2 qq0=>?_) hs
 obtain ⟨x,H2,I2,rx,a,C,ex,c,n,q2⟩:=qq0
 subst ex
 obtain rfl:ov=Value.ref a:=rx
 rcases q2 with ⟨e,q2⟩ | ⟨d,fs,e,e2,hl,q2⟩
 ·exact WD I2 e c n ry fun s3 d z1 z2 I3=>⟨U,_,I3,q2 d z1 z2⟩
 ·exact WF I2 e e2 hl c n ry fun s3 I3=>⟨U,_,I3,q2⟩
def xZ (C:Addr) (fl:List Str):Sp:=fun vs H Q E=>∃ x ws,vs= .ref x :: ws/\ws.length=fl.length/\H x=some (kE x C)/\∀ d,H d=none->d≠x->Q .non (upd (upd H x (gQ x C d)) d (mj d (fl.zip ws)))
structure WK (P:Program) (w:World) (K:W.Frag) (mg:Str->Option Value) (base:Heap) (k:Nat) (x:Str) (C:Addr) (fl:List Str):Prop where
 at_:mg x=some (.ref C)
 cl:Y7 K C
 kp:PySem.W.keepIn K (.ref C)=true
 na:∀ f∈fl,p7 K C f
 run:∃ f fd ps,PySem.W.findIn K (.ref C) "__init__"=some (some (.ref f))/\PySem.W.typeIn K (.ref f)=some (.type "function")/\Binds K fd ps []/\rY P w K mg base Bc k f fd ps (xZ C fl)
def Br (C:Addr) (fl:List Str) (R:St->XK) (t:TA):TS:=fun _ U H=>t U H fun vs H1=>vs.length=fl.length/\vs.length<=sizeLine/\∀ x H2,Same H1 H2->Vx H2 x C (fl.zip vs)->R U (.ref C) (some x) H2
theorem RZ {Q:Value->Shared->Prop} {E:Value->Shared->Prop} {fl:List Str} (M:WK X.prog X.w X.K X.mg X.base k x C fl) (hr:Room (k+1) X.A) (I:Inv X pins U H s) (r:Vals vs us) (hl:vs.length=fl.length) (hz:vs.length<=sizeLine)
  (q:∀ a d s',H a=none->H d=none->d≠a->Inv X pins U (upd (upd (upd H a (kE a C)) a (gQ a C d)) d (mj d (fl.zip vs))) s'->Q (.ref a) s'):wpAny (model X.prog X.w) X.A (call (.ref C) us) Q E s:=by
 obtain ⟨f,fd,ps,hi,hf,hb,F⟩:=M.run
 refine RV I.kIn M.cl.cls.xi hi hf (by rw [← r.length];exact hz) ?_
 have I1:Inv X pins U H {s with heap:=s.heap.push {cls:=.type "tuple",data:=.seq us.toArray}}:=I.kept (t':=s.toks) fun b o e=>Heap.get?_push_of_some _ e
 have sz1:(s.heap.push {cls:=.type "tuple",data:=.seq us.toArray}).objs.size=s.heap.objs.size+1:=Heap.size_push _ _
 have hfr:H (s.heap.objs.size+1)=none:=I.hok.fresh (Nat.le_succ _)
 have gx:((s.heap.push {cls:=.type "tuple",data:=.seq us.toArray}).push (gP C none #[.ref s.heap.objs.size,.none,.none,.none,.bool false,.none])).get? (s.heap.objs.size+1)=some (gP C none #[.ref s.heap.objs.size,.none,.none,.none,.bool false,.none]):=by
  rw [← sz1];exact Heap.get?_push_size _ rfl
 have I2:Inv X pins U (upd H (s.heap.objs.size+1) (kE (s.heap.objs.size+1) C)) {s with heap:=(s.heap.push {cls:=.type "tuple",data:=.seq us.toArray}).push (gP C none #[.ref s.heap.objs.size,.none,.none,.none,.bool false,.none])}:=
  I1.laid (t':=s.toks) (fun b o e=>Heap.get?_push_of_some _ e) (by show (s.heap.push _).objs.size<=_;rw [sz1];exact Nat.le_refl _) ⟨⟨_,gx⟩,⟨_,gx⟩,fun h1 h2 ⟨t,z⟩ kk=>⟨t,kk _ z⟩⟩
 have r2:Vals (V.ref (s.heap.objs.size+1) :: vs) (Value.ref (s.heap.objs.size+1) :: us):=.cons rfl r
 have sp0:xZ C fl (V.ref (s.heap.objs.size+1) :: vs) (upd H (s.heap.objs.size+1) (kE (s.heap.objs.size+1) C)) (fun v H2=>v= .non/\∃ d,H d=none/\d≠s.heap.objs.size+1/\H2=upd (upd (upd H (s.heap.objs.size+1) (kE (s.heap.objs.size+1) C)) (s.heap.objs.size+1) (gQ (s.heap.objs.size+1) C d)) d (mj d (fl.zip vs))) E0:=
  ⟨_,_,rfl,hl,ao,fun d hd ne=>⟨rfl,d,by rw [aC ne] at hd;exact hd,ne,rfl⟩⟩
 have hl2:((Value.ref (s.heap.objs.size+1) :: us) ++ []).length=ps.length:=by rw [List.append_nil,← r2.length];exact F.len _ _ _ _ sp0
 have bd:=hb _ (Value.ref (s.heap.objs.size+1) :: us) I2.kIn hl2
 rw [List.append_nil] at bd
 refine wpAny_call (codeAny_mono (F.run _ X.stack _ _ ⟨Value.ref (s.heap.objs.size+1) :: us,[]⟩ (Value.ref (s.heap.objs.size+1) :: us) _ _ E0 (hr.make C us []) (I2.env0.make C us []) bd r2 sp0) fun rr s' hq=>?_)
 cases rr with
 | error e=>exact False.elim hq
 | ok fl=>
  cases fl with
  | ret u=>
   obtain ⟨v,H',I3,rv,ev,d,hd,ne,eH⟩:=I2.after hq
   subst ev
   rw [eH] at I3
   exact ⟨rv,q _ d s' hfr hd ne I3⟩
  | next=>exact False.elim hq
  | brk=>exact False.elim hq
  | cont=>exact False.elim hq
theorem thrown {env:Env} {C:Addr} {Q:Flow->Shared->Prop} {m:Sem Value} (hc:X.calm=true) (c:Y7 X.K C) (hx:tV X R)
  (h:wpAny (model X.prog X.w) X.A m (fun v s1=>∃ x d H1,v= .ref x/\Inv X pins U H1 s1/\H1 x=some (gQ x C d)/\R U (.ref C) (some x) (upd H1 x (vA x C d))) X.xe s):
  wpAny (model X.prog X.w) X.A (raiseStmt env (some m) none) Q X.xe s:=by
 obtain ⟨nm,qn,N,bs,bm,sn,sub,ab,col,dd,k0,k1,k2,k3,k5,lk0,tl⟩:=Bp c.cls.xi
 unfold raiseStmt
 refine wpAny_bind (d7 h fun v s1 qq0=>?_)
 obtain ⟨x,d,H1,ev,I1,e1,r1⟩:=qq0
 subst ev
 have KI:=I1.kIn
 obtain ⟨t,he⟩:=sy I1.hok e1
 have hh:X.A.handled=none:=I1.ok.hd hc
 have hcB:(Value.ref C :: bm).contains (.type "BaseException")=true:=by
  rw [List.contains_cons,(tl _ KI).hasType (show Y6.contains (.type "BaseException")=true from by decide)];rfl
 have fin:X.xe (.ref x) s1:=by
  have I2:Inv X pins U (upd H1 x (vA x C d)) s1:=I1.write (t':=s1.toks) (x:=x) (e:=x) (h':=s1.heap) (by rw [e1];exact True.intro) (.inl rfl) (fun b o _ z=>z) ⟨_,he⟩ (CW he rfl)
  exact hx pins _ s1 ⟨x,C,d,U,_,rfl,I2,⟨ao,.inl ⟨_,he,rfl,rfl⟩⟩,r1⟩
 have hD:=KI _ _ lk0
 obtain ⟨hp,g,dr,tk,os⟩:=s1
 unfold gP at he
 repeat (first | with_reducible refine wpAny_loadPart_at he ?_ | with_reducible refine wpAny_loadPart_at hD ?_ | (with_reducible refine wpAny_isSubtype_exc hD ?_;rw [hcB]) | wp_step)
 exact wpAny_raiseNew_none hh fin
end
section
variable {X:Cx} {k:Nat} {C:Addr} {R:St->XK} {x:Str} {p cpos pos:Pos} {e:Expr} {es:List Expr} {t:TA} {fl:List Str}
theorem zF {H:Hp} {a d:Addr} {vs:List V} (ha:H a=none) (hd:H d=none) (ne:d≠a):Same H (upd (upd (upd (upd H a (kE a C)) a (gQ a C d)) d (mj d (fl.zip vs))) a (vA a C d))/\
  Vx (upd (upd (upd (upd H a (kE a C)) a (gQ a C d)) d (mj d (fl.zip vs))) a (vA a C d)) a C (fl.zip vs):=by
 refine ⟨fun b o h=>?_,d,ao,by rw [aC ne,ao]⟩
 have na:b≠a:=fun z=>by rw [z,ha] at h;cases h
 have nd:b≠d:=fun z=>by rw [z,hd] at h;cases h
 rw [aC na,aC nd,aC na,aC na]
 exact h
theorem Jq (M:WK X.prog X.w X.K X.mg X.base k x C fl) (hr:Room (k+1) X.A) (hc:X.calm=true) (hg:Gl X x) (hx:tV X R) (ha:PA X (e :: es) t) (hdb:(x == ("__debug__":Str))=false)
  (he:starEach (e :: es) X.env=(false,eval e X.env) :: starEach es X.env) (hpl:(backTo cpos (starEach es X.env)).any (·.1)=false):PS X (.Raise (some (.Call (.Name x p) (e :: es) [] cpos)) none pos) (Br C fl R t):=by
 intro pins s U H D I h
 rw [arm_exec_Raise]
 refine wpAny_bind (wpAny_standAt (thrown (pins:=pins) (U:=U) (C:=C) hc M.cl hx (wpAny_bind (d7 (Q:=fun v s1=>∃ x d H1,v= .ref x/\Inv X pins U H1 s1/\H1 x=some (gQ x C d)/\R U (.ref C) (some x) (upd H1 x (vA x C d))) ?_ fun v s3 h3=>wpAny_bind (wpAny_standAt (wpAny_pure h3))))))
 refine wpAny_Call_Name_kw (uF I hg M.at_ ?_ hdb)
 refine PySem.W.callWith_K (h₀:=X.base) I.ok.mod.kin M.kp (d7 (ha cpos pins s U H _ I h) fun us s1 ⟨vs,H1,I1,r,hl,hz,q⟩=>⟨I1.kIn,?_⟩) he hpl
 refine RZ M hr I1 r hl hz fun a d s2 z1 z2 ne I2=>⟨a,d,_,rfl,I2,?_,?_⟩
 ·rw [aC (Ne.symm ne),ao]
 ·obtain ⟨w1,w2⟩:=zF (C:=C) (fl:=fl) (vs:=vs) z1 z2 ne
  exact q a _ w1 w2
theorem PS.nox {st:Stmt} {t:TS} (h:PS X.nox st t):PS X st t:=fun pins s U H D I hw=>
 wpAny_mono (h pins s U H D (I.wish _) hw) (fun _ _ q=>q.unwish) fun _ _ z=>False.elim z
end
section
variable {X:Cx} {pins pins':List (Addr×Obj)} {U:St} {H:Hp} {s:Shared} {x C d T:Addr} {R:St->XK} {D:Ends}
abbrev TH:=Ends->St->Addr->Addr->Hp->Prop
def PH (X:Cx) (hs:List ExceptHandler) (th:TH):Prop:=∀ (pins:List (Addr×Obj)) (s:Shared) (U:St) (H:Hp) (D:Ends) (x C d T:Addr),Inv X pins U H s->Head X pins H x C d T s.heap->th D U x C H->
 wpAny (model X.prog X.w) X.A (handleBy (.ref x) X.env hs) (SP X pins D) X.xe s
variable {nm n:Str} {P:Addr} {i:Nat} {p pos:Pos} {b0:Stmt} {suite:List Stmt} {ts:TS} {th:TH} {hs:List ExceptHandler}
end
def iz (mg:Str->Option Value) (x:Str):Addr:=match mg x with
 | some (.ref a)=>a
 | _=>0
theorem Dd {mg:Str->Option Value} {x:Str} {C:Addr} (h:mg x=some (.ref C)):iz mg x=C:=by unfold iz;rw [h]
structure R0 (K:W.Frag) (mg:Str->Option Value) (x:Str):Prop where
 at_:mg x=some (.ref (iz mg x))
 cl:Y7 K (iz mg x)
theorem WL {K:W.Frag} {mg:Str->Option Value} {h:Heap} (X:K.In h) (G:h.Ns mainGlobals mg) {x:Str} {C:Addr} (a:PySem.W.nsIn K mainGlobals x=some (some (.ref C))) (b:Dc K C=true):R0 K mg x:=by
 have m:=PySem.W.mg_of X G a
 have e:=Dd m
 exact ⟨by rw [e];exact m,by rw [e];exact Jm b⟩
structure M6 (K:W.Frag) (mg:Str->Option Value) (x:Str) (fl:List Str) (qual:Str) (st:Stmt):Prop where
 c:R0 K mg x
 kp:PySem.W.keepIn K (.ref (iz mg x))=true
 na:∀ f∈fl,p7 K (iz mg x) f
 ini:∃ f fd,PySem.W.findIn K (.ref (iz mg x)) "__init__"=some (some (.ref f))/\PySem.W.typeIn K (.ref f)=some (.type "function")/\Fun K "__init__" qual st f fd
def R6 (K:W.Frag) (C:Addr) (fl:List Str):Bool:=fl.all fun n=>PySem.W.findIn K (.ref C) n == some none
theorem WM {K:W.Frag} {mg:Str->Option Value} {h:Heap} (X:K.In h) (G:h.Ns mainGlobals mg) {x qual:Str} {C f:Addr} {fl:List Str} {st:Stmt} {oc:Value} {od an:Option Addr} {osl:Array (Option Value)} {kV doc pm cdv ct:Value}
  (a:PySem.W.nsIn K mainGlobals x=some (some (.ref C))) (b:Dc K C=true) (kp:PySem.W.keepIn K (.ref C)=true) (na:R6 K C fl=true)
  (i:PySem.W.findIn K (.ref C) "__init__"=some (some (.ref f))) (t:PySem.W.typeIn K (.ref f)=some (.type "function"))
  (l:K.lookup f=some ⟨oc,od,.func (PySem.W.fnOf "__init__" qual (iy st) (dm st) (au st) .none kV doc pm an cdv ct),osl⟩) (c:PySem.W.codeIn K cdv qual=true) (k:PySem.W.keepIn K (.ref f)=true):M6 K mg x fl qual st:=by
 have m:=PySem.W.mg_of X G a
 have e:=Dd m
 refine ⟨WL X G a b,by rw [e];exact kp,fun n hn=>?_,f,_,by rw [e];exact i,t,Hq l c k⟩
 rw [e]
 have:=List.all_eq_true.mp na n hn
 exact beq_iff_eq.mp this
structure Sub (K:W.Frag) (mg:Str->Option Value) (x y:Str) (b:Bool):Prop where
 mro:PySem.W.mroIn K (iz mg x) (.ref (iz mg y))=some b
 one:PySem.W.kitOne K (.ref (iz mg x)) (.ref (iz mg y))=some b
structure JH (X:Cx) (hs:List ExceptHandler) (th:TH):Prop where
 run:PH X hs th
section
variable {X:Cx} {K:W.Frag} {k:Nat} {x n fn:Str} {ps:List Str} {sp:Sp} {R:St->XK} {p pos cpos pos':Pos} {e o value:Expr} {es:List Expr} {t:TA} {ta tv:TE} {st:Stmt} {u ts:TS} {th:TH} {hs:List ExceptHandler} {i:Nat}
theorem di (F:sE X.prog X.w X.K X.mg X.base k x ps sp) (hr:Room k X.A) (hg:Gl X x) (hx:tV X R) (ha:JA X (e :: es) t) (hdb:(x == ("__debug__":Str))=false) (h:autoParam ((e :: es).all notStar=true) L2.auto4._auto_1):
  JE X (.Call (.Name x p) (e :: es) [] pos) (Bq sp R t):=by
 have h1:notStar e=true:=by simp only [List.all_cons,Bool.and_eq_true] at h;exact h.1
 have h2:es.all notStar=true:=by simp only [List.all_cons,Bool.and_eq_true] at h;exact h.2
 exact ⟨Jo F hr hg hx ha.run hdb (fP h1) (qd h2)⟩
theorem yc (h:JS X.nox st u):JS X st u:=⟨h.run.nox⟩
theorem M7 (hK:X.K=K) (ha:JE X o ta) (hv:JE X value tv) (h:autoParam (lA value=true) L2.auto4._auto_1):JS X (.Assign [.Attribute o fn pos'] value pos) (Jp K ta tv fn):=by
 subst hK
 exact ⟨M5 ha.run hv.run (zp h)⟩
theorem Jr {fl:List Str} (M:WK X.prog X.w X.K X.mg X.base k x (iz X.mg x) fl) (hr:Room (k+1) X.A) (hc:X.calm=true) (hg:Gl X x) (hx:tV X R) (ha:JA X (e :: es) t) (hdb:(x == ("__debug__":Str))=false) (h:autoParam ((e :: es).all notStar=true) L2.auto4._auto_1):
  JS X (.Raise (some (.Call (.Name x p) (e :: es) [] cpos)) none pos) (Br (iz X.mg x) fl R t):=by
 have h1:notStar e=true:=by simp only [List.all_cons,Bool.and_eq_true] at h;exact h.1
 have h2:es.all notStar=true:=by simp only [List.all_cons,Bool.and_eq_true] at h;exact h.2
 exact ⟨Jq M hr hc hg hx ha.run hdb (fP h1) (qd h2)⟩
end
section
variable {P:Program} {w:World} {K:W.Frag} {mg:Str->Option Value} {base:Heap}
theorem pW {x:Str} {st:Stmt} {N ps:List Str} {k:Nat} {sp:Sp} (D:dO K mg x st) (S:aJ N ps (au st))
  (hb:∀ (kV doc pm:Value) (an:Option Addr) (cdv ct:Value) (us:List Value),us.length=ps.length->bindArgs (PySem.W.fnOf x x (iy st) (dm st) (au st) .none kV doc pm an cdv ct) ⟨us,[]⟩=pure (ps.zip us))
  (len:∀ vs H Q E,sp vs H Q E->vs.length=ps.length)
  (hbody:∀ (f:Addr) (cdv:Value) (A:Around) (outer:List Env) (s:Shared) (H:Hp) (vs:List V) (Q:VK) (E:XK),Room k (A.deeper (envOfC x (au st) s.heap.objs.size f cdv))->sp vs H Q E->
   ∃ t,JB (qK (RW P w) P w K mg base N x (au st) f cdv A outer s H E) (dm st) t/\t {nx:=fun _ H'=>Q .non H',rt:=Q} (start N vs) H):sE P w K mg base (k+1) x ps sp:=by
 obtain ⟨f,fd,F,hm⟩:=D
 refine ⟨f,fd,hm,F.kp,F.binds hb,?_⟩
 obtain ⟨oc,od,kV,doc,pm,an,cdv,ct,osl,rfl,lk,hcd⟩:=F.ex
 exact O9 lk hcd S len fun A outer s H vs Q E hr h=>let ⟨t,j,q⟩:=hbody f cdv A outer s H vs Q E hr h;⟨t,j.run,q⟩
theorem mkX {x qual:Str} {st:Stmt} {N ps:List Str} {fl:List Str} {k:Nat} (D:M6 K mg x fl qual st) (S:aJ N ps (au st))
  (hb:∀ (kV doc pm:Value) (an:Option Addr) (cdv ct:Value) (us:List Value),us.length=ps.length->bindArgs (PySem.W.fnOf "__init__" qual (iy st) (dm st) (au st) .none kV doc pm an cdv ct) ⟨us,[]⟩=pure (ps.zip us))
  (hl:ps.length=fl.length+1)
  (hbody:∀ (f:Addr) (cdv:Value) (A:Around) (outer:List Env) (s:Shared) (H:Hp) (vs:List V) (Q:VK) (E:XK),Room k (A.deeper (envOfC qual (au st) s.heap.objs.size f cdv))->xZ (iz mg x) fl vs H Q E->
   ∃ t,JB (qK Bc P w K mg base N qual (au st) f cdv A outer s H E).nox (dm st) t/\t {nx:=fun _ H'=>Q .non H',rt:=Q} (start N vs) H):WK P w K mg base (k+1) x (iz mg x) fl:=by
 obtain ⟨f,fd,a,b,F⟩:=D.ini
 refine ⟨D.c.at_,D.c.cl,D.kp,D.na,f,fd,ps,a,b,F.binds hb,F.ok S (fun vs H Q E h=>?_) fun cdv A outer s H vs Q E hr h=>let ⟨t,j,q⟩:=hbody f cdv A outer s H vs Q E hr h;⟨t,j.run,q⟩⟩
 obtain ⟨y,ws,rfl,hw,_⟩:=h
 rw [List.length_cons,hw,hl]
end
def initOf:Stmt->Stmt
 | .ClassDef _ _ _ (s :: _) _ _ _ _ _ _ _=>s
 | s=>s
section
variable {U:St} {H:Hp} {D:Ends} {Q:VK} {sp:Sp} {R:St->XK} {a:TA} {K:W.Frag} {C P:Addr} {fl:List Str} {th:TH} {ts:TS} {i:Nat} {ta:TE} {f:Str}
theorem gG (h:a U H fun vs H1=>sp vs H1 Q (R U)):Bq sp R a U H Q:=h
theorem gH (h:a U H fun vs H1=>vs.length=fl.length/\vs.length<=sizeLine/\∀ x H2,Same H1 H2->Vx H2 x C (fl.zip vs)->R U (.ref C) (some x) H2):Br C fl R a D U H:=h
theorem rd1 {f1 p0 p1:Str} {vs:List V} {E:XK} (c:XCls K C) (n:p7 K C f1) (h:xZ C [f1] vs H Q E):Jp K (rR 0) (rR 1) f1 {nx:=fun _ H'=>Q .non H',rt:=Q} (start [p0,p1] vs) H:=by
 obtain ⟨x,ws,rfl,hw,hx,q⟩:=h
 match ws,hw with
 | [v],_=>exact ⟨v,rfl,.ref x,rfl,x,C,rfl,c,n,.inl ⟨hx,fun d hd ne=>q d hd ne⟩⟩
end
def WN (K:W.Frag) (neg:Bool):R2:=fun x y H Q=>∃ a b xs,x= .ref a/\y= .ref b/\SqL K H a xs/\SqL K H b xs/\(∀ v∈xs,lw v=true\/∃ r,v= .ref r)/\Q (.bl (!neg)) H
theorem vB {v:V} (f:lw v=true):Cu v v=true:=by
 cases v <;> first | (cases f;done) | rfl | (simp [Cu])
section
variable {X:Cx}
theorem R8 (hu:X.A.units < cLine):OpR X (compareOp .Eq) (WN X.K false):=by
 intro pins s U H x y v u Q I rx ry h
 obtain ⟨a,b,xs,rfl,rfl,ha,hb,fx,q⟩:=h
 cases rx
 cases ry
 obtain ⟨its,r1,p1,z1⟩:=I.list ha
 obtain ⟨jts,r2,p2,z2⟩:=I.list hb
 have l1:its.toArray.size=xs.length:=by simpa using r1.length.symm
 have l2:jts.toArray.size=xs.length:=by simpa using r2.length.symm
 refine SeqAt.eq_listAt (e:=fun _=>true) p1.isList p2.isList (by rw [l1,l2]) hu (fun j h1 h2=>?_) ?_
 ·have hj:j < xs.length:=by omega
  obtain ⟨u1,e1,q1⟩:=r1.get (List.getElem?_eq_getElem hj)
  obtain ⟨u2,e2,q2⟩:=r2.get (List.getElem?_eq_getElem hj)
  have f1:its.toArray[j]=u1:=by
   obtain ⟨_,z⟩:=List.getElem?_eq_some_iff.mp e1
   simpa using z
  have f2:jts.toArray[j]=u2:=by
   obtain ⟨_,z⟩:=List.getElem?_eq_some_iff.mp e2
   simpa using z
  rw [f1,f2]
  rcases fx _ (List.getElem_mem hj) with f | ⟨r,f⟩
  ·rw [← vB f]
   exact uY q1 q2 f f
  ·rw [f] at q1 q2
   cases (show u1=Value.ref r from q1)
   cases (show u2=Value.ref r from q2)
   exact SeqAt.EqAt.same _
 ·have e:(List.range its.toArray.size).all (fun _=>true)=true:=by simp
  rw [e]
  exact ⟨.bl true,H,I,rfl,q⟩
def Js (K:W.Frag):R2:=fun x y H Q=>Es K x y H Q\/WN K false x y H Q
theorem R9 {K:W.Frag} (hK:X.K=K) (hu:X.A.units+64 < cLine):OpR X (compareOp .Eq) (Js K):=by
 subst hK
 exact (iR rfl hu).or (R8 (Nat.lt_of_le_of_lt (Nat.le_add_right _ _) hu))
end
section
variable {H:Hp} {Q:VK} {K:W.Frag}
theorem iZ {i j:Int} (h:Q (.bl (decide (V.int i=V.int j))) H):Js K (.int i) (.int j) H Q:=.inl (iT h)
theorem jc {i j:Str} (h:Q (.bl (decide (V.str i=V.str j))) H):Js K (.str i) (.str j) H Q:=.inl (iU h)
theorem jd {i j:Bool} (h:Q (.bl (decide (V.bl i=V.bl j))) H):Js K (.bl i) (.bl j) H Q:=.inl (iV h)
end
end L2
namespace L2
open PySem PySem.Spec PyProof.Rows
open AutoSeq1 (wpAny_loadPart')
theorem yd:isSubtype (.type "dict") (.type "dict")=pure true:=by rw [isSubtype_type];kernel_rfl
theorem EY {prog:Program} {w:World} {A:Around} {E:Value->Shared->Prop} {s:Shared} {Q:Value->Shared->Prop} {a:Addr} {o:Obj} {e:DictEntry} {ep:Nat} {k:Key} (ho:s.heap.get? a=some o) (hc:o.cls= .type "dict") (hd:o.data= .dict #[e] ep)
  (hkey:(cF prog w).is k e.key=true) (hh:e.hash=(cF prog w).hash k) (hsm:(a == sysModules)=false) (hu:A.units < cLine) (h:Q (.bool true) s):wpAny (model prog w) A (compareOp .Eq (.ref a) (.ref a)) Q E s:=by
 show wpAny _ _ (richCompare .Eq (.ref a) (.ref a)) _ _ _
 refine wpAny_richCompare_same_room ⟨o,ho,hc⟩ ⟨o,ho,hc⟩ F.slot_dict_eq (wpAny_call (codeAny_call_builtin F.slot_dict_eq.plain F.entry_dict_eq (F.slot_dict_eq.check _ _ _ _ _ _ _ _ ⟨o,ho,hc⟩ (F.args_dict_eq_2 _ _) ?_))) hu
 have ko:KeysOf (cF prog w) #[e]:=fun x hx=>by
  simp at hx
  subst hx
  exact ⟨k,hkey,hh⟩
 have f2:=yd
 obtain ⟨hp,g,d,tk,os⟩:=s
 have hT:(⟨hp,g,d,tk,os⟩:Shared).TypeIs (.ref a) "dict":=⟨_,ho,hc⟩
 unfold Builtin.«dict.__eq__»
 wp_walk using wpAny_loadPart' ho
 have en:∀ (Q:Array DictEntry->Shared->Prop) (E:Value->Shared->Prop),Q #[e] ⟨hp,g,d,tk,os⟩->wpAny (model prog w) A.in1 (dictEntries a) Q E ⟨hp,g,d,tk,os⟩:=fun Q E q=>by
  unfold dictEntries
  refine wpAny_bind (wpAny_loadPart ho ?_)
  simp only [hd]
  exact wpAny_pure q
 have eo:∀ (Q:Nat->Shared->Prop) (E:Value->Shared->Prop),Q ep ⟨hp,g,d,tk,os⟩->wpAny (model prog w) A.in1 (dictEpoch a) Q E ⟨hp,g,d,tk,os⟩:=fun Q E q=>by
  unfold dictEpoch
  refine wpAny_bind (wpAny_loadPart ho ?_)
  simp only [hd]
  exact wpAny_pure q
 simp only [hd]
 refine wpAny_pure ?_
 refine wpAny_bind (en _ _ ?_)
 rw [if_neg (by simp)]
 refine wpAny_bind (eo _ _ ?_)
 refine wpAny_bind ?_
 rw [Std.Legacy.Range.forIn_eq_forIn_range']
 simp only [Std.Legacy.Range.size,Nat.sub_zero,Nat.add_sub_cancel,Nat.div_one]
 show wpAny _ _ (forIn [0] _ _) _ _ _
 rw [List.forIn_cons]
 refine wpAny_bind (wpAny_bind (en _ _ ?_))
 show wpAny _ _ (holding [e.key,e.val] _ >>=_) _ _ _
 refine wpAny_bind (wpAny_holding ?_)
 refine wpAny_bind (show wpAny (model prog w) A.in1 (dictFind a e.key e.hash) _ _ _ from ?_)
 rw [hh]
 refine wpAny_dictFind_of hkey ho hd ko ?_
 have fi:(#[e]:Array DictEntry).findIdx? (fun e=>(cF prog w).is k e.key)=some 0:=by simp [hkey]
 rw [fi]
 refine wpAny_bind (en _ _ ?_)
 show wpAny _ _ (holding [e.val] (eqBool e.val e.val)) _ _ _
 refine wpAny_holding (SeqAt.EqAt.same e.val prog w _ _ ?_)
 rw [if_neg (by simp)]
 refine wpAny_bind (eo _ _ ?_)
 rw [if_neg (by simp)]
 refine wpAny_pure ?_
 show wpAny _ _ (forIn [] _ _) _ _ _
 rw [List.forIn_nil]
 refine wpAny_pure (wpAny_pure ?_)
 exact wpAny_pure ⟨(fun z=>nomatch z),h⟩
section
variable {X:Cx}
def Pu (K:W.Frag):R2:=fun x y H Q=>∃ a b xs,x= .ref a/\y= .ref b/\SqT K H a xs/\SqT K H b xs/\(∀ v∈xs,lw v=true\/∃ r,v= .ref r)/\Q (.bl true) H
theorem M8 (hu:X.A.units < cLine):OpR X (compareOp .Eq) (Pu X.K):=by
 intro pins s U H x y v u Q I rx ry h
 obtain ⟨a,b,xs,rfl,rfl,ha,hb,fx,q⟩:=h
 cases rx
 cases ry
 obtain ⟨its,r1,p1,z1⟩:=I.tuple ha
 obtain ⟨jts,r2,p2,z2⟩:=I.tuple hb
 have l1:its.toArray.size=xs.length:=by simpa using r1.length.symm
 have l2:jts.toArray.size=xs.length:=by simpa using r2.length.symm
 refine SeqAt.eq_tupleAt (e:=fun _=>true) p1 p2 hu (fun j h1 h2=>?_) ?_
 ·have hj:j < xs.length:=by omega
  obtain ⟨u1,e1,q1⟩:=r1.get (List.getElem?_eq_getElem hj)
  obtain ⟨u2,e2,q2⟩:=r2.get (List.getElem?_eq_getElem hj)
  have f1:its.toArray[j]=u1:=by
   obtain ⟨_,z⟩:=List.getElem?_eq_some_iff.mp e1
   simpa using z
  have f2:jts.toArray[j]=u2:=by
   obtain ⟨_,z⟩:=List.getElem?_eq_some_iff.mp e2
   simpa using z
  rw [f1,f2]
  rcases fx _ (List.getElem_mem hj) with f | ⟨r,f⟩
  ·rw [← vB f]
   exact uY q1 q2 f f
  ·rw [f] at q1 q2
   cases (show u1=Value.ref r from q1)
   cases (show u2=Value.ref r from q2)
   exact SeqAt.EqAt.same _
 ·have e:((List.range (min its.toArray.size jts.toArray.size)).all (fun _=>true) && its.toArray.size == jts.toArray.size)=true:=by rw [l1,l2];simp
  rw [e]
  exact ⟨.bl true,H,I,rfl,q⟩
def Px:R2:=fun x y H Q=>∃ a k v,x= .ref a/\y= .ref a/\H a=some (.dK [(k,v)])/\Q (.bl true) H
theorem M9 (hu:X.A.units < cLine):OpR X (compareOp .Eq) Px:=by
 intro pins s U H x y v u Q I rx ry h
 obtain ⟨a,k,z,rfl,rfl,ha,q⟩:=h
 cases rx
 cases ry
 obtain ⟨_,hsm,vs,kv,o,es,ep,h1,h2,h3,h4,h5,h6⟩:=(show ObjOk X.prog X.w H s.heap a (.dK [(k,z)]) from I.hok a _ ha)
 cases kv with
 | cons a1 a2=>
  cases a2
  obtain ⟨l⟩:=es
  dsimp only at h5
  cases h5 with
  | @cons en _ _ _ p1 p2 p3=>
   cases p3
   obtain ⟨k',b1,b2⟩:=h4 en (by simp)
   exact EY (e:=en) h1 h2.1 h3 b1 b2 hsm hu ⟨.bl true,H,I,rfl,q⟩
def Jt (K:W.Frag):R2:=fun x y H Q=>Js K x y H Q\/Pu K x y H Q\/Px x y H Q
theorem Sg {K:W.Frag} (hK:X.K=K) (hu:X.A.units+64 < cLine):OpR X (compareOp .Eq) (Jt K):=by
 subst hK
 exact (R9 rfl hu).or ((M8 (Nat.lt_of_le_of_lt (Nat.le_add_right _ _) hu)).or (M9 (Nat.lt_of_le_of_lt (Nat.le_add_right _ _) hu)))
end
section
variable {H:Hp} {Q:VK} {K:W.Frag}
theorem gJ {U:St} {r r':R2} {ta tb tc:TE} (h:ta U H fun x H1=>tb U H1 fun y H2=>r x y H2 fun z H3=>∃ k,z= .bl k/\if k=true then tc U H3 fun w H4=>r' y w H4 Q else Q (.bl false) H3):uV r r' ta tb tc U H Q:=h
theorem je {i j:Int} (h:Q (.bl (decide (V.int i=V.int j))) H):Jt K (.int i) (.int j) H Q:=.inl (iZ h)
theorem jf {i j:Str} (h:Q (.bl (decide (V.str i=V.str j))) H):Jt K (.str i) (.str j) H Q:=.inl (jc h)
theorem jg {i j:Bool} (h:Q (.bl (decide (V.bl i=V.bl j))) H):Jt K (.bl i) (.bl j) H Q:=.inl (jd h)
end
end L2
namespace L2
open PySem PySem.Spec PyProof.Rows PySem.SeqAt
theorem Nb (lo hi:Option Int) (n:Nat):Builtin.Str.strSliceIndices lo hi 1 n=(List.range (HT.sIx n n hi - HT.sIx n 0 lo)).map fun k=>HT.sIx n 0 lo+k:=by
 have c:∀ (i:Int) (d:Nat),max 0 (min (if i < 0 then i+(n:Int) else i) (n:Int))=((HT.sIx n d (some i):Nat):Int):=by
  intro i d
  rw [← HT.clip_eq]
  split <;> omega
 have key:∀ a b:Nat,(List.range (if (a:Int) < (b:Int) then ((b:Int) - a+1 - 1) / 1 else 0).toNat).map (fun k:Nat=>((a:Int)+1*(k:Int)).toNat)=(List.range (b - a)).map fun k=>a+k:=by
  intro a b
  have e3:(if (a:Int) < (b:Int) then ((b:Int) - a+1 - 1) / 1 else 0).toNat=b - a:=by split <;> omega
  rw [e3]
  refine List.map_congr_left fun k _=>?_
  omega
 unfold Builtin.Str.strSliceIndices sliceRange
 simp only [show (1:Int) > 0 by decide,if_true]
 cases lo with
 | none=>
  cases hi with
  | none=>exact key 0 n
  | some j=>rw [← key,← c j n];rfl
 | some i=>
  cases hi with
  | none=>rw [← key,← c i 0];rfl
  | some j=>rw [← key,← c i 0,← c j n]
theorem Py {α β:Type} {f:α->Option β} {g:α->β}:∀ (l:List α),(∀ k∈l,f k=some (g k))->l.filterMap f=l.map g
 | [],_=>rfl
 | k :: l,h=>by rw [List.filterMap_cons,h k (by simp),List.map_cons,Py l fun j hj=>h j (List.mem_cons_of_mem _ hj)]
theorem Fb (l:List Nat) (a m:Nat) (h:a+m<=l.length):((List.range m).map fun k=>a+k).filterMap (fun i=>l[i]?)=(l.drop a).take m:=by
 rw [List.filterMap_map,Py (g:=fun k=>l.getD (a+k) 0)]
 ·refine List.ext_getElem? fun i=>?_
  rw [List.getElem?_map,List.getElem?_take]
  by_cases hi:i < m
  ·rw [if_pos hi,List.getElem?_range hi,List.getElem?_drop,List.getElem?_eq_getElem (by omega)]
   simp [List.getElem?_eq_getElem (show a+i < l.length by omega)]
  ·rw [if_neg hi,List.getElem?_eq_none (by simp;omega)];rfl
 ·intro k hk
  have hk:=List.mem_range.mp hk
  show l[a+k]?=_
  rw [List.getD_eq_getElem?_getD,List.getElem?_eq_getElem (by omega)];rfl
theorem Fd (z:Str) (lo hi:Option Int):(Txt.slice z lo hi).cps.toList=(z.cps.toList.drop (HT.sIx z.length 0 lo)).take (HT.sIx z.length z.length hi - HT.sIx z.length 0 lo):=by
 have hn:z.cps.toList.length=z.length:=by simp [Str.length]
 have la:=HT.sIx_le z.length 0 (Nat.zero_le _) lo
 have lb:=HT.sIx_le z.length z.length (Nat.le_refl _) hi
 unfold Txt.slice
 rw [Nb]
 generalize HT.sIx z.length 0 lo=a at la ⊢
 generalize HT.sIx z.length z.length hi=b at lb ⊢
 split
 ·rename_i h
  simp at h
  have ha:a=0:=by
   rcases Nat.eq_zero_or_pos z.length with h0 | h0
   ·omega
   ·omega
  subst ha
  rw [List.drop_zero,List.take_of_length_le (by omega)]
 ·show List.filterMap (fun x=>z.cps[x]?) _=_
  have e:(fun x:Nat=>z.cps[x]?)=fun x=>z.cps.toList[x]?:=by funext x;simp
  rw [e]
  by_cases h:a<=b
  ·exact Fb _ a (b - a) (by omega)
  ·rw [show b - a=0 by omega];simp
theorem Ju (z:Str) (k:Nat):(Txt.slice z none (some (k:Int))).cps.toList=z.cps.toList.take k:=by
 rw [Fd,HT.sIx_none,HT.sIx_nat,List.drop_zero,Nat.sub_zero]
 have hn:z.cps.toList.length=z.length:=by simp [Str.length]
 by_cases h:k<=z.length
 ·rw [Nat.min_eq_left h]
 ·rw [Nat.min_eq_right (by omega),List.take_of_length_le (by omega),List.take_of_length_le (by omega)]
theorem Bs {n:Nat}:∀ {ds:List PyData},(∀ d∈ds,d.canLay0=true/\d.depth<=n)->PyData.canLayAll0 ds=true/\PyData.depthAll ds<=n
 | [],_=>⟨rfl,by simp [PyData.depthAll]⟩
 | d :: ds,h=>by
  obtain ⟨a,b⟩:=Bs fun e he=>h e (List.mem_cons_of_mem _ he)
  obtain ⟨c,e⟩:=h d (by simp)
  rw [PyData.canLayAll0,PyData.depthAll,a,c]
  exact ⟨rfl,by omega⟩
theorem vC {n:Nat} {ds:List PyData} (h:∀ d∈ds,d.canLay0=true/\d.depth<=n):(PyData.list ds).canLay0=true/\(PyData.list ds).depth<=n+1:=by
 obtain ⟨a,b⟩:=Bs h
 rw [PyData.canLay0,PyData.depth]
 exact ⟨a,by omega⟩
theorem o5 {n:Nat} {ds:List PyData} (h:∀ d∈ds,d.canLay0=true/\d.depth<=n):(PyData.tuple ds).canLay0=true/\(PyData.tuple ds).depth<=n+1:=by
 obtain ⟨a,b⟩:=Bs h
 rw [PyData.canLay0,PyData.depth]
 exact ⟨a,by omega⟩
theorem De (s:Int):(PyData.int s).canLay0=true/\(PyData.int s).depth<=0:=by simp [PyData.canLay0,PyData.depth]
theorem mq {d:PyData} {n:Nat} (h:d.canLay0=true/\d.depth<=n) (hn:n<=64):shaped d=true:=by
 unfold shaped
 rw [h.1,decide_eq_true (by omega)];rfl
theorem Pz {xs:List V} {H:Hp} {R:Addr->Prop} (c:Nat.ble xs.length 64=true) (h:∀ p,H p=none->R p):xs.length<=sizeLine/\∀ p,H p=none->R p:=
 ⟨Nat.le_trans (Nat.le_of_ble_eq_true c) (by decide),h⟩
theorem nu {A B:Prop} (h:A):if (!false)=true then A else B:=(if_pos (show (!false)=true from rfl)).mpr h
theorem nF {A B:Prop} (h:B):if (!true)=true then A else B:=by rw [if_neg (by simp)];exact h
theorem jU {A B:Prop} (h:A):if (!!true)=true then A else B:=(if_pos (show (!!true)=true from rfl)).mpr h
theorem jV {A B:Prop} (h:B):if (!!false)=true then A else B:=by rw [if_neg (by simp)];exact h
theorem WP {t u:TS} {D:Ends} {U:St} {H:Hp} (M:St->Hp->Prop) (h1:∀ U H,M U H->u D U H) (h2:∀ N,(∀ U H,M U H->N U H)->t {D with nx:=N} U H):Lb t u D U H:=h2 _ h1
end L2
namespace L2
open PySem PySem.Spec PyProof.Rows PySem.SeqAt
open AutoSeq1 (wpAny_loadPart')
theorem Bt {prog:Program} {w:World} {A:Around} {E:Value->Shared->Prop} {s:Shared} {Q:Value->Shared->Prop} {a:Addr} {o:Obj} {e:DictEntry} {ep:Nat} {k:Key} (ho:s.heap.get? a=some o) (hc:o.cls= .type "dict") (hd:o.data= .dict #[e] ep)
  (hkey:(cF prog w).is k e.key=true) (hh:e.hash=(cF prog w).hash k) (hsm:(a == sysModules)=false) (hu:A.units < cLine) (h:Q (.bool false) s):wpAny (model prog w) A (compareOp .NotEq (.ref a) (.ref a)) Q E s:=by
 show wpAny _ _ (richCompare .NotEq (.ref a) (.ref a)) _ _ _
 refine wpAny_richCompare_same_room ⟨o,ho,hc⟩ ⟨o,ho,hc⟩ F.slot_dict_ne (wpAny_call (codeAny_call_builtin F.slot_dict_ne.plain F.entry_dict_ne (F.slot_dict_ne.check _ _ _ _ _ _ _ _ ⟨o,ho,hc⟩ (F.args_dict_ne_2 _ _) ?_))) hu
 have ko:KeysOf (cF prog w) #[e]:=fun x hx=>by
  simp at hx
  subst hx
  exact ⟨k,hkey,hh⟩
 have f2:=yd
 obtain ⟨hp,g,d,tk,os⟩:=s
 have hT:(⟨hp,g,d,tk,os⟩:Shared).TypeIs (.ref a) "dict":=⟨_,ho,hc⟩
 unfold Builtin.«dict.__ne__»
 wp_walk using wpAny_loadPart' ho
 have en:∀ (Q:Array DictEntry->Shared->Prop) (E:Value->Shared->Prop),Q #[e] ⟨hp,g,d,tk,os⟩->wpAny (model prog w) A.in1 (dictEntries a) Q E ⟨hp,g,d,tk,os⟩:=fun Q E q=>by
  unfold dictEntries
  refine wpAny_bind (wpAny_loadPart ho ?_)
  simp only [hd]
  exact wpAny_pure q
 have eo:∀ (Q:Nat->Shared->Prop) (E:Value->Shared->Prop),Q ep ⟨hp,g,d,tk,os⟩->wpAny (model prog w) A.in1 (dictEpoch a) Q E ⟨hp,g,d,tk,os⟩:=fun Q E q=>by
  unfold dictEpoch
  refine wpAny_bind (wpAny_loadPart ho ?_)
  simp only [hd]
  exact wpAny_pure q
 simp only [hd]
 refine wpAny_pure ?_
 refine wpAny_bind (en _ _ ?_)
 rw [if_neg (by simp)]
 refine wpAny_bind (eo _ _ ?_)
 refine wpAny_bind ?_
 rw [Std.Legacy.Range.forIn_eq_forIn_range']
 simp only [Std.Legacy.Range.size,Nat.sub_zero,Nat.add_sub_cancel,Nat.div_one]
 show wpAny _ _ (forIn [0] _ _) _ _ _
 rw [List.forIn_cons]
 refine wpAny_bind (wpAny_bind (en _ _ ?_))
 show wpAny _ _ (holding [e.key,e.val] _ >>=_) _ _ _
 refine wpAny_bind (wpAny_holding ?_)
 refine wpAny_bind (show wpAny (model prog w) A.in1 (dictFind a e.key e.hash) _ _ _ from ?_)
 rw [hh]
 refine wpAny_dictFind_of hkey ho hd ko ?_
 have fi:(#[e]:Array DictEntry).findIdx? (fun e=>(cF prog w).is k e.key)=some 0:=by simp [hkey]
 rw [fi]
 refine wpAny_bind (en _ _ ?_)
 show wpAny _ _ (holding [e.val] (eqBool e.val e.val)) _ _ _
 refine wpAny_holding (SeqAt.EqAt.same e.val prog w _ _ ?_)
 rw [if_neg (by simp)]
 refine wpAny_bind (eo _ _ ?_)
 rw [if_neg (by simp)]
 refine wpAny_pure ?_
 show wpAny _ _ (forIn [] _ _) _ _ _
 rw [List.forIn_nil]
 refine wpAny_pure (wpAny_pure ?_)
 exact wpAny_pure ⟨(fun z=>nomatch z),h⟩
theorem zG {prog:Program} {w:World} {A:Around} {E:Value->Shared->Prop} {s:Shared} {Q:Value->Shared->Prop} {a:Addr} {o:Obj} {ep:Nat} (ho:s.heap.get? a=some o) (hc:o.cls= .type "dict") (hd:o.data= .dict #[] ep)
  (hsm:(a == sysModules)=false) (hu:A.units < cLine) (h:Q (.bool false) s):wpAny (model prog w) A (compareOp .NotEq (.ref a) (.ref a)) Q E s:=by
 show wpAny _ _ (richCompare .NotEq (.ref a) (.ref a)) _ _ _
 refine wpAny_richCompare_same_room ⟨o,ho,hc⟩ ⟨o,ho,hc⟩ F.slot_dict_ne (wpAny_call (codeAny_call_builtin F.slot_dict_ne.plain F.entry_dict_ne (F.slot_dict_ne.check _ _ _ _ _ _ _ _ ⟨o,ho,hc⟩ (F.args_dict_ne_2 _ _) ?_))) hu
 have f2:=yd
 obtain ⟨hp,g,d,tk,os⟩:=s
 have hT:(⟨hp,g,d,tk,os⟩:Shared).TypeIs (.ref a) "dict":=⟨_,ho,hc⟩
 unfold Builtin.«dict.__ne__»
 wp_walk using wpAny_loadPart' ho
 have en:∀ (Q:Array DictEntry->Shared->Prop) (E:Value->Shared->Prop),Q #[] ⟨hp,g,d,tk,os⟩->wpAny (model prog w) A.in1 (dictEntries a) Q E ⟨hp,g,d,tk,os⟩:=fun Q E q=>by
  unfold dictEntries
  refine wpAny_bind (wpAny_loadPart ho ?_)
  simp only [hd]
  exact wpAny_pure q
 have eo:∀ (Q:Nat->Shared->Prop) (E:Value->Shared->Prop),Q ep ⟨hp,g,d,tk,os⟩->wpAny (model prog w) A.in1 (dictEpoch a) Q E ⟨hp,g,d,tk,os⟩:=fun Q E q=>by
  unfold dictEpoch
  refine wpAny_bind (wpAny_loadPart ho ?_)
  simp only [hd]
  exact wpAny_pure q
 simp only [hd]
 refine wpAny_pure ?_
 refine wpAny_bind (en _ _ ?_)
 rw [if_neg (by simp)]
 refine wpAny_bind (eo _ _ ?_)
 refine wpAny_bind ?_
 rw [Std.Legacy.Range.forIn_eq_forIn_range']
 simp only [Std.Legacy.Range.size,Nat.sub_zero,Nat.add_sub_cancel,Nat.div_one]
 show wpAny _ _ (forIn [] _ _) _ _ _
 rw [List.forIn_nil]
 refine wpAny_pure (wpAny_pure ?_)
 exact wpAny_pure ⟨(fun z=>nomatch z),h⟩
def PJ:R2:=fun x y H Q=>∃ a kvs,x= .ref a/\y= .ref a/\H a=some (.dK kvs)/\kvs.length<=1/\Q (.bl false) H
section
variable {X:Cx}
theorem Nf (hu:X.A.units < cLine):OpR X (compareOp .NotEq) PJ:=by
 intro pins s U H x y v u Q I rx ry h
 obtain ⟨a,kvs,rfl,rfl,ha,hl,q⟩:=h
 cases rx
 cases ry
 obtain ⟨_,hsm,vs,kv,o,es,ep,h1,h2,h3,h4,h5,h6⟩:=(show ObjOk X.prog X.w H s.heap a (.dK kvs) from I.hok a _ ha)
 match kvs,hl with
 | [],_=>
  cases kv
  obtain ⟨l⟩:=es
  dsimp only at h5
  cases h5
  exact zG h1 h2.1 h3 hsm hu ⟨.bl false,H,I,rfl,q⟩
 | [(k,z)],_=>
  cases kv with
  | cons a1 a2=>
   cases a2
   obtain ⟨l⟩:=es
   dsimp only at h5
   cases h5 with
   | @cons en _ _ _ p1 p2 p3=>
    cases p3
    obtain ⟨k',b1,b2⟩:=h4 en (by simp)
    exact Bt (e:=en) h1 h2.1 h3 b1 b2 hsm hu ⟨.bl false,H,I,rfl,q⟩
def Ng (K:W.Frag):R2:=fun x y H Q=>Et K x y H Q\/PJ x y H Q
theorem Sh {K:W.Frag} (hK:X.K=K) (hu:X.A.units+64 < cLine):OpR X (compareOp .NotEq) (Ng K):=(Jc hK hu).or (Nf (Nat.lt_of_le_of_lt (Nat.le_add_right _ _) hu))
end
section
variable {H:Hp} {Q:VK} {K:W.Frag} {U:St} {D:Ends}
theorem Sq {i j:Int} (h:Q (.bl (!decide (V.int i=V.int j))) H):Ng K (.int i) (.int j) H Q:=.inl (iW h)
theorem Ss {i j:Str} (h:Q (.bl (!decide (V.str i=V.str j))) H):Ng K (.str i) (.str j) H Q:=.inl (iY h)
end
end L2
namespace L2
open PySem PySem.Spec PyProof.Rows
def PK:List V->Hp->VK->Prop:=fun xs H Q=>(∃ i j,xs=[.int i,.int j]/\Q (.int (if j > i then j else i)) H)\/∃ (p:Addr) (ns:List Int),xs=[.ref p]/\H p=some (.lst (ns.map V.int))/\ns≠[]/\∀ M,M∈ns->(∀ a∈ns,a<=M)->Q (.int M) H
section
variable {X:Cx}
theorem Fe:∀ {us:List Value} {ns:List Int},IntsAre us ns->Vals (ns.map V.int) us:=by
 intro us
 induction us with
 | nil=>intro ns h;cases h;exact .nil
 | cons u us ih=>
  intro ns h
  cases h with
  | cons a b=>exact .cons ⟨_,rfl⟩ (ih (by assumption))
theorem Ff (hc:X.calm=true):CallR X (.builtin "max") PK:=by
 intro pins s U H xs us Q I r h
 rcases h with h | ⟨p,ns,rfl,hp,hne,q⟩
 ·exact lR hc pins s U H xs us Q I r h
 ·obtain ⟨u,rfl,ru⟩:=vals1 r
  cases ru
  obtain ⟨hz,its,n,rv,g⟩:=I.hok p _ hp
  have hi:IntsAre its ns:=intsAre_of rv
  have hl:=rv.length
  obtain ⟨ys,ey⟩:=hi.allInts.items
  have hn:=hi.numsOf
  have hsz:0 < ys.size:=by
   have e1:=congrArg Array.size ey
   have:0 < ns.length:=List.length_pos_iff.mpr hne
   rw [List.length_map] at hl
   simp [intItems] at e1
   omega
  have hL:s.heap.IsList p (intItems ys):=⟨_,g,rfl,n,by rw [← ey]⟩
  have en:ys.toList.map (·.1)=ns:=by rw [← nums_intItems,← ey,← hn]
  refine max_intList (I.ok.hd hc) hL hsz fun v h' tk hv hk=>?_
  obtain ⟨t,rfl⟩:=intItems_at hv
  obtain ⟨h1,h2⟩:=argBest_gt (numAt ys) (ys.size - 1)
  refine ⟨.int _,H,I.kept hk,⟨t,rfl⟩,q _ ?_ fun a ha=>?_⟩
  ·rw [← en,numAt_eq];exact getD_mem (by rw [List.length_map,Array.length_toList];omega)
  ·rw [← en] at ha
   obtain ⟨j,hj,rfl⟩:=mem_getD ha
   rw [List.length_map,Array.length_toList] at hj
   rw [← numAt_eq];exact h2 j (by omega)
theorem ye {i:Nat} {x:Str} {e:Expr} {te:TE} {op:Operator} {r:R2} {pos pos':Pos} (hN:X.N.Nodup) (hi:X.N[i]?=some x) (hx:Loc X.env.scope x) (he:JE X e te) (ho:OpR X (inplaceOp op) r) (hf:X.fn x=true):
  JS X (.AugAssign (.Name x pos') op e pos) (QQ i te r):=⟨QR hN hi hx he.run ho (.inl hf)⟩
end
section
variable {U:St} {H:Hp} {Q:VK} {D:Ends}
theorem pX {i:Nat} {te:TE} {r:R2} {v:V} (e:U[i]?=some (some v)) (h:te U H fun y H1=>r v y H1 fun z H2=>D.nx (U.set i (some z)) H2):QQ i te r D U H:=⟨v,e,h⟩
theorem o6 {i j:Int} (h:Q (.int (if j > i then j else i)) H):PK [.int i,.int j] H Q:=.inl ⟨i,j,rfl,h⟩
end
def Su (K:W.Frag):R2:=fun x y H Q=>Mi K x y H Q\/∃ a o,y= .ref a/\DGet H a x o/\Q (.bl o.isSome) H
def qW:An:=fun o i v H R=>yW o i v H R\/∃ a H4,o= .ref a/\DPut H a i v H4/\R H4
section
variable {X:Cx}
theorem Jv {K:W.Frag} (hK:X.K=K) (hu:X.A.units+64 < cLine):OpR X (compareOp .In) (Su K):=(Ru hK).or (by
 intro pins s U H x y v u Q I rx ry h
 obtain ⟨a,o,rfl,g,q⟩:=h
 obtain rfl:u=Value.ref a:=ry
 exact d_in (by omega) I g rx fun s3 I3=>⟨.bl o.isSome,H,I3,rfl,q⟩)
theorem o7 (hu:X.A.units+64 < cLine):Lh X qW:=by
 intro pins s U H o i v ov iv u Q I ro ri rv h
 rcases h with h | ⟨a,H4,rfl,g,q⟩
 ·exact set_list pins s U H o i v ov iv u Q I ro ri rv h
 ·obtain rfl:ov=Value.ref a:=ro
  exact En (by omega) I g ri rv fun s4 I4=>⟨H4,I4,q⟩
end
section
variable {U:St} {H:Hp} {Q:VK} {K:W.Frag}
theorem lJ {x y:Str} (h:Q (.bl (!(Builtin.Str.occurrences y x 0 y.length 1).isEmpty)) H):Su K (.str x) (.str y) H Q:=.inl (lV h)
theorem qX {p:Addr} {xs:List V} {i:Int} {n:Nat} {v:V} {R:Hp->Prop} (hp:H p=some (.lst xs)) (e:Cp xs.length i=some n) (h:R (upd H p (.lst (xs.set n v)))):qW (.ref p) (.int i) v H R:=.inl (iM hp e h)
end
end L2
namespace L2
open PySem PySem.Spec PyProof.Rows
open PySem.Sem (wp)
open PySem.AutoSeq1 (wpAny_loadPart')
end L2
namespace L2
open PySem PySem.Spec PyProof.Rows
def qg (xs:List V) (lo hi:Option Int) (c:Int):List V:=
 (sliceRange (sliceBounds lo hi (some c) xs.length).1 (sliceBounds lo hi (some c) xs.length).2.1 (sliceBounds lo hi (some c) xs.length).2.2).filterMap (xs[·]?)
theorem Vals.places {xs:List V} {us:List Value} (h:Vals xs us):∀ ps:List Nat,Vals (ps.filterMap (xs[·]?)) (ps.filterMap (us[·]?))
 | []=>.nil
 | p :: ps=>by
  have ih:=Vals.places h ps
  have hl:=h.length
  rw [List.filterMap_cons,List.filterMap_cons]
  cases e:xs[p]? with
  | none=>
   have:us[p]?=none:=by rw [List.getElem?_eq_none_iff] at e ⊢;omega
   rw [this]
   exact ih
  | some x=>
   obtain ⟨u,hu,r⟩:=h.get e
   rw [hu]
   exact .cons r ih
def PQ (K:W.Frag) (te:TE) (tl th ts:TO):TE:=fun U H Q=>te U H fun x H1=>tl U H1 fun l H2=>th U H2 fun u H3=>ts U H3 fun c H4=>∃ a xs c',x= .ref a/\c=some c'/\c'≠0/\SqL K H4 a xs/\(qg xs l u c').length<=sizeLine/\∀ q,H4 q=none->Q (.ref q) (upd H4 q (.lst (qg xs l u c')))
section
variable {X:Cx} {e:Expr} {te:TE} {lo hi:Option Expr} {st:Expr} {tl th ts:TO} {pos p2:Pos}
theorem Fg {K:W.Frag} (hK:X.K=K) (he:JE X e te) (hl:JO X lo tl) (hu:JO X hi th) (hs:JO X (some st) ts):JE X (.Subscript e (.Slice lo hi (some st) p2) pos) (PQ K te tl th ts):=⟨by
 subst hK
 intro pins s U H Q I h
 refine Subscript_ (d7 (he.run pins s U H _ I h) fun v s1 qq0=>?_)
 obtain ⟨x,H1,I1,r1,q1⟩:=qq0
 refine wpAny_Slice (d7 (hl.run pins s1 U H1 _ I1 q1) fun vl s2 ⟨l,H2,I2,pl,q2⟩=>d7 (hu.run pins s2 U H2 _ I2 q2) fun vu s3 ⟨u,H3,I3,pu,q3⟩=>d7 (hs.run pins s3 U H3 _ I3 q3) fun vc s4 qq0=>?_)
 obtain ⟨c,H4,I4,pc,q4⟩:=qq0
 obtain ⟨a,xs,c',rfl,rfl,hc0,hq,hz,q⟩:=q4
 cases r1
 have I5:Inv X pins U H4 {s4 with heap:=s4.heap.push {cls:=.type "slice",data:=.fields #[vl,vu,vc]}}:=I4.kept (t':=s4.toks) fun b ob q=>Heap.get?_push_of_some _ q
 obtain ⟨its,rv,p,hz2⟩:=I5.list hq
 have hlen:its.toArray.size=xs.length:=by rw [List.size_toArray];exact rv.length.symm
 show wpAny (model X.prog X.w) X.A (subscriptTail e (.Slice lo hi (some st) p2) (.ref a) (.ref s4.heap.objs.size)) (EP X pins U Q) X.xe _
 refine tail_any (T:="list") (ops:=[.ref a,.ref s4.heap.objs.size]) p.isList.typeIs list_getitem_lookup ?_ (by with_unfolding_all rfl)
 refine wpAny_getItem_list_slice p.isList (Heap.IsSliceOf.new ..) pl pu pc (fun z=>hc0 (Option.some.inj z)) ?_ (by rw [hlen];exact hz2)
 refine ⟨.ref _,_,I5.laid (t':=s4.toks) (o:=.lst (qg xs l u c')) (fun b ob q=>Heap.get?_push_of_some _ q) (Nat.le_refl _) ?_,rfl,q _ (I5.hok.fresh (Nat.le_refl _))⟩
 have e1:slicePick its.toArray l u (some c')=((sliceRange (sliceBounds l u (some c') xs.length).1 (sliceBounds l u (some c') xs.length).2.1 (sliceBounds l u (some c') xs.length).2.2).filterMap (its[·]?)).toArray:=by
  unfold slicePick
  rw [hlen]
  simp
 rw [e1]
 exact ⟨hz,_,0,rv.places _,Heap.get?_push_size _ rfl⟩⟩
end
theorem sG {K:W.Frag} {U:St} {H:Hp} {Q:VK} {te:TE} {tl th ts:TO} (h:te U H fun x H1=>tl U H1 fun l H2=>th U H2 fun u H3=>ts U H3 fun c H4=>∃ a xs c',x= .ref a/\c=some c'/\c'≠0/\SqL K H4 a xs/\(qg xs l u c').length<=sizeLine/\∀ q,H4 q=none->Q (.ref q) (upd H4 q (.lst (qg xs l u c')))):PQ K te tl th ts U H Q:=h
theorem zH (xs:List V):qg xs none none (-1)=xs.reverse:=by
 have e:∀ n:Nat,sliceRange (sliceBounds none none (some (-1)) n).1 (sliceBounds none none (some (-1)) n).2.1 (sliceBounds none none (some (-1)) n).2.2=(List.range n).map fun k=>n - 1 - k:=fun n=>by
  show sliceRange ((n:Int) - 1) (-1) (-1)=_
  unfold sliceRange
  rw [if_neg (by decide)]
  have ec:(if (n:Int) - 1 > -1 then ((n:Int) - 1 - -1 - -1 - 1) / (- -1) else 0).toNat=n:=by
   by_cases h:(n:Int) - 1 > -1
   ·rw [if_pos h]
    have:((n:Int) - 1 - -1 - -1 - 1) / (- -1)=n:=by
     rw [show (- -1:Int)=1 from rfl,Int.ediv_one];omega
    rw [this];simp
   ·rw [if_neg h]
    show 0=n
    omega
  show List.map _ (List.range (if (n:Int) - 1 > -1 then ((n:Int) - 1 - -1 - -1 - 1) / (- -1) else 0).toNat)=_
  rw [ec]
  refine List.map_congr_left fun k hk=>?_
  have:=List.mem_range.mp hk
  omega
 unfold qg
 rw [e,List.filterMap_map]
 have e2:((List.range xs.length).filterMap ((fun x=>xs[x]?) ∘ fun k=>xs.length - 1 - k))=(List.range xs.length).filterMap (fun k=>xs.reverse[k]?):=by
  have gen:∀ (l:List Nat) (f g:Nat->Option V),(∀ k∈l,f k=g k)->l.filterMap f=l.filterMap g:=fun l f g h=>by
   induction l with
   | nil=>rfl
   | cons a l ih=>rw [List.filterMap_cons,List.filterMap_cons,h a (by simp),ih fun k hk=>h k (by simp [hk])]
  refine gen _ _ _ fun k hk=>?_
  have:=List.mem_range.mp hk
  show xs[xs.length - 1 - k]?=xs.reverse[k]?
  rw [List.getElem?_reverse (by omega)]
 rw [e2]
 have key:∀ ys:List V,(List.range ys.length).filterMap (fun k=>ys[k]?)=ys:=fun ys=>by
  induction ys with
  | nil=>rfl
  | cons y ys ih=>
   rw [List.length_cons,List.range_succ_eq_map,List.filterMap_cons,List.filterMap_map]
   exact congrArg (y :: ·) ih
 have k2:=key xs.reverse
 rw [List.length_reverse] at k2
 exact k2
end L2
namespace L2
open PySem PySem.Spec PyProof.Rows
open PySem.Sem (wp)
open PySem.AutoSeq1 (wpAny_loadPart')
end L2
namespace L2
open PySem PySem.Spec PyProof.Rows
theorem Inv.nosys {X:Cx} {pins:List (Addr×Obj)} {U:St} {H:Hp} {s:Shared} (I:Inv X pins U H s):H sysModules=none:=
 let ⟨_,o,_,_,e,_⟩:=I.mod.sysm
 (I.bs _ o e).2
def Fi:V->Option PyData
 | .non=>some .none
 | .bl b=>some (.bool b)
 | .int n=>some (.int n)
 | .str z=>some (.str z)
 | _=>none
def Sv:Key->PyData
 | .inl i=>.int i
 | .inr x=>.str x
mutual
def RD (H:Hp):PyData->V->Prop
 | .none,v=>v= .non
 | .bool b,v=>v= .bl b
 | .int n,v=>v= .int n
 | .str z,v=>v= .str z
 | .list ds,v=>∃ a vs,v= .ref a/\H a=some (.lst vs)/\RDs H ds vs
 | .tuple ds,v=>∃ a vs,v= .ref a/\H a=some (.tup vs)/\RDs H ds vs
 | .dict kvs,v=>∃ a ks,v= .ref a/\H a=some (.dK ks)/\ks.map (fun p=>(Sv p.1,Fi p.2))=kvs.map (fun q=>(q.1,some q.2))
def RDs (H:Hp):List PyData->List V->Prop
 | [],vs=>vs=[]
 | d :: ds,vs=>∃ v r,vs=v :: r/\RD H d v/\RDs H ds r
end
mutual
theorem RD.same {H H':Hp} (s:Same H H'):∀ (d:PyData) (v:V),RD H d v->RD H' d v
 | .none,_,h=>by rw [RD] at h ⊢;exact h
 | .bool _,_,h=>by rw [RD] at h ⊢;exact h
 | .int _,_,h=>by rw [RD] at h ⊢;exact h
 | .str _,_,h=>by rw [RD] at h ⊢;exact h
 | .list ds,v,h=>by rw [RD] at h ⊢;obtain ⟨a,vs,e,q,r⟩:=h;exact ⟨a,vs,e,s _ _ q,RDs.same s ds vs r⟩
 | .tuple ds,v,h=>by rw [RD] at h ⊢;obtain ⟨a,vs,e,q,r⟩:=h;exact ⟨a,vs,e,s _ _ q,RDs.same s ds vs r⟩
 | .dict _,_,h=>by rw [RD] at h ⊢;obtain ⟨a,vs,e,q,r⟩:=h;exact ⟨a,vs,e,s _ _ q,r⟩
theorem RDs.same {H H':Hp} (s:Same H H'):∀ (ds:List PyData) (vs:List V),RDs H ds vs->RDs H' ds vs
 | [],_,h=>by rw [RDs] at h ⊢;exact h
 | d :: ds,vs,h=>by rw [RDs] at h ⊢;obtain ⟨v,r,e,q,t⟩:=h;exact ⟨v,r,e,RD.same s d v q,RDs.same s ds r t⟩
end
theorem sH {H:Hp} {n:Int} {v:V}:RD H (.int n) v↔v= .int n:=by rw [RD]
theorem Jw {H:Hp} {n:Str} {v:V}:RD H (.str n) v↔v= .str n:=by rw [RD]
theorem Df {H:Hp} {n:Bool} {v:V}:RD H (.bool n) v↔v= .bl n:=by rw [RD]
theorem uL {H:Hp} {v:V}:RD H .none v↔v= .non:=by rw [RD]
theorem aO {H:Hp} {ds:List PyData} {v:V}:RD H (.list ds) v↔∃ a vs,v= .ref a/\H a=some (.lst vs)/\RDs H ds vs:=by rw [RD]
theorem cJ {H:Hp} {ds:List PyData} {v:V}:RD H (.tuple ds) v↔∃ a vs,v= .ref a/\H a=some (.tup vs)/\RDs H ds vs:=by rw [RD]
theorem Nh {H:Hp} {kvs:List (PyData×PyData)} {v:V}:RD H (.dict kvs) v↔∃ a ks,v= .ref a/\H a=some (.dK ks)/\ks.map (fun p=>(Sv p.1,Fi p.2))=kvs.map (fun q=>(q.1,some q.2)):=by rw [RD]
theorem aU {H:Hp} {vs:List V}:RDs H [] vs↔vs=[]:=by rw [RDs]
theorem cZ {H:Hp} {d:PyData} {ds:List PyData} {vs:List V}:RDs H (d :: ds) vs↔∃ v r,vs=v :: r/\RD H d v/\RDs H ds r:=by rw [RDs]
theorem bF {H:Hp} {d:PyData} {v:V} {ds:List PyData} {vs:List V} (h:RD H d v) (t:RDs H ds vs):RDs H (d :: ds) (v :: vs):=cZ.mpr ⟨v,vs,rfl,h,t⟩
theorem Fj {h:Heap} {v:V} {d:PyData} {u:Value} (e:Fi v=some d) (r:RelV v u):Reads h u d []:=by
 cases v <;> simp only [Fi,Option.some.injEq,reduceCtorEq] at e
 ·subst e;cases r;exact .none
 ·subst e;cases r;exact .bool _
 ·subst e;obtain ⟨t,rfl⟩:=r;exact .int _ _
 ·subst e;obtain ⟨t,rfl⟩:=r;exact .str _ _
theorem tY {P:Program} {w:World} {h:Heap}:∀ {es:List DictEntry} {vs:List (Key×Value)} {ks:List (Key×V)} {kvs:List (PyData×PyData)},Pairs (cF P w) es vs->KV ks vs->
  ks.map (fun p=>(Sv p.1,Fi p.2))=kvs.map (fun q=>(q.1,some q.2))->ReadsAll h (es.map (·.key)) (kvs.map (·.1)) []/\ReadsAll h (es.map (·.val)) (kvs.map (·.2)) []
 | _,_,_,kvs,.nil,r,e=>by
  cases r
  cases kvs with
  | nil=>exact ⟨.nil,.nil⟩
  | cons _ _=>simp at e
 | _,_,_,kvs,.cons (e:=en) (kv:=kv) h1 h2 t,r,e=>by
  cases r with
  | cons a b=>
   rename_i p ks'
   cases kvs with
   | nil=>simp at e
   | cons q kvs=>
    simp only [List.map_cons,List.cons.injEq,Prod.mk.injEq] at e
    obtain ⟨⟨e1,e2⟩,e3⟩:=e
    obtain ⟨i1,i2⟩:=tY t b e3
    obtain ⟨a1,a2⟩:=a
    have k1:Reads h en.key q.1 []:=by
     rcases cW h1 with ⟨i,t',ek,ev⟩ | ⟨x,t',ek,ev⟩
     ·rw [ev,← e1,a1,ek];exact .int _ _
     ·rw [ev,← e1,a1,ek];exact .str _ _
    have k2:Reads h en.val q.2 []:=by rw [h2];exact Fj e2 a2
    exact ⟨.cons (as:=[]) (bs:=[]) k1 i1,.cons (as:=[]) (bs:=[]) k2 i2⟩
mutual
theorem RD.reads {P:Program} {w:World} {H:Hp} {h:Heap} (ok:HOk P w H h):∀ (d:PyData) (v:V) (u:Value),RD H d v->RelV v u->∃ as,Reads h u d as/\∀ b∈as,∃ o,H b=some o
 | .none,_,u,q,r=>by rw [RD] at q;subst q;cases r;exact ⟨_,.none,by simp⟩
 | .bool b,_,u,q,r=>by rw [RD] at q;subst q;cases r;exact ⟨_,.bool _,by simp⟩
 | .int n,_,u,q,r=>by rw [RD] at q;subst q;obtain ⟨t,rfl⟩:=r;exact ⟨_,.int _ _,by simp⟩
 | .str n,_,u,q,r=>by rw [RD] at q;subst q;obtain ⟨t,rfl⟩:=r;exact ⟨_,.str _ _,by simp⟩
 | .list ds,v,u,q,r=>by
  rw [RD] at q
  obtain ⟨a,vs,rfl,e,t⟩:=q
  cases r
  obtain ⟨_,its,n,rv,g⟩:=ok a _ e
  obtain ⟨as,ra,ha⟩:=RDs.reads ok ds vs its t rv
  refine ⟨_,.list g rfl rfl (by simpa using ra),fun b hb=>?_⟩
  rcases List.mem_cons.mp hb with rfl | hb
  ·exact ⟨_,e⟩
  ·exact ha b hb
 | .tuple ds,v,u,q,r=>by
  rw [RD] at q
  obtain ⟨a,vs,rfl,e,t⟩:=q
  cases r
  obtain ⟨_,its,rv,g⟩:=ok a _ e
  obtain ⟨as,ra,ha⟩:=RDs.reads ok ds vs its t rv
  obtain ⟨o,ho,hc,n,hd⟩:=g
  exact ⟨_,.tuple ho hc hd (by simpa using ra),ha⟩
 | .dict kvs,v,u,q,r=>by
  rw [RD] at q
  obtain ⟨a,ks,rfl,e,t⟩:=q
  cases r
  obtain ⟨_,_,vs,kv,o,es,ep,ho,xd,hd,_,prs,_⟩:=ok a _ e
  obtain ⟨i1,i2⟩:=tY (h:=h) prs kv t
  refine ⟨_,.dict ho xd.1 hd i1 i2,fun b hb=>?_⟩
  simp only [List.append_nil,List.mem_singleton] at hb
  subst hb
  exact ⟨_,e⟩
theorem RDs.reads {P:Program} {w:World} {H:Hp} {h:Heap} (ok:HOk P w H h):∀ (ds:List PyData) (vs:List V) (us:List Value),RDs H ds vs->Vals vs us->∃ as,ReadsAll h us ds as/\∀ b∈as,∃ o,H b=some o
 | [],_,us,q,r=>by rw [RDs] at q;subst q;cases r;exact ⟨_,.nil,by simp⟩
 | d :: ds,_,us,q,r=>by
  rw [RDs] at q
  obtain ⟨v,r',rfl,q1,q2⟩:=q
  cases r with
  | cons a b=>
   obtain ⟨as,h1,t1⟩:=RD.reads ok d v _ q1 a
   obtain ⟨bs,h2,t2⟩:=RDs.reads ok ds r' _ q2 b
   exact ⟨_,.cons h1 h2,fun b hb=>(List.mem_append.mp hb).elim (t1 b) (t2 b)⟩
end
def Jx:List V->Hp->VK->Prop:=fun xs H Q=>∃ (x:V) (d:PyData),xs=[x]/\RD H d x/\d.showable=true/\d.depth<=60/\d.shown.length<=sizeLine/\Q (.str d.shown) H
theorem vD {X:Cx} (hg:X.A.guards=some []) (hu:X.A.units+64 < cLine):CallR X (.builtin "repr") Jx:=by
 intro pins s U H xs us Q I r h
 obtain ⟨x,d,rfl,hd,hs,hdp,hz,q⟩:=h
 obtain ⟨u,rfl,ru⟩:=vals1 r
 obtain ⟨as,rd,ha⟩:=RD.reads I.hok d x u hd ru
 have nsy:d.hasDict=true->sysModules ∉ as:=fun _ hm=>by
  obtain ⟨o,e⟩:=ha _ hm
  rw [I.nosys] at e;cases e
 have key:∀ (a:Addr),u= .ref a->wpAny (model X.prog X.w) X.A (call (.builtin "repr") [u]) (EP X pins U Q) X.xe s:=fun a e=>by
  subst e
  refine repr_of_reads' rd hs nsy hg (by omega) (fun _ _ e=>e) (fun h' u tk hk=>?_) hz
  exact ⟨.str d.shown,H,I.kept (t':=tk) hk,⟨u,rfl⟩,q⟩
 cases rd with
 | none=>
  simp only [PyData.shown] at q
  exact P.repr_of_none ⟨.str _,H,I.tok _,⟨_,rfl⟩,q⟩
 | bool b=>
  simp only [PyData.shown] at q
  exact P.repr_of_bool ⟨.str _,H,I.tok _,⟨_,rfl⟩,q⟩
 | int i t=>
  simp only [PyData.shown] at q
  exact P.repr_of_int (by simpa [PyData.showable] using hs) ⟨.str _,H,I.tok _,⟨_,rfl⟩,q⟩
 | str z t=>
  simp only [PyData.shown] at q hz
  exact P.repr_of_str ⟨.str _,H,I.tok _,⟨_,rfl⟩,q⟩ hz
 | list h1 h2 h3 h4=>exact key _ rfl
 | tuple h1 h2 h3 h4=>exact key _ rfl
 | dict h1 h2 h3 h4 h5=>exact key _ rfl
theorem Dg {H:Hp} {Q:VK} {x:V} {d:PyData} (hd:RD H d x) (hs:d.showable=true) (hp:d.depth<=60) (hz:d.shown.length<=sizeLine) (h:Q (.str d.shown) H):Jx [x] H Q:=⟨x,d,rfl,hd,hs,hp,hz,h⟩
structure Sml (d:PyData):Prop where
 sh:d.showable=true
 dp:d.depth<=58
 lv:d.leavesShort 60=true
 bk:d.bulk<=10000
end L2
namespace L2
open PySem PySem.Spec PyProof.Rows
open PySem.Sem (wp)
theorem wA {prog:Program} {w:World} {d:Addr} (hd:(d == sysModules)=false):
  MeetsIn prog w (Builtin.«dict.__len__» ⟨[.ref d],[]⟩) (fun _ R s=>∃ o es ep,s.heap.get? d=some o/\o.data= .dict es ep/\R (.ok (.ret (.int es.size s.toks))) {s with toks:=s.toks+1}):=
 .of_wp fun A R s ⟨o,es,ep,ho,hdat,h⟩=>by
  show wpAny _ _ (dictSize d >>=_) _ _ s
  unfold dictSize
  refine wpAny_bind (wpAny_bind (wpAny_dictEntries ho hdat (wpAny_pure ?_)))
  show wpAny _ _ (Builtin.Dict.pendingCount d >>=_) _ _ s
  refine wpAny_bind (wpAny_pendingCount_other hd ?_)
  refine wpAny_ret_mkInt ?_
  rw [Nat.add_zero];exact h
theorem yf {prog:Program} {w:World} {A:Around} {E:Value->Shared->Prop} {s:Shared} {d:Addr} {o:Obj} {es:Array DictEntry} {ep:Nat} {Q:Value->Shared->Prop} (hd:(d == sysModules)=false)
  (ho:s.heap.get? d=some o) (hc:o.cls= .type "dict") (hdat:o.data= .dict es ep) (hfit:(es.size:Int) < 2 ^ 63)
  (h:Q (.int es.size (s.toks+1)) {s with toks:=s.toks+1+1}):wpAny (model prog w) A (call (.builtin "len") [.ref d]) Q E s:=by
 have ht:s.TypeIs (.ref d) "dict":=⟨o,ho,hc⟩
 refine Calls.call_function_entry kind_len plain_len entry_len (args_len1 _) ?_
 unfold Builtin.«len»
 refine wpAny_bind (m:=oneArg "len" _) (wpAny_pure ?_)
 refine wpAny_bind (m:=callSpecial? (.ref d) (Str.ofString "__len__")) (wpAny_callSpecial?_slot (name:=Str.ofString "__len__") ht F.slot_dict_len
  (call_meetsIn F.slot_dict_len ht F.entry_dict_len (F.args_dict_len_1 _) (wA hd) ⟨o,es,ep,ho,hdat,?_⟩))
 show wpAny _ _ _ _ _ {s with toks:=s.toks+1}
 refine wpAny_bind (wpAny_holding (wpAny_pure ?_))
 refine wpAny_bind (wpAny_letGo ?_)
 show wpAny _ _ (if ((es.size:Nat):Int) < 0 then _ else _) _ _ _
 rw [if_neg (by omega)]
 show wpAny _ _ (if ((es.size:Nat):Int)>=2 ^ 63 then _ else _) _ _ _
 rw [if_neg (by omega)]
 exact wpAny_bind (wpAny_mkInt (wpAny_pure ⟨_,rfl,h⟩))
def PX:List V->Hp->VK->Prop:=fun xs H Q=>∃ a kvs,xs=[.ref a]/\H a=some (.dT kvs)/\Q (.int kvs.length) H
theorem Fl {X:Cx}:CallR X (.builtin "len") PX:=by
 intro pins s U H xs us Q I r h
 obtain ⟨a,kvs,rfl,ha,q⟩:=h
 obtain ⟨u,rfl,ru⟩:=vals1 r
 cases ru
 obtain ⟨z,hS,xs,rel,o,es,ep,ho,xd,hd,he,_⟩:=I.hok a _ ha
 have e1:es.size=kvs.length:=by
  have a1:=congrArg List.length he
  simp at a1
  rw [a1];exact (Paired.length rel).symm
 refine yf hS ho xd.1 hd (by rw [e1];rw [sizeLine_eq] at z;omega) ?_
 rw [e1]
 exact ⟨.int kvs.length,H,I.tok _,⟨_,rfl⟩,q⟩
section
variable {X:Cx} {pos:Pos} {U:St} {H:Hp} {Q:VK} {K:W.Frag}
theorem Ni:JE X (.Dict [] [] pos) Be:=⟨HQ⟩
theorem jq (h:∀ p,H p=none->Q (.ref p) (upd H p (.dT []))):Be U H Q:=h
theorem Nj {a:Addr} {kvs:List (List Key×V)} (ha:H a=some (.dT kvs)) (h:Q (.int kvs.length) H):PX [.ref a] H Q:=⟨a,kvs,rfl,ha,h⟩
theorem WQ {a b:Addr} {kvs:List (List Key×V)} {k:List Key} (ha:H a=some (.dT kvs)) (hb:H b=some (.tup (k.map kV))) (h:Q (.bl (pM kvs k).isSome) H):Su K (.ref b) (.ref a) H Q:=.inr ⟨a,_,rfl,DGet.t ha hb,h⟩
theorem Sw {a b:Addr} {kvs:List (List Key×V)} {k:List Key} {v:V} {R:Hp->Prop} (ha:H a=some (.dT kvs)) (hb:H b=some (.tup (k.map kV))) (hl:kvs.length < sizeLine) (h:R (upd H a (.dT (putK kvs k v)))):qW (.ref a) (.ref b) v H R:=
 .inr ⟨a,_,rfl,DPut.t ha hb hl,h⟩
end
end L2
namespace L2
open PySem PySem.Spec PyProof.Rows
structure P0 (k:Nat) (A:Around):Prop where
 dp:A.depth+3*k+5 < recursionLimit
 un:A.units+16*k+200 < cLine
 gd:A.guards=some []
structure FnU (P:Program) (w:World) (K:W.Frag) (mg:Str->Option Value) (base:Heap) (k:Nat) (f:Addr) (fd:FuncData) (ps:List Str) (sp:Sp):Prop where
 len:∀ vs H Q E,sp vs H Q E->vs.length=ps.length
 run:∀ (A:Around) (outer:List Env) (s:Shared) (H:Hp) (args:Args) (us:List Value) (vs:List V) (Q:VK) (E:XK),P0 k A->Env0 P w K mg base A outer s H->BindsTo s fd args (ps.zip us)->Vals vs us->sp vs H Q E->
  codeAny (model P w) A (.call (.ref f) args) (CR Bc outer P w H s Q E) s
structure X0 (K:W.Frag) (mg:Str->Option Value) (x:Str):Prop where
 c:R0 K mg x
 ini:PySem.W.findIn K (.ref (iz mg x)) "__init__"=some (some (.builtin "ValueError.__init__"))
 kp:PySem.W.keepIn K (.ref (iz mg x))=true
end L2
namespace L2
open PySem PySem.Spec PyProof.Rows
open PySem.Sem (wp)
structure Sx (z TI TO i1 i2:Addr) (fp1 fp2:List Addr):Prop where
 TIz:TI≠z
 TOz:TO≠z
 i1z:i1≠z
 i2z:i2≠z
 TITO:TI≠TO
 TIi1:TI≠i1
 TIi2:TI≠i2
 TOi1:TO≠i1
 TOi2:TO≠i2
 i12:i1≠i2
 f1:∀ b∈fp1,b≠z/\b≠TO/\b≠i2
 f2:∀ b∈fp2,b≠z/\b≠TO/\b≠i1
end L2
namespace L2
open PySem PySem.Spec PyProof.Rows
open PySem.Sem (wp)
open AutoSeq1 (wpAny_loadPart')
theorem Sy:isSubtype (.type "dict") (.type "list")=pure false:=by rw [isSubtype_type];kernel_rfl
theorem Jy:isSubtype (.type "list") (.type "dict")=pure false:=by rw [isSubtype_type];kernel_rfl
theorem Bu {prog:Program} {w:World} {A:Around} {E:Value->Shared->Prop} {s:Shared} {Q:Value->Shared->Prop} {a:Addr} {o:Obj} {ep:Nat} (ho:s.heap.get? a=some o) (hc:o.cls= .type "dict") (hd:o.data= .dict #[] ep)
  (hsm:(a == sysModules)=false) (hu:A.units < cLine) (h:Q (.bool true) s):wpAny (model prog w) A (compareOp .Eq (.ref a) (.ref a)) Q E s:=by
 show wpAny _ _ (richCompare .Eq (.ref a) (.ref a)) _ _ _
 refine wpAny_richCompare_same_room ⟨o,ho,hc⟩ ⟨o,ho,hc⟩ F.slot_dict_eq (wpAny_call (codeAny_call_builtin F.slot_dict_eq.plain F.entry_dict_eq (F.slot_dict_eq.check _ _ _ _ _ _ _ _ ⟨o,ho,hc⟩ (F.args_dict_eq_2 _ _) ?_))) hu
 have f2:=yd
 obtain ⟨hp,g,d,tk,os⟩:=s
 have hT:(⟨hp,g,d,tk,os⟩:Shared).TypeIs (.ref a) "dict":=⟨_,ho,hc⟩
 unfold Builtin.«dict.__eq__»
 wp_walk using wpAny_loadPart' ho
 have en:∀ (Q:Array DictEntry->Shared->Prop) (E:Value->Shared->Prop),Q #[] ⟨hp,g,d,tk,os⟩->wpAny (model prog w) A.in1 (dictEntries a) Q E ⟨hp,g,d,tk,os⟩:=fun Q E q=>by
  unfold dictEntries
  refine wpAny_bind (wpAny_loadPart ho ?_)
  simp only [hd]
  exact wpAny_pure q
 have eo:∀ (Q:Nat->Shared->Prop) (E:Value->Shared->Prop),Q ep ⟨hp,g,d,tk,os⟩->wpAny (model prog w) A.in1 (dictEpoch a) Q E ⟨hp,g,d,tk,os⟩:=fun Q E q=>by
  unfold dictEpoch
  refine wpAny_bind (wpAny_loadPart ho ?_)
  simp only [hd]
  exact wpAny_pure q
 simp only [hd]
 refine wpAny_pure ?_
 refine wpAny_bind (en _ _ ?_)
 rw [if_neg (by simp)]
 refine wpAny_bind (eo _ _ ?_)
 refine wpAny_bind ?_
 rw [Std.Legacy.Range.forIn_eq_forIn_range']
 simp only [Std.Legacy.Range.size,Nat.sub_zero,Nat.add_sub_cancel,Nat.div_one]
 show wpAny _ _ (forIn [] _ _) _ _ _
 rw [List.forIn_nil]
 refine wpAny_pure (wpAny_pure ?_)
 exact wpAny_pure ⟨(fun z=>nomatch z),h⟩
theorem nM (l b:Addr) (items:Array DictEntry) (ep:Nat) (items2:Array Value) (n2:Nat) (dd dd2:Option Addr) (sl sl2:Array (Option Value)):
  Meets (Builtin.«dict.__eq__» ⟨[.ref l,.ref b],[]⟩) (fun _ R s=>s.heap.get? l=some {cls:=.type "dict",dict:=dd,data:=.dict items ep,slots:=sl}/\s.heap.get? b=some {cls:=.type "list",dict:=dd2,data:=.seq items2 n2,slots:=sl2}/\R (.ok (.ret .notImplemented)) s):=
 .of_wp fun prog w A R s h=>by obtain ⟨hp,g,d,tk,os⟩:=s;obtain ⟨hl,hb,h⟩:=h;have f1:=Jy;wp_walk using wpAny_loadPart' hl,wpAny_loadPart' hb;exact ⟨_,rfl,h⟩
theorem nO (l b:Addr) (items:Array DictEntry) (ep:Nat) (items2:Array Value) (n2:Nat) (dd dd2:Option Addr) (sl sl2:Array (Option Value)):
  Meets (Builtin.«list.__eq__» ⟨[.ref b,.ref l],[]⟩) (fun _ R s=>s.heap.get? b=some {cls:=.type "list",dict:=dd2,data:=.seq items2 n2,slots:=sl2}/\s.heap.get? l=some {cls:=.type "dict",dict:=dd,data:=.dict items ep,slots:=sl}/\R (.ok (.ret .notImplemented)) s):=
 .of_wp fun prog w A R s h=>by obtain ⟨hp,g,d,tk,os⟩:=s;obtain ⟨hb,hl,h⟩:=h;have f1:=Sy;wp_walk using wpAny_loadPart' hb,wpAny_loadPart' hl;exact ⟨_,rfl,h⟩
theorem dict_list {prog:Program} {w:World} {A:Around} {E:Value->Shared->Prop} {s:Shared} {Q:Value->Shared->Prop} {a b:Addr} {o:Obj} {items:Array DictEntry} {ep:Nat} {ys:Array Value} (ho:s.heap.get? a=some o) (hc:o.cls= .type "dict") (hd:o.data= .dict items ep)
  (hl:s.heap.IsList b ys) (hu:A.units < cLine) (h:Q (.bool false) s):wpAny (model prog w) A (compareOp .Eq (.ref a) (.ref b)) Q E s:=by
 show wpAny _ _ (richCompare .Eq (.ref a) (.ref b)) _ _ _
 obtain ⟨cls,dd,data,sl⟩:=o
 obtain ⟨⟨cls2,dd2,data2,sl2⟩,ho2,hc2,n2,hd2⟩:=id hl
 simp only at hc hd hc2 hd2
 subst hc hd hc2 hd2
 have hne:a≠b:=fun z=>by subst z;rw [ho] at ho2;exact absurd (congrArg Obj.cls (Option.some.inj ho2)) (by simp)
 exact (SeqAt.rc_eq_decline_or (k:=false) ⟨_,ho,rfl⟩ ⟨_,ho2,rfl⟩ (by decide) Jy F.slot_dict_eq F.slot_list_eq_refl
  (fun _ hq=>PySem.call_meets F.slot_dict_eq ⟨_,ho,rfl⟩ F.entry_dict_eq (F.args_dict_eq_2 _ _) (nM a b items ep ys n2 dd dd2 sl sl2) ⟨ho,ho2,hq⟩)
  (fun _ hq=>PySem.call_meets F.slot_list_eq_refl ⟨_,ho2,rfl⟩ F.entry_list_eq (F.args_list_eq_2 _ _) (nO a b items ep ys n2 dd dd2 sl sl2) ⟨ho2,ho,hq⟩)
  (fun _ hq=>SeqAt.wpAny_isSame_ref_other' hne ho ho2 (by simp) hq) (.inr hu) h)
section
variable {X:Cx}
def Qa (K:W.Frag):R2:=fun x y H Q=>(∃ a,x= .ref a/\y= .ref a/\H a=some (.dK [])/\Q (.bl true) H)\/∃ a b ys,x= .ref a/\y= .ref b/\H a=some (.dK [])/\SqL K H b ys/\Q (.bl false) H
theorem Nk (hu:X.A.units < cLine):OpR X (compareOp .Eq) (Qa X.K):=by
 intro pins s U H x y v u Q I rx ry h
 rcases h with ⟨a,rfl,rfl,ha,q⟩ | ⟨a,b,ys,rfl,rfl,ha,hb,q⟩
 ·cases rx
  cases ry
  obtain ⟨_,hsm,vs,kv,o,es,ep,h1,h2,h3,h4,h5,h6⟩:=(show ObjOk X.prog X.w H s.heap a (.dK []) from I.hok a _ ha)
  cases kv
  obtain ⟨l⟩:=es
  dsimp only at h5
  cases h5
  exact Bu h1 h2.1 h3 hsm hu ⟨.bl true,H,I,rfl,q⟩
 ·cases rx
  cases ry
  obtain ⟨_,hsm,vs,kv,o,es,ep,h1,h2,h3,h4,h5,h6⟩:=(show ObjOk X.prog X.w H s.heap a (.dK []) from I.hok a _ ha)
  obtain ⟨its,rv,p1,_⟩:=I.list hb
  exact dict_list h1 h2.1 h3 p1.isList hu ⟨.bl false,H,I,rfl,q⟩
end
end L2
namespace L2
open PySem PySem.W PySem.Spec PyProof.Rows
section
variable {prog:Program} {w:World} {A:Around} {E:Value->Shared->Prop} {s:Shared}
def WR (a:Addr) (h h':Heap):Prop:=∀ b o,b≠a->h.get? b=some o->h'.get? b=some o
theorem Fo {h:Heap} {a:Addr} {f:Obj->Obj} {x y:Obj}:WR a h (((h.update a f).push x).push y):=fun b o nb e=>by
 have e1:(h.update a f).get? b=some o:=by rw [Heap.get?_update_ne _ _ _ _ nb];exact e
 exact Heap.get?_push_of_some _ (Heap.get?_push_of_some _ e1)
theorem Dh (vs:List Value):(vs.toArray.zip vs.toArray).map (·.2)=vs.toArray:=by
 apply Array.toList_inj.mp
 simp only [Array.toList_map,Array.toList_zip]
 exact List.map_snd_zip (Nat.le_refl _)
end
theorem Jz:∀ a:List Int,HT.lexLt a a=false
 | []=>rfl
 | x :: xs=>by rw [HT.lexLt_cons,if_pos rfl];exact Jz xs
theorem qY:∀ {a b c:List Int},HT.lexLt a b=true->HT.lexLt b c=true->HT.lexLt a c=true
 | [],[],_,h,_=>by cases h
 | [],_ :: _,[],_,h=>by cases h
 | [],_ :: _,_ :: _,_,_=>rfl
 | _ :: _,[],_,h,_=>by cases h
 | _ :: _,_ :: _,[],_,h=>by cases h
 | x :: xs,y :: ys,z :: zs,h1,h2=>by
  rw [HT.lexLt_cons] at h1 h2 ⊢
  by_cases e1:x=y
  ·rw [if_pos e1] at h1
   by_cases e2:y=z
   ·rw [if_pos e2] at h2
    rw [if_pos (by omega)];exact qY h1 h2
   ·rw [if_neg e2] at h2
    rw [if_neg (by omega),e1];exact h2
  ·rw [if_neg e1] at h1
   have h1':=of_decide_eq_true h1
   by_cases e2:y=z
   ·rw [if_neg (by omega)];exact decide_eq_true (by omega)
   ·rw [if_neg e2] at h2
    have h2':=of_decide_eq_true h2
    rw [if_neg (by omega)];exact decide_eq_true (by omega)
theorem zJ:∀ {a b:List Int},HT.lexLt a b=false->HT.lexLt b a=false->a=b
 | [],[],_,_=>rfl
 | [],_ :: _,h,_=>by cases h
 | _ :: _,[],_,h=>by cases h
 | x :: xs,y :: ys,h1,h2=>by
  rw [HT.lexLt_cons] at h1 h2
  by_cases e:x=y
  ·rw [if_pos e] at h1
   rw [if_pos e.symm] at h2
   rw [e,zJ h1 h2]
  ·rw [if_neg e] at h1
   rw [if_neg (fun z=>e z.symm)] at h2
   have h1':=of_decide_eq_false h1
   have h2':=of_decide_eq_false h2
   omega
section
variable {prog:Program} {w:World} {A:Around} {E:Value->Shared->Prop} {s:Shared}
theorem SQ {b fin:Bool} {Q:Bool->Shared->Prop}:∀ (n:Nat) {vs us:List Value} {ns ms:List Int},IntsAre vs ns->IntsAre us ms->fin=decide (ns.length < ms.length)->Q (HT.lexLt ns ms) s->KatLex prog w A b fin Q (vs.zip us) n s:=by
 intro n vs us ns ms h1
 induction h1 generalizing n us ms with
 | nil=>
  intro h2 hf q
  cases h2 with
  | nil=>rw [hf];exact q
  | cons y t h2=>rw [hf];exact q
 | cons x t h1 ih=>
  intro h2 hf q
  cases h2 with
  | nil=>rw [hf];exact q
  | cons y u h2=>
   rw [List.zip_cons_cons]
   refine kat_cons (wpAny_eqBool_int ?_)
   rw [HT.lexLt_cons] at q
   by_cases e:x=y
   ·rw [if_pos e] at q
    rw [show (x == y)=true by rw [e];exact beq_self_eq_true y]
    refine kat_yes (ih (n+1) h2 ?_ q)
    rw [hf]
    simp
   ·rw [if_neg e] at q
    rw [show (x == y)=false by simpa using e]
    refine kat_no ?_
    cases hb:(b && n == 0) with
    | true=>exact oneLt_int q
    | false=>exact kat_one _ _ (lt_int q)
theorem WT {Q:Bool->Shared->Prop} {x y:Addr} {vs us:List Value} {ns ms:List Int} (hx:IsTup s.heap x vs.toArray) (hy:IsTup s.heap y us.toArray) (h1:IntsAre vs ns) (h2:IntsAre us ms) (q:Q (HT.lexLt ns ms) s):
  wpAny (model prog w) A (keyLt' (tuples' true) (.ref x) (.ref y)) Q E s:=by
 obtain ⟨ox,gx,_,n1,dx⟩:=hx
 obtain ⟨oy,gy,_,n2,dy⟩:=hy
 refine kat_lt gx dx gy dy (SQ 0 h1 h2 ?_ q)
 have l1:=h1.length
 have l2:=h2.length
 simp [l1,l2]
theorem Fp {vs:List Value} {ts:List (List Int)} {Q:SortKind->Shared->Prop} (h2:2<=vs.length) (h:∀ i,i < vs.length->∃ a its,vs[i]?=some (.ref a)/\IsTup s.heap a its.toArray/\IntsAre its (ts.getD i [])/\ts.getD i []≠[]) (q:Q (tuples' true) s):
  wpAny (model prog w) A (keyKind' vs.toArray) Q E s:=by
 have key:∀ (l:List Value),(∀ v∈l,∃ a its ns,v= .ref a/\IsTup s.heap a its.toArray/\IntsAre its ns/\ns≠[])->∃ fs:List Value,fs.length=l.length/\KatTups s.heap l fs/\∀ v∈fs,∃ n t,v=Value.int n t:=by
  intro l
  induction l with
  | nil=>exact fun _=>⟨[],rfl,KatTups.nil,fun v hv=>by cases hv⟩
  | cons v l ih=>
   intro hl
   obtain ⟨fs,lf,kf,inf⟩:=ih fun u hu=>hl u (List.mem_cons_of_mem _ hu)
   obtain ⟨a,its,ns,rfl,⟨o,go,co,n,dn⟩,hI,hne⟩:=hl v List.mem_cons_self
   cases hI with
   | nil=>exact absurd rfl hne
   | cons x t hI=>
    refine ⟨.int x t :: fs,by simp [lf],KatTups.cons go co dn (by simp) kf,fun v hv=>?_⟩
    rcases List.mem_cons.mp hv with rfl | hv
    ·exact ⟨x,t,rfl⟩
    ·exact inf v hv
 obtain ⟨fs,lf,kf,inf⟩:=key vs fun v hv=>by
  obtain ⟨i,hi,rfl⟩:=List.mem_iff_getElem.mp hv
  obtain ⟨a,its,e,it,ia,ne⟩:=h i hi
  rw [List.getElem?_eq_getElem hi] at e
  exact ⟨a,its,_,Option.some.inj e,it,ia,ne⟩
 refine kat_kind (T:=.type "int") kf (by omega) (fun v hv=>?_) rfl q
 obtain ⟨n,t,rfl⟩:=inf v hv
 exact Looks.of_pure rfl
end
end L2
namespace L2
open PySem PySem.Spec PyProof.Rows
open PySem.Sem (wp)
end L2
namespace L2
open PySem PySem.Spec PyProof.Rows
open PySem.Sem (wp)
open PySem.AutoSeq1 (wpAny_loadPart')
structure EApart (e z TI TO i1 i2 a b:Addr):Prop where
 Z:Sx z TI TO i1 i2 [i1,a] [i2,b]
 ez:e≠z
 eTI:e≠TI
 eTO:e≠TO
 ei1:e≠i1
 ei2:e≠i2
 a1:a≠i1
 b2:b≠i2
end L2
namespace L2
open PySem PySem.Spec PyProof.Rows
open PySem.Sem (wp)
structure TurnU (P:Program) (w:World) (K:W.Frag) (tg:Expr) (J:It) (fp:List Addr) (it:Addr) (tn:Nat->Heap->Prop) (xh:Addr):Prop where
 mem:it∈fp
 obj:∀ i h,tn i h->∀ b∈fp,∃ o,h.get? b=some o/\∀ v,o.data≠.cell v
 keep:∀ i h h',tn i h->(∀ b∈fp,∀ o,h.get? b=some o->h'.get? b=some o)->tn i h'
 item:∀ (X:Cx),X.prog=P->X.w=w->X.K=K->X.A.handled=some (.ref xh)->∀ (i:Nat) (pins:List (Addr×Obj)) (s:Shared) (U:St) (H:Hp) (E:Value->Shared->Prop),Inv X pins U H s->(∀ b∈fp,lg X pins H b)->tn i s.heap->J.go i H->
  wpAny (model P w) X.A (pyNext (.ref it)) (fun r s1=>∃ u,r=some u/\
   wpAny (model P w) X.A (letOwnedTupleGo tg (.ref it) u) (fun _ s2=>∃ x H',Inv X pins U H' s2/\RelV x u/\J.yld i H x H'/\tn (i+1) s2.heap/\∀ b∈fp,H' b=none) E s1) E s
 done:∀ (X:Cx),X.prog=P->X.w=w->X.K=K->X.A.handled=some (.ref xh)->∀ (i:Nat) (pins:List (Addr×Obj)) (s:Shared) (U:St) (H:Hp) (E:Value->Shared->Prop),Inv X pins U H s->(∀ b∈fp,lg X pins H b)->tn i s.heap->J.stop i H->
  wpAny (model P w) X.A (pyNext (.ref it)) (fun r s1=>r=none/\Inv X pins U H s1) E s
 self:∀ (A:Around) (i:Nat) (s:Shared) (Q:Value->Shared->Prop) (E:Value->Shared->Prop),tn i s.heap->Q (.ref it) s->wpAny (model P w) A (pyIter (.ref it)) Q E s
structure FnV (P:Program) (w:World) (K:W.Frag) (mg:Str->Option Value) (base:Heap) (k:Nat) (f:Addr) (fd:FuncData) (ps:List Str) (sp:Addr->Sp):Prop where
 len:∀ xh vs H Q E,sp xh vs H Q E->vs.length=ps.length
 run:∀ (A:Around) (outer:List Env) (s:Shared) (H:Hp) (args:Args) (us:List Value) (vs:List V) (Q:VK) (E:XK) (xh:Addr),A.handled=some (.ref xh)->P0 k A->Env0 P w K mg base A outer s H->BindsTo s fd args (ps.zip us)->Vals vs us->sp xh vs H Q E->
  codeAny (model P w) A (.call (.ref f) args) (CR Bc outer P w H s Q E) s
end L2
namespace L2
open PySem PySem.Spec PyProof.Rows
def Qc (K:W.Frag):R2:=fun x y H Q=>∃ a b xs,x= .ref a/\y= .ref b/\SqT K H a xs/\SqT K H b xs/\(∀ v∈xs,lw v=true\/∃ r,v= .ref r)/\Q (.bl false) H
section
variable {X:Cx}
theorem Nm (hu:X.A.units < cLine):OpR X (compareOp .NotEq) (Qc X.K):=by
 intro pins s U H x y v u Q I rx ry h
 obtain ⟨a,b,xs,rfl,rfl,ha,hb,fx,q⟩:=h
 cases rx
 cases ry
 obtain ⟨its,r1,p1,z1⟩:=I.tuple ha
 obtain ⟨jts,r2,p2,z2⟩:=I.tuple hb
 have l1:its.toArray.size=xs.length:=by simpa using r1.length.symm
 have l2:jts.toArray.size=xs.length:=by simpa using r2.length.symm
 refine SeqAt.RcNeAt.tuples (e:=fun _=>true) p1 p2 hu (fun j h1 h2=>?_) X.prog X.w _ _ ?_
 ·have hj:j < xs.length:=by omega
  obtain ⟨u1,e1,q1⟩:=r1.get (List.getElem?_eq_getElem hj)
  obtain ⟨u2,e2,q2⟩:=r2.get (List.getElem?_eq_getElem hj)
  have f1:its.toArray[j]=u1:=by
   obtain ⟨_,z⟩:=List.getElem?_eq_some_iff.mp e1
   simpa using z
  have f2:jts.toArray[j]=u2:=by
   obtain ⟨_,z⟩:=List.getElem?_eq_some_iff.mp e2
   simpa using z
  rw [f1,f2]
  rcases fx _ (List.getElem_mem hj) with f | ⟨r,f⟩
  ·rw [← vB f]
   exact uY q1 q2 f f
  ·rw [f] at q1 q2
   cases (show u1=Value.ref r from q1)
   cases (show u2=Value.ref r from q2)
   exact SeqAt.EqAt.same _
 ·have e:(!((List.range (min its.toArray.size jts.toArray.size)).all (fun _=>true) && its.toArray.size == jts.toArray.size))=false:=by rw [l1,l2];simp
  rw [e]
  exact ⟨.bl false,H,I,rfl,q⟩
def Tc (K:W.Frag):R2:=fun x y H Q=>Ng K x y H Q\/Qc K x y H Q
theorem my {K:W.Frag} (hK:X.K=K) (hu:X.A.units+64 < cLine):OpR X (compareOp .NotEq) (Tc K):=by
 subst hK
 exact (Sh rfl hu).or (Nm (Nat.lt_of_le_of_lt (Nat.le_add_right _ _) hu))
end
section
variable {K:W.Frag} {H:Hp} {Q:VK}
theorem sI {i j:Int} (h:Q (.bl (!decide (V.int i=V.int j))) H):Tc K (.int i) (.int j) H Q:=.inl (Sq h)
theorem sJ {i j:Str} (h:Q (.bl (!decide (V.str i=V.str j))) H):Tc K (.str i) (.str j) H Q:=.inl (Ss h)
end
structure OTxt (K:W.Frag) (mg:Str->Option Value) (x:Str):Prop where
 at_:mg x=some (.ref (iz mg x))
 cl:Cls K (iz mg x)
 makes:PySem.W.makesIn K (iz mg x)=true
 kp:PySem.W.keepIn K (.ref (iz mg x))=true
structure MTxt (K:W.Frag) (mg:Str->Option Value) (x m qual:Str) (st:Stmt):Prop where
 ex:∃ f fd,Meth K (iz mg x) m f/\Fun K m qual st f fd
section
variable {U:St} {H:Hp} {Q:VK}
def Np (o:HO) (n:Nat) (H:Hp) (Q:VK):Prop:=n<=sizeLine/\∀ p,H p=none->Q (.ref p) (upd H p o)
theorem sO {a:TA} (h:a U H fun xs H1=>Np (.lst xs) xs.length H1 Q):Lw a U H Q:=h
theorem sS {a:TA} (h:a U H fun xs H1=>Np (.tup xs) xs.length H1 Q):Ls a U H Q:=h
theorem bh {o:HO} {n:Nat} (c:Nat.ble n 64=true) (h:∀ p H',H p=none->Same H H'->H' p=some o->Q (.ref p) H'):Np o n H Q:=
 ⟨Nat.le_trans (Nat.le_of_ble_eq_true c) (by decide),fun p np=>h p _ np ((Same.refl H).upd np) ao⟩
theorem Bv {o:HO} {n:Nat} (c:Nat.ble n 64=true) (h:∀ p,H p=none->Q (.ref p) (upd H p o)):Np o n H Q:=
 ⟨Nat.le_trans (Nat.le_of_ble_eq_true c) (by decide),h⟩
end
def Kr (rk:Keyed->Int) (xs:Array Keyed) (i:Nat):Int:=match xs[i]? with
 | some p=>rk p
 | none=>0
def Seg (rk:Keyed->Int) (xs:Array Keyed) (lo hi:Nat):Prop:=∀ i j,lo<=i->i<=j->j < hi->Kr rk xs i<=Kr rk xs j
def Fq (rk:Keyed->Int) (xs:Array Keyed) (lo hi:Nat):Prop:=∀ i j,lo<=i->i<=j->j < hi->Kr rk xs j<=Kr rk xs i
structure SB (a₀:Array Keyed) (kd:SortKind) (st:SortSt):Prop where
 perm:(arrOf st).Perm a₀
 kind:kindOf st=kd
 failed:failedOf st=none
def qZ (M:Model) (A:Around) (E:Value->Shared->Prop) (s:Shared) (kd:SortKind) (rk:Keyed->Int) (a₀:Array Keyed):Prop:=
 ∀ (p q:Keyed) (st:SortSt) (Q:Option Bool->SortSt->Prop),p∈a₀.toList->q∈a₀.toList->kindOf st=kd->Q (some (decide (rk p < rk q))) st->wpS M A E s (lt' p q) Q st
section
variable {M:Model} {A:Around} {E:Value->Shared->Prop} {s:Shared} {kd:SortKind} {rk:Keyed->Int} {a₀:Array Keyed}
theorem oJ {xs ys:Array Keyed} {i j:Nat} (h:xs[i]?=ys[j]?):Kr rk xs i=Kr rk ys j:=by unfold Kr;rw [h]
theorem cR {xs:Array Keyed} {i:Nat} {p:Keyed} (h:xs[i]?=some p):Kr rk xs i=rk p:=by unfold Kr;rw [h]
theorem SB.size {st:SortSt} (h:SB a₀ kd st):(arrOf st).size=a₀.size:=h.perm.size_eq
theorem SB.mem {st:SortSt} (h:SB a₀ kd st) {p:Keyed} (hp:p∈(arrOf st).toList):p∈a₀.toList:=(Array.perm_iff_toList_perm.mp h.perm).mem_iff.mp hp
theorem SB.at {st:SortSt} (h:SB a₀ kd st) {i:Nat} (hi:i < a₀.size):∃ p,(arrOf st)[i]?=some p/\p∈a₀.toList:=by
 have hi':i < (arrOf st).size:=by rw [h.size];exact hi
 exact ⟨(arrOf st)[i],getElem?_pos _ i hi',h.mem (by simp)⟩
theorem aQ {U:Type} {xs:Array Keyed} {i:Nat} {p:Keyed} {Q:Keyed->SortSt->Prop} {st:SortSt} (h:xs[i]?=some p) (q:Q p st):wpS M A E s (elem' xs i) Q st:=by
 rw [elem'_eq,h];exact wpS_pure q
theorem q9 {st:SortSt} {i j:Nat} {Q:Option Bool->SortSt->Prop} (L:qZ M A E s kd rk a₀) (hB:SB a₀ kd st) (hi:i < a₀.size) (hj:j < a₀.size)
  (h:Q (some (decide (Kr rk (arrOf st) i < Kr rk (arrOf st) j))) st):wpS M A E s (ltAt' i j) Q st:=by
 obtain ⟨p,e1,m1⟩:=hB.at hi
 obtain ⟨q,e2,m2⟩:=hB.at hj
 rw [ltAt'_eq]
 refine wpS_bind (wpS_get ?_)
 refine wpS_bind (aQ (U:=Unit) e1 (wpS_bind (aQ (U:=Unit) e2 ?_)))
 rw [cR e1,cR e2] at h
 exact L p q st Q m1 m2 hB.kind h
theorem o8 {xs:Array Keyed} {i j:Nat} (hj:j<=xs.size) (k:Nat):Kr rk (mirror xs i j ((j - i) / 2)) k=if i<=k/\k < j then Kr rk xs (i+j - 1 - k) else Kr rk xs k:=by
 have e:=getElem?_mirror_all (i:=i) hj k
 by_cases h1:i<=k/\k < j
 ·rw [if_pos h1] at e ⊢;exact oJ e
 ·rw [if_neg h1] at e ⊢;exact oJ e
theorem d8 {xs:Array Keyed} {i j:Nat} (hj:j<=xs.size) (heq:∀ k,i<=k->k < j->Kr rk xs k=Kr rk xs (j - 1)) (k:Nat):Kr rk (mirror xs i j ((j - i) / 2)) k=Kr rk xs k:=by
 rw [o8 hj]
 split
 ·rw [heq _ (by omega) (by omega),heq k (by omega) (by omega)]
 ·rfl
theorem sU {xs:Array Keyed} {src d:Nat} (hs:src < xs.size) (hd:d<=src) (k:Nat):
  Kr rk (bubble xs src d) k=if k=src - d then Kr rk xs src else if src - d < k/\k<=src then Kr rk xs (k - 1) else Kr rk xs k:=by
 have e:=getElem?_bubble hs d hd k
 by_cases h1:k=src - d
 ·rw [if_pos h1] at e ⊢;exact oJ e
 ·rw [if_neg h1] at e ⊢
  by_cases h2:src - d < k/\k<=src
  ·rw [if_pos h2] at e ⊢;exact oJ e
  ·rw [if_neg h2] at e ⊢;exact oJ e
structure Nx (a₀:Array Keyed) (kd:SortKind) (rk:Keyed->Int) (lo:Nat) (st st':SortSt):Prop where
 sb:SB a₀ kd st'
 fr:∀ k,k < lo->Kr rk (arrOf st') k=Kr rk (arrOf st) k
 pe:pendingOf st'=pendingOf st
theorem Nx.refl {lo:Nat} {st:SortSt} (h:SB a₀ kd st):Nx a₀ kd rk lo st st:=⟨h,fun _ _=>rfl,rfl⟩
theorem Nx.trans {lo:Nat} {st st' st'':SortSt} (h:Nx a₀ kd rk lo st st') (h':Nx a₀ kd rk lo st' st''):Nx a₀ kd rk lo st st'':=⟨h'.sb,fun k hk=>(h'.fr k hk).trans (h.fr k hk),h'.pe.trans h.pe⟩
theorem Nx.mir {lo i j:Nat} {st st':SortSt} (h:Nx a₀ kd rk lo st st') (hi:lo<=i) (hj:j<=a₀.size):Nx a₀ kd rk lo st (setArr st' (mirror (arrOf st') i j ((j - i) / 2))):=
 ⟨⟨(mirror_perm _ _ _ _).trans h.sb.perm,h.sb.kind,h.sb.failed⟩,fun k hk=>by
  show Kr rk (mirror (arrOf st') i j ((j - i) / 2)) k=_
  rw [o8 (by rw [h.sb.size];exact hj),if_neg (by omega)];exact h.fr k hk,h.pe⟩
theorem Nx.bub {lo src d:Nat} {st st':SortSt} (h:Nx a₀ kd rk lo st st') (hs:src < a₀.size) (hd:d<=src) (hi:lo<=src - d):Nx a₀ kd rk lo st (setArr st' (bubble (arrOf st') src d)):=
 ⟨⟨(bubble_perm _ _ _).trans h.sb.perm,h.sb.kind,h.sb.failed⟩,fun k hk=>by
  show Kr rk (bubble (arrOf st') src d) k=_
  rw [sU (by rw [h.sb.size];exact hs) hd,if_neg (by omega),if_neg (by omega)];exact h.fr k hk,h.pe⟩
theorem uM {st:SortSt} {i j:Nat} {Q:Unit->SortSt->Prop} (h:Q () (setArr st (mirror (arrOf st) i j ((j - i) / 2)))):wpS M A E s (reverseSlice' i j) Q st:=by
 rw [reverseSlice'_eq];exact wpS_modify h
def JC (lo a nrem:Nat):StateT SortSt Sem AscSt:=
 forIn [a:nrem] ((none,a):AscSt) fun _ __s=>do
  let __x ← ltAt' (lo+__s.snd) (lo+__s.snd - 1)
  match __x with
  | some smaller=>if smaller=true then pure (ForInStep.done (none,__s.snd)) else pure (ForInStep.yield (none,__s.snd+1))
  | _=>pure (ForInStep.done (some none,__s.snd))
def vG (lo n nrem:Nat):StateT SortSt Sem (Option Nat):=do
 reverseSlice' lo (lo+n)
 let __s ← JC lo n nrem
 match __s.fst with
 | some r=>pure r
 | none=>pure (some __s.snd)
def Di (lo n nrem:Nat):StateT SortSt Sem DescSt:=
 forIn [n:nrem] ((none,n,0):DescSt) fun _ __s=>do
  let __x ← ltAt' (lo+__s.snd.fst) (lo+__s.snd.fst - 1)
  match __x with
  | some smaller=>
   if smaller=true then
    if __s.snd.snd > 0 then do
     reverseSlice' (lo+__s.snd.fst - (__s.snd.snd+1)) (lo+__s.snd.fst)
     pure (ForInStep.yield (none,__s.snd.fst+1,0))
    else pure (ForInStep.yield (none,__s.snd.fst+1,0))
   else do
    let __x ← ltAt' (lo+__s.snd.fst - 1) (lo+__s.snd.fst)
    match __x with
    | some larger=>
     if larger=true then pure (ForInStep.done (none,__s.snd.fst,__s.snd.snd))
     else pure (ForInStep.yield (none,__s.snd.fst+1,__s.snd.snd+1))
    | _=>pure (ForInStep.done (some none,__s.snd.fst,__s.snd.snd))
  | _=>pure (ForInStep.done (some none,__s.snd.fst,__s.snd.snd))
def vH (lo n nrem:Nat):StateT SortSt Sem (Option Nat):=do
 liftM (rule "list.sort.descending-run")
 let __s ← Di lo (n+1) nrem
 match __s.fst with
 | some r=>pure r
 | none=>
  if __s.snd.snd > 0 then do
   reverseSlice' (lo+__s.snd.fst - (__s.snd.snd+1)) (lo+__s.snd.fst)
   vG lo __s.snd.fst nrem
  else vG lo __s.snd.fst nrem
theorem Ft (lo nrem:Nat):countRun' lo nrem=(do
  let __s ← JC lo 1 nrem
  match __s.fst with
  | some r=>pure r
  | none=>
   if (__s.snd == nrem)=true then pure (some __s.snd)
   else if __s.snd > 1 then do
    let __x ← ltAt' lo (lo+__s.snd - 1)
    match __x with
    | some rose=>if rose=true then pure (some __s.snd) else do
      reverseSlice' lo (lo+__s.snd)
      vH lo __s.snd nrem
    | _=>pure none
   else vH lo __s.snd nrem):=by
 rw [countRun'_eq]
 unfold vH vG Di JC
 dsimp only
 congr 1
 funext __s
 obtain ⟨r,n⟩:=__s
 cases r with
 | some r=>rfl
 | none=>
  dsimp only
  split
  ·rfl
  ·split
   ·congr 1
    funext x
    cases x with
    | none=>rfl
    | some rose=>
     dsimp only
     split
     ·rfl
     ·congr 1
      funext _r
      congr 1
      funext _u
      congr 1
      congr 1
      funext s2
      obtain ⟨r2,n2,q2⟩:=s2
      cases r2 with
      | some r2=>rfl
      | none=>
       dsimp only
       split
       ·congr 1
        funext _v
        (congr 1;funext _w;congr 1;(funext s3;obtain ⟨r3,n3⟩:=s3;cases r3 <;> rfl))
       ·(congr 1;funext _w;congr 1;(funext s3;obtain ⟨r3,n3⟩:=s3;cases r3 <;> rfl))
   ·congr 1
    funext _u
    congr 1
    congr 1
    funext s2
    obtain ⟨r2,n2,q2⟩:=s2
    cases r2 with
    | some r2=>rfl
    | none=>
     dsimp only
     split
     ·congr 1
      funext _v
      (congr 1;funext _w;congr 1;(funext s3;obtain ⟨r3,n3⟩:=s3;cases r3 <;> rfl))
     ·(congr 1;funext _w;congr 1;(funext s3;obtain ⟨r3,n3⟩:=s3;cases r3 <;> rfl))
theorem zK {st:SortSt} {lo a nrem:Nat} {Q:AscSt->SortSt->Prop} (L:qZ M A E s kd rk a₀) (hn:lo+nrem<=a₀.size) (ha:1<=a) (han:a<=nrem) (hB:SB a₀ kd st) (hs:Seg rk (arrOf st) lo (lo+a))
  (h:∀ n,a<=n->n<=nrem->Seg rk (arrOf st) lo (lo+n)->(n=nrem\/Kr rk (arrOf st) (lo+n) < Kr rk (arrOf st) (lo+n - 1))->Q (none,n) st):
  wpS M A E s (JC lo a nrem) Q st:=by
 unfold JC
 refine wpS_forRange (I:=fun x c st'=>st'=st/\c=(none,x)/\Seg rk (arrOf st) lo (lo+x)) ?step ?fin ⟨rfl,rfl,hs⟩
 case fin=>
  rintro c st' ⟨rfl,rfl,hs'⟩
  rw [show max a nrem=nrem by omega] at hs' ⊢
  exact h nrem han (Nat.le_refl _) hs' (.inl rfl)
 case step=>
  rintro x c st' hax hxn ⟨rfl,rfl,hs'⟩
  dsimp only
  refine wpS_bind (q9 L hB (by omega) (by omega) ?_)
  by_cases hless:Kr rk (arrOf st') (lo+x) < Kr rk (arrOf st') (lo+x - 1)
  ·simp only [hless,decide_true,if_true]
   exact wpS_pure (h x hax (by omega) hs' (.inr hless))
  ·simp only [hless,decide_false,Bool.false_eq_true,if_false]
   refine wpS_pure ⟨rfl,rfl,fun i j hl hij hj=>?_⟩
   by_cases hjx:j < lo+x
   ·exact hs' i j hl hij hjx
   ·have hj':j=lo+x:=by omega
    subst hj'
    by_cases hi':i=lo+x
    ·subst hi';exact Int.le_refl _
    ·exact Int.le_trans (hs' i (lo+x - 1) hl (by omega) (by omega)) (Int.not_lt.mp hless)
theorem vI {st:SortSt} {lo n nrem:Nat} {Q:Option Nat->SortSt->Prop} (L:qZ M A E s kd rk a₀) (hn:lo+nrem<=a₀.size) (h1:1<=n) (hnn:n<=nrem) (hB:SB a₀ kd st)
  (hs:Fq rk (arrOf st) lo (lo+n)) (h:∀ m st',Nx a₀ kd rk lo st st'->1<=m->m<=nrem->Seg rk (arrOf st') lo (lo+m)->Q (some m) st'):
  wpS M A E s (vG lo n nrem) Q st:=by
 unfold vG
 have hsz:lo+n<=(arrOf st).size:=by rw [hB.size];omega
 refine wpS_bind (uM ?_)
 have hN:Nx a₀ kd rk lo st (setArr st (mirror (arrOf st) lo (lo+n) ((lo+n - lo) / 2))):=(Nx.refl hB).mir (Nat.le_refl _) (by omega)
 refine wpS_bind (zK L hn h1 hnn hN.sb ?_ fun m hm1 hm2 hsm _=>wpS_pure (h m _ hN (by omega) hm2 hsm))
 intro i j hl hij hj
 show Kr rk (mirror (arrOf st) lo (lo+n) ((lo+n - lo) / 2)) i<=Kr rk (mirror (arrOf st) lo (lo+n) ((lo+n - lo) / 2)) j
 rw [o8 hsz,o8 hsz,if_pos (by omega),if_pos (by omega)]
 exact hs _ _ (by omega) (by omega) (by omega)
theorem Fv {st:SortSt} {lo n nrem:Nat} {Q:DescSt->SortSt->Prop} (L:qZ M A E s kd rk a₀) (hn:lo+nrem<=a₀.size) (h1:1<=n) (hnn:n<=nrem) (hB:SB a₀ kd st)
  (hs:Fq rk (arrOf st) lo (lo+n))
  (h:∀ m neq st',Nx a₀ kd rk lo st st'->n<=m->m<=nrem->Fq rk (arrOf st') lo (lo+m)->neq+1<=m->(∀ i,lo+m - (neq+1)<=i->i < lo+m->Kr rk (arrOf st') i=Kr rk (arrOf st') (lo+m - 1))->Q (none,m,neq) st'):
  wpS M A E s (Di lo n nrem) Q st:=by
 unfold Di
 refine wpS_forRange (I:=fun x c st'=>∃ neq,c=(none,x,neq)/\Nx a₀ kd rk lo st st'/\Fq rk (arrOf st') lo (lo+x)/\neq+1<=x/\
   (∀ i,lo+x - (neq+1)<=i->i < lo+x->Kr rk (arrOf st') i=Kr rk (arrOf st') (lo+x - 1))) ?step ?fin ⟨0,rfl,Nx.refl hB,hs,by omega,fun i h1 h2=>by congr 1;omega⟩
 case fin=>
  rintro c st' ⟨neq,rfl,hB',hs',hq,he⟩
  rw [show max n nrem=nrem by omega] at hs' hq he ⊢
  exact h nrem neq st' hB' hnn (Nat.le_refl _) hs' hq he
 case step=>
  rintro x c st' hax hxn ⟨neq,rfl,hB',hs',hq,he⟩
  dsimp only
  have hsz:lo+x<=(arrOf st').size:=by rw [hB'.sb.size];omega
  refine wpS_bind (q9 L hB'.sb (by omega) (by omega) ?_)
  by_cases hless:Kr rk (arrOf st') (lo+x) < Kr rk (arrOf st') (lo+x - 1)
  ·simp only [hless,decide_true,if_true]
   have step1:∀ xs:Array Keyed,(∀ k,Kr rk xs k=Kr rk (arrOf st') k)->Fq rk xs lo (lo+(x+1)):=by
    intro xs hk i j hl hij hj
    rw [hk,hk]
    by_cases hjx:j < lo+x
    ·exact hs' i j hl hij hjx
    ·have hj':j=lo+x:=by omega
     subst hj'
     by_cases hi':i=lo+x
     ·subst hi';exact Int.le_refl _
     ·exact Int.le_trans (Int.le_of_lt hless) (hs' i (lo+x - 1) hl (by omega) (by omega))
   by_cases hneq:neq > 0
   ·rw [if_pos hneq]
    refine wpS_bind (uM (wpS_pure ⟨0,rfl,hB'.mir (by omega) (by omega),step1 _ (d8 hsz he),by omega,fun i h1 h2=>by congr 1;omega⟩))
   ·rw [if_neg hneq]
    exact wpS_pure ⟨0,rfl,hB',step1 _ (fun _=>rfl),by omega,fun i h1 h2=>by congr 1;omega⟩
  ·simp only [hless,decide_false,Bool.false_eq_true,if_false]
   refine wpS_bind (q9 L hB'.sb (by omega) (by omega) ?_)
   by_cases hlarger:Kr rk (arrOf st') (lo+x - 1) < Kr rk (arrOf st') (lo+x)
   ·simp only [hlarger,decide_true,if_true]
    exact wpS_pure (h x neq st' hB' hax (by omega) hs' hq he)
   ·simp only [hlarger,decide_false,Bool.false_eq_true,if_false]
    have heqx:Kr rk (arrOf st') (lo+x)=Kr rk (arrOf st') (lo+x - 1):=by omega
    refine wpS_pure ⟨neq+1,rfl,hB',fun i j hl hij hj=>?_,by omega,fun i h1 h2=>?_⟩
    ·by_cases hjx:j < lo+x
     ·exact hs' i j hl hij hjx
     ·have hj':j=lo+x:=by omega
      subst hj'
      by_cases hi':i=lo+x
      ·subst hi';exact Int.le_refl _
      ·rw [heqx];exact hs' i (lo+x - 1) hl (by omega) (by omega)
    ·rw [show lo+(x+1) - 1=lo+x by omega]
     by_cases hix:i=lo+x
     ·subst hix;rfl
     ·rw [heqx];exact he i (by omega) (by omega)
theorem vJ {st:SortSt} {lo n nrem:Nat} {Q:Option Nat->SortSt->Prop} (L:qZ M A E s kd rk a₀) (hn:lo+nrem<=a₀.size) (hnn:n+1<=nrem) (hB:SB a₀ kd st)
  (hs:Fq rk (arrOf st) lo (lo+(n+1))) (h:∀ m st',Nx a₀ kd rk lo st st'->1<=m->m<=nrem->Seg rk (arrOf st') lo (lo+m)->Q (some m) st'):
  wpS M A E s (vH lo n nrem) Q st:=by
 unfold vH
 refine wpS_bind (wpS_lift (wpAny_rule ⟨rfl,?_⟩))
 refine wpS_bind (Fv L hn (by omega) hnn hB hs fun m neq st' hB' hm1 hm2 hs' hq he=>?_)
 dsimp only
 have hsz:lo+m<=(arrOf st').size:=by rw [hB'.sb.size];omega
 by_cases hneq:neq > 0
 ·rw [if_pos hneq]
  have N2:=hB'.mir (i:=lo+m - (neq+1)) (j:=lo+m) (by omega) (by omega)
  refine wpS_bind (uM (vI L hn (by omega) hm2 N2.sb ?_ fun m' st2 N a b c=>h m' st2 (N2.trans N) a b c))
  intro i j hl hij hj
  show Kr rk (mirror (arrOf st') _ _ _) j<=Kr rk (mirror (arrOf st') _ _ _) i
  rw [d8 hsz he,d8 hsz he]
  exact hs' i j hl hij hj
 ·rw [if_neg hneq]
  exact vI L hn (by omega) hm2 hB'.sb hs' fun m' st2 N a b c=>h m' st2 (hB'.trans N) a b c
theorem Bw {st:SortSt} {lo nrem:Nat} {Q:Option Nat->SortSt->Prop} (L:qZ M A E s kd rk a₀) (hn:lo+nrem<=a₀.size) (h1:1<=nrem) (hB:SB a₀ kd st)
  (h:∀ m st',Nx a₀ kd rk lo st st'->1<=m->m<=nrem->Seg rk (arrOf st') lo (lo+m)->Q (some m) st'):
  wpS M A E s (countRun' lo nrem) Q st:=by
 rw [Ft]
 have one:∀ xs:Array Keyed,Seg rk xs lo (lo+1):=fun xs i j hl hij hj=>by
  have:i=j:=by omega
  subst this;exact Int.le_refl _
 refine wpS_bind (zK L hn (Nat.le_refl 1) h1 hB (one _) fun n hn1 hn2 hsn hor=>?_)
 dsimp only
 by_cases hnn:n=nrem
 ·rw [if_pos (by simpa using hnn)]
  exact wpS_pure (h n st (Nx.refl hB) hn1 hn2 hsn)
 ·rw [if_neg (by simpa using hnn)]
  have hlt:Kr rk (arrOf st) (lo+n) < Kr rk (arrOf st) (lo+n - 1):=hor.resolve_left hnn
  by_cases hgt:n > 1
  ·rw [if_pos hgt]
   refine wpS_bind (q9 L hB (by omega) (by omega) ?_)
   by_cases hrose:Kr rk (arrOf st) lo < Kr rk (arrOf st) (lo+n - 1)
   ·simp only [hrose,decide_true,if_true]
    exact wpS_pure (h n st (Nx.refl hB) hn1 hn2 hsn)
   ·simp only [hrose,decide_false,Bool.false_eq_true,if_false]
    have hsz:lo+n<=(arrOf st).size:=by rw [hB.size];omega
    have hall:∀ k,lo<=k->k < lo+n->Kr rk (arrOf st) k=Kr rk (arrOf st) (lo+n - 1):=by
     intro k h0 hk
     have a1:=hsn lo k (by omega) h0 hk
     have a2:=hsn k (lo+n - 1) h0 (by omega) (by omega)
     omega
    have N2:=(Nx.refl (rk:=rk) (lo:=lo) hB).mir (i:=lo) (j:=lo+n) (by omega) (by omega)
    refine wpS_bind (uM (vJ L hn (by omega) N2.sb ?_ fun m' st2 N a b c=>h m' st2 (N2.trans N) a b c))
    intro i j hl hij hj
    show Kr rk (mirror (arrOf st) _ _ _) j<=Kr rk (mirror (arrOf st) _ _ _) i
    rw [d8 hsz hall,d8 hsz hall]
    by_cases hjn:j < lo+n
    ·rw [hall i hl (by omega),hall j (by omega) hjn];exact Int.le_refl _
    ·have hj':j=lo+n:=by omega
     subst hj'
     by_cases hi':i=lo+n
     ·subst hi';exact Int.le_refl _
     ·rw [hall i hl (by omega)];exact Int.le_of_lt hlt
  ·rw [if_neg hgt]
   have hn1':n=1:=by omega
   subst hn1'
   refine vJ L hn (by omega) hB ?_ h
   intro i j hl hij hj
   by_cases hi':i=j
   ·subst hi';exact Int.le_refl _
   ·have hi0:i=lo:=by omega
    have hj1:j=lo+1:=by omega
    subst hi0;subst hj1
    exact Int.le_of_lt hlt
theorem JD {st:SortSt} {lo n ok:Nat} {Q:Bool->SortSt->Prop} (L:qZ M A E s kd rk a₀) (hn:lo+n<=a₀.size) (hok:ok<=n) (hB:SB a₀ kd st) (hs:Seg rk (arrOf st) lo (lo+ok))
  (h:∀ st',Nx a₀ kd rk lo st st'->Seg rk (arrOf st') lo (lo+n)->Q true st'):wpS M A E s (binarySort' lo n ok) Q st:=by
 rw [binarySort'_eq]
 refine wpS_bind (wpS_mono (wpS_forRange (I:=fun k c st'=>c=(none,())/\Nx a₀ kd rk lo st st'/\Seg rk (arrOf st') lo (lo+min k n))
  (Q:=fun c st'=>c=(none,())/\Nx a₀ kd rk lo st st'/\Seg rk (arrOf st') lo (lo+n)) ?step ?fin ?init) ?post)
 case post=>
  rintro c st' ⟨rfl,hB',hs'⟩
  exact wpS_pure (h st' hB' hs')
 case init=>
  refine ⟨rfl,Nx.refl hB,fun i j hl hij hj=>?_⟩
  by_cases h1:ok=0
  ·have:i=j:=by omega
   subst this;exact Int.le_refl _
  ·exact hs i j hl hij (by omega)
 case fin=>
  rintro c st' ⟨hc,hB',hs'⟩
  refine ⟨hc,hB',?_⟩
  rwa [show min (max (max ok 1) n) n=n by omega] at hs'
 case step=>
  rintro k c st' hak hkn ⟨rfl,hB',hs'⟩
  rw [show min k n=k by omega] at hs'
  have hk:lo+k < a₀.size:=by omega
  refine wpS_bind (wpS_mono (wpS_forRange (I:=fun x c st''=>st''=st'/\∃ l r,c=(none,l,r)/\l<=r/\r<=k/\r - l<=k - x/\
    (∀ i,i < l->Kr rk (arrOf st') (lo+i)<=Kr rk (arrOf st') (lo+k))/\(∀ i,r<=i->i < k->Kr rk (arrOf st') (lo+k) < Kr rk (arrOf st') (lo+i)))
   (Q:=fun c st''=>st''=st'/\∃ l r,c=(none,l,r)/\l<=k/\
    (∀ i,i < l->Kr rk (arrOf st') (lo+i)<=Kr rk (arrOf st') (lo+k))/\(∀ i,l<=i->i < k->Kr rk (arrOf st') (lo+k) < Kr rk (arrOf st') (lo+i))) ?istep ?ifin ?iinit) ?ipost)
  case iinit=>exact ⟨rfl,0,k,rfl,by omega,by omega,by omega,fun i hi=>by omega,fun i h1 h2=>by omega⟩
  case ifin=>
   rintro c st'' ⟨rfl,l,r,rfl,hlr,hrk,hm,hlo,hhi⟩
   have:l=r:=by omega
   subst this
   exact ⟨rfl,l,l,rfl,hrk,hlo,hhi⟩
  case istep=>
   rintro x c st'' _ hxk ⟨rfl,l,r,rfl,hlr,hrk,hm,hlo,hhi⟩
   dsimp only
   by_cases hge:l>=r
   ·rw [if_pos hge]
    have:l=r:=by omega
    subst this
    exact wpS_pure ⟨rfl,l,l,rfl,hrk,hlo,hhi⟩
   ·rw [if_neg hge]
    refine wpS_bind (q9 L hB'.sb hk (by omega) ?_)
    by_cases hless:Kr rk (arrOf st'') (lo+k) < Kr rk (arrOf st'') (lo+(l+r) / 2)
    ·simp only [hless,decide_true,if_true]
     refine wpS_pure ⟨rfl,l,(l+r) / 2,rfl,by omega,by omega,by omega,hlo,fun i h1 h2=>?_⟩
     exact Int.lt_of_lt_of_le hless (hs' _ _ (by omega) (by omega) (by omega))
    ·simp only [hless,decide_false,Bool.false_eq_true,if_false]
     refine wpS_pure ⟨rfl,(l+r) / 2+1,r,rfl,by omega,by omega,by omega,fun i h1=>?_,hhi⟩
     exact Int.le_trans (hs' (lo+i) (lo+(l+r) / 2) (by omega) (by omega) (by omega)) (Int.not_lt.mp hless)
  case ipost=>
   rintro c st'' ⟨rfl,l,r,rfl,hlk,hlo,hhi⟩
   show wpS _ _ _ _ (do moveDown' (lo+k) (lo+l);pure (ForInStep.yield (none,()))) _ _
   rw [moveDown'_eq]
   refine wpS_bind (wpS_modify (wpS_pure ⟨rfl,hB'.bub hk (by omega) (by omega),?_⟩))
   rw [show min (k+1) n=k+1 by omega]
   have hks:lo+k < (arrOf st'').size:=by rw [hB'.sb.size];exact hk
   intro i j hl hij hj
   obtain ⟨i,rfl⟩:∃ i',i=lo+i':=⟨i - lo,by omega⟩
   obtain ⟨j,rfl⟩:∃ j',j=lo+j':=⟨j - lo,by omega⟩
   show Kr rk (bubble (arrOf st'') (lo+k) (lo+k - (lo+l))) (lo+i)<=Kr rk (bubble (arrOf st'') (lo+k) (lo+k - (lo+l))) (lo+j)
   rw [sU hks (by omega),sU hks (by omega),show lo+k - (lo+k - (lo+l))=lo+l by omega]
   repeat' split
   all_goals first
    | (exfalso;omega)
    | exact Int.le_refl _
    | exact hlo _ (by omega)
    | exact Int.le_of_lt (by rw [show lo+j - 1=lo+(j - 1) by omega];exact hhi _ (by omega) (by omega))
    | exact hs' _ _ (by omega) (by omega) (by omega)
end
def Nq:Bool->Keyed->Array Keyed->Nat->Nat->Nat->StateT SortSt Sem (Option Nat):=sortPriv% PySem.Builtin.gallop
def Vy (left:Bool) (key:Keyed) (arr:Array Keyed) (base i:Nat):StateT SortSt Sem (Option Bool):=do
  let x ← elem' arr (base+i)
  if left then lt' x key else return (← lt' key x).map (!·)
section
variable {M:Model} {A:Around} {E:Value->Shared->Prop} {s:Shared} {kd:SortKind} {rk:Keyed->Int} {a₀:Array Keyed}
def Fw (left:Bool) (key:Keyed) (arr:Array Keyed) (base n lo hi:Nat):StateT SortSt Sem (Option Nat):=do
 let __s ← forIn [:n] ((none,lo,hi):Option (Option Nat)×Nat×Nat) fun x __s=>
   if __s.snd.fst>=__s.snd.snd then pure (ForInStep.done (none,__s.snd.fst,__s.snd.snd))
   else do
    let __x ← Vy left key arr base (__s.snd.fst+(__s.snd.snd - __s.snd.fst) / 2)
    match __x with
     | some more=>
      if more=true then
       pure (ForInStep.yield (none,__s.snd.fst+(__s.snd.snd - __s.snd.fst) / 2+1,__s.snd.snd))
      else pure (ForInStep.yield (none,__s.snd.fst,__s.snd.fst+(__s.snd.snd - __s.snd.fst) / 2))
     | x=>pure (ForInStep.done (some none,__s.snd.fst,__s.snd.snd))
 match __s.fst with
  | some r=>pure r
  | none=>pure (some __s.snd.snd)
theorem zL {left:Bool} {key:Keyed} {arr:Array Keyed} {base n lo hi:Nat} {st:SortSt} {Q:Option Nat->SortSt->Prop} (P:Nat->Bool)
  (hP:∀ i (R:Option Bool->SortSt->Prop),i < n->R (some (P i)) st->wpS M A E s (Vy left key arr base i) R st) (hm:∀ i j,i<=j->j < n->P j=true->P i=true)
  (h1:lo<=hi) (h2:hi<=n) (hlo:∀ i,i < lo->P i=true) (hhi:∀ i,hi<=i->i < n->P i=false)
  (h:∀ k,k<=n->(∀ i,i < k->P i=true)->(∀ i,k<=i->i < n->P i=false)->Q (some k) st):wpS M A E s (Fw left key arr base n lo hi) Q st:=by
 unfold Fw
 refine wpS_bind (wpS_mono (wpS_forRange (I:=fun x c st'=>st'=st/\∃ l r,c=(none,l,r)/\l<=r/\r<=n/\r - l<=n - x/\(∀ i,i < l->P i=true)/\(∀ i,r<=i->i < n->P i=false))
   (Q:=fun c st'=>st'=st/\∃ l,c=(none,l,l)/\l<=n/\(∀ i,i < l->P i=true)/\(∀ i,l<=i->i < n->P i=false)) ?step ?fin ⟨rfl,lo,hi,rfl,h1,h2,by omega,hlo,hhi⟩) ?post)
 case fin=>
  rintro c st' ⟨rfl,l,r,rfl,a,b,d,e,f⟩
  obtain rfl:l=r:=by omega
  exact ⟨rfl,l,rfl,b,e,f⟩
 case post=>
  rintro c st' ⟨rfl,l,rfl,b,e,f⟩
  exact wpS_pure (h l b e f)
 case step=>
  rintro x c st' _ hx ⟨rfl,l,r,rfl,a,b,d,e,f⟩
  dsimp only
  by_cases hge:l>=r
  ·rw [if_pos hge]
   obtain rfl:l=r:=by omega
   exact wpS_pure ⟨rfl,l,rfl,b,e,f⟩
  ·rw [if_neg hge]
   refine wpS_bind (hP _ _ (by omega) ?_)
   dsimp only
   by_cases hb:P (l+(r - l) / 2)=true
   ·rw [if_pos hb]
    exact wpS_pure ⟨rfl,_,_,rfl,by omega,b,by omega,fun i hi=>hm i _ (by omega) (by omega) hb,f⟩
   ·rw [if_neg hb]
    refine wpS_pure ⟨rfl,_,_,rfl,by omega,by omega,by omega,e,fun i h3 h4=>?_⟩
    cases hq:P i with
    | false=>rfl
    | true=>exact absurd (hm _ _ h3 h4 hq) hb
theorem fc {left:Bool} {key:Keyed} {arr:Array Keyed} {base n hint:Nat} {st:SortSt} {Q:Option Nat->SortSt->Prop} (P:Nat->Bool) (hh:hint < n)
  (hP:∀ i (R:Option Bool->SortSt->Prop),i < n->R (some (P i)) st->wpS M A E s (Vy left key arr base i) R st) (hm:∀ i j,i<=j->j < n->P j=true->P i=true)
  (h:∀ k,k<=n->(∀ i,i < k->P i=true)->(∀ i,k<=i->i < n->P i=false)->Q (some k) st):wpS M A E s (Nq left key arr base n hint) Q st:=by
 refine wpS_bind (m:=Vy left key arr base hint) (hP hint _ hh ?_)
 dsimp only
 by_cases hr:P hint=true
 ·rw [if_pos hr]
  refine wpS_bind (wpS_mono (wpS_forRange (I:=fun x c st'=>st'=st/\∃ la of,c=(none,la,of)/\la < of/\hint+la < n/\P (hint+la)=true/\x+1<=of)
    (Q:=fun c st'=>st'=st/\∃ la of,c=(none,la,of)/\la < of/\hint+la < n/\P (hint+la)=true/\(n - hint<=of\/(hint+of < n/\P (hint+of)=false))) ?step ?fin ⟨rfl,0,1,rfl,by omega,by omega,hr,by omega⟩) ?post)
  case fin=>
   rintro c st' ⟨rfl,la,of,rfl,a,b,d,e⟩
   exact ⟨rfl,la,of,rfl,a,b,d,.inl (by omega)⟩
  case step=>
   rintro x c st' _ hx ⟨rfl,la,of,rfl,a,b,d,e⟩
   dsimp only
   by_cases hge:of>=n - hint
   ·rw [if_pos hge]
    exact wpS_pure ⟨rfl,la,of,rfl,a,b,d,.inl hge⟩
   ·rw [if_neg hge]
    refine wpS_bind (hP _ _ (by omega) ?_)
    dsimp only
    cases hq:P (hint+of) with
    | false=>
     rw [if_pos (by decide)]
     exact wpS_pure ⟨rfl,la,of,rfl,a,b,d,.inr ⟨by omega,hq⟩⟩
    | true=>
     rw [if_neg (by decide)]
     exact wpS_pure ⟨rfl,of,2*of+1,rfl,by omega,by omega,hq,by omega⟩
  case post=>
   rintro c st' ⟨rfl,la,of,rfl,a,b,d,e⟩
   dsimp only
   refine Eq.mpr (congrArg (fun m=>wpS M A E s m Q st') (?eq:_=Fw left key arr base n (hint+la+1) (hint+min of (n - hint)))) ?_
   case eq=>
    unfold Fw
    congr 1
    funext c
    obtain ⟨r,l,h⟩:=c
    cases r <;> rfl
   refine zL P hP hm (by omega) (by omega) (fun i hi=>hm i _ (by omega) b d) (fun i h3 h4=>?_) h
   rcases e with e | ⟨e1,e2⟩
   ·omega
   ·cases hq:P i with
    | false=>rfl
    | true=>
     have:=hm (hint+of) i (by omega) h4 hq
     rw [this] at e2;cases e2
 ·rw [if_neg hr]
  have hr':P hint=false:=by simpa using hr
  refine wpS_bind (wpS_mono (wpS_forRange (I:=fun x c st'=>st'=st/\∃ la of,c=(none,la,of)/\la < of/\la<=hint/\P (hint - la)=false/\x+1<=of)
    (Q:=fun c st'=>st'=st/\∃ la of,c=(none,la,of)/\la < of/\la<=hint/\P (hint - la)=false/\(hint+1<=of\/(of<=hint/\P (hint - of)=true))) ?step2 ?fin2 ⟨rfl,0,1,rfl,by omega,by omega,hr',by omega⟩) ?post2)
  case fin2=>
   rintro c st' ⟨rfl,la,of,rfl,a,b,d,e⟩
   exact ⟨rfl,la,of,rfl,a,b,d,.inl (by omega)⟩
  case step2=>
   rintro x c st' _ hx ⟨rfl,la,of,rfl,a,b,d,e⟩
   dsimp only
   by_cases hge:of>=hint+1
   ·rw [if_pos hge]
    exact wpS_pure ⟨rfl,la,of,rfl,a,b,d,.inl hge⟩
   ·rw [if_neg hge]
    refine wpS_bind (hP _ _ (by omega) ?_)
    dsimp only
    by_cases hq:P (hint - of)=true
    ·rw [if_pos hq]
     exact wpS_pure ⟨rfl,la,of,rfl,a,b,d,.inr ⟨by omega,hq⟩⟩
    ·rw [if_neg hq]
     exact wpS_pure ⟨rfl,of,2*of+1,rfl,by omega,by omega,by simpa using hq,by omega⟩
  case post2=>
   rintro c st' ⟨rfl,la,of,rfl,a,b,d,e⟩
   dsimp only
   refine Eq.mpr (congrArg (fun m=>wpS M A E s m Q st') (?eq:_=Fw left key arr base n (hint+1 - min of (hint+1)) (hint - la))) ?_
   case eq=>
    unfold Fw
    congr 1
    funext c
    obtain ⟨r,l,h⟩:=c
    cases r <;> rfl
   refine zL P hP hm (by omega) (by omega) (fun i hi=>?_) (fun i h3 h4=>?_) h
   ·rcases e with e | ⟨e1,e2⟩
    ·omega
    ·exact hm i _ (by omega) (by omega) e2
   ·cases hq:P i with
    | false=>rfl
    | true=>
     have:=hm (hint - la) i (by omega) h4 hq
     rw [this] at d;cases d
theorem lC {left:Bool} {key:Keyed} {arr:Array Keyed} {base i:Nat} {st:SortSt} {R:Option Bool->SortSt->Prop} (L:qZ M A E s kd rk a₀) (hk:key∈a₀.toList) (ha:∀ p∈arr.toList,p∈a₀.toList) (hi:base+i < arr.size) (kind:kindOf st=kd)
  (h:R (some (if left=true then decide (Kr rk arr (base+i) < rk key) else decide (Kr rk arr (base+i)<=rk key))) st):wpS M A E s (Vy left key arr base i) R st:=by
 unfold Vy
 have e:arr[base+i]?=some arr[base+i]:=getElem?_pos arr (base+i) hi
 have hm:arr[base+i]∈a₀.toList:=ha _ (by simp)
 rw [cR e] at h
 refine wpS_bind (aQ (U:=Unit) e ?_)
 cases left with
 | true=>
  simp only [if_true] at h ⊢
  exact L _ _ st R hm hk kind h
 | false=>
  simp only [Bool.false_eq_true,if_false] at h ⊢
  refine wpS_bind (L _ _ st _ hk hm kind (wpS_pure ?_))
  have:(some (decide (rk key < rk arr[base+i]))).map (fun x=>!x)=some (decide (rk arr[base+i]<=rk key)):=by
   show some (!decide (rk key < rk arr[base+i]))=_
   congr 1
   rw [← decide_not]
   exact decide_eq_decide.mpr (by omega)
  rw [this];exact h
end
def Qd:Nat->StateT SortSt Sem Unit:=sortPriv% PySem.Builtin.setMinGallop
theorem JF (g:Nat):Qd g=modify fun s=>SortSt.mk' (kindOf s) (arrOf s) (pendingOf s) g (failedOf s):=rfl
def JK:Array Keyed->Array Keyed->StateT SortSt Sem (Array Keyed):=sortPriv% PySem.Builtin.mergeLo
def JL:Array Keyed->Array Keyed->StateT SortSt Sem (Array Keyed):=sortPriv% PySem.Builtin.mergeHi
section
variable {M:Model} {A:Around} {E:Value->Shared->Prop} {s:Shared} {kd:SortKind} {rk:Keyed->Int} {a₀:Array Keyed}
abbrev o9 (rk:Keyed->Int) (l:List Keyed):Prop:=l.Pairwise fun p q=>rk p<=rk q
structure Sm (st st':SortSt):Prop where
 arr:arrOf st'=arrOf st
 kind:kindOf st'=kindOf st
 failed:failedOf st'=failedOf st
 pend:pendingOf st'=pendingOf st
theorem Sm.refl (st:SortSt):Sm st st:=⟨rfl,rfl,rfl,rfl⟩
theorem Sm.trans {a b c:SortSt} (h:Sm a b) (h':Sm b c):Sm a c:=⟨h'.arr.trans h.arr,h'.kind.trans h.kind,h'.failed.trans h.failed,h'.pend.trans h.pend⟩
theorem rn {st st0:SortSt} {g:Nat} {Q:Unit->SortSt->Prop} (h0:Sm st0 st) (h:∀ st',Sm st0 st'->Q () st'):wpS M A E s (Qd g) Q st:=by
 rw [JF]
 exact wpS_modify (h _ (h0.trans ⟨rfl,rfl,rfl,rfl⟩))
structure MI (rk:Keyed->Int) (a b out:Array Keyed) (ia ib:Nat):Prop where
 ha:ia<=a.size
 hb:ib<=b.size
 so:o9 rk out.toList
 le:∀ p∈out.toList,∀ q∈a.toList.drop ia ++ b.toList.drop ib,rk p<=rk q
 pm:(out.toList ++ (a.toList.drop ia ++ b.toList.drop ib)).Perm (a.toList ++ b.toList)
def Res (rk:Keyed->Int) (a b r:Array Keyed):Prop:=o9 rk r.toList/\r.toList.Perm (a.toList ++ b.toList)
theorem mz {α:Type} (l:List α) (i k:Nat):l.drop i=(l.drop i).take k ++ l.drop (i+k):=by
 have e:l.drop (i+k)=(l.drop i).drop k:=by rw [List.drop_drop]
 rw [e,List.take_append_drop]
theorem ext_toList (a:Array Keyed) (i k:Nat):(a.extract i (i+k)).toList=(a.toList.drop i).take k:=by
 rw [Array.toList_extract,List.extract_eq_drop_take]
 congr 1
 omega
theorem MI.takeA {a b out:Array Keyed} {ia ib:Nat} (h:MI rk a b out ia ib) (Sa:o9 rk a.toList) (k:Nat) (hk:ia+k<=a.size) (hc:∀ p∈(a.toList.drop ia).take k,∀ q∈b.toList.drop ib,rk p<=rk q):MI rk a b (out ++ a.extract ia (ia+k)) (ia+k) ib:=by
 have e:=mz a.toList ia k
 have Sd:o9 rk (a.toList.drop ia):=Sa.sublist (List.drop_sublist _ _)
 rw [e] at Sd
 obtain ⟨s1,s2,s3⟩:=List.pairwise_append.mp Sd
 have tl:(out ++ a.extract ia (ia+k)).toList=out.toList ++ (a.toList.drop ia).take k:=by rw [Array.toList_append,ext_toList]
 refine ⟨hk,h.hb,?_,?_,?_⟩
 ·rw [tl]
  exact List.pairwise_append.mpr ⟨h.so,s1,fun p hp q hq=>h.le p hp q (List.mem_append_left _ (List.mem_of_mem_take hq))⟩
 ·rw [tl]
  intro p hp q hq
  rcases List.mem_append.mp hp with hp | hp
  ·refine h.le p hp q ?_
   rcases List.mem_append.mp hq with hq | hq
   ·exact List.mem_append_left _ (by rw [e];exact List.mem_append_right _ hq)
   ·exact List.mem_append_right _ hq
  ·rcases List.mem_append.mp hq with hq | hq
   ·exact s3 p hp q hq
   ·exact hc p hp q hq
 ·rw [tl]
  refine List.Perm.trans (List.Perm.of_eq ?_) h.pm
  conv=>rhs;rw [e]
  simp only [List.append_assoc]
theorem MI.takeB {a b out:Array Keyed} {ia ib:Nat} (h:MI rk a b out ia ib) (Sb:o9 rk b.toList) (k:Nat) (hk:ib+k<=b.size) (hc:∀ p∈(b.toList.drop ib).take k,∀ q∈a.toList.drop ia,rk p<=rk q):MI rk a b (out ++ b.extract ib (ib+k)) ia (ib+k):=by
 have e:=mz b.toList ib k
 have Sd:o9 rk (b.toList.drop ib):=Sb.sublist (List.drop_sublist _ _)
 rw [e] at Sd
 obtain ⟨s1,s2,s3⟩:=List.pairwise_append.mp Sd
 have tl:(out ++ b.extract ib (ib+k)).toList=out.toList ++ (b.toList.drop ib).take k:=by rw [Array.toList_append,ext_toList]
 refine ⟨h.ha,hk,?_,?_,?_⟩
 ·rw [tl]
  exact List.pairwise_append.mpr ⟨h.so,s1,fun p hp q hq=>h.le p hp q (List.mem_append_right _ (List.mem_of_mem_take hq))⟩
 ·rw [tl]
  intro p hp q hq
  rcases List.mem_append.mp hp with hp | hp
  ·refine h.le p hp q ?_
   rcases List.mem_append.mp hq with hq | hq
   ·exact List.mem_append_left _ hq
   ·exact List.mem_append_right _ (by rw [e];exact List.mem_append_right _ hq)
  ·rcases List.mem_append.mp hq with hq | hq
   ·exact hc p hp q hq
   ·exact s3 p hp q hq
 ·rw [tl]
  refine List.Perm.trans ?_ h.pm
  conv=>rhs;rw [e]
  rw [List.append_assoc]
  refine List.Perm.append_left _ ?_
  rw [← List.append_assoc,← List.append_assoc]
  exact List.Perm.append_right _ List.perm_append_comm
theorem vK {out a:Array Keyed} {i:Nat} {p:Keyed} (h:a[i]?=some p):out.push p=out ++ a.extract i (i+1):=by
 apply Array.ext'
 rw [Array.toList_append,ext_toList,Array.toList_push]
 congr 1
 obtain ⟨hi,e⟩:=Array.getElem?_eq_some_iff.mp h
 rw [List.drop_eq_getElem_cons (by simpa using hi)]
 simp [e]
theorem take1 {a:Array Keyed} {i:Nat} {p q:Keyed} (h:a[i]?=some p) (hq:q∈(a.toList.drop i).take 1):q=p:=by
 obtain ⟨hi,e⟩:=Array.getElem?_eq_some_iff.mp h
 rw [List.drop_eq_getElem_cons (by simpa using hi)] at hq
 simpa [e] using hq
theorem iC {a:Array Keyed} {i:Nat} {p q:Keyed} (Sa:o9 rk a.toList) (h:a[i]?=some p) (hq:q∈a.toList.drop i):rk p<=rk q:=by
 obtain ⟨hi,e⟩:=Array.getElem?_eq_some_iff.mp h
 have Sd:o9 rk (a.toList.drop i):=Sa.sublist (List.drop_sublist _ _)
 rw [List.drop_eq_getElem_cons (by simpa using hi)] at Sd hq
 rcases List.mem_cons.mp hq with rfl | hq
 ·simp [e]
 ·have:=(List.pairwise_cons.mp Sd).1 q hq
  simpa [e] using this
theorem yg {a:Array Keyed} {i:Nat} {q:Keyed} (hq:q∈a.toList.drop i):∃ j,i<=j/\j < a.size/\a[j]?=some q:=by
 obtain ⟨k,hk,e⟩:=List.mem_iff_getElem.mp hq
 have hk':i+k < a.size:=by simp at hk;omega
 refine ⟨i+k,by omega,hk',?_⟩
 rw [getElem?_pos a (i+k) hk',← e]
 simp
theorem uN {a:Array Keyed} {i k:Nat} {q:Keyed} (hq:q∈(a.toList.drop i).take k):∃ j,j < k/\a[i+j]?=some q:=by
 obtain ⟨j,hj,e⟩:=List.mem_iff_getElem.mp hq
 have hj':j < k/\i+j < a.size:=by simp at hj;omega
 refine ⟨j,hj'.1,?_⟩
 rw [getElem?_pos a (i+j) hj'.2,← e]
 simp
theorem MI.pushA {a b out:Array Keyed} {ia ib:Nat} {p:Keyed} (h:MI rk a b out ia ib) (Sa:o9 rk a.toList) (e:a[ia]?=some p) (hc:∀ q∈b.toList.drop ib,rk p<=rk q):MI rk a b (out.push p) (ia+1) ib:=by
 rw [vK e]
 exact h.takeA Sa 1 (by have:=(Array.getElem?_eq_some_iff.mp e).1;omega) fun q hq r hr=>by rw [take1 e hq];exact hc r hr
theorem MI.pushB {a b out:Array Keyed} {ia ib:Nat} {p:Keyed} (h:MI rk a b out ia ib) (Sb:o9 rk b.toList) (e:b[ib]?=some p) (hc:∀ q∈a.toList.drop ia,rk p<=rk q):MI rk a b (out.push p) ia (ib+1):=by
 rw [vK e]
 exact h.takeB Sb 1 (by have:=(Array.getElem?_eq_some_iff.mp e).1;omega) fun q hq r hr=>by rw [take1 e hq];exact hc r hr
theorem ph (a:Array Keyed) (i:Nat):(a.extract i a.size).toList=a.toList.drop i:=by
 rw [Array.toList_extract,List.extract_eq_drop_take,List.take_of_length_le (by simp)]
theorem MI.doneB {a b out:Array Keyed} {ia ib:Nat} (h:MI rk a b out ia ib) (Sa:o9 rk a.toList) (e:ib=b.size):Res rk a b (out ++ a.extract ia a.size ++ b.extract ib b.size):=by
 have hd:b.toList.drop ib=[]:=List.drop_eq_nil_of_le (by simp [e])
 unfold Res
 rw [Array.toList_append,Array.toList_append,ph,ph,hd,List.append_nil]
 have hp:=h.pm
 rw [hd,List.append_nil] at hp
 exact ⟨List.pairwise_append.mpr ⟨h.so,Sa.sublist (List.drop_sublist _ _),fun p hp q hq=>h.le p hp q (List.mem_append_left _ hq)⟩,hp⟩
theorem MI.doneA {a b out:Array Keyed} {ia ib:Nat} (h:MI rk a b out ia ib) (Sb:o9 rk b.toList) (e:ia=a.size):Res rk a b (out ++ a.extract ia a.size ++ b.extract ib b.size):=by
 have hd:a.toList.drop ia=[]:=List.drop_eq_nil_of_le (by simp [e])
 unfold Res
 rw [Array.toList_append,Array.toList_append,ph,ph,hd,List.append_nil]
 have hp:=h.pm
 rw [hd,List.nil_append] at hp
 exact ⟨List.pairwise_append.mpr ⟨h.so,Sb.sublist (List.drop_sublist _ _),fun p hp q hq=>h.le p hp q (List.mem_append_right _ hq)⟩,hp⟩
theorem MI.lastA {a b out:Array Keyed} {ia ib:Nat} (h:MI rk a b out ia ib) (Sb:o9 rk b.toList) (e:ia+1=a.size) (hl:∀ p,a[a.size - 1]?=some p->∀ q∈b.toList,rk q<=rk p):Res rk a b (out ++ b.extract ib b.size ++ a.extract ia a.size):=by
 unfold Res
 rw [Array.toList_append,Array.toList_append,ph,ph]
 have hi:ia < a.size:=by omega
 have ea:a.toList.drop ia=[a[ia]]:=by
  rw [List.drop_eq_getElem_cons (by simpa using hi),List.drop_eq_nil_of_le (by simp;omega)]
  simp
 refine ⟨?_,?_⟩
 ·refine List.pairwise_append.mpr ⟨List.pairwise_append.mpr ⟨h.so,Sb.sublist (List.drop_sublist _ _),fun p hp q hq=>h.le p hp q (List.mem_append_right _ hq)⟩,by rw [ea];exact List.pairwise_singleton _ _,fun p hp q hq=>?_⟩
  rcases List.mem_append.mp hp with hp | hp
  ·exact h.le p hp q (List.mem_append_left _ hq)
  ·rw [ea] at hq
   rw [List.mem_singleton.mp hq]
   refine hl _ ?_ p (List.mem_of_mem_drop hp)
   rw [show a.size - 1=ia by omega];exact getElem?_pos a ia hi
 ·refine List.Perm.trans ?_ h.pm
  rw [List.append_assoc]
  exact List.Perm.append_left _ List.perm_append_comm
end
end L2
set_option maxHeartbeats 8000000
namespace L2
open PySem PySem.Spec PyProof.Rows
section
variable {M:Model} {A:Around} {E:Value->Shared->Prop} {s:Shared} {kd:SortKind} {rk:Keyed->Int} {a₀:Array Keyed}
theorem aK {U α:Type} {c:Prop} [Decidable c] {x y:StateT U Sem α} {Q:α->U->Prop} {st:U} (h1:c->wpS M A E s x Q st) (h2:¬ c->wpS M A E s y Q st):wpS M A E s (if c then x else y) Q st:=by
 split
 ·exact h1 ‹_›
 ·exact h2 ‹_›
def Go (rk:Keyed->Int) (a b:Array Keyed) (n:Nat) (r:Option (Array Keyed)) (out:Array Keyed) (ia ib:Nat):Prop:=(∃ x,r=some x/\Res rk a b x)\/(r=none/\MI rk a b out ia ib/\ib < b.size/\ia+1 < a.size/\n<=ia+ib)
theorem zM {a b:Array Keyed} {st:SortSt} {Q:Array Keyed->SortSt->Prop} (L:qZ M A E s kd rk a₀) (ha:∀ p∈a.toList,p∈a₀.toList) (hb:∀ p∈b.toList,p∈a₀.toList) (Sa:o9 rk a.toList) (Sb:o9 rk b.toList)
  (n1:1<=a.size) (n2:1<=b.size) (hf:∀ p,b[0]?=some p->∀ q∈a.toList,rk p<=rk q) (hl:∀ p,a[a.size - 1]?=some p->∀ q∈b.toList,rk q<=rk p) (kind:kindOf st=kd)
  (h:∀ r st',Sm st st'->Res rk a b r->Q r st'):wpS M A E s (JK a b) Q st:=by
 have atA:∀ {i:Nat},i < a.size->∃ p,a[i]?=some p/\p∈a₀.toList:=fun {i} hi=>⟨a[i],getElem?_pos a i hi,ha _ (by simp)⟩
 have atB:∀ {i:Nat},i < b.size->∃ p,b[i]?=some p/\p∈a₀.toList:=fun {i} hi=>⟨b[i],getElem?_pos b i hi,hb _ (by simp)⟩
 have KA:∀ {i:Nat} {p:Keyed},a[i]?=some p->Kr rk a i=rk p:=fun e=>cR e
 have SKa:∀ i j,i<=j->j < a.size->Kr rk a i<=Kr rk a j:=fun i j hij hj=>by
  obtain ⟨p,ep,_⟩:=atA (show i < a.size by omega)
  obtain ⟨q,eq,_⟩:=atA hj
  rw [cR ep,cR eq]
  refine iC Sa ep ?_
  obtain ⟨hq,e⟩:=Array.getElem?_eq_some_iff.mp eq
  rw [← e]
  exact List.mem_iff_getElem.mpr ⟨j - i,by simp;omega,by simp [show i+(j - i)=j by omega]⟩
 have SKb:∀ i j,i<=j->j < b.size->Kr rk b i<=Kr rk b j:=fun i j hij hj=>by
  obtain ⟨p,ep,_⟩:=atB (show i < b.size by omega)
  obtain ⟨q,eq,_⟩:=atB hj
  rw [cR ep,cR eq]
  refine iC Sb ep ?_
  obtain ⟨hq,e⟩:=Array.getElem?_eq_some_iff.mp eq
  rw [← e]
  exact List.mem_iff_getElem.mpr ⟨j - i,by simp;omega,by simp [show i+(j - i)=j by omega]⟩
 refine wpS_bind (wpS_lift (wpAny_rule ⟨rfl,?_⟩))
 dsimp only
 obtain ⟨p0,e0,m0⟩:=atB (i:=0) (by omega)
 refine wpS_bind (aQ (U:=Unit) e0 ?_)
 have I0:MI rk a b #[p0] 0 1:=by
  have eb:b.toList=p0 :: b.toList.drop 1:=by
   obtain ⟨hi,e⟩:=Array.getElem?_eq_some_iff.mp e0
   have:=List.drop_eq_getElem_cons (l:=b.toList) (i:=0) (by simpa using hi)
   rw [List.drop_zero] at this
   conv=>lhs;rw [this]
   simp [e]
  refine ⟨by omega,by omega,List.pairwise_singleton _ _,fun p hp q hq=>?_,?_⟩
  ·obtain rfl:p=p0:=by simpa using hp
   rcases List.mem_append.mp hq with hq | hq
   ·exact hf p e0 q (List.mem_of_mem_drop hq)
   ·exact iC Sb e0 (by rw [List.drop_zero];exact List.mem_of_mem_drop hq)
  ·show ([p0] ++ (a.toList.drop 0 ++ b.toList.drop 1)).Perm _
   rw [List.drop_zero]
   conv=>rhs;rw [eb]
   exact (List.perm_middle (a:=p0) (l₁:=a.toList) (l₂:=b.toList.drop 1)).symm
 by_cases h1:1=b.size
 ·rw [if_pos (by simpa using h1)]
  exact wpS_pure (h _ _ (Sm.refl _) (I0.doneB Sa h1))
 rw [if_neg (by simpa using h1)]
 by_cases h2:0+1=a.size
 ·rw [if_pos (by simpa using h2)]
  exact wpS_pure (h _ _ (Sm.refl _) (I0.lastA Sb h2 hl))
 rw [if_neg (by simpa using h2)]
 refine wpS_bind (wpS_get ?_)
 refine wpS_bind (wpS_mono (wpS_forRange (I:=fun x c st'=>Sm st st'/\∃ out ia ib mg,c=(none,out,ia,ib,mg)/\MI rk a b out ia ib/\ib < b.size/\ia+1 < a.size/\x+1<=ia+ib)
   (Q:=fun c st'=>Sm st st'/\∃ r,c.1=some r/\Res rk a b r) ?step ?fin ⟨Sm.refl _,_,_,_,_,rfl,I0,by omega,by omega,by omega⟩) ?post)
 case fin=>
  rintro c st' ⟨_,out,ia,ib,mg,rfl,I,x1,x2,x3⟩
  exact absurd x3 (by omega)
 case post=>
  rintro ⟨r0,c⟩ st' ⟨S,r,rfl,hr⟩
  exact wpS_pure (h r st' S hr)
 case step=>
  rintro x c st1 _ hx ⟨S1,out,ia,ib,mg,rfl,I,x1,x2,x3⟩
  dsimp only
  have kd1:kindOf st1=kd:=S1.kind.trans kind
  refine wpS_bind (wpS_mono (wpS_forRange (I:=fun y c st'=>st'=st1/\∃ out' ia' ib' ac bc,c=(none,out',ia',ib',ac,bc)/\MI rk a b out' ia' ib'/\ib' < b.size/\ia'+1 < a.size/\x+1+y<=ia'+ib')
   (Q:=fun c st'=>st'=st1/\Go rk a b (x+2) c.1 c.2.1 c.2.2.1 c.2.2.2.1) ?istep ?ifin ⟨rfl,_,_,_,_,_,rfl,I,x1,x2,by omega⟩) ?ipost)
  case ifin=>
   rintro c st' ⟨rfl,out',ia',ib',ac,bc,rfl,I',y1,y2,y3⟩
   exact ⟨rfl,.inr ⟨rfl,I',y1,y2,by show x+2<=ia'+ib';omega⟩⟩
  case istep=>
   rintro y c st' _ hy ⟨rfl,out',ia',ib',ac,bc,rfl,I',y1,y2,y3⟩
   dsimp only
   obtain ⟨pb,eb,mb⟩:=atB y1
   obtain ⟨pa,ea,ma⟩:=atA (show ia' < a.size by omega)
   refine wpS_bind (aQ (U:=Unit) eb (wpS_bind (aQ (U:=Unit) ea (wpS_bind (L _ _ _ _ mb ma kd1 ?_)))))
   dsimp only
   by_cases hw:rk pb < rk pa
   ·rw [if_pos (decide_eq_true hw)]
    refine wpS_bind (aQ (U:=Unit) eb ?_)
    have I2:=I'.pushB Sb eb fun q hq=>Int.le_trans (Int.le_of_lt hw) (iC Sa ea hq)
    by_cases h3:ib'+1=b.size
    ·rw [if_pos (by simpa using h3)]
     exact wpS_pure ⟨rfl,.inl ⟨_,rfl,I2.doneB Sa h3⟩⟩
    ·rw [if_neg (by simpa using h3)]
     split
     ·exact wpS_pure ⟨rfl,.inr ⟨rfl,I2,by show ib'+1 < _;omega,y2,by show x+2<=ia'+(ib'+1);omega⟩⟩
     ·exact wpS_pure ⟨rfl,_,_,_,_,_,rfl,I2,by omega,y2,by omega⟩
   ·rw [if_neg (by rw [decide_eq_false hw];decide)]
    refine wpS_bind (aQ (U:=Unit) ea ?_)
    have I2:=I'.pushA Sa ea fun q hq=>Int.le_trans (by omega) (iC Sb eb hq)
    by_cases h3:ia'+1+1=a.size
    ·rw [if_pos (by simpa using h3)]
     exact wpS_pure ⟨rfl,.inl ⟨_,rfl,I2.lastA Sb h3 hl⟩⟩
    ·rw [if_neg (by simpa using h3)]
     split
     ·exact wpS_pure ⟨rfl,.inr ⟨rfl,I2,y1,by show ia'+1+1 < _;omega,by show x+2<=ia'+1+ib';omega⟩⟩
     ·exact wpS_pure ⟨rfl,_,_,_,_,_,rfl,I2,y1,by omega,by omega⟩
  case ipost=>
   rintro ⟨r0,out1,ia1,ib1,ac1,bc1⟩ st' ⟨rfl,G⟩
   dsimp only at G ⊢
   rcases G with ⟨r,rfl,hr⟩ | ⟨rfl,I1,y1,y2,y3⟩
   ·exact wpS_pure ⟨S1,r,rfl,hr⟩
   dsimp only
   refine wpS_bind (wpS_lift (wpAny_rule ⟨rfl,?_⟩))
   refine wpS_bind (wpS_mono (wpS_forRange (I:=fun y c st'=>Sm st st'/\∃ out' ia' ib' mg ac bc,c=(none,out',ia',ib',mg,ac,bc)/\MI rk a b out' ia' ib'/\ib' < b.size/\ia'+1 < a.size/\x+2<=ia'+ib')
    (Q:=fun c st'=>Sm st st'/\Go rk a b (x+2) c.1 c.2.1 c.2.2.1 c.2.2.2.1) ?gstep ?gfin ⟨S1,_,_,_,_,_,_,rfl,I1,y1,y2,y3⟩) ?gpost)
   case gfin=>
    rintro c st' ⟨S2,out',ia',ib',mg',ac,bc,rfl,I',y1,y2,y3⟩
    exact ⟨S2,.inr ⟨rfl,I',y1,y2,y3⟩⟩
   case gpost=>
    rintro ⟨r0,out1,ia1,ib1,mg1,ac1,bc1⟩ st' ⟨S2,G⟩
    dsimp only at G ⊢
    rcases G with ⟨r,rfl,hr⟩ | ⟨rfl,I1,y1,y2,y3⟩
    ·exact wpS_pure ⟨S2,r,rfl,hr⟩
    dsimp only
    refine wpS_bind (rn S2 fun st2 S3=>?_)
    exact wpS_pure ⟨S3,_,_,_,_,rfl,I1,y1,y2,y3⟩
   case gstep=>
    rintro y c st' _ hy ⟨S2,out',ia',ib',mg',ac,bc,rfl,I',y1,y2,y3⟩
    dsimp only
    obtain ⟨pb,eb,mb⟩:=atB y1
    refine aK (fun _=>?_) (fun _=>?_)
    all_goals
     refine wpS_bind (rn S2 fun st3 S3=>?_)
     have kd3:kindOf st3=kd:=S3.kind.trans kind
     refine wpS_bind (aQ (U:=Unit) eb ?_)
     refine wpS_bind (fc (fun i=>decide (Kr rk a (ia'+i)<=rk pb)) (by omega) (fun i R hi r=>lC L mb ha (by omega) kd3 (by simpa using r)) (fun i j hij hj hq=>decide_eq_true (Int.le_trans (SKa _ _ (by omega) (by omega)) (of_decide_eq_true hq))) fun k hk hk1 hk2=>?_)
     dsimp only
     have I2:=I'.takeA Sa k (by omega) fun p hp q hq=>by
      obtain ⟨j,hj,e⟩:=uN hp
      have:=of_decide_eq_true (hk1 j hj)
      rw [cR e] at this
      exact Int.le_trans this (iC Sb eb hq)
     have hgt:∀ q∈a.toList.drop (ia'+k),rk pb<=rk q:=fun q hq=>by
      obtain ⟨j,h3,h4,e⟩:=yg hq
      have:=of_decide_eq_false (hk2 (j - ia') (by omega) (by omega))
      rw [show ia'+(j - ia')=j by omega,cR e] at this
      omega
     refine aK (fun hk0=>?_) (fun hk0=>?_)
     ·refine aK (fun h3=>?_) (fun h3=>aK (fun h4=>?_) (fun h4=>?_))
      ·exact wpS_pure ⟨S3,.inl ⟨_,rfl,I2.lastA Sb (by simpa using h3) hl⟩⟩
      ·exact wpS_pure ⟨S3,.inl ⟨_,rfl,I2.doneA Sb (by simpa using h4)⟩⟩
      have hi1:ia'+k+1 < a.size:=by
       have z1:¬ ia'+k+1=a.size:=by simpa using h3
       have z2:¬ ia'+k=a.size:=by simpa using h4
       omega
      have J:=I2
      have hg2:=hgt
      refine wpS_bind (aQ (U:=Unit) eb ?_)
      have J2:=J.pushB Sb eb hg2
      refine aK (fun h5=>?_) (fun h5=>?_)
      ·exact wpS_pure ⟨S3,.inl ⟨_,rfl,J2.doneB Sa (by simpa using h5)⟩⟩
      have h5':ib'+1 < b.size:=by
       have:¬ ib'+1=b.size:=by simpa using h5
       omega
      obtain ⟨pa,ea,ma⟩:=atA (Nat.lt_of_succ_lt hi1)
      refine wpS_bind (aQ (U:=Unit) ea ?_)
      refine wpS_bind (fc (fun i=>decide (Kr rk b (ib'+1+i) < rk pa)) (by omega) (fun i R hi r=>lC L ma hb (by omega) kd3 (by simpa using r)) (fun i j hij hj hq=>decide_eq_true (Int.lt_of_le_of_lt (SKb _ _ (by omega) (by omega)) (of_decide_eq_true hq))) fun k1 hk1 hk11 hk12=>?_)
      dsimp only
      have J3:=J2.takeB Sb k1 (by omega) fun p hp q hq=>by
       obtain ⟨j,hj,e⟩:=uN hp
       have:=of_decide_eq_true (hk11 j hj)
       rw [cR e] at this
       exact Int.le_trans (Int.le_of_lt this) (iC Sa ea hq)
      have hle:∀ q∈b.toList.drop (ib'+1+k1),rk pa<=rk q:=fun q hq=>by
       obtain ⟨j,h3,h4,e⟩:=yg hq
       have:=of_decide_eq_false (hk12 (j - (ib'+1)) (by omega) (by omega))
       rw [show ib'+1+(j - (ib'+1))=j by omega,cR e] at this
       omega
      refine aK (fun hk10=>?_) (fun hk10=>?_)
      ·refine aK (fun h6=>?_) (fun h6=>?_)
       ·exact wpS_pure ⟨S3,.inl ⟨_,rfl,J3.doneB Sa (by simpa using h6)⟩⟩
       have h6':ib'+1+k1 < b.size:=by
        have:¬ ib'+1+k1=b.size:=by simpa using h6
        omega
       refine wpS_bind (aQ (U:=Unit) ea ?_)
       have J5:=J3.pushA Sa ea hle
       refine aK (fun h7=>?_) (fun h7=>?_)
       ·exact wpS_pure ⟨S3,.inl ⟨_,rfl,J5.lastA Sb (by simpa using h7) hl⟩⟩
       have h7':=by simpa using h7
       refine aK (fun _=>?_) (fun _=>?_)
       ·exact wpS_pure ⟨S3,.inr ⟨rfl,J5,h6',by dsimp only;omega,by dsimp only;omega⟩⟩
       ·exact wpS_pure ⟨S3,_,_,_,_,_,_,rfl,J5,h6',by omega,by omega⟩
      ·obtain rfl:k1=0:=by omega
       refine wpS_bind (aQ (U:=Unit) ea ?_)
       have J5:=J2.pushA Sa ea hle
       refine aK (fun h7=>?_) (fun h7=>?_)
       ·exact wpS_pure ⟨S3,.inl ⟨_,rfl,J5.lastA Sb (by simpa using h7) hl⟩⟩
       have h7':=by simpa using h7
       refine aK (fun _=>?_) (fun _=>?_)
       ·exact wpS_pure ⟨S3,.inr ⟨rfl,J5,h5',by dsimp only;omega,by dsimp only;omega⟩⟩
       ·exact wpS_pure ⟨S3,_,_,_,_,_,_,rfl,J5,h5',by omega,by omega⟩
     ·obtain rfl:k=0:=by omega
      have hi1:ia'+1 < a.size:=y2
      have J:=I'
      have hg2:∀ q∈a.toList.drop ia',rk pb<=rk q:=hgt
      refine wpS_bind (aQ (U:=Unit) eb ?_)
      have J2:=J.pushB Sb eb hg2
      refine aK (fun h5=>?_) (fun h5=>?_)
      ·exact wpS_pure ⟨S3,.inl ⟨_,rfl,J2.doneB Sa (by simpa using h5)⟩⟩
      have h5':ib'+1 < b.size:=by
       have:¬ ib'+1=b.size:=by simpa using h5
       omega
      obtain ⟨pa,ea,ma⟩:=atA (Nat.lt_of_succ_lt hi1)
      refine wpS_bind (aQ (U:=Unit) ea ?_)
      refine wpS_bind (fc (fun i=>decide (Kr rk b (ib'+1+i) < rk pa)) (by omega) (fun i R hi r=>lC L ma hb (by omega) kd3 (by simpa using r)) (fun i j hij hj hq=>decide_eq_true (Int.lt_of_le_of_lt (SKb _ _ (by omega) (by omega)) (of_decide_eq_true hq))) fun k1 hk1 hk11 hk12=>?_)
      dsimp only
      have J3:=J2.takeB Sb k1 (by omega) fun p hp q hq=>by
       obtain ⟨j,hj,e⟩:=uN hp
       have:=of_decide_eq_true (hk11 j hj)
       rw [cR e] at this
       exact Int.le_trans (Int.le_of_lt this) (iC Sa ea hq)
      have hle:∀ q∈b.toList.drop (ib'+1+k1),rk pa<=rk q:=fun q hq=>by
       obtain ⟨j,h3,h4,e⟩:=yg hq
       have:=of_decide_eq_false (hk12 (j - (ib'+1)) (by omega) (by omega))
       rw [show ib'+1+(j - (ib'+1))=j by omega,cR e] at this
       omega
      refine aK (fun hk10=>?_) (fun hk10=>?_)
      ·refine aK (fun h6=>?_) (fun h6=>?_)
       ·exact wpS_pure ⟨S3,.inl ⟨_,rfl,J3.doneB Sa (by simpa using h6)⟩⟩
       have h6':ib'+1+k1 < b.size:=by
        have:¬ ib'+1+k1=b.size:=by simpa using h6
        omega
       refine wpS_bind (aQ (U:=Unit) ea ?_)
       have J5:=J3.pushA Sa ea hle
       refine aK (fun h7=>?_) (fun h7=>?_)
       ·exact wpS_pure ⟨S3,.inl ⟨_,rfl,J5.lastA Sb (by simpa using h7) hl⟩⟩
       have h7':=by simpa using h7
       refine aK (fun _=>?_) (fun _=>?_)
       ·exact wpS_pure ⟨S3,.inr ⟨rfl,J5,h6',by dsimp only;omega,by dsimp only;omega⟩⟩
       ·exact wpS_pure ⟨S3,_,_,_,_,_,_,rfl,J5,h6',by omega,by omega⟩
      ·obtain rfl:k1=0:=by omega
       refine wpS_bind (aQ (U:=Unit) ea ?_)
       have J5:=J2.pushA Sa ea hle
       refine aK (fun h7=>?_) (fun h7=>?_)
       ·exact wpS_pure ⟨S3,.inl ⟨_,rfl,J5.lastA Sb (by simpa using h7) hl⟩⟩
       have h7':=by simpa using h7
       refine aK (fun _=>?_) (fun _=>?_)
       ·exact wpS_pure ⟨S3,.inr ⟨rfl,J5,h5',by dsimp only;omega,by dsimp only;omega⟩⟩
       ·exact wpS_pure ⟨S3,_,_,_,_,_,_,rfl,J5,h5',by omega,by omega⟩
structure MH (rk:Keyed->Int) (a b out:Array Keyed) (na nb:Nat):Prop where
 ha:na<=a.size
 hb:nb<=b.size
 so:o9 rk out.toList.reverse
 le:∀ p∈a.toList.take na ++ b.toList.take nb,∀ q∈out.toList,rk p<=rk q
 pm:((a.toList.take na ++ b.toList.take nb) ++ out.toList.reverse).Perm (a.toList ++ b.toList)
theorem mC {α:Type} (l:List α) {i n:Nat} (h:i<=n):l.take n=l.take i ++ (l.drop i).take (n - i):=by
 rw [List.take_drop,show i+(n - i)=n by omega]
 conv=>lhs;rw [← List.take_append_drop i (l.take n)]
 rw [List.take_take,Nat.min_eq_left h]
theorem jr (a:Array Keyed) {i n:Nat} (h:i<=n):(a.extract i n).toList=(a.toList.drop i).take (n - i):=by
 rw [Array.toList_extract,List.extract_eq_drop_take]
theorem MH.takeA {a b out:Array Keyed} {na nb:Nat} (h:MH rk a b out na nb) (Sa:o9 rk a.toList) (i:Nat) (hi:i<=na) (hc:∀ q∈(a.toList.drop i).take (na - i),∀ p∈b.toList.take nb,rk p<=rk q):MH rk a b (out ++ (a.extract i na).reverse) i nb:=by
 have e:=mC a.toList hi
 have Sd:o9 rk (a.toList.take na):=Sa.sublist (List.take_sublist _ _)
 rw [e] at Sd
 obtain ⟨s1,s2,s3⟩:=List.pairwise_append.mp Sd
 have tl:(out ++ (a.extract i na).reverse).toList=out.toList ++ ((a.toList.drop i).take (na - i)).reverse:=by rw [Array.toList_append,Array.toList_reverse,jr a hi]
 have rl:(out ++ (a.extract i na).reverse).toList.reverse=(a.toList.drop i).take (na - i) ++ out.toList.reverse:=by rw [tl,List.reverse_append,List.reverse_reverse]
 refine ⟨by have:=h.ha;omega,h.hb,?_,?_,?_⟩
 ·rw [rl]
  exact List.pairwise_append.mpr ⟨s2,h.so,fun p hp q hq=>h.le p (List.mem_append_left _ (by rw [e];exact List.mem_append_right _ hp)) q (List.mem_reverse.mp hq)⟩
 ·rw [tl]
  intro p hp q hq
  rcases List.mem_append.mp hq with hq | hq
  ·refine h.le p ?_ q hq
   rcases List.mem_append.mp hp with hp | hp
   ·exact List.mem_append_left _ (by rw [e];exact List.mem_append_left _ hp)
   ·exact List.mem_append_right _ hp
  ·have hq:=List.mem_reverse.mp hq
   rcases List.mem_append.mp hp with hp | hp
   ·exact s3 p hp q hq
   ·exact hc q hq p hp
 ·rw [rl]
  refine List.Perm.trans ?_ h.pm
  conv=>rhs;rw [e]
  rw [← List.append_assoc]
  refine List.Perm.append_right _ ?_
  rw [List.append_assoc,List.append_assoc]
  exact List.Perm.append_left _ List.perm_append_comm
theorem MH.takeB {a b out:Array Keyed} {na nb:Nat} (h:MH rk a b out na nb) (Sb:o9 rk b.toList) (i:Nat) (hi:i<=nb) (hc:∀ q∈(b.toList.drop i).take (nb - i),∀ p∈a.toList.take na,rk p<=rk q):MH rk a b (out ++ (b.extract i nb).reverse) na i:=by
 have e:=mC b.toList hi
 have Sd:o9 rk (b.toList.take nb):=Sb.sublist (List.take_sublist _ _)
 rw [e] at Sd
 obtain ⟨s1,s2,s3⟩:=List.pairwise_append.mp Sd
 have tl:(out ++ (b.extract i nb).reverse).toList=out.toList ++ ((b.toList.drop i).take (nb - i)).reverse:=by rw [Array.toList_append,Array.toList_reverse,jr b hi]
 have rl:(out ++ (b.extract i nb).reverse).toList.reverse=(b.toList.drop i).take (nb - i) ++ out.toList.reverse:=by rw [tl,List.reverse_append,List.reverse_reverse]
 refine ⟨h.ha,by have:=h.hb;omega,?_,?_,?_⟩
 ·rw [rl]
  exact List.pairwise_append.mpr ⟨s2,h.so,fun p hp q hq=>h.le p (List.mem_append_right _ (by rw [e];exact List.mem_append_right _ hp)) q (List.mem_reverse.mp hq)⟩
 ·rw [tl]
  intro p hp q hq
  rcases List.mem_append.mp hq with hq | hq
  ·refine h.le p ?_ q hq
   rcases List.mem_append.mp hp with hp | hp
   ·exact List.mem_append_left _ hp
   ·exact List.mem_append_right _ (by rw [e];exact List.mem_append_left _ hp)
  ·have hq:=List.mem_reverse.mp hq
   rcases List.mem_append.mp hp with hp | hp
   ·exact hc q hq p hp
   ·exact s3 p hp q hq
 ·rw [rl]
  refine List.Perm.trans (List.Perm.of_eq ?_) h.pm
  conv=>rhs;rw [e]
  simp only [List.append_assoc]
theorem zN {out a:Array Keyed} {n:Nat} {p:Keyed} (hn:1<=n) (h:a[n - 1]?=some p):out.push p=out ++ (a.extract (n - 1) n).reverse:=by
 rw [vK h,show n - 1+1=n by omega]
 congr 1
 apply Array.ext'
 rw [Array.toList_reverse,jr a (by omega),show n - (n - 1)=1 by omega]
 obtain ⟨hi,e⟩:=Array.getElem?_eq_some_iff.mp h
 rw [List.drop_eq_getElem_cons (by simpa using hi)]
 simp
theorem rz {a:Array Keyed} {n:Nat} {p q:Keyed} (Sa:o9 rk a.toList) (hn:1<=n) (h:a[n - 1]?=some p) (hq:q∈a.toList.take n):rk q<=rk p:=by
 obtain ⟨hi,e⟩:=Array.getElem?_eq_some_iff.mp h
 obtain ⟨k,hk,ek⟩:=List.mem_iff_getElem.mp hq
 have hk':k < n/\k < a.size:=by simp at hk;omega
 have hqk:a[k]?=some q:=by rw [getElem?_pos a k hk'.2,← ek];simp
 refine iC Sa hqk ?_
 rw [← e]
 exact List.mem_iff_getElem.mpr ⟨n - 1 - k,by simp;omega,by simp [show k+(n - 1 - k)=n - 1 by omega]⟩
theorem MH.pushA {a b out:Array Keyed} {na nb:Nat} {p:Keyed} (h:MH rk a b out na nb) (Sa:o9 rk a.toList) (hn:1<=na) (e:a[na - 1]?=some p) (hc:∀ q∈b.toList.take nb,rk q<=rk p):MH rk a b (out.push p) (na - 1) nb:=by
 rw [zN hn e]
 refine h.takeA Sa (na - 1) (by omega) fun q hq r hr=>?_
 rw [show na - (na - 1)=1 by omega] at hq
 rw [take1 e hq];exact hc r hr
theorem MH.pushB {a b out:Array Keyed} {na nb:Nat} {p:Keyed} (h:MH rk a b out na nb) (Sb:o9 rk b.toList) (hn:1<=nb) (e:b[nb - 1]?=some p) (hc:∀ q∈a.toList.take na,rk q<=rk p):MH rk a b (out.push p) na (nb - 1):=by
 rw [zN hn e]
 refine h.takeB Sb (nb - 1) (by omega) fun q hq r hr=>?_
 rw [show nb - (nb - 1)=1 by omega] at hq
 rw [take1 e hq];exact hc r hr
theorem Fx (a:Array Keyed) (n:Nat):(a.extract 0 n).toList=a.toList.take n:=by
 rw [jr a (Nat.zero_le n),List.drop_zero,Nat.sub_zero]
theorem MH.doneA {a b out:Array Keyed} {na nb:Nat} (h:MH rk a b out na nb) (Sb:o9 rk b.toList) (e:na=0):Res rk a b (a.extract 0 na ++ b.extract 0 nb ++ out.reverse):=by
 unfold Res
 rw [Array.toList_append,Array.toList_append,Fx,Fx,Array.toList_reverse]
 refine ⟨?_,h.pm⟩
 have:a.toList.take na=[]:=by rw [e];rfl
 rw [this,List.nil_append]
 exact List.pairwise_append.mpr ⟨Sb.sublist (List.take_sublist _ _),h.so,fun p hp q hq=>h.le p (List.mem_append_right _ hp) q (List.mem_reverse.mp hq)⟩
theorem MH.doneB {a b out:Array Keyed} {na nb:Nat} (h:MH rk a b out na nb) (Sa:o9 rk a.toList) (e:nb=0):Res rk a b (a.extract 0 na ++ b.extract 0 nb ++ out.reverse):=by
 unfold Res
 rw [Array.toList_append,Array.toList_append,Fx,Fx,Array.toList_reverse]
 refine ⟨?_,h.pm⟩
 have:b.toList.take nb=[]:=by rw [e];rfl
 rw [this,List.append_nil]
 exact List.pairwise_append.mpr ⟨Sa.sublist (List.take_sublist _ _),h.so,fun p hp q hq=>h.le p (List.mem_append_left _ hp) q (List.mem_reverse.mp hq)⟩
theorem MH.firstB {a b out:Array Keyed} {na nb:Nat} (h:MH rk a b out na nb) (Sa:o9 rk a.toList) (e:nb=1) (hf:∀ p,b[0]?=some p->∀ q∈a.toList,rk p<=rk q):Res rk a b (b.extract 0 nb ++ a.extract 0 na ++ out.reverse):=by
 unfold Res
 rw [Array.toList_append,Array.toList_append,Fx,Fx,Array.toList_reverse]
 have hi:0 < b.size:=by have:=h.hb;omega
 have eb:b.toList.take nb=[b[0]]:=by
  rw [e]
  have:=List.drop_eq_getElem_cons (l:=b.toList) (i:=0) (by simpa using hi)
  rw [List.drop_zero] at this
  rw [this];simp
 refine ⟨?_,(List.Perm.append_right _ List.perm_append_comm).trans h.pm⟩
 refine List.pairwise_append.mpr ⟨List.pairwise_append.mpr ⟨by rw [eb];exact List.pairwise_singleton _ _,Sa.sublist (List.take_sublist _ _),fun p hp q hq=>?_⟩,h.so,fun p hp q hq=>h.le p ?_ q (List.mem_reverse.mp hq)⟩
 ·rw [eb] at hp
  rw [List.mem_singleton.mp hp]
  exact hf _ (getElem?_pos b 0 hi) q (List.mem_of_mem_take hq)
 ·rcases List.mem_append.mp hp with hp | hp
  ·exact List.mem_append_right _ hp
  ·exact List.mem_append_left _ hp
theorem lK {a:Array Keyed} {i k:Nat} {q:Keyed} (hq:q∈(a.toList.drop i).take k):∃ j,i<=j/\j < i+k/\a[j]?=some q:=by
 obtain ⟨j,hj,e⟩:=uN hq
 exact ⟨i+j,by omega,by omega,e⟩
theorem Bx {a:Array Keyed} {n:Nat} {q:Keyed} (hq:q∈a.toList.take n):∃ j,j < n/\a[j]?=some q:=by
 obtain ⟨k,hk,e⟩:=List.mem_iff_getElem.mp hq
 have hk':k < n/\k < a.size:=by simp at hk;omega
 exact ⟨k,hk'.1,by rw [getElem?_pos a k hk'.2,← e];simp⟩
def GoH (rk:Keyed->Int) (a b:Array Keyed) (n:Nat) (r:Option (Array Keyed)) (na nb:Nat) (out:Array Keyed):Prop:=(∃ x,r=some x/\Res rk a b x)\/(r=none/\MH rk a b out na nb/\1<=na/\2<=nb/\n+na+nb<=a.size+b.size)
theorem zO {a b:Array Keyed} {st:SortSt} {Q:Array Keyed->SortSt->Prop} (L:qZ M A E s kd rk a₀) (ha:∀ p∈a.toList,p∈a₀.toList) (hb:∀ p∈b.toList,p∈a₀.toList) (Sa:o9 rk a.toList) (Sb:o9 rk b.toList)
  (n1:1<=a.size) (n2:1<=b.size) (hf:∀ p,b[0]?=some p->∀ q∈a.toList,rk p<=rk q) (hl:∀ p,a[a.size - 1]?=some p->∀ q∈b.toList,rk q<=rk p) (kind:kindOf st=kd)
  (h:∀ r st',Sm st st'->Res rk a b r->Q r st'):wpS M A E s (JL a b) Q st:=by
 have atA:∀ {i:Nat},i < a.size->∃ p,a[i]?=some p/\p∈a₀.toList:=fun {i} hi=>⟨a[i],getElem?_pos a i hi,ha _ (by simp)⟩
 have atB:∀ {i:Nat},i < b.size->∃ p,b[i]?=some p/\p∈a₀.toList:=fun {i} hi=>⟨b[i],getElem?_pos b i hi,hb _ (by simp)⟩
 have KA:∀ {i:Nat} {p:Keyed},a[i]?=some p->Kr rk a i=rk p:=fun e=>cR e
 have SKa:∀ i j,i<=j->j < a.size->Kr rk a i<=Kr rk a j:=fun i j hij hj=>by
  obtain ⟨p,ep,_⟩:=atA (show i < a.size by omega)
  obtain ⟨q,eq,_⟩:=atA hj
  rw [cR ep,cR eq]
  refine iC Sa ep ?_
  obtain ⟨hq,e⟩:=Array.getElem?_eq_some_iff.mp eq
  rw [← e]
  exact List.mem_iff_getElem.mpr ⟨j - i,by simp;omega,by simp [show i+(j - i)=j by omega]⟩
 have SKb:∀ i j,i<=j->j < b.size->Kr rk b i<=Kr rk b j:=fun i j hij hj=>by
  obtain ⟨p,ep,_⟩:=atB (show i < b.size by omega)
  obtain ⟨q,eq,_⟩:=atB hj
  rw [cR ep,cR eq]
  refine iC Sb ep ?_
  obtain ⟨hq,e⟩:=Array.getElem?_eq_some_iff.mp eq
  rw [← e]
  exact List.mem_iff_getElem.mpr ⟨j - i,by simp;omega,by simp [show i+(j - i)=j by omega]⟩
 refine wpS_bind (wpS_lift (wpAny_rule ⟨rfl,?_⟩))
 dsimp only
 obtain ⟨p0,e0,m0⟩:=atA (i:=a.size - 1) (by omega)
 refine wpS_bind (aQ (U:=Unit) e0 ?_)
 have I0:MH rk a b #[p0] (a.size - 1) b.size:=by
  have Z:MH rk a b #[] a.size b.size:=⟨Nat.le_refl _,Nat.le_refl _,List.Pairwise.nil,fun p _ q hq=>by simp at hq,by
   rw [List.take_of_length_le (by simp),List.take_of_length_le (by simp)];simp⟩
  exact Z.pushA Sa n1 e0 fun q hq=>hl p0 e0 q (List.mem_of_mem_take hq)
 by_cases h1:a.size - 1=0
 ·rw [if_pos (by simpa using h1)]
  exact wpS_pure (h _ _ (Sm.refl _) (I0.doneA Sb h1))
 rw [if_neg (by simpa using h1)]
 by_cases h2:b.size=1
 ·rw [if_pos (by simpa using h2)]
  exact wpS_pure (h _ _ (Sm.refl _) (I0.firstB Sa h2 hf))
 rw [if_neg (by simpa using h2)]
 refine wpS_bind (wpS_get ?_)
 refine wpS_bind (wpS_mono (wpS_forRange (I:=fun x c st'=>Sm st st'/\∃ na nb out mg,c=(none,na,nb,out,mg)/\MH rk a b out na nb/\1<=na/\2<=nb/\x+1+na+nb<=a.size+b.size)
   (Q:=fun c st'=>Sm st st'/\∃ r,c.1=some r/\Res rk a b r) ?step ?fin ⟨Sm.refl _,_,_,_,_,rfl,I0,by omega,by omega,by omega⟩) ?post)
 case fin=>
  rintro c st' ⟨_,na,nb,out,mg,rfl,I,x1,x2,x3⟩
  exact absurd x3 (by omega)
 case post=>
  rintro ⟨r0,c⟩ st' ⟨S,r,rfl,hr⟩
  exact wpS_pure (h r st' S hr)
 case step=>
  rintro x c st1 _ hx ⟨S1,na,nb,out,mg,rfl,I,x1,x2,x3⟩
  dsimp only
  have kd1:kindOf st1=kd:=S1.kind.trans kind
  refine wpS_bind (wpS_mono (wpS_forRange (I:=fun y c st'=>st'=st1/\∃ na' nb' out' ac bc,c=(none,na',nb',out',ac,bc)/\MH rk a b out' na' nb'/\1<=na'/\2<=nb'/\x+1+y+na'+nb'<=a.size+b.size)
   (Q:=fun c st'=>st'=st1/\GoH rk a b (x+2) c.1 c.2.1 c.2.2.1 c.2.2.2.1) ?istep ?ifin ⟨rfl,_,_,_,_,_,rfl,I,x1,x2,by omega⟩) ?ipost)
  case ifin=>
   rintro c st' ⟨rfl,na',nb',out',ac,bc,rfl,I',y1,y2,y3⟩
   exact ⟨rfl,.inr ⟨rfl,I',y1,y2,by dsimp only;omega⟩⟩
  case istep=>
   rintro y c st' _ hy ⟨rfl,na',nb',out',ac,bc,rfl,I',y1,y2,y3⟩
   dsimp only
   obtain ⟨pb,eb,mb⟩:=atB (i:=nb' - 1) (by have:=I'.hb;omega)
   obtain ⟨pa,ea,ma⟩:=atA (i:=na' - 1) (by have:=I'.ha;omega)
   refine wpS_bind (aQ (U:=Unit) eb (wpS_bind (aQ (U:=Unit) ea (wpS_bind (L _ _ _ _ mb ma kd1 ?_)))))
   dsimp only
   refine aK (fun hw=>?_) (fun hw=>?_)
   ·have hw:=of_decide_eq_true hw
    refine wpS_bind (aQ (U:=Unit) ea ?_)
    have I2:=I'.pushA Sa y1 ea fun q hq=>Int.le_trans (rz Sb (by omega) eb hq) (by omega)
    refine aK (fun h3=>?_) (fun h3=>?_)
    ·exact wpS_pure ⟨rfl,.inl ⟨_,rfl,I2.doneA Sb (by simpa using h3)⟩⟩
    have h3':¬ na' - 1=0:=by simpa using h3
    refine aK (fun _=>?_) (fun _=>?_)
    ·exact wpS_pure ⟨rfl,.inr ⟨rfl,I2,by dsimp only;omega,by dsimp only;omega,by dsimp only;omega⟩⟩
    ·exact wpS_pure ⟨rfl,_,_,_,_,_,rfl,I2,by omega,by omega,by omega⟩
   ·have hw:¬ rk pb < rk pa:=fun z=>hw (decide_eq_true z)
    refine wpS_bind (aQ (U:=Unit) eb ?_)
    have I2:=I'.pushB Sb (by omega) eb fun q hq=>Int.le_trans (rz Sa y1 ea hq) (by omega)
    refine aK (fun h3=>?_) (fun h3=>?_)
    ·exact wpS_pure ⟨rfl,.inl ⟨_,rfl,I2.firstB Sa (by simpa using h3) hf⟩⟩
    have h3':¬ nb' - 1=1:=by simpa using h3
    refine aK (fun _=>?_) (fun _=>?_)
    ·exact wpS_pure ⟨rfl,.inr ⟨rfl,I2,by dsimp only;omega,by dsimp only;omega,by dsimp only;omega⟩⟩
    ·exact wpS_pure ⟨rfl,_,_,_,_,_,rfl,I2,by omega,by omega,by omega⟩
  case ipost=>
   rintro ⟨r0,na1,nb1,out1,ac1,bc1⟩ st' ⟨rfl,G⟩
   dsimp only at G ⊢
   rcases G with ⟨r,rfl,hr⟩ | ⟨rfl,I1,y1,y2,y3⟩
   ·exact wpS_pure ⟨S1,r,rfl,hr⟩
   dsimp only
   refine wpS_bind (wpS_lift (wpAny_rule ⟨rfl,?_⟩))
   refine wpS_bind (wpS_mono (wpS_forRange (I:=fun y c st'=>Sm st st'/\∃ na' nb' out' mg ac bc,c=(none,na',nb',out',mg,ac,bc)/\MH rk a b out' na' nb'/\1<=na'/\2<=nb'/\x+2+na'+nb'<=a.size+b.size)
    (Q:=fun c st'=>Sm st st'/\GoH rk a b (x+2) c.1 c.2.1 c.2.2.1 c.2.2.2.1) ?gstep ?gfin ⟨S1,_,_,_,_,_,_,rfl,I1,y1,y2,y3⟩) ?gpost)
   case gfin=>
    rintro c st' ⟨S2,na',nb',out',mg',ac,bc,rfl,I',y1,y2,y3⟩
    exact ⟨S2,.inr ⟨rfl,I',y1,y2,y3⟩⟩
   case gpost=>
    rintro ⟨r0,na1,nb1,out1,mg1,ac1,bc1⟩ st' ⟨S2,G⟩
    dsimp only at G ⊢
    rcases G with ⟨r,rfl,hr⟩ | ⟨rfl,I1,y1,y2,y3⟩
    ·exact wpS_pure ⟨S2,r,rfl,hr⟩
    dsimp only
    refine wpS_bind (rn S2 fun st2 S3=>?_)
    exact wpS_pure ⟨S3,_,_,_,_,rfl,I1,y1,y2,by omega⟩
   case gstep=>
    rintro y c st' _ hy ⟨S2,na',nb',out',mg',ac,bc,rfl,I',y1,y2,y3⟩
    dsimp only
    obtain ⟨pb,eb,mb⟩:=atB (i:=nb' - 1) (by have:=I'.hb;omega)
    have hna:=I'.ha
    have hnb:=I'.hb
    refine aK (fun _=>?_) (fun _=>?_)
    all_goals
     refine wpS_bind (rn S2 fun st3 S3=>?_)
     have kd3:kindOf st3=kd:=S3.kind.trans kind
     refine wpS_bind (aQ (U:=Unit) eb ?_)
     refine wpS_bind (fc (fun i=>decide (Kr rk a (0+i)<=rk pb)) (by omega) (fun i R hi r=>lC L mb ha (by omega) kd3 (by simpa using r)) (fun i j hij hj hq=>decide_eq_true (Int.le_trans (SKa _ _ (by omega) (by omega)) (of_decide_eq_true hq))) fun k hk hk1 hk2=>?_)
     dsimp only
     have I2:=I'.takeA Sa k (by omega) fun q hq p hp=>by
      obtain ⟨j,h3,h4,e⟩:=lK hq
      have:=of_decide_eq_false (hk2 j (by omega) (by omega))
      rw [Nat.zero_add,cR e] at this
      exact Int.le_trans (rz Sb (by omega) eb hp) (by omega)
     have hgt:∀ q∈a.toList.take k,rk q<=rk pb:=fun q hq=>by
      obtain ⟨j,h3,e⟩:=Bx hq
      have:=of_decide_eq_true (hk1 j h3)
      rw [Nat.zero_add,cR e] at this
      exact this
     refine aK (fun hk0=>?_) (fun hk0=>?_)
     ·refine aK (fun h3=>?_) (fun h3=>?_)
      ·exact wpS_pure ⟨S3,.inl ⟨_,rfl,I2.doneA Sb (by simpa using h3)⟩⟩
      have h3':¬ k=0:=by simpa using h3
      have hi1:1<=k:=by omega
      have J:=I2
      have hg2:=hgt
      refine wpS_bind (aQ (U:=Unit) eb ?_)
      have J2:=J.pushB Sb (by omega) eb hg2
      refine aK (fun h5=>?_) (fun h5=>?_)
      ·exact wpS_pure ⟨S3,.inl ⟨_,rfl,J2.firstB Sa (by simpa using h5) hf⟩⟩
      have h5':¬ nb' - 1=1:=by simpa using h5
      obtain ⟨pa,ea,ma⟩:=atA (i:=k - 1) (by have:=J.ha;omega)
      refine wpS_bind (aQ (U:=Unit) ea ?_)
      refine wpS_bind (fc (fun i=>decide (Kr rk b (0+i) < rk pa)) (by omega) (fun i R hi r=>lC L ma hb (by omega) kd3 (by simpa using r)) (fun i j hij hj hq=>decide_eq_true (Int.lt_of_le_of_lt (SKb _ _ (by omega) (by omega)) (of_decide_eq_true hq))) fun k1 hk1 hk11 hk12=>?_)
      dsimp only
      have J3:=J2.takeB Sb k1 (by omega) fun q hq p hp=>by
       obtain ⟨j,h3,h4,e⟩:=lK hq
       have:=of_decide_eq_false (hk12 j (by omega) (by omega))
       rw [Nat.zero_add,cR e] at this
       exact Int.le_trans (rz Sa hi1 ea hp) (by omega)
      have hle:∀ q∈b.toList.take k1,rk q<=rk pa:=fun q hq=>by
       obtain ⟨j,h3,e⟩:=Bx hq
       have:=of_decide_eq_true (hk11 j h3)
       rw [Nat.zero_add,cR e] at this
       omega
      refine aK (fun hk10=>?_) (fun hk10=>?_)
      ·refine aK (fun h6=>?_) (fun h6=>aK (fun h8=>?_) (fun h8=>?_))
       ·exact wpS_pure ⟨S3,.inl ⟨_,rfl,J3.firstB Sa (by simpa using h6) hf⟩⟩
       ·exact wpS_pure ⟨S3,.inl ⟨_,rfl,J3.doneB Sa (by simpa using h8)⟩⟩
       have h6':¬ k1=1:=by simpa using h6
       have h8':¬ k1=0:=by simpa using h8
       refine wpS_bind (aQ (U:=Unit) ea ?_)
       have J5:=J3.pushA Sa hi1 ea hle
       refine aK (fun h7=>?_) (fun h7=>?_)
       ·exact wpS_pure ⟨S3,.inl ⟨_,rfl,J5.doneA Sb (by simpa using h7)⟩⟩
       have h7':¬ k - 1=0:=by simpa using h7
       refine aK (fun _=>?_) (fun _=>?_)
       ·exact wpS_pure ⟨S3,.inr ⟨rfl,J5,by dsimp only;omega,by dsimp only;omega,by dsimp only;omega⟩⟩
       ·exact wpS_pure ⟨S3,_,_,_,_,_,_,rfl,J5,by omega,by omega,by omega⟩
      ·obtain rfl:k1=nb' - 1:=by omega
       refine wpS_bind (aQ (U:=Unit) ea ?_)
       have J5:=J2.pushA Sa hi1 ea hle
       refine aK (fun h7=>?_) (fun h7=>?_)
       ·exact wpS_pure ⟨S3,.inl ⟨_,rfl,J5.doneA Sb (by simpa using h7)⟩⟩
       have h7':¬ k - 1=0:=by simpa using h7
       refine aK (fun _=>?_) (fun _=>?_)
       ·exact wpS_pure ⟨S3,.inr ⟨rfl,J5,by dsimp only;omega,by dsimp only;omega,by dsimp only;omega⟩⟩
       ·exact wpS_pure ⟨S3,_,_,_,_,_,_,rfl,J5,by omega,by omega,by omega⟩
     ·obtain rfl:k=na':=by omega
      have hi1:1<=k:=y1
      have J:=I'
      have hg2:=hgt
      refine wpS_bind (aQ (U:=Unit) eb ?_)
      have J2:=J.pushB Sb (by omega) eb hg2
      refine aK (fun h5=>?_) (fun h5=>?_)
      ·exact wpS_pure ⟨S3,.inl ⟨_,rfl,J2.firstB Sa (by simpa using h5) hf⟩⟩
      have h5':¬ nb' - 1=1:=by simpa using h5
      obtain ⟨pa,ea,ma⟩:=atA (i:=k - 1) (by have:=J.ha;omega)
      refine wpS_bind (aQ (U:=Unit) ea ?_)
      refine wpS_bind (fc (fun i=>decide (Kr rk b (0+i) < rk pa)) (by omega) (fun i R hi r=>lC L ma hb (by omega) kd3 (by simpa using r)) (fun i j hij hj hq=>decide_eq_true (Int.lt_of_le_of_lt (SKb _ _ (by omega) (by omega)) (of_decide_eq_true hq))) fun k1 hk1 hk11 hk12=>?_)
      dsimp only
      have J3:=J2.takeB Sb k1 (by omega) fun q hq p hp=>by
       obtain ⟨j,h3,h4,e⟩:=lK hq
       have:=of_decide_eq_false (hk12 j (by omega) (by omega))
       rw [Nat.zero_add,cR e] at this
       exact Int.le_trans (rz Sa hi1 ea hp) (by omega)
      have hle:∀ q∈b.toList.take k1,rk q<=rk pa:=fun q hq=>by
       obtain ⟨j,h3,e⟩:=Bx hq
       have:=of_decide_eq_true (hk11 j h3)
       rw [Nat.zero_add,cR e] at this
       omega
      refine aK (fun hk10=>?_) (fun hk10=>?_)
      ·refine aK (fun h6=>?_) (fun h6=>aK (fun h8=>?_) (fun h8=>?_))
       ·exact wpS_pure ⟨S3,.inl ⟨_,rfl,J3.firstB Sa (by simpa using h6) hf⟩⟩
       ·exact wpS_pure ⟨S3,.inl ⟨_,rfl,J3.doneB Sa (by simpa using h8)⟩⟩
       have h6':¬ k1=1:=by simpa using h6
       have h8':¬ k1=0:=by simpa using h8
       refine wpS_bind (aQ (U:=Unit) ea ?_)
       have J5:=J3.pushA Sa hi1 ea hle
       refine aK (fun h7=>?_) (fun h7=>?_)
       ·exact wpS_pure ⟨S3,.inl ⟨_,rfl,J5.doneA Sb (by simpa using h7)⟩⟩
       have h7':¬ k - 1=0:=by simpa using h7
       refine aK (fun _=>?_) (fun _=>?_)
       ·exact wpS_pure ⟨S3,.inr ⟨rfl,J5,by dsimp only;omega,by dsimp only;omega,by dsimp only;omega⟩⟩
       ·exact wpS_pure ⟨S3,_,_,_,_,_,_,rfl,J5,by omega,by omega,by omega⟩
      ·obtain rfl:k1=nb' - 1:=by omega
       refine wpS_bind (aQ (U:=Unit) ea ?_)
       have J5:=J2.pushA Sa hi1 ea hle
       refine aK (fun h7=>?_) (fun h7=>?_)
       ·exact wpS_pure ⟨S3,.inl ⟨_,rfl,J5.doneA Sb (by simpa using h7)⟩⟩
       have h7':¬ k - 1=0:=by simpa using h7
       refine aK (fun _=>?_) (fun _=>?_)
       ·exact wpS_pure ⟨S3,.inr ⟨rfl,J5,by dsimp only;omega,by dsimp only;omega,by dsimp only;omega⟩⟩
       ·exact wpS_pure ⟨S3,_,_,_,_,_,_,rfl,J5,by omega,by omega,by omega⟩
theorem uO (xs:Array Keyed) (i:Nat):Kr rk xs i=match xs.toList[i]? with | some p=>rk p | none=>0:=by
 unfold Kr
 rw [Array.getElem?_toList]
 all_goals (cases xs[i]? <;> rfl)
theorem vL {xs:Array Keyed} {lo hi:Nat} (h:Seg rk xs lo hi):o9 rk ((xs.toList.drop lo).take (hi - lo)):=by
 refine List.pairwise_iff_getElem.mpr fun i j hi' hj hij=>?_
 have hj2:j < hi - lo/\lo+j < xs.size:=by simp at hj;omega
 have:=h (lo+i) (lo+j) (by omega) (by omega) (by omega)
 rw [cR (getElem?_pos xs (lo+i) (by omega)),cR (getElem?_pos xs (lo+j) hj2.2)] at this
 simpa using this
theorem Td {xs:Array Keyed} {P S D:List Keyed} (e:xs.toList=P ++ S ++ D) (h:o9 rk S):Seg rk xs P.length (P.length+S.length):=by
 intro i j h1 h2 h3
 have at_:∀ k,P.length<=k->k < P.length+S.length->xs.toList[k]?=S[k - P.length]?:=fun k a b=>by
  rw [e,List.append_assoc,List.getElem?_append_right a,List.getElem?_append_left (by omega)]
 have hi:i - P.length < S.length:=by omega
 have hj:j - P.length < S.length:=by omega
 rw [uO,uO,at_ i h1 (by omega),at_ j (by omega) h3,List.getElem?_eq_getElem hi,List.getElem?_eq_getElem hj]
 show rk _<=rk _
 by_cases hij:i=j
 ·subst hij;exact Int.le_refl _
 ·exact List.pairwise_iff_getElem.mp h _ _ hi hj (by omega)
theorem JM:∀ (l:List Keyed) (off n:Nat) (xs:Array Keyed),off+n+l.length<=xs.size->∀ k,((l.zipIdx n).foldl (fun a (x:Keyed×Nat)=>a.setIfInBounds (off+x.2) x.1) xs)[k]?=if off+n<=k/\k < off+n+l.length then l[k - (off+n)]? else xs[k]?
 | [],off,n,xs,h,k=>by
  rw [if_neg (by rw [List.length_nil];omega)]
  rfl
 | p :: l,off,n,xs,h,k=>by
  have hl:(p :: l).length=l.length+1:=rfl
  show ((l.zipIdx (n+1)).foldl (fun a (x:Keyed×Nat)=>a.setIfInBounds (off+x.2) x.1) (xs.setIfInBounds (off+n) p))[k]?=_
  rw [JM l off (n+1) (xs.setIfInBounds (off+n) p) (by rw [Array.size_setIfInBounds];omega)]
  by_cases h1:k=off+n
  ·subst h1
   rw [if_neg (by omega),if_pos (by omega),Array.getElem?_setIfInBounds,if_pos rfl,if_pos (by omega),Nat.sub_self];rfl
  ·by_cases h2:off+(n+1)<=k/\k < off+(n+1)+l.length
   ·rw [if_pos h2,if_pos (by omega),show k - (off+n)=(k - (off+(n+1)))+1 by omega,List.getElem?_cons_succ]
   ·rw [if_neg h2,if_neg (by omega),Array.getElem?_setIfInBounds,if_neg (by omega)]
theorem JN (l:List Keyed) (off:Nat) (xs:Array Keyed) (h:off+l.length<=xs.size):(l.zipIdx.foldl (fun a (x:Keyed×Nat)=>a.setIfInBounds (off+x.2) x.1) xs).toList=xs.toList.take off ++ l ++ xs.toList.drop (off+l.length):=by
 refine List.ext_getElem? fun k=>?_
 rw [Array.getElem?_toList,JM l off 0 xs (by omega) k]
 have t1:(xs.toList.take off).length=off:=by rw [List.length_take,Array.length_toList];omega
 rw [List.append_assoc]
 by_cases h1:k < off
 ·rw [if_neg (by omega),List.getElem?_append_left (by omega),List.getElem?_take_of_lt h1,Array.getElem?_toList]
 ·rw [List.getElem?_append_right (by omega),t1]
  by_cases h2:k < off+l.length
  ·rw [if_pos ⟨by omega,by omega⟩,List.getElem?_append_left (by omega),Nat.add_zero]
  ·rw [if_neg (by omega),List.getElem?_append_right (by omega),List.getElem?_drop,show off+l.length+(k - off - l.length)=k by omega,Array.getElem?_toList]
theorem Dj {xs:Array Keyed} {sa na nb:Nat} (g1:Seg rk xs sa (sa+na)) (g2:Seg rk xs (sa+na) (sa+na+nb)) (n2:1<=nb) (h:∀ i,sa<=i->i < sa+na->Kr rk xs i<=Kr rk xs (sa+na)):Seg rk xs sa (sa+na+nb):=fun i j h1 h2 h3=>by
 by_cases a:j < sa+na
 ·exact g1 i j h1 h2 a
 ·by_cases b:i < sa+na
  ·exact Int.le_trans (h i h1 b) (g2 _ _ (Nat.le_refl _) (by omega) h3)
  ·exact g2 i j (by omega) h2 h3
theorem Fy {xs m:Array Keyed} {sa na nb k n':Nat} (hsz:sa+na+nb<=xs.size) (g1:Seg rk xs sa (sa+na)) (g2:Seg rk xs (sa+na) (sa+na+nb)) (hk:k < na) (hn:n'<=nb) (n2:1<=nb)
  (hA:∀ i,i < k->Kr rk xs (sa+i)<=Kr rk xs (sa+na)) (hX:∀ i,k<=i->i < na->Kr rk xs (sa+na) < Kr rk xs (sa+i)) (hB2:∀ i,n'<=i->i < nb->Kr rk xs (sa+na - 1)<=Kr rk xs (sa+na+i))
  (hm:Res rk (xs.extract (sa+k) (sa+na)) (xs.extract (sa+na) (sa+na+n')) m):
  (m.toList.zipIdx.foldl (fun a (x:Keyed×Nat)=>a.setIfInBounds (sa+k+x.2) x.1) xs).Perm xs/\Seg rk (m.toList.zipIdx.foldl (fun a (x:Keyed×Nat)=>a.setIfInBounds (sa+k+x.2) x.1) xs) sa (sa+na+nb)/\
  ∀ i,i < sa\/sa+na+nb<=i->Kr rk (m.toList.zipIdx.foldl (fun a (x:Keyed×Nat)=>a.setIfInBounds (sa+k+x.2) x.1) xs) i=Kr rk xs i:=by
 obtain ⟨hm1,hm2⟩:=hm
 rw [jr xs (by omega),jr xs (by omega),show sa+na - (sa+k)=na - k by omega,show sa+na+n' - (sa+na)=n' by omega] at hm2
 have lt:xs.toList.length=xs.size:=by simp
 have lm:m.toList.length=na - k+n':=by
  rw [hm2.length_eq,List.length_append,List.length_take,List.length_take,List.length_drop,List.length_drop,lt];omega
 have e:=JN m.toList (sa+k) xs (by omega)
 rw [lm,show sa+k+(na - k+n')=sa+na+n' by omega] at e
 generalize m.toList.zipIdx.foldl (fun a (x:Keyed×Nat)=>a.setIfInBounds (sa+k+x.2) x.1) xs=W at e ⊢
 have t0:xs.toList.take (sa+k)=xs.toList.take sa ++ (xs.toList.drop sa).take k:=by
  have:=mC xs.toList (i:=sa) (n:=sa+k) (by omega)
  rwa [show sa+k - sa=k by omega] at this
 have t1:xs.toList.take (sa+na)=xs.toList.take (sa+k) ++ (xs.toList.drop (sa+k)).take (na - k):=by
  have:=mC xs.toList (i:=sa+k) (n:=sa+na) (by omega)
  rwa [show sa+na - (sa+k)=na - k by omega] at this
 have t2:xs.toList.drop (sa+na)=(xs.toList.drop (sa+na)).take n' ++ xs.toList.drop (sa+na+n'):=mz _ _ _
 have t3:xs.toList.drop (sa+na+n')=(xs.toList.drop (sa+na+n')).take (nb - n') ++ xs.toList.drop (sa+na+nb):=by
  have:=mz xs.toList (sa+na+n') (nb - n')
  rwa [show sa+na+n'+(nb - n')=sa+na+nb by omega] at this
 have eW:W.toList=xs.toList.take sa ++ ((xs.toList.drop sa).take k ++ m.toList ++ (xs.toList.drop (sa+na+n')).take (nb - n')) ++ xs.toList.drop (sa+na+nb):=by
  rw [e,t0]
  conv=>lhs;rw [t3]
  simp only [List.append_assoc]
 have lP:(xs.toList.take sa).length=sa:=by rw [List.length_take,lt];omega
 have lS:((xs.toList.drop sa).take k ++ m.toList ++ (xs.toList.drop (sa+na+n')).take (nb - n')).length=na+nb:=by
  rw [List.length_append,List.length_append,lm,List.length_take,List.length_take,List.length_drop,List.length_drop,lt];omega
 have kr:∀ {i:Nat} {p:Keyed},xs[i]?=some p->Kr rk xs i=rk p:=fun e=>cR e
 have memM:∀ {q:Keyed},q∈m.toList->(∃ i,k<=i/\i < na/\xs[sa+i]?=some q)\/∃ i,i < n'/\xs[sa+na+i]?=some q:=fun {q} hq=>by
  rcases List.mem_append.mp (hm2.mem_iff.mp hq) with hq | hq
  ·obtain ⟨j,h1,h2,e⟩:=lK hq
   exact .inl ⟨j - sa,by omega,by omega,by rw [show sa+(j - sa)=j by omega];exact e⟩
  ·obtain ⟨j,h1,h2,e⟩:=lK hq
   exact .inr ⟨j - (sa+na),by omega,by rw [show sa+na+(j - (sa+na))=j by omega];exact e⟩
 refine ⟨?_,?_,?_⟩
 ·rw [Array.perm_iff_toList_perm,e]
  have ex:xs.toList=xs.toList.take (sa+k) ++ ((xs.toList.drop (sa+k)).take (na - k) ++ (xs.toList.drop (sa+na)).take n') ++ xs.toList.drop (sa+na+n'):=by
   conv=>lhs;rw [← List.take_append_drop (sa+na) xs.toList,t1,t2]
   simp only [List.append_assoc]
  conv=>rhs;rw [ex]
  exact List.Perm.append_right _ (List.Perm.append_left _ hm2)
 ·have:=Td (rk:=rk) eW ?_
  ·rw [lP,lS,← Nat.add_assoc] at this;exact this
  have s1:o9 rk ((xs.toList.drop sa).take k):=by
   have:=vL (rk:=rk) (xs:=xs) (lo:=sa) (hi:=sa+k) fun i j a b c=>g1 i j a b (by omega)
   rwa [show sa+k - sa=k by omega] at this
  have s2:o9 rk ((xs.toList.drop (sa+na+n')).take (nb - n')):=by
   have:=vL (rk:=rk) (xs:=xs) (lo:=sa+na+n') (hi:=sa+na+nb) fun i j a b c=>g2 i j (by omega) b c
   rwa [show sa+na+nb - (sa+na+n')=nb - n' by omega] at this
  refine List.pairwise_append.mpr ⟨List.pairwise_append.mpr ⟨s1,hm1,fun p hp q hq=>?_⟩,s2,fun p hp q hq=>?_⟩
  ·obtain ⟨j,h1,h2,ep⟩:=lK hp
   have a1:=hA (j - sa) (by omega)
   rw [show sa+(j - sa)=j by omega,kr ep] at a1
   rcases memM hq with ⟨i,h3,h4,eq⟩ | ⟨i,h3,eq⟩
   ·have:=hX i h3 h4
    rw [kr eq] at this;omega
   ·have:=g2 (sa+na) (sa+na+i) (by omega) (by omega) (by omega)
    rw [kr eq] at this;omega
  ·obtain ⟨j,h1,h2,eq⟩:=lK hq
   rcases List.mem_append.mp hp with hp | hp
   ·obtain ⟨i,h3,h4,ep⟩:=lK hp
    have a1:=hA (i - sa) (by omega)
    rw [show sa+(i - sa)=i by omega,kr ep] at a1
    have:=g2 (sa+na) j (by omega) (by omega) (by omega)
    rw [kr eq] at this;omega
   ·rcases memM hp with ⟨i,h3,h4,ep⟩ | ⟨i,h3,ep⟩
    ·have a1:=g1 (sa+i) (sa+na - 1) (by omega) (by omega) (by omega)
     have a2:=hB2 (j - (sa+na)) (by omega) (by omega)
     rw [show sa+na+(j - (sa+na))=j by omega,kr eq] at a2
     rw [kr ep] at a1;omega
    ·have:=g2 (sa+na+i) j (by omega) (by omega) (by omega)
     rw [kr ep,kr eq] at this;exact this
 ·intro i hi
  rw [uO,uO,eW]
  rcases hi with hi | hi
  ·rw [List.append_assoc,List.getElem?_append_left (by omega),List.getElem?_take_of_lt hi]
  ·rw [List.getElem?_append_right (by rw [List.length_append,lP,lS];omega),List.length_append,lP,lS,List.getElem?_drop,show sa+na+nb+(i - (sa+(na+nb)))=i by omega]
theorem zP {st:SortSt} {i sa na nb pw pw2:Nat} {Q:Bool->SortSt->Prop} (L:qZ M A E s kd rk a₀) (hB:SB a₀ kd st) (e1:(pendingOf st)[i]?=some (sa,na,pw)) (e2:(pendingOf st)[i+1]?=some (sa+na,nb,pw2)) (n1:1<=na) (n2:1<=nb)
  (hsz:sa+na+nb<=a₀.size) (g1:Seg rk (arrOf st) sa (sa+na)) (g2:Seg rk (arrOf st) (sa+na) (sa+na+nb))
  (h:∀ st',SB a₀ kd st'->pendingOf st'=((pendingOf st).setIfInBounds i (sa,na+nb,pw)).eraseIdxIfInBounds (i+1)->Seg rk (arrOf st') sa (sa+na+nb)->(∀ k,k < sa\/sa+na+nb<=k->Kr rk (arrOf st') k=Kr rk (arrOf st) k)->Q true st'):
  wpS M A E s (mergeAt' i) Q st:=by
 refine wpS_bind (wpS_get ?_)
 dsimp only
 rw [e1,e2]
 dsimp only
 have hsz':sa+na+nb<=(arrOf st).size:=by rw [hB.size];exact hsz
 refine wpS_bind (m:=set _) ?_
 show wpS M A E s (modify fun _=>setPending st (((pendingOf st).setIfInBounds i (sa,na+nb,pw)).eraseIdxIfInBounds (i+1))) _ st
 refine wpS_modify ?_
 obtain ⟨p0,ep0,m0⟩:=hB.at (i:=sa+na) (by omega)
 refine wpS_bind (aQ (U:=Unit) ep0 ?_)
 have hmem:∀ p∈(arrOf st).toList,p∈a₀.toList:=fun p hp=>hB.mem hp
 have hK0:Kr rk (arrOf st) (sa+na)=rk p0:=cR ep0
 have hB1:SB a₀ kd (setPending st (((pendingOf st).setIfInBounds i (sa,na+nb,pw)).eraseIdxIfInBounds (i+1))):=⟨hB.perm,hB.kind,hB.failed⟩
 refine wpS_bind (fc (arr:=arrOf st) (fun i=>decide (Kr rk (arrOf st) (sa+i)<=rk p0)) (by omega) (fun i R hi r=>lC L m0 hmem (by omega) hB1.kind (by simpa using r)) (fun i j hij hj hq=>decide_eq_true (Int.le_trans (g1 _ _ (by omega) (by omega) (by omega)) (of_decide_eq_true hq))) fun k hk hk1 hk2=>?_)
 dsimp only
 refine aK (fun h3=>?_) (fun h3=>?_)
 ·have h3':na - k=0:=by simpa using h3
  refine wpS_pure (h _ hB1 rfl (Dj g1 g2 n2 fun i a b=>?_) fun _ _=>rfl)
  have:=of_decide_eq_true (hk1 (i - sa) (by omega))
  rw [show sa+(i - sa)=i by omega] at this
  rw [hK0];exact this
 have h3':¬ na - k=0:=by simpa using h3
 obtain ⟨p1,ep1,m1⟩:=hB.at (i:=sa+k+(na - k) - 1) (by omega)
 refine wpS_bind (aQ (U:=Unit) ep1 ?_)
 have hK1:Kr rk (arrOf st) (sa+na - 1)=rk p1:=by rw [show sa+na - 1=sa+k+(na - k) - 1 by omega];exact cR ep1
 refine wpS_bind (fc (arr:=arrOf st) (fun i=>decide (Kr rk (arrOf st) (sa+na+i) < rk p1)) (by omega) (fun i R hi r=>lC L m1 hmem (by omega) hB1.kind (by simpa using r)) (fun i j hij hj hq=>decide_eq_true (Int.lt_of_le_of_lt (g2 _ _ (by omega) (by omega) (by omega)) (of_decide_eq_true hq))) fun n' hn' hn1 hn2=>?_)
 dsimp only
 have hB2:∀ i,n'<=i->i < nb->Kr rk (arrOf st) (sa+na - 1)<=Kr rk (arrOf st) (sa+na+i):=fun i a b=>by
  have:=of_decide_eq_false (hn2 i a b)
  rw [hK1];omega
 refine aK (fun h4=>?_) (fun h4=>?_)
 ·have h4':n'=0:=by simpa using h4
  refine wpS_pure (h _ hB1 rfl (Dj g1 g2 n2 fun i a b=>?_) fun _ _=>rfl)
  have a1:=g1 i (sa+na - 1) a (by omega) (by omega)
  have a2:=hB2 0 (by omega) (by omega)
  exact Int.le_trans a1 a2
 have h4':¬ n'=0:=by simpa using h4
 have hA:∀ i,i < k->Kr rk (arrOf st) (sa+i)<=Kr rk (arrOf st) (sa+na):=fun i hi=>by rw [hK0];exact of_decide_eq_true (hk1 i hi)
 have hX:∀ i,k<=i->i < na->Kr rk (arrOf st) (sa+na) < Kr rk (arrOf st) (sa+i):=fun i a b=>by
  have:=of_decide_eq_false (hk2 i a b)
  rw [hK0];omega
 have memX:∀ p∈((arrOf st).extract (sa+k) (sa+na)).toList,∃ j,sa+k<=j/\j < sa+na/\(arrOf st)[j]?=some p:=fun p hp=>by
  rw [jr _ (by omega)] at hp
  obtain ⟨j,a,b,c⟩:=lK hp
  exact ⟨j,a,by omega,c⟩
 have memY:∀ p∈((arrOf st).extract (sa+na) (sa+na+n')).toList,∃ j,sa+na<=j/\j < sa+na+n'/\(arrOf st)[j]?=some p:=fun p hp=>by
  rw [jr _ (by omega)] at hp
  obtain ⟨j,a,b,c⟩:=lK hp
  exact ⟨j,a,by omega,c⟩
 have fin:∀ (m:Array Keyed) (st2:SortSt),Sm (setPending st (((pendingOf st).setIfInBounds i (sa,na+nb,pw)).eraseIdxIfInBounds (i+1))) st2->Res rk ((arrOf st).extract (sa+k) (sa+na)) ((arrOf st).extract (sa+na) (sa+na+n')) m->
   wpS M A E s (do
    modify fun s=>setArr s (List.foldl (fun a (x:Keyed×Nat)=>a.setIfInBounds (sa+k+x.snd) x.fst) (arrOf s) m.toList.zipIdx)
    let __do_lift ← get
    pure (failedOf __do_lift).isNone) Q st2:=fun m st2 S R=>by
  obtain ⟨q1,q2,q3⟩:=Fy hsz' g1 g2 (by omega) hn' n2 hA hX hB2 R
  refine wpS_bind (wpS_modify (wpS_bind (wpS_get (wpS_pure ?_))))
  have ea:arrOf st2=arrOf st:=S.arr
  have ef:failedOf st2=none:=S.failed.trans hB.failed
  show Q (failedOf st2).isNone _
  rw [ef]
  refine h _ ⟨?_,S.kind.trans hB.kind,ef⟩ S.pend ?_ ?_
  ·show (List.foldl _ (arrOf st2) _).Perm a₀
   rw [ea];exact q1.trans hB.perm
  ·show Seg rk (List.foldl _ (arrOf st2) _) _ _
   rw [ea];exact q2
  ·intro k' hk'
   show Kr rk (List.foldl _ (arrOf st2) _) _=_
   rw [ea];exact q3 k' hk'
 have szX:((arrOf st).extract (sa+k) (sa+na)).size=na - k:=by rw [Array.size_extract];omega
 have szY:((arrOf st).extract (sa+na) (sa+na+n')).size=n':=by rw [Array.size_extract];omega
 have haX:∀ p∈((arrOf st).extract (sa+k) (sa+na)).toList,p∈a₀.toList:=fun p hp=>by
  obtain ⟨j,_,_,e⟩:=memX p hp
  exact hmem p (by rw [← (Array.getElem?_eq_some_iff.mp e).2];simp)
 have haY:∀ p∈((arrOf st).extract (sa+na) (sa+na+n')).toList,p∈a₀.toList:=fun p hp=>by
  obtain ⟨j,_,_,e⟩:=memY p hp
  exact hmem p (by rw [← (Array.getElem?_eq_some_iff.mp e).2];simp)
 have SX:o9 rk ((arrOf st).extract (sa+k) (sa+na)).toList:=by
  rw [jr _ (by omega)]
  exact vL fun i j a b c=>g1 i j (by omega) b c
 have SY:o9 rk ((arrOf st).extract (sa+na) (sa+na+n')).toList:=by
  rw [jr _ (by omega)]
  exact vL fun i j a b c=>g2 i j (by omega) b (by omega)
 have hf:∀ p,((arrOf st).extract (sa+na) (sa+na+n'))[0]?=some p->∀ q∈((arrOf st).extract (sa+k) (sa+na)).toList,rk p<=rk q:=fun p ep q hq=>by
  rw [Array.getElem?_extract,if_pos (by omega),Nat.add_zero] at ep
  obtain ⟨j,a,b,c⟩:=memX q hq
  have:=hX (j - sa) (by omega) (by omega)
  rw [show sa+(j - sa)=j by omega,cR c,cR ep] at this
  omega
 have hl:∀ p,((arrOf st).extract (sa+k) (sa+na))[((arrOf st).extract (sa+k) (sa+na)).size - 1]?=some p->∀ q∈((arrOf st).extract (sa+na) (sa+na+n')).toList,rk q<=rk p:=fun p ep q hq=>by
  rw [szX,Array.getElem?_extract,if_pos (by omega),show sa+k+(na - k - 1)=sa+k+(na - k) - 1 by omega,ep1] at ep
  have ep:p1=p:=Option.some.inj ep
  obtain ⟨j,a,b,c⟩:=memY q hq
  have:=of_decide_eq_true (hn1 (j - (sa+na)) (by omega))
  rw [show sa+na+(j - (sa+na))=j by omega,cR c] at this
  rw [← ep];omega
 refine aK (fun _=>?_) (fun _=>?_)
 ·exact wpS_bind (zM (a:=(arrOf st).extract (sa+k) (sa+na)) (b:=(arrOf st).extract (sa+na) (sa+na+n')) L haX haY SX SY (by omega) (by omega) hf hl hB1.kind fun r st2 S R=>fin r st2 S R)
 ·exact wpS_bind (zO (a:=(arrOf st).extract (sa+k) (sa+na)) (b:=(arrOf st).extract (sa+na) (sa+na+n')) L haX haY SX SY (by omega) (by omega) hf hl hB1.kind fun r st2 S R=>fin r st2 S R)
def Runs (rk:Keyed->Int) (xs:Array Keyed):List (Nat×Nat×Nat)->Nat->Nat->Prop
 | [],s,e=>s=e
 | (st,n,_) :: l,s,e=>st=s/\1<=n/\Seg rk xs s (s+n)/\Runs rk xs l (s+n) e
theorem Runs.le {xs:Array Keyed}:∀ {l:List (Nat×Nat×Nat)} {s e:Nat},Runs rk xs l s e->s+l.length<=e
 | [],s,e,h=>Nat.le_of_eq h
 | (st,n,p) :: l,s,e,⟨_,h1,_,h2⟩=>by
  have:=Runs.le h2
  show s+(l.length+1)<=e
  omega
theorem Runs.app {xs:Array Keyed}:∀ {l:List (Nat×Nat×Nat)} {m:List (Nat×Nat×Nat)} {s e:Nat},Runs rk xs (l ++ m) s e↔∃ k,Runs rk xs l s k/\Runs rk xs m k e
 | [],m,s,e=>⟨fun h=>⟨s,rfl,h⟩,fun ⟨k,h1,h2⟩=>by
   have h1:s=k:=h1
   subst h1;exact h2⟩
 | (st,n,p) :: l,m,s,e=>⟨fun ⟨h1,h2,h3,h4⟩=>by
   obtain ⟨k,h5,h6⟩:=Runs.app.mp h4
   exact ⟨k,⟨h1,h2,h3,h5⟩,h6⟩,fun ⟨k,⟨h1,h2,h3,h4⟩,h5⟩=>⟨h1,h2,h3,Runs.app.mpr ⟨k,h4,h5⟩⟩⟩
theorem Runs.congr {xs ys:Array Keyed}:∀ {l:List (Nat×Nat×Nat)} {s e:Nat},(∀ k,s<=k->k < e->Kr rk ys k=Kr rk xs k)->Runs rk xs l s e->Runs rk ys l s e
 | [],s,e,_,h=>h
 | (st,n,p) :: l,s,e,hk,⟨h1,h2,h3,h4⟩=>by
  have hle:=Runs.le h4
  refine ⟨h1,h2,fun i j a b c=>?_,Runs.congr (fun k a b=>hk k (by omega) b) h4⟩
  rw [hk i (by omega) (by omega),hk j (by omega) (by omega)]
  exact h3 i j a b c
theorem Te {α:Type} {l:List α} {i:Nat} (h:i+1 < l.length):∃ P a b D,l=P ++ a :: b :: D/\P.length=i:=by
 refine ⟨l.take i,l[i],l[i+1],l.drop (i+2),?_,by rw [List.length_take];omega⟩
 conv=>lhs;rw [← List.take_append_drop i l]
 rw [List.drop_eq_getElem_cons (by omega),List.drop_eq_getElem_cons h]
theorem qi {st:SortSt} {i lo:Nat} {Q:Bool->SortSt->Prop} (L:qZ M A E s kd rk a₀) (hB:SB a₀ kd st) (hR:Runs rk (arrOf st) (pendingOf st).toList 0 lo) (hi:i+1 < (pendingOf st).size) (hlo:lo<=a₀.size)
  (h:∀ st',SB a₀ kd st'->Runs rk (arrOf st') (pendingOf st').toList 0 lo->(pendingOf st').size+1=(pendingOf st).size->(∀ k,lo<=k->Kr rk (arrOf st') k=Kr rk (arrOf st) k)->Q true st'):wpS M A E s (mergeAt' i) Q st:=by
 obtain ⟨P,⟨sa,na,pw⟩,⟨sb,nb,pw2⟩,D,e,hP⟩:=Te (l:=(pendingOf st).toList) (i:=i) (by simpa using hi)
 have hR0:=hR
 rw [e] at hR
 obtain ⟨k,r1,h1,n1,g1,h2,n2,g2,r2⟩:=Runs.app.mp hR
 subst h1 h2
 have le1:=r1.le
 have le2:=r2.le
 have e1:(pendingOf st)[i]?=some (sa,na,pw):=by rw [← Array.getElem?_toList,e,List.getElem?_append_right (by omega),hP,Nat.sub_self];rfl
 have e2:(pendingOf st)[i+1]?=some (sa+na,nb,pw2):=by rw [← Array.getElem?_toList,e,List.getElem?_append_right (by omega),hP,show i+1 - i=1 by omega];rfl
 refine zP L hB e1 e2 n1 n2 (by omega) g1 g2 fun st' hB' hp hS hF=>?_
 have tl:(pendingOf st').toList=P ++ (sa,na+nb,pw) :: D:=by
  rw [hp,Array.toList_eraseIdxIfInBounds,Array.toList_setIfInBounds,e,List.set_append_right _ _ (by omega),hP,Nat.sub_self,List.set_cons_zero,List.eraseIdx_append_of_length_le (by omega),hP,show i+1 - i=1 by omega]
  rfl
 refine h st' hB' ?_ ?_ fun k hk=>hF k (.inr (by omega))
 ·rw [tl]
  refine Runs.app.mpr ⟨sa,Runs.congr (fun k a b=>hF k (.inl b)) r1,rfl,by omega,by rw [← Nat.add_assoc];exact hS,?_⟩
  rw [← Nat.add_assoc]
  exact Runs.congr (fun k a b=>hF k (.inr a)) r2
 ·have l1:=congrArg List.length tl
  have l2:=congrArg List.length e
  simp at l1 l2
  omega
theorem Runs.mod {xs:Array Keyed} {f:Nat×Nat×Nat->Nat×Nat×Nat} (hf:∀ q,(f q).1=q.1/\(f q).2.1=q.2.1):∀ {l:List (Nat×Nat×Nat)} {i s e:Nat},Runs rk xs l s e->Runs rk xs (l.modify i f) s e
 | [],i,s,e,h=>by rw [List.modify_nil];exact h
 | (st,n,p) :: l,0,s,e,⟨h1,h2,h3,h4⟩=>by
  rw [List.modify_zero_cons]
  obtain ⟨a,b⟩:=hf (st,n,p)
  generalize f (st,n,p)=q at a b
  obtain ⟨x,y,z⟩:=q
  dsimp only at a b
  subst a b
  exact ⟨h1,h2,h3,h4⟩
 | (st,n,p) :: l,i+1,s,e,⟨h1,h2,h3,h4⟩=>by
  rw [List.modify_succ_cons]
  exact ⟨h1,h2,h3,Runs.mod hf h4⟩
theorem Fz {st:SortSt} {Q:Unit->SortSt->Prop} (L:qZ M A E s kd rk a₀) (hB:SB a₀ kd st) (hp:pendingOf st= #[]) (h2:2<=a₀.size)
  (h:∀ st',SB a₀ kd st'->Seg rk (arrOf st') 0 a₀.size->Q () st'):wpS M A E s sortRuns' Q st:=by
 rw [sortRuns'_eq]
 refine wpS_bind (wpS_get ?_)
 dsimp only
 generalize minRun' (arrOf st).size (arrOf st).size 0=mr
 rw [hB.size]
 refine wpS_bind (wpS_mono (wpS_forRange
  (I:=fun x c st'=>∃ lo,c=(none,lo)/\SB a₀ kd st'/\Runs rk (arrOf st') (pendingOf st').toList 0 lo/\lo<=a₀.size/\x<=lo)
  (Q:=fun c st'=>c=(none,a₀.size)/\SB a₀ kd st'/\Runs rk (arrOf st') (pendingOf st').toList 0 a₀.size) ?step ?fin ⟨0,rfl,hB,by rw [hp];rfl,by omega,by omega⟩) ?post)
 case fin=>
  rintro c st' ⟨lo,rfl,hB',hR,a,b⟩
  obtain rfl:lo=a₀.size:=by omega
  exact ⟨rfl,hB',hR⟩
 case step=>
  rintro x c st' _ hx ⟨lo,rfl,hB',hR,a,b⟩
  dsimp only
  by_cases hge:lo>=a₀.size
  ·rw [if_pos hge]
   obtain rfl:lo=a₀.size:=by omega
   exact wpS_pure ⟨rfl,hB',hR⟩
  rw [if_neg hge]
  refine wpS_bind (Bw (rk:=rk) L (by omega) (by omega) hB' fun m st1 N1 m1 m2 S1=>?_)
  dsimp only
  have R1:Runs rk (arrOf st1) (pendingOf st1).toList 0 lo:=by
   rw [N1.pe]
   exact Runs.congr (fun k _ hk=>N1.fr k hk) hR
  by_cases hmr:m < mr
  ·rw [if_pos hmr]
   refine wpS_bind (wpS_lift (wpAny_rule ⟨rfl,?_⟩))
   refine wpS_bind (JD L (by omega) (by omega) N1.sb S1 fun st2 N2 S2=>?_)
   rw [if_neg (by decide)]
   have R2:Runs rk (arrOf st2) (pendingOf st2).toList 0 lo:=by
    rw [N2.pe]
    exact Runs.congr (fun k _ hk=>N2.fr k hk) R1
   have B2:=N2.sb
   have N1:1<=min (a₀.size - lo) mr:=by omega
   have LE:lo+min (a₀.size - lo) mr<=a₀.size:=by omega
   refine wpS_bind (wpS_get ?_)
   rcases hbk:(pendingOf st2).back? with _ | ⟨s1,n1,p1⟩
   ·dsimp only
    refine wpS_bind (wpS_modify (wpS_pure ⟨_,rfl,⟨B2.perm,B2.kind,B2.failed⟩,?_,LE,by omega⟩))
    show Runs rk (arrOf st2) ((pendingOf st2).push _).toList 0 _
    rw [Array.toList_push]
    exact Runs.app.mpr ⟨lo,R2,rfl,N1,S2,rfl⟩
   ·dsimp only
    refine wpS_bind (wpS_mono (wpS_forRange (I:=fun _ c st3=>c=(none,())/\SB a₀ kd st3/\Runs rk (arrOf st3) (pendingOf st3).toList 0 lo/\Seg rk (arrOf st3) lo (lo+min (a₀.size - lo) mr))
     (Q:=fun c st3=>c=(none,())/\SB a₀ kd st3/\Runs rk (arrOf st3) (pendingOf st3).toList 0 lo/\Seg rk (arrOf st3) lo (lo+min (a₀.size - lo) mr)) ?_ (fun _ _ hh=>hh) ⟨rfl,B2,R2,S2⟩) ?_)
    ·rintro y c st3 _ _ ⟨rfl,B3,R3,S3⟩
     refine wpS_bind (wpS_get ?_)
     by_cases hs1:(pendingOf st3).size > 1
     ·rw [if_pos hs1,getElem?_pos (pendingOf st3) ((pendingOf st3).size - 2) (by omega)]
      generalize (pendingOf st3)[(pendingOf st3).size - 2]=pq
      obtain ⟨q1,q2,q3⟩:=pq
      dsimp only
      refine aK (fun _=>wpS_pure ⟨rfl,B3,R3,S3⟩) (fun _=>?_)
      refine wpS_bind (qi L B3 R3 (by omega) a fun st4 B4 R4 _ F4=>?_)
      rw [if_neg (by decide)]
      refine wpS_pure ⟨rfl,B4,R4,fun i j h5 h6 h7=>?_⟩
      rw [F4 i h5,F4 j (by omega)]
      exact S3 i j h5 h6 h7
     ·rw [if_neg hs1]
      exact wpS_pure ⟨rfl,B3,R3,S3⟩
    ·rintro c st3 ⟨rfl,B3,R3,S3⟩
     dsimp only
     refine wpS_bind (wpS_modify (wpS_bind (wpS_modify (wpS_pure ⟨_,rfl,⟨B3.perm,B3.kind,B3.failed⟩,?_,LE,by omega⟩))))
     show Runs rk (arrOf st3) (((pendingOf st3).modify _ _).push _).toList 0 _
     rw [Array.toList_push,Array.toList_modify]
     refine Runs.app.mpr ⟨lo,?_,rfl,N1,S3,rfl⟩
     refine Runs.mod ?_ R3;exact fun q=>⟨rfl,rfl⟩
  ·rw [if_neg hmr]
   obtain ⟨st2,rfl⟩:∃ st2,st1=st2:=⟨_,rfl⟩
   have R2:=R1
   have S2:=S1
   have B2:=N1.sb
   have N1:=m1
   have LE:lo+m<=a₀.size:=by omega
   refine wpS_bind (wpS_get ?_)
   rcases hbk:(pendingOf st1).back? with _ | ⟨s1,n1,p1⟩
   ·dsimp only
    refine wpS_bind (wpS_modify (wpS_pure ⟨_,rfl,⟨B2.perm,B2.kind,B2.failed⟩,?_,LE,by omega⟩))
    show Runs rk (arrOf st1) ((pendingOf st1).push _).toList 0 _
    rw [Array.toList_push]
    exact Runs.app.mpr ⟨lo,R2,rfl,N1,S2,rfl⟩
   ·dsimp only
    refine wpS_bind (wpS_mono (wpS_forRange (I:=fun _ c st3=>c=(none,())/\SB a₀ kd st3/\Runs rk (arrOf st3) (pendingOf st3).toList 0 lo/\Seg rk (arrOf st3) lo (lo+m))
     (Q:=fun c st3=>c=(none,())/\SB a₀ kd st3/\Runs rk (arrOf st3) (pendingOf st3).toList 0 lo/\Seg rk (arrOf st3) lo (lo+m)) ?_ (fun _ _ hh=>hh) ⟨rfl,B2,R2,S2⟩) ?_)
    ·rintro y c st3 _ _ ⟨rfl,B3,R3,S3⟩
     refine wpS_bind (wpS_get ?_)
     by_cases hs1:(pendingOf st3).size > 1
     ·rw [if_pos hs1,getElem?_pos (pendingOf st3) ((pendingOf st3).size - 2) (by omega)]
      generalize (pendingOf st3)[(pendingOf st3).size - 2]=pq
      obtain ⟨q1,q2,q3⟩:=pq
      dsimp only
      refine aK (fun _=>wpS_pure ⟨rfl,B3,R3,S3⟩) (fun _=>?_)
      refine wpS_bind (qi L B3 R3 (by omega) a fun st4 B4 R4 _ F4=>?_)
      rw [if_neg (by decide)]
      refine wpS_pure ⟨rfl,B4,R4,fun i j h5 h6 h7=>?_⟩
      rw [F4 i h5,F4 j (by omega)]
      exact S3 i j h5 h6 h7
     ·rw [if_neg hs1]
      exact wpS_pure ⟨rfl,B3,R3,S3⟩
    ·rintro c st3 ⟨rfl,B3,R3,S3⟩
     dsimp only
     refine wpS_bind (wpS_modify (wpS_bind (wpS_modify (wpS_pure ⟨_,rfl,⟨B3.perm,B3.kind,B3.failed⟩,?_,LE,by omega⟩))))
     show Runs rk (arrOf st3) (((pendingOf st3).modify _ _).push _).toList 0 _
     rw [Array.toList_push,Array.toList_modify]
     refine Runs.app.mpr ⟨lo,?_,rfl,N1,S3,rfl⟩
     refine Runs.mod ?_ R3;exact fun q=>⟨rfl,rfl⟩
 case post=>
  rintro c st' ⟨rfl,hB',hR⟩
  dsimp only
  have hle:=hR.le
  refine wpS_bind (wpS_mono (wpS_forRange (I:=fun x c st3=>c=(none,())/\SB a₀ kd st3/\Runs rk (arrOf st3) (pendingOf st3).toList 0 a₀.size/\(pendingOf st3).size+x<=a₀.size)
   (Q:=fun c st3=>c=(none,())/\SB a₀ kd st3/\Runs rk (arrOf st3) (pendingOf st3).toList 0 a₀.size/\(pendingOf st3).size<=1) ?_ ?_ ⟨rfl,hB',hR,by simp at hle;omega⟩) ?_)
  ·rintro y c st3 _ hy ⟨rfl,B3,R3,P3⟩
   refine wpS_bind (wpS_get ?_)
   by_cases hs1:(pendingOf st3).size<=1
   ·rw [if_pos hs1]
    exact wpS_pure ⟨rfl,B3,R3,hs1⟩
   ·rw [if_neg hs1]
    refine wpS_bind (qi L B3 R3 ?_ (Nat.le_refl _) fun st4 B4 R4 P4 _=>?_)
    ·have gen:∀ (c:Prop) [Decidable c],(if c then (pendingOf st3).size - 2 - 1 else (pendingOf st3).size - 2)+1 < (pendingOf st3).size:=fun c _=>by split <;> omega
     exact gen _
    ·rw [if_neg (by decide)]
     exact wpS_pure ⟨rfl,B4,R4,by omega⟩
  ·rintro c st3 ⟨rfl,B3,R3,P3⟩
   exact ⟨rfl,B3,R3,by omega⟩
  ·rintro c st3 ⟨rfl,B3,R3,P3⟩
   refine wpS_pure (h st3 B3 ?_)
   have hl:(pendingOf st3).toList.length<=1:=by simpa using P3
   generalize (pendingOf st3).toList=l at hl R3
   match l,hl,R3 with
   | [],_,R3=>
    have:0=a₀.size:=R3
    omega
   | [(x,n,p)],_,⟨h5,h6,h7,h8⟩=>
    have h8:0+n=a₀.size:=h8
    rw [h8] at h7
    exact h7
end
end L2
namespace L2
open PySem PySem.W PySem.Spec PyProof.Rows
section
variable {prog:Program} {w:World} {A:Around} {E:Value->Shared->Prop} {s:Shared}
theorem j5 {vs:List Value} {p:Keyed} (h:p∈(vs.toArray.zip vs.toArray).toList):p.1=p.2/\p.1∈vs:=by
 rw [Array.toList_zip] at h
 exact mem_zip_self h
theorem JP {a:Addr} {vs:List Value} {n:Nat} {κ:SortKind} {rv:Value->Int} {P:PySem.Fin->Shared->Prop}
  (ho:s.heap.get? a=some (seqObj "list" vs.toArray n)) (few:vs.length<=100000)
  (hK:2<=vs.length->∀ (s':Shared) (R:SortKind->Shared->Prop),WR a s.heap s'.heap->R κ s'->wpAny (model prog w) A (keyKind' vs.toArray) R E s')
  (hC:∀ (s':Shared) (x y:Value) (R:Bool->Shared->Prop) (E':Value->Shared->Prop),WR a s.heap s'.heap->x∈vs->y∈vs->R (decide (rv x < rv y)) s'->wpAny (model prog w) A (keyLt' κ x y) R E' s')
  (h:∀ out:List Value,out.Perm vs->(out.Pairwise fun x y=>rv x<=rv y)->P (.done (.ret .none)) {s with heap:=sortedHeap s.heap a vs out.toArray}):
  wpAny (model prog w) A (Builtin.«list.sort» ⟨[.ref a],[]⟩) P E s:=by
 rw [list_sort_plain]
 refine wpAny_bind (listItems_at ho rfl (wpAny_bind (listUpdate_at ho rfl ?_)))
 obtain ⟨k,hk⟩:∃ k,(s.heap.update a (Obj.mapSeq fun _=>#[])).get? a=some (seqObj "list" #[] k):=⟨_,get?_update_seq ho (fun _=>#[])⟩
 refine wpAny_bind (seqEpoch_at hk rfl (wpAny_bind (wpAny_newTuple (wpAny_bind (wpAny_newList (wpAny_holding ?_))))))
 have hk2:=Heap.get?_push_of_some (seqObj "list" #[] 0) (Heap.get?_push_of_some (seqObj "tuple" vs.toArray 0) hk)
 have bt:=Fo (h:=s.heap) (a:=a) (f:=Obj.mapSeq fun _=>#[]) (x:=seqObj "tuple" vs.toArray 0) (y:=seqObj "list" #[] 0)
 show wpAny (model prog w) A _ P E {s with heap:=(((s.heap.update a (Obj.mapSeq fun _=>#[])).push (seqObj "tuple" vs.toArray 0)).push (seqObj "list" #[] 0))}
 generalize hS:({s with heap:=(((s.heap.update a (Obj.mapSeq fun _=>#[])).push (seqObj "tuple" vs.toArray 0)).push (seqObj "list" #[] 0))}:Shared)=s2
 dsimp only
 have sz:vs.toArray.size=vs.length:=by simp
 have hs:200000<=sizeLine:=by decide
 have hk3:s2.heap.get? a=some (seqObj "list" #[] k):=by rw [← hS];exact hk2
 have bt2:WR a s.heap s2.heap:=by rw [← hS];exact bt
 have fin:∀ out:List Value,out.Perm vs->(out.Pairwise fun x y=>rv x<=rv y)->P (.done (.ret .none)) {s2 with heap:=s2.heap.update a (Obj.mapSeq fun _=>out.toArray)}:=fun out h1 h2=>by
  rw [← hS];exact h out h1 h2
 by_cases h2:vs.toArray.size < 2
 ·rw [if_pos h2,if_pos h2]
  refine wpAny_bind (wpAny_pure ?_)
  rw [StateT.run_pure]
  refine wpAny_bind (wpAny_pure ?_)
  dsimp only
  have ez:(arrOf (SortSt.mk' general' (vs.toArray.zip vs.toArray) #[] 7 none)).map (·.2)=vs.toArray:=Dh vs
  rw [ez]
  refine wpAny_bind (seqEpoch_at hk3 rfl (wpAny_bind (listUpdate_at hk3 rfl ?_ (hsz2:=by rw [sz];omega))))
  simp only [bne_self_eq_false,Bool.false_eq_true,if_false]
  refine wpAny_pure (fin vs (List.Perm.refl _) ?_)
  match vs,h2 with
  | [],_=>exact List.Pairwise.nil
  | [_],_=>exact List.pairwise_singleton _ _
  | _ :: _ :: _,h2=>simp at h2;omega
 ·rw [if_neg h2,if_neg h2]
  refine wpAny_bind (hK (by omega) _ _ bt2 ?_)
  have L:qZ (model prog w) A E s2 κ (fun p=>rv p.1) (vs.toArray.zip vs.toArray):=fun p q st R hp hq hkd hr=>by
   rw [lt'_eq]
   refine wpS_bind (wpS_get ?_)
   rw [hkd]
   refine wpS_bind (wpS_lift (wpAny_attempt (hC _ _ _ _ _ bt2 (j5 hp).2 (j5 hq).2 ⟨rfl,?_⟩)))
   exact wpS_pure hr
  refine wpAny_bind (wpAny_mono (Fz (st:=SortSt.mk' κ (vs.toArray.zip vs.toArray) #[] 7 none) (Q:=fun _ st'=>SB (vs.toArray.zip vs.toArray) κ st'/\Seg (fun p=>rv p.1) (arrOf st') 0 (vs.toArray.zip vs.toArray).size)
   L ⟨Array.Perm.refl _,rfl,rfl⟩ rfl (by rw [Array.size_zip];omega) fun st' a1 a2=>⟨a1,a2⟩) ?_ fun _ _ e=>e)
  rintro ⟨⟨⟩,st'⟩ s' ⟨rfl,hB,hg⟩
  dsimp only
  dsimp only at hB hg
  have hp:((arrOf st').map (·.2)).toList.Perm vs:=by
   rw [Array.toList_map]
   refine ((Array.perm_iff_toList_perm.mp hB.perm).map _).trans (List.Perm.of_eq ?_)
   rw [← Array.toList_map,Dh]
  have hz:(vs.toArray.zip vs.toArray).size=vs.length:=by rw [Array.size_zip];omega
  have hpw:((arrOf st').map (·.2)).toList.Pairwise fun x y=>rv x<=rv y:=by
   rw [Array.toList_map]
   have:=vL hg
   rw [Nat.sub_zero,List.drop_zero,List.take_of_length_le (by rw [Array.length_toList,hB.size];exact Nat.le_refl _)] at this
   rw [List.pairwise_map]
   refine this.imp_of_mem fun {p q} hp hq hpq=>?_
   rw [← (j5 (hB.mem hp)).1,← (j5 (hB.mem hq)).1]
   exact hpq
  refine wpAny_bind (seqEpoch_at hk3 rfl (wpAny_bind (listUpdate_at hk3 rfl ?_ (hsz2:=by
   have:=hp.length_eq
   rw [Array.length_toList] at this
   show ((arrOf st').map (·.2)).size<=_
   omega))))
  rw [hB.failed]
  simp only [bne_self_eq_false,Bool.false_eq_true,if_false]
  refine wpAny_pure ?_
  have:=fin _ hp hpw
  rwa [Array.toArray_toList] at this
end
theorem vM {vs:List Value} {ns:List Int} (h:IntsAre vs ns) {v:Value} (hv:v∈vs):∃ n t,v= .int n t:=h.all v hv
end L2
namespace L2
open PySem PySem.Spec PyProof.Rows
end L2
namespace L2
open PySem PySem.W PySem.Spec PyProof.Rows
section
variable {prog:Program} {w:World} {A:Around} {E:Value->Shared->Prop} {s:Shared}
theorem zQ {l:Addr} {vs:List Value} {Q:List Value->Shared->Prop} (hl:IsTup s.heap l vs.toArray) (hsz:vs.length<=sizeLine)
  (h:Q vs {s with heap:=(s.heap.push (seqObj "list" #[] 0)).update s.heap.objs.size (Obj.mapSeq (· ++ vs.toArray))}):
  wpAny (model prog w) A (collect (.ref l)) Q E s:=by
 obtain ⟨o,ho,hc,n,hd⟩:=id hl
 unfold collect
 refine wpAny_bind (wpAny_runValue (codeAny_builtin entry_proto_collect' ?_))
 show wpAny _ _ (do again (.builtin "list.__iadd__" ⟨[← newList [],.ref l],[]⟩)) _ _ s
 refine wpAny_bind (wpAny_newList (wpAny_pure ⟨Code.quiet_builtin _ (by trivial),codeAny_builtin entry_list_iadd' ?_⟩))
 show wpAny _ _ (Builtin.List.listExtendWith (.ref s.heap.objs.size) (.ref l) (.ref s.heap.objs.size)) _ _ {s with heap:=s.heap.push (seqObj "list" #[] 0)}
 unfold Builtin.List.listExtendWith
 have ho':(s.heap.push (seqObj "list" #[] 0)).get? l=some o:=Heap.get?_push_of_some _ ho
 refine wpAny_bind (wpAny_typeOf (T:="tuple") ⟨o,ho',hc⟩ ?_)
 have ht:(Value.type "tuple" == Value.type "tuple")=true:=by rfl
 rw [if_pos (by rw [ht];simp)]
 refine wpAny_bind (listItems_at ho' hd ?_)
 refine wpAny_bind (listItems_at (xs:=#[]) (n:=0) (Heap.get?_push_size _ rfl) rfl ?_)
 rw [if_neg (by simp)]
 refine wpAny_bind (listUpdate_at (xs:=#[]) (n:=0) (Heap.get?_push_size _ rfl) rfl ?_ (Nat.zero_le _) (by show (#[] ++ vs.toArray).size<=sizeLine+1;simp only [Array.size_append,List.size_toArray,List.length_nil];omega))
 refine wpAny_pure ?_
 show wpAny (model prog w) A (do
   let o ← load s.heap.objs.size
   match o.data with
   | .seq xs _=>pure xs.toList
   | _=>unsupported "internal:collect") Q E {s with heap:=(s.heap.push (seqObj "list" #[] 0)).update s.heap.objs.size (Obj.mapSeq (· ++ vs.toArray))}
 refine wpAny_bind (wpAny_load (get?_update_seq (Heap.get?_push_size _ rfl) _) ?_)
 show wpAny _ _ (pure ((#[]:Array Value) ++ vs.toArray).toList) Q E _
 rw [show ((#[]:Array Value) ++ vs.toArray).toList=vs by simp]
 exact wpAny_pure h
theorem tZ {l:Addr} {vs:List Value} {κ:SortKind} {rv:Value->Int} {Q:Value->Shared->Prop} (hl:∀ (A':Around) (Q':List Value->Shared->Prop),Q' vs {s with heap:=(s.heap.push (seqObj "list" #[] 0)).update s.heap.objs.size (Obj.mapSeq (· ++ vs.toArray))}->wpAny (model prog w) A' (collect (.ref l)) Q' E s) (few:vs.length<=100000)
  (hK:2<=vs.length->∀ (A':Around) (s':Shared) (R:SortKind->Shared->Prop),(∀ b o,s.heap.get? b=some o->s'.heap.get? b=some o)->R κ s'->wpAny (model prog w) A' (keyKind' vs.toArray) R E s')
  (hC:∀ (A':Around) (s':Shared) (x y:Value) (R:Bool->Shared->Prop) (E':Value->Shared->Prop),(∀ b o,s.heap.get? b=some o->s'.heap.get? b=some o)->x∈vs->y∈vs->R (decide (rv x < rv y)) s'->wpAny (model prog w) A' (keyLt' κ x y) R E' s')
  (h:∀ out:List Value,out.Perm vs->(out.Pairwise fun x y=>rv x<=rv y)->Q (.ref (s.heap.objs.size+1)) {s with heap:=sortedAll s.heap vs out.toArray}):
  wpAny (model prog w) A (call (.builtin "sorted") [.ref l]) Q E s:=by
 refine Calls.call_function_entry kind_sorted plain_sorted entry_sorted (args_sorted1 _) ?_
 unfold Builtin.«sorted»
 have hs:200000<=sizeLine:=by decide
 refine wpAny_bind (m:=checkCount "sorted" 1 1 _) (wpAny_pure (wpAny_bind (hl _ _ ?_)))
 refine wpAny_bind (wpAny_newList ?_)
 have z1:((s.heap.push (seqObj "list" #[] 0)).update s.heap.objs.size (Obj.mapSeq (· ++ vs.toArray))).objs.size=s.heap.objs.size+1:=by rw [Heap.size_update,size_push']
 have old:∀ b o,s.heap.get? b=some o->(((s.heap.push (seqObj "list" #[] 0)).update s.heap.objs.size (Obj.mapSeq (· ++ vs.toArray))).push (seqObj "list" vs.toArray 0)).get? b=some o:=fun b o e=>by
  have lb:=Heap.lt_size e
  refine Heap.get?_push_of_some _ ?_
  rw [Heap.get?_update_ne _ _ _ _ (Nat.ne_of_lt lb)]
  exact Heap.get?_push_of_some _ e
 have hoL:(((s.heap.push (seqObj "list" #[] 0)).update s.heap.objs.size (Obj.mapSeq (· ++ vs.toArray))).push (seqObj "list" vs.toArray 0)).get? (s.heap.objs.size+1)=some (seqObj "list" vs.toArray 0):=
  z1 ▸ Heap.get?_push_size _ rfl
 show wpAny _ _ _ _ _ {s with heap:=(((s.heap.push (seqObj "list" #[] 0)).update s.heap.objs.size (Obj.mapSeq (· ++ vs.toArray))).push (seqObj "list" vs.toArray 0))}
 rw [z1]
 have ok:∀ {s':Shared},WR (s.heap.objs.size+1) (((s.heap.push (seqObj "list" #[] 0)).update s.heap.objs.size (Obj.mapSeq (· ++ vs.toArray))).push (seqObj "list" vs.toArray 0)) s'.heap->∀ b o,s.heap.get? b=some o->s'.heap.get? b=some o:=fun bt b o e=>bt b o (Nat.ne_of_lt (Nat.lt_succ_of_lt (Heap.lt_size e))) (old b o e)
 refine wpAny_bind (wpAny_holding (wpAny_call_entry slot_list_sort ⟨_,hoL,rfl⟩ entry_list_sort (JP (κ:=κ) (rv:=rv) hoL few (fun h2 s' R bt r=>hK h2 _ s' R (ok bt) r) (fun s' x y R E' bt hx hy r=>hC _ s' x y R E' (ok bt) hx hy r) fun out h1 h2=>⟨_,rfl,?_⟩) (args_list_sort _)))
 exact wpAny_pure ⟨_,rfl,h out h1 h2⟩
end
section
variable {X:Cx}
def JQ:List V->Hp->VK->Prop:=fun xs H Q=>(∃ (p:Addr) (ns:List Int),xs=[.ref p]/\(H p=some (.lst (ns.map V.int))\/H p=some (.tup (ns.map V.int)))/\ns.length<=100000/\
  ∀ (q:Addr) (ms:List Int),H q=none->ms.Perm ns->ms.Pairwise (· <= ·)->Q (.ref q) (upd H q (.lst (ms.map V.int))))\/
 ∃ (p:Addr) (as:List Addr) (ct:Addr->List Int),xs=[.ref p]/\H p=some (.lst (as.map V.ref))/\as.length<=100000/\(∀ a∈as,H a=some (.tup ((ct a).map V.int))/\ct a≠[])/\
  ∀ (q:Addr) (bs:List Addr),H q=none->bs.Perm as->bs.Pairwise (fun a b=>HT.lexLt (ct b) (ct a)=false)->Q (.ref q) (upd H q (.lst (bs.map V.ref)))
theorem xg:∀ {as:List Addr} {its:List Value},Vals (as.map V.ref) its->its=as.map Value.ref
 | [],_,h=>by cases h;rfl
 | a :: as,_,h=>by
  cases h with
  | cons h1 h2=>
   cases h1
   rw [xg h2];rfl
theorem xj:∀ (as:List Addr),Vals (as.map V.ref) (as.map Value.ref)
 | []=>.nil
 | a :: as=>.cons rfl (xj as)
theorem FJ {as:List Addr} {out:List Value} (h:out.Perm (as.map Value.ref)):∃ bs:List Addr,out=bs.map Value.ref/\bs.Perm as:=by
 have key:∀ out:List Value,(∀ v∈out,∃ a,v=Value.ref a)->∃ bs:List Addr,out=bs.map Value.ref:=by
  intro out
  induction out with
  | nil=>exact fun _=>⟨[],rfl⟩
  | cons v out ih=>
   intro hv
   obtain ⟨a,rfl⟩:=hv v List.mem_cons_self
   obtain ⟨bs,rfl⟩:=ih fun u hu=>hv u (List.mem_cons_of_mem _ hu)
   exact ⟨a :: bs,rfl⟩
 obtain ⟨bs,rfl⟩:=key out fun v hv=>by
  obtain ⟨a,_,rfl⟩:=List.mem_map.mp (h.mem_iff.mp hv)
  exact ⟨a,rfl⟩
 refine ⟨bs,rfl,?_⟩
 have:=h.map (fun v=>match v with | Value.ref a=>a | _=>0)
 rwa [List.map_map,List.map_map,show ((fun v:Value=>match v with | Value.ref a=>a | _=>0) ∘ Value.ref)=id from rfl,List.map_id,List.map_id] at this
def FN (ts:List (List Int)) (t:List Int):Int:=((ts.countP fun u=>HT.lexLt u t):Nat)
theorem Dk {ts:List (List Int)} {a b:List Int} (ha:a∈ts):decide (FN ts a < FN ts b)=HT.lexLt a b:=by
 unfold FN
 cases h:HT.lexLt a b with
 | true=>
  refine decide_eq_true ?_
  have key:∀ l:List (List Int),a∈l->l.countP (fun u=>HT.lexLt u a) < l.countP (fun u=>HT.lexLt u b):=by
   intro l
   induction l with
   | nil=>intro h;cases h
   | cons u l ih=>
    intro hm
    rw [List.countP_cons,List.countP_cons]
    have le:l.countP (fun u=>HT.lexLt u a)<=l.countP (fun u=>HT.lexLt u b):=List.countP_mono_left fun x _ hx=>qY hx h
    by_cases e:u=a
    ·rw [e,Jz,h,if_neg (by decide),if_pos rfl]
     omega
    ·have hm':a∈l:=(List.mem_cons.mp hm).resolve_left fun z=>e z.symm
     have:=ih hm'
     by_cases c:HT.lexLt u a=true
     ·rw [if_pos c,if_pos (qY c h)];omega
     ·rw [if_neg c];split <;> omega
  have:=key ts ha
  omega
 | false=>
  refine decide_eq_false ?_
  have le:ts.countP (fun u=>HT.lexLt u b)<=ts.countP (fun u=>HT.lexLt u a):=List.countP_mono_left fun x _ hx=>by
   cases c:HT.lexLt b a with
   | true=>exact qY hx c
   | false=>rw [zJ h c];exact hx
  omega
theorem By {prog:Program} {w:World} {A:Around} {E:Value->Shared->Prop} {s:Shared} {as:List Addr} {ct:Addr->List Int} {Q:SortKind->Shared->Prop} (h2:2<=as.length) (h:∀ a∈as,∃ its,IsTup s.heap a its.toArray/\IntsAre its (ct a)/\ct a≠[]) (q:Q (tuples' true) s):
  wpAny (model prog w) A (keyKind' (as.map Value.ref).toArray) Q E s:=by
 refine Fp (ts:=as.map ct) (by rw [List.length_map];exact h2) (fun i hi=>?_) q
 rw [List.length_map] at hi
 obtain ⟨its,it,ia,ne⟩:=h as[i] (List.getElem_mem hi)
 have e:(as.map ct).getD i []=ct as[i]:=by rw [List.getD_eq_getElem?_getD,List.getElem?_map,List.getElem?_eq_getElem hi];rfl
 rw [e]
 exact ⟨as[i],its,by rw [List.getElem?_map,List.getElem?_eq_getElem hi];rfl,it,ia,ne⟩
theorem rB:CallR X (.builtin "sorted") JQ:=by
 intro pins s U H xs us Q I r h
 have hs2:200000<=sizeLine:=by decide
 rcases h with ⟨p,ns,rfl,hp,few,q⟩ | ⟨p,as,ct,rfl,hp,few,ht,q⟩
 ·obtain ⟨u,rfl,ru⟩:=vals1 r
  cases ru
  obtain ⟨its,rv,hcol⟩:∃ its:List Value,Vals (ns.map V.int) its/\∀ (A':Around) (E':Value->Shared->Prop) (Q':List Value->Shared->Prop),Q' its {s with heap:=(s.heap.push (seqObj "list" #[] 0)).update s.heap.objs.size (Obj.mapSeq (· ++ its.toArray))}->wpAny (model X.prog X.w) A' (collect (.ref p)) Q' E' s:=by
   rcases hp with hp | hp
   ·obtain ⟨hz,its,n,rv,g⟩:=I.hok p _ hp
    refine ⟨its,rv,fun A' E' Q' hq=>collect_list ⟨_,g,rfl,n,rfl⟩ hq (hsz:=?_)⟩
    rw [← rv.length];exact hz
   ·obtain ⟨hz,its,rv,g⟩:=I.hok p _ hp
    exact ⟨its,rv,fun A' E' Q' hq=>zQ g (by rw [← rv.length];exact hz) hq⟩
  have hi:IntsAre its ns:=intsAre_of rv
  have hl:=rv.length
  rw [List.length_map] at hl
  refine tZ (vs:=its) (κ:=oneType') (rv:=numOf) (fun A' Q' hq=>hcol A' _ Q' hq) (by omega) ?_ ?_ fun out hperm hs=>?_
  ·intro h2 A' s' R _ hr
   obtain ⟨v₁,v₂,rest,rfl⟩:∃ v₁ v₂ rest,its=v₁ :: v₂ :: rest:=by
    match its,h2 with
    | v₁ :: v₂ :: rest,_=>exact ⟨v₁,v₂,rest,rfl⟩
   rw [keyKind_ints hi]
   exact wpAny_pure hr
  ·intro A' s' x y R E' _ hx hy hr
   obtain ⟨a,t,rfl⟩:=vM hi hx
   obtain ⟨b,u,rfl⟩:=vM hi hy
   rw [keyLt'_oneType]
   exact oneLt_int hr
  ·obtain ⟨e,he⟩:=sortedAll_at s.heap its out.toArray
   have ho:IntsAre out (out.map numOf):=intsAre_map out fun v hv=>vM hi (hperm.mem_iff.mp hv)
   have hm:(out.map numOf).Perm ns:=(hperm.map _).trans (List.Perm.of_eq hi.nums)
   have hml:(out.map numOf).length=ns.length:=hm.length_eq
   exact ⟨.ref (s.heap.objs.size+1),_,I.laid (t':=s.toks) (o:=.lst ((out.map numOf).map V.int)) (fun b ob q=>sortedAll_old q) (Nat.le_succ _) ⟨by rw [List.length_map];omega,out,e,Fe ho,by simpa using he⟩,rfl,q _ _ (I.hok.fresh (Nat.le_succ _)) hm (List.pairwise_map.mpr hs)⟩
 ·obtain ⟨u,rfl,ru⟩:=vals1 r
  cases ru
  obtain ⟨hz,its,n,rv,g⟩:=I.hok p _ hp
  obtain rfl:=xg rv
  have tup:∀ a∈as,∃ its,IsTup s.heap a its.toArray/\IntsAre its (ct a)/\ct a≠[]:=fun a ha=>by
   obtain ⟨h1,h2⟩:=ht a ha
   obtain ⟨_,it,rt,tt⟩:=I.hok a _ h1
   exact ⟨it,tt,intsAre_of rt,h2⟩
  have tupK:∀ s':Shared,(∀ b o,s.heap.get? b=some o->s'.heap.get? b=some o)->∀ a∈as,∃ its,IsTup s'.heap a its.toArray/\IntsAre its (ct a)/\ct a≠[]:=fun s' hk a ha=>by
   obtain ⟨its,⟨o,go,rr⟩,h2⟩:=tup a ha
   exact ⟨its,⟨o,hk _ _ go,rr⟩,h2⟩
  refine tZ (vs:=as.map Value.ref) (κ:=tuples' true) (rv:=fun v=>match v with | .ref a=>FN (as.map ct) (ct a) | _=>0) (fun A' Q' hq=>collect_list ⟨_,g,rfl,n,rfl⟩ hq (hsz:=by rw [List.length_map];omega)) (by rw [List.length_map];omega) ?_ ?_ fun out hperm hs=>?_
  ·intro h2 A' s' R hk hr
   exact By (by rwa [List.length_map] at h2) (tupK s' hk) hr
  ·intro A' s' x y R E' hk hx hy hr
   obtain ⟨a,ha,rfl⟩:=List.mem_map.mp hx
   obtain ⟨b,hb,rfl⟩:=List.mem_map.mp hy
   obtain ⟨i1,t1,n1,_⟩:=tupK s' hk a ha
   obtain ⟨i2,t2,n2,_⟩:=tupK s' hk b hb
   refine WT t1 t2 n1 n2 ?_
   rw [← Dk (ts:=as.map ct) (List.mem_map.mpr ⟨a,ha,rfl⟩)]
   exact hr
  ·obtain ⟨e,he⟩:=sortedAll_at s.heap (as.map Value.ref) out.toArray
   obtain ⟨bs,rfl,hb⟩:=FJ hperm
   have hbl:=hb.length_eq
   refine ⟨.ref (s.heap.objs.size+1),_,I.laid (t':=s.toks) (o:=.lst (bs.map V.ref)) (fun b ob q=>sortedAll_old q) (Nat.le_succ _) ⟨by rw [List.length_map];omega,_,e,xj bs,by simpa using he⟩,rfl,q _ bs (I.hok.fresh (Nat.le_succ _)) hb ?_⟩
   rw [List.pairwise_map] at hs
   refine hs.imp_of_mem fun {a b} ha hb' hab=>?_
   have:=Dk (ts:=as.map ct) (a:=ct b) (b:=ct a) (List.mem_map.mpr ⟨b,hb.mem_iff.mp hb',rfl⟩)
   rw [← this]
   exact decide_eq_false (by have:FN (as.map ct) (ct a)<=FN (as.map ct) (ct b):=hab;omega)
end
section
variable {H:Hp} {Q:VK}
theorem zR {p:Addr} {as:List Addr} (ct:Addr->List Int) (hp:H p=some (.lst (as.map V.ref))) (hn:as.length<=100000) (ht:∀ a∈as,H a=some (.tup ((ct a).map V.int))/\ct a≠[]) (h:∀ (q:Addr) (bs:List Addr) (H':Hp),H q=none->Same H H'->H' q=some (.lst (bs.map V.ref))->bs.Perm as->bs.Pairwise (fun a b=>HT.lexLt (ct b) (ct a)=false)->Q (.ref q) H'):JQ [.ref p] H Q:=
 .inr ⟨p,as,ct,rfl,hp,hn,ht,fun q bs nq a b=>h q bs _ nq ((Same.refl H).upd nq) ao a b⟩
end
end L2
namespace L2
open PySem PySem.Spec PyProof.Rows
def JR (K:W.Frag):R2:=fun x y H Q=>Jt K x y H Q\/Qa K x y H Q
section
variable {X:Cx}
theorem fj {K:W.Frag} (hK:X.K=K) (hu:X.A.units+64 < cLine):OpR X (compareOp .Eq) (JR K):=by
 subst hK
 exact (Sg rfl hu).or (Nk (Nat.lt_of_le_of_lt (Nat.le_add_right _ _) hu))
end
section
variable {H:Hp} {Q:VK} {K:W.Frag}
theorem sV {i j:Int} (h:Q (.bl (decide (V.int i=V.int j))) H):JR K (.int i) (.int j) H Q:=.inl (je h)
theorem sW {i j:Str} (h:Q (.bl (decide (V.str i=V.str j))) H):JR K (.str i) (.str j) H Q:=.inl (jf h)
theorem sX {i j:Bool} (h:Q (.bl (decide (V.bl i=V.bl j))) H):JR K (.bl i) (.bl j) H Q:=.inl (jg h)
theorem xm {x y:V} {d e:PyData} (h1:DR H d x) (h2:DR H e y) (hs:PySem.SeqAt.shaped d=true) (hs2:PySem.SeqAt.shaped e=true) (h:Q (.bl (PyData.eqv d e)) H):JR K x y H Q:=.inl (.inl (.inl (Jd h1 h2 hs hs2 h)))
end
def Qe:List V->Hp->VK->Prop:=fun xs H Q=>(∃ i j,xs=[.int i,.int j]/\Q (.int (if j < i then j else i)) H)\/(∃ i j k,xs=[.int i,.int j,.int k]/\∀ M,(M=i\/M=j\/M=k)->M<=i->M<=j->M<=k->Q (.int M) H)\/
 ∃ (p:Addr) (ns:List Int),xs=[.ref p]/\H p=some (.lst (ns.map V.int))/\ns≠[]/\∀ M,M∈ns->(∀ a∈ns,M<=a)->Q (.int M) H
section
variable {X:Cx}
theorem vals3 {v1 v2 v3:V} {us:List Value} (r:Vals [v1,v2,v3] us):∃ u1 u2 u3,us=[u1,u2,u3]/\RelV v1 u1/\RelV v2 u2/\RelV v3 u3:=by
 cases r with
 | cons a r=>cases r with
  | cons b r=>cases r with
   | cons c r=>
    cases r
    exact ⟨_,_,_,rfl,a,b,c⟩
theorem FP (hc:X.calm=true):CallR X (.builtin "min") Qe:=by
 intro pins s U H xs us Q I r h
 rcases h with h | ⟨i,j,k,rfl,q⟩ | ⟨p,ns,rfl,hp,hne,q⟩
 ·exact Eb hc pins s U H xs us Q I r h
 ·obtain ⟨u1,u2,u3,rfl,⟨t1,rfl⟩,⟨t2,rfl⟩,⟨t3,rfl⟩⟩:=vals3 r
  refine min_three_ints (I.ok.hd hc) fun h' tk hk=>?_
  have key:∀ (M:Int) (t:Tok),(M=i\/M=j\/M=k)->M<=i->M<=j->M<=k->EP X pins U Q (.int M t) {s with heap:=h',toks:=tk}:=fun M t h0 h1 h2 h3=>⟨.int M,H,I.kept hk,⟨t,rfl⟩,q M h0 h1 h2 h3⟩
  by_cases hba:j < i <;> by_cases hc1:k < j <;> by_cases hc2:k < i <;> simp only [hba,hc1,hc2,if_true,if_false] <;> exact key _ _ (by omega) (by omega) (by omega) (by omega)
 ·obtain ⟨u,rfl,ru⟩:=vals1 r
  cases ru
  obtain ⟨hz,its,n,rv,g⟩:=I.hok p _ hp
  have hi:IntsAre its ns:=intsAre_of rv
  have hl:=rv.length
  obtain ⟨ys,ey⟩:=hi.allInts.items
  have hn:=hi.numsOf
  have hsz:0 < ys.size:=by
   have e1:=congrArg Array.size ey
   have:0 < ns.length:=List.length_pos_iff.mpr hne
   rw [List.length_map] at hl
   simp [intItems] at e1
   omega
  have hL:s.heap.IsList p (intItems ys):=⟨_,g,rfl,n,by rw [← ey]⟩
  have en:ys.toList.map (·.1)=ns:=by rw [← nums_intItems,← ey,← hn]
  refine min_intList (I.ok.hd hc) hL hsz fun v h' tk hv hk=>?_
  obtain ⟨t,rfl⟩:=intItems_at hv
  obtain ⟨h1,h2⟩:=argBest_lt (numAt ys) (ys.size - 1)
  refine ⟨.int _,H,I.kept hk,⟨t,rfl⟩,q _ ?_ fun a ha=>?_⟩
  ·rw [← en,numAt_eq];exact getD_mem (by rw [List.length_map,Array.length_toList];omega)
  ·rw [← en] at ha
   obtain ⟨j,hj,rfl⟩:=mem_getD ha
   rw [List.length_map,Array.length_toList] at hj
   rw [← numAt_eq];exact h2 j (by omega)
end
section
variable {H:Hp} {Q:VK}
theorem pA {i j:Int} (h:Q (.int (if j < i then j else i)) H):Qe [.int i,.int j] H Q:=.inl ⟨_,_,rfl,h⟩
end
end L2
namespace HT
open PySem PySem.Spec PyProof.Rows
section
variable {prog:Program} {w:World} {A:Around} {E:Value->Shared->Prop} {s:Shared}
theorem getItem_tuple_whole {t sl:Addr} {items:Array Value} {vl vu:Value} {lo hi:Option Int} {Q:Value->Shared->Prop} (ht:IsTup s.heap t items) (hs:s.heap.IsSliceOf sl vl vu .none) (pl:IsPart vl lo) (pu:IsPart vu hi)
  (hw:sIx items.size 0 lo=0/\sIx items.size items.size hi=items.size) (h:Q (.ref t) s):wpAny (model prog w) A (getItem (.ref t) (.ref sl)) Q E s:=by
 obtain ⟨os,hos,hcs,hds⟩:=id hs
 have hTs:s.TypeIs (.ref sl) "slice":=⟨os,hos,hcs⟩
 unfold getItem
 try with_reducible refine wpAny_holding ?_
 first | refine wpAny_bind (wpAny_pure ?_) | skip
 refine wpAny_bind (wpAny_sequenceKey ht.typeIs (by decide) ?_)
 refine wpAny_bind (wpAny_callSpecial?_slot (name:=Str.ofString "__getitem__") ht.typeIs PyProof.Rows.slot_tuple_getitem
  (wpAny_call_entry PyProof.Rows.slot_tuple_getitem ht.typeIs entry_tuple_getitem ?_ (args_tuple_getitem _ _)))
 show wpAny _ _ (Builtin.Tuple.tupleItemsOf (.ref t) >>=_) _ _ s
 refine wpAny_bind (tupleItemsOf_ ht ?_)
 refine wpAny_bind (wpAny_typeOf hTs ?_)
 rw [if_pos (by decide)]
 refine wpAny_bind (lU hs pl pu ?_)
 have hyes:((((sIx items.size 0 lo:Nat):Int) == 0 && (1:Int) == 1 && (sIx items.size items.size hi - sIx items.size 0 lo) == items.size)=true):=by
  rw [hw.1,hw.2];simp
 show wpAny _ _ (if (((sIx items.size 0 lo:Nat):Int) == 0 && (1:Int) == 1 && (sIx items.size items.size hi - sIx items.size 0 lo) == items.size)=true then _ else _) _ _ s
 rw [if_pos hyes]
 unfold Builtin.Tuple.tupleIsExact
 refine wpAny_bind (wpAny_bind (wpAny_typeOf ht.typeIs (wpAny_pure ?_)))
 rw [if_pos (by decide)]
 exact wpAny_bind (wpAny_rule (wpAny_pure ⟨_,rfl,wpAny_pure h⟩))
end
end HT
namespace L2
open PySem PySem.Spec PyProof.Rows
section
variable {X:Cx}
def WW (K:W.Frag):V->Option Int->Option Int->Hp->VK->Prop:=fun x lo hi H Q=>∃ a xs,x= .ref a/\SqT K H a xs/\(HT.sIx xs.length 0 lo=0/\HT.sIx xs.length xs.length hi=xs.length)/\Q (.ref a) H
theorem Nr:SlR X (WW X.K):=by
 intro pins s U H x v vl vu lo hi sl Q I rx hs pl pu h
 obtain ⟨a,xs,rfl,hx,hw,q⟩:=h
 cases rx
 obtain ⟨its,r,ht,hz⟩:=I.tuple hx
 have hlen:its.toArray.size=xs.length:=by rw [List.size_toArray];exact r.length.symm
 refine ⟨"tuple",_,PyProof.Rows.slot_tuple_getitem.lookup,ht.typeIs,?_⟩
 exact HT.getItem_tuple_whole ht hs pl pu (by rw [hlen];exact hw) ⟨.ref a,H,I,rfl,q⟩
def Tf (K:W.Frag):V->Option Int->Option Int->Hp->VK->Prop:=fun x lo hi H Q=>Wg K x lo hi H Q\/WW K x lo hi H Q
theorem gK {K:W.Frag} (hK:X.K=K):SlR X (Tf K):=by
 subst hK
 exact Ih.or Nr
end
section
variable {H:Hp} {Q:VK} {K:W.Frag} {p:Addr} {xs:List V} {lo hi:Option Int}
theorem Tg {x:Str} (hz:x.length<=sizeLine) (h:Q (.str (Txt.slice x lo hi)) H):Tf K (.str x) lo hi H Q:=.inl (Wq hz h)
theorem lL (hp:H p=some (.lst xs)) (h:∀ q H',H q=none->Same H H'->H' q=some (.lst (nJ xs lo hi))->Q (.ref q) H'):Tf K (.ref p) lo hi H Q:=.inl (Iu (SqL.of hp) fun q nq=>h q _ nq ((Same.refl H).upd nq) ao)
end
theorem kJ {xs:List V} {k:Nat}:nJ xs (some (k:Int)) none=xs.drop k:=by
 unfold nJ
 rw [HT.sIx_none,HT.sIx_nat]
 by_cases h:k<=xs.length
 ·rw [Nat.min_eq_left h,List.take_of_length_le (by rw [List.length_drop];omega)]
 ·rw [Nat.min_eq_right (by omega),List.drop_eq_nil_of_le (by omega),List.drop_eq_nil_of_le (by omega)];simp
theorem oK {xs:List V} {k:Nat}:nJ xs none (some (k:Int))=xs.take k:=by
 unfold nJ
 rw [HT.sIx_none,HT.sIx_nat,List.drop_zero,Nat.sub_zero]
 by_cases h:k<=xs.length
 ·rw [Nat.min_eq_left h]
 ·rw [Nat.min_eq_right (by omega),List.take_of_length_le (by omega),List.take_of_length_le (by omega)]
theorem Nt {env:Env} {x y:Str} {px py pt pt2:Pos} {kt k2:Nat} {a b:Expr} (hk:env.blockKind= .function) (hx:env.scope.names.lookup x=some .local) (hy:env.scope.names.lookup y=some .local) (hl:py.line=px.line) (he:([x,y]:List Str).eraseDups.length=2)
  (hst:([a,b].any fun | .Starred ..=>true | _=>false)=false) (hf:([a,b].all (foldedForSure 8))=false) (hc:([a,b].all (constantsAlone 8))=false):
  swappedStores [.Tuple [.Name x px,.Name y py] kt pt] (.Tuple [a,b] k2 pt2) env=pure (some [x,y]):=by
 have h1:(env.kindOf x == some NameKind.local)=true:=by unfold Env.kindOf;rw [hx];rfl
 have h2:(env.kindOf y == some NameKind.local)=true:=by unfold Env.kindOf;rw [hy];rfl
 have l1:(px.line == px.line)=true:=beq_self_eq_true _
 unfold swappedStores
 simp only [hk,hst,hf,hc,List.filterMap_cons,List.filterMap_nil,h1,h2,Bool.true_and,List.head?_cons,Option.map_some,Option.getD_some,Expr.pos,hl,l1,if_true,he]
 have f:¬ (false=true):=Bool.false_ne_true
 refine (if_neg fun z=>f z).trans ?_
 refine (if_neg fun z=>f (hst.symm.trans z)).trans ?_
 refine (if_neg fun z=>f z).trans ?_
 refine (if_neg f).trans ?_
 exact if_neg f
theorem Ti {X:Cx} {i j:Nat} {x y:Str} {a b:Expr} {ta:TA} {px py pt pt2 pos:Pos} {kt k2:Nat} (hc:X.calm=true) (hN:X.N.Nodup) (hi:X.N[i]?=some x) (hj:X.N[j]?=some y) (hij:i≠j)
  (hx:X.env.scope.names.lookup x=some .local) (hy:X.env.scope.names.lookup y=some .local) (ha:JA X [a,b] ta) (hk:autoParam (X.env.blockKind= .function) L2.auto4._auto_1) (hl:autoParam (py.line=px.line) L2.auto4._auto_1) (he:autoParam (([x,y]:List Str).eraseDups.length=2) L2.auto6._auto_1)
  (hst:autoParam (([a,b].any fun | .Starred ..=>true | _=>false)=false) L2.auto4._auto_1) (hf:autoParam (([a,b].all (foldedForSure 8))=false) L2.auto4._auto_1) (hcn:autoParam (([a,b].all (constantsAlone 8))=false) L2.auto4._auto_1)
  (hs:autoParam (swapsWithSole [.Tuple [.Name x px,.Name y py] kt pt] (.Tuple [a,b] k2 pt2) pos.line X.env=pure false) L2.auto4._auto_1):
  JS X (.Assign [.Tuple [.Name x px,.Name y py] kt pt] (.Tuple [a,b] k2 pt2) pos) (QL i j ta):=
 ⟨QM hc hN hi hj hij hx hy ha.run (Nt hk hx hy hl he hst hf hcn) hs⟩
theorem Dl {i j:Nat} {ta:TA} {D:Ends} {U:St} {H:Hp} (h:ta U H fun vs H1=>∃ v w,vs=[v,w]/\D.nx ((U.set i (some v)).set j (some w)) H1):QL i j ta D U H:=h
theorem yh {v w:V} {R:V->V->Prop} (h:R v w):∃ v' w',[v,w]=[v',w']/\R v' w':=⟨v,w,rfl,h⟩
end L2
namespace My
open PySem L2
local macro_rules | `(tactic| walk_at "p") => `(tactic| first | exact aP _ | with_unfolding_all rfl)
local macro_rules | `(tactic| walk_at "0") => `(tactic| (first | refine ul ?_ | refine jz ?_ | refine qL ?_ | refine nu ?_ | refine nF ?_ | refine jU ?_ | refine jV ?_ | (refine' mY ?hz0 ?_; (case hz0 => with_unfolding_all rfl)) | refine Gr ?_ | refine ut ?_ | refine jO ?_ | refine jG ?_ | refine mZ ?_ | refine mR ?_ | refine jB ?_ | refine mV ?_ | refine jA ?_ | refine uf ?_ | refine jD ?_ | refine uv ?_ | refine uo ?_ | refine jH ?_ | refine ug ?_ | refine mW ?_ | refine mX ?_ | refine uh ?_ | refine jE ?_ | refine jF ?_ | refine mU ?_ | refine jC ?_ | refine um ?_ | refine wZ ?_ | refine w5 ?_ | refine uq ?_ | refine m8 ?_ | refine ur ?_ | refine m9 ?_ | refine jJ ?_ | refine jK ?_ | refine jL ?_ | refine jM ?_ | refine jN ?_ | refine ni ?_ | refine Gu ?_ | refine gD ?_ | refine jT ?_ | (refine' eO (SqT.of ?hz0) ?hz1 ?_; (case hz0 => first | assumption | exact ao); (case hz1 => rfl)) | refine gG ?_ | refine gJ ?_ | refine gH ?_ | refine iZ ?_ | refine jc ?_ | refine jd ?_ | refine je ?_ | refine jf ?_ | refine jg ?_ | refine uw ?_ | refine iT ?_ | refine iU ?_ | refine iV ?_ | refine iW ?_ | refine iY ?_ | refine gF ?_ | refine lV ?_ | refine jQ ?_ | (refine' Gs ?hz0 ?_; (case hz0 => with_unfolding_all first | assumption | omega | (dsimp only <;> omega) | exact ⟨by omega, by omega⟩ | exact .inl ⟨by omega, by omega⟩ | exact .inr ⟨by omega, by omega⟩ | exact ⟨by decide, by decide, by decide⟩)) | (refine' jP ?hz0 ?_; (case hz0 => with_unfolding_all first | assumption | omega | (dsimp only <;> omega) | exact ⟨by omega, by omega⟩ | exact .inl ⟨by omega, by omega⟩ | exact .inr ⟨by omega, by omega⟩ | exact ⟨by decide, by decide, by decide⟩)) | (refine' bD (SqL.of ?hz0) ?hz1 ?_; (case hz0 => first | assumption | exact ao); (case hz1 => with_unfolding_all rfl)) | (refine' ju (SqT.of ?hz0) ?hz1 ?_; (case hz0 => first | assumption | exact ao); (case hz1 => with_unfolding_all rfl)) | (refine' iM ?hz0 ?hz1 ?_; (case hz0 => first | assumption | exact ao); (case hz1 => with_unfolding_all rfl)) | refine lJ ?_ | refine jq ?_))
local macro_rules | `(tactic| walk_at "1") => `(tactic| (first | refine ul ?_ | refine jz ?_ | refine qL ?_ | refine nu ?_ | refine nF ?_ | refine jU ?_ | refine jV ?_ | (refine' mY ?hz0 ?_; (case hz0 => with_unfolding_all rfl)) | refine Gr ?_ | refine ut ?_ | refine jO ?_ | refine jG ?_ | refine mZ ?_ | refine mR ?_ | refine jB ?_ | refine mV ?_ | refine jA ?_ | refine uf ?_ | refine jD ?_ | refine uv ?_ | refine uo ?_ | refine jH ?_ | refine ug ?_ | refine mW ?_ | refine mX ?_ | refine uh ?_ | refine jE ?_ | refine jF ?_ | refine mU ?_ | refine jC ?_ | refine um ?_ | refine wZ ?_ | refine w5 ?_ | refine uq ?_ | refine m8 ?_ | refine ur ?_ | refine m9 ?_ | refine jJ ?_ | refine jK ?_ | refine jL ?_ | refine jM ?_ | refine jN ?_ | refine ni ?_ | refine Gu ?_ | refine gD ?_ | refine jT ?_ | (refine' eO (SqT.of ?hz0) ?hz1 ?_; (case hz0 => first | assumption | exact ao); (case hz1 => rfl)) | refine gG ?_ | refine gJ ?_ | refine gH ?_ | refine iZ ?_ | refine jc ?_ | refine jd ?_ | refine je ?_ | refine jf ?_ | refine jg ?_ | refine uw ?_ | refine iT ?_ | refine iU ?_ | refine iV ?_ | refine iW ?_ | refine iY ?_ | refine gF ?_ | refine lV ?_ | refine jQ ?_ | (refine' Gs ?hz0 ?_; (case hz0 => with_unfolding_all first | assumption | omega | (dsimp only <;> omega) | exact ⟨by omega, by omega⟩ | exact .inl ⟨by omega, by omega⟩ | exact .inr ⟨by omega, by omega⟩ | exact ⟨by decide, by decide, by decide⟩)) | (refine' jP ?hz0 ?_; (case hz0 => with_unfolding_all first | assumption | omega | (dsimp only <;> omega) | exact ⟨by omega, by omega⟩ | exact .inl ⟨by omega, by omega⟩ | exact .inr ⟨by omega, by omega⟩ | exact ⟨by decide, by decide, by decide⟩)) | (refine' bD (SqL.of ?hz0) ?hz1 ?_; (case hz0 => first | assumption | exact ao); (case hz1 => with_unfolding_all rfl)) | (refine' ju (SqT.of ?hz0) ?hz1 ?_; (case hz0 => first | assumption | exact ao); (case hz1 => with_unfolding_all rfl)) | (refine' iM ?hz0 ?hz1 ?_; (case hz0 => first | assumption | exact ao); (case hz1 => with_unfolding_all rfl))))
local macro_rules | `(tactic| walk_at "2") => `(tactic| (first | refine ul ?_ | refine jz ?_ | refine qL ?_ | refine nu ?_ | refine nF ?_ | refine jU ?_ | refine jV ?_ | (refine' mY ?hz0 ?_; (case hz0 => with_unfolding_all rfl)) | refine Gr ?_ | refine ut ?_ | refine jO ?_ | refine jG ?_ | refine mZ ?_ | refine mR ?_ | refine jB ?_ | refine mV ?_ | refine jA ?_ | refine uf ?_ | refine jD ?_ | refine uv ?_ | refine uo ?_ | refine jH ?_ | refine ug ?_ | refine mW ?_ | refine mX ?_ | refine uh ?_ | refine jE ?_ | refine jF ?_ | refine mU ?_ | refine jC ?_ | refine um ?_ | refine sS ?_ | refine sO ?_ | refine uq ?_ | refine m8 ?_ | refine ur ?_ | refine m9 ?_ | refine jJ ?_ | refine jK ?_ | refine jL ?_ | refine jM ?_ | refine jN ?_ | refine ni ?_ | refine Gu ?_ | refine gD ?_ | refine jT ?_ | (refine' eO (SqT.of ?hz0) ?hz1 ?_; (case hz0 => first | assumption | exact ao); (case hz1 => rfl)) | refine gG ?_ | refine gJ ?_ | refine gH ?_ | refine iZ ?_ | refine jc ?_ | refine jd ?_ | refine je ?_ | refine jf ?_ | refine jg ?_ | refine uw ?_ | refine iT ?_ | refine iU ?_ | refine iV ?_ | refine iW ?_ | refine iY ?_ | refine gF ?_ | refine lV ?_ | refine jQ ?_ | (refine' Gs ?hz0 ?_; (case hz0 => with_unfolding_all first | assumption | omega | (dsimp only <;> omega) | exact ⟨by omega, by omega⟩ | exact .inl ⟨by omega, by omega⟩ | exact .inr ⟨by omega, by omega⟩ | exact ⟨by decide, by decide, by decide⟩)) | (refine' jP ?hz0 ?_; (case hz0 => with_unfolding_all first | assumption | omega | (dsimp only <;> omega) | exact ⟨by omega, by omega⟩ | exact .inl ⟨by omega, by omega⟩ | exact .inr ⟨by omega, by omega⟩ | exact ⟨by decide, by decide, by decide⟩)) | (refine' bD (SqL.of ?hz0) ?hz1 ?_; (case hz0 => first | assumption | exact ao); (case hz1 => with_unfolding_all rfl)) | (refine' ju (SqT.of ?hz0) ?hz1 ?_; (case hz0 => first | assumption | exact ao); (case hz1 => with_unfolding_all rfl)) | (refine' iM ?hz0 ?hz1 ?_; (case hz0 => first | assumption | exact ao); (case hz1 => with_unfolding_all rfl)) | refine sV ?_ | refine sW ?_ | refine sX ?_ | refine o6 ?_ | (refine' pX ?hz0 ?_; (case hz0 => with_unfolding_all rfl)) | refine pA ?_ | refine lJ ?_ | refine jq ?_ | refine sG ?_ | refine sI ?_ | refine sJ ?_))
local macro_rules | `(tactic| walk_at "3") => `(tactic| (first | refine ul ?_ | refine jz ?_ | refine qL ?_ | refine nu ?_ | refine nF ?_ | refine jU ?_ | refine jV ?_ | (refine' mY ?hz0 ?_; (case hz0 => with_unfolding_all rfl)) | refine Gr ?_ | refine ut ?_ | refine jO ?_ | refine jG ?_ | refine mZ ?_ | refine mR ?_ | refine jB ?_ | refine mV ?_ | refine jA ?_ | refine uf ?_ | refine jD ?_ | refine uv ?_ | refine uo ?_ | refine jH ?_ | refine ug ?_ | refine mW ?_ | refine mX ?_ | refine uh ?_ | refine jE ?_ | refine jF ?_ | refine mU ?_ | refine jC ?_ | refine um ?_ | refine sS ?_ | refine sO ?_ | refine uq ?_ | refine m8 ?_ | refine ur ?_ | refine m9 ?_ | refine jJ ?_ | refine jK ?_ | refine jL ?_ | refine jM ?_ | refine jN ?_ | refine ni ?_ | refine Gu ?_ | refine gD ?_ | refine jT ?_ | (refine' eO (SqT.of ?hz0) ?hz1 ?_; (case hz0 => first | assumption | exact ao); (case hz1 => rfl)) | refine gG ?_ | refine gJ ?_ | refine gH ?_ | refine iZ ?_ | refine jc ?_ | refine jd ?_ | refine je ?_ | refine jf ?_ | refine jg ?_ | refine uw ?_ | refine iT ?_ | refine iU ?_ | refine iV ?_ | refine iW ?_ | refine iY ?_ | refine gF ?_ | refine lV ?_ | refine jQ ?_ | (refine' Gs ?hz0 ?_; (case hz0 => with_unfolding_all first | assumption | omega | (dsimp only <;> omega) | exact ⟨by omega, by omega⟩ | exact .inl ⟨by omega, by omega⟩ | exact .inr ⟨by omega, by omega⟩ | exact ⟨by decide, by decide, by decide⟩)) | (refine' jP ?hz0 ?_; (case hz0 => with_unfolding_all first | assumption | omega | (dsimp only <;> omega) | exact ⟨by omega, by omega⟩ | exact .inl ⟨by omega, by omega⟩ | exact .inr ⟨by omega, by omega⟩ | exact ⟨by decide, by decide, by decide⟩)) | (refine' bD (SqL.of ?hz0) ?hz1 ?_; (case hz0 => first | assumption | exact ao); (case hz1 => with_unfolding_all rfl)) | (refine' ju (SqT.of ?hz0) ?hz1 ?_; (case hz0 => first | assumption | exact ao); (case hz1 => with_unfolding_all rfl)) | (refine' iM ?hz0 ?hz1 ?_; (case hz0 => first | assumption | exact ao); (case hz1 => with_unfolding_all rfl)) | refine sV ?_ | refine sW ?_ | refine sX ?_ | refine o6 ?_ | (refine' pX ?hz0 ?_; (case hz0 => with_unfolding_all rfl)) | refine pA ?_ | refine lJ ?_ | refine jq ?_ | refine sG ?_ | refine sI ?_ | refine sJ ?_ | refine Dl ?_ | refine yh ?_))
abbrev bG (d:Stmt) (x:Str):Prop:=(au d).names.lookup x=some NameKind.local
abbrev Gv (d:Stmt) (x:Str):Prop:=(au d).names.lookup x=some NameKind.cell
abbrev bZ (d:Stmt) (x:Str):Prop:=(au d).names.lookup x=some NameKind.globalImplicit
def top (i:Nat):Stmt:=PySem.Challenge.pw_panethread_k13_papers.main.body.getD i (.Pass ⟨0,0,0,0⟩)
abbrev fu:Stmt:=top 7
abbrev ie:Stmt:=top 8
abbrev gw:Stmt:=top 10
abbrev jh:Stmt:=top 11
abbrev ig:Stmt:=top 12
abbrev aZ:Stmt:=top 14
abbrev eN:Stmt:=top 15
abbrev cu:Stmt:=top 16
abbrev dI:Stmt:=top 17
abbrev kO:Stmt:=top 18
abbrev bQ:Stmt:=top 19
abbrev cN:Stmt:=top 21
abbrev dX:Stmt:=top 22
abbrev bu:Stmt:=top 23
abbrev bU:Stmt:=top 24
abbrev bR:Stmt:=top 25
abbrev cO:Stmt:=top 26
abbrev gR:Stmt:=top 27
abbrev gM:Stmt:=top 28
abbrev ji:Stmt:=top 30
abbrev jw:Stmt:=top 31
abbrev gU:Stmt:=top 32
abbrev bT:Stmt:=top 33
abbrev dz:Stmt:=top 34
abbrev ik:Stmt:=top 35
abbrev cz:Stmt:=top 36
abbrev cX:Stmt:=top 37
abbrev bL:Stmt:=top 38
abbrev fB:Stmt:=top 39
abbrev cB:Stmt:=top 40
abbrev aL:Stmt:=top 41
abbrev aW:Stmt:=top 42
abbrev cL:Stmt:=top 43
abbrev cQ:Stmt:=top 44
abbrev aY:Stmt:=top 45
abbrev aM:Stmt:=top 46
abbrev cA:Stmt:=top 47
abbrev dB:Stmt:=top 48
abbrev rC:Stmt:=initOf (top 2)
local macro_rules | `(tactic| walk_at "s") => `(tactic| (with_reducible repeat (first | refine wY ?_ | walk_at "0")))
local macro_rules | `(tactic| walk_at "n") => `(tactic| (with_reducible repeat (walk_at "0")))
def mx (i j:Int):Int:=if j > i then j else i
def lt (S P:List Nat) (i j:Nat):Int:=match i,j with
 | 0,_=>0
 | _+1,0=>0
 | i+1,j+1=>if S[i]?=P[j]? then mx (mx (lt S P i (j+1)) (lt S P (i+1) j)) (lt S P i j+1) else mx (lt S P i (j+1)) (lt S P (i+1) j)
termination_by i+j
theorem lt_0 (S P:List Nat) (j:Nat):lt S P 0 j=0:=by rw [lt]
theorem zU (S P:List Nat) (i:Nat):lt S P i 0=0:=by cases i <;> rw [lt]
theorem wB (S P:List Nat) (i j:Nat):lt S P (i+1) (j+1)=if S[i]?=P[j]? then mx (mx (lt S P i (j+1)) (lt S P (i+1) j)) (lt S P i j+1) else mx (lt S P i (j+1)) (lt S P (i+1) j):=by rw [lt]
def jj (S P:List Nat) (i n:Nat):List Int:=(List.range n).map (lt S P i)
theorem rD (S P:List Nat) (i n:Nat):(jj S P i n).length=n:=by simp [jj]
theorem yj {S P:List Nat} {i n j:Nat} (h:j < n):(jj S P i n)[j]?=some (lt S P i j):=by
 unfold jj
 rw [List.getElem?_map,List.getElem?_range h];rfl
theorem lX (S P:List Nat) (i n:Nat):jj S P i (n+1)=jj S P i n ++ [lt S P i n]:=by
 unfold jj
 rw [List.range_succ,List.map_append];rfl
def vN:Str:=Str.ofString "abcdefghijklmnopqrstuvwxyz"
def GOOD:List Nat:=(vN ++ Str.ofString ".").cps.toList
def Row (z:Str):Prop:=z.length<=48/\∀ c∈z.cps.toList,c∈GOOD
def FQ (l:Str) (c:Nat):Bool:=(Builtin.Str.occurrences l ⟨#[c]⟩ 0 l.length 1).isEmpty
theorem Nu:∀ c∈GOOD,FQ (vN ++ Str.ofString ".") c=false:=by trivial
def Nv:Sp:=fun vs H Q _=>∃ (a:Addr) (S:List Nat) (i c:Nat) (top:Str),vs=[.ref a,.str ⟨#[c]⟩,.str top]/\S[i]?=some c/\top.length<=48/\H a=some (.lst ((jj S top.cps.toList i (top.length+1)).map V.int))/\
 ∀ r H',H r=none->Same H H'->H' r=some (.lst ((jj S top.cps.toList (i+1) (top.length+1)).map V.int))->Q (.ref r) H'
def Tj (K:W.Frag):Sp:=fun vs H Q _=>∃ (a:Addr) (ns:List Int) (k:Int),vs=[.ref a,.int k]/\SqL K H a (ns.map V.int)/\0<=k/\∀ n,Q (.int n) H
def Ny:Sp:=fun vs H Q _=>∃ n:Int,vs=[.int n]/\∀ p H',H p=none->Chg p H H'->Pur H' p->Q (.ref p) H'
def Tn:Sp:=fun vs H Q _=>∃ (p:Addr) (n:Int),vs=[.ref p,.int n]/\Pur H p/\0 < n/\n < 1073741824/\∀ d H',0<=d->d < n->Pur H' p->Chg p H H'->Q (.int d) H'
def GoodS (ys:List Str):Prop:=∀ y∈ys,∃ c,y=⟨#[c]⟩/\c∈GOOD
theorem GoodS.ones {ys:List Str} (h:GoodS ys):∀ y∈ys,y.length=1:=fun y hy=>by
 obtain ⟨c,rfl,_⟩:=h y hy
 exact len1 c
theorem FT:∀ c∈(Str.ofString "abcdefghijklmnopqrstuvwxyz").cps.toList,c∈GOOD:=by trivial
theorem Tp {zs:List Str} (h:GoodS zs) (hl:zs.length<=48):Row (Txt.join (Str.ofString "") zs):=by
 refine ⟨by rw [Ip h.ones];exact hl,fun c hc=>?_⟩
 rw [zr] at hc
 obtain ⟨l,hl1,hl2⟩:=List.mem_flatten.mp hc
 obtain ⟨y,hy,e⟩:=List.mem_map.mp hl1
 obtain ⟨d,rfl,hd⟩:=h y hy
 subst e
 simp at hl2
 subst hl2
 exact hd
def FW:Sp:=fun vs H Q _=>∃ (p:Addr),vs=[.ref p]/\Pur H p/\∀ (q:Addr) (ys:List Str) (H':Hp),H q=none->Pur H' p->Chg p H H'->H' q=some (.lst (ys.map V.str))->ys≠[]->ys.length<=26->GoodS ys->Q (.ref q) H'
def Nz:Sp:=fun vs H Q _=>∃ (p q:Addr) (ys:List Str) (m:Int),vs=[.ref p,.ref q,.int m]/\Pur H p/\H q=some (.lst (ys.map V.str))/\ys≠[]/\ys.length<=27/\GoodS ys/\0<=m/\m<=48/\
 ∀ (z:Str) (H':Hp),Row z->Pur H' p->Chg p H H'->Q (.str z) H'
theorem over {H H':Hp} {r:Addr} {o:HO} (s:Same H H') (hn:H r=none):Same H (upd H' r o):=fun b u e=>by
 rw [aC (fun z=>by rw [z,hn] at e;cases e)];exact s b u e
theorem yl {S P:List Nat} {i n j:Nat} (h:j < n):uH ((jj S P i n).map V.int) (j:Int)=some (.int (lt S P i j)):=by
 refine uI ?_
 rw [List.getElem?_map,yj h];rfl
def Thing (K:W.Frag) (H:Hp) (v:V):Prop:=(∃ z,v= .str z/\z.length<=5000)\/∃ T,nU K H v (.type T)/\PySem.W.kitOne K (.type T) (.type "str")=some false
def among (z l:Str):Bool:=z.cps.toList.all fun c=>!(Builtin.Str.occurrences l ⟨#[c]⟩ 0 l.length 1).isEmpty
def pY (v:V) (l:Str) (m:Int):Bool:=match v with
 | .str z=>decide ((z.length:Int)<=m) && among z l
 | _=>false
def spIs (K:W.Frag) (l:Str) (m:Int):Sp:=fun vs H Q _=>∃ (v:V),vs=[v]/\Thing K H v/\∀ H',Same H H'->Q (.bl (pY v l m)) H'
structure Txt (K:W.Frag) (mg:Str->Option Value):Prop where
 b_all:mg "all"=none
 b_any:mg "any"=none
 b_bool:mg "bool"=none
 b_enumerate:mg "enumerate"=none
 b_int:mg "int"=none
 b_isinstance:mg "isinstance"=none
 b_len:mg "len"=none
 b_list:mg "list"=none
 b_max:mg "max"=none
 b_min:mg "min"=none
 b_range:mg "range"=none
 b_repr:mg "repr"=none
 b_reversed:mg "reversed"=none
 b_sorted:mg "sorted"=none
 b_str:mg "str"=none
 b_tuple:mg "tuple"=none
 c_LETTERS:∃ t,mg "LETTERS"=some (.str "abcdefghijklmnopqrstuvwxyz" t)
 c_MOST_SIGNS:∃ t,mg "MOST_SIGNS"=some (.int 48 t)
 c_POINT:∃ t,mg "POINT"=some (.str "." t)
 d_is_number:dO K mg "is_number" fu
 d_is_pair:dO K mg "is_pair" ie
 d_is_row:dO K mg "is_row" gw
 d_need_row:dO K mg "need_row" jh
 d_need_rows:dO K mg "need_rows" ig
 d_lengths_below:dO K mg "lengths_below" aZ
 d_lengths:dO K mg "lengths" eN
 d_thread_of:dO K mg "thread_of" cu
 d_is_match:dO K mg "is_match" dI
 d_is_ahead:dO K mg "is_ahead" kO
 d_is_thread:dO K mg "is_thread" bQ
 d_pairs_of:dO K mg "pairs_of" cN
 d_is_stack:dO K mg "is_stack" dX
 d_holds_all_once:dO K mg "holds_all_once" bu
 d_has_one_ahead:dO K mg "has_one_ahead" bU
 d_are_heaps:dO K mg "are_heaps" bR
 d_heaps_of:dO K mg "heaps_of" cO
 d_paper_of:dO K mg "paper_of" gR
 d_shows:dO K mg "shows" gM
 d_law_cell:dO K mg "_law_cell" ji
 d_law_purse:dO K mg "_law_purse" jw
 d_law_take:dO K mg "_law_take" gU
 d_law_letters:dO K mg "_law_letters" bT
 d_law_drawn:dO K mg "_law_drawn" dz
 d_law_row:dO K mg "_law_row" ik
 d_law_table:dO K mg "_law_table" cz
 d_law_pairs:dO K mg "_law_pairs" cX
 d_law_levels:dO K mg "_law_levels" bL
 d_law_whole:dO K mg "_law_whole" fB
 d_law_is_heap:dO K mg "_law_is_heap" cB
 d_law_are_heaps:dO K mg "_law_are_heaps" aL
 d_law_is_thread:dO K mg "_law_is_thread" aW
 d_law_reads:dO K mg "_law_reads" cL
 d_law_pair:dO K mg "_law_pair" cQ
 d_law_as_long:dO K mg "_law_as_long" aY
 d_law_spoilt:dO K mg "_law_spoilt" aM
 d_law_right:dO K mg "_law_right" cA
 d_law:dO K mg "law" dB
 x_NoRow:M6 K mg "NoRow" ["found"] "NoRow.__init__" rC
section
variable {P:Program} {w:World} {K:W.Frag} {mg:Str->Option Value} {base:Heap}
theorem zV:(["sign"]:List Str).Nodup:=by trivial
theorem kz00:bZ jh "is_row":=by trivial
theorem WX:bG jh "thing":=by trivial
theorem kz02:bZ jh "NoRow":=by trivial
theorem WY:bZ ig "need_row":=by trivial
theorem kz04:bG ig "top":=by trivial
theorem kz05:bG ig "side":=by trivial
theorem NB:bG eN "table":=by trivial
theorem W0:bG eN "side":=by trivial
theorem W2:bG eN "sign":=by trivial
theorem kz09:bZ eN "lengths_below":=by trivial
theorem Tq:bG eN "top":=by trivial
theorem kz0b:bZ eN "len":=by trivial
theorem kz0c:bZ eN "need_rows":=by trivial
theorem wC:bG rC "self":=by trivial
theorem vO:bG rC "found":=by trivial
theorem kz0d:bZ gw "all":=by trivial
theorem Tr:bG gw "thing":=by trivial
theorem kz0f:bZ gw "len":=by trivial
theorem kz0g:bZ gw "MOST_SIGNS":=by trivial
theorem kz0h:bZ gw "isinstance":=by trivial
theorem kz0i:bZ gw "str":=by trivial
theorem NK:bG aZ "row":=by trivial
theorem kz0k:bZ aZ "enumerate":=by trivial
theorem kz0l:bG aZ "top":=by trivial
theorem W3:bG aZ "other":=by trivial
theorem NP:bG aZ "column":=by trivial
theorem NQ:bG aZ "length":=by trivial
theorem kz0p:bG aZ "sign":=by trivial
theorem W4:bZ aZ "max":=by trivial
theorem W5:bG aZ "above":=by trivial
def RB (v:V):Bool:=pY v (vN ++ Str.ofString ".") 48
def ql (z:Str):Prop:=z.length<=48/\RB (.str z)=true
def bf (v u:V):Option V:=if RB v=true then (if RB u=true then none else some u) else some v
theorem Tt {H:Hp} {v:V} {ty:String} {l:Str} {m:Int} (h:nU K H v (.type ty)) (k:PySem.W.kitOne K (.type ty) (.type "str")=some false):pY v l m=false:=by
 cases v with
 | str z=>
  cases h
  have:PySem.W.kitOne K (.type "str") (.type "str")=some true:=rfl
  rw [this] at k;cases k
 | _=>rfl
theorem FZ:aJ ["thing"] ["thing"] (au gw):=⟨rfl,rfl,rfl,by trivial,rfl,by trivial,by trivial⟩
theorem vP (T:Txt K mg):pQ P w K mg base 1 "is_row" ["thing"] (spIs K (vN ++ Str.ofString ".") 48):=by
 refine iQ T.d_is_row FZ (fun _ _ _ _ _ _ us hl=>L2.wu (fun _=>rfl) us hl) ?_ fun f cdv A outer s H vs Q E hr h=>?_
 ·rintro vs H Q E ⟨p,rfl,_⟩;rfl
 obtain ⟨v,rfl,hT,q⟩:=h
 have hu:=hr.units0
 have hu64:=hr.units
 refine ⟨_,(aq (bM (iK (gn (bN (bO (aB (b8 (K:=K) rfl) (aX kz0h) T.b_isinstance aR (aa (ak 0 Tr) (aa (oE (aX kz0i) T.b_str RJ (by trivial) (by trivial)) aj)) (by trivial) (by trivial)))) (gf (bH uU (aB (aG (K:=K) rfl) (aX kz0f) T.b_len bJ (aa (ak 0 Tr) aj) (by trivial) (by trivial)) (RL (aX kz0g) T.c_MOST_SIGNS (by trivial)) (by walk_at "p"))))) (aA (aD iw)) bx) (aA (aD (aB (ou rfl) (aX kz0d) T.b_all vo (aa (gO (sub:=[none]) (cH (N:=["thing"]) (sc:=au gw) (N':=["sign"]) (by trivial)) rfl rfl rfl (cT (K:=K) rfl (ak 0 Tr)) (fun C s₀ H₀ ex=>(oG 0 (by trivial) zV)) (fun C s₀ H₀ ex=>dW) (fun C s₀ H₀ ex=>(kh (Jv (K:=K) rfl hu64) (iI 0 (by trivial)) (bY bz (Iw (Gq (by trivial)) T.c_LETTERS (by trivial)) (Iw (Gq (by trivial)) T.c_POINT (by trivial))) (by walk_at "p")))) aj) (by trivial) (by trivial))))),?_⟩
 walk_at "s"
 rcases hT with ⟨z,rfl,hz⟩ | ⟨ty,hty,hk⟩
 ·have hz1:z.length<=sizeLine:=Nat.le_trans hz (by decide)
  refine bV (.str z) rfl ?_
  walk_at "s"
  try with_reducible refine qL ?_
  walk_at "s"
  refine fZ hz1 ?_
  walk_at "s"
  refine lu (fun h1=>?_) (fun h1=>?_)
  ·walk_at "s"
   have:pY (.str z) (vN ++ Str.ofString ".") 48=false:=by
    unfold pY
    dsimp only
    rw [decide_eq_false (by omega)];rfl
   have q':=q H (Same.refl H)
   rw [this] at q'
   exact q'
  ·walk_at "s"
   refine .inr (.inr ⟨z,rfl,?_⟩)
   refine Iv (fun i us H'=>H'=H/\us=((z.cps.toList.take i).map fun c=>!FQ (vN ++ Str.ofString ".") c).map V.bl) hz1 ⟨rfl,rfl⟩ ?_ ?_ ?_
   ·rintro i us H' ⟨rfl,rfl⟩
    simp;omega
   ·rintro i us H' c hc ⟨rfl,rfl⟩
    walk_at "s"
    refine ⟨KeepSt.set rfl,?_⟩
    walk_at "s"
    try with_reducible refine jz ?_
    walk_at "s"
    refine Il (Nat.le_trans (show (Str.ofString "abcdefghijklmnopqrstuvwxyz").length+(Str.ofString ".").length<=1000 by trivial) (by decide)) ?_
    walk_at "s"
    refine ⟨rfl,?_⟩
    rw [List.take_add_one,hc]
    simp [vN,FQ]
   ·rintro us H' ⟨rfl,rfl⟩ D hD
    walk_at "s"
    refine ⟨D,_,rfl,ao,?_⟩
    have e1:z.cps.toList.take z.cps.size=z.cps.toList:=List.take_of_length_le (by simp)
    have e2:pY (.str z) (vN ++ Str.ofString ".") 48=(List.map (fun c=>!FQ (vN ++ Str.ofString ".") c) (z.cps.toList.take z.cps.size)).all id:=by
     unfold pY
     dsimp only
     rw [decide_eq_true (by omega),Bool.true_and,e1,List.all_map];rfl
    have q':=q _ ((Same.refl H').upd hD (o:=.lst (List.map V.bl (List.map (fun c=>!FQ (vN ++ Str.ofString ".") c) (List.take z.cps.size z.cps.toList)))))
    rw [e2] at q'
    exact q'
 ·refine bV hty hk ?_
  walk_at "s"
  try with_reducible refine jz ?_
  walk_at "s"
  try with_reducible refine jz ?_
  walk_at "s"
  have q':=q H (Same.refl H)
  rw [Tt hty hk] at q'
  exact q'
theorem Ga:aJ ["self","found"] ["self","found"] (au rC):=⟨rfl,rfl,rfl,by trivial,rfl,by trivial,by trivial⟩
theorem JV (T:Txt K mg):WK P w K mg base 1 "NoRow" (iz mg "NoRow") ["found"]:=mkX T.x_NoRow Ga (fun _ _ _ _ _ _ us hl=>L2.rP (fun _ _=>rfl) us hl) rfl fun f cdv A outer s H vs Q E hr h=>⟨_,(aA (M7 (K:=K) rfl (ak 0 wC) (ak 1 vO))),rd1 T.x_NoRow.c.cl.cls (T.x_NoRow.na _ (by simp)) h⟩
def NT (K:W.Frag) (mg:Str->Option Value):Sp:=fun vs H Q E=>∃ v:V,vs=[v]/\Thing K H v/\(RB v=true->∀ H',Same H H'->Q .non H')/\
 (RB v=false->∀ e H',Same H H'->Vx H' e (iz mg "NoRow") [("found",v)]->E (.ref (iz mg "NoRow")) (some e) H')
theorem zW:aJ ["thing"] ["thing"] (au jh):=⟨rfl,rfl,rfl,by trivial,rfl,by trivial,by trivial⟩
theorem mD (T:Txt K mg):sE P w K mg base 3 "need_row" ["thing"] (NT K mg):=by
 have vP:=vP (P:=P) (w:=w) (base:=base) T
 refine pW T.d_need_row zW (fun _ _ _ _ _ _ us hl=>L2.wu (fun _=>rfl) us hl) ?_ fun f cdv A outer s H vs Q E hr h=>?_
 ·rintro vs H Q E ⟨v,rfl,_⟩;rfl
 obtain ⟨v,rfl,hT,q1,q2⟩:=h
 have hu:=hr.units0
 have hu64:=hr.units
 refine ⟨_,(aA (bM (bN (bO (aH vP (hr.mono (by decide)) (aX kz00) (aa (ak 0 WX) aj) (by trivial)))) (aA (Jr (JV (P:=P) (w:=w) (base:=base) T) (hr.mono (by decide)) rfl (aX kz02) dw (aa (ak 0 WX) aj) (by trivial))) bx)),?_⟩
 walk_at "s"
 refine ⟨v,rfl,hT,fun H1 S1=>?_⟩
 cases hb:pY v (vN ++ Str.ofString ".") 48 with
 | true=>
  walk_at "s"
  try with_reducible refine qL ?_
  walk_at "s"
  exact q1 hb _ S1
 | false=>
  walk_at "s"
  try with_reducible refine jz ?_
  walk_at "s"
  exact ⟨rfl,(show 1<=sizeLine by decide),fun x H2 S2 X2=>q2 hb x H2 (S1.trans S2) X2⟩
def spX (K:W.Frag) (mg:Str->Option Value) (g:Str->Str->Hp->VK->Prop):Sp:=fun vs H Q E=>∃ v u:V,vs=[v,u]/\Thing K H v/\Thing K H u/\
 (∀ w,bf v u=some w->∀ e H',Same H H'->Vx H' e (iz mg "NoRow") [("found",w)]->E (.ref (iz mg "NoRow")) (some e) H')/\
 (∀ side top:Str,v= .str side->u= .str top->ql side->ql top->g side top H Q)
theorem JX {v:V} (h:RB v=true):∃ z,v= .str z/\ql z:=by
 cases v with
 | str z=>
  refine ⟨z,rfl,?_,h⟩
  unfold RB pY at h
  simp only [Bool.and_eq_true,decide_eq_true_eq] at h
  omega
 | _=>cases h
theorem Tu {z:Str} (h:Row z):RB (.str z)=true:=by
 unfold RB pY
 simp only [Bool.and_eq_true,decide_eq_true_eq]
 refine ⟨by have:=h.1;omega,List.all_eq_true.mpr fun c hc=>?_⟩
 have:=Nu c (h.2 c hc)
 unfold FQ at this
 rw [this];rfl
theorem Row.b {z:Str} (h:Row z):ql z:=⟨h.1,Tu h⟩
theorem pB {H:Hp} {z:Str} (h:ql z):Thing K H (.str z):=.inl ⟨z,rfl,by have:=h.1;omega⟩
theorem Dm {z y:Str} (h:ql z) (h':ql y):bf (.str z) (.str y)=none:=by
 unfold bf;rw [if_pos h.2,if_pos h'.2]
theorem spX.good {g:Str->Str->Hp->VK->Prop} {H:Hp} {Q:VK} {E:XK} {z y:Str} (h:ql z) (h':ql y) (q:g z y H Q):spX K mg g [.str z,.str y] H Q E:=
 ⟨_,_,rfl,pB h,pB h',(fun w e=>by rw [Dm h h'] at e;cases e),fun s t e1 e2 _ _=>by cases e1;cases e2;exact q⟩
def gNon:Str->Str->Hp->VK->Prop:=fun _ _ H Q=>∀ H',Same H H'->Q .non H'
theorem Thing.same {H H':Hp} {v:V} (h:Thing K H v) (s:Same H H'):Thing K H' v:=by
 rcases h with h | ⟨T,t,k⟩
 ·exact .inl h
 ·refine .inr ⟨T,?_,k⟩
  cases t with
  | non=>exact .non
  | bl x=>exact .bl x
  | int i=>exact .int i
  | str x=>exact .str x
  | flt x=>exact .flt x
  | lst e=>exact .lst (s _ _ e)
  | frz e=>exact .frz (s _ _ e)
  | tup e=>exact .tup (s _ _ e)
  | dK e=>exact .dK (s _ _ e)
  | dT e=>exact .dT (s _ _ e)
theorem ym:aJ ["side","top"] ["side","top"] (au ig):=⟨rfl,rfl,rfl,by trivial,rfl,by trivial,by trivial⟩
theorem bK (T:Txt K mg):sE P w K mg base 4 "need_rows" ["side","top"] (spX K mg gNon):=by
 have mD:=mD (P:=P) (w:=w) (base:=base) T
 refine pW T.d_need_rows ym (fun _ _ _ _ _ _ us hl=>L2.rP (fun _ _=>rfl) us hl) ?_ fun f cdv A outer s H vs Q E hr h=>?_
 ·rintro vs H Q E ⟨v,u,rfl,_⟩;rfl
 obtain ⟨v,u,rfl,hv,hu',qx,q⟩:=h
 have hu:=hr.units0
 have hu64:=hr.units
 refine ⟨_,(aq (cU (di mD (hr.mono (by decide)) (aX WY) dw (aa (ak 0 kz05) aj) (by trivial))) (aA (cU (di mD (hr.mono (by decide)) (aX WY) dw (aa (ak 1 kz04) aj) (by trivial))))),?_⟩
 walk_at "s"
 refine ⟨v,rfl,hv,fun hb H1 S1=>?_,fun hb e H' S X=>qx v (by unfold bf;rw [if_neg (by rw [hb];decide)]) e H' S X⟩
 walk_at "s"
 refine ⟨u,rfl,hu'.same S1,fun hb2 H2 S2=>?_,fun hb2 e H' S X=>qx u (by unfold bf;rw [if_pos hb,if_neg (by rw [hb2];decide)]) e H' (S1.trans S) X⟩
 walk_at "s"
 obtain ⟨z,rfl,hz⟩:=JX hb
 obtain ⟨y,rfl,hy⟩:=JX hb2
 exact q z y rfl rfl hz hy _ (S1.trans S2)
theorem cY:aJ ["above","sign","top","row","column","other","length"] ["above","sign","top"] (au aZ):=⟨rfl,rfl,rfl,by trivial,rfl,by trivial,by trivial⟩
theorem jW (T:Txt K mg):pQ P w K mg base 1 "lengths_below" ["above","sign","top"] Nv:=by
 refine iQ T.d_lengths_below cY (fun _ _ _ _ _ _ us hl=>L2.rQ (fun _ _ _=>rfl) us hl) ?_ fun f cdv A outer s H vs Q E hr h=>?_
 ·rintro vs H Q E ⟨a,S,i,c,top,rfl,_⟩;rfl
 obtain ⟨a,S,i,c,top,rfl,hc,ht,ha,q⟩:=h
 have hu:=hr.units0
 have hu64:=hr.units
 refine ⟨_,(aq (aN (i:=3) cY.nd rfl (Or.inl NK) (dj (aa az aj)) rfl) (aq (dN PassesOwn.never rfl (uJ (K:=K) rfl rfl (aX kz0k) T.b_enumerate (aa (ak 2 kz0l) aj)) (su (K:=K) rfl rfl (dq (bI (i:=4) cY.nd rfl (Or.inl NP) rfl) (dq (bI (i:=5) cY.nd rfl (Or.inl W3) rfl) lZ))) (aq (aN (i:=6) cY.nd rfl (Or.inl NQ) (aB (lR rfl) (aX W4) T.b_max vm (aa (aV (K:=K) rfl (ak 0 W5) (bY bz (ak 4 NP) az)) (aa (aV (K:=K) rfl (ak 3 NK) (ak 4 NP)) aj)) (by trivial) (by trivial)) rfl) (aq (bM (bH (iR (K:=K) rfl hu64) (ak 1 kz0p) (ak 5 W3) (by walk_at "p")) (aA (aN (i:=6) cY.nd rfl (Or.inl NQ) (aB (lR rfl) (aX W4) T.b_max vm (aa (ak 6 NQ) (aa (bY bz (aV (K:=K) rfl (ak 0 W5) (ak 4 NP)) az) aj)) (by trivial) (by trivial)) rfl)) bx) (aA (cU (kj (K:=K) rfl PySem.F.plainAttrs_list PySem.F.slot_list_append PySem.F.type_list_append gY (ak 3 NK) (aa (ak 6 NQ) aj))))))) (aA (aD (ak 3 NK))))),?_⟩
 walk_at "s"
 refine ⟨by decide,fun r nr=>?_⟩
 walk_at "s"
 refine .inl ⟨top,rfl,?_⟩
 have hsz:top.cps.size=top.length:=rfl
 refine Bl (fun j U H'=>Same H H'/\H' r=some (.lst ((jj S top.cps.toList (i+1) (j+1)).map V.int))/\∃ x4 x5 x6,U=[some (.ref a),some (.str ⟨#[c]⟩),some (.str top),some (.ref r),x4,x5,x6])
  ⟨(Same.refl H).upd nr,by rw [ao];unfold jj;simp [zU],none,none,none,rfl⟩ ?_ ?_
 ·rintro j U H1 T0 hj ⟨S1,hr1,x4,x5,x6,rfl⟩ nT
  have hj':j < top.length:=hj
  have ed:top.cps.toList[j]?=some (top.cps.getD j 0):=by
   rw [Array.getD_eq_getD_getElem?]
   have:top.cps[j]?=some top.cps[j]:=Array.getElem?_eq_getElem hj
   simp [this,hj]
  refine eO (xs:=[.int j,.str ⟨#[top.cps.getD j 0]⟩]) (SqT.of ao) rfl ?_
  have ha2:upd H1 T0 (.tup (nj top j)) a=some (.lst ((jj S top.cps.toList i (top.length+1)).map V.int)):=dM nT (S1 _ _ ha)
  have hr2:upd H1 T0 (.tup (nj top j)) r=some (.lst ((jj S top.cps.toList (i+1) (j+1)).map V.int)):=dM nT hr1
  have S2:Same H (upd H1 T0 (.tup (nj top j))):=S1.upd nT
  have hl:((jj S top.cps.toList (i+1) (j+1)).map V.int).length < sizeLine:=by
   rw [List.length_map,rD]
   exact Nat.lt_of_lt_of_le (show j+1 < 1000 by omega) (by decide)
  walk_at "s"
  refine bD (SqL.of ha2) (yl (j:=j+1) (by omega)) ?_
  walk_at "s"
  refine bD (SqL.of hr2) (yl (j:=j) (by omega)) ?_
  walk_at "s"
  refine lu (fun hk=>?_) (fun hk=>?_)
  ·have ec:c=top.cps.getD j 0:=by
    have:=Str.mk.inj (V.str.inj hk)
    simpa using this
   walk_at "s"
   refine bD (SqL.of ha2) (yl (j:=j) (by omega)) ?_
   walk_at "s"
   refine ⟨.inl ⟨rfl,_,SqL.of hr2⟩,?_⟩
   walk_at "s"
   refine gq hr2 hl ?_
   refine ⟨over S2 nr,?_,_,_,_,rfl⟩
   have ev:lt S top.cps.toList (i+1) (j+1)=mx (mx (lt S top.cps.toList i (j+1)) (lt S top.cps.toList (i+1) j)) (lt S top.cps.toList i j+1):=by rw [wB,if_pos (by rw [hc,ed,ec])]
   rw [ao,lX S _ (i+1) (j+1),ev,List.map_append];rfl
  ·have ec:¬ S[i]?=top.cps.toList[j]?:=by
    rw [hc,ed]
    intro z
    exact hk (by rw [Option.some.inj z])
   walk_at "s"
   refine ⟨.inl ⟨rfl,_,SqL.of hr2⟩,?_⟩
   walk_at "s"
   refine gq hr2 hl ?_
   refine ⟨over S2 nr,?_,_,_,_,rfl⟩
   have ev:lt S top.cps.toList (i+1) (j+1)=mx (lt S top.cps.toList i (j+1)) (lt S top.cps.toList (i+1) j):=by rw [wB,if_neg ec]
   rw [ao,lX S _ (i+1) (j+1),ev,List.map_append];rfl
 ·rintro U H1 ⟨S1,hr1,x4,x5,x6,rfl⟩
  walk_at "s"
  exact q r H1 nr S1 hr1
structure Tab (H:Hp) (t:Addr) (rs:List Addr) (rows:List (List Int)):Prop where
 at_:H t=some (.lst (rs.map V.ref))
 len:rs.length=rows.length
 nd:rs.Nodup
 ne:t ∉ rs
 row:∀ (i:Nat) (r:Addr) (xs:List Int),rs[i]?=some r->rows[i]?=some xs->H r=some (.lst (xs.map V.int))
theorem zeros (S P:List Nat) (n:Nat):(List.replicate n [V.int 0]).flatten=(jj S P 0 n).map V.int:=by
 induction n with
 | zero=>rfl
 | succ n ih=>
  rw [lX,List.map_append,← ih,lt_0,List.replicate_succ',List.flatten_append];rfl
theorem sY {α:Type} {xs:List α} {n:Nat} {v:α} (h:xs.length=n+1) (e:xs[n]?=some v):uH xs (-1)=some v:=by
 unfold uH Cp
 rw [h,if_neg (by omega),if_pos (by omega)]
 show xs[((-1:Int)+((n+1:Nat):Int)).toNat]?=some v
 rw [show ((-1:Int)+((n+1:Nat):Int)).toNat=n by omega];exact e
def iD (S P:List Nat) (m n:Nat):List (List Int):=(List.range m).map fun i=>jj S P i n
def W6:Str->Str->Hp->VK->Prop:=fun side top H Q=>
 ∀ t rs H',H t=none->(∀ r∈rs,H r=none)->Same H H'->Tab H' t rs (iD side.cps.toList top.cps.toList (side.length+1) (top.length+1))->Q (.ref t) H'
theorem qm:aJ ["side","top","table","sign"] ["side","top"] (au eN):=⟨rfl,rfl,rfl,by trivial,rfl,by trivial,by trivial⟩
theorem j7 (T:Txt K mg):sE P w K mg base 5 "lengths" ["side","top"] (spX K mg W6):=by
 have bK:=bK (P:=P) (w:=w) (base:=base) T
 have jW:=jW (P:=P) (w:=w) (base:=base) T
 refine pW T.d_lengths qm (fun _ _ _ _ _ _ us hl=>L2.rP (fun _ _=>rfl) us hl) ?_ fun f cdv A outer s H vs Q E hr h=>?_
 ·rintro vs H Q E ⟨v,u,rfl,_⟩;rfl
 obtain ⟨v,u,rfl,hv,hu',qx,q⟩:=h
 have hu:=hr.units0
 have hu64:=hr.units
 refine ⟨_,(aq (cU (di bK (hr.mono (by decide)) (aX kz0c) dw (aa (ak 0 W0) (aa (ak 1 Tq) aj)) (by trivial))) (aq (aN (i:=2) qm.nd rfl (Or.inl NB) (dj (aa (bY jo (dj (aa az aj)) (bY bz (aB (aG (K:=K) rfl) (aX kz0b) T.b_len bJ (aa (ak 1 Tq) aj) (by trivial) (by trivial)) az)) aj)) rfl) (aq (yc (dN PassesOwn.never rfl (cT (K:=K) rfl (ak 0 W0)) (bI (i:=3) qm.nd rfl (Or.inl W2) rfl) (aA (cU (kj (K:=K) rfl PySem.F.plainAttrs_list PySem.F.slot_list_append PySem.F.type_list_append gY (ak 2 NB) (aa (aH jW (hr.mono (by decide)) (aX kz09) (aa (aV (K:=K) rfl (ak 2 NB) (wz lH az)) (aa (ak 3 W2) (aa (ak 1 Tq) aj))) (by trivial)) aj)))))) (aA (aD (ak 2 NB)))))),?_⟩
 walk_at "s"
 refine ⟨v,u,rfl,hv,hu',qx,fun side top e1 e2 hs ht H1 S1=>?_⟩
 subst e1 e2
 have lt1:top.length<=sizeLine:=Nat.le_trans ht.1 (by decide)
 walk_at "s"
 refine ⟨by simp;decide,fun p0 n0=>?_⟩
 walk_at "s"
 refine fZ lt1 ?_
 walk_at "s"
 refine IW ao (by omega) (by have:=ht.1;omega) (Nat.le_trans (show [V.int 0].length*((top.length:Int)+1).toNat<=1000 by have:=ht.1;simp;omega) (by decide)) fun p1 n1=>?_
 walk_at "s"
 refine ⟨by simp;decide,fun t n2=>?_⟩
 walk_at "s"
 refine .inr (.inr ⟨side,rfl,?_⟩)
 have e0:(List.replicate ((top.length:Int)+1).toNat [V.int 0]).flatten=(jj side.cps.toList top.cps.toList 0 (top.length+1)).map V.int:=by
  rw [show ((top.length:Int)+1).toNat=top.length+1 by omega]
  exact zeros _ _ _
 rw [e0] at n2 ⊢
 have nt1:H1 t=none:=(((Same.refl H1).upd n0).upd n1).free n2
 have nt:H t=none:=S1.free nt1
 have npt:p1≠t:=fun z=>by rw [z,ao] at n2;cases n2
 refine CP (z:=side) (fun i U H'=>Same H H'/\(∃ rs,(∀ r∈rs,H r=none)/\Tab H' t rs (iD side.cps.toList top.cps.toList (i+1) (top.length+1)))/\∃ x3,U=[some (.str side),some (.str top),some (.ref t),x3])
  ⟨(((S1.upd n0).upd n1).upd n2),⟨[p1],fun r hr=>by rw [List.mem_singleton.mp hr];exact S1.free (((Same.refl H1).upd n0).free n1),⟨ao,by simp [iD],by simp,by simpa using Ne.symm npt,fun i r xs e1 e2=>?_⟩⟩,none,rfl⟩ ?_ ?_
 ·have hi:i=0:=by
   have:=(List.getElem?_eq_some_iff.mp e1).1
   simp at this;exact this
  subst hi
  simp [iD] at e1 e2
  subst e1 e2
  exact dM n2 ao
 ·rintro i U H2 c hc ⟨S2,⟨rs,fr,TB⟩,x3,rfl⟩
  have hi:i < side.length:=by
   have:=(List.getElem?_eq_some_iff.mp hc).1
   simpa [Str.length] using this
  have hrl:rs.length=i+1:=by rw [TB.len];simp [iD]
  obtain ⟨r,er⟩:∃ r,rs[i]?=some r:=⟨_,List.getElem?_eq_getElem (show i < rs.length by omega)⟩
  have hrow:=TB.row i r (jj side.cps.toList top.cps.toList i (top.length+1)) er (by unfold iD;rw [List.getElem?_map,List.getElem?_range (by omega)];rfl)
  walk_at "s"
  refine ⟨.inl ⟨rfl,_,SqL.of TB.at_⟩,?_⟩
  walk_at "s"
  refine bD (SqL.of TB.at_) (sY (n:=i) (v:=.ref r) (by simp [hrl]) (by rw [List.getElem?_map,er];rfl)) ?_
  walk_at "s"
  refine ⟨r,side.cps.toList,i,c,top,rfl,hc,ht.1,hrow,fun r2 H3 nr2 S3 hr2=>?_⟩
  walk_at "s"
  refine gq (S3 _ _ TB.at_) (by rw [List.length_map,hrl];exact Nat.lt_of_lt_of_le (show i+1 < 1000 by have:=hs.1;omega) (by decide)) ?_
  have nr2t:r2≠t:=fun z=>by rw [z,TB.at_] at nr2;cases nr2
  have nrs:∀ r'∈rs,r'≠t:=fun r' hr' z=>TB.ne (by rw [← z];exact hr')
  have nin:r2 ∉ rs:=fun z=>by
   obtain ⟨k,hk,ek⟩:=List.mem_iff_getElem.mp z
   have hk2:k < (iD side.cps.toList top.cps.toList (i+1) (top.length+1)).length:=by rw [← TB.len];exact hk
   have:=TB.row k r2 _ (by rw [List.getElem?_eq_getElem hk,ek]) (List.getElem?_eq_getElem hk2)
   rw [this] at nr2;cases nr2
  refine ⟨over (S2.trans S3) nt,⟨rs ++ [r2],fun r hr=>(List.mem_append.mp hr).elim (fr r) fun z=>by rw [List.mem_singleton.mp z];exact S2.free nr2,⟨by rw [ao];simp,by simp [hrl,iD],?_,?_,fun k r' xs e1 e2=>?_⟩⟩,_,rfl⟩
  ·rw [List.nodup_append]
   exact ⟨TB.nd,by simp,fun a ha b hb z=>nin (by rw [List.mem_singleton.mp hb] at z;rw [← z];exact ha)⟩
  ·intro z
   rcases List.mem_append.mp z with z | z
   ·exact TB.ne z
   ·exact nr2t (List.mem_singleton.mp z).symm
  ·by_cases hk:k < rs.length
   ·rw [List.getElem?_append_left hk] at e1
    rw [aC (nrs r' (List.mem_of_getElem? e1))]
    refine S3 _ _ (TB.row k r' xs e1 ?_)
    unfold iD at e2 ⊢
    rw [List.getElem?_map,List.getElem?_range (by omega)] at e2
    rw [List.getElem?_map,List.getElem?_range (by omega)]
    exact e2
   ·have hk2:k < (rs ++ [r2]).length:=(List.getElem?_eq_some_iff.mp e1).1
    simp at hk2
    have hk3:k=i+1:=by omega
    subst hk3
    rw [List.getElem?_append_right (by omega),hrl] at e1
    simp at e1
    subst e1
    unfold iD at e2
    rw [List.getElem?_map,List.getElem?_range (by omega)] at e2
    have e3:=Option.some.inj e2
    rw [aC nr2t,← e3]
    exact hr2
 ·rintro U H2 ⟨S2,⟨rs,fr,TB⟩,x3,rfl⟩
  walk_at "s"
  exact q _ _ rfl rfl hs ht t rs H2 nt fr S2 TB
end
theorem NZ (i j:Int):i<=mx i j:=by unfold mx;split <;> omega
theorem Tv (i j:Int):j<=mx i j:=by unfold mx;split <;> omega
theorem t6 {i j k:Int} (h:i<=k) (h':j<=k):mx i j<=k:=by unfold mx;split <;> omega
theorem Qf (S P:List Nat) (i j:Nat):lt S P i j<=lt S P (i+1) j:=by
 cases j with
 | zero=>rw [zU,zU];exact Int.le_refl _
 | succ j=>
  rw [wB]
  split
  ·exact Int.le_trans (NZ _ _) (NZ _ _)
  ·exact NZ _ _
theorem Qg (S P:List Nat) (i j:Nat):lt S P i j<=lt S P i (j+1):=by
 cases i with
 | zero=>rw [lt_0,lt_0];exact Int.le_refl _
 | succ i=>
  rw [wB S P i j]
  split
  ·exact Int.le_trans (Tv _ _) (NZ _ _)
  ·exact Tv _ _
theorem Dn (S P:List Nat):∀ (n i j:Nat),i+j<=n->lt S P (i+1) j<=lt S P i j+1/\lt S P i (j+1)<=lt S P i j+1
 | n,i,j,h=>by
  have key1:lt S P (i+1) j<=lt S P i j+1:=by
   cases j with
   | zero=>rw [zU,zU];omega
   | succ j=>
    cases n with
    | zero=>omega
    | succ n=>
     have a:=(Dn S P n i j (by omega)).1
     have b:=Qg S P i j
     rw [wB]
     split
     ·exact t6 (t6 (by omega) (by omega)) (by omega)
     ·exact t6 (by omega) (by omega)
  have key2:lt S P i (j+1)<=lt S P i j+1:=by
   cases i with
   | zero=>rw [lt_0,lt_0];omega
   | succ i=>
    cases n with
    | zero=>omega
    | succ n=>
     have a:=(Dn S P n i j (by omega)).2
     have b:=Qf S P i j
     rw [wB]
     split
     ·exact t6 (t6 (by omega) (by omega)) (by omega)
     ·exact t6 (by omega) (by omega)
  exact ⟨key1,key2⟩
theorem zX {S P:List Nat} {i j:Nat} (h:S[i]?=P[j]?):lt S P (i+1) (j+1)=lt S P i j+1:=by
 have a:=Dn S P (i+j) i j (Nat.le_refl _)
 rw [wB,if_pos h]
 have l:mx (mx (lt S P i (j+1)) (lt S P (i+1) j)) (lt S P i j+1)<=lt S P i j+1:=t6 (t6 a.2 a.1) (Int.le_refl _)
 have r:=Tv (mx (lt S P i (j+1)) (lt S P (i+1) j)) (lt S P i j+1)
 omega
theorem Tw (S P:List Nat) (i j k:Nat):lt S P i j<=lt S P (i+k) j:=by
 induction k with
 | zero=>exact Int.le_refl _
 | succ k ih=>exact Int.le_trans ih (Qf S P (i+k) j)
theorem Tz (S P:List Nat) (i j k:Nat):lt S P i j<=lt S P i (j+k):=by
 induction k with
 | zero=>exact Int.le_refl _
 | succ k ih=>exact Int.le_trans ih (Qg S P i (j+k))
theorem JZ {S P:List Nat} {i j i' j':Nat} (h:i<=i') (h':j<=j'):lt S P i j<=lt S P i' j':=by
 obtain ⟨k,rfl⟩:=Nat.le.dest h
 obtain ⟨l,rfl⟩:=Nat.le.dest h'
 exact Int.le_trans (Tw S P i j k) (Tz S P (i+k) j l)
theorem J6 (S P:List Nat) (i j:Nat):0<=lt S P i j:=by
 have:=JZ (S:=S) (P:=P) (Nat.zero_le i) (Nat.le_refl j)
 rwa [lt_0] at this
theorem yo (S P:List Nat):∀ (i j:Nat),lt S P i j<=i
 | 0,j=>by rw [lt_0];omega
 | i+1,j=>by
  have a:=(Dn S P (i+j) i j (Nat.le_refl _)).1
  have b:=yo S P i j
  omega
abbrev PP:=Nat×Nat
def pD (p:PP):PyData:=.tuple [.int p.1,.int p.2]
def rE (S P:List Nat) (i n:Nat):List PP:=((List.range n).filter fun j=>decide (S[i]?=P[j]?)).map fun j=>(i,j)
def prs (S P:List Nat):Nat->List PP
 | 0=>[]
 | m+1=>prs S P m ++ rE S P m P.length
theorem pC (S P:List Nat) (i n:Nat):rE S P i (n+1)=rE S P i n ++ if S[i]?=P[n]? then [(i,n)] else []:=by
 unfold rE
 rw [List.range_succ,List.filter_append,List.map_append]
 by_cases h:S[i]?=P[n]?
 ·simp [List.filter_cons,h]
 ·simp [List.filter_cons,h]
theorem rF (S P:List Nat) (i n:Nat):(rE S P i n).length<=n:=by
 unfold rE
 rw [List.length_map]
 exact Nat.le_trans (List.length_filter_le _ _) (by simp)
theorem rH (S P:List Nat) (m:Nat):(prs S P m).length<=m*P.length:=by
 induction m with
 | zero=>simp [prs]
 | succ m ih=>
  have:=rF S P m P.length
  rw [prs,List.length_append,Nat.succ_mul]
  omega
theorem vQ {S P:List Nat} {i n:Nat} {p:PP} (h:p∈rE S P i n):p.1=i/\p.2 < n/\S[p.1]?=P[p.2]?:=by
 unfold rE at h
 obtain ⟨j,hj,rfl⟩:=List.mem_map.mp h
 obtain ⟨h1,h2⟩:=List.mem_filter.mp hj
 exact ⟨rfl,List.mem_range.mp h1,of_decide_eq_true h2⟩
theorem jt {S P:List Nat} {m:Nat} {p:PP} (h:p∈prs S P m):p.1 < m/\p.2 < P.length/\S[p.1]?=P[p.2]?:=by
 induction m with
 | zero=>cases h
 | succ m ih=>
  rw [prs] at h
  rcases List.mem_append.mp h with h | h
  ·obtain ⟨a,b,c⟩:=ih h
   exact ⟨by omega,b,c⟩
  ·obtain ⟨a,b,c⟩:=vQ h
   exact ⟨by omega,b,c⟩
def TK (H H':Hp):Prop:=∀ b xs,H b=some (.tup xs)->H' b=some (.tup xs)
theorem TK.trans {H H1 H2:Hp} (a:TK H H1) (b:TK H1 H2):TK H H2:=fun c xs e=>b c xs (a c xs e)
theorem TK.same {H H':Hp} (s:Same H H'):TK H H':=fun b xs e=>s b _ e
theorem TK.lst {H:Hp} {q:Addr} {xs:List V} {o:HO} (h:H q=some (.lst xs)):TK H (upd H q o):=fun b ys e=>by
 rw [aC (fun z=>by rw [z,h] at e;cases e)];exact e
theorem TK.new {H:Hp} {q:Addr} {o:HO} (h:H q=none):TK H (upd H q o):=fun b ys e=>by
 rw [aC (fun z=>by rw [z,h] at e;cases e)];exact e
theorem vR {H:Hp} {p:PP} {v:V}:DR H (pD p) v↔∃ a,v= .ref a/\H a=some (.tup [.int p.1,.int p.2]):=by
 unfold pD
 rw [vz]
 constructor
 ·rintro ⟨a,vs,e,h,r⟩
  rw [du] at r
  obtain ⟨v1,r1,rfl,h1,r2⟩:=r
  rw [du] at r2
  obtain ⟨v2,r3,rfl,h2,r4⟩:=r2
  rw [dg] at r4
  rw [xX] at h1 h2
  subst h1 h2 r4
  exact ⟨a,e,h⟩
 ·rintro ⟨a,e,h⟩
  exact ⟨a,_,e,h,du.mpr ⟨_,_,rfl,xX.mpr rfl,uK (xX.mpr rfl)⟩⟩
theorem jx {H H':Hp} (t:TK H H'):∀ (ps:List PP) (vs:List V),DRs H (ps.map pD) vs->DRs H' (ps.map pD) vs
 | [],vs,h=>by rw [List.map_nil,dg] at h ⊢;exact h
 | p :: ps,vs,h=>by
  rw [List.map_cons,du] at h ⊢
  obtain ⟨v,r,e,hd,hr⟩:=h
  obtain ⟨a,ea,ha⟩:=vR.mp hd
  exact ⟨v,r,e,vR.mpr ⟨a,ea,t _ _ ha⟩,jx t ps r hr⟩
def PL (H:Hp) (q:Addr) (ps:List PP):Prop:=∃ vs,H q=some (.lst vs)/\DRs H (ps.map pD) vs
theorem PL.keep {H H':Hp} {q:Addr} {ps:List PP} (h:PL H q ps) (t:TK H H') (e:∀ vs,H q=some (.lst vs)->H' q=some (.lst vs)):PL H' q ps:=by
 obtain ⟨vs,h1,h2⟩:=h
 exact ⟨vs,e vs h1,jx t ps vs h2⟩
theorem PL.same {H H':Hp} {q:Addr} {ps:List PP} (h:PL H q ps) (s:Same H H'):PL H' q ps:=h.keep (TK.same s) fun _ e=>s _ _ e
theorem PL.len {H:Hp} {q:Addr} {ps:List PP} (h:PL H q ps):∃ vs,H q=some (.lst vs)/\vs.length=ps.length/\DRs H (ps.map pD) vs:=by
 obtain ⟨vs,h1,h2⟩:=h
 exact ⟨vs,h1,by have:=qU h2;simpa using this,h2⟩
theorem PL.push {H:Hp} {q T:Addr} {ps:List PP} {i j:Nat} (h:PL H q ps) (hT:H T=some (.tup [.int i,.int j])):∃ vs,H q=some (.lst vs)/\vs.length=ps.length/\PL (upd H q (.lst (vs ++ [.ref T]))) q (ps ++ [(i,j)]):=by
 obtain ⟨vs,h1,hl,h2⟩:=h.len
 refine ⟨vs,h1,hl,vs ++ [.ref T],ao,?_⟩
 rw [List.map_append]
 refine km (jx (TK.lst h1) ps vs h2) (uK (vR.mpr ⟨T,rfl,TK.lst h1 _ _ hT⟩))
theorem PL.at_ {H:Hp} {q:Addr} {ps:List PP} {vs:List V} {k:Nat} {v:V} (h:DRs H (ps.map pD) vs) (e:vs[k]?=some v):∃ p a,ps[k]?=some p/\v= .ref a/\H a=some (.tup [.int p.1,.int p.2]):=by
 have hl:=qU h
 rw [List.length_map] at hl
 have hk:k < ps.length:=by have:=(List.getElem?_eq_some_iff.mp e).1;omega
 obtain ⟨u,h1,h2⟩:=Jb (i:=k) (d:=pD ps[k]) h (by rw [List.getElem?_map,List.getElem?_eq_getElem hk];rfl)
 rw [e] at h1
 cases h1
 obtain ⟨a,ea,ha⟩:=vR.mp h2
 exact ⟨ps[k],a,List.getElem?_eq_getElem hk,ea,ha⟩
theorem xn (ps:List PP):PySem.SeqAt.shaped (.list (ps.map pD))=true:=by
 have key:∀ ps:List PP,PyData.canLayAll0 (ps.map pD)=true/\PyData.depthAll (ps.map pD)<=1:=by
  intro ps
  induction ps with
  | nil=>exact ⟨rfl,by simp [PyData.depthAll]⟩
  | cons p ps ih=>
   rw [List.map_cons]
   refine ⟨?_,?_⟩
   ·rw [PyData.canLayAll0,ih.1];simp [pD,PyData.canLay0,PyData.canLayAll0]
   ·rw [PyData.depthAll]
    have:PyData.depth (pD p)<=1:=by simp [pD,PyData.depth,PyData.depthAll]
    omega
 obtain ⟨a,b⟩:=key ps
 unfold PySem.SeqAt.shaped
 rw [PyData.canLay0,a,PyData.depth,decide_eq_true (by omega)];rfl
structure HTab (H:Hp) (t:Addr) (rs:List Addr) (hs:List (List PP)):Prop where
 at_:H t=some (.lst (rs.map V.ref))
 len:rs.length=hs.length
 nd:rs.Nodup
 ne:t ∉ rs
 row:∀ (i:Nat) (r:Addr) (ps:List PP),rs[i]?=some r->hs[i]?=some ps->PL H r ps
theorem HTab.same {H H':Hp} {t:Addr} {rs:List Addr} {hs:List (List PP)} (h:HTab H t rs hs) (s:Same H H'):HTab H' t rs hs:=
 ⟨s _ _ h.at_,h.len,h.nd,h.ne,fun i r ps e1 e2=>(h.row i r ps e1 e2).same s⟩
theorem Tab.same {H H':Hp} {t:Addr} {rs:List Addr} {hs:List (List Int)} (h:Tab H t rs hs) (s:Same H H'):Tab H' t rs hs:=
 ⟨s _ _ h.at_,h.len,h.nd,h.ne,fun i r ps e1 e2=>s _ _ (h.row i r ps e1 e2)⟩
theorem HTab.push {H:Hp} {t:Addr} {rs:List Addr} {hs:List (List PP)} {k:Nat} {r T:Addr} {ps:List PP} {i j:Nat} (h:HTab H t rs hs) (er:rs[k]?=some r) (eh:hs[k]?=some ps) (hT:H T=some (.tup [.int i,.int j])):
  ∃ vs,H r=some (.lst vs)/\vs.length=ps.length/\HTab (upd H r (.lst (vs ++ [.ref T]))) t rs (hs.set k (ps ++ [(i,j)])):=by
 obtain ⟨vs,h1,hl,h2⟩:=(h.row k r ps er eh).push hT
 have hm:r∈rs:=List.mem_of_getElem? er
 have ntr:t≠r:=fun z=>h.ne (by rw [z];exact hm)
 refine ⟨vs,h1,hl,⟨by rw [aC ntr];exact h.at_,by rw [List.length_set];exact h.len,h.nd,h.ne,fun i' r' ps' e1 e2=>?_⟩⟩
 by_cases hik:i'=k
 ·subst hik
  rw [er] at e1
  cases e1
  rw [List.getElem?_set_self (by rw [← h.len];exact (List.getElem?_eq_some_iff.mp er).1)] at e2
  cases e2
  exact h2
 ·rw [List.getElem?_set_ne (Ne.symm hik)] at e2
  have nrr:r'≠r:=fun z=>by
   subst z
   obtain ⟨q1,_⟩:=List.getElem?_eq_some_iff.mp e1
   exact hik ((List.getElem?_inj q1 h.nd).mp (e1.trans er.symm))
  exact (h.row i' r' ps' e1 e2).keep (TK.lst h1) fun _ e=>by rw [aC nrr];exact e
def lev (S P:List Nat) (L:Nat) (ps:List PP):List (List PP):=(List.range L).map fun (k:Nat)=>ps.filter fun p=>decide (lt S P p.1 p.2=(k:Int))
theorem vU {S P:List Nat} {L k:Nat} {ps:List PP} (h:k < L):(lev S P L ps)[k]?=some (ps.filter fun p=>decide (lt S P p.1 p.2=(k:Int))):=by
 unfold lev;rw [List.getElem?_map,List.getElem?_range h];rfl
theorem pG (S P:List Nat) (L:Nat) (ps:List PP):(lev S P L ps).length=L:=by simp [lev]
theorem zY {S P:List Nat} {L k:Nat} {ps:List PP} {p:PP} (hk:lt S P p.1 p.2=(k:Int)) (h:k < L):lev S P L (ps ++ [p])=(lev S P L ps).set k ((ps.filter fun p=>decide (lt S P p.1 p.2=(k:Int))) ++ [p]):=by
 apply List.ext_getElem?
 intro i
 by_cases hi:i < L
 ·rw [vU hi,List.filter_append]
  by_cases hik:i=k
  ·subst hik
   rw [List.getElem?_set_self (by rw [pG];exact hi)]
   simp [List.filter_cons,hk]
  ·rw [List.getElem?_set_ne (Ne.symm hik),vU hi]
   have:¬ lt S P p.1 p.2=(i:Int):=by omega
   simp [List.filter_cons,this]
 ·rw [List.getElem?_eq_none (by rw [pG];omega),List.getElem?_eq_none (by rw [List.length_set,pG];omega)]
theorem yp {S P:List Nat} {m n:Nat} {p:PP} (hn:n=P.length) (h:p∈prs S P m):0<=lt S P p.1 p.2/\lt S P p.1 p.2 < lt S P m n:=by
 obtain ⟨a,b,c⟩:=jt h
 refine ⟨J6 _ _ _ _,?_⟩
 have e:=zX c
 have:lt S P (p.1+1) (p.2+1)<=lt S P m n:=JZ (by omega) (by omega)
 omega
def N5:Sp:=fun vs H Q _=>∃ side top:Str,vs=[.str side,.str top]/\Row side/\Row top/\∀ q H',H q=none->Same H H'->PL H' q (prs side.cps.toList top.cps.toList side.length)->Q (.ref q) H'
def N6:Sp:=fun vs H Q _=>∃ side top:Str,vs=[.str side,.str top]/\Row side/\Row top/\
 ∀ t rs H',H t=none->(∀ r∈rs,H r=none)->Same H H'->HTab H' t rs (lev side.cps.toList top.cps.toList (lt side.cps.toList top.cps.toList side.length top.length).toNat (prs side.cps.toList top.cps.toList side.length))->Q (.ref t) H'
theorem J7 {z:Str} {j:Nat} (hj:j < z.cps.size):z.cps.toList[j]?=some (z.cps.getD j 0):=by
 rw [Array.getD_eq_getD_getElem?]
 have:z.cps[j]?=some z.cps[j]:=Array.getElem?_eq_getElem hj
 simp [this,hj]
theorem mF {a b:Nat}:V.str ⟨#[a]⟩=V.str ⟨#[b]⟩↔a=b:=by
 constructor
 ·intro h
  have:=Str.mk.inj (V.str.inj h)
  simpa using this
 ·rintro rfl;rfl
def Out (rs:List Addr) (H H':Hp):Prop:=∀ b o,b ∉ rs->H b=some o->H' b=some o
theorem Out.refl (rs:List Addr) (H:Hp):Out rs H H:=fun _ _ _ e=>e
theorem Out.step {rs:List Addr} {H H':Hp} {r:Addr} {o:HO} (h:Out rs H H') (hr:r∈rs):Out rs H (upd H' r o):=fun b u hb e=>by
 rw [aC (fun z=>hb (by rw [z];exact hr))];exact h b u hb e
theorem Out.new {rs:List Addr} {H H':Hp} {r:Addr} {o:HO} (h:Out rs H H') (hr:H' r=none):Out rs H (upd H' r o):=fun b u hb e=>by
 have q:=h b u hb e
 rw [aC (fun z=>by rw [z,hr] at q;cases q)];exact q
theorem Out.same {rs:List Addr} {H0 H H':Hp} (h:Out rs H H') (s:Same H0 H) (n:∀ r∈rs,H0 r=none):Same H0 H':=fun b o e=>
 h b o (fun hb=>by rw [n b hb] at e;cases e) (s b o e)
theorem TK.out {rs:List Addr} {H H':Hp} (h:Out rs H H') (l:∀ r∈rs,∃ xs,H r=some (.lst xs)):TK H H':=fun b xs e=>
 h b _ (fun hb=>by obtain ⟨ys,q⟩:=l b hb;rw [q] at e;cases e) e
theorem Tab.out {rs:List Addr} {H H':Hp} {t:Addr} {ts:List Addr} {rows:List (List Int)} (h:Tab H t ts rows) (o:Out rs H H') (n:t ∉ rs) (m:∀ r∈ts,r ∉ rs):Tab H' t ts rows:=
 ⟨o _ _ n h.at_,h.len,h.nd,h.ne,fun i r xs e1 e2=>o _ _ (m r (List.mem_of_getElem? e1)) (h.row i r xs e1 e2)⟩
theorem Tab.grow {S P:List Nat} {H2 H3:Hp} {t r2:Addr} {rs:List Addr} {i n:Nat} (TB:Tab H2 t rs (iD S P (i+1) n)) (S3:Same H2 H3) (nr2:H2 r2=none) (hr2:H3 r2=some (.lst ((jj S P (i+1) n).map V.int))):
  Tab (upd H3 t (.lst (rs.map V.ref ++ [.ref r2]))) t (rs ++ [r2]) (iD S P (i+2) n):=by
 have hrl:rs.length=i+1:=by rw [TB.len];simp [iD]
 have nr2t:r2≠t:=fun z=>by rw [z,TB.at_] at nr2;cases nr2
 have nrs:∀ r'∈rs,r'≠t:=fun r' hr' z=>TB.ne (by rw [← z];exact hr')
 have nin:r2 ∉ rs:=fun z=>by
  obtain ⟨k,hk,ek⟩:=List.mem_iff_getElem.mp z
  have hk2:k < (iD S P (i+1) n).length:=by rw [← TB.len];exact hk
  have:=TB.row k r2 _ (by rw [List.getElem?_eq_getElem hk,ek]) (List.getElem?_eq_getElem hk2)
  rw [this] at nr2;cases nr2
 refine ⟨by rw [ao];simp,by simp [hrl,iD],?_,?_,fun k r' xs e1 e2=>?_⟩
 ·rw [List.nodup_append]
  exact ⟨TB.nd,by simp,fun a ha b hb z=>nin (by rw [List.mem_singleton.mp hb] at z;rw [← z];exact ha)⟩
 ·intro z
  rcases List.mem_append.mp z with z | z
  ·exact TB.ne z
  ·exact nr2t (List.mem_singleton.mp z).symm
 ·by_cases hk:k < rs.length
  ·rw [List.getElem?_append_left hk] at e1
   rw [aC (nrs r' (List.mem_of_getElem? e1))]
   refine S3 _ _ (TB.row k r' xs e1 ?_)
   unfold iD at e2 ⊢
   rw [List.getElem?_map,List.getElem?_range (by omega)] at e2
   rw [List.getElem?_map,List.getElem?_range (by omega)]
   exact e2
  ·have hk2:k < (rs ++ [r2]).length:=(List.getElem?_eq_some_iff.mp e1).1
   simp at hk2
   have hk3:k=i+1:=by omega
   subst hk3
   rw [List.getElem?_append_right (by omega),hrl] at e1
   simp at e1
   subst e1
   unfold iD at e2
   rw [List.getElem?_map,List.getElem?_range (by omega)] at e2
   have e3:=Option.some.inj e2
   rw [aC nr2t,← e3]
   exact hr2
theorem Tab.mem {H:Hp} {t:Addr} {rs:List Addr} {rows:List (List Int)} (h:Tab H t rs rows) {r:Addr} (hr:r∈rs):∃ xs,H r=some (.lst xs):=by
 obtain ⟨k,hk,ek⟩:=List.mem_iff_getElem.mp hr
 have hk2:k < rows.length:=by rw [← h.len];exact hk
 exact ⟨_,h.row k r _ (by rw [List.getElem?_eq_getElem hk,ek]) (List.getElem?_eq_getElem hk2)⟩
theorem HTab.mem {H:Hp} {t:Addr} {rs:List Addr} {rows:List (List PP)} (h:HTab H t rs rows) {r:Addr} (hr:r∈rs):∃ xs,H r=some (.lst xs):=by
 obtain ⟨k,hk,ek⟩:=List.mem_iff_getElem.mp hr
 have hk2:k < rows.length:=by rw [← h.len];exact hk
 obtain ⟨vs,e,_⟩:=h.row k r _ (by rw [List.getElem?_eq_getElem hk,ek]) (List.getElem?_eq_getElem hk2)
 exact ⟨_,e⟩
theorem HTab.out {rs:List Addr} {H H':Hp} {t:Addr} {ts:List Addr} {rows:List (List PP)} (h:HTab H t ts rows) (o:Out rs H H') (l:∀ r∈rs,∃ xs,H r=some (.lst xs)) (n:t ∉ rs) (m:∀ r∈ts,r ∉ rs):HTab H' t ts rows:=
 ⟨o _ _ n h.at_,h.len,h.nd,h.ne,fun i r xs e1 e2=>(h.row i r xs e1 e2).keep (TK.out o l) fun vs e=>o _ _ (m r (List.mem_of_getElem? e1)) e⟩
theorem HTab.start {S P:List Nat} {H1 H2:Hp} {D:Addr} {rs:List Addr} {L:Nat} (hl:rs.length=L) (hnd:rs.Nodup) (hrs:∀ r∈rs,H1 r=none/\H2 r=some (.lst [])) (hD:H2 D=none):HTab (upd H2 D (.lst (rs.map V.ref))) D rs (lev S P L []):=by
 have nD:D ∉ rs:=fun z=>by rw [(hrs D z).2] at hD;cases hD
 refine ⟨ao,by rw [pG];exact hl,hnd,nD,fun i r ps e1 e2=>?_⟩
 have hm:=List.mem_of_getElem? e1
 have hi:i < L:=by have:=(List.getElem?_eq_some_iff.mp e1).1;omega
 rw [vU hi] at e2
 have e3:=Option.some.inj e2
 subst e3
 refine ⟨[],?_,dg.mpr rfl⟩
 rw [aC (fun z=>nD (by rw [← z];exact hm))]
 exact (hrs r hm).2
theorem sZ {H:Hp} {t:Addr} {rs:List Addr} {S P:List Nat} {m n:Nat} (TB:Tab H t rs (iD S P m n)) {k:Int} {i:Nat} (hk:k=(i:Int)) (hi:i < m):∃ r,uH (rs.map V.ref) k=some (.ref r)/\rs[i]?=some r/\H r=some (.lst ((jj S P i n).map V.int)):=by
 subst hk
 have hrl:rs.length=m:=by rw [TB.len];simp [iD]
 obtain ⟨r,er⟩:∃ r,rs[i]?=some r:=⟨_,List.getElem?_eq_getElem (show i < rs.length by omega)⟩
 refine ⟨r,uI (by rw [List.getElem?_map,er];rfl),er,TB.row i r _ er (by unfold iD;rw [List.getElem?_map,List.getElem?_range hi];rfl)⟩
theorem qp {S P:List Nat} {i n j:Nat} {k:Int} (hk:k=(j:Int)) (h:j < n):uH ((jj S P i n).map V.int) k=some (.int (lt S P i j)):=by
 subst hk;exact yl h
theorem mG {z:Str} {k:Int} {j:Nat} (hk:k=(j:Int)) (h:j < z.length):∃ c,z.cps.toList[j]?=some c/\uH z.cps.toList k=some c:=by
 subst hk
 have:j < z.cps.toList.length:=by simpa [Str.length] using h
 exact ⟨_,List.getElem?_eq_getElem this,uI (List.getElem?_eq_getElem this)⟩
section
variable {P:Program} {w:World} {K:W.Frag} {mg:Str->Option Value} {base:Heap}
theorem TF:bG cN "pairs":=by trivial
theorem W7:bZ cN "enumerate":=by trivial
theorem W8:bG cN "side":=by trivial
theorem W9:bG cN "sign":=by trivial
theorem Xa:bG cN "i":=by trivial
theorem Xb:bG cN "top":=by trivial
theorem Xc:bG cN "other":=by trivial
theorem Xd:bG cN "j":=by trivial
theorem kz10:bZ cN "need_rows":=by trivial
def TJ:Str->Str->Hp->VK->Prop:=fun side top H Q=>∀ (q:Addr) (H':Hp),H q=none->Same H H'->PL H' q (prs side.cps.toList top.cps.toList side.length)->Q (.ref q) H'
theorem il:aJ ["side","top","pairs","i","sign","j","other"] ["side","top"] (au cN):=⟨rfl,rfl,rfl,by trivial,rfl,by trivial,by trivial⟩
theorem jk (T:Txt K mg):sE P w K mg base 5 "pairs_of" ["side","top"] (spX K mg TJ):=by
 have bK:=bK (P:=P) (w:=w) (base:=base) T
 refine pW T.d_pairs_of il (fun _ _ _ _ _ _ us hl=>L2.rP (fun _ _=>rfl) us hl) ?_ fun f cdv A outer s H vs Q E hr h=>?_
 ·rintro vs H Q E ⟨v,u,rfl,_⟩;rfl
 obtain ⟨v,u,rfl,hv,hu',qx,q⟩:=h
 have hu:=hr.units0
 have hu64:=hr.units
 refine ⟨_,(aq (cU (di bK (hr.mono (by decide)) (aX kz10) dw (aa (ak 0 W8) (aa (ak 1 Xb) aj)) (by trivial))) (aq (aN (i:=2) il.nd rfl (Or.inl TF) (dj aj) rfl) (aq (yc (dN PassesOwn.never rfl (uJ (K:=K) rfl rfl (aX W7) T.b_enumerate (aa (ak 0 W8) aj)) (su (K:=K) rfl rfl (dq (bI (i:=3) il.nd rfl (Or.inl Xa) rfl) (dq (bI (i:=4) il.nd rfl (Or.inl W9) rfl) lZ))) (aA (dN PassesOwn.never rfl (uJ (K:=K) rfl rfl (aX W7) T.b_enumerate (aa (ak 1 Xb) aj)) (su (K:=K) rfl rfl (dq (bI (i:=5) il.nd rfl (Or.inl Xd) rfl) (dq (bI (i:=6) il.nd rfl (Or.inl Xc) rfl) lZ))) (aA (bM (bH (iR (K:=K) rfl hu64) (ak 4 W9) (ak 6 Xc) (by walk_at "p")) (aA (cU (kj (K:=K) rfl PySem.F.plainAttrs_list PySem.F.slot_list_append PySem.F.type_list_append gY (ak 2 TF) (aa (cI (aa (ak 3 Xa) (aa (ak 5 Xd) aj))) aj)))) bx)))))) (aA (aD (ak 2 TF)))))),?_⟩
 walk_at "s"
 refine ⟨v,u,rfl,hv,hu',qx,fun side top e1 e2 hs ht H1 S1=>?_⟩
 subst e1 e2
 walk_at "s"
 refine ⟨by simp,fun pq npq=>?_⟩
 walk_at "s"
 refine .inl ⟨side,rfl,?_⟩
 have nH:H pq=none:=S1.free npq
 refine Bl (fun i U H'=>Same H H'/\PL H' pq (prs side.cps.toList top.cps.toList i)/\∃ x3 x4 x5 x6,U=[some (.str side),some (.str top),some (.ref pq),x3,x4,x5,x6])
  ⟨S1.upd npq,⟨[],ao,dg.mpr rfl⟩,none,none,none,none,rfl⟩ ?_ ?_
 ·rintro i U H2 T0 hi ⟨S2,PL2,x3,x4,x5,x6,rfl⟩ nT
  refine eO (xs:=[.int i,.str ⟨#[side.cps.getD i 0]⟩]) (SqT.of ao) rfl ?_
  have PL3:=PL2.same ((Same.refl H2).upd nT (o:=.tup (nj side i)))
  have S3:=S2.upd nT (o:=.tup (nj side i))
  walk_at "s"
  refine .inl ⟨top,rfl,?_⟩
  refine Bl (fun j U H'=>Same H H'/\PL H' pq (prs side.cps.toList top.cps.toList i ++ rE side.cps.toList top.cps.toList i j)/\∃ x5 x6,U=[some (.str side),some (.str top),some (.ref pq),some (.int i),some (.str ⟨#[side.cps.getD i 0]⟩),x5,x6])
   ⟨S3,by simpa [rE] using PL3,_,_,rfl⟩ ?_ ?_
  ·rintro j U H4 T1 hj ⟨S4,PL4,x5,x6,rfl⟩ nT1
   refine eO (xs:=[.int j,.str ⟨#[top.cps.getD j 0]⟩]) (SqT.of ao) rfl ?_
   have PL5:=PL4.same ((Same.refl H4).upd nT1 (o:=.tup (nj top j)))
   have S5:=S4.upd nT1 (o:=.tup (nj top j))
   obtain ⟨vs0,e0,_⟩:=id PL5
   have es:=J7 (z:=side) hi
   have et:=J7 (z:=top) hj
   walk_at "s"
   refine lu (fun hk=>?_) (fun hk=>?_)
   ·have ec:side.cps.toList[i]?=top.cps.toList[j]?:=by rw [es,et,mF.mp hk]
    walk_at "s"
    refine ⟨.inl ⟨rfl,_,SqL.of e0⟩,?_⟩
    walk_at "s"
    refine ⟨by simp;decide,fun T2 nT2=>?_⟩
    walk_at "s"
    obtain ⟨vs,h1,hl,h2⟩:=(PL5.same ((Same.refl _).upd nT2 (o:=.tup [.int i,.int j]))).push (T:=T2) ao
    have hz:vs.length < sizeLine:=by
     have a:=rH side.cps.toList top.cps.toList i
     have b:=rF side.cps.toList top.cps.toList i j
     have c:i*top.cps.toList.length<=48*48:=Nat.mul_le_mul (by have:=hs.1;have:side.cps.size=side.length:=rfl;omega) (by have:=ht.1;rw [cC] at this;exact this)
     have d:j < 48:=by have:=ht.1;have:top.cps.size=top.length:=rfl;omega
     rw [hl,List.length_append]
     exact Nat.lt_of_lt_of_le (show _ < 5000 by omega) (by decide)
    refine gq h1 hz ⟨over (S5.upd nT2) nH,?_,_,_,rfl⟩
    rw [pC,if_pos ec,← List.append_assoc]
    exact h2
   ·have ec:¬ side.cps.toList[i]?=top.cps.toList[j]?:=by
     rw [es,et]
     intro z
     exact hk (by rw [Option.some.inj z])
    walk_at "s"
    refine ⟨S5,?_,_,_,rfl⟩
    rw [pC,if_neg ec,List.append_nil]
    exact PL5
  ·rintro U H4 ⟨S4,PL4,x5,x6,rfl⟩
   refine ⟨S4,?_,_,_,_,_,rfl⟩
   have e:top.cps.size=top.cps.toList.length:=by simp
   rw [e] at PL4
   exact PL4
 ·rintro U H2 ⟨S2,PL2,x3,x4,x5,x6,rfl⟩
  walk_at "s"
  exact q _ _ rfl rfl hs ht pq H2 nH S2 PL2
theorem Xe:bZ fu "isinstance":=by trivial
theorem kz12:bZ fu "bool":=by trivial
theorem Xf:bG fu "thing":=by trivial
theorem kz14:bZ fu "int":=by trivial
theorem Xg:bZ ie "is_number":=by trivial
theorem N7:bG ie "thing":=by trivial
theorem kz17:bZ ie "len":=by trivial
theorem kz18:bZ ie "isinstance":=by trivial
theorem kz19:bZ ie "tuple":=by trivial
def tyN:PyData->String
 | .none=>"NoneType" | .bool _=>"bool" | .int _=>"int" | .str _=>"str" | .list _=>"list" | .tuple _=>"tuple" | .dict _=>"dict"
theorem dD {H:Hp} {d:PyData} {v:V} (h:RD H d v):nU K H v (.type (tyN d)):=by
 cases d with
 | none=>rw [uL] at h;subst h;exact .non
 | bool b=>rw [Df] at h;subst h;exact .bl _
 | int n=>rw [sH] at h;subst h;exact .int _
 | str n=>rw [Jw] at h;subst h;exact .str _
 | list ds=>obtain ⟨a,vs,rfl,e,_⟩:=aO.mp h;exact .lst e
 | tuple ds=>obtain ⟨a,vs,rfl,e,_⟩:=cJ.mp h;exact .tup e
 | dict ds=>obtain ⟨a,vs,rfl,e,_⟩:=Nh.mp h;exact .dK e
def cM:PyData->Bool
 | .int _=>true
 | _=>false
def qt:PyData->Bool
 | .tuple _=>true
 | _=>false
def qu:PyData->Bool
 | .list _=>true
 | _=>false
theorem rJ (d:PyData):PySem.W.kitOne K (.type (tyN d)) (.type "tuple")=some (qt d):=by cases d <;> rfl
theorem pH (d:PyData):PySem.W.kitOne K (.type (tyN d)) (.type "list")=some (qu d):=by cases d <;> rfl
def Qh:Sp:=fun vs H Q _=>∃ (v:V) (d:PyData),vs=[v]/\RD H d v/\Q (.bl (cM d)) H
theorem yq:aJ ["thing"] ["thing"] (au fu):=⟨rfl,rfl,rfl,by trivial,rfl,by trivial,by trivial⟩
theorem lD (T:Txt K mg):pQ P w K mg base 1 "is_number" ["thing"] Qh:=by
 refine iQ T.d_is_number yq (fun _ _ _ _ _ _ us hl=>L2.wu (fun _=>rfl) us hl) ?_ fun f cdv A outer s H vs Q E hr h=>?_
 ·rintro vs H Q E ⟨v,d,rfl,_⟩;rfl
 obtain ⟨v,d,rfl,hd,q⟩:=h
 have hu:=hr.units0
 have hu64:=hr.units
 refine ⟨_,(aA (aD (pU (aB (b8 (K:=K) rfl) (aX Xe) T.b_isinstance aR (aa (ak 0 Xf) (aa (oE (aX kz14) T.b_int Ik (by trivial) (by trivial)) aj)) (by trivial) (by trivial)) (w6 (IK (aB (b8 (K:=K) rfl) (aX Xe) T.b_isinstance aR (aa (ak 0 Xf) (aa (oE (aX kz12) T.b_bool xW (by trivial) (by trivial)) aj)) (by trivial) (by trivial))))))),?_⟩
 walk_at "s"
 cases d with
 | int n=>
  refine bV (dD hd) rfl ?_
  walk_at "s"
  refine bV (dD hd) rfl ?_
  walk_at "s"
  exact q
 | bool n=>
  refine bV (b:=true) (dD hd) rfl ?_
  walk_at "s"
  refine bV (b:=true) (dD hd) rfl ?_
  walk_at "s"
  exact q
 | none=>
  refine bV (dD hd) rfl ?_
  walk_at "s"
  exact q
 | str n=>
  refine bV (dD hd) rfl ?_
  walk_at "s"
  exact q
 | list n=>
  refine bV (dD hd) rfl ?_
  walk_at "s"
  exact q
 | tuple n=>
  refine bV (dD hd) rfl ?_
  walk_at "s"
  exact q
 | dict n=>
  refine bV (dD hd) rfl ?_
  walk_at "s"
  exact q
def cG:PyData->Bool
 | .tuple [a,b]=>cM a && cM b
 | _=>false
def TQ:Sp:=fun vs H Q _=>∃ (v:V) (d:PyData),vs=[v]/\RD H d v/\Q (.bl (cG d)) H
theorem bB {H:Hp}:∀ {ds:List PyData} {vs:List V},RDs H ds vs->vs.length=ds.length
 | [],_,h=>by rw [aU] at h;subst h;rfl
 | d :: ds,_,h=>by rw [cZ] at h;obtain ⟨v,r,rfl,_,hr⟩:=h;simp [bB hr]
theorem mH {H:Hp} {a b:PyData} {vs:List V} (h:RDs H [a,b] vs):∃ v u,vs=[v,u]/\RD H a v/\RD H b u:=by
 rw [cZ] at h
 obtain ⟨v,r,rfl,h1,h2⟩:=h
 rw [cZ] at h2
 obtain ⟨u,r,rfl,h3,h4⟩:=h2
 rw [aU] at h4
 subst h4
 exact ⟨v,u,rfl,h1,h3⟩
theorem qw {ds:List PyData} (h:ds.length≠2):cG (.tuple ds)=false:=by
 match ds,h with
 | [],_=>rfl
 | [_],_=>rfl
 | [_,_],h=>exact absurd rfl h
 | _ :: _ :: _ :: _,_=>rfl
theorem BJ:aJ ["thing"] ["thing"] (au ie):=⟨rfl,rfl,rfl,by trivial,rfl,by trivial,by trivial⟩
theorem tD (T:Txt K mg):pQ P w K mg base 2 "is_pair" ["thing"] TQ:=by
 have lD:=lD (P:=P) (w:=w) (base:=base) T
 refine iQ T.d_is_pair BJ (fun _ _ _ _ _ _ us hl=>L2.wu (fun _=>rfl) us hl) ?_ fun f cdv A outer s H vs Q E hr h=>?_
 ·rintro vs H Q E ⟨v,d,rfl,_⟩;rfl
 obtain ⟨v,d,rfl,hd,q⟩:=h
 have hu:=hr.units0
 have hu64:=hr.units
 refine ⟨_,(aA (aD (pU (aB (b8 (K:=K) rfl) (aX kz18) T.b_isinstance aR (aa (ak 0 N7) (aa (oE (aX kz19) T.b_tuple oA (by trivial) (by trivial)) aj)) (by trivial) (by trivial)) (pU (kh (iR (K:=K) rfl hu64) (aB (aG (K:=K) rfl) (aX kz17) T.b_len bJ (aa (ak 0 N7) aj) (by trivial) (by trivial)) az (by walk_at "p")) (pU (aH lD (hr.mono (by decide)) (aX Xg) (aa (aV (K:=K) rfl (ak 0 N7) az) aj) (by trivial)) (w6 (aH lD (hr.mono (by decide)) (aX Xg) (aa (aV (K:=K) rfl (ak 0 N7) az) aj) (by trivial)))))))),?_⟩
 walk_at "s"
 refine bV (dD hd) (rJ d) ?_
 by_cases ht:qt d=true
 ·cases d with
  | tuple ds=>
   rw [ht]
   obtain ⟨a,us,rfl,e,r⟩:=cJ.mp hd
   have hl:=bB r
   walk_at "s"
   refine vp (SqT.of e) ?_
   walk_at "s"
   by_cases h2:ds.length=2
   ·rw [decide_eq_true (by rw [hl,h2];rfl)]
    match ds,h2,r with
    | [d1,d2],_,r=>
     obtain ⟨v1,v2,rfl,r1,r2⟩:=mH r
     walk_at "s"
     refine ⟨v1,d1,rfl,r1,?_⟩
     walk_at "s"
     cases hn:cM d1 with
     | true=>
      walk_at "s"
      refine ⟨v2,d2,rfl,r2,?_⟩
      walk_at "s"
      have:cG (.tuple [d1,d2])=cM d2:=by show (cM d1 && cM d2)=_;rw [hn];rfl
      rw [this] at q
      exact q
     | false=>
      walk_at "s"
      have:cG (.tuple [d1,d2])=false:=by show (cM d1 && cM d2)=_;rw [hn];rfl
      rw [this] at q
      exact q
   ·rw [decide_eq_false (by intro z;injection z with z;omega)]
    walk_at "s"
    rw [qw h2] at q
    exact q
  | _=>cases ht
 ·have:qt d=false:=by simpa using ht
  rw [this]
  walk_at "s"
  have:cG d=false:=by cases d <;> first | rfl | cases this
  rw [this] at q
  exact q
theorem Xh:bG dI "side":=by trivial
theorem TV:bG dI "i":=by trivial
theorem Xi:bG dI "top":=by trivial
theorem TX:bG dI "j":=by trivial
theorem Xj:bZ dI "len":=by trivial
theorem TY:bG dI "thing":=by trivial
theorem kz1g:bZ dI "is_pair":=by trivial
theorem Xk:bG kO "pair":=by trivial
theorem Xl:bG kO "other":=by trivial
def jl (z y:Str) (i j:Int):Bool:=decide (0<=i) && decide (i < z.length) && decide (0<=j) && decide (j < y.length) && decide (z.cps.toList[i.toNat]?=y.cps.toList[j.toNat]?)
def b7 (z y:Str):PyData->Bool
 | .tuple [.int i,.int j]=>jl z y i j
 | _=>false
theorem tE {z y:Str} {d:PyData} (h:cG d=false):b7 z y d=false:=by
 unfold b7
 split
 ·cases h
 ·rfl
theorem pJ {d:PyData} (h:cG d=true):∃ i j,d= .tuple [.int i,.int j]:=by
 unfold cG at h
 split at h
 ·rename_i a b
  rw [Bool.and_eq_true] at h
  cases a <;> cases b <;> simp only [cM,Bool.false_eq_true,and_false,false_and] at h <;> exact ⟨_,_,rfl⟩
 ·cases h
theorem iG {H:Hp} {i j:Int} {v:V}:RD H (.tuple [.int i,.int j]) v↔∃ a,v= .ref a/\H a=some (.tup [.int i,.int j]):=by
 rw [cJ]
 constructor
 ·rintro ⟨a,vs,rfl,e,r⟩
  obtain ⟨v1,v2,rfl,r1,r2⟩:=mH r
  rw [sH] at r1 r2
  subst r1 r2
  exact ⟨a,rfl,e⟩
 ·rintro ⟨a,rfl,e⟩
  exact ⟨a,_,rfl,e,bF (sH.mpr rfl) (bF (sH.mpr rfl) (aU.mpr rfl))⟩
def N8:Sp:=fun vs H Q _=>∃ (z y:Str) (v:V) (d:PyData),vs=[.str z,.str y,v]/\RD H d v/\z.length<=48/\y.length<=48/\Q (.bl (b7 z y d)) H
theorem oM:aJ ["side","top","thing","i","j"] ["side","top","thing"] (au dI):=⟨rfl,rfl,rfl,by trivial,rfl,by trivial,by trivial⟩
theorem jm (T:Txt K mg):pQ P w K mg base 3 "is_match" ["side","top","thing"] N8:=by
 have tD:=tD (P:=P) (w:=w) (base:=base) T
 refine iQ T.d_is_match oM (fun _ _ _ _ _ _ us hl=>L2.rQ (fun _ _ _=>rfl) us hl) ?_ fun f cdv A outer s H vs Q E hr h=>?_
 ·rintro vs H Q E ⟨z,y,v,d,rfl,_⟩;rfl
 obtain ⟨z,y,v,d,rfl,hd,hz,hy,q⟩:=h
 have hu:=hr.units0
 have hu64:=hr.units
 refine ⟨_,(aq (bM (bN (bO (aH tD (hr.mono (by decide)) (aX kz1g) (aa (ak 2 TY) aj) (by trivial)))) (aA (aD iw)) bx) (aq (aN (i:=3) oM.nd rfl (Or.inl TV) (aV (K:=K) rfl (ak 2 TY) az) rfl) (aq (aN (i:=4) oM.nd rfl (Or.inl TX) (aV (K:=K) rfl (ak 2 TY) az) rfl) (aA (aD (pU (CT O8 qJ az (ak 3 TV) (aB (aG (K:=K) rfl) (aX Xj) T.b_len bJ (aa (ak 0 Xh) aj) (by trivial) (by trivial))) (pU (CT O8 qJ az (ak 4 TX) (aB (aG (K:=K) rfl) (aX Xj) T.b_len bJ (aa (ak 1 Xi) aj) (by trivial) (by trivial))) (w6 (kh (iR (K:=K) rfl hu64) (aV (K:=K) rfl (ak 0 Xh) (ak 3 TV)) (aV (K:=K) rfl (ak 1 Xi) (ak 4 TX)) (by walk_at "p")))))))))),?_⟩
 walk_at "s"
 refine ⟨v,d,rfl,hd,?_⟩
 walk_at "s"
 have lz:z.length<=sizeLine:=Nat.le_trans hz (by decide)
 have ly:y.length<=sizeLine:=Nat.le_trans hy (by decide)
 cases hp:cG d with
 | false=>
  walk_at "s"
  rw [tE hp] at q
  exact q
 | true=>
  obtain ⟨i,j,rfl⟩:=pJ hp
  obtain ⟨a,rfl,e⟩:=iG.mp hd
  walk_at "s"
  replace q:Q (.bl (jl z y i j)) H:=q
  unfold jl at q
  by_cases h1:0<=i
  ·rw [decide_eq_true h1] at q ⊢
   walk_at "s"
   refine fZ lz ?_
   walk_at "s"
   by_cases h2:i < z.length
   ·rw [decide_eq_true h2] at q ⊢
    walk_at "s"
    by_cases h3:0<=j
    ·rw [decide_eq_true h3] at q ⊢
     walk_at "s"
     refine fZ ly ?_
     walk_at "s"
     by_cases h4:j < y.length
     ·rw [decide_eq_true h4] at q ⊢
      obtain ⟨c,hc,ac⟩:=mG (z:=z) (k:=i) (j:=i.toNat) (by omega) (by omega)
      obtain ⟨d,hd,ad⟩:=mG (z:=y) (k:=j) (j:=j.toNat) (by omega) (by omega)
      rw [hc,hd] at q
      walk_at "s"
      refine pR lz ac ?_
      walk_at "s"
      refine pR ly ad ?_
      walk_at "s"
      have:decide (V.str ⟨#[c]⟩=V.str ⟨#[d]⟩)=decide (some c=some d):=by
       refine decide_eq_decide.mpr ?_
       rw [mF];simp
      rw [this]
      exact q
     ·rw [decide_eq_false h4] at q ⊢
      walk_at "s"
      simpa using q
    ·rw [decide_eq_false h3] at q ⊢
     walk_at "s"
     simpa using q
   ·rw [decide_eq_false h2] at q ⊢
    walk_at "s"
    simpa using q
  ·rw [decide_eq_false h1] at q ⊢
   walk_at "s"
   simpa using q
def Oa:Sp:=fun vs H Q _=>∃ (a b:Addr) (i j k l:Int),vs=[.ref a,.ref b]/\H a=some (.tup [.int i,.int j])/\H b=some (.tup [.int k,.int l])/\Q (.bl (decide (i < k) && decide (j < l))) H
theorem zZ:aJ ["pair","other"] ["pair","other"] (au kO):=⟨rfl,rfl,rfl,by trivial,rfl,by trivial,by trivial⟩
theorem gW (T:Txt K mg):pQ P w K mg base 1 "is_ahead" ["pair","other"] Oa:=by
 refine iQ T.d_is_ahead zZ (fun _ _ _ _ _ _ us hl=>L2.rP (fun _ _=>rfl) us hl) ?_ fun f cdv A outer s H vs Q E hr h=>?_
 ·rintro vs H Q E ⟨a,b,i,j,k,l,rfl,_⟩;rfl
 obtain ⟨a,b,i,j,k,l,rfl,ha,hb,q⟩:=h
 have hu:=hr.units0
 have hu64:=hr.units
 refine ⟨_,(aA (aD (pU (kh qJ (aV (K:=K) rfl (ak 0 Xk) az) (aV (K:=K) rfl (ak 1 Xl) az) (by walk_at "p")) (w6 (kh qJ (aV (K:=K) rfl (ak 0 Xk) az) (aV (K:=K) rfl (ak 1 Xl) az) (by walk_at "p")))))),?_⟩
 walk_at "s"
 by_cases h1:i < k
 ·rw [decide_eq_true h1] at q ⊢
  walk_at "s"
  exact q
 ·rw [decide_eq_false h1] at q ⊢
  walk_at "s"
  exact q
theorem vV:(["place","thing"]:List Str).Nodup:=by trivial
theorem vW:(["pair","side","top"]:List Str).Nodup:=by trivial
theorem Xm:bZ bQ "all":=by trivial
theorem kz1k:bZ bQ "range":=by trivial
theorem kz1l:bZ bQ "len":=by trivial
theorem T9:Gv bQ "thing":=by trivial
theorem kz1n:bZ bQ "isinstance":=by trivial
theorem kz1o:bZ bQ "list":=by trivial
theorem kz1p:bZ bQ "need_rows":=by trivial
theorem kz1q:Gv bQ "top":=by trivial
theorem kz1r:Gv bQ "side":=by trivial
theorem fG {H:Hp}:∀ {ds:List PyData} {vs:List V} {i:Nat} {x:V},RDs H ds vs->vs[i]?=some x->∃ d,ds[i]?=some d/\RD H d x
 | [],_,i,x,h,e=>by rw [aU] at h;subst h;simp at e
 | d :: ds,_,0,x,h,e=>by
  rw [cZ] at h
  obtain ⟨v,r,rfl,hd,_⟩:=h
  simp at e
  subst e
  exact ⟨d,rfl,hd⟩
 | d :: ds,_,i+1,x,h,e=>by
  rw [cZ] at h
  obtain ⟨v,r,rfl,_,hr⟩:=h
  obtain ⟨d',h1,h2⟩:=fG hr (by simpa using e)
  exact ⟨d',by simpa using h1,h2⟩
def dY:PyData->PyData->Bool
 | .tuple [.int i,.int j],.tuple [.int k,.int l]=>decide (i < k) && decide (j < l)
 | _,_=>false
def eU (z y:Str):PyData->Bool
 | .list ds=>ds.all (b7 z y) && (List.range (ds.length - 1)).all fun k=>dY (ds.getD k .none) (ds.getD (k+1) .none)
 | _=>false
theorem kW {z y:Str} {d:PyData} (h:b7 z y d=true):∃ i j,d= .tuple [.int i,.int j]:=by
 refine pJ ?_
 cases hp:cG d with
 | true=>rfl
 | false=>rw [tE hp] at h;cases h
def spX3 (K:W.Frag) (mg:Str->Option Value) (g:Str->Str->V->Hp->VK->Prop):Sp:=fun vs H Q E=>∃ v u t:V,vs=[v,u,t]/\Thing K H v/\Thing K H u/\
 (∀ w,bf v u=some w->∀ e H',Same H H'->Vx H' e (iz mg "NoRow") [("found",w)]->E (.ref (iz mg "NoRow")) (some e) H')/\
 (∀ side top:Str,v= .str side->u= .str top->ql side->ql top->g side top t H Q)
theorem spX3.good {g:Str->Str->V->Hp->VK->Prop} {H:Hp} {Q:VK} {E:XK} {z y:Str} {t:V} (h:ql z) (h':ql y) (q:g z y t H Q):spX3 K mg g [.str z,.str y,t] H Q E:=
 ⟨_,_,_,rfl,pB h,pB h',(fun w e=>by rw [Dm h h'] at e;cases e),fun s t e1 e2 _ _=>by cases e1;cases e2;exact q⟩
def Xn:Str->Str->V->Hp->VK->Prop:=fun side top t H Q=>∃ d,RD H d t/\(∀ ds,d= .list ds->ds.length<=5000)/\∀ H',Same H H'->Q (.bl (eU side top d)) H'
theorem yr:aJ ["side","top","thing"] ["side","top","thing"] (au bQ):=⟨rfl,rfl,rfl,by trivial,rfl,by trivial,by trivial⟩
theorem oN (T:Txt K mg):sE P w K mg base 5 "is_thread" ["side","top","thing"] (spX3 K mg Xn):=by
 have bK:=bK (P:=P) (w:=w) (base:=base) T
 have jm:=jm (P:=P) (w:=w) (base:=base) T
 have gW:=gW (P:=P) (w:=w) (base:=base) T
 refine pW T.d_is_thread yr (fun _ _ _ _ _ _ us hl=>L2.rQ (fun _ _ _=>rfl) us hl) ?_ fun f cdv A outer s H vs Q E hr h=>?_
 ·rintro vs H Q E ⟨v,u,t,rfl,_⟩;rfl
 obtain ⟨v,u,t,rfl,hv,hu',qx,q⟩:=h
 have hu:=hr.units0
 have hu64:=hr.units
 refine ⟨_,(aq (cU (di bK (hr.mono (by decide)) (aX kz1p) dw (aa (sr 0 kz1r) (aa (sr 1 kz1q) aj)) (by trivial))) (aq (bM (iK (gn (bN (bO (aB (b8 (K:=K) rfl) (aX kz1n) T.b_isinstance aR (aa (sr 2 T9) (aa (oE (aX kz1o) T.b_list gC (by trivial) (by trivial)) aj)) (by trivial) (by trivial)))) (gf (bN (bO (aB (ou rfl) (aX Xm) T.b_all vo (aa (gO (sub:=[none,some 0,some 1]) (cH (N:=["side","top","thing"]) (sc:=au bQ) (N':=["pair","side","top"]) (by trivial)) rfl rfl rfl (cT (K:=K) rfl (sr 2 T9)) (fun C s₀ H₀ ex=>(oG 0 (by trivial) vW)) (fun C s₀ H₀ ex=>dW) (fun C s₀ H₀ ex=>(aH jm (hr.mono (by decide)) (Gq (by trivial)) (aa (iJ 1 (by trivial)) (aa (iJ 2 (by trivial)) (aa (iI 0 (by trivial)) aj))) (by trivial)))) aj) (by trivial) (by trivial))))))) (aA (aD iw)) bx) (aA (aD (aB (ou rfl) (aX Xm) T.b_all vo (aa (gO (sub:=[none,some 2]) (cH (N:=["side","top","thing"]) (sc:=au bQ) (N':=["place","thing"]) (by trivial)) rfl rfl rfl (fU (aX kz1k) T.b_range (aa (bY lG (aB (aG (K:=K) rfl) (aX kz1l) T.b_len bJ (aa (sr 2 T9) aj) (by trivial) (by trivial)) az) aj)) (fun C s₀ H₀ ex=>(oG 0 (by trivial) vV)) (fun C s₀ H₀ ex=>dW) (fun C s₀ H₀ ex=>(aH gW (hr.mono (by decide)) (Gq (by trivial)) (aa (aV (K:=K) rfl (iJ 1 (by trivial)) (iI 0 (by trivial))) (aa (aV (K:=K) rfl (iJ 1 (by trivial)) (bY bz (iI 0 (by trivial)) az)) aj)) (by trivial)))) aj) (by trivial) (by trivial)))))),?_⟩
 walk_at "s"
 refine ⟨v,u,rfl,hv,hu',qx,fun side top e1 e2 hs ht H1 S1=>?_⟩
 subst e1 e2
 obtain ⟨d,hd0,hsz,q2⟩:=q _ _ rfl rfl hs ht
 have hd:=RD.same S1 _ _ hd0
 walk_at "s"
 cases hL:qu d with
 | true=>
  obtain ⟨ds,rfl⟩:∃ ds,d= .list ds:=by cases d <;> first | exact ⟨_,rfl⟩ | cases hL
  obtain ⟨a,us,rfl,e,r⟩:=aO.mp hd
  have hl:=bB r
  have h5:=hsz ds rfl
  have hz:us.length<=sizeLine:=Nat.le_trans (show us.length<=5000 by omega) (by decide)
  refine bV (.lst e) rfl ?_
  walk_at "s"
  refine .inl ⟨a,rfl,⟨_,SqL.of e⟩,?_⟩
  refine eG (xs:=us) (fun i ys H'=>H'=H1/\ys=((ds.take i).map (b7 side top)).map V.bl) hz ⟨rfl,rfl⟩ ?_ ?_ ?_ ?_
  ·rintro i ys H' ⟨_,rfl⟩
   simp;omega
  ·rintro i ys H' ⟨rfl,rfl⟩
   exact SqL.of e
  ·rintro i ys H' x hx ⟨rfl,rfl⟩
   obtain ⟨d,h1,h2⟩:=fG r hx
   walk_at "s"
   refine ⟨KeepSt.set rfl,?_⟩
   walk_at "s"
   refine ⟨side,top,x,d,rfl,h2,hs.1,ht.1,rfl,?_⟩
   rw [List.take_add_one,h1]
   simp
  ·rintro ys H' ⟨rfl,rfl⟩ D hD
   rw [hl,List.take_length]
   walk_at "s"
   refine ⟨D,_,rfl,ao,?_⟩
   walk_at "s"
   have e2:((ds.map (b7 side top)).all id)=ds.all (b7 side top):=by rw [List.all_map];rfl
   rw [e2]
   have S2:Same H' (upd H' D (.lst ((ds.map (b7 side top)).map V.bl))):=(Same.refl H').upd hD
   cases hm:ds.all (b7 side top) with
   | false=>
    walk_at "s"
    have:eU side top (.list ds)=false:=by
     show (ds.all (b7 side top) && _)=false
     rw [hm,Bool.false_and]
    rw [this] at q2
    exact q2 _ (S1.trans S2)
   | true=>
    have e3:=S2 _ _ e
    have r3:=RDs.same S2 _ _ r
    generalize upd H' D (.lst ((ds.map (b7 side top)).map V.bl))=H3 at S2 e3 r3 ⊢
    walk_at "s"
    refine jR (SqL.of e3) ?_
    walk_at "s"
    refine ⟨_,rfl,by omega,by omega,?_⟩
    rw [show ((us.length:Int) - 1).toNat=ds.length - 1 by omega]
    refine lW (n:=ds.length - 1) (fun i ys H'=>H'=H3/\ys=((List.range i).map fun k=>dY (ds.getD k .none) (ds.getD (k+1) .none)).map V.bl) (by omega) ⟨rfl,rfl⟩ ?_ ?_ ?_
    ·rintro i ys H' ⟨_,rfl⟩
     simp
    ·rintro i ys H' hi ⟨rfl,rfl⟩
     have g1:us[i]?=some (us[i]'(by omega)):=List.getElem?_eq_getElem _
     have g2:us[i+1]?=some (us[i+1]'(by omega)):=List.getElem?_eq_getElem _
     obtain ⟨d1,h1,k1⟩:=fG r3 g1
     obtain ⟨d2,h2,k2⟩:=fG r3 g2
     obtain ⟨i1,j1,rfl⟩:=kW (List.all_eq_true.mp hm d1 (List.mem_of_getElem? h1))
     obtain ⟨i2,j2,rfl⟩:=kW (List.all_eq_true.mp hm d2 (List.mem_of_getElem? h2))
     obtain ⟨a1,ea1,f1⟩:=iG.mp k1
     obtain ⟨a2,ea2,f2⟩:=iG.mp k2
     rw [ea1] at g1
     rw [ea2] at g2
     walk_at "s"
     refine ⟨KeepSt.set rfl,?_⟩
     walk_at "s"
     refine bD (SqL.of e3) (dJ (by omega) (by rw [show (0+(i:Int)).toNat=i by omega];exact g1)) ?_
     walk_at "s"
     refine bD (SqL.of e3) (dJ (by omega) (by rw [show (0+(i:Int)+1).toNat=i+1 by omega];exact g2)) ?_
     walk_at "s"
     refine ⟨a1,a2,i1,j1,i2,j2,rfl,f1,f2,rfl,?_⟩
     rw [List.range_succ,List.map_append,List.map_append]
     simp [h1,h2,dY]
    ·rintro ys H' ⟨rfl,rfl⟩ D2 hD2
     walk_at "s"
     refine ⟨D2,_,rfl,ao,?_⟩
     walk_at "s"
     have:eU side top (.list ds)=(((List.range (ds.length - 1)).map fun k=>dY (ds.getD k .none) (ds.getD (k+1) .none)).all id):=by
      show (ds.all (b7 side top) && _)=_
      rw [hm,Bool.true_and,List.all_map];rfl
     rw [this] at q2
     exact q2 _ ((S1.trans S2).upd hD2)
 | false=>
  refine bV (dD hd) (by rw [pH,hL]) ?_
  walk_at "s"
  have:eU side top d=false:=by unfold eU;split <;> first | rfl | cases hL
  rw [this] at q2
  exact q2 _ S1
theorem wD:(["pair","side","top"]:List Str).Nodup:=by trivial
theorem kz1s:bZ dX "all":=by trivial
theorem Ua:bG dX "thing":=by trivial
theorem kz1u:bZ dX "len":=by trivial
theorem kz1v:bZ dX "isinstance":=by trivial
theorem kz1w:bZ dX "list":=by trivial
theorem Xo:bZ bu "len":=by trivial
theorem Ob:bG bu "seen":=by trivial
theorem kz1z:bZ bu "pairs_of":=by trivial
theorem kz20:bG bu "top":=by trivial
theorem kz21:bG bu "side":=by trivial
theorem kz22:bG bu "heaps":=by trivial
theorem Xp:bG bu "heap":=by trivial
theorem Ub:bG bu "pair":=by trivial
theorem kz25:bZ bU "enumerate":=by trivial
theorem Xq:bG bU "heap":=by trivial
theorem Uc:bG bU "pair":=by trivial
theorem Xr:bG bU "place":=by trivial
theorem Ud:bG bU "earlier":=by trivial
theorem Xu:bZ bU "is_ahead":=by trivial
def iH (z y:Str):PyData->Bool
 | .list ds=>!ds.isEmpty && ds.all (b7 z y)
 | _=>false
def Oc:Sp:=fun vs H Q _=>∃ (z y:Str) (v:V) (d:PyData),vs=[.str z,.str y,v]/\RD H d v/\z.length<=48/\y.length<=48/\(∀ ds,d= .list ds->ds.length<=5000)/\∀ H',Same H H'->Q (.bl (iH z y d)) H'
theorem z6:aJ ["side","top","thing"] ["side","top","thing"] (au dX):=⟨rfl,rfl,rfl,by trivial,rfl,by trivial,by trivial⟩
theorem qy (T:Txt K mg):pQ P w K mg base 4 "is_stack" ["side","top","thing"] Oc:=by
 have jm:=jm (P:=P) (w:=w) (base:=base) T
 refine iQ T.d_is_stack z6 (fun _ _ _ _ _ _ us hl=>L2.rQ (fun _ _ _=>rfl) us hl) ?_ fun f cdv A outer s H vs Q E hr h=>?_
 ·rintro vs H Q E ⟨z,y,v,d,rfl,_⟩;rfl
 obtain ⟨z,y,v,d,rfl,hd,hs,ht,hsz,q⟩:=h
 have hu:=hr.units0
 have hu64:=hr.units
 refine ⟨_,(aq (bM (iK (gn (bN (bO (aB (b8 (K:=K) rfl) (aX kz1v) T.b_isinstance aR (aa (ak 2 Ua) (aa (oE (aX kz1w) T.b_list gC (by trivial) (by trivial)) aj)) (by trivial) (by trivial)))) (gf (bH (iR (K:=K) rfl hu64) (aB (aG (K:=K) rfl) (aX kz1u) T.b_len bJ (aa (ak 2 Ua) aj) (by trivial) (by trivial)) az (by walk_at "p"))))) (aA (aD iw)) bx) (aA (aD (aB (ou rfl) (aX kz1s) T.b_all vo (aa (gO (sub:=[none,some 0,some 1]) (cH (N:=["side","top","thing"]) (sc:=au dX) (N':=["pair","side","top"]) (by trivial)) rfl rfl rfl (cT (K:=K) rfl (ak 2 Ua)) (fun C s₀ H₀ ex=>(oG 0 (by trivial) wD)) (fun C s₀ H₀ ex=>dW) (fun C s₀ H₀ ex=>(aH jm (hr.mono (by decide)) (Gq (by trivial)) (aa (iJ 1 (by trivial)) (aa (iJ 2 (by trivial)) (aa (iI 0 (by trivial)) aj))) (by trivial)))) aj) (by trivial) (by trivial))))),?_⟩
 walk_at "s"
 cases hL:qu d with
 | true=>
  obtain ⟨ds,rfl⟩:∃ ds,d= .list ds:=by cases d <;> first | exact ⟨_,rfl⟩ | cases hL
  obtain ⟨a,us,rfl,e,r⟩:=aO.mp hd
  have hl:=bB r
  have h5:=hsz ds rfl
  have hz:us.length<=sizeLine:=Nat.le_trans (show us.length<=5000 by omega) (by decide)
  refine bV (.lst e) rfl ?_
  walk_at "s"
  refine jR (SqL.of e) ?_
  walk_at "s"
  refine lu (fun h0=>?_) (fun h0=>?_)
  ·walk_at "s"
   have:ds=[]:=List.length_eq_zero_iff.mp (by injection h0 with h0;omega)
   subst this
   exact q _ (Same.refl _)
  ·have h0':ds≠[]:=fun z=>h0 (by rw [hl,z];rfl)
   walk_at "s"
   refine .inl ⟨a,rfl,⟨_,SqL.of e⟩,?_⟩
   refine eG (xs:=us) (fun i ys H'=>H'=H/\ys=((ds.take i).map (b7 z y)).map V.bl) hz ⟨rfl,rfl⟩ ?_ ?_ ?_ ?_
   ·rintro i ys H' ⟨_,rfl⟩
    simp;omega
   ·rintro i ys H' ⟨rfl,rfl⟩
    exact SqL.of e
   ·rintro i ys H' x hx ⟨rfl,rfl⟩
    obtain ⟨d,h1,h2⟩:=fG r hx
    walk_at "s"
    refine ⟨KeepSt.set rfl,?_⟩
    walk_at "s"
    refine ⟨z,y,x,d,rfl,h2,hs,ht,rfl,?_⟩
    rw [List.take_add_one,h1]
    simp
   ·rintro ys H' ⟨rfl,rfl⟩ D hD
    rw [hl,List.take_length]
    walk_at "s"
    refine ⟨D,_,rfl,ao,?_⟩
    walk_at "s"
    have e2:iH z y (.list ds)=((ds.map (b7 z y)).all id):=by
     show (!ds.isEmpty && ds.all (b7 z y))=_
     rw [List.all_map]
     cases ds with
     | nil=>exact absurd rfl h0'
     | cons _ _=>rfl
    rw [e2] at q
    exact q _ ((Same.refl _).upd hD)
 | false=>
  refine bV (dD hd) (by rw [pH,hL]) ?_
  walk_at "s"
  have:iH z y d=false:=by unfold iH;split <;> first | rfl | cases hL
  rw [this] at q
  exact q _ (Same.refl _)
def ux:PyData->Int×Int
 | .tuple [.int i,.int j]=>(i,j)
 | _=>(0,0)
def tG:PyData->List PyData
 | .list ds=>ds
 | _=>[]
def fl (hs:List PyData):List (Int×Int):=(hs.map fun h=>(tG h).map ux).flatten
def z7 (p:Int×Int):List Key:=[Sum.inl p.1,Sum.inl p.2]
theorem J8 {p q:Int×Int} (h:z7 p=z7 q):p=q:=by
 unfold z7 at h
 injection h with h1 h2
 injection h2 with h2 _
 exact Prod.ext (Sum.inl.inj h1) (Sum.inl.inj h2)
theorem yt {hs:List PyData} {i:Nat} {h:PyData} (e:hs[i]?=some h):fl (hs.take (i+1))=fl (hs.take i) ++ (tG h).map ux:=by
 unfold fl
 rw [List.take_add_one,e,List.map_append,List.flatten_append]
 simp
theorem z8 {hs:List PyData} {i:Nat} {h:PyData} (e:hs[i]?=some h):fl hs=fl (hs.take i) ++ (tG h).map ux ++ fl (hs.drop (i+1)):=by
 have hi:=(List.getElem?_eq_some_iff.mp e).1
 rw [← yt e]
 unfold fl
 rw [← List.flatten_append,← List.map_append,List.take_append_drop]
def HPs (hs:List PyData):Prop:=(fl hs).length<=5000/\∀ h∈hs,∃ ds,h= .list ds/\∀ d∈ds,∃ i j,d= .tuple [.int i,.int j]
def nG (z y:Str) (hs:List PyData):Bool:=decide (fl hs).Nodup && decide ((fl hs).length=(prs z.cps.toList y.cps.toList z.length).length)
def Ue (K:W.Frag) (mg:Str->Option Value):Sp:=fun vs H Q _=>∃ (z y:Str) (a:Addr) (us:List V) (hs:List PyData),vs=[.str z,.str y,.ref a]/\H a=some (.lst us)/\RDs H hs us/\HPs hs/\ql z/\ql y/\∀ H',Same H H'->Q (.bl (nG z y hs)) H'
theorem Od {α:Type} {l r:List α} {a:α} (h:a∈l):¬ (l ++ a :: r).Nodup:=fun n=>by
 rw [List.nodup_append] at n
 exact n.2.2 a h a List.mem_cons_self rfl
theorem eV:aJ ["side","top","heaps","seen","heap","pair"] ["side","top","heaps"] (au bu):=⟨rfl,rfl,rfl,by trivial,rfl,by trivial,by trivial⟩
theorem jn (T:Txt K mg):pQ P w K mg base 6 "holds_all_once" ["side","top","heaps"] (Ue K mg):=by
 have jk:=jk (P:=P) (w:=w) (base:=base) T
 refine iQ T.d_holds_all_once eV (fun _ _ _ _ _ _ us hl=>L2.rQ (fun _ _ _=>rfl) us hl) ?_ fun f cdv A outer s H vs Q E hr h=>?_
 ·rintro vs H Q E ⟨z,y,a,us,hs,rfl,_⟩;rfl
 obtain ⟨z,y,a,us,hs,rfl,ha,hr0,hP,hz,hy,q⟩:=h
 have hu:=hr.units0
 have hu64:=hr.units
 refine ⟨_,(aq (aN (i:=3) eV.nd rfl (Or.inl Ob) Ni rfl) (aq (dN PassesOwn.never rfl (cT (K:=K) rfl (ak 2 kz22)) (bI (i:=4) eV.nd rfl (Or.inl Xp) rfl) (aA (dN PassesOwn.never rfl (cT (K:=K) rfl (ak 4 Xp)) (bI (i:=5) eV.nd rfl (Or.inl Ub) rfl) (aq (bM (bH (Jv (K:=K) rfl hu64) (ak 5 Ub) (ak 3 Ob) (by walk_at "p")) (aA (aD iw)) bx) (aA (lB (ts:=qW) iw (oH (ak 3 Ob) (ak 5 Ub) (o7 hu64)))))))) (aA (aD (kh (iR (K:=K) rfl hu64) (aB Fl (aX Xo) T.b_len bJ (aa (ak 3 Ob) aj) (by trivial) (by trivial)) (aB (aG (K:=K) rfl) (aX Xo) T.b_len bJ (aa (di jk (hr.mono (by decide)) (aX kz1z) (zE fun _ _=>rfl) (aa (ak 0 kz21) (aa (ak 1 kz20) aj)) (by trivial)) aj) (by trivial) (by trivial)) (by walk_at "p")))))),?_⟩
 walk_at "s"
 intro sd nsd
 walk_at "s"
 refine .inl ⟨a,rfl,⟨_,SqL.of (dM nsd ha)⟩,?_⟩
 have hl:=bB hr0
 have hs5:20000 < sizeLine:=by decide
 have hP1:=hP.1
 refine eZ (xs:=us) (fun i U H'=>Same H H'/\(fl (hs.take i)).Nodup/\(∃ kvs,H' sd=some (.dT kvs)/\kvs.map (·.1)=(fl (hs.take i)).map z7)/\∃ x4 x5,U=[some (.str z),some (.str y),some (.ref a),some (.ref sd),x4,x5])
  ⟨(Same.refl H).upd nsd,by simp [fl],⟨[],ao,by simp [fl]⟩,none,none,rfl⟩ (fun i U H' _ h=>SqL.of (h.1 _ _ ha)) ?_ ?_
 ·rintro i x U H1 hi ⟨S1,nd1,⟨kvs,hk,hkl⟩,x4,x5,rfl⟩
  obtain ⟨dh,g1,g2⟩:=fG hr0 hi
  obtain ⟨ds,rfl,hdp⟩:=hP.2 dh (List.mem_of_getElem? g1)
  obtain ⟨c,ws,rfl,hc,hw⟩:=aO.mp g2
  have hwl:=bB hw
  have spl:=z8 g1
  have spl2:fl hs=fl (hs.take i) ++ ds.map ux ++ fl (hs.drop (i+1)):=spl
  have fls:(fl (hs.take i)).length+ds.length<=5000:=by
   have:=congrArg List.length spl2
   simp at this
   omega
  rw [yt g1]
  show _
  walk_at "s"
  refine .inl ⟨c,rfl,⟨_,SqL.of (S1 _ _ hc)⟩,?_⟩
  refine eZ (xs:=ws) (fun j U H'=>Same H H'/\(fl (hs.take i) ++ (ds.take j).map ux).Nodup/\(∃ kvs,H' sd=some (.dT kvs)/\kvs.map (·.1)=(fl (hs.take i) ++ (ds.take j).map ux).map z7)/\∃ x5,U=[some (.str z),some (.str y),some (.ref a),some (.ref sd),some (.ref c),x5])
   ⟨S1,by simpa using nd1,⟨kvs,hk,by simpa using hkl⟩,_,rfl⟩ (fun i U H' _ h=>SqL.of (h.1 _ _ hc)) ?_ ?_
  ·rintro j x U H2 hj ⟨S2,nd2,⟨kvs2,hk2,hkl2⟩,x5,rfl⟩
   have hj':j < ws.length:=(List.getElem?_eq_some_iff.mp hj).1
   obtain ⟨dp,g3,g4⟩:=fG (RDs.same S2 _ _ hw) hj
   obtain ⟨p1,p2,rfl⟩:=hdp dp (List.mem_of_getElem? g3)
   obtain ⟨b,rfl,hb⟩:=iG.mp g4
   have hb':H2 b=some (.tup ((z7 (p1,p2)).map kV)):=hb
   have lk:kvs2.length<=5000:=by
    have:=congrArg List.length hkl2
    simp at this
    omega
   have tk:(ds.take (j+1)).map ux=(ds.take j).map ux ++ [(p1,p2)]:=by
    rw [List.take_add_one,g3,List.map_append];rfl
   walk_at "s"
   refine WQ hk2 hb' ?_
   cases hg:pM kvs2 (z7 (p1,p2)) with
   | some v=>
    rw [Option.isSome_some]
    walk_at "s"
    have hm:=Mg hg
    rw [hkl2] at hm
    obtain ⟨p',hp',ep⟩:=List.mem_map.mp hm
    have ep':=J8 ep
    rw [ep'] at hp'
    have no:nG z y hs=false:=by
     unfold nG
     have dr:ds.map ux=(ds.take j).map ux ++ (p1,p2) :: (ds.drop (j+1)).map ux:=by
      have:ds=ds.take j ++ .tuple [.int p1,.int p2] :: ds.drop (j+1):=by
       have hjd:=(List.getElem?_eq_some_iff.mp g3).1
       have e:=(List.getElem?_eq_some_iff.mp g3).2
       rw [← e,List.getElem_cons_drop,List.take_append_drop]
      conv=>lhs;rw [this]
      rw [List.map_append];rfl
     have:¬ (fl hs).Nodup:=by
      rw [spl2,dr,← List.append_assoc,List.append_assoc,List.cons_append]
      exact Od hp'
     rw [decide_eq_false this,Bool.false_and]
    rw [no] at q
    exact q _ S2
   | none=>
    rw [Option.isSome_none]
    walk_at "s"
    refine Sw hk2 hb' (by omega) ?_
    rw [Hv _ hg]
    have S3:Same H (upd H2 sd (.dT (kvs2 ++ [(z7 (p1,p2),.bl true)]))):=over S2 nsd
    refine ⟨S3,?_,⟨_,ao,?_⟩,_,rfl⟩
    ·rw [tk,← List.append_assoc,List.nodup_append]
     refine ⟨nd2,by simp,fun a1 h1 b1 h2 e=>?_⟩
     rw [List.mem_singleton.mp h2] at e
     subst e
     refine HW hg ?_
     rw [hkl2]
     exact List.mem_map.mpr ⟨_,h1,rfl⟩
    ·rw [tk,List.map_append,hkl2];simp [List.map_append]
  ·rintro U H2 ⟨S2,nd2,⟨kvs2,hk2,hkl2⟩,x5,rfl⟩
   rw [hwl,List.take_length] at nd2 hkl2
   exact ⟨S2,nd2,⟨kvs2,hk2,hkl2⟩,_,_,rfl⟩
 ·rintro U H1 ⟨S1,nd1,⟨kvs,hk,hkl⟩,x4,x5,rfl⟩
  rw [hl,List.take_length] at nd1 hkl
  have lk:kvs.length=(fl hs).length:=by
   have:=congrArg List.length hkl
   simpa using this
  walk_at "s"
  refine Nj hk ?_
  walk_at "s"
  refine spX.good hz hy fun q1 H3 nq1 S3 PL3=>?_
  obtain ⟨vs,hv,hvl,hvd⟩:=PL3.len
  walk_at "s"
  refine jR (SqL.of hv) ?_
  walk_at "s"
  have e:decide (V.int (kvs.length:Int)=V.int (vs.length:Int))=nG z y hs:=by
   unfold nG
   rw [decide_eq_true nd1,Bool.true_and,lk,hvl]
   refine decide_eq_decide.mpr ⟨fun h=>by injection h with h;omega,fun h=>by rw [h]⟩
  rw [e]
  exact q _ (S1.trans S3)
def pZ (d e:PyData):Bool:=dY d e || dY e d
def dF (ds:List PyData):Bool:=(List.range ds.length).any fun i=>(ds.take i).any fun e=>pZ e (ds.getD i .none)
def Ug:Sp:=fun vs H Q _=>∃ (a:Addr) (us:List V) (ds:List PyData),vs=[.ref a]/\H a=some (.lst us)/\RDs H ds us/\ds.length<=5000/\(∀ d∈ds,∃ i j,d= .tuple [.int i,.int j])/\∀ H',Same H H'->Q (.bl (dF ds)) H'
theorem Oe {xs:List V} {k:Nat}:nJ xs none (some (k:Int))=xs.take k:=by
 unfold nJ
 rw [HT.sIx_none,HT.sIx_nat,List.drop_zero,Nat.sub_zero]
 by_cases h:k<=xs.length
 ·rw [Nat.min_eq_left h]
 ·rw [Nat.min_eq_right (by omega),List.take_length,List.take_of_length_le (by omega)]
theorem fV:aJ ["heap","place","pair","earlier"] ["heap"] (au bU):=⟨rfl,rfl,rfl,by trivial,rfl,by trivial,by trivial⟩
theorem jX (T:Txt K mg):pQ P w K mg base 2 "has_one_ahead" ["heap"] Ug:=by
 have gW:=gW (P:=P) (w:=w) (base:=base) T
 refine iQ T.d_has_one_ahead fV (fun _ _ _ _ _ _ us hl=>L2.wu (fun _=>rfl) us hl) ?_ fun f cdv A outer s H vs Q E hr h=>?_
 ·rintro vs H Q E ⟨a,us,ds,rfl,_⟩;rfl
 obtain ⟨a,us,ds,rfl,ha,hr0,hdl,hdp,q⟩:=h
 have hu:=hr.units0
 have hu64:=hr.units
 refine ⟨_,(aq (dN PassesOwn.never rfl (uJ (K:=K) rfl rfl (aX kz25) T.b_enumerate (aa (ak 0 Xq) aj)) (su (K:=K) rfl rfl (dq (bI (i:=1) fV.nd rfl (Or.inl Xr) rfl) (dq (bI (i:=2) fV.nd rfl (Or.inl Uc) rfl) lZ))) (aA (dN PassesOwn.never rfl (cT (K:=K) rfl (fQ (Mm (K:=K) rfl) (ak 0 Xq) dU (eQ (ak 1 Xr)))) (bI (i:=3) fV.nd rfl (Or.inl Ud) rfl) (aA (bM (iK (gn (bO (aH gW (hr.mono (by decide)) (aX Xu) (aa (ak 3 Ud) (aa (ak 2 Uc) aj)) (by trivial))) (gf (bO (aH gW (hr.mono (by decide)) (aX Xu) (aa (ak 2 Uc) (aa (ak 3 Ud) aj)) (by trivial)))))) (aA (aD iw)) bx))))) (aA (aD iw))),?_⟩
 walk_at "s"
 have hl:=bB hr0
 have pr:∀ {k:Nat} {x:V} {H':Hp},Same H H'->us[k]?=some x->∃ (b:Addr) (i j:Int),x= .ref b/\H' b=some (.tup [.int i,.int j])/\ds[k]?=some (.tuple [.int i,.int j]):=fun S e=>by
  obtain ⟨d,g1,g2⟩:=fG hr0 e
  obtain ⟨i,j,rfl⟩:=hdp d (List.mem_of_getElem? g1)
  obtain ⟨b,rfl,hb⟩:=iG.mp g2
  exact ⟨b,i,j,rfl,S _ _ hb,g1⟩
 refine .inr ⟨a,_,rfl,SqL.of ha,?_⟩
 refine Eu (xs:=us) (fun i U H'=>Same H H'/\((List.range i).any fun i=>(ds.take i).any fun e=>pZ e (ds.getD i .none))=false/\∃ x1 x2 x3,U=[some (.ref a),x1,x2,x3]) ⟨Same.refl _,rfl,none,none,none,rfl⟩ (fun i U H' _ h=>SqL.of (h.1 _ _ ha)) ?_ ?_
 ·rintro i U H1 T0 x hx ⟨S1,no1,x1,x2,x3,rfl⟩ nT
  have hi:i < us.length:=(List.getElem?_eq_some_iff.mp hx).1
  obtain ⟨b,bi,bj,rfl,hb,eb⟩:=pr S1 hx
  have gb:ds.getD i .none= .tuple [.int bi,.int bj]:=by rw [List.getD_eq_getElem?_getD,eb];rfl
  refine eO (SqT.of ao) rfl ?_
  have S2:=S1.upd nT (o:=.tup [.int i,.ref b])
  have hb2:=dM nT hb (o:=.tup [.int i,.ref b])
  generalize upd H1 T0 (.tup [.int i,.ref b])=H2 at S2 hb2 ⊢
  walk_at "s"
  refine Iu (SqL.of (S2 _ _ ha)) fun m nm=>?_
  rw [Oe]
  refine .inl ⟨m,rfl,⟨_,SqL.of ao⟩,?_⟩
  refine eZ (xs:=us.take i) (fun j U H'=>H'=upd H2 m (.lst (us.take i))/\((ds.take j).any fun e=>pZ e (ds.getD i .none))=false/\∃ x3,U=[some (.ref a),some (.int i),some (.ref b),x3])
   ⟨rfl,rfl,_,rfl⟩ (fun i U H' _ h=>by rw [h.1];exact SqL.of ao) ?_ ?_
  ·rintro j x U H3 hj ⟨rfl,no2,x3,rfl⟩
   have hj':j < i:=by
    have:=(List.getElem?_eq_some_iff.mp hj).1
    simp at this;omega
   rw [List.getElem?_take_of_lt hj'] at hj
   have S3:=S2.upd nm (o:=.lst (us.take i))
   obtain ⟨c,ci,cj,rfl,hc,ec⟩:=pr S3 hj
   have hb3:=dM nm hb2 (o:=.lst (us.take i))
   have stop:pZ (.tuple [.int ci,.int cj]) (.tuple [.int bi,.int bj])=true->dF ds=true:=fun h=>by
    unfold dF
    rw [List.any_eq_true]
    refine ⟨i,List.mem_range.mpr (by omega),?_⟩
    rw [List.any_eq_true]
    refine ⟨_,List.mem_of_getElem? (i:=j) (by rw [List.getElem?_take_of_lt hj'];exact ec),?_⟩
    rw [gb];exact h
   walk_at "s"
   refine ⟨c,b,ci,cj,bi,bj,rfl,hc,hb3,?_⟩
   cases hA:(decide (ci < bi) && decide (cj < bj)) with
   | true=>
    walk_at "s"
    rw [stop (by show (_ || _)=true;rw [show dY (.tuple [.int ci,.int cj]) (.tuple [.int bi,.int bj])=true from hA];rfl)] at q
    exact q _ S3
   | false=>
    walk_at "s"
    refine ⟨b,c,bi,bj,ci,cj,rfl,hb3,hc,?_⟩
    cases hA2:(decide (bi < ci) && decide (bj < cj)) with
    | true=>
     walk_at "s"
     rw [stop (by show (_ || _)=true;rw [show dY (.tuple [.int bi,.int bj]) (.tuple [.int ci,.int cj])=true from hA2,Bool.or_true])] at q
     exact q _ S3
    | false=>
     walk_at "s"
     refine ⟨rfl,?_,_,rfl⟩
     rw [List.take_add_one,ec,List.any_append,no2,gb]
     show (false || (pZ (.tuple [.int ci,.int cj]) (.tuple [.int bi,.int bj]) || false))=false
     have:pZ (.tuple [.int ci,.int cj]) (.tuple [.int bi,.int bj])=false:=by
      show (_ || _)=false
      rw [show dY (.tuple [.int ci,.int cj]) (.tuple [.int bi,.int bj])=false from hA,show dY (.tuple [.int bi,.int bj]) (.tuple [.int ci,.int cj])=false from hA2];rfl
     rw [this];rfl
  ·rintro U H3 ⟨rfl,no2,x3,rfl⟩
   refine ⟨S2.upd nm,?_,_,_,_,rfl⟩
   rw [List.length_take,Nat.min_eq_left (by omega)] at no2
   rw [List.range_succ,List.any_append,no1]
   show (false || ((ds.take i).any (fun e=>pZ e (ds.getD i .none)) || false))=false
   rw [no2];rfl
 ·rintro U H1 ⟨S1,no1,x1,x2,x3,rfl⟩
  walk_at "s"
  have:dF ds=false:=by
   unfold dF
   rw [← hl];exact no1
  rw [this] at q
  exact q _ S1
theorem vX:(["heap"]:List Str).Nodup:=by trivial
theorem vY:(["heap","side","top"]:List Str).Nodup:=by trivial
theorem kz2b:bZ bR "any":=by trivial
theorem Og:bG bR "thing":=by trivial
theorem kz2d:bZ bR "holds_all_once":=by trivial
theorem Xv:Gv bR "top":=by trivial
theorem Xw:Gv bR "side":=by trivial
theorem kz2g:bZ bR "all":=by trivial
theorem kz2h:bZ bR "isinstance":=by trivial
theorem kz2i:bZ bR "list":=by trivial
theorem kz2j:bZ bR "need_rows":=by trivial
theorem Uh:bZ gM "len":=by trivial
theorem Gb:bG gM "thing":=by trivial
theorem kz2m:bZ gM "are_heaps":=by trivial
theorem Ui:bG gM "top":=by trivial
theorem Uj:bG gM "side":=by trivial
theorem kz2p:bZ gM "is_thread":=by trivial
theorem kz2q:bZ gM "isinstance":=by trivial
theorem kz2r:bZ gM "tuple":=by trivial
theorem kz2s:bZ gM "need_rows":=by trivial
def Uk (d:PyData):Prop:=∀ ds,d= .list ds->ds.length<=5000/\(fl ds).length<=5000/\∀ h∈ds,∀ es,h= .list es->es.length<=5000
def fH (z y:Str):PyData->Bool
 | .list hs=>hs.all (iH z y) && (nG z y hs && !hs.any fun h=>dF (tG h))
 | _=>false
def Xx:Str->Str->V->Hp->VK->Prop:=fun side top t H Q=>∃ d,RD H d t/\Uk d/\∀ H',Same H H'->Q (.bl (fH side top d)) H'
theorem yu:aJ ["side","top","thing"] ["side","top","thing"] (au bR):=⟨rfl,rfl,rfl,by trivial,rfl,by trivial,by trivial⟩
theorem oO (T:Txt K mg):sE P w K mg base 7 "are_heaps" ["side","top","thing"] (spX3 K mg Xx):=by
 have bK:=bK (P:=P) (w:=w) (base:=base) T
 have qy:=qy (P:=P) (w:=w) (base:=base) T
 have jn:=jn (P:=P) (w:=w) (base:=base) T
 have jX:=jX (P:=P) (w:=w) (base:=base) T
 refine pW T.d_are_heaps yu (fun _ _ _ _ _ _ us hl=>L2.rQ (fun _ _ _=>rfl) us hl) ?_ fun f cdv A outer s H vs Q E hr h=>?_
 ·rintro vs H Q E ⟨v,u,t,rfl,_⟩;rfl
 obtain ⟨v,u,t,rfl,hv,hu',qx,q⟩:=h
 have hu:=hr.units0
 have hu64:=hr.units
 refine ⟨_,(aq (cU (di bK (hr.mono (by decide)) (aX kz2j) dw (aa (sr 0 Xw) (aa (sr 1 Xv) aj)) (by trivial))) (aq (bM (iK (gn (bN (bO (aB (b8 (K:=K) rfl) (aX kz2h) T.b_isinstance aR (aa (ak 2 Og) (aa (oE (aX kz2i) T.b_list gC (by trivial) (by trivial)) aj)) (by trivial) (by trivial)))) (gf (bN (bO (aB (ou rfl) (aX kz2g) T.b_all vo (aa (gO (sub:=[none,some 0,some 1]) (cH (N:=["side","top","thing"]) (sc:=au bR) (N':=["heap","side","top"]) (by trivial)) rfl rfl rfl (cT (K:=K) rfl (ak 2 Og)) (fun C s₀ H₀ ex=>(oG 0 (by trivial) vY)) (fun C s₀ H₀ ex=>dW) (fun C s₀ H₀ ex=>(aH qy (hr.mono (by decide)) (Gq (by trivial)) (aa (iJ 1 (by trivial)) (aa (iJ 2 (by trivial)) (aa (iI 0 (by trivial)) aj))) (by trivial)))) aj) (by trivial) (by trivial))))))) (aA (aD iw)) bx) (aq (bM (bN (bO (aH jn (hr.mono (by decide)) (aX kz2d) (aa (sr 0 Xw) (aa (sr 1 Xv) (aa (ak 2 Og) aj))) (by trivial)))) (aA (aD iw)) bx) (aA (aD (IK (aB (HX rfl) (aX kz2b) T.b_any RG (aa (gO (sub:=[none]) (cH (N:=["side","top","thing"]) (sc:=au bR) (N':=["heap"]) (by trivial)) rfl rfl rfl (cT (K:=K) rfl (ak 2 Og)) (fun C s₀ H₀ ex=>(oG 0 (by trivial) vX)) (fun C s₀ H₀ ex=>dW) (fun C s₀ H₀ ex=>(aH jX (hr.mono (by decide)) (Gq (by trivial)) (aa (iI 0 (by trivial)) aj) (by trivial)))) aj) (by trivial) (by trivial)))))))),?_⟩
 walk_at "s"
 refine ⟨v,u,rfl,hv,hu',qx,fun side top e1 e2 hs ht H1 S1=>?_⟩
 subst e1 e2
 obtain ⟨d,hd0,hbd,q2⟩:=q _ _ rfl rfl hs ht
 have hd:=RD.same S1 _ _ hd0
 walk_at "s"
 cases hL:qu d with
 | true=>
  obtain ⟨ds,rfl⟩:∃ ds,d= .list ds:=by cases d <;> first | exact ⟨_,rfl⟩ | cases hL
  obtain ⟨a,us,rfl,e,r⟩:=aO.mp hd
  have hl:=bB r
  obtain ⟨h5,hfl,h6⟩:=hbd ds rfl
  have hz:us.length<=sizeLine:=Nat.le_trans (show us.length<=5000 by omega) (by decide)
  refine bV (.lst e) rfl ?_
  walk_at "s"
  refine .inl ⟨a,rfl,⟨_,SqL.of e⟩,?_⟩
  refine eG (xs:=us) (fun i ys H'=>Same H1 H'/\ys=((ds.take i).map (iH side top)).map V.bl) hz ⟨Same.refl _,rfl⟩ ?_ ?_ ?_ ?_
  ·rintro i ys H' ⟨_,rfl⟩
   simp;omega
  ·rintro i ys H' ⟨S2,rfl⟩
   exact SqL.of (S2 _ _ e)
  ·rintro i ys H' x hx ⟨S2,rfl⟩
   obtain ⟨d,h1,h2⟩:=fG (RDs.same S2 _ _ r) hx
   walk_at "s"
   refine ⟨KeepSt.set rfl,?_⟩
   walk_at "s"
   refine ⟨side,top,x,d,rfl,h2,hs.1,ht.1,fun es ee=>by have:=h6 d (List.mem_of_getElem? h1) es ee;omega,fun H3 S3=>⟨S2.trans S3,?_⟩⟩
   rw [List.take_add_one,h1]
   simp
  ·rintro ys H' ⟨S2,rfl⟩ D hD
   rw [hl,List.take_length]
   walk_at "s"
   refine ⟨D,_,rfl,ao,?_⟩
   walk_at "s"
   have e2:((ds.map (iH side top)).all id)=ds.all (iH side top):=by rw [List.all_map];rfl
   rw [e2]
   have S3:Same H1 (upd H' D (.lst ((ds.map (iH side top)).map V.bl))):=S2.upd hD
   generalize upd H' D (.lst ((ds.map (iH side top)).map V.bl))=H3 at S3 ⊢
   replace q2:∀ H',Same H H'->Q (.bl (ds.all (iH side top) && (nG side top ds && !ds.any fun h=>dF (tG h)))) H':=q2
   cases hm:ds.all (iH side top) with
   | false=>
    walk_at "s"
    rw [hm,Bool.false_and] at q2
    exact q2 _ (S1.trans S3)
   | true=>
    rw [hm,Bool.true_and] at q2
    have hp:HPs ds:=⟨hfl,fun h hh=>by
     have sd:=List.all_eq_true.mp hm h hh
     cases h with
     | list es=>
      refine ⟨es,rfl,fun x hx=>?_⟩
      have:(!es.isEmpty && es.all (b7 side top))=true:=sd
      rw [Bool.and_eq_true] at this
      exact kW (List.all_eq_true.mp this.2 x hx)
     | _=>cases sd⟩
    walk_at "s"
    refine ⟨side,top,a,us,ds,rfl,S3 _ _ e,RDs.same S3 _ _ r,hp,hs,ht,fun H4 S4=>?_⟩
    have S14:=S3.trans S4
    cases hO:nG side top ds with
    | false=>
     walk_at "s"
     rw [hO,Bool.false_and] at q2
     exact q2 _ (S1.trans S14)
    | true=>
     rw [hO,Bool.true_and] at q2
     walk_at "s"
     refine .inl ⟨a,rfl,⟨_,SqL.of (S14 _ _ e)⟩,?_⟩
     refine eG (xs:=us) (fun i ys H'=>Same H1 H'/\ys=((ds.take i).map fun h=>dF (tG h)).map V.bl) hz ⟨S14,rfl⟩ ?_ ?_ ?_ ?_
     ·rintro i ys H' ⟨_,rfl⟩
      simp;omega
     ·rintro i ys H' ⟨S5,_⟩
      exact SqL.of (S5 _ _ e)
     ·rintro i ys H' x hx ⟨S5,rfl⟩
      obtain ⟨d,g1,g2⟩:=fG (RDs.same S5 _ _ r) hx
      obtain ⟨es,rfl,gp⟩:=hp.2 d (List.mem_of_getElem? g1)
      obtain ⟨c,ws,rfl,hc,hw⟩:=aO.mp g2
      have h7:=h6 _ (List.mem_of_getElem? g1) es rfl
      walk_at "s"
      refine ⟨KeepSt.set rfl,?_⟩
      walk_at "s"
      refine ⟨c,ws,es,rfl,hc,hw,by omega,gp,fun H6 S6=>⟨S5.trans S6,?_⟩⟩
      rw [List.take_add_one,g1]
      simp [tG]
     ·rintro ys H' ⟨S5,rfl⟩ D2 hD2
      rw [hl,List.take_length]
      walk_at "s"
      refine ⟨D2,_,rfl,ao,?_⟩
      walk_at "s"
      have e3:((ds.map fun h=>dF (tG h)).any id)=ds.any fun h=>dF (tG h):=by rw [List.any_map];rfl
      rw [e3]
      exact q2 _ (S1.trans (S5.upd hD2))
 | false=>
  refine bV (dD hd) (by rw [pH,hL]) ?_
  walk_at "s"
  have:fH side top d=false:=by unfold fH;split <;> first | rfl | cases hL
  rw [this] at q2
  exact q2 _ S1
theorem t7 {z y:Str} {d:PyData} (h:fH z y d=true):∃ ds,d= .list ds:=by
 cases d <;> first | exact ⟨_,rfl⟩ | cases h
theorem rK {z y:Str} {d:PyData} (h:eU z y d=true):∃ ds,d= .list ds:=by
 cases d <;> first | exact ⟨_,rfl⟩ | cases h
def oR (z y:Str):PyData->Bool
 | .tuple [d1,d2]=>eU z y d1 && (fH z y d2 && decide ((tG d1).length=(tG d2).length))
 | _=>false
theorem vZ {z y:Str} {ds:List PyData} (h:ds.length≠2):oR z y (.tuple ds)=false:=by
 match ds,h with
 | [],_=>rfl
 | [_],_=>rfl
 | [_,_],h=>exact absurd rfl h
 | _ :: _ :: _ :: _,_=>rfl
def Ul:Str->Str->V->Hp->VK->Prop:=fun side top t H Q=>∃ d,RD H d t/\(∀ x y,d= .tuple [x,y]->(∀ ds,x= .list ds->ds.length<=5000)/\Uk y)/\∀ H',Same H H'->Q (.bl (oR side top d)) H'
theorem J9:aJ ["side","top","thing"] ["side","top","thing"] (au gM):=⟨rfl,rfl,rfl,by trivial,rfl,by trivial,by trivial⟩
theorem yw (T:Txt K mg):sE P w K mg base 8 "shows" ["side","top","thing"] (spX3 K mg Ul):=by
 have bK:=bK (P:=P) (w:=w) (base:=base) T
 have oN:=oN (P:=P) (w:=w) (base:=base) T
 have oO:=oO (P:=P) (w:=w) (base:=base) T
 refine pW T.d_shows J9 (fun _ _ _ _ _ _ us hl=>L2.rQ (fun _ _ _=>rfl) us hl) ?_ fun f cdv A outer s H vs Q E hr h=>?_
 ·rintro vs H Q E ⟨v,u,t,rfl,_⟩;rfl
 obtain ⟨v,u,t,rfl,hv,hu',qx,q⟩:=h
 have hu:=hr.units0
 have hu64:=hr.units
 refine ⟨_,(aq (cU (di bK (hr.mono (by decide)) (aX kz2s) dw (aa (ak 0 Uj) (aa (ak 1 Ui) aj)) (by trivial))) (aq (bM (iK (gn (bN (bO (aB (b8 (K:=K) rfl) (aX kz2q) T.b_isinstance aR (aa (ak 2 Gb) (aa (oE (aX kz2r) T.b_tuple oA (by trivial) (by trivial)) aj)) (by trivial) (by trivial)))) (gf (bH (Jc (K:=K) rfl hu64) (aB (aG (K:=K) rfl) (aX Uh) T.b_len bJ (aa (ak 2 Gb) aj) (by trivial) (by trivial)) az (by walk_at "p"))))) (aA (aD iw)) bx) (aq (bM (iK (gn (bN (bO (di oN (hr.mono (by decide)) (aX kz2p) dw (aa (ak 0 Uj) (aa (ak 1 Ui) (aa (aV (K:=K) rfl (ak 2 Gb) az) aj))) (by trivial)))) (gf (bN (bO (di oO (hr.mono (by decide)) (aX kz2m) dw (aa (ak 0 Uj) (aa (ak 1 Ui) (aa (aV (K:=K) rfl (ak 2 Gb) az) aj))) (by trivial))))))) (aA (aD iw)) bx) (aA (aD (kh (iR (K:=K) rfl hu64) (aB (aG (K:=K) rfl) (aX Uh) T.b_len bJ (aa (aV (K:=K) rfl (ak 2 Gb) az) aj) (by trivial) (by trivial)) (aB (aG (K:=K) rfl) (aX Uh) T.b_len bJ (aa (aV (K:=K) rfl (ak 2 Gb) az) aj) (by trivial) (by trivial)) (by walk_at "p"))))))),?_⟩
 walk_at "s"
 refine ⟨v,u,rfl,hv,hu',qx,fun side top e1 e2 hs ht H1 S1=>?_⟩
 subst e1 e2
 obtain ⟨d,hd0,hbd,q2⟩:=q _ _ rfl rfl hs ht
 have hd:=RD.same S1 _ _ hd0
 walk_at "s"
 cases hL:qt d with
 | true=>
  obtain ⟨ds,rfl⟩:∃ ds,d= .tuple ds:=by cases d <;> first | exact ⟨_,rfl⟩ | cases hL
  obtain ⟨a,us,rfl,e,r⟩:=cJ.mp hd
  have hl:=bB r
  refine bV (.tup e) rfl ?_
  walk_at "s"
  refine vp (SqT.of e) ?_
  walk_at "s"
  by_cases h2:ds.length=2
  ·rw [decide_eq_true (show V.int (us.length:Int)=V.int 2 by rw [hl,h2];rfl)]
   match ds,h2,r,hbd,q2 with
   | [d1,d2],_,r,hbd,q2=>
    obtain ⟨v1,v2,rfl,r1,r2⟩:=mH r
    obtain ⟨b1,b2⟩:=hbd d1 d2 rfl
    replace q2:∀ H',Same H H'->Q (.bl (eU side top d1 && (fH side top d2 && decide ((tG d1).length=(tG d2).length)))) H':=q2
    walk_at "s"
    refine spX3.good hs ht ⟨d1,r1,b1,fun H2 S2=>?_⟩
    cases h1:eU side top d1 with
    | false=>
     walk_at "s"
     rw [h1,Bool.false_and] at q2
     exact q2 _ (S1.trans S2)
    | true=>
     rw [h1,Bool.true_and] at q2
     have e2:=S2 _ _ e
     walk_at "s"
     refine spX3.good hs ht ⟨d2,RD.same S2 _ _ r2,b2,fun H3 S3=>?_⟩
     cases hb:fH side top d2 with
     | false=>
      walk_at "s"
      rw [hb,Bool.false_and] at q2
      exact q2 _ ((S1.trans S2).trans S3)
     | true=>
      rw [hb,Bool.true_and] at q2
      have e3:=S3 _ _ e2
      have S13:=S2.trans S3
      obtain ⟨ds1,rfl⟩:=rK h1
      obtain ⟨ds2,rfl⟩:=t7 hb
      obtain ⟨a1,w1,rfl,f1,g1⟩:=aO.mp (RD.same S13 _ _ r1)
      obtain ⟨a2,w2,rfl,f2,g2⟩:=aO.mp (RD.same S13 _ _ r2)
      have l1:=bB g1
      have l2:=bB g2
      walk_at "s"
      refine jR (SqL.of f1) ?_
      walk_at "s"
      refine jR (SqL.of f2) ?_
      walk_at "s"
      have e9:decide (V.int (w1.length:Int)=V.int (w2.length:Int))=decide ((tG (.list ds1)).length=(tG (.list ds2)).length):=by
       refine decide_eq_decide.mpr ⟨fun h=>?_,fun h=>?_⟩
       ·injection h with h
        show ds1.length=ds2.length
        omega
       ·have h':ds1.length=ds2.length:=h
        rw [l1,l2,h']
      rw [e9]
      exact q2 _ (S1.trans S13)
  ·rw [decide_eq_false (show ¬ V.int (us.length:Int)=V.int 2 by intro z;injection z with z;omega)]
   walk_at "s"
   rw [vZ h2] at q2
   exact q2 _ S1
 | false=>
  refine bV (dD hd) (by rw [rJ,hL]) ?_
  walk_at "s"
  have:oR side top d=false:=by unfold oR;split <;> first | rfl | cases hL
  rw [this] at q2
  exact q2 _ S1
end
def Ah (p q:PP):Prop:=p.1 < q.1/\p.2 < q.2
def Mt (S P:List Nat) (p:PP):Prop:=p.1 < S.length/\p.2 < P.length/\S[p.1]?=P[p.2]?
theorem v4 {S P:List Nat}:∀ {m:Nat} {p:PP},p.1 < m->p.2 < P.length->S[p.1]?=P[p.2]?->p∈prs S P m
 | 0,p,h,_,_=>by omega
 | m+1,p,h,h2,h3=>by
  rw [prs]
  by_cases e:p.1 < m
  ·exact List.mem_append_left _ (v4 e h2 h3)
  ·refine List.mem_append_right _ ?_
   have e':p.1=m:=by omega
   unfold rE
   exact List.mem_map.mpr ⟨p.2,List.mem_filter.mpr ⟨List.mem_range.mpr h2,decide_eq_true (by rw [← e'];exact h3)⟩,by rw [← e']⟩
theorem BK (S P:List Nat):∀ m,(prs S P m).Nodup
 | 0=>.nil
 | m+1=>by
  rw [prs,List.nodup_append]
  refine ⟨BK S P m,?_,fun a ha b hb e=>?_⟩
  ·unfold rE
   refine List.Pairwise.map _ ?_ (List.Pairwise.filter _ List.nodup_range)
   intro a b hab e
   exact hab (Prod.mk.inj e).2
  ·have:=(jt ha).1
   have:=(vQ hb).1
   subst e
   omega
theorem z9 {z y:Str} {p:PP} (h:Mt z.cps.toList y.cps.toList p):b7 z y (pD p)=true:=by
 obtain ⟨h1,h2,h3⟩:=h
 show jl z y (p.1:Int) (p.2:Int)=true
 unfold jl
 have l1:z.length=z.cps.toList.length:=cC z
 have l2:y.length=y.cps.toList.length:=cC y
 rw [decide_eq_true (show (0:Int)<=(p.1:Int) by omega),decide_eq_true (show (p.1:Int) < (z.length:Int) by omega),decide_eq_true (show (0:Int)<=(p.2:Int) by omega),decide_eq_true (show (p.2:Int) < (y.length:Int) by omega),Int.toNat_natCast,Int.toNat_natCast,decide_eq_true h3]
 rfl
theorem Ka {p q:PP}:dY (pD p) (pD q)=(decide (p.1 < q.1) && decide (p.2 < q.2)):=by
 show (decide ((p.1:Int) < (q.1:Int)) && decide ((p.2:Int) < (q.2:Int)))=_
 congr 1
 ·exact decide_eq_decide.mpr (by omega)
 ·exact decide_eq_decide.mpr (by omega)
theorem xq {p q:PP}:dY (pD p) (pD q)=true↔Ah p q:=by
 rw [Ka,Bool.and_eq_true,decide_eq_true_eq,decide_eq_true_eq];rfl
def hD (h:List PP):PyData:=.list (h.map pD)
def cP (p:PP):Int×Int:=((p.1:Int),(p.2:Int))
theorem Kc {p q:PP} (h:cP p=cP q):p=q:=by
 unfold cP at h
 obtain ⟨h1,h2⟩:=Prod.mk.inj h
 exact Prod.ext (by omega) (by omega)
theorem Kd:∀ hs:List (List PP),fl (hs.map hD)=hs.flatten.map cP
 | []=>rfl
 | h :: hs=>by
  have ih:=Kd hs
  unfold fl at ih ⊢
  rw [List.map_cons,List.map_cons,List.flatten_cons,ih,List.flatten_cons,List.map_append]
  congr 1
  show (h.map pD).map ux=h.map cP
  rw [List.map_map];rfl
theorem Um {h:List PP} (hn:∀ p∈h,∀ q∈h,¬ Ah p q):dF (tG (hD h))=false:=by
 show dF (h.map pD)=false
 unfold dF
 rw [List.any_eq_false]
 intro i hi
 have hi':i < h.length:=by have:=List.mem_range.mp hi;simpa using this
 rw [Bool.not_eq_true,List.any_eq_false]
 intro e he
 have e1:(h.map pD).getD i .none=pD h[i]:=by rw [List.getD_eq_getElem?_getD,List.getElem?_map,List.getElem?_eq_getElem hi'];rfl
 obtain ⟨p,hp,rfl⟩:=List.mem_map.mp (List.mem_of_mem_take he)
 rw [e1]
 intro z
 have z':(dY (pD p) (pD h[i]) || dY (pD h[i]) (pD p))=true:=z
 rw [Bool.or_eq_true,xq,xq] at z'
 rcases z' with z' | z'
 ·exact hn p hp _ (List.getElem_mem hi') z'
 ·exact hn _ (List.getElem_mem hi') p hp z'
theorem Oh {hs:List (List PP)} {ps:List PP} (hp:hs.flatten.Perm ps) (nd:ps.Nodup):(fl (hs.map hD)).Nodup:=by
 rw [Kd]
 refine List.Pairwise.map _ (fun a b hab e=>hab (Kc e)) (hp.nodup_iff.mpr nd)
theorem Ke {z y:Str} {hs:List (List PP)} (h0:∀ h∈hs,h≠[]) (hp:hs.flatten.Perm (prs z.cps.toList y.cps.toList z.length)) (hn:∀ h∈hs,∀ p∈h,∀ q∈h,¬ Ah p q):fH z y (.list (hs.map hD))=true:=by
 have l1:z.length=z.cps.toList.length:=cC z
 have mt:∀ h∈hs,∀ p∈h,Mt z.cps.toList y.cps.toList p:=fun h hh p hp'=>by
  have:=jt (hp.mem_iff.mp (List.mem_flatten.mpr ⟨h,hh,hp'⟩))
  exact ⟨by omega,this.2.1,this.2.2⟩
 show ((hs.map hD).all (iH z y) && (nG z y (hs.map hD) && !(hs.map hD).any fun h=>dF (tG h)))=true
 rw [Bool.and_eq_true,Bool.and_eq_true]
 refine ⟨?_,?_,?_⟩
 ·rw [List.all_eq_true]
  intro d hd
  obtain ⟨h,hh,rfl⟩:=List.mem_map.mp hd
  show (!(h.map pD).isEmpty && (h.map pD).all (b7 z y))=true
  rw [Bool.and_eq_true]
  refine ⟨?_,?_⟩
  ·cases h with
   | nil=>exact absurd rfl (h0 _ hh)
   | cons a b=>rfl
  ·rw [List.all_eq_true]
   intro d hd
   obtain ⟨p,hp',rfl⟩:=List.mem_map.mp hd
   exact z9 (mt h hh p hp')
 ·unfold nG
  rw [decide_eq_true (Oh hp (BK _ _ _)),Bool.true_and]
  refine decide_eq_true ?_
  rw [Kd,List.length_map]
  exact hp.length_eq
 ·rw [Bool.not_eq_true',List.any_eq_false]
  intro d hd
  obtain ⟨h,hh,rfl⟩:=List.mem_map.mp hd
  rw [Um (hn h hh)];decide
local macro_rules | `(tactic| walk_at "s") => `(tactic| (with_reducible repeat (first | refine wY ?_ | walk_at "1")))
local macro_rules | `(tactic| walk_at "n") => `(tactic| (with_reducible repeat (walk_at "1")))
section
variable {P:Program} {w:World} {K:W.Frag} {mg:Str->Option Value} {base:Heap}
theorem kz2t:bZ cu "list":=by trivial
theorem kz2u:bZ cu "reversed":=by trivial
theorem Uo:bG cu "found":=by trivial
theorem Aa:bG cu "j":=by trivial
theorem Ab:bG cu "i":=by trivial
theorem Up:bG cu "side":=by trivial
theorem Uq:bG cu "top":=by trivial
theorem Ur:bG cu "table":=by trivial
theorem Xy:bZ cu "len":=by trivial
theorem kz32:bZ cu "lengths":=by trivial
def MR (r:R2):Prop:=∀ x y H Q Q',(∀ v H1,Q v H1->Q' v H1)->r x y H Q->r x y H Q'
def ME (te:TE):Prop:=∀ U H Q Q',(∀ v H1,Q v H1->Q' v H1)->te U H Q->te U H Q'
def MT (te:TT):Prop:=∀ U H Q Q',(∀ v H1,Q v H1->Q' v H1)->te U H Q->te U H Q'
theorem Qi (g:Int->Int->V):MR (K6 g):=by
 rintro x y H Q Q' h ⟨i,j,e1,e2,q⟩
 exact ⟨i,j,e1,e2,h _ _ q⟩
theorem Kf (i:Nat):ME (rR i):=by
 rintro U H Q Q' h ⟨v,e,q⟩
 exact ⟨v,e,h _ _ q⟩
theorem Xz (v:V):ME (tC v):=fun U H Q Q' h q=>h _ _ q
theorem Qj {r:R2} {ta tb:TE} (hr:MR r) (ha:ME ta) (hb:ME tb):ME (Ha r ta tb):=fun U H Q Q' h q=>ha U H _ _ (fun x H1 q1=>hb U H1 _ _ (fun y H2 q2=>hr _ _ _ _ _ h q2) q1) q
theorem Do {te:TE} (h:ME te):MT (wJ te):=fun U H Q Q' hq q=>h U H _ _ (fun x H1 ⟨k,e,q1⟩=>⟨k,e,hq _ _ q1⟩) q
theorem Us {t u:TT} (h:MT t) (h2:MT u):MT (K9 t u):=fun U H Q Q' hq q=>h U H _ _ (fun c H1 q1=>by
 cases c with
 | true=>rw [if_pos rfl] at q1 ⊢;exact h2 _ _ _ _ hq q1
 | false=>rw [if_neg Bool.false_ne_true] at q1 ⊢;exact hq _ _ q1) q
def wb (S P:List Nat) (i j:Nat):List PP:=match i,j with
 | 0,_=>[]
 | _+1,0=>[]
 | i+1,j+1=>if S[i]?=P[j]? then (i,j) :: wb S P i j else if lt S P i (j+1)=lt S P (i+1) (j+1) then wb S P i (j+1) else wb S P (i+1) j
termination_by i+j
theorem Ut (S P:List Nat) (j:Nat):wb S P 0 j=[]:=by rw [wb]
theorem Uu (S P:List Nat) (i:Nat):wb S P i 0=[]:=by cases i <;> rw [wb]
theorem Kg (S P:List Nat) (i j:Nat):wb S P (i+1) (j+1)=if S[i]?=P[j]? then (i,j) :: wb S P i j else if lt S P i (j+1)=lt S P (i+1) (j+1) then wb S P i (j+1) else wb S P (i+1) j:=by rw [wb]
theorem yx (S P:List Nat):∀ (n i j:Nat),i+j<=n->(wb S P i j).length<=i
 | _,0,j,_=>by rw [Ut];simp
 | _,i+1,0,_=>by rw [Uu];simp
 | 0,i+1,j+1,h=>by omega
 | n+1,i+1,j+1,h=>by
  rw [Kg]
  split
  ·have:=yx S P n i j (by omega);simp;omega
  ·split
   ·have:=yx S P n i (j+1) (by omega);omega
   ·have:=yx S P n (i+1) j (by omega);omega
def mu34 (U:St) (_:Hp):Nat:=match U[3]?,U[4]? with
 | some (some (V.int z)),some (some (V.int y))=>z.toNat+y.toNat
 | _,_=>0
theorem yz {H:Hp}:∀ {ds:List PyData} {vs:List V},DRs H ds vs->DRs H ds.reverse vs.reverse
 | [],_,h=>by rw [dg] at h;subst h;exact dg.mpr rfl
 | d :: ds,_,h=>by
  rw [du] at h
  obtain ⟨v,r,rfl,hd,hr⟩:=h
  rw [List.reverse_cons,List.reverse_cons]
  exact km (yz hr) (uK hd)
def Oi:Str->Str->Hp->VK->Prop:=fun side top H Q=>∀ (q:Addr) (H':Hp),H q=none->Same H H'->PL H' q (wb side.cps.toList top.cps.toList side.length top.length).reverse->Q (.ref q) H'
theorem cV:aJ ["side","top","table","i","j","found"] ["side","top"] (au cu):=⟨rfl,rfl,rfl,by trivial,rfl,by trivial,by trivial⟩
theorem oU (T:Txt K mg):sE P w K mg base 6 "thread_of" ["side","top"] (spX K mg Oi):=by
 have j7:=j7 (P:=P) (w:=w) (base:=base) T
 refine pW T.d_thread_of cV (fun _ _ _ _ _ _ us hl=>L2.rP (fun _ _=>rfl) us hl) ?_ fun f cdv A outer s H vs Q E hr h=>?_
 ·rintro vs H Q E ⟨v,u,rfl,_⟩;rfl
 obtain ⟨v,u,rfl,hv,hu',qx,q⟩:=h
 have hu:=hr.units0
 have hu64:=hr.units
 refine ⟨_,(aq (aN (i:=2) cV.nd rfl (Or.inl Ur) (di j7 (hr.mono (by decide)) (aX kz32) dw (aa (ak 0 Up) (aa (ak 1 Uq) aj)) (by trivial)) rfl) (aq (aN (i:=3) cV.nd rfl (Or.inl Ab) (aB (aG (K:=K) rfl) (aX Xy) T.b_len bJ (aa (ak 0 Up) aj) (by trivial) (by trivial)) rfl) (aq (aN (i:=4) cV.nd rfl (Or.inl Aa) (aB (aG (K:=K) rfl) (aX Xy) T.b_len bJ (aa (ak 1 Uq) aj) (by trivial) (by trivial)) rfl) (aq (aN (i:=5) cV.nd rfl (Or.inl Uo) (dj aj) rfl) (aq (yc (IV PassesOwn.never (iK (Iz (bH uU (ak 3 Ab) az (by walk_at "p")) (CJ (bH uU (ak 4 Aa) az (by walk_at "p"))))) (aA (bM (bH (iR (K:=K) rfl hu64) (aV (K:=K) rfl (ak 0 Up) (bY lG (ak 3 Ab) az)) (aV (K:=K) rfl (ak 1 Uq) (bY lG (ak 4 Aa) az)) (by walk_at "p")) (aq (ye (i:=3) cV.nd rfl (Or.inl Ab) az uG rfl) (aq (ye (i:=4) cV.nd rfl (Or.inl Aa) az uG rfl) (aA (cU (kj (K:=K) rfl PySem.F.plainAttrs_list PySem.F.slot_list_append PySem.F.type_list_append gY (ak 5 Uo) (aa (cI (aa (ak 3 Ab) (aa (ak 4 Aa) aj))) aj)))))) (aA (bM (bH (iR (K:=K) rfl hu64) (aV (K:=K) rfl (aV (K:=K) rfl (ak 2 Ur) (bY lG (ak 3 Ab) az)) (ak 4 Aa)) (aV (K:=K) rfl (aV (K:=K) rfl (ak 2 Ur) (ak 3 Ab)) (ak 4 Aa)) (by walk_at "p")) (aA (ye (i:=3) cV.nd rfl (Or.inl Ab) az uG rfl)) (aA (ye (i:=4) cV.nd rfl (Or.inl Aa) az uG rfl)))))))) (aA (aD (Ex (K:=K) rfl rfl (aX kz2t) T.b_list (aX kz2u) T.b_reversed (ak 5 Uo))))))))),?_⟩
 walk_at "s"
 refine ⟨v,u,rfl,hv,hu',qx,fun side top e1 e2 hs ht t rs H1 nt fr S1 TB=>?_⟩
 subst e1 e2
 have lz:side.length<=sizeLine:=Nat.le_trans hs.1 (by decide)
 have ly:top.length<=sizeLine:=Nat.le_trans ht.1 (by decide)
 walk_at "s"
 refine fZ lz ?_
 walk_at "s"
 refine fZ ly ?_
 walk_at "s"
 refine Pz rfl fun fd nfd=>?_
 walk_at "s"
 have nH:H fd=none:=S1.free nfd
 refine GZ (fun U H'=>∃ (i j:Nat) (fs:List PP),U=[some (.str side),some (.str top),some (.ref t),some (.int i),some (.int j),some (.ref fd)]/\Same H H'/\Tab H' t rs (iD side.cps.toList top.cps.toList (side.length+1) (top.length+1))/\PL H' fd fs/\i<=side.length/\j<=top.length/\fs.length+i<=side.length/\fs ++ wb side.cps.toList top.cps.toList i j=wb side.cps.toList top.cps.toList side.length top.length) mu34
  ⟨side.length,top.length,[],rfl,S1.upd nfd,TB.same ((Same.refl H1).upd nfd),⟨[],ao,dg.mpr rfl⟩,Nat.le_refl _,Nat.le_refl _,by simp,rfl⟩ ?_ ?_
 ·rintro U H' ⟨i,j,fs,rfl,s,TB',hf,hi,hj,hfl,hb⟩
  walk_at "s"
  cases i with
  | zero=>
   rw [decide_eq_false (by omega)]
   walk_at "s"
   rw [Ut,List.append_nil] at hb
   obtain ⟨vs,h1,h2⟩:=hf
   refine ⟨_,rfl,_,_,rfl,SqL.of h1,fun r nr=>?_⟩
   exact q _ _ rfl rfl hs ht r _ (s.free nr) (s.upd nr) ⟨_,ao,by rw [← hb,List.map_reverse];exact DRs.same ((Same.refl H').upd nr) _ _ (yz h2)⟩
  | succ i=>
   rw [decide_eq_true (by omega)]
   walk_at "s"
   cases j with
   | zero=>
    rw [decide_eq_false (by omega)]
    walk_at "s"
    rw [Uu,List.append_nil] at hb
    obtain ⟨vs,h1,h2⟩:=hf
    refine ⟨_,rfl,_,_,rfl,SqL.of h1,fun r nr=>?_⟩
    exact q _ _ rfl rfl hs ht r _ (s.free nr) (s.upd nr) ⟨_,ao,by rw [← hb,List.map_reverse];exact DRs.same ((Same.refl H').upd nr) _ _ (yz h2)⟩
   | succ j=>
    rw [decide_eq_true (by omega)]
    walk_at "s"
    obtain ⟨c,hc,ac⟩:=mG (z:=side) (k:=((i+1:Nat):Int) - 1) (j:=i) (by omega) (by omega)
    obtain ⟨d,hd,ad⟩:=mG (z:=top) (k:=((j+1:Nat):Int) - 1) (j:=j) (by omega) (by omega)
    refine pR lz ac ?_
    walk_at "s"
    refine pR ly ad ?_
    walk_at "s"
    refine lu (fun hk=>?_) (fun hk=>?_)
    ·have ec:side.cps.toList[i]?=top.cps.toList[j]?:=by rw [hc,hd,mF.mp hk]
     walk_at "s"
     refine pX (by with_unfolding_all rfl) ?_
     walk_at "s"
     refine pX (by with_unfolding_all rfl) ?_
     walk_at "s"
     rw [show ((i+1:Nat):Int) - 1=(i:Int) by omega,show ((j+1:Nat):Int) - 1=(j:Int) by omega]
     obtain ⟨vs0,h0,_⟩:=id hf
     refine ⟨.inl ⟨rfl,_,SqL.of h0⟩,?_⟩
     walk_at "s"
     refine ⟨by simp;decide,fun T1 nT1=>?_⟩
     walk_at "s"
     have s1:=(Same.refl H').upd nT1 (o:=.tup [.int i,.int j])
     obtain ⟨vs,h1,hl,h2⟩:=(hf.same s1).push (T:=T1) ao
     refine gq h1 (by rw [hl];exact Nat.lt_of_lt_of_le (show fs.length < 1000 by have:=hs.1;omega) (by decide)) ?_
     have nfT:∀ r∈t :: rs,r≠fd:=fun r hr z=>by
      subst z
      have:H1 r≠none:=by
       rcases List.mem_cons.mp hr with rfl | hr
       ·rw [TB.at_];simp
       ·obtain ⟨xs,e⟩:=TB.mem hr;rw [e];simp
      exact this nfd
     refine ⟨⟨i,j,fs ++ [(i,j)],rfl,over (s.trans s1) nH,(TB'.same s1).out (rs:=[fd]) ((Out.refl [fd] _).step (by simp)) (by simpa using nfT t (by simp)) (fun r hr=>by simpa using nfT r (List.mem_cons_of_mem _ hr)),h2,by omega,by omega,by simp;omega,?_⟩,?_⟩
     ·rw [← hb,Kg,if_pos ec,List.append_assoc];rfl
     ·show (i:Int).toNat+(j:Int).toNat < ((i+1:Nat):Int).toNat+((j+1:Nat):Int).toNat
      omega
    ·have ec:¬ side.cps.toList[i]?=top.cps.toList[j]?:=by
      rw [hc,hd]
      intro z
      exact hk (by rw [Option.some.inj z])
     obtain ⟨r1,a1,_,b1⟩:=sZ TB' (k:=((i+1:Nat):Int) - 1) (i:=i) (by omega) (by omega)
     obtain ⟨r2,a2,_,b2⟩:=sZ TB' (k:=((i+1:Nat):Int)) (i:=i+1) rfl (by omega)
     walk_at "s"
     refine bD (SqL.of TB'.at_) a1 ?_
     walk_at "s"
     refine bD (SqL.of b1) (qp (j:=j+1) rfl (by omega)) ?_
     walk_at "s"
     refine bD (SqL.of TB'.at_) a2 ?_
     walk_at "s"
     refine bD (SqL.of b2) (qp (j:=j+1) rfl (by omega)) ?_
     walk_at "s"
     refine lu (fun hk2=>?_) (fun hk2=>?_)
     ·have el:lt side.cps.toList top.cps.toList i (j+1)=lt side.cps.toList top.cps.toList (i+1) (j+1):=by injection hk2
      walk_at "s"
      refine pX (by with_unfolding_all rfl) ?_
      walk_at "s"
      refine ⟨⟨i,j+1,fs,by rw [show ((i+1:Nat):Int) - 1=(i:Int) by omega];rfl,s,TB',hf,by omega,by omega,by omega,?_⟩,?_⟩
      ·rw [← hb,Kg,if_neg ec,if_pos el]
      ·show (((i+1:Nat):Int) - 1).toNat+((j+1:Nat):Int).toNat < ((i+1:Nat):Int).toNat+((j+1:Nat):Int).toNat
       omega
     ·have el:¬ lt side.cps.toList top.cps.toList i (j+1)=lt side.cps.toList top.cps.toList (i+1) (j+1):=fun z=>hk2 (by rw [z])
      walk_at "s"
      refine pX (by with_unfolding_all rfl) ?_
      walk_at "s"
      refine ⟨⟨i+1,j,fs,by rw [show ((j+1:Nat):Int) - 1=(j:Int) by omega];rfl,s,TB',hf,by omega,by omega,by omega,?_⟩,?_⟩
      ·rw [← hb,Kg,if_neg ec,if_neg el]
      ·show ((i+1:Nat):Int).toNat+(((j+1:Nat):Int) - 1).toNat < ((i+1:Nat):Int).toNat+((j+1:Nat):Int).toNat
       omega
 ·exact Us (Do (Qj (Qi _) (Kf _) (Xz _))) (Do (Qj (Qi _) (Kf _) (Xz _)))
end
def dec (p q:PP):Prop:=q.1 < p.1/\q.2 < p.2
theorem Dp (S P:List Nat):∀ (n i j:Nat),i+j<=n->(∀ p∈wb S P i j,p.1 < i/\p.2 < j/\S[p.1]?=P[p.2]?)/\(wb S P i j).Pairwise dec/\((wb S P i j).length:Int)=lt S P i j
 | _,0,j,_=>by rw [Ut,lt_0];exact ⟨by simp,.nil,rfl⟩
 | _,i+1,0,_=>by rw [Uu,zU];exact ⟨by simp,.nil,rfl⟩
 | 0,i+1,j+1,h=>by omega
 | n+1,i+1,j+1,h=>by
  rw [Kg]
  by_cases e:S[i]?=P[j]?
  ·rw [if_pos e,zX e]
   obtain ⟨a,b,c⟩:=Dp S P n i j (by omega)
   refine ⟨fun p hp=>?_,.cons (fun p hp=>?_) b,by rw [← c];simp⟩
   ·rcases List.mem_cons.mp hp with rfl | hp
    ·exact ⟨by simp,by simp,e⟩
    ·obtain ⟨x,y,z⟩:=a p hp;exact ⟨by omega,by omega,z⟩
   ·obtain ⟨x,y,z⟩:=a p hp;exact ⟨x,y⟩
  ·rw [if_neg e]
   by_cases e2:lt S P i (j+1)=lt S P (i+1) (j+1)
   ·rw [if_pos e2,← e2]
    obtain ⟨a,b,c⟩:=Dp S P n i (j+1) (by omega)
    exact ⟨fun p hp=>by obtain ⟨x,y,z⟩:=a p hp;exact ⟨by omega,by omega,z⟩,b,c⟩
   ·rw [if_neg e2]
    obtain ⟨a,b,c⟩:=Dp S P n (i+1) j (by omega)
    refine ⟨fun p hp=>by obtain ⟨x,y,z⟩:=a p hp;exact ⟨by omega,by omega,z⟩,b,?_⟩
    rw [c]
    rw [wB,if_neg e] at e2 ⊢
    unfold mx at e2 ⊢
    split <;> split at e2 <;> omega
def adj:List PyData->Bool
 | []=>true
 | [_]=>true
 | a :: b :: r=>dY a b && adj (b :: r)
theorem tH:∀ ds:List PyData,((List.range (ds.length - 1)).all fun k=>dY (ds.getD k .none) (ds.getD (k+1) .none))=adj ds
 | []=>rfl
 | [_]=>rfl
 | a :: b :: r=>by
  have ih:=tH (b :: r)
  rw [adj,← ih]
  simp only [List.length_cons,Nat.add_sub_cancel]
  rw [List.range_succ_eq_map,List.all_cons,List.all_map]
  rfl
def Dq (z y:Str):Int->Int->List PyData->Bool
 | _,_,[]=>true
 | l0,l1,d :: r=>match d with
  | .tuple [.int i,.int j]=>decide (l0 < i) && decide (i < z.length) && decide (l1 < j) && decide (j < y.length) && decide (z.cps.toList[i.toNat]?=y.cps.toList[j.toNat]?) && Dq z y i j r
  | _=>false
def v5 (z y:Str):PyData->Bool
 | .list ds=>Dq z y (-1) (-1) ds
 | _=>false
def headOk (l0 l1:Int):List PyData->Bool
 | []=>true
 | d :: _=>dY (.tuple [.int l0,.int l1]) d
theorem v6 {z y:Str} {l0 l1:Int} {d:PyData} {r:List PyData} (h:cG d=false):Dq z y l0 l1 (d :: r)=false:=by
 rw [Dq]
 intro i j e
 subst e
 cases h
theorem Ac {z y:Str} {l0 l1 i j:Int} {r:List PyData}:Dq z y l0 l1 (.tuple [.int i,.int j] :: r)=(decide (l0 < i) && decide (i < z.length) && decide (l1 < j) && decide (j < y.length) && decide (z.cps.toList[i.toNat]?=y.cps.toList[j.toNat]?) && Dq z y i j r):=by rw [Dq]
theorem Kh (i j:Int) (r:List PyData):adj (.tuple [.int i,.int j] :: r)=(headOk i j r && adj r):=by
 cases r with
 | nil=>rfl
 | cons b r=>rfl
theorem Kl {z y:Str}:∀ (ds:List PyData) (l0 l1:Int),-1<=l0->-1<=l1->Dq z y l0 l1 ds=(ds.all (b7 z y) && (adj ds && headOk l0 l1 ds))
 | [],_,_,_,_=>rfl
 | d :: r,l0,l1,h0,h1=>by
  cases hp:cG d with
  | false=>rw [v6 hp,List.all_cons,tE hp];rfl
  | true=>
   obtain ⟨i,j,rfl⟩:=pJ hp
   rw [Ac,List.all_cons,Kh]
   show _=((jl z y i j && r.all (b7 z y)) && ((headOk i j r && adj r) && (decide (l0 < i) && decide (l1 < j))))
   by_cases a:l0 < i
   ·by_cases b:l1 < j
    ·rw [Kl r i j (by omega) (by omega)]
     unfold jl
     rw [decide_eq_true a,decide_eq_true b,decide_eq_true (show 0<=i by omega),decide_eq_true (show 0<=j by omega)]
     cases decide (i < (z.length:Int)) <;> cases decide (j < (y.length:Int)) <;> cases decide (z.cps.toList[i.toNat]?=y.cps.toList[j.toNat]?) <;> cases r.all (b7 z y) <;> cases adj r <;> cases headOk i j r <;> rfl
    ·rw [decide_eq_false b];simp
   ·rw [decide_eq_false a];simp
theorem yC (z y:Str) (d:PyData):v5 z y d=eU z y d:=by
 cases d with
 | list ds=>
  show Dq z y (-1) (-1) ds=(ds.all (b7 z y) && _)
  rw [Kl ds _ _ (by omega) (by omega),tH]
  cases hm:ds.all (b7 z y) with
  | false=>rfl
  | true=>
   have:headOk (-1) (-1) ds=true:=by
    cases ds with
    | nil=>rfl
    | cons d r=>
     obtain ⟨i,j,rfl⟩:=kW (List.all_eq_true.mp hm d (by simp))
     have hm1:=List.all_eq_true.mp hm (.tuple [.int i,.int j]) (by simp)
     have hm2:jl z y i j=true:=hm1
     unfold jl at hm2
     simp only [Bool.and_eq_true,decide_eq_true_eq] at hm2
     show (decide ((-1:Int) < i) && decide ((-1:Int) < j))=true
     rw [decide_eq_true (by omega),decide_eq_true (by omega)];rfl
   rw [this,Bool.and_true]
 | _=>rfl
theorem Gd {z y:Str} {ps:List PP} (hm:∀ p∈ps,p.1 < z.length/\p.2 < y.length/\z.cps.toList[p.1]?=y.cps.toList[p.2]?) (hp:ps.Pairwise fun p q=>p.1 < q.1/\p.2 < q.2):eU z y (.list (ps.map pD))=true:=by
 show ((ps.map pD).all (b7 z y) && _)=true
 rw [tH,Bool.and_eq_true]
 constructor
 ·rw [List.all_map,List.all_eq_true]
  intro p h
  obtain ⟨a,b,c⟩:=hm p h
  show jl z y p.1 p.2=true
  unfold jl
  simp only [Bool.and_eq_true,decide_eq_true_eq,Int.toNat_natCast]
  exact ⟨⟨⟨⟨by omega,by omega⟩,by omega⟩,by omega⟩,c⟩
 ·clear hm
  induction ps with
  | nil=>rfl
  | cons p ps ih=>
   have:=ih (List.Pairwise.of_cons hp)
   cases ps with
   | nil=>rfl
   | cons q ps=>
    show (dY (pD p) (pD q) && adj (pD q :: ps.map pD))=true
    have h:=List.rel_of_pairwise_cons hp (List.mem_cons_self ..)
    rw [Bool.and_eq_true]
    refine ⟨?_,this⟩
    show (decide ((p.1:Int) < q.1) && decide ((p.2:Int) < q.2))=true
    rw [decide_eq_true (by omega),decide_eq_true (by omega)];rfl
structure ThP (z y:Str) (ps:List PP):Prop where
 mem:∀ p∈ps,p.1 < z.length/\p.2 < y.length/\z.cps.toList[p.1]?=y.cps.toList[p.2]?
 up:ps.Pairwise fun p q=>p.1 < q.1/\p.2 < q.2
 few:ps.length<=z.length
theorem XD (z y:Str):ThP z y (wb z.cps.toList y.cps.toList z.length y.length).reverse/\(((wb z.cps.toList y.cps.toList z.length y.length).reverse.length:Nat):Int)=lt z.cps.toList y.cps.toList z.length y.length:=by
 obtain ⟨a,b,c⟩:=Dp z.cps.toList y.cps.toList _ z.length y.length (Nat.le_refl _)
 refine ⟨⟨fun p hp=>a p (List.mem_reverse.mp hp),?_,?_⟩,by rw [List.length_reverse];exact c⟩
 ·rw [List.pairwise_reverse]
  exact b.imp fun h=>h
 ·rw [List.length_reverse]
  exact yx _ _ _ _ _ (Nat.le_refl _)
section
variable {P:Program} {w:World} {K:W.Frag} {mg:Str->Option Value} {base:Heap}
theorem v7:(["_law_j","_law_i","_law_side","_law_top"]:List Str).Nodup:=by trivial
theorem uy:(["_law_k"]:List Str).Nodup:=by trivial
theorem tK:(["_law_k","_law_letters_here","_law_first","_law_step"]:List Str).Nodup:=by trivial
theorem v8:(["_law_k","_law_signs","_law_purse_here"]:List Str).Nodup:=by trivial
theorem Km:bG cz "_law_table_here":=by trivial
theorem kz34:bG cz "_law_side":=by trivial
theorem XF:bG cz "_law_sign":=by trivial
theorem Oj:bG cz "_law_row_here":=by trivial
theorem kz37:bZ cz "range":=by trivial
theorem XH:bZ cz "len":=by trivial
theorem Uv:bG cz "_law_top":=by trivial
theorem Ko:bG cz "_law_at":=by trivial
theorem Uw:bG cz "_law_most":=by trivial
theorem kz3c:bZ cz "max":=by trivial
theorem Ux:bG cX "_law_found":=by trivial
theorem XJ:bZ cX "range":=by trivial
theorem XM:bZ cX "len":=by trivial
theorem kz3g:Gv cX "_law_side":=by trivial
theorem kz3h:Gv cX "_law_i":=by trivial
theorem kz3i:Gv cX "_law_top":=by trivial
theorem XN:bZ ik "_law_drawn":=by trivial
theorem XQ:bG ik "_law_most":=by trivial
theorem XR:bG ik "_law_signs":=by trivial
theorem Uy:bG ik "_law_purse_here":=by trivial
theorem kz3n:bZ ik "_law_take":=by trivial
theorem Uz:bG bL "_law_found":=by trivial
theorem kz3p:bZ bL "_law_pairs":=by trivial
theorem XS:bG bL "_law_top":=by trivial
theorem XX:bG bL "_law_side":=by trivial
theorem UG:bG bL "_law_j":=by trivial
theorem UJ:bG bL "_law_i":=by trivial
theorem UL:bG bL "_law_table_here":=by trivial
theorem kz3v:bZ bL "range":=by trivial
theorem kz3w:bZ bL "_law_table":=by trivial
theorem UT:bG ji "_law_k":=by trivial
theorem kz3y:bZ ji "len":=by trivial
theorem X3:bG ji "_law_script":=by trivial
theorem X4:bG jw "_law_cell_here":=by trivial
theorem kz41:bZ jw "max":=by trivial
theorem Ad:bG gU "_law_number":=by trivial
theorem UV:bG gU "_law_many":=by trivial
theorem yD:bG gU "_law_purse_here":=by trivial
theorem X5:bG gU "_law_digit":=by trivial
theorem kz46:bZ bT "range":=by trivial
theorem X6:bG bT "_law_many":=by trivial
theorem UW:bZ bT "_law_take":=by trivial
theorem U0:bG bT "_law_purse_here":=by trivial
theorem kz4a:Gv bT "_law_step":=by trivial
theorem kz4b:Gv bT "_law_first":=by trivial
theorem kz4c:Gv bT "_law_letters_here":=by trivial
theorem kz4d:bZ dz "range":=by trivial
theorem X7:bG dz "_law_size":=by trivial
theorem X8:bZ dz "_law_take":=by trivial
theorem kz4g:bG dz "_law_most":=by trivial
theorem Yb:Gv dz "_law_purse_here":=by trivial
theorem Ae:aJ ["_law_script","_law_k"] ["_law_script","_law_k"] (au ji):=⟨rfl,rfl,rfl,by trivial,rfl,by trivial,by trivial⟩
theorem qz (T:Txt K mg):pQ P w K mg base 1 "_law_cell" ["_law_script","_law_k"] (Tj K):=by
 refine iQ T.d_law_cell Ae (fun _ _ _ _ _ _ us hl=>L2.rP (fun _ _=>rfl) us hl) ?_ fun f cdv A outer s H vs Q E hr h=>?_
 ·rintro vs H Q E ⟨a,ns,k,rfl,_⟩;rfl
 obtain ⟨a,ns,k,rfl,hS,h0,q⟩:=h
 refine ⟨_,(aq (bM (bH qJ (ak 1 UT) (aB (aG (K:=K) rfl) (aX kz3y) T.b_len bJ (aa (ak 0 X3) aj) (by trivial) (by trivial)) (by walk_at "p")) (aA (aD (aV (K:=K) rfl (ak 0 X3) (ak 1 UT)))) bx) (aA (aD (bY bz (bY jo az (ak 1 UT)) az)))),?_⟩
 walk_at "s"
 refine ⟨_,_,rfl,.inl ⟨_,hS,rfl⟩,?_⟩
 walk_at "s"
 refine lu (fun hk=>?_) (fun hk=>?_)
 ·rw [List.length_map] at hk
  walk_at "s"
  refine bD hS (dJ (v:=.int (ns.getD k.toNat 0)) h0 ?_) (q _)
  rw [List.getElem?_map,List.getD_eq_getElem?_getD,List.getElem?_eq_getElem (by omega)];rfl
 ·walk_at "s"
  exact q _
theorem yE:aJ ["_law_cell_here"] ["_law_cell_here"] (au jw):=⟨rfl,rfl,rfl,by trivial,rfl,by trivial,by trivial⟩
theorem oV (T:Txt K mg):pQ P w K mg base 1 "_law_purse" ["_law_cell_here"] Ny:=by
 refine iQ T.d_law_purse yE (fun _ _ _ _ _ _ us hl=>L2.wu (fun _=>rfl) us hl) ?_ fun f cdv A outer s H vs Q E hr h=>?_
 ·rintro vs H Q E ⟨a,rfl,_⟩;rfl
 obtain ⟨n,rfl,q⟩:=h
 refine ⟨_,(aA (aD (dj (aa (aB (lR rfl) (aX kz41) T.b_max vm (aa az (aa (bY lG (ak 0 X4) (bY Hb az az)) aj)) (by trivial) (by trivial)) (aa (bY nR (ak 0 X4) az) (aa az aj)))))),?_⟩
 walk_at "s"
 refine ⟨by simp;decide,fun p hp=>q p _ hp ((Chg.refl p H).new hp) ⟨_,_,_,ao,?_,?_,?_⟩⟩
 ·split <;> omega
 ·omega
 ·omega
theorem jy:aJ ["_law_purse_here","_law_many","_law_digit","_law_number"] ["_law_purse_here","_law_many"] (au gU):=⟨rfl,rfl,rfl,by trivial,rfl,by trivial,by trivial⟩
theorem aF (T:Txt K mg):pQ P w K mg base 1 "_law_take" ["_law_purse_here","_law_many"] Tn:=by
 refine iQ T.d_law_take jy (fun _ _ _ _ _ _ us hl=>L2.rP (fun _ _=>rfl) us hl) ?_ fun f cdv A outer s H vs Q E hr h=>?_
 ·rintro vs H Q E ⟨a,n,rfl,_⟩;rfl
 obtain ⟨p,n,rfl,⟨a,b,c,hp,ha,hb,hb2⟩,hn,hn2,q⟩:=h
 refine ⟨_,(aq (lB (ts:=yW) (bY bz (aV (K:=K) rfl (ak 0 yD) az) az) (oH (ak 0 yD) az set_list)) (aq (bM (bH uU (aV (K:=K) rfl (ak 0 yD) az) az (by walk_at "p")) (aq (aN (i:=2) jy.nd rfl (Or.inl X5) (bY nR (aV (K:=K) rfl (ak 0 yD) az) (ak 1 UV)) rfl) (aq (lB (ts:=yW) (bY Cg (aV (K:=K) rfl (ak 0 yD) az) (ak 1 UV)) (oH (ak 0 yD) az set_list)) (aA (aD (ak 2 X5))))) bx) (aq (aN (i:=3) jy.nd rfl (Or.inl Ad) (bY nR (bY bz (bY bz (bY jo (aV (K:=K) rfl (ak 0 yD) az) az) (bY jo az (aV (K:=K) rfl (ak 0 yD) az))) az) az) rfl) (aq (aN (i:=3) jy.nd rfl (Or.inl Ad) (bY nR (bY jo (ak 3 Ad) (ak 3 Ad)) az) rfl) (aq (aN (i:=3) jy.nd rfl (Or.inl Ad) (bY nR (bY jo (bY bz (ak 3 Ad) (bY jo az (aV (K:=K) rfl (ak 0 yD) az))) az) az) rfl) (aA (aD (bY nR (bY Cg (bY nR (bY jo (ak 3 Ad) (ak 3 Ad)) az) az) (ak 1 UV))))))))),?_⟩
 walk_at "s"
 refine lu (fun h1=>?_) (fun h1=>?_)
 ·walk_at "s"
  refine q _ _ (Int.emod_nonneg _ (by omega)) (Int.emod_lt_of_pos _ hn) ⟨_,_,_,ao,Int.ediv_nonneg ha (by omega),hb,hb2⟩ fun b' o hb' e=>?_
  rw [aC hb',aC hb'];exact e
 ·walk_at "s"
  refine q _ _ (Int.emod_nonneg _ (by omega)) (Int.emod_lt_of_pos _ hn) ⟨_,_,_,ao,ha,hb,hb2⟩ fun b' o hb' e=>?_
  rw [aC hb'];exact e
theorem fJ:aJ ["_law_purse_here","_law_letters_here","_law_first","_law_step","_law_many"] ["_law_purse_here"] (au bT):=⟨rfl,rfl,rfl,by trivial,rfl,by trivial,by trivial⟩
theorem lM (T:Txt K mg):pQ P w K mg base 2 "_law_letters" ["_law_purse_here"] FW:=by
 have aF:=aF (P:=P) (w:=w) (base:=base) T
 refine iQ T.d_law_letters fJ (fun _ _ _ _ _ _ us hl=>L2.wu (fun _=>rfl) us hl) ?_ fun f cdv A outer s H vs Q E hr h=>?_
 ·rintro vs H Q E ⟨a,rfl,_⟩;rfl
 obtain ⟨p,rfl,hP,q⟩:=h
 refine ⟨_,(aq (aN (i:=1) fJ.nd rfl (Or.inr kz4c) CG rfl) (aq (aN (i:=2) fJ.nd rfl (Or.inr kz4b) (aH aF (hr.mono (by decide)) (aX UW) (aa (ak 0 U0) (aa az aj)) (by trivial)) rfl) (aq (aN (i:=3) fJ.nd rfl (Or.inr kz4a) (aV (K:=K) rfl (dj (aa az (aa az (aa az (aa az (aa az (aa az aj))))))) (aH aF (hr.mono (by decide)) (aX UW) (aa (ak 0 U0) (aa az aj)) (by trivial))) rfl) (aq (aN (i:=4) fJ.nd rfl (Or.inl X6) (aV (K:=K) rfl (dj (aa az (aa az (aa az (aa az (aa az (aa az (aa az (aa az aj))))))))) (aH aF (hr.mono (by decide)) (aX UW) (aa (ak 0 U0) (aa az aj)) (by trivial))) rfl) (aA (aD (gO (sub:=[none,some 1,some 2,some 3]) (cH (N:=["_law_purse_here","_law_letters_here","_law_first","_law_step","_law_many"]) (sc:=au bT) (N':=["_law_k","_law_letters_here","_law_first","_law_step"]) (by trivial)) rfl rfl rfl (fU (aX kz46) T.b_range (aa (ak 4 X6) aj)) (fun C s₀ H₀ ex=>(oG 0 (by trivial) tK)) (fun C s₀ H₀ ex=>dW) (fun C s₀ H₀ ex=>(aV (K:=K) rfl (iJ 1 (by trivial)) (bY nR (bY bz (iJ 2 (by trivial)) (bY jo (iJ 3 (by trivial)) (iI 0 (by trivial)))) az)))))))))),?_⟩
 walk_at "s"
 refine ⟨p,26,rfl,hP,by omega,by omega,fun d1 H1 a1 b1 P1 C1=>?_⟩
 walk_at "s"
 refine ⟨by decide,fun m1 n1=>?_⟩
 walk_at "s"
 refine ⟨p,6,rfl,P1.new n1,by omega,by omega,fun d2 H2 a2 b2 P2 C2=>?_⟩
 obtain ⟨w1,hw1,e1⟩:=Im (ns:=[1,3,5,7,9,11]) a2 b2
 refine bD (SqL.of (C2.at_ ao (P1.ne n1))) e1 ?_
 walk_at "s"
 refine ⟨by decide,fun m2 n2=>?_⟩
 walk_at "s"
 refine ⟨p,8,rfl,P2.new n2,by omega,by omega,fun d3 H3 a3 b3 P3 C3=>?_⟩
 obtain ⟨w2,hw2,e2⟩:=Im (ns:=[1,2,2,3,3,4,5,26]) a3 b3
 refine bD (SqL.of (C3.at_ ao (P2.ne n2))) e2 ?_
 walk_at "s"
 have g2:1<=w2/\w2<=26:=by
  have:∀ n∈([1,2,2,3,3,4,5,26]:List Int),1<=n/\n<=26:=by decide
  exact this w2 hw2
 refine ⟨_,rfl,by omega,by omega,?_⟩
 refine lW (fun i ys H'=>H'=H3/\∃ zs:List Str,ys=zs.map V.str/\zs.length=i/\GoodS zs) (Nat.le_trans (show w2.toNat<=1000 by omega) (by decide)) ⟨rfl,[],rfl,rfl,by intro y hy;cases hy⟩ (by rintro i ys H ⟨_,zs,rfl,hl,_⟩;simp [hl]) ?_ ?_
 ·rintro i ys H' hi ⟨rfl,zs,rfl,hl,hz⟩
  walk_at "s"
  refine ⟨KeepSt.set rfl,?_⟩
  walk_at "s"
  try with_reducible refine jz ?_
  walk_at "s"
  obtain ⟨c,hc,ec⟩:=Wo (ns:=(Str.ofString "abcdefghijklmnopqrstuvwxyz").cps.toList) (d:=(d1+w1*(0+(i:Int))) % 26) (by omega) (by
   have:(Str.ofString "abcdefghijklmnopqrstuvwxyz").cps.toList.length=26:=by trivial
   omega)
  refine pR (by trivial) ec ⟨rfl,zs ++ [⟨#[c]⟩],by simp,by simp [hl],fun y hy=>?_⟩
  rcases List.mem_append.mp hy with h | h
  ·exact hz y h
  ·rw [List.mem_singleton.mp h];exact ⟨c,rfl,FT c hc⟩
 ·rintro ys H' ⟨rfl,zs,rfl,hl,hz⟩ D hD
  have nP:D≠p:=P3.ne hD
  refine q D zs _ ?_ (P3.new hD) ?_ ao (by intro z;subst z;simp at hl;omega) (by omega) hz
  ·exact C1.none_ ((Chg.new (Chg.refl p H1) n1).trans C2 |>.none_ (((Chg.new (Chg.refl p H2) n2).trans C3).none_ hD nP) nP) nP
  ·exact (C1.trans ((Chg.new (Chg.refl p H1) n1).trans (C2.trans ((Chg.new (Chg.refl p H2) n2).trans C3)))).new hD
theorem rM:aJ ["_law_purse_here","_law_signs","_law_most","_law_size"] ["_law_purse_here","_law_signs","_law_most"] (au dz):=⟨rfl,rfl,rfl,by trivial,rfl,by trivial,by trivial⟩
theorem lE (T:Txt K mg):pQ P w K mg base 2 "_law_drawn" ["_law_purse_here","_law_signs","_law_most"] Nz:=by
 have aF:=aF (P:=P) (w:=w) (base:=base) T
 refine iQ T.d_law_drawn rM (fun _ _ _ _ _ _ us hl=>L2.rQ (fun _ _ _=>rfl) us hl) ?_ fun f cdv A outer s H vs Q E hr h=>?_
 ·rintro vs H Q E ⟨p,q,ys,m,rfl,_⟩;rfl
 obtain ⟨p,r,ys,m,rfl,hP,hr0,hne,hle,hone,hm0,hm1,q⟩:=h
 have nrp:r≠p:=by
  obtain ⟨a,b,c,e,_⟩:=hP
  intro z;subst z;rw [hr0] at e
  have e':=HO.lst.inj (Option.some.inj e)
  cases ys with
  | nil=>cases e'
  | cons y ys=>cases e'
 refine ⟨_,(aq (aN (i:=3) rM.nd rfl (Or.inl X7) (aH aF (hr.mono (by decide)) (aX X8) (aa (sr 0 Yb) (aa (aV (K:=K) rfl (dj (aa az (aa az (aa az (aa az (aa az (aa az (aa az (aa (bY bz (ak 2 kz4g) az) aj))))))))) (aH aF (hr.mono (by decide)) (aX X8) (aa (sr 0 Yb) (aa az aj)) (by trivial))) aj)) (by trivial)) rfl) (aA (aD (kj (K:=K) rfl PySem.F.plainAttrs_str PySem.F.slot_str_join PySem.F.type_str_join Mh CG (aa (gO (sub:=[none,some 1,some 0]) (cH (N:=["_law_purse_here","_law_signs","_law_most","_law_size"]) (sc:=au dz) (N':=["_law_k","_law_signs","_law_purse_here"]) (by trivial)) rfl rfl rfl (fU (aX kz4d) T.b_range (aa (ak 3 X7) aj)) (fun C s₀ H₀ ex=>(oG 0 (by trivial) v8)) (fun C s₀ H₀ ex=>dW) (fun C s₀ H₀ ex=>(aV (K:=K) rfl (iJ 1 (by trivial)) (aH aF (hr.mono (by decide)) (Gq (by trivial)) (aa (iJ 2 (by trivial)) (aa (aB (aG (K:=K) rfl) (Gq (by trivial)) T.b_len bJ (aa (iJ 1 (by trivial)) aj) (by trivial) (by trivial)) aj)) (by trivial))))) aj))))),?_⟩
 walk_at "s"
 refine ⟨by simp;decide,fun m1 n1=>?_⟩
 walk_at "s"
 refine ⟨p,8,rfl,hP.new n1,by omega,by omega,fun d2 H2 a2 b2 P2 C2=>?_⟩
 obtain ⟨w1,hw1,e1⟩:=Im (ns:=[3,5,7,9,9,9,13,m+1]) a2 b2
 refine bD (SqL.of (C2.at_ ao (hP.ne n1))) e1 ?_
 have g1:1<=w1/\w1<=49:=by
  simp only [List.mem_cons,List.mem_nil_iff,or_false] at hw1
  omega
 walk_at "s"
 refine ⟨p,w1,rfl,P2,by omega,by omega,fun d3 H3 a3 b3 P3 C3=>?_⟩
 have C03:Chg p H H3:=((Chg.refl p H).new n1).trans (C2.trans C3)
 walk_at "s"
 refine ⟨rfl,?_⟩
 walk_at "s"
 refine ⟨_,rfl,by omega,by omega,?_⟩
 refine lW (fun i us H'=>Pur H' p/\Chg p H3 H'/\∃ zs:List Str,us=zs.map V.str/\zs.length=i/\GoodS zs) (Nat.le_trans (show d3.toNat<=1000 by omega) (by decide)) ⟨P3,Chg.refl _ _,[],rfl,rfl,by intro y hy;cases hy⟩ (by rintro i ys H ⟨_,_,zs,rfl,hl,_⟩;simp [hl]) ?_ ?_
 ·rintro i us H4 hi ⟨P4,C4,zs,rfl,hl,hz⟩
  have hr4:H4 r=some (.lst (ys.map V.str)):=C4.at_ (C03.at_ hr0 nrp) nrp
  walk_at "s"
  refine ⟨KeepSt.set rfl,?_⟩
  walk_at "s"
  try with_reducible refine jz ?_
  walk_at "s"
  refine jR (SqL.of hr4) ?_
  walk_at "s"
  have hlen:0 < ys.length:=List.length_pos_iff.mpr hne
  refine ⟨p,_,rfl,P4,by simp;omega,by simp;omega,fun d5 H5 a5 b5 P5 C5=>?_⟩
  rw [List.length_map] at b5
  obtain ⟨y,hy,ey⟩:=Wn (ns:=ys) a5 b5
  refine bD (SqL.of (C5.at_ hr4 nrp)) ey ⟨P5,C4.trans C5,zs ++ [y],by simp,by simp [hl],fun x hx=>?_⟩
  rcases List.mem_append.mp hx with h | h
  ·exact hz x h
  ·rw [List.mem_singleton.mp h];exact hone y hy
 ·rintro us H4 ⟨P4,C4,zs,rfl,hl,hz⟩ D hD
  walk_at "s"
  have hs1:=Ir hz.ones
  have e0:(Str.ofString "").length=0:=by trivial
  refine RK ao (by rw [hs1,e0];omega) ?_
  exact q _ _ (Tp hz (by omega)) (P4.new hD) ((C03.trans C4).new hD)
theorem Kp {H:Hp} {p r:Addr} {ys:List Str} (hP:Pur H p) (hr0:H r=some (.lst (ys.map V.str))):r≠p:=by
 obtain ⟨a,b,c,e,_⟩:=hP
 intro z;subst z;rw [hr0] at e
 have e':=HO.lst.inj (Option.some.inj e)
 cases ys with
 | nil=>cases e'
 | cons y ys=>cases e'
def Ge:Sp:=fun vs H Q _=>∃ side top:Str,vs=[.str side,.str top]/\Row side/\Row top/\
 ∀ t rs H',H t=none->(∀ r∈rs,H r=none)->Same H H'->Tab H' t rs (iD side.cps.toList top.cps.toList (side.length+1) (top.length+1))->Q (.ref t) H'
theorem dZ:aJ ["_law_side","_law_top","_law_table_here","_law_sign","_law_row_here","_law_at","_law_most"] ["_law_side","_law_top"] (au cz):=⟨rfl,rfl,rfl,by trivial,rfl,by trivial,by trivial⟩
theorem oW (T:Txt K mg):pQ P w K mg base 1 "_law_table" ["_law_side","_law_top"] Ge:=by
 refine iQ T.d_law_table dZ (fun _ _ _ _ _ _ us hl=>L2.rP (fun _ _=>rfl) us hl) ?_ fun f cdv A outer s H vs Q E hr h=>?_
 ·rintro vs H Q E ⟨side,top,rfl,_⟩;rfl
 obtain ⟨side,top,rfl,hs,ht,q⟩:=h
 have hu:=hr.units0
 have hu64:=hr.units
 refine ⟨_,(aq (aN (i:=2) dZ.nd rfl (Or.inl Km) (dj (aa (bY jo (dj (aa az aj)) (bY bz (aB (aG (K:=K) rfl) (aX XH) T.b_len bJ (aa (ak 1 Uv) aj) (by trivial) (by trivial)) az)) aj)) rfl) (aq (dN PassesOwn.never rfl (cT (K:=K) rfl (ak 0 kz34)) (bI (i:=3) dZ.nd rfl (Or.inl XF) rfl) (aq (aN (i:=4) dZ.nd rfl (Or.inl Oj) (dj (aa az aj)) rfl) (aq (dN PassesOwn.never rfl (fU (aX kz37) T.b_range (aa (aB (aG (K:=K) rfl) (aX XH) T.b_len bJ (aa (ak 1 Uv) aj) (by trivial) (by trivial)) aj)) (bI (i:=5) dZ.nd rfl (Or.inl Ko) rfl) (aq (aN (i:=6) dZ.nd rfl (Or.inl Uw) (aB (lR rfl) (aX kz3c) T.b_max vm (aa (aV (K:=K) rfl (aV (K:=K) rfl (ak 2 Km) (wz lH az)) (bY bz (ak 5 Ko) az)) (aa (aV (K:=K) rfl (ak 4 Oj) (ak 5 Ko)) aj)) (by trivial) (by trivial)) rfl) (aq (bM (bH (iR (K:=K) rfl hu64) (ak 3 XF) (aV (K:=K) rfl (ak 1 Uv) (ak 5 Ko)) (by walk_at "p")) (aA (aN (i:=6) dZ.nd rfl (Or.inl Uw) (bY bz (aV (K:=K) rfl (aV (K:=K) rfl (ak 2 Km) (wz lH az)) (ak 5 Ko)) az) rfl)) bx) (aA (cU (kj (K:=K) rfl PySem.F.plainAttrs_list PySem.F.slot_list_append PySem.F.type_list_append gY (ak 4 Oj) (aa (ak 6 Uw) aj))))))) (aA (cU (kj (K:=K) rfl PySem.F.plainAttrs_list PySem.F.slot_list_append PySem.F.type_list_append gY (ak 2 Km) (aa (ak 4 Oj) aj))))))) (aA (aD (ak 2 Km))))),?_⟩
 walk_at "s"
 have lt1:top.length<=sizeLine:=Nat.le_trans ht.1 (by decide)
 have ht1:=ht.1
 have hs1:=hs.1
 refine ⟨by simp;decide,fun p0 n0=>?_⟩
 walk_at "s"
 refine fZ lt1 ?_
 walk_at "s"
 refine IW ao (by omega) (by omega) (Nat.le_trans (show [V.int 0].length*((top.length:Int)+1).toNat<=1000 by simp;omega) (by decide)) fun p1 n1=>?_
 walk_at "s"
 refine ⟨by simp;decide,fun t n2=>?_⟩
 walk_at "s"
 refine .inr (.inr ⟨side,rfl,?_⟩)
 have e0:(List.replicate ((top.length:Int)+1).toNat [V.int 0]).flatten=(jj side.cps.toList top.cps.toList 0 (top.length+1)).map V.int:=by
  rw [show ((top.length:Int)+1).toNat=top.length+1 by omega]
  exact zeros _ _ _
 rw [e0] at n2 ⊢
 have nt:H t=none:=(((Same.refl H).upd n0).upd n1).free n2
 have npt:p1≠t:=fun z=>by rw [z,ao] at n2;cases n2
 refine CP (z:=side) (fun i U H'=>Same H H'/\(∃ rs,(∀ r∈rs,H r=none)/\Tab H' t rs (iD side.cps.toList top.cps.toList (i+1) (top.length+1)))/\∃ x3 x4 x5 x6,U=[some (.str side),some (.str top),some (.ref t),x3,x4,x5,x6])
  ⟨((((Same.refl H).upd n0).upd n1).upd n2),⟨[p1],fun r hr=>by rw [List.mem_singleton.mp hr];exact ((Same.refl H).upd n0).free n1,⟨ao,by simp [iD],by simp,by simpa using Ne.symm npt,fun i r xs e1 e2=>?_⟩⟩,none,none,none,none,rfl⟩ ?_ ?_
 ·have hi:i=0:=by
   have:=(List.getElem?_eq_some_iff.mp e1).1
   simp at this;exact this
  subst hi
  simp [iD] at e1 e2
  subst e1 e2
  exact dM n2 ao
 ·rintro i U H2 c hc ⟨S2,⟨rs,fr,TB⟩,x3,x4,x5,x6,rfl⟩
  have hi:i < side.length:=by
   have:=(List.getElem?_eq_some_iff.mp hc).1
   simpa [Str.length] using this
  have hrl:rs.length=i+1:=by rw [TB.len];simp [iD]
  obtain ⟨r,er⟩:∃ r,rs[i]?=some r:=⟨_,List.getElem?_eq_getElem (show i < rs.length by omega)⟩
  have hrow:=TB.row i r (jj side.cps.toList top.cps.toList i (top.length+1)) er (by unfold iD;rw [List.getElem?_map,List.getElem?_range (by omega)];rfl)
  walk_at "s"
  refine ⟨by simp;decide,fun r2 nr2=>?_⟩
  walk_at "s"
  refine fZ lt1 ?_
  walk_at "s"
  refine ⟨_,rfl,by omega,by omega,?_⟩
  refine rW (fun j U H'=>Same H2 H'/\H' r2=some (.lst ((jj side.cps.toList top.cps.toList (i+1) (j+1)).map V.int))/\∃ x5 x6,U=[some (.str side),some (.str top),some (.ref t),some (.str ⟨#[c]⟩),some (.ref r2),x5,x6])
   ⟨(Same.refl H2).upd nr2,by rw [ao];simp [jj,zU],_,_,rfl⟩ ?_ ?_
  ·rintro j U H3 hj ⟨S3,hr3,x5,x6,rfl⟩
   have hj':j < top.length:=by omega
   have hl:((jj side.cps.toList top.cps.toList (i+1) (j+1)).map V.int).length < sizeLine:=by
    rw [List.length_map,rD]
    exact Nat.lt_of_lt_of_le (show j+1 < 1000 by omega) (by decide)
   obtain ⟨d,ed,fd⟩:=mG (z:=top) (k:=0+(j:Int)) (j:=j) (by omega) hj'
   have tl:uH (rs.map V.ref) (-1)=some (.ref r):=sY (n:=i) (by simp [hrl]) (by rw [List.getElem?_map,er];rfl)
   walk_at "s"
   refine bD (SqL.of (S3 _ _ TB.at_)) tl ?_
   walk_at "s"
   refine bD (SqL.of (S3 _ _ hrow)) (qp (j:=j+1) (by omega) (by omega)) ?_
   walk_at "s"
   refine bD (SqL.of hr3) (qp (j:=j) (by omega) (by omega)) ?_
   walk_at "s"
   refine pR lt1 fd ?_
   walk_at "s"
   refine lu (fun hk=>?_) (fun hk=>?_)
   ·have ec:side.cps.toList[i]?=top.cps.toList[j]?:=by rw [hc,ed,mF.mp hk]
    walk_at "s"
    refine bD (SqL.of (S3 _ _ TB.at_)) tl ?_
    walk_at "s"
    refine bD (SqL.of (S3 _ _ hrow)) (qp (j:=j) (by omega) (by omega)) ?_
    walk_at "s"
    refine ⟨.inl ⟨rfl,_,SqL.of hr3⟩,?_⟩
    walk_at "s"
    refine gq hr3 hl ⟨over S3 nr2,?_,_,_,rfl⟩
    rw [ao,lX _ _ (i+1) (j+1),zX ec,List.map_append];rfl
   ·have ec:¬ side.cps.toList[i]?=top.cps.toList[j]?:=by
     rw [hc,ed]
     intro z
     exact hk (by rw [Option.some.inj z])
    walk_at "s"
    refine ⟨.inl ⟨rfl,_,SqL.of hr3⟩,?_⟩
    walk_at "s"
    refine gq hr3 hl ⟨over S3 nr2,?_,_,_,rfl⟩
    rw [ao,lX _ _ (i+1) (j+1),wB,if_neg ec,List.map_append];rfl
  ·rintro U H3 ⟨S3,hr3,x5,x6,rfl⟩
   rw [show ((top.length:Int)).toNat=top.length by omega] at hr3
   walk_at "s"
   refine ⟨.inl ⟨rfl,_,SqL.of (S3 _ _ TB.at_)⟩,?_⟩
   walk_at "s"
   refine gq (S3 _ _ TB.at_) (by rw [List.length_map,hrl];exact Nat.lt_of_lt_of_le (show i+1 < 1000 by omega) (by decide)) ?_
   exact ⟨over (S2.trans S3) nt,⟨rs ++ [r2],fun r hr=>(List.mem_append.mp hr).elim (fr r) fun z=>by rw [List.mem_singleton.mp z];exact S2.free nr2,TB.grow S3 nr2 hr3⟩,_,_,_,_,rfl⟩
 ·rintro U H2 ⟨S2,⟨rs,fr,TB⟩,x3,x4,x5,x6,rfl⟩
  walk_at "s"
  exact q t rs H2 nt fr S2 TB
theorem mJ:aJ ["_law_side","_law_top","_law_found","_law_i"] ["_law_side","_law_top"] (au cX):=⟨rfl,rfl,rfl,by trivial,rfl,by trivial,by trivial⟩
theorem dG (T:Txt K mg):pQ P w K mg base 1 "_law_pairs" ["_law_side","_law_top"] N5:=by
 refine iQ T.d_law_pairs mJ (fun _ _ _ _ _ _ us hl=>L2.rP (fun _ _=>rfl) us hl) ?_ fun f cdv A outer s H vs Q E hr h=>?_
 ·rintro vs H Q E ⟨side,top,rfl,_⟩;rfl
 obtain ⟨side,top,rfl,hs,ht,q⟩:=h
 have hu:=hr.units0
 have hu64:=hr.units
 refine ⟨_,(aq (aN (i:=2) mJ.nd rfl (Or.inl Ux) (dj aj) rfl) (aq (dN PassesOwn.never rfl (fU (aX XJ) T.b_range (aa (aB (aG (K:=K) rfl) (aX XM) T.b_len bJ (aa (sr 0 kz3g) aj) (by trivial) (by trivial)) aj)) (bI (i:=3) mJ.nd rfl (Or.inr kz3h) rfl) (aA (cU (kj (K:=K) rfl PySem.F.plainAttrs_list PySem.F.slot_list_extend PySem.F.type_list_extend wQ (ak 2 Ux) (aa (gO (sub:=[none,some 3,some 0,some 1]) (cH (N:=["_law_side","_law_top","_law_found","_law_i"]) (sc:=au cX) (N':=["_law_j","_law_i","_law_side","_law_top"]) (by trivial)) rfl rfl rfl (fU (aX XJ) T.b_range (aa (aB (aG (K:=K) rfl) (aX XM) T.b_len bJ (aa (sr 1 kz3i) aj) (by trivial) (by trivial)) aj)) (fun C s₀ H₀ ex=>(oG 0 (by trivial) v7)) (fun C s₀ H₀ ex=>(CN (bH (iR (K:=K) rfl hu64) (aV (K:=K) rfl (iJ 2 (by trivial)) (iJ 1 (by trivial))) (aV (K:=K) rfl (iJ 3 (by trivial)) (iI 0 (by trivial))) (by walk_at "p")))) (fun C s₀ H₀ ex=>(cI (aa (iJ 1 (by trivial)) (aa (iI 0 (by trivial)) aj))))) aj))))) (aA (aD (ak 2 Ux))))),?_⟩
 walk_at "s"
 have ls:side.length<=sizeLine:=Nat.le_trans hs.1 (by decide)
 have lt1:top.length<=sizeLine:=Nat.le_trans ht.1 (by decide)
 have ht1:=ht.1
 have hs1:=hs.1
 refine ⟨by simp,fun pq npq=>?_⟩
 walk_at "s"
 refine fZ ls ?_
 walk_at "s"
 refine ⟨_,rfl,by omega,by omega,?_⟩
 refine rW (fun i U H'=>Same H H'/\PL H' pq (prs side.cps.toList top.cps.toList i)/\∃ x3,U=[some (.str side),some (.str top),some (.ref pq),x3])
  ⟨(Same.refl H).upd npq,⟨[],ao,dg.mpr rfl⟩,none,rfl⟩ ?_ ?_
 ·rintro i U H2 hi ⟨S2,PL2,x3,rfl⟩
  obtain ⟨vs,e0,hvl,hvd⟩:=PL2.len
  obtain ⟨d1,ed1,fd1⟩:=mG (z:=side) (k:=0+(i:Int)) (j:=i) (by omega) (by omega)
  walk_at "s"
  refine ⟨.inl ⟨rfl,_,SqL.of e0⟩,?_⟩
  walk_at "s"
  refine fZ lt1 ?_
  walk_at "s"
  refine ⟨_,rfl,by omega,by omega,?_⟩
  refine lW (fun j ys H'=>Same H2 H'/\DRs H' ((rE side.cps.toList top.cps.toList i j).map pD) ys) (Nat.le_trans (show _<=1000 by omega) (by decide)) ⟨Same.refl _,dg.mpr rfl⟩ (by
   rintro j ys H' ⟨_,hd⟩
   have a:=qU hd
   have b:=rF side.cps.toList top.cps.toList i j
   rw [List.length_map] at a
   omega) ?_ ?_
  ·rintro j ys H3 hj ⟨S3,hd⟩
   obtain ⟨d2,ed2,fd2⟩:=mG (z:=top) (k:=0+(j:Int)) (j:=j) (by omega) (by omega)
   walk_at "s"
   refine ⟨KeepSt.set rfl,?_⟩
   walk_at "s"
   refine pR ls fd1 ?_
   walk_at "s"
   refine pR lt1 fd2 ?_
   walk_at "s"
   refine lu (fun hk=>?_) (fun hk=>?_)
   ·have ec:side.cps.toList[i]?=top.cps.toList[j]?:=by rw [ed1,ed2,mF.mp hk]
    walk_at "s"
    refine ⟨by simp;decide,fun T nT=>⟨S3.upd nT,?_⟩⟩
    rw [pC,if_pos ec,List.map_append]
    refine km (jx (TK.new nT) _ _ hd) (uK (vR.mpr ⟨T,rfl,?_⟩))
    rw [ao];simp
   ·have ec:¬ side.cps.toList[i]?=top.cps.toList[j]?:=by
     rw [ed1,ed2]
     intro z
     exact hk (by rw [Option.some.inj z])
    refine ⟨S3,?_⟩
    rw [pC,if_neg ec,List.append_nil]
    exact hd
  ·rintro ys H3 ⟨S3,hd⟩ D hD
   have e1:upd H3 D (.lst ys) pq=some (.lst vs):=dM hD (S3 _ _ e0)
   have b:=rF side.cps.toList top.cps.toList i ((top.length:Int)).toNat
   have a:=qU hd
   have c:=rH side.cps.toList top.cps.toList i
   have d:i*top.cps.toList.length<=48*48:=Nat.mul_le_mul (by omega) (by rw [← cC];exact ht1)
   rw [List.length_map] at a
   walk_at "s"
   refine ⟨pq,D,vs,ys,rfl,rfl,e1,ao,Nat.le_trans (show _<=5000 by omega) (by decide),?_⟩
   refine ⟨over ((S2.trans S3).upd hD) npq,⟨vs ++ ys,ao,?_⟩,_,rfl⟩
   have tk:=(TK.new (H:=H3) (o:=.lst ys) hD).trans (TK.lst (o:=.lst (vs ++ ys)) e1)
   have el:((top.length:Int)).toNat=top.cps.toList.length:=by rw [← cC];omega
   rw [el] at hd
   rw [prs,List.map_append]
   exact km (jx ((TK.same S3).trans tk) _ _ hvd) (jx tk _ _ hd)
 ·rintro U H2 ⟨S2,PL2,x3,rfl⟩
  rw [show ((side.length:Int)).toNat=side.length by omega] at PL2
  walk_at "s"
  exact q pq H2 npq S2 PL2
def U3:Sp:=fun vs H Q _=>∃ (p q:Addr) (ys:List Str) (m:Int),vs=[.ref p,.ref q,.int m]/\Pur H p/\H q=some (.lst (ys.map V.str))/\ys≠[]/\ys.length<=26/\GoodS ys/\0<=m/\m<=48/\
 ∀ (z:Str) (H':Hp),Row z->Pur H' p->Chg p H H'->Q (.str z) H'
theorem BL:aJ ["_law_purse_here","_law_signs","_law_most"] ["_law_purse_here","_law_signs","_law_most"] (au ik):=⟨rfl,rfl,rfl,by trivial,rfl,by trivial,by trivial⟩
theorem pK (T:Txt K mg):pQ P w K mg base 3 "_law_row" ["_law_purse_here","_law_signs","_law_most"] U3:=by
 have aF:=aF (P:=P) (w:=w) (base:=base) T
 have lE:=lE (P:=P) (w:=w) (base:=base) T
 refine iQ T.d_law_row BL (fun _ _ _ _ _ _ us hl=>L2.rQ (fun _ _ _=>rfl) us hl) ?_ fun f cdv A outer s H vs Q E hr h=>?_
 ·rintro vs H Q E ⟨p,r,ys,m,rfl,_⟩;rfl
 obtain ⟨p,r,ys,m,rfl,hP,hr0,hne,hle,hone,m0,m1,q⟩:=h
 have hu:=hr.units0
 have hu64:=hr.units
 refine ⟨_,(aq (bM (bH (iR (K:=K) rfl hu64) (aH aF (hr.mono (by decide)) (aX kz3n) (aa (ak 0 Uy) (aa az aj)) (by trivial)) az (by walk_at "p")) (aA (aD (aH lE (hr.mono (by decide)) (aX XN) (aa (ak 0 Uy) (aa (bY bz (ak 1 XR) (dj (aa CG aj))) (aa (ak 2 XQ) aj))) (by trivial)))) bx) (aA (aD (aH lE (hr.mono (by decide)) (aX XN) (aa (ak 0 Uy) (aa (ak 1 XR) (aa (ak 2 XQ) aj))) (by trivial))))),?_⟩
 walk_at "s"
 have nrp:=Kp hP hr0
 refine ⟨p,3,rfl,hP,by omega,by omega,fun d2 H2 a2 b2 P2 C2=>?_⟩
 walk_at "s"
 have hr2:=C2.at_ hr0 nrp
 refine lu (fun h1=>?_) (fun h1=>?_)
 ·walk_at "s"
  refine ⟨by simp;decide,fun m1 n1=>?_⟩
  refine Bj (dM n1 hr2) ao (by simp;exact Nat.le_trans (show ys.length+1<=1000 by omega) (by decide)) fun m2 n2=>?_
  walk_at "s"
  refine ⟨p,m2,ys ++ [Str.ofString "."],m,rfl,(P2.new n1).new n2,by rw [ao];simp,by simp,by simp;omega,fun y hy=>?_,by omega,by omega,fun z H' hz P' C'=>q z H' hz P' ((((C2.new n1).new n2)).trans C')⟩
  rcases List.mem_append.mp hy with h | h
  ·exact hone y h
  ·rw [List.mem_singleton.mp h];exact ⟨46,by trivial,by trivial⟩
 ·walk_at "s"
  exact ⟨p,r,ys,m,rfl,P2,hr2,hne,by omega,hone,by omega,by omega,fun z H' hz P' C'=>q z H' hz P' (C2.trans C')⟩
theorem gA:aJ ["_law_side","_law_top","_law_table_here","_law_found","_law_i","_law_j"] ["_law_side","_law_top"] (au bL):=⟨rfl,rfl,rfl,by trivial,rfl,by trivial,by trivial⟩
theorem j6 (T:Txt K mg):pQ P w K mg base 2 "_law_levels" ["_law_side","_law_top"] N6:=by
 have oW:=oW (P:=P) (w:=w) (base:=base) T
 have dG:=dG (P:=P) (w:=w) (base:=base) T
 refine iQ T.d_law_levels gA (fun _ _ _ _ _ _ us hl=>L2.rP (fun _ _=>rfl) us hl) ?_ fun f cdv A outer s H vs Q E hr h=>?_
 ·rintro vs H Q E ⟨side,top,rfl,_⟩;rfl
 obtain ⟨side,top,rfl,hs,ht,q⟩:=h
 have hu:=hr.units0
 have hu64:=hr.units
 refine ⟨_,(aq (aN (i:=2) gA.nd rfl (Or.inl UL) (aH oW (hr.mono (by decide)) (aX kz3w) (aa (ak 0 XX) (aa (ak 1 XS) aj)) (by trivial)) rfl) (aq (CQ (i:=3) gA.nd rfl (Or.inl Uz) (sub:=[none]) (cH (N:=["_law_side","_law_top","_law_table_here","_law_found","_law_i","_law_j"]) (sc:=au bL) (N':=["_law_k"]) (by trivial)) rfl rfl rfl (fU (aX kz3v) T.b_range (aa (aV (K:=K) rfl (aV (K:=K) rfl (ak 2 UL) (wz lH az)) (wz lH az)) aj)) (fun C s₀ H₀ ex=>(oG 0 (by trivial) uy)) (fun C s₀ H₀ ex=>dW) (fun C s₀ H₀ ex=>(dj aj)) rfl) (aq (dN PassesOwn.never rfl (cT (K:=K) rfl (aH dG (hr.mono (by decide)) (aX kz3p) (aa (ak 0 XX) (aa (ak 1 XS) aj)) (by trivial))) (su (K:=K) rfl rfl (dq (bI (i:=4) gA.nd rfl (Or.inl UJ) rfl) (dq (bI (i:=5) gA.nd rfl (Or.inl UG) rfl) lZ))) (aA (cU (kj (K:=K) rfl PySem.F.plainAttrs_list PySem.F.slot_list_append PySem.F.type_list_append gY (aV (K:=K) rfl (ak 3 Uz) (aV (K:=K) rfl (aV (K:=K) rfl (ak 2 UL) (ak 4 UJ)) (ak 5 UG))) (aa (cI (aa (ak 4 UJ) (aa (ak 5 UG) aj))) aj))))) (aA (aD (ak 3 Uz)))))),?_⟩
 walk_at "s"
 refine ⟨side,top,rfl,hs,ht,fun t rs H1 nt fr S1 TB=>?_⟩
 have hrl:rs.length=side.length+1:=by rw [TB.len];simp [iD]
 obtain ⟨r1,a1,er1,b1⟩:=sZ TB (k:=(side.length:Int)) (i:=side.length) rfl (by omega)
 have l0:=J6 side.cps.toList top.cps.toList side.length top.length
 have l1:=yo side.cps.toList top.cps.toList side.length top.length
 have hs1:=hs.1
 walk_at "s"
 refine bD (SqL.of TB.at_) (sY (n:=side.length) (v:=.ref r1) (by simp [hrl]) (by rw [List.getElem?_map,er1];rfl)) ?_
 walk_at "s"
 refine bD (SqL.of b1) (sY (n:=top.length) (v:=.int (lt side.cps.toList top.cps.toList side.length top.length)) (by rw [List.length_map,rD]) (by rw [List.getElem?_map,yj (by omega)];rfl)) ?_
 walk_at "s"
 refine ⟨_,rfl,by omega,by omega,?_⟩
 refine lW (fun i ys H'=>Same H1 H'/\∃ rs':List Addr,ys=rs'.map V.ref/\rs'.length=i/\rs'.Nodup/\∀ r∈rs',H1 r=none/\H' r=some (.lst [])) (Nat.le_trans (show _<=1000 by omega) (by decide)) ⟨Same.refl _,[],rfl,rfl,by simp,by simp⟩ (by rintro i ys H ⟨_,zs,rfl,hl,_⟩;simp [hl]) ?_ ?_
 ·rintro i ys H2 hi ⟨S2,rs',rfl,hl,hnd,hrs⟩
  walk_at "s"
  refine ⟨KeepSt.set rfl,?_⟩
  walk_at "s"
  try with_reducible refine jz ?_
  walk_at "s"
  refine ⟨by simp,fun r nr=>⟨S2.upd nr,rs' ++ [r],by simp,by simp [hl],?_,fun r' hr'=>?_⟩⟩
  ·rw [List.nodup_append]
   exact ⟨hnd,by simp,fun a ha b hb z=>by rw [List.mem_singleton.mp hb] at z;rw [z] at ha;rw [(hrs r ha).2] at nr;cases nr⟩
  ·rcases List.mem_append.mp hr' with h | h
   ·exact ⟨(hrs r' h).1,dM nr (hrs r' h).2⟩
   ·rw [List.mem_singleton.mp h];exact ⟨S2.free nr,ao⟩
 ·rintro ys H2 ⟨S2,rs',rfl,hl,hnd,hrs⟩ D hD
  walk_at "s"
  refine ⟨side,top,rfl,hs,ht,fun q1 H3 nq1 S3 PL3=>?_⟩
  obtain ⟨vs,hv,hvl,hvd⟩:=PL3.len
  have S12:Same H1 (upd H2 D (.lst (rs'.map V.ref))):=S2.upd hD
  have HT2:HTab (upd H2 D (.lst (rs'.map V.ref))) D rs' (lev side.cps.toList top.cps.toList (lt side.cps.toList top.cps.toList side.length top.length).toNat []):=HTab.start (H1:=H1) hl hnd hrs hD
  have HT3:=HT2.same S3
  have TB3:=TB.same (S12.trans S3)
  have lrs:∀ r∈rs',∃ xs,H3 r=some (.lst xs):=fun r hr=>HT3.mem hr
  have nH1:∀ r∈rs',H1 r=none:=fun r hr=>(hrs r hr).1
  have ntr:t ∉ rs':=fun z=>by have:=nH1 t z;rw [TB.at_] at this;cases this
  have nrr:∀ r∈rs,r ∉ rs':=fun r hr z=>by have:=nH1 r z;obtain ⟨xs,e⟩:=TB.mem hr;rw [e] at this;cases this
  have nqr:q1 ∉ rs':=fun z=>by obtain ⟨xs,e⟩:=HT2.mem z;rw [e] at nq1;cases nq1
  refine .inl ⟨q1,rfl,⟨_,SqL.of hv⟩,?_⟩
  refine eZ (xs:=vs) (fun k U H'=>Out rs' H3 H'/\HTab H' D rs' (lev side.cps.toList top.cps.toList (lt side.cps.toList top.cps.toList side.length top.length).toNat ((prs side.cps.toList top.cps.toList side.length).take k))/\∃ x4 x5,U=[some (.str side),some (.str top),some (.ref t),some (.ref D),x4,x5])
   ⟨Out.refl _ _,by simpa using HT3,none,none,rfl⟩ (fun i U H' _ h=>SqL.of (h.1 _ _ nqr hv)) ?_ ?_
  ·rintro k v U H4 hk ⟨O4,HT4,x4,x5,rfl⟩
   have tk4:=TK.out O4 lrs
   have TB4:=TB3.out O4 ntr nrr
   obtain ⟨p,a,ep,rfl,ha⟩:=PL.at_ (q:=q1) (jx tk4 _ _ hvd) hk
   have hm:=List.mem_of_getElem? ep
   obtain ⟨m1,m2,m3⟩:=jt hm
   obtain ⟨v1,v2⟩:=yp (n:=top.length) (by simp [Str.length]) hm
   have m2':p.2 < top.length:=by simpa [Str.length] using m2
   obtain ⟨r5,a5,er5,b5⟩:=sZ TB4 (k:=(p.1:Int)) (i:=p.1) rfl (by omega)
   have hL:(lt side.cps.toList top.cps.toList p.1 p.2).toNat < rs'.length:=by omega
   have er6:rs'[(lt side.cps.toList top.cps.toList p.1 p.2).toNat]?=some rs'[(lt side.cps.toList top.cps.toList p.1 p.2).toNat]:=List.getElem?_eq_getElem hL
   obtain ⟨ws0,hw0⟩:=HT4.mem (List.mem_of_getElem? er6)
   refine eO (SqT.of ha) rfl ?_
   walk_at "s"
   refine bD (SqL.of TB4.at_) a5 ?_
   walk_at "s"
   refine bD (SqL.of b5) (qp (j:=p.2) rfl (by omega)) ?_
   walk_at "s"
   refine bD (SqL.of HT4.at_) (dJ v1 (v:=.ref rs'[(lt side.cps.toList top.cps.toList p.1 p.2).toNat]) (by rw [List.getElem?_map,er6];rfl)) ?_
   refine ⟨.inl ⟨rfl,_,SqL.of hw0⟩,?_⟩
   walk_at "s"
   refine ⟨by simp;decide,fun T6 nT6=>?_⟩
   walk_at "s"
   obtain ⟨ws,hw,hwl,HT5⟩:=(HT4.same ((Same.refl _).upd nT6 (o:=.tup [.int p.1,.int p.2]))).push er6 (vU (by omega)) (T:=T6) ao
   have hz:ws.length < sizeLine:=by
    have a:=rH side.cps.toList top.cps.toList side.length
    have c:side.length*top.cps.toList.length<=48*48:=Nat.mul_le_mul hs1 (by have:=ht.1;rw [cC] at this;exact this)
    have e:=List.length_filter_le (fun p':PP=>decide (lt side.cps.toList top.cps.toList p'.1 p'.2=(((lt side.cps.toList top.cps.toList p.1 p.2).toNat:Nat):Int))) ((prs side.cps.toList top.cps.toList side.length).take k)
    have f:((prs side.cps.toList top.cps.toList side.length).take k).length<=(prs side.cps.toList top.cps.toList side.length).length:=by rw [List.length_take];omega
    exact Nat.lt_of_lt_of_le (show ws.length < 5000 by omega) (by decide)
   refine gq hw hz ⟨(O4.new nT6).step (List.getElem_mem hL),?_,_,_,rfl⟩
   have et:(prs side.cps.toList top.cps.toList side.length).take (k+1)=(prs side.cps.toList top.cps.toList side.length).take k ++ [p]:=by rw [List.take_add_one,ep];rfl
   rw [et,zY (k:=(lt side.cps.toList top.cps.toList p.1 p.2).toNat) (by omega) (by omega)]
   exact HT5
  ·rintro U H4 ⟨O4,HT4,x4,x5,rfl⟩
   walk_at "s"
   have nHD:H D=none:=S1.free (S2.free hD)
   refine q D rs' H4 nHD (fun r hr=>S1.free (nH1 r hr)) (O4.same ((S1.trans S12).trans S3) fun r hr=>S1.free (nH1 r hr)) ?_
   rw [hvl,List.take_of_length_le (Nat.le_refl _)] at HT4
   exact HT4
end
local macro_rules | `(tactic| walk_at "s") => `(tactic| (with_reducible repeat (first | refine wY ?_ | walk_at "2")))
local macro_rules | `(tactic| walk_at "n") => `(tactic| (with_reducible repeat (walk_at "2")))
section
variable {P:Program} {w:World} {K:W.Frag} {mg:Str->Option Value} {base:Heap}
def Y8 (p q:Int×Int):Prop:=p.1 < q.1/\p.2 < q.2
def Ol (p q:Int×Int):Prop:=p.1 < q.1\/p.1=q.1/\p.2<=q.2
def pI (p:Int×Int):PyData:=.tuple [.int p.1,.int p.2]
def kI (p:Int×Int):List Int:=[p.1,p.2]
theorem Kq {p q:Int×Int} (h:HT.lexLt (kI q) (kI p)=false):Ol p q:=by
 unfold kI at h
 unfold Ol
 rw [HT.lexLt_cons,HT.lexLt_cons,HT.lexLt_nil_nil] at h
 by_cases e:q.1=p.1
 ·rw [if_pos e] at h
  by_cases e2:q.2=p.2
  ·omega
  ·rw [if_neg e2,decide_eq_false_iff_not] at h
   omega
 ·rw [if_neg e,decide_eq_false_iff_not] at h
  omega
theorem Af {α:Type} [DecidableEq α]:∀ {l m:List α},l.Nodup->(∀ x∈l,x∈m)->l.length=m.length->l.Perm m
 | [],m,_,_,h=>by
  have:m=[]:=List.length_eq_zero_iff.mp h.symm
  rw [this]
 | a :: l,m,nd,hs,h=>by
  rw [List.nodup_cons] at nd
  have ha:a∈m:=hs a List.mem_cons_self
  have ih:=Af (l:=l) (m:=m.erase a) nd.2 (fun x hx=>(List.mem_erase_of_ne (fun e:x=a=>nd.1 (by rw [← e];exact hx))).mpr (hs x (List.mem_cons_of_mem _ hx))) (by
   rw [List.length_erase_of_mem ha,← h];rfl)
  exact (ih.cons a).trans (List.perm_cons_erase ha).symm
theorem v9 (S P:List Nat):∀ m,((prs S P m).map cP).Pairwise Ol
 | 0=>.nil
 | m+1=>by
  rw [prs,List.map_append,List.pairwise_append]
  refine ⟨v9 S P m,?_,fun a ha b hb=>?_⟩
  ·unfold rE
   rw [List.map_map,List.pairwise_map]
   refine (List.Pairwise.filter _ List.pairwise_lt_range).imp fun {a b} h=>.inr ⟨rfl,?_⟩
   show ((a:Nat):Int)<=((b:Nat):Int)
   omega
  ·obtain ⟨p,hp,rfl⟩:=List.mem_map.mp ha
   obtain ⟨q,hq,rfl⟩:=List.mem_map.mp hb
   have:=(jt hp).1
   have:=(vQ hq).1
   left
   show ((p.1:Nat):Int) < ((q.1:Nat):Int)
   omega
theorem Ks {S P:List Nat} {m:Nat} {qs ps:List (Int×Int)} (hp:qs.Perm ps) (hs:qs.Pairwise Ol):decide (qs=(prs S P m).map cP)=decide (ps.Perm ((prs S P m).map cP)):=by
 refine decide_eq_decide.mpr ⟨fun e=>by rw [← e];exact hp.symm,fun h=>?_⟩
 refine List.Perm.eq_of_pairwise (le:=Ol) (fun a b _ _ h1 h2=>?_) hs (v9 S P m) (hp.trans h)
 unfold Ol at h1 h2
 exact Prod.ext (by omega) (by omega)
theorem Ds {ds:List PyData} (h:∀ d∈ds,∃ i j,d= .tuple [.int i,.int j]):dF ds=true↔∃ p∈ds.map ux,∃ q∈ds.map ux,Y8 p q:=by
 have ah:∀ d∈ds,∀ e∈ds,(dY d e=true↔Y8 (ux d) (ux e)):=fun d hd e he=>by
  obtain ⟨i,j,rfl⟩:=h d hd
  obtain ⟨k,l,rfl⟩:=h e he
  show (decide (i < k) && decide (j < l))=true↔i < k/\j < l
  rw [Bool.and_eq_true,decide_eq_true_eq,decide_eq_true_eq]
 unfold dF
 rw [List.any_eq_true]
 constructor
 ·rintro ⟨i,hi,h1⟩
  have hi':=List.mem_range.mp hi
  rw [List.any_eq_true] at h1
  obtain ⟨e,he,h2⟩:=h1
  have e1:ds.getD i .none=ds[i]:=by rw [List.getD_eq_getElem?_getD,List.getElem?_eq_getElem hi'];rfl
  rw [e1] at h2
  have m1:=List.mem_of_mem_take he
  have m2:ds[i]∈ds:=List.getElem_mem hi'
  unfold pZ at h2
  rw [Bool.or_eq_true,ah _ m1 _ m2,ah _ m2 _ m1] at h2
  rcases h2 with h2 | h2
  ·exact ⟨_,List.mem_map.mpr ⟨_,m1,rfl⟩,_,List.mem_map.mpr ⟨_,m2,rfl⟩,h2⟩
  ·exact ⟨_,List.mem_map.mpr ⟨_,m2,rfl⟩,_,List.mem_map.mpr ⟨_,m1,rfl⟩,h2⟩
 ·rintro ⟨p,hp,q,hq,h2⟩
  obtain ⟨d,hd,rfl⟩:=List.mem_map.mp hp
  obtain ⟨e,he,rfl⟩:=List.mem_map.mp hq
  obtain ⟨i,hi,ei⟩:=List.getElem_of_mem hd
  obtain ⟨j,hj,ej⟩:=List.getElem_of_mem he
  have gi:ds.getD i .none=d:=by rw [List.getD_eq_getElem?_getD,List.getElem?_eq_getElem hi];exact ei
  have gj:ds.getD j .none=e:=by rw [List.getD_eq_getElem?_getD,List.getElem?_eq_getElem hj];exact ej
  rcases Nat.lt_trichotomy i j with hij | hij | hij
  ·refine ⟨j,List.mem_range.mpr hj,?_⟩
   rw [List.any_eq_true]
   refine ⟨d,List.mem_of_getElem? (i:=i) (by rw [List.getElem?_take_of_lt hij,List.getElem?_eq_getElem hi,ei]),?_⟩
   rw [gj]
   unfold pZ
   rw [(ah d hd e he).mpr h2,Bool.true_or]
  ·subst hij
   rw [gi] at gj
   subst gj
   unfold Y8 at h2
   omega
  ·refine ⟨i,List.mem_range.mpr hi,?_⟩
   rw [List.any_eq_true]
   refine ⟨e,List.mem_of_getElem? (i:=j) (by rw [List.getElem?_take_of_lt hij,List.getElem?_eq_getElem hj,ej]),?_⟩
   rw [gi]
   unfold pZ
   rw [(ah d hd e he).mpr h2,Bool.or_true]
def wg:PyData->Bool
 | .list es=>!es.isEmpty && (es.all cG && !dF es)
 | _=>false
theorem Ku {z y:Str} {p:Int×Int} (h:b7 z y (pI p)=true):p∈(prs z.cps.toList y.cps.toList z.length).map cP:=by
 have h':jl z y p.1 p.2=true:=h
 unfold jl at h'
 simp only [Bool.and_eq_true,decide_eq_true_eq] at h'
 obtain ⟨⟨⟨⟨h1,h2⟩,h3⟩,h4⟩,h5⟩:=h'
 have l2:y.length=y.cps.toList.length:=cC y
 refine List.mem_map.mpr ⟨(p.1.toNat,p.2.toNat),v4 (by show p.1.toNat < z.length;omega) (by show p.2.toNat < y.cps.toList.length;omega) h5,?_⟩
 exact Prod.ext (by show ((p.1.toNat:Nat):Int)=p.1;omega) (by show ((p.2.toNat:Nat):Int)=p.2;omega)
theorem Kv {z y:Str} {p:PP} (h:p∈prs z.cps.toList y.cps.toList z.length):b7 z y (pD p)=true:=by
 have l1:z.length=z.cps.toList.length:=cC z
 have:=jt h
 exact z9 ⟨by omega,this.2.1,this.2.2⟩
theorem xr (z y:Str) (hs:List PyData):fH z y (.list hs)=(hs.all wg && decide ((fl hs).Perm ((prs z.cps.toList y.cps.toList z.length).map cP))):=by
 rw [Bool.eq_iff_iff]
 show (hs.all (iH z y) && (nG z y hs && !hs.any fun h=>dF (tG h)))=true↔_
 unfold nG
 rw [Bool.and_eq_true,Bool.and_eq_true,Bool.and_eq_true,Bool.and_eq_true,decide_eq_true_eq,decide_eq_true_eq,decide_eq_true_eq,List.all_eq_true,List.all_eq_true,Bool.not_eq_true',List.any_eq_false]
 constructor
 ·rintro ⟨h1,⟨h2,h3⟩,h4⟩
  have g:∀ h∈hs,∃ es,h= .list es/\es≠[]/\∀ d∈es,∃ p:Int×Int,d=pI p/\b7 z y (pI p)=true:=fun h hh=>by
   have:=h1 h hh
   cases h with
   | list es=>
    have this:(!es.isEmpty && es.all (b7 z y))=true:=this
    rw [Bool.and_eq_true,List.all_eq_true] at this
    refine ⟨es,rfl,(fun e=>by rw [e] at this;cases this.1),fun d hd=>?_⟩
    obtain ⟨i,j,rfl⟩:=kW (this.2 d hd)
    exact ⟨(i,j),rfl,this.2 _ hd⟩
   | _=>cases this
  refine ⟨fun h hh=>?_,Af h2 (fun p hp=>?_) (by rw [h3,List.length_map])⟩
  ·have hn:=h4 h hh
   obtain ⟨es,rfl,n0,hp⟩:=g h hh
   show (!es.isEmpty && (es.all cG && !dF es))=true
   rw [Bool.and_eq_true,Bool.and_eq_true,List.all_eq_true,Bool.not_eq_true',Bool.not_eq_true',List.isEmpty_eq_false_iff]
   refine ⟨n0,fun d hd=>?_,Bool.not_eq_true _ ▸ hn⟩
   obtain ⟨p,rfl,_⟩:=hp d hd
   rfl
  ·unfold fl at hp
   obtain ⟨l,hl,hp⟩:=List.mem_flatten.mp hp
   obtain ⟨h,hh,rfl⟩:=List.mem_map.mp hl
   obtain ⟨es,rfl,_,hq⟩:=g h hh
   obtain ⟨d,hd,rfl⟩:=List.mem_map.mp hp
   obtain ⟨p,rfl,hm⟩:=hq d hd
   exact Ku hm
 ·rintro ⟨h1,h2⟩
  have g:∀ h∈hs,∃ es,h= .list es/\es≠[]/\(∀ d∈es,∃ p:Int×Int,d=pI p)/\dF es=false:=fun h hh=>by
   have:=h1 h hh
   cases h with
   | list es=>
    have this:(!es.isEmpty && (es.all cG && !dF es))=true:=this
    rw [Bool.and_eq_true,Bool.and_eq_true,List.all_eq_true,Bool.not_eq_true',Bool.not_eq_true'] at this
    refine ⟨es,rfl,(fun e=>by rw [e] at this;cases this.1),fun d hd=>?_,this.2.2⟩
    obtain ⟨i,j,rfl⟩:=pJ (this.2.1 d hd)
    exact ⟨(i,j),rfl⟩
   | _=>cases this
  have nd:(fl hs).Nodup:=h2.nodup_iff.mpr (List.Pairwise.map _ (fun a b hab e=>hab (Kc e)) (BK _ _ _))
  refine ⟨fun h hh=>?_,⟨nd,by rw [h2.length_eq,List.length_map]⟩,fun h hh=>?_⟩
  ·obtain ⟨es,rfl,n0,hp,_⟩:=g h hh
   show (!es.isEmpty && es.all (b7 z y))=true
   rw [Bool.and_eq_true,List.all_eq_true,Bool.not_eq_true',List.isEmpty_eq_false_iff]
   refine ⟨n0,fun d hd=>?_⟩
   obtain ⟨p,rfl⟩:=hp d hd
   have:p∈fl hs:=List.mem_flatten.mpr ⟨_,List.mem_map.mpr ⟨_,hh,rfl⟩,List.mem_map.mpr ⟨_,hd,rfl⟩⟩
   obtain ⟨q,hq,rfl⟩:=List.mem_map.mp (h2.mem_iff.mp this)
   exact Kv hq
  ·obtain ⟨es,rfl,_,_,hn⟩:=g h hh
   show ¬ dF es=true
   rw [hn];decide
theorem tL:(["_law_pair_here"]:List Str).Nodup:=by trivial
theorem Yc:bZ fB "isinstance":=by trivial
theorem kz4j:bZ fB "bool":=by trivial
theorem Yd:bG fB "_law_found":=by trivial
theorem kz4l:bZ fB "int":=by trivial
theorem kz4m:bZ cB "sorted":=by trivial
theorem kz4n:bG cB "_law_heap":=by trivial
theorem U4:bG cB "_law_less":=by trivial
theorem kz4p:bG cB "_law_i":=by trivial
theorem Om:bG cB "_law_least":=by trivial
theorem kz4r:bZ cB "min":=by trivial
theorem yF:aJ ["_law_found"] ["_law_found"] (au fB):=⟨rfl,rfl,rfl,by trivial,rfl,by trivial,by trivial⟩
theorem dR (T:Txt K mg):pQ P w K mg base 1 "_law_whole" ["_law_found"] Qh:=by
 refine iQ T.d_law_whole yF (fun _ _ _ _ _ _ us hl=>L2.wu (fun _=>rfl) us hl) ?_ fun f cdv A outer s H vs Q E hr h=>?_
 ·rintro vs H Q E ⟨v,d,rfl,_⟩;rfl
 obtain ⟨v,d,rfl,hd,q⟩:=h
 have hu:=hr.units0
 have hu64:=hr.units
 refine ⟨_,(aA (aD (pU (aB (b8 (K:=K) rfl) (aX Yc) T.b_isinstance aR (aa (ak 0 Yd) (aa (oE (aX kz4l) T.b_int Ik (by trivial) (by trivial)) aj)) (by trivial) (by trivial)) (w6 (IK (aB (b8 (K:=K) rfl) (aX Yc) T.b_isinstance aR (aa (ak 0 Yd) (aa (oE (aX kz4j) T.b_bool xW (by trivial) (by trivial)) aj)) (by trivial) (by trivial))))))),?_⟩
 walk_at "s"
 cases d with
 | int n=>
  refine bV (dD hd) rfl ?_
  walk_at "s"
  refine bV (dD hd) rfl ?_
  walk_at "s"
  exact q
 | bool n=>
  refine bV (b:=true) (dD hd) rfl ?_
  walk_at "s"
  refine bV (b:=true) (dD hd) rfl ?_
  walk_at "s"
  exact q
 | none=>
  refine bV (dD hd) rfl ?_
  walk_at "s"
  exact q
 | str n=>
  refine bV (dD hd) rfl ?_
  walk_at "s"
  exact q
 | list n=>
  refine bV (dD hd) rfl ?_
  walk_at "s"
  exact q
 | tuple n=>
  refine bV (dD hd) rfl ?_
  walk_at "s"
  exact q
 | dict n=>
  refine bV (dD hd) rfl ?_
  walk_at "s"
  exact q
def lN (H:Hp) (a:Addr):Int×Int:=match H a with
 | some (.tup [.int i,.int j])=>(i,j)
 | _=>(0,0)
def PrA (H:Hp) (a:Addr):Prop:=∃ i j:Int,H a=some (.tup [.int i,.int j])
theorem qC {H:Hp} {a:Addr} {i j:Int} (h:H a=some (.tup [.int i,.int j])):lN H a=(i,j):=by unfold lN;rw [h]
theorem PrA.at_ {H:Hp} {a:Addr} (h:PrA H a):H a=some (.tup ((kI (lN H a)).map V.int)):=by
 obtain ⟨i,j,e⟩:=h
 rw [qC e,e];rfl
theorem PrA.at2 {H:Hp} {a:Addr} (h:PrA H a):H a=some (.tup [.int (lN H a).1,.int (lN H a).2]):=h.at_
theorem PrA.same {H H':Hp} {a:Addr} (s:Same H H') (h:PrA H a):PrA H' a:=by
 obtain ⟨i,j,e⟩:=h
 exact ⟨i,j,s _ _ e⟩
theorem oX {H H':Hp} {a:Addr} (s:Same H H') (h:PrA H a):lN H' a=lN H a:=by
 obtain ⟨i,j,e⟩:=h
 rw [qC e,qC (s _ _ e)]
def yP (p:Int×Int):Int×Int:=(p.1,0 - p.2)
theorem Ye {p q:Int×Int} (h:Ol (yP p) (yP q)):p.1 < q.1\/p.1=q.1/\q.2<=p.2:=by
 unfold Ol yP at h
 simp only at h
 omega
theorem Kw {H:Hp} {d:PyData} {v:V} (hd:∃ i j,d= .tuple [.int i,.int j]) (h:RD H d v):∃ a,v= .ref a/\PrA H a/\lN H a=ux d:=by
 obtain ⟨i,j,rfl⟩:=hd
 obtain ⟨a,rfl,e⟩:=iG.mp h
 exact ⟨a,rfl,⟨i,j,e⟩,qC e⟩
def Ky:Sp:=fun vs H Q _=>∃ (a:Addr) (us:List V) (ds:List PyData),vs=[.ref a]/\H a=some (.lst us)/\RDs H ds us/\ds.length<=5000/\(∀ d∈ds,∃ i j,d= .tuple [.int i,.int j])/\(∀ p∈ds.map ux,p.2<=1000)/\∀ H',Same H H'->Q (.bl (!dF ds)) H'
theorem fK:aJ ["_law_heap","_law_least","_law_i","_law_less"] ["_law_heap"] (au cB):=⟨rfl,rfl,rfl,by trivial,rfl,by trivial,by trivial⟩
theorem lO (T:Txt K mg):pQ P w K mg base 1 "_law_is_heap" ["_law_heap"] Ky:=by
 refine iQ T.d_law_is_heap fK (fun _ _ _ _ _ _ us hl=>L2.wu (fun _=>rfl) us hl) ?_ fun f cdv A outer s H vs Q E hr h=>?_
 ·rintro vs H Q E ⟨a,us,ds,rfl,_⟩;rfl
 obtain ⟨a,us,ds,rfl,ha,hR,h5,hp,hj,q⟩:=h
 have hu:=hr.units0
 have hu64:=hr.units
 refine ⟨_,(aq (aN (i:=1) fK.nd rfl (Or.inl Om) (bY Hb az az) rfl) (aq (dN PassesOwn.never rfl (cT (K:=K) rfl (aB rB (aX kz4m) T.b_sorted wX (aa (gO (sub:=[none]) (cH (N:=["_law_heap","_law_least","_law_i","_law_less"]) (sc:=au cB) (N':=["_law_pair_here"]) (by trivial)) rfl rfl rfl (cT (K:=K) rfl (ak 0 kz4n)) (fun C s₀ H₀ ex=>(oG 0 (by trivial) tL)) (fun C s₀ H₀ ex=>dW) (fun C s₀ H₀ ex=>(cI (aa (aV (K:=K) rfl (iI 0 (by trivial)) az) (aa (bY lG az (aV (K:=K) rfl (iI 0 (by trivial)) az)) aj))))) aj) (by trivial) (by trivial))) (su (K:=K) rfl rfl (dq (bI (i:=2) fK.nd rfl (Or.inl kz4p) rfl) (dq (bI (i:=3) fK.nd rfl (Or.inl U4) rfl) lZ))) (aq (bM (bH uU (bY lG az (ak 3 U4)) (ak 1 Om) (by walk_at "p")) (aA (aD iw)) bx) (aA (aN (i:=1) fK.nd rfl (Or.inl Om) (aB (FP rfl) (aX kz4r) T.b_min RC (aa (ak 1 Om) (aa (bY lG az (ak 3 U4)) aj)) (by trivial) (by trivial)) rfl)))) (aA (aD iw)))),?_⟩
 walk_at "s"
 have hl:=bB hR
 have hz:us.length<=sizeLine:=Nat.le_trans (show us.length<=5000 by omega) (by decide)
 refine .inl ⟨a,rfl,⟨_,SqL.of ha⟩,?_⟩
 refine eG (xs:=us) (fun i ys H'=>Same H H'/\∃ as:List Addr,ys=as.map V.ref/\as.length=i/\(∀ b∈as,PrA H' b)/\as.map (lN H')=(ds.take i).map fun d=>yP (ux d)) hz ⟨Same.refl _,[],rfl,rfl,by simp,rfl⟩ ?_ ?_ ?_ ?_
 ·rintro i ys H' ⟨_,as,rfl,h,_⟩
  simp [h]
 ·rintro i ys H' ⟨S1,_⟩
  exact SqL.of (S1 _ _ ha)
 ·rintro i ys H1 x hx ⟨S1,as,rfl,la,pa,ka⟩
  obtain ⟨d,e1,e2⟩:=fG hR hx
  obtain ⟨b,rfl,pb,kb⟩:=Kw (hp d (List.mem_of_getElem? e1)) e2
  have hb:=(pb.same S1).at2
  rw [oX S1 pb,kb] at hb
  walk_at "s"
  refine ⟨KeepSt.set rfl,?_⟩
  walk_at "s"
  try with_reducible refine jz ?_
  walk_at "s"
  refine Bv rfl fun T nT=>?_
  have S2:=(Same.refl H1).upd (o:=.tup [.int (ux d).1,.int (0 - (ux d).2)]) nT
  refine ⟨S1.trans S2,as ++ [T],by simp,by simp [la],fun c hc=>?_,?_⟩
  ·rcases List.mem_append.mp hc with h | h
   ·exact (pa c h).same S2
   ·rw [List.mem_singleton.mp h];exact ⟨_,_,ao⟩
  ·rw [List.map_append,List.take_add_one,e1,List.map_append,← ka]
   congr 1
   ·exact List.map_congr_left fun c hc=>oX S2 (pa c hc)
   ·show [lN _ T]=[yP (ux d)]
    rw [qC ao];rfl
 ·rintro ys H1 ⟨S1,as,rfl,la,pa,ka⟩ D nD
  rw [hl,List.take_length] at ka
  have S2:=S1.upd (o:=.lst (as.map V.ref)) nD
  have pa2:∀ b∈as,PrA (upd H1 D (.lst (as.map V.ref))) b:=fun b hb=>(pa b hb).same ((Same.refl H1).upd nD)
  walk_at "s"
  refine zR (fun b=>kI (lN (upd H1 D (.lst (as.map V.ref))) b)) ao (by omega) (fun b hb=>⟨(pa2 b hb).at_,by simp [kI]⟩) fun m bs H2 nm S3 hm pm so=>?_
  have ka2:bs.map (lN H2)=bs.map (lN H1):=List.map_congr_left fun b hb=>oX (((Same.refl H1).upd nD).trans S3) (pa b (pm.mem_iff.mp hb))
  have pb:∀ b∈bs,PrA H2 b:=fun b hb=>(pa2 b (pm.mem_iff.mp hb)).same S3
  have hq:∃ qs:List (Int×Int),bs.map (lN H2)=qs.map yP/\qs.Perm (ds.map ux)/\qs.Pairwise fun p q=>p.1 < q.1\/p.1=q.1/\q.2<=p.2:=by
   have p1:(bs.map (lN H2)).Perm ((ds.map ux).map yP):=by
    rw [ka2,List.map_map]
    exact ka ▸ pm.map _
   have inv:∀ l:List (Int×Int),l=(l.map yP).map yP:=fun l=>by
    rw [List.map_map]
    refine (List.map_id l).symm.trans (List.map_congr_left fun p _=>?_)
    show p=(p.1,0 - (0 - p.2))
    exact Prod.ext rfl (by show p.2=0 - (0 - p.2);omega)
   refine ⟨(bs.map (lN H2)).map yP,inv _,?_,?_⟩
   ·have:=p1.map yP
    rwa [← inv] at this
   ·rw [List.map_map,List.pairwise_map]
    refine so.imp_of_mem fun {b c} hb hc h=>?_
    have h2:=Kq h
    rw [← oX S3 (pa2 b (pm.mem_iff.mp hb)),← oX S3 (pa2 c (pm.mem_iff.mp hc))] at h2
    refine Ye (p:=yP (lN H2 b)) (q:=yP (lN H2 c)) ?_
    have i2:∀ p:Int×Int,yP (yP p)=p:=fun p=>Prod.ext rfl (by show 0 - (0 - p.2)=p.2;omega)
    rw [i2,i2];exact h2
  obtain ⟨qs,hq1,hq2,hq3⟩:=hq
  have S4:=S2.trans S3
  have lq:qs.length=bs.length:=by have:=congrArg List.length hq1;simpa using this.symm
  refine .inl ⟨m,rfl,⟨_,SqL.of hm⟩,?_⟩
  refine eZ (xs:=bs.map V.ref) (fun k U H'=>H'=H2/\∃ (le:Int) (x2 x3:Option V),U=[some (.ref a),some (.int le),x2,x3]/\le<=1000000000/\(∀ p∈qs.take k,le<=p.2)/\(le=1000000000\/∃ p∈qs.take k,p.2=le)/\∀ p∈qs.take k,∀ p'∈qs.take k,¬ Y8 p p')
   ⟨rfl,1000000000,_,_,rfl,by omega,by simp,.inl rfl,by simp⟩ (fun i U H' _ h=>by rw [h.1];exact SqL.of hm) ?_ ?_
  ·rintro k x U H3 hx ⟨rfl,le,x2,x3,rfl,l1,l2,l3,l4⟩
   rw [List.getElem?_map] at hx
   obtain ⟨b,eb,rfl⟩:=Option.map_eq_some_iff.mp hx
   have hb:=(pb b (List.mem_of_getElem? eb)).at2
   have eq:qs[k]?=some (yP (lN H3 b)):=by
    have:=congrArg (fun l=>l[k]?) hq1
    simp only [List.getElem?_map,eb,Option.map_some] at this
    obtain ⟨p,e1,e2⟩:=Option.map_eq_some_iff.mp this.symm
    rw [e1,← e2]
    exact congrArg some (Prod.ext rfl (by show p.2=0 - (0 - p.2);omega))
   have hk:k < qs.length:=(List.getElem?_eq_some_iff.mp eq).1
   have tk:qs.take (k+1)=qs.take k ++ [yP (lN H3 b)]:=by rw [List.take_add_one,eq];rfl
   have bef:∀ p∈qs.take k,p.1 < (lN H3 b).1\/p.1=(lN H3 b).1/\0 - (lN H3 b).2<=p.2:=fun p hp'=>by
    have:qs=qs.take k ++ yP (lN H3 b) :: qs.drop (k+1):=by
     have e:=(List.getElem?_eq_some_iff.mp eq).2
     rw [← e,List.getElem_cons_drop,List.take_append_drop]
    rw [this,List.pairwise_append] at hq3
    exact hq3.2.2 p hp' _ List.mem_cons_self
   have qj:0 - (lN H3 b).2<=1000:=hj _ (hq2.mem_iff.mp (List.mem_of_getElem? eq))
   refine eO (SqT.of hb) rfl ?_
   walk_at "s"
   refine lu (fun h=>?_) (fun h=>?_)
   ·walk_at "s"
    have:dF ds=true:=by
     refine (Ds hp).mpr ?_
     rcases l3 with l3 | ⟨p,hp',e⟩
     ·omega
     ·refine ⟨p,hq2.mem_iff.mp (List.mem_of_mem_take hp'),_,hq2.mem_iff.mp (List.mem_of_getElem? eq),?_⟩
      have:=bef p hp'
      exact ⟨by show p.1 < (lN H3 b).1;omega,by show p.2 < 0 - (lN H3 b).2;omega⟩
    rw [this] at q
    exact q _ S4
   ·walk_at "s"
    refine ⟨rfl,_,_,_,rfl,?_,?_,?_,?_⟩
    ·split <;> omega
    ·rw [tk]
     intro p hp'
     rcases List.mem_append.mp hp' with h1 | h1
     ·have:=l2 p h1
      split <;> omega
     ·rw [List.mem_singleton.mp h1]
      show _<=0 - (lN H3 b).2
      split <;> omega
    ·by_cases h1:0 - (lN H3 b).2 < le
     ·rw [if_pos h1]
      exact .inr ⟨_,by rw [tk];exact List.mem_append_right _ (List.mem_singleton.mpr rfl),rfl⟩
     ·rw [if_neg h1]
      rcases l3 with l3 | ⟨p,hp',e⟩
      ·exact .inl l3
      ·exact .inr ⟨p,by rw [tk];exact List.mem_append_left _ hp',e⟩
    ·rw [tk]
     intro p hp' p' hp2 ah
     rcases List.mem_append.mp hp' with h1 | h1 <;> rcases List.mem_append.mp hp2 with h2 | h2
     ·exact l4 p h1 p' h2 ah
     ·rw [List.mem_singleton.mp h2] at ah
      have:=l2 p h1
      have a2:p.2 < 0 - (lN H3 b).2:=ah.2
      omega
     ·rw [List.mem_singleton.mp h1] at ah
      have:=bef p' h2
      have a2:(lN H3 b).1 < p'.1:=ah.1
      omega
     ·rw [List.mem_singleton.mp h1,List.mem_singleton.mp h2] at ah
      have:=ah.1
      omega
  ·rintro U H3 ⟨rfl,le,x2,x3,rfl,l1,l2,l3,l4⟩
   walk_at "s"
   have:dF ds=false:=by
    rw [Bool.eq_false_iff]
    intro h
    obtain ⟨p,hp1,p',hp2,ah⟩:=(Ds hp).mp h
    rw [List.length_map,← lq,List.take_length] at l4
    exact l4 p (hq2.mem_iff.mpr hp1) p' (hq2.mem_iff.mpr hp2) ah
   rw [this] at q
   exact q _ S4
theorem kz4s:bZ aL "sorted":=by trivial
theorem U5:bG aL "_law_found":=by trivial
theorem kz4u:bZ aL "_law_pairs":=by trivial
theorem kz4v:bG aL "_law_top":=by trivial
theorem kz4w:bG aL "_law_side":=by trivial
theorem Yg:bG aL "_law_thing":=by trivial
theorem Gf:bG aL "_law_heap":=by trivial
theorem kz4z:bZ aL "_law_is_heap":=by trivial
theorem Kz:bG aL "_law_pair_here":=by trivial
theorem Yh:bZ aL "_law_whole":=by trivial
theorem kz52:bZ aL "len":=by trivial
theorem U6:bZ aL "isinstance":=by trivial
theorem kz54:bZ aL "tuple":=by trivial
theorem Yi:bZ aL "list":=by trivial
theorem PrA.keep {H H':Hp} {a:Addr} (t:TK H H') (h:PrA H a):PrA H' a:=by
 obtain ⟨i,j,e⟩:=h
 exact ⟨i,j,t _ _ e⟩
theorem KC {H H':Hp} {a:Addr} (t:TK H H') (h:PrA H a):lN H' a=lN H a:=by
 obtain ⟨i,j,e⟩:=h
 rw [qC e,qC (t _ _ e)]
theorem tM {H H':Hp} {as:List Addr} (t:TK H H') (h:∀ a∈as,PrA H a):as.map (lN H')=as.map (lN H):=List.map_congr_left fun a ha=>KC t (h a ha)
theorem Dt {H:Hp}:∀ {ds:List PyData} {ws:List V},(∀ d∈ds,∃ i j,d= .tuple [.int i,.int j])->RDs H ds ws->∃ bs:List Addr,ws=bs.map V.ref/\(∀ b∈bs,PrA H b)/\bs.map (lN H)=ds.map ux
 | [],ws,_,h=>by
  rw [aU] at h
  exact ⟨[],h,by simp,rfl⟩
 | d :: ds,ws,hp,h=>by
  rw [cZ] at h
  obtain ⟨v,r,rfl,h1,h2⟩:=h
  obtain ⟨bs,rfl,h3,h4⟩:=Dt (fun x hx=>hp x (List.mem_cons_of_mem _ hx)) h2
  obtain ⟨b,rfl,h5,h6⟩:=Kw (hp d List.mem_cons_self) h1
  refine ⟨b :: bs,rfl,fun c hc=>?_,by rw [List.map_cons,List.map_cons,h4,h6]⟩
  rcases List.mem_cons.mp hc with rfl | hc
  ·exact h5
  ·exact h3 c hc
theorem Du {H:Hp}:∀ {bs:List Addr},(∀ b∈bs,PrA H b)->DRs H ((bs.map (lN H)).map pI) (bs.map V.ref)
 | [],_=>dg.mpr rfl
 | b :: bs,h=>du.mpr ⟨_,_,rfl,vz.mpr ⟨b,_,rfl,(h b List.mem_cons_self).at_,zu (kI (lN H b))⟩,Du fun c hc=>h c (List.mem_cons_of_mem _ hc)⟩
mutual
theorem xu {H:Hp}:∀ (d:PyData) (v:V),d.canLay0=true->RD H d v->DR H d v
 | .none,_,_,h=>by rw [RD] at h;rw [DR];exact h
 | .bool _,_,_,h=>by rw [RD] at h;rw [DR];exact h
 | .int _,_,_,h=>by rw [RD] at h;rw [DR];exact h
 | .str _,_,_,h=>by rw [RD] at h;rw [DR];exact h
 | .list ds,_,c,h=>by
  obtain ⟨a,vs,rfl,e,r⟩:=aO.mp h
  rw [PyData.canLay0] at c
  exact o4.mpr ⟨a,vs,rfl,e,uP ds vs c r⟩
 | .tuple ds,_,c,h=>by
  obtain ⟨a,vs,rfl,e,r⟩:=cJ.mp h
  rw [PyData.canLay0] at c
  exact vz.mpr ⟨a,vs,rfl,e,uP ds vs c r⟩
 | .dict _,_,c,_=>by rw [PyData.canLay0] at c;cases c
theorem uP {H:Hp}:∀ (ds:List PyData) (vs:List V),PyData.canLayAll0 ds=true->RDs H ds vs->DRs H ds vs
 | [],_,_,h=>by rw [RDs] at h;rw [DRs];exact h
 | d :: ds,_,c,h=>by
  rw [RDs] at h
  obtain ⟨v,r,rfl,h1,h2⟩:=h
  rw [PyData.canLayAll0,Bool.and_eq_true] at c
  rw [DRs]
  exact ⟨v,r,rfl,xu d v c.1 h1,uP ds r c.2 h2⟩
end
theorem U7:∀ ps qs:List (Int×Int),PyData.eqv (.list (ps.map pI)) (.list (qs.map pI))=decide (ps=qs):=by
 have key:∀ ps qs:List (Int×Int),PyData.eqvAll (ps.map pI) (qs.map pI)=decide (ps=qs):=by
  intro ps
  induction ps with
  | nil=>intro qs;cases qs <;> simp [PyData.eqvAll]
  | cons p ps ih=>
   intro qs
   cases qs with
   | nil=>simp [PyData.eqvAll]
   | cons q qs=>
    rw [List.map_cons,List.map_cons,PyData.eqvAll,ih qs]
    obtain ⟨p1,p2⟩:=p
    obtain ⟨q1,q2⟩:=q
    by_cases h1:p1=q1
    ·by_cases h2:p2=q2
     ·by_cases h3:ps=qs
      ·simp [pI,PyData.eqv,PyData.eqvAll,h1,h2,h3]
      ·simp [pI,PyData.eqv,PyData.eqvAll,h1,h2,h3]
     ·simp [pI,PyData.eqv,PyData.eqvAll,h1,h2]
    ·simp [pI,PyData.eqv,PyData.eqvAll,h1]
 intro ps qs
 rw [PyData.eqv]
 exact key ps qs
theorem Dv (es:List PyData):PyData.eqv (.list es) (.list [])=es.isEmpty:=by
 cases es <;> simp [PyData.eqv,PyData.eqvAll]
theorem xx (ps:List (Int×Int)):PySem.SeqAt.shaped (.list (ps.map pI))=true:=mq (n:=2) (vC (n:=1) fun d hd=>by
 obtain ⟨p,_,rfl⟩:=List.mem_map.mp hd
 exact o5 (n:=0) fun e he=>by
  simp only [List.mem_cons,List.mem_nil_iff,or_false] at he
  rcases he with rfl | rfl <;> exact De _) (by omega)
structure Yj (d:PyData):Prop where
 ly:∀ hs,d= .list hs->∀ h∈hs,PySem.SeqAt.shaped h=true
 jb:∀ hs,d= .list hs->∀ h∈hs,∀ es,h= .list es->∀ i j,PyData.tuple [.int i,.int j]∈es->j<=1000
def KD:Sp:=fun vs H Q _=>∃ (z y:Str) (v:V) (d:PyData),vs=[.str z,.str y,v]/\Row z/\Row y/\RD H d v/\Uk d/\Yj d/\∀ H',Same H H'->Q (.bl (fH z y d)) H'
theorem uQ {z y:Str} {hs:List PyData} {h:PyData} (hm:h∈hs) (hg:wg h=false):fH z y (.list hs)=false:=by
 rw [xr]
 have:hs.all wg=false:=by
  rw [Bool.eq_false_iff]
  intro e
  have:=List.all_eq_true.mp e h hm
  rw [hg] at this
  cases this
 rw [this,Bool.false_and]
theorem fW:aJ ["_law_side","_law_top","_law_thing","_law_found","_law_heap","_law_pair_here"] ["_law_side","_law_top","_law_thing"] (au aL):=⟨rfl,rfl,rfl,by trivial,rfl,by trivial,by trivial⟩
theorem jY (T:Txt K mg):pQ P w K mg base 2 "_law_are_heaps" ["_law_side","_law_top","_law_thing"] KD:=by
 have lO:=lO (P:=P) (w:=w) (base:=base) T
 have dR:=dR (P:=P) (w:=w) (base:=base) T
 have dG:=dG (P:=P) (w:=w) (base:=base) T
 refine iQ T.d_law_are_heaps fW (fun _ _ _ _ _ _ us hl=>L2.rQ (fun _ _ _=>rfl) us hl) ?_ fun f cdv A outer s H vs Q E hr h=>?_
 ·rintro vs H Q E ⟨z,y,v,d,rfl,_⟩;rfl
 obtain ⟨z,y,v,d,rfl,hz,hy,hd,hB,hL,q⟩:=h
 have hu:=hr.units0
 have hu64:=hr.units
 refine ⟨_,(aq (bM (bN (bO (aB (b8 (K:=K) rfl) (aX U6) T.b_isinstance aR (aa (ak 2 Yg) (aa (oE (aX Yi) T.b_list gC (by trivial) (by trivial)) aj)) (by trivial) (by trivial)))) (aA (aD iw)) bx) (aq (aN (i:=3) fW.nd rfl (Or.inl U5) (dj aj) rfl) (aq (dN PassesOwn.never rfl (cT (K:=K) rfl (ak 2 Yg)) (bI (i:=4) fW.nd rfl (Or.inl Gf) rfl) (aq (bM (iK (gn (bN (bO (aB (b8 (K:=K) rfl) (aX U6) T.b_isinstance aR (aa (ak 4 Gf) (aa (oE (aX Yi) T.b_list gC (by trivial) (by trivial)) aj)) (by trivial) (by trivial)))) (gf (bH (fj (K:=K) rfl hu64) (ak 4 Gf) (dj aj) (by walk_at "p"))))) (aA (aD iw)) bx) (aq (dN PassesOwn.never rfl (cT (K:=K) rfl (ak 4 Gf)) (bI (i:=5) fW.nd rfl (Or.inl Kz) rfl) (aA (bM (iK (gn (bN (bO (aB (b8 (K:=K) rfl) (aX U6) T.b_isinstance aR (aa (ak 5 Kz) (aa (oE (aX kz54) T.b_tuple oA (by trivial) (by trivial)) aj)) (by trivial) (by trivial)))) (gn (bH (my (K:=K) rfl hu64) (aB (aG (K:=K) rfl) (aX kz52) T.b_len bJ (aa (ak 5 Kz) aj) (by trivial) (by trivial)) az (by walk_at "p")) (gn (bN (bO (aH dR (hr.mono (by decide)) (aX Yh) (aa (aV (K:=K) rfl (ak 5 Kz) az) aj) (by trivial)))) (gf (bN (bO (aH dR (hr.mono (by decide)) (aX Yh) (aa (aV (K:=K) rfl (ak 5 Kz) az) aj) (by trivial))))))))) (aA (aD iw)) bx))) (aq (bM (bN (bO (aH lO (hr.mono (by decide)) (aX kz4z) (aa (ak 4 Gf) aj) (by trivial)))) (aA (aD iw)) bx) (aA (cU (kj (K:=K) rfl PySem.F.plainAttrs_list PySem.F.slot_list_extend PySem.F.type_list_extend wQ (ak 3 U5) (aa (ak 4 Gf) aj)))))))) (aA (aD (kh (fj (K:=K) rfl hu64) (aB rB (aX kz4s) T.b_sorted wX (aa (ak 3 U5) aj) (by trivial) (by trivial)) (aH dG (hr.mono (by decide)) (aX kz4u) (aa (ak 0 kz4w) (aa (ak 1 kz4v) aj)) (by trivial)) (by walk_at "p"))))))),?_⟩
 walk_at "s"
 cases hl0:qu d with
 | false=>
  refine bV (dD hd) (by rw [pH,hl0]) ?_
  walk_at "s"
  have:fH z y d=false:=by unfold fH;split <;> first | rfl | cases hl0
  rw [this] at q
  exact q _ (Same.refl _)
 | true=>
  obtain ⟨hs,rfl⟩:∃ hs,d= .list hs:=by cases d <;> first | exact ⟨_,rfl⟩ | cases hl0
  obtain ⟨a,us,rfl,ha,hR⟩:=aO.mp hd
  obtain ⟨h5,hfl,h6⟩:=hB hs rfl
  have hl:=bB hR
  refine bV (.lst ha) rfl ?_
  walk_at "s"
  refine Bv rfl fun f nf=>?_
  walk_at "s"
  refine .inl ⟨a,rfl,⟨_,SqL.of (dM nf ha)⟩,?_⟩
  refine eZ (xs:=us) (fun k U H'=>Same H H'/\(∀ h∈hs.take k,wg h=true)/\(∃ as:List Addr,H' f=some (.lst (as.map V.ref))/\(∀ b∈as,PrA H' b)/\as.map (lN H')=fl (hs.take k))/\∃ x4 x5,U=[some (.str z),some (.str y),some (.ref a),some (.ref f),x4,x5])
   ⟨(Same.refl H).upd nf,by simp,⟨[],ao,by simp,rfl⟩,none,none,rfl⟩ (fun i U H' _ h=>SqL.of (h.1 _ _ ha)) ?_ ?_
  ·rintro k x U H1 hx ⟨S1,g1,⟨as,hf,pa,ka⟩,x4,x5,rfl⟩
   obtain ⟨h,eh,rh0⟩:=fG hR hx
   have hm:=List.mem_of_getElem? eh
   have rh:=RD.same S1 _ _ rh0
   have bad:wg h=false->Q (.bl false) H1:=fun e=>by rw [uQ hm e] at q;exact q _ S1
   cases hh:qu h with
   | false=>
    walk_at "s"
    refine bV (dD rh) (by rw [pH,hh]) ?_
    walk_at "s"
    exact bad (by cases h <;> first | rfl | cases hh)
   | true=>
    obtain ⟨es,rfl⟩:∃ es,h= .list es:=by cases h <;> first | exact ⟨_,rfl⟩ | cases hh
    obtain ⟨c,ws,rfl,hc,hW⟩:=aO.mp rh
    have hwl:=bB hW
    have h7:=h6 _ hm es rfl
    have hsh:=hL.ly hs rfl _ hm
    walk_at "s"
    refine bV (.lst hc) rfl ?_
    walk_at "s"
    refine Bv rfl fun e0 n0=>?_
    have S2:=(Same.refl H1).upd (o:=.lst []) n0
    refine xm (d:=.list es) (e:=.list []) (xu _ _ (PySem.SeqAt.canLay_of_shaped hsh) (RD.same S2 _ _ rh)) (o4.mpr ⟨e0,[],rfl,ao,dg.mpr rfl⟩) hsh rfl ?_
    rw [Dv]
    cases he:es.isEmpty with
    | true=>
     walk_at "s"
     have:es=[]:=by cases es <;> first | rfl | cases he
     subst this
     rw [uQ hm rfl] at q
     exact q _ (S1.trans S2)
    | false=>
     walk_at "s"
     refine .inl ⟨c,rfl,⟨_,SqL.of (dM n0 hc)⟩,?_⟩
     refine eZ (xs:=ws) (fun j U H'=>H'=upd H1 e0 (.lst [])/\(∀ p∈es.take j,cG p=true)/\∃ x5,U=[some (.str z),some (.str y),some (.ref a),some (.ref f),some (.ref c),x5])
      ⟨rfl,by simp,_,rfl⟩ (fun i U H' _ h=>by rw [h.1];exact SqL.of (dM n0 hc)) ?_ ?_
     ·rintro j x U H2 hx2 ⟨rfl,g2,x5,rfl⟩
      obtain ⟨p,ep,rp⟩:=fG (RDs.same S2 _ _ hW) hx2
      have bad2:cG p=false->Q (.bl false) (upd H1 e0 (.lst [])):=fun e=>by
       have:wg (.list es)=false:=by
        show (!es.isEmpty && (es.all cG && !dF es))=false
        have:es.all cG=false:=by
         rw [Bool.eq_false_iff]
         intro e2
         have:=List.all_eq_true.mp e2 p (List.mem_of_getElem? ep)
         rw [e] at this
         cases this
        rw [this,Bool.false_and,Bool.and_false]
       rw [uQ hm this] at q
       exact q _ (S1.trans S2)
      have good2:cG p=true->∀ p∈es.take (j+1),cG p=true:=fun e p' hp'=>by
       rw [List.take_add_one,ep] at hp'
       rcases List.mem_append.mp hp' with h | h
       ·exact g2 _ h
       ·rw [List.mem_singleton.mp h];exact e
      cases ht:qt p with
      | false=>
       walk_at "s"
       refine bV (dD rp) (by rw [rJ,ht]) ?_
       walk_at "s"
       exact bad2 (by cases p <;> first | rfl | cases ht)
      | true=>
       obtain ⟨ts,rfl⟩:∃ ts,p= .tuple ts:=by cases p <;> first | exact ⟨_,rfl⟩ | cases ht
       obtain ⟨b,us2,rfl,hb,hU⟩:=cJ.mp rp
       have hl2:=bB hU
       walk_at "s"
       refine bV (.tup hb) rfl ?_
       walk_at "s"
       refine vp (SqT.of hb) ?_
       walk_at "s"
       by_cases h2:ts.length=2
       ·match ts,h2,hU with
        | [d1,d2],_,hU=>
         obtain ⟨v1,v2,rfl,r1,r2⟩:=mH hU
         rw [show (!decide (V.int (([v1,v2]:List V).length:Int)=V.int 2))=false from rfl]
         walk_at "s"
         refine ⟨v1,d1,rfl,r1,?_⟩
         walk_at "s"
         cases hn:cM d1 with
         | true=>
          walk_at "s"
          refine ⟨v2,d2,rfl,r2,?_⟩
          walk_at "s"
          cases hn2:cM d2 with
          | true=>
           walk_at "s"
           exact ⟨rfl,good2 (by show (cM d1 && cM d2)=_;rw [hn,hn2];rfl),_,rfl⟩
          | false=>
           walk_at "s"
           exact bad2 (by show (cM d1 && cM d2)=_;rw [hn2,Bool.and_false])
         | false=>
          walk_at "s"
          exact bad2 (by show (cM d1 && cM d2)=_;rw [hn,Bool.false_and])
       ·rw [decide_eq_false (by intro z;injection z with z;omega)]
        walk_at "s"
        exact bad2 (qw h2)
     ·rintro U H2 ⟨rfl,g2,x5,rfl⟩
      rw [hwl,List.take_length] at g2
      have gp:∀ d∈es,∃ i j,d= .tuple [.int i,.int j]:=fun d hd=>pJ (g2 d hd)
      walk_at "s"
      refine ⟨c,ws,es,rfl,dM n0 hc,RDs.same S2 _ _ hW,h7,gp,fun p hp=>?_,fun H3 S3=>?_⟩
      ·obtain ⟨d,hd',rfl⟩:=List.mem_map.mp hp
       obtain ⟨i,j,rfl⟩:=gp d hd'
       exact hL.jb hs rfl _ hm es rfl i j hd'
      ·have S4:=(S1.trans S2).trans S3
       have gh:wg (.list es)=!dF es:=by
        show (!es.isEmpty && (es.all cG && !dF es))=_
        rw [he,List.all_eq_true.mpr g2];rfl
       cases ho:dF es with
       | true=>
        walk_at "s"
        rw [uQ hm (by rw [gh,ho];rfl)] at q
        exact q _ S4
       | false=>
        walk_at "s"
        obtain ⟨bs,rfl,pb,kb⟩:=Dt gp hW
        have S5:=S2.trans S3
        have tk:=yt eh
        have spl:=z8 eh
        have len:as.length+bs.length<=5000:=by
         have e1:=congrArg List.length ka
         have e2:=congrArg List.length kb
         have e3:=congrArg List.length spl
         simp only [List.length_map,List.length_append] at e1 e2 e3
         have e4:(tG (PyData.list es)).length=es.length:=rfl
         omega
        refine ⟨.inl ⟨rfl,_,SqL.of (S5 _ _ hf)⟩,?_⟩
        walk_at "s"
        refine ⟨f,c,_,_,rfl,rfl,S5 _ _ hf,S5 _ _ hc,by simp only [List.length_map];exact Nat.le_trans len (by decide),?_⟩
        walk_at "s"
        have T1:TK H1 (upd H3 f (.lst (as.map V.ref ++ bs.map V.ref))):=(TK.same S5).trans (TK.lst (S5 _ _ hf))
        refine ⟨over S4 nf,fun h hh=>?_,⟨as ++ bs,by rw [ao,List.map_append],fun b hb=>?_,?_⟩,_,_,rfl⟩
        ·rw [List.take_add_one,eh] at hh
         rcases List.mem_append.mp hh with h1 | h1
         ·exact g1 _ h1
         ·rw [List.mem_singleton.mp h1,gh,ho];rfl
        ·rcases List.mem_append.mp hb with h1 | h1
         ·exact (pa b h1).keep T1
         ·exact (pb b h1).keep T1
        ·rw [List.map_append,tM T1 pa,tM T1 pb,ka,kb,tk];rfl
  ·rintro U H1 ⟨S1,g1,⟨as,hf,pa,ka⟩,x4,x5,rfl⟩
   rw [hl,List.take_length] at g1 ka
   have la:as.length<=100000:=by
    have e1:=congrArg List.length ka
    rw [List.length_map] at e1
    omega
   walk_at "s"
   refine zR (fun b=>kI (lN H1 b)) hf la (fun b hb=>⟨(pa b hb).at_,by simp [kI]⟩) fun m bs H2 nm S2 hm pm so=>?_
   have pb:∀ b∈bs,PrA H1 b:=fun b hb=>pa b (pm.mem_iff.mp hb)
   walk_at "s"
   refine ⟨z,y,rfl,hz,hy,fun q1 H3 nq1 S3 PL3=>?_⟩
   obtain ⟨vs,hv,hvd⟩:=PL3
   have S4:=S2.trans S3
   have d1:DR H3 (.list ((bs.map (lN H1)).map pI)) (.ref m):=o4.mpr ⟨m,_,rfl,S3 _ _ hm,by
    rw [← tM (TK.same S4) pb]
    exact Du fun b hb=>(pb b hb).keep (TK.same S4)⟩
   have e1:(prs z.cps.toList y.cps.toList z.length).map pD=((prs z.cps.toList y.cps.toList z.length).map cP).map pI:=by rw [List.map_map];rfl
   rw [e1] at hvd
   refine xm d1 (o4.mpr ⟨q1,vs,rfl,hv,hvd⟩) (xx _) (xx _) ?_
   have so2:(bs.map (lN H1)).Pairwise Ol:=by
    rw [List.pairwise_map]
    exact so.imp fun h=>Kq h
   rw [U7,Ks (pm.map (lN H1)) so2,ka]
   rw [xr,List.all_eq_true.mpr g1,Bool.true_and] at q
   exact q _ (S1.trans S4)
end
section
variable {P:Program} {w:World} {K:W.Frag} {mg:Str->Option Value} {base:Heap}
theorem Yk:bG aW "_law_thing":=by trivial
theorem wF:bG aW "_law_pair_here":=by trivial
theorem Oo:bG aW "_law_last":=by trivial
theorem Yl:bG aW "_law_side":=by trivial
theorem Ym:bG aW "_law_top":=by trivial
theorem U8:bZ aW "len":=by trivial
theorem Yn:bZ aW "_law_whole":=by trivial
theorem Yo:bZ aW "isinstance":=by trivial
theorem kz5e:bZ aW "tuple":=by trivial
theorem kz5f:bZ aW "list":=by trivial
def Hx (p:Addr) (H:Hp):Hp:=fun b=>if b=p then none else H b
theorem eY (p:Addr) (H:Hp):Same (Hx p H) H:=fun b o e=>by
 unfold Hx at e
 split at e
 ·cases e
 ·exact e
theorem d9 {p b:Addr} {H:Hp} {o:HO} (h:H b=some o) (n:b≠p):Hx p H b=some o:=by unfold Hx;rw [if_neg n];exact h
theorem qD {p:Addr} {H H':Hp} (c:Chg p H H'):Same (Hx p H) (Hx p H'):=fun b o e=>by
 unfold Hx at e ⊢
 split at e
 ·cases e
 ·rename_i h
  rw [if_neg h];exact c b o h e
structure Lf (d:PyData):Prop where
 sh:d.showable=true
 dp:d.depth=0
 lv:d.leavesShort 60=true
 bk:d.bulk<=19
structure Y9 (d:PyData):Prop where
 sh:d.showable=true
 dp:d.depth<=1
 lv:d.leavesShort 60=true
 bk:d.bulk<=60
theorem BP {n:Int} (h0: -100<=n) (h1:n<=100):Lf (.int n):=by
 have key:∀ m:Fin 201,(PyData.int ((m:Nat) - 100:Int)).showable=true/\(PyData.int ((m:Nat) - 100:Int)).leavesShort 60=true:=by trivial
 have:=key ⟨(n+100).toNat,by omega⟩
 rw [show (((⟨(n+100).toNat,by omega⟩:Fin 201):Nat):Int) - 100=n by show (((n+100).toNat:Nat):Int) - 100=n;omega] at this
 exact ⟨this.1,rfl,this.2,by show 0<=19;omega⟩
theorem Dw (b:Bool):Lf (.bool b):=⟨rfl,rfl,rfl,by show 0<=19;omega⟩
theorem Oq:Lf .none:=⟨rfl,rfl,rfl,by show 0<=19;omega⟩
theorem Lf.e {d:PyData} (h:Lf d):Y9 d:=⟨h.sh,by rw [h.dp];omega,h.lv,by have:=h.bk;omega⟩
theorem BR:∀ {ds:List PyData},(∀ d∈ds,Lf d)->PyData.showableAll ds=true/\PyData.depthAll ds=0/\PyData.leavesShortAll 60 ds=true/\PyData.bulkAll ds<=20*ds.length
 | [],_=>⟨rfl,rfl,rfl,by simp [PyData.bulkAll]⟩
 | d :: ds,h=>by
  obtain ⟨a,b,c,e⟩:=BR fun x hx=>h x (List.mem_cons_of_mem _ hx)
  have hd:=h d (by simp)
  have:=hd.bk
  simp only [PyData.showableAll,PyData.depthAll,PyData.leavesShortAll,PyData.bulkAll,a,b,c,hd.sh,hd.dp,hd.lv,List.length_cons]
  exact ⟨rfl,rfl,rfl,by omega⟩
theorem Dy {ds:List PyData} (h:∀ d∈ds,Lf d) (hl:ds.length<=3):Y9 (.tuple ds):=by
 obtain ⟨a,b,c,e⟩:=BR h
 exact ⟨by simp only [PyData.showable];exact a,by simp only [PyData.depth,b];omega,by simp only [PyData.leavesShort];exact c,by simp only [PyData.bulk];omega⟩
theorem Ot {ds:List PyData} (h:∀ d∈ds,Lf d) (hl:ds.length<=3):Y9 (.list ds):=by
 obtain ⟨a,b,c,e⟩:=BR h
 exact ⟨by simp only [PyData.showable];exact a,by simp only [PyData.depth,b];omega,by simp only [PyData.leavesShort];exact c,by simp only [PyData.bulk];omega⟩
theorem wj {H:Hp}:∀ {ds:List PyData} {vs:List V},vs.map Fi=ds.map some->RDs H ds vs
 | [],vs,h=>by
  cases vs with
  | nil=>exact aU.mpr rfl
  | cons _ _=>simp at h
 | d :: ds,vs,h=>by
  cases vs with
  | nil=>simp at h
  | cons v vs=>
   simp only [List.map_cons,List.cons.injEq] at h
   refine bF ?_ (wj h.2)
   have e:=h.1
   cases v <;> simp only [Fi,Option.some.injEq,reduceCtorEq] at e
   ·subst e;exact uL.mpr rfl
   ·subst e;exact Df.mpr rfl
   ·subst e;exact sH.mpr rfl
   ·subst e;exact Jw.mpr rfl
theorem jZ {H:Hp} {e:Addr} {vs:List V} {ds:List PyData} (h:H e=some (.tup vs)) (f:vs.map Fi=ds.map some):RD H (.tuple ds) (.ref e):=cJ.mpr ⟨e,vs,rfl,h,wj f⟩
theorem U9 {H:Hp} {e:Addr} {vs:List V} {ds:List PyData} (h:H e=some (.lst vs)) (f:vs.map Fi=ds.map some):RD H (.list ds) (.ref e):=aO.mpr ⟨e,vs,rfl,h,wj f⟩
theorem Yp {p:Addr} {H H':Hp} {d:PyData} {v:V} (h:RD (Hx p H) d v) (c:Chg p H H'):RD (Hx p H') d v:=RD.same (qD c) _ _ h
theorem bw {H H':Hp} {p:Addr} (h:Pur H p) (s:Same H H'):Pur H' p:=by
 obtain ⟨a,b,c,e,r⟩:=h
 exact ⟨a,b,c,s _ _ e,r⟩
theorem mK {H:Hp} {Q:VK} {a b:Addr} {xs ys:List V} (ha:H a=some (.lst xs)) (hb:H b=some (.lst ys)) (c:xs.length+ys.length<=sizeLine) (h:∀ p H',H p=none->Same H H'->H' p=some (.lst (xs ++ ys))->Q (.ref p) H'):zm (.ref a) (.ref b) H Q:=
 Bj ha hb c fun p n=>h p _ n ((Same.refl H).upd n) ao
structure Odd (d:PyData):Prop where
 e:Y9 d
 ly:d.canLay0=true
 jb:∀ i j:Int,d= .tuple [.int i,.int j]->j<=1000
 bk:d.bulk<=10
def HN (H H':Hp):Hp:=fun b=>if H b=none then H' b else none
theorem Yq {H H':Hp} {b:Addr} {o:HO} (h:H' b=some o) (n:H b=none):HN H H' b=some o:=by unfold HN;rw [if_pos n];exact h
theorem Va {H H':Hp} {b:Addr} {o:HO} (h:HN H H' b=some o):H b=none/\H' b=some o:=by
 unfold HN at h
 split at h
 ·exact ⟨by assumption,h⟩
 ·cases h
def kY:PyData->Nat
 | .list es=>es.length
 | .tuple es=>es.length
 | _=>0
def HpOk (g:PyData):Prop:=g= .none\/∃ es,(g= .list es\/g= .tuple es)/\∀ e∈es,Odd e
structure Th (gs:List PyData):Prop where
 len:gs.length<=3000
 ok:∀ g∈gs,HpOk g
 cn:(gs.map kY).sum<=4700
theorem Vb {l:List PyData} {g:PyData} (h:g∈l):kY g<=(l.map kY).sum:=by
 induction l with
 | nil=>cases h
 | cons a l ih=>
  simp only [List.map_cons,List.sum_cons]
  rcases List.mem_cons.mp h with rfl | h
  ·omega
  ·have:=ih h;omega
theorem Vc {p:PP} (h1:p.1<=48) (h2:p.2<=48):Odd (pD p):=by
 have l:∀ d∈[PyData.int p.1,.int p.2],Lf d:=by
  simp only [List.mem_cons,List.mem_nil_iff,or_false]
  rintro d (rfl | rfl) <;> exact BP (by omega) (by omega)
 refine ⟨Dy l (by simp),rfl,fun i j e=>?_,by simp [pD,PyData.bulk,PyData.bulkAll]⟩
 unfold pD at e
 simp only [PyData.tuple.injEq,List.cons.injEq,PyData.int.injEq] at e
 omega
theorem yG:∀ {es:List PyData},(∀ e∈es,Odd e)->PyData.showableAll es=true/\PyData.depthAll es<=1/\PyData.leavesShortAll 60 es=true/\PyData.bulkAll es<=11*es.length/\PyData.canLayAll0 es=true
 | [],_=>⟨rfl,by simp [PyData.depthAll],rfl,by simp [PyData.bulkAll],rfl⟩
 | d :: ds,h=>by
  obtain ⟨a,b,c,e,f⟩:=yG fun x hx=>h x (List.mem_cons_of_mem _ hx)
  have hd:=h d (by simp)
  have:=hd.bk
  have:=hd.e.dp
  simp only [PyData.showableAll,PyData.depthAll,PyData.leavesShortAll,PyData.bulkAll,PyData.canLayAll0,a,c,f,hd.e.sh,hd.e.lv,hd.ly,List.length_cons]
  exact ⟨rfl,by omega,rfl,by omega,rfl⟩
theorem HpOk.all {g:PyData} (h:HpOk g):g.showable=true/\g.depth<=2/\g.leavesShort 60=true/\g.bulk<=11*kY g/\g.canLay0=true:=by
 rcases h with rfl | ⟨es,rfl | rfl,h⟩
 ·exact ⟨rfl,by simp [PyData.depth],rfl,by simp [PyData.bulk],rfl⟩
 ·obtain ⟨a,b,c,e,f⟩:=yG h
  exact ⟨by simp only [PyData.showable];exact a,by simp only [PyData.depth];omega,by simp only [PyData.leavesShort];exact c,by simp only [PyData.bulk];exact e,by simp only [PyData.canLay0];exact f⟩
 ·obtain ⟨a,b,c,e,f⟩:=yG h
  exact ⟨by simp only [PyData.showable];exact a,by simp only [PyData.depth];omega,by simp only [PyData.leavesShort];exact c,by simp only [PyData.bulk];exact e,by simp only [PyData.canLay0];exact f⟩
theorem wk:∀ {gs:List PyData},(∀ g∈gs,HpOk g)->PyData.showableAll gs=true/\PyData.depthAll gs<=2/\PyData.leavesShortAll 60 gs=true/\PyData.bulkAll gs<=11*(gs.map kY).sum+gs.length
 | [],_=>⟨rfl,by simp [PyData.depthAll],rfl,by simp [PyData.bulkAll]⟩
 | d :: ds,h=>by
  obtain ⟨a,b,c,e⟩:=wk fun x hx=>h x (List.mem_cons_of_mem _ hx)
  obtain ⟨a',b',c',e',_⟩:=(h d (by simp)).all
  simp only [PyData.showableAll,PyData.depthAll,PyData.leavesShortAll,PyData.bulkAll,a,c,a',c',List.length_cons,List.map_cons,List.sum_cons]
  exact ⟨rfl,by omega,rfl,by omega⟩
structure Ask (d:PyData):Prop where
 sh:d.showable=true
 dp:d.depth<=60
 ft:d.shown.length<=sizeLine
 hb:Uk d
 hl:Yj d
theorem Vd {d:PyData} (lv:d.leavesShort 60=true) (bk:d.bulk<=100000):d.shown.length<=sizeLine:=by
 have e:=PyData.shown_le_bulk 60 (by omega) d lv
 refine Nat.le_trans (show d.shown.length<=62*100000+60 from ?_) (by decide)
 have:=Nat.mul_le_mul_left (60+2) bk
 omega
theorem Ve (gs:List PyData):(fl gs).length<=(gs.map kY).sum:=by
 unfold fl
 induction gs with
 | nil=>simp
 | cons g gs ih=>
  simp only [List.map_cons,List.flatten_cons,List.length_append,List.length_map,List.sum_cons] at ih ⊢
  have:(tG g).length<=kY g:=by cases g <;> simp [tG,kY]
  omega
theorem Th.ask {gs:List PyData} (h:Th gs):Ask (.list gs):=by
 obtain ⟨a,b,c,e⟩:=wk h.ok
 have h1:=h.len
 have h2:=h.cn
 refine ⟨by simp only [PyData.showable];exact a,by simp only [PyData.depth];omega,Vd (by simp only [PyData.leavesShort];exact c) (by simp only [PyData.bulk];omega),?_,⟨?_,?_⟩⟩
 ·intro ds e
  cases e
  have:=Ve gs
  refine ⟨by omega,by omega,fun g hg es eg=>?_⟩
  have:=Vb hg
  rw [eg] at this
  simp only [kY] at this
  omega
 ·intro ds e g hg
  cases e
  obtain ⟨_,d2,_,_,f⟩:=(h.ok g hg).all
  exact mq (n:=2) ⟨f,d2⟩ (by omega)
 ·intro ds e g hg es eg i j hm
  cases e
  rcases h.ok g hg with rfl | ⟨es',h' | h',ho⟩
  ·cases eg
  ·rw [eg] at h';cases h'
   exact (ho _ hm).jb i j rfl
  ·rw [eg] at h';cases h'
theorem c7 {H:Hp}:∀ {ds es:List PyData} {vs us:List V},RDs H ds vs->RDs H es us->RDs H (ds ++ es) (vs ++ us)
 | [],es,vs,us,h,h'=>by rw [aU] at h;subst h;exact h'
 | d :: ds,es,vs,us,h,h'=>by
  rw [cZ] at h
  obtain ⟨v,r,rfl,h1,h2⟩:=h
  exact bF h1 (c7 h2 h')
theorem rN {H:Hp}:∀ {ds:List PyData} {vs:List V} (k:Nat),RDs H ds vs->RDs H (ds.take k) (vs.take k)
 | _,_,0,_=>by simp [aU]
 | [],vs,k+1,h=>by rw [aU] at h;subst h;simp [aU]
 | d :: ds,vs,k+1,h=>by
  rw [cZ] at h
  obtain ⟨v,r,rfl,h1,h2⟩:=h
  exact bF h1 (rN k h2)
theorem rO {H:Hp}:∀ {ds:List PyData} {vs:List V} (k:Nat),RDs H ds vs->RDs H (ds.drop k) (vs.drop k)
 | _,_,0,h=>by simpa using h
 | [],vs,k+1,h=>by rw [aU] at h;subst h;simp [aU]
 | d :: ds,vs,k+1,h=>by
  rw [cZ] at h
  obtain ⟨v,r,rfl,h1,h2⟩:=h
  exact rO k h2
theorem yH {H:Hp}:∀ {ds:List PyData} {vs:List V} {d:PyData} {v:V} (k:Nat),RDs H ds vs->RD H d v->RDs H (ds.set k d) (vs.set k v)
 | [],vs,d,v,k,h,_=>by rw [aU] at h;subst h;simp [aU]
 | a :: ds,vs,d,v,0,h,h'=>by
  rw [cZ] at h
  obtain ⟨u,r,rfl,h1,h2⟩:=h
  exact bF h' h2
 | a :: ds,vs,d,v,k+1,h,h'=>by
  rw [cZ] at h
  obtain ⟨u,r,rfl,h1,h2⟩:=h
  exact bF h1 (yH k h2 h')
theorem yI {H:Hp}:∀ {ds:List PyData} {vs:List V} {k:Nat} {d:PyData},RDs H ds vs->ds[k]?=some d->∃ v,vs[k]?=some v/\RD H d v
 | [],vs,k,d,h,e=>by simp at e
 | a :: ds,vs,0,d,h,e=>by
  rw [cZ] at h
  obtain ⟨u,r,rfl,h1,h2⟩:=h
  simp at e
  subst e
  exact ⟨u,rfl,h1⟩
 | a :: ds,vs,k+1,d,h,e=>by
  rw [cZ] at h
  obtain ⟨u,r,rfl,h1,h2⟩:=h
  obtain ⟨v,e1,e2⟩:=yI (k:=k) h2 (by simpa using e)
  exact ⟨v,by simpa using e1,e2⟩
structure HS (hs:List (List PP)):Prop where
 ne:∀ h∈hs,h≠[]
 few:∀ h∈hs,∀ x∈h,x.1<=48/\x.2<=48
 len:hs.length<=100
 all:(hs.map List.length).sum<=2304
theorem Vf (hs:List (List PP)):(hs.map hD).map kY=hs.map List.length:=by
 rw [List.map_map]
 exact List.map_congr_left fun h _=>by simp [hD,kY]
theorem Gg {es:List PyData} (h:∀ e∈es,Odd e):HpOk (.list es):=.inr ⟨es,.inl rfl,h⟩
theorem Dz {h:List PP} (hf:∀ x∈h,x.1<=48/\x.2<=48):HpOk (hD h):=Gg fun e he=>by
 obtain ⟨x,hx,rfl⟩:=List.mem_map.mp he
 exact Vc (hf x hx).1 (hf x hx).2
theorem HS.ok {hs:List (List PP)} (h:HS hs):∀ g∈hs.map hD,HpOk g:=fun g hg=>by
 obtain ⟨x,hx,rfl⟩:=List.mem_map.mp hg
 exact Dz (h.few x hx)
theorem xF {hs:List (List PP)} (hf:∀ h∈hs,∀ x∈h,x.1<=48/\x.2<=48) (hl:hs.length<=3000) (hc:(hs.map List.length).sum<=4700):Th (hs.map hD):=
 ⟨by rw [List.length_map];omega,fun g hg=>by
  obtain ⟨x,hx,rfl⟩:=List.mem_map.mp hg
  exact Dz (hf x hx),by rw [Vf];exact hc⟩
theorem bC {p:Addr} {H H':Hp} (s:Same H H'):Same (Hx p H) (Hx p H'):=qD (Chg.of_same s)
theorem oY {H:Hp} {Q:VK} {a:Addr} {xs:List V} (ha:H a=some (.lst xs)) (h:∀ p H',H p=none->Same H H'->H' p=some (.lst xs)->Q (.ref p) H'):Bh K [.ref a] H Q:=
 Mu (SqL.of ha) fun p n=>h p _ n ((Same.refl H).upd n) ao
theorem yJ {H:Hp}:∀ {ps:List PP} {vs:List V},DRs H (ps.map pD) vs->RDs H (ps.map pD) vs
 | [],vs,h=>by
  have h':DRs H [] vs:=h
  rw [dg] at h'
  exact aU.mpr h'
 | p :: ps,vs,h=>by
  have h':DRs H (pD p :: ps.map pD) vs:=h
  rw [du] at h'
  obtain ⟨v,r,rfl,h1,h2⟩:=h'
  obtain ⟨a,rfl,e⟩:=vR.mp h1
  exact bF (iG.mpr ⟨a,rfl,e⟩) (yJ h2)
theorem KH:∀ ps:List PP,PyData.canLayAll0 (ps.map pD)=true
 | []=>rfl
 | p :: ps=>by rw [List.map_cons,PyData.canLayAll0,KH ps];rfl
theorem Ag {H:Hp}:∀ {rs:List Addr} {hs:List (List PP)},rs.length=hs.length->(∀ (i:Nat) (r:Addr) (ps:List PP),rs[i]?=some r->hs[i]?=some ps->PL H r ps)->RDs H (hs.map hD) (rs.map V.ref)
 | [],hs,hl,_=>by
  have:hs=[]:=List.length_eq_zero_iff.mp hl.symm
  subst this
  exact aU.mpr rfl
 | r :: rs,[],hl,_=>by simp at hl
 | r :: rs,ps :: hs,hl,h=>by
  obtain ⟨vs,e,d⟩:=h 0 r ps rfl rfl
  exact bF (aO.mpr ⟨r,vs,rfl,e,yJ d⟩) (Ag (by simpa using hl) fun i r' ps' e1 e2=>h (i+1) r' ps' e1 e2)
theorem HTab.rd {H:Hp} {t:Addr} {rs:List Addr} {hs:List (List PP)} (h:HTab H t rs hs):RD H (.list (hs.map hD)) (.ref t):=aO.mpr ⟨t,_,rfl,h.at_,Ag h.len h.row⟩
theorem yK {S P:List Nat}:∀ (n i j:Nat),i+j<=n->i<=S.length->j<=P.length->∀ k:Int,0<=k->k < lt S P i j->∃ p:PP,p.1 < i/\p.2 < j/\S[p.1]?=P[p.2]?/\lt S P p.1 p.2=k
 | _,0,j,_,_,_,k,h0,h1=>by rw [lt_0] at h1;omega
 | _,i+1,0,_,_,_,k,h0,h1=>by rw [zU] at h1;omega
 | 0,i+1,j+1,h,_,_,_,_,_=>by omega
 | n+1,i+1,j+1,h,hi,hj,k,h0,h1=>by
  by_cases e:S[i]?=P[j]?
  ·rw [zX e] at h1
   by_cases h2:k=lt S P i j
   ·exact ⟨(i,j),by show i < i+1;omega,by show j < j+1;omega,e,h2.symm⟩
   ·obtain ⟨p,a,b,c,d⟩:=yK (S:=S) (P:=P) n i j (by omega) (by omega) (by omega) k h0 (by omega)
    exact ⟨p,by omega,by omega,c,d⟩
  ·rw [wB,if_neg e] at h1
   unfold mx at h1
   split at h1
   ·obtain ⟨p,a,b,c,d⟩:=yK (S:=S) (P:=P) n (i+1) j (by omega) (by omega) (by omega) k h0 h1
    exact ⟨p,by omega,by omega,c,d⟩
   ·obtain ⟨p,a,b,c,d⟩:=yK (S:=S) (P:=P) n i (j+1) (by omega) (by omega) (by omega) k h0 h1
    exact ⟨p,by omega,by omega,c,d⟩
theorem Ai (f:PP->Int) (ps:List PP):∀ L:Nat,((List.range L).map fun (k:Nat)=>ps.filter fun p=>decide (f p=(k:Int))).flatten.Perm (ps.filter fun p=>decide (0<=f p) && decide (f p < (L:Int)))
 | 0=>by
  have:(ps.filter fun p=>decide (0<=f p) && decide (f p < ((0:Nat):Int)))=[]:=by
   rw [List.filter_eq_nil_iff]
   intro p _
   simp
  rw [this];exact .nil
 | L+1=>by
  rw [List.range_succ,List.map_append,List.flatten_append]
  refine ((Ai f ps L).append_right _).trans ?_
  have key:=List.filter_append_perm (fun p=>decide (f p < (L:Int))) (ps.filter fun p=>decide (0<=f p) && decide (f p < ((L+1:Nat):Int)))
  rw [List.filter_filter,List.filter_filter] at key
  have e1:(ps.filter fun a=>decide (f a < (L:Int)) && (decide (0<=f a) && decide (f a < ((L+1:Nat):Int))))=ps.filter fun p=>decide (0<=f p) && decide (f p < (L:Int)):=by
   refine List.filter_congr fun p _=>?_
   rw [Bool.eq_iff_iff]
   simp
   omega
  have e2:(ps.filter fun a=>(!decide (f a < (L:Int))) && (decide (0<=f a) && decide (f a < ((L+1:Nat):Int))))=ps.filter fun p=>decide (f p=(L:Int)):=by
   refine List.filter_congr fun p _=>?_
   rw [Bool.eq_iff_iff]
   simp
   omega
  rw [e1,e2] at key
  simpa using key
theorem KJ {S P:List Nat} {m n:Nat} (hn:n=P.length):(lev S P (lt S P m n).toNat (prs S P m)).flatten.Perm (prs S P m):=by
 have h:=Ai (fun p=>lt S P p.1 p.2) (prs S P m) (lt S P m n).toNat
 have e:((prs S P m).filter fun p=>decide (0<=lt S P p.1 p.2) && decide (lt S P p.1 p.2 < (((lt S P m n).toNat:Nat):Int)))=prs S P m:=by
  rw [List.filter_eq_self]
  intro p hp
  obtain ⟨a,b⟩:=yp hn hp
  rw [decide_eq_true a,decide_eq_true (by omega)];rfl
 rw [e] at h
 exact h
theorem Vg {S P:List Nat} {h:List PP} (hh:h∈lev S P (lt S P S.length P.length).toNat (prs S P S.length)):h≠[]:=by
 unfold lev at hh
 obtain ⟨k,hk,rfl⟩:=List.mem_map.mp hh
 have hk':=List.mem_range.mp hk
 obtain ⟨p,a,b,c,d⟩:=yK (S:=S) (P:=P) _ S.length P.length (Nat.le_refl _) (Nat.le_refl _) (Nat.le_refl _) (k:Int) (by omega) (by omega)
 intro z
 have:p∈(prs S P S.length).filter fun p=>decide (lt S P p.1 p.2=(k:Int)):=List.mem_filter.mpr ⟨v4 a b c,decide_eq_true d⟩
 rw [z] at this
 cases this
theorem KN {S P:List Nat} {h:List PP} {L m:Nat} (hh:h∈lev S P L (prs S P m)):∀ p∈h,∀ q∈h,¬ Ah p q:=by
 unfold lev at hh
 obtain ⟨k,hk,rfl⟩:=List.mem_map.mp hh
 intro p hp q hq ha
 obtain ⟨p1,p2⟩:=List.mem_filter.mp hp
 obtain ⟨q1,q2⟩:=List.mem_filter.mp hq
 have e1:=of_decide_eq_true p2
 have e2:=of_decide_eq_true q2
 have e3:=zX (jt p1).2.2
 have:lt S P (p.1+1) (p.2+1)<=lt S P q.1 q.2:=JZ (by have:=ha.1;omega) (by have:=ha.2;omega)
 omega
theorem Ou:∀ hs:List (List PP),(hs.map List.length).sum=hs.flatten.length
 | []=>rfl
 | h :: hs=>by simp
structure GH (z y:Str) (hs:List (List PP)):Prop where
 ne:∀ h∈hs,h≠[]
 pm:hs.flatten.Perm (prs z.cps.toList y.cps.toList z.length)
 an:∀ h∈hs,∀ p∈h,∀ q∈h,¬ Ah p q
 ln:hs.length<=48
theorem GH.lev {z y:Str} (hz:z.length<=48):GH z y (lev z.cps.toList y.cps.toList (lt z.cps.toList y.cps.toList z.length y.length).toNat (prs z.cps.toList y.cps.toList z.length)):=by
 have l1:z.length=z.cps.toList.length:=cC z
 have l2:y.length=y.cps.toList.length:=cC y
 refine ⟨fun h hh=>?_,KJ l2,fun h hh=>KN hh,?_⟩
 ·rw [l1,l2] at hh
  exact Vg hh
 ·rw [pG]
  have:=yo z.cps.toList y.cps.toList z.length y.length
  omega
theorem DG {z y:Str} (hz:z.length<=48) (hy:y.length<=48):(prs z.cps.toList y.cps.toList z.length).length<=2304:=by
 have:=rH z.cps.toList y.cps.toList z.length
 have l2:y.length=y.cps.toList.length:=cC y
 have:z.length*y.cps.toList.length<=48*48:=Nat.mul_le_mul hz (by omega)
 omega
theorem GH.hs {z y:Str} {hs:List (List PP)} (g:GH z y hs) (hz:z.length<=48) (hy:y.length<=48):HS hs:=by
 have l2:y.length=y.cps.toList.length:=cC y
 refine ⟨g.ne,fun h hh x hx=>?_,by have:=g.ln;omega,?_⟩
 ·have:=jt (g.pm.mem_iff.mp (List.mem_flatten.mpr ⟨h,hh,hx⟩))
  omega
 ·rw [Ou,g.pm.length_eq]
  exact DG hz hy
theorem GH.good {z y:Str} {hs:List (List PP)} (g:GH z y hs):fH z y (.list (hs.map hD))=true:=Ke g.ne g.pm g.an
def Ov:Sp:=fun vs H Q _=>∃ (z y:Str) (t:V) (d:PyData),vs=[.str z,.str y,t]/\z.length<=48/\y.length<=48/\RD H d t/\∀ H',Same H H'->Q (.bl (v5 z y d)) H'
theorem fX:aJ ["_law_side","_law_top","_law_thing","_law_last","_law_pair_here"] ["_law_side","_law_top","_law_thing"] (au aW):=⟨rfl,rfl,rfl,by trivial,rfl,by trivial,by trivial⟩
theorem j0 (T:Txt K mg):pQ P w K mg base 2 "_law_is_thread" ["_law_side","_law_top","_law_thing"] Ov:=by
 have dR:=dR (P:=P) (w:=w) (base:=base) T
 refine iQ T.d_law_is_thread fX (fun _ _ _ _ _ _ us hl=>L2.rQ (fun _ _ _=>rfl) us hl) ?_ fun f cdv A outer s H vs Q E hr h=>?_
 ·rintro vs H Q E ⟨z,y,t,d,rfl,_⟩;rfl
 obtain ⟨z,y,t,d,rfl,hz,hy,hd,q⟩:=h
 have hu:=hr.units0
 have hu64:=hr.units
 refine ⟨_,(aq (bM (bN (bO (aB (b8 (K:=K) rfl) (aX Yo) T.b_isinstance aR (aa (ak 2 Yk) (aa (oE (aX kz5f) T.b_list gC (by trivial) (by trivial)) aj)) (by trivial) (by trivial)))) (aA (aD iw)) bx) (aq (aN (i:=3) fX.nd rfl (Or.inl Oo) (cI (aa (wz lH az) (aa (wz lH az) aj))) rfl) (aq (dN PassesOwn.never rfl (cT (K:=K) rfl (ak 2 Yk)) (bI (i:=4) fX.nd rfl (Or.inl wF) rfl) (aq (bM (iK (gn (bN (bO (aB (b8 (K:=K) rfl) (aX Yo) T.b_isinstance aR (aa (ak 4 wF) (aa (oE (aX kz5e) T.b_tuple oA (by trivial) (by trivial)) aj)) (by trivial) (by trivial)))) (gn (bH (my (K:=K) rfl hu64) (aB (aG (K:=K) rfl) (aX U8) T.b_len bJ (aa (ak 4 wF) aj) (by trivial) (by trivial)) az (by walk_at "p")) (gn (bN (bO (aH dR (hr.mono (by decide)) (aX Yn) (aa (aV (K:=K) rfl (ak 4 wF) az) aj) (by trivial)))) (gf (bN (bO (aH dR (hr.mono (by decide)) (aX Yn) (aa (aV (K:=K) rfl (ak 4 wF) az) aj) (by trivial))))))))) (aA (aD iw)) bx) (aq (bM (iK (gn (bN (zy qJ qJ (aV (K:=K) rfl (ak 3 Oo) az) (aV (K:=K) rfl (ak 4 wF) az) (aB (aG (K:=K) rfl) (aX U8) T.b_len bJ (aa (ak 0 Yl) aj) (by trivial) (by trivial)))) (gn (bN (zy qJ qJ (aV (K:=K) rfl (ak 3 Oo) az) (aV (K:=K) rfl (ak 4 wF) az) (aB (aG (K:=K) rfl) (aX U8) T.b_len bJ (aa (ak 1 Ym) aj) (by trivial) (by trivial)))) (gf (bH (my (K:=K) rfl hu64) (aV (K:=K) rfl (ak 0 Yl) (aV (K:=K) rfl (ak 4 wF) az)) (aV (K:=K) rfl (ak 1 Ym) (aV (K:=K) rfl (ak 4 wF) az)) (by walk_at "p")))))) (aA (aD iw)) bx) (aA (aN (i:=3) fX.nd rfl (Or.inl Oo) (ak 4 wF) rfl))))) (aA (aD iw))))),?_⟩
 walk_at "s"
 have lz:z.length<=sizeLine:=Nat.le_trans hz (by decide)
 have ly:y.length<=sizeLine:=Nat.le_trans hy (by decide)
 cases hL:qu d with
 | false=>
  refine bV (dD hd) (by rw [pH,hL]) ?_
  walk_at "s"
  have:v5 z y d=false:=by unfold v5;split <;> first | rfl | cases hL
  rw [this] at q
  exact q _ (Same.refl _)
 | true=>
  obtain ⟨ds,rfl⟩:∃ ds,d= .list ds:=by cases d <;> first | exact ⟨_,rfl⟩ | cases hL
  obtain ⟨a,us,rfl,e,r⟩:=aO.mp hd
  have hl:=bB r
  refine bV (.lst e) rfl ?_
  walk_at "s"
  refine Pz rfl fun c0 n0=>?_
  walk_at "s"
  refine .inl ⟨a,rfl,⟨_,SqL.of (dM n0 e)⟩,?_⟩
  refine eZ (xs:=us) (fun i U H'=>Same H H'/\(∃ (c:Addr) (l0 l1:Int) (x4:Option V),H' c=some (.tup [.int l0,.int l1])/\U=[some (.str z),some (.str y),some (.ref a),some (.ref c),x4]/\(-1<=l0/\-1<=l1)/\Dq z y l0 l1 (ds.drop i)=v5 z y (.list ds)))
   ⟨(Same.refl H).upd n0,c0,-1,-1,none,ao,rfl,⟨by omega,by omega⟩,rfl⟩ (fun i U H' _ h=>SqL.of (h.1 _ _ e)) ?_ ?_
  ·rintro i x U H1 hi ⟨S1,c,l0,l1,x4,hc,rfl,hlo,hr⟩
   obtain ⟨d,g1,g2⟩:=fG (RDs.same S1 _ _ r) hi
   have hd1:ds.drop i=d :: ds.drop (i+1):=by
    obtain ⟨h1,h2⟩:=List.getElem?_eq_some_iff.mp g1
    rw [List.drop_eq_getElem_cons h1,h2]
   rw [hd1] at hr
   walk_at "s"
   cases hT:qt d with
   | false=>
    have:Dq z y l0 l1 (d :: ds.drop (i+1))=false:=v6 (by cases d <;> first | rfl | cases hT)
    rw [← hr,this] at q
    refine bV (dD g2) (by rw [rJ,hT]) ?_
    walk_at "s"
    exact q _ S1
   | true=>
    obtain ⟨es,rfl⟩:∃ es,d= .tuple es:=by cases d <;> first | exact ⟨_,rfl⟩ | cases hT
    obtain ⟨b,ws,rfl,hb,rw'⟩:=cJ.mp g2
    have hl2:=bB rw'
    refine bV (.tup hb) rfl ?_
    walk_at "s"
    refine vp (SqT.of hb) ?_
    walk_at "s"
    by_cases h2:es.length=2
    ·rw [decide_eq_true (show V.int (ws.length:Int)=V.int 2 by rw [hl2,h2];rfl)]
     match es,h2,rw',hr,hd1 with
     | [d1,d2],_,rw',hr,hd1=>
      obtain ⟨v1,v2,rfl,r1,r2⟩:=mH rw'
      walk_at "s"
      refine ⟨v1,d1,rfl,r1,?_⟩
      walk_at "s"
      cases hn1:cM d1 with
      | false=>
       have:Dq z y l0 l1 (.tuple [d1,d2] :: ds.drop (i+1))=false:=v6 (by show (cM d1 && cM d2)=false;rw [hn1];rfl)
       rw [← hr,this] at q
       walk_at "s"
       exact q _ S1
      | true=>
       walk_at "s"
       refine ⟨v2,d2,rfl,r2,?_⟩
       walk_at "s"
       cases hn2:cM d2 with
       | false=>
        have:Dq z y l0 l1 (.tuple [d1,d2] :: ds.drop (i+1))=false:=v6 (by show (cM d1 && cM d2)=false;rw [hn1,hn2];rfl)
        rw [← hr,this] at q
        walk_at "s"
        exact q _ S1
       | true=>
        obtain ⟨p1,p2,ep⟩:=pJ (d:=.tuple [d1,d2]) (by show (cM d1 && cM d2)=true;rw [hn1,hn2];rfl)
        cases ep
        rw [sH] at r1 r2
        subst r1 r2
        rw [Ac] at hr
        walk_at "s"
        by_cases k1:l0 < p1
        ·rw [decide_eq_true k1] at hr ⊢
         walk_at "s"
         refine fZ lz ?_
         walk_at "s"
         by_cases k2:p1 < z.length
         ·rw [decide_eq_true k2] at hr ⊢
          walk_at "s"
          by_cases k3:l1 < p2
          ·rw [decide_eq_true k3] at hr ⊢
           walk_at "s"
           refine fZ ly ?_
           walk_at "s"
           by_cases k4:p2 < y.length
           ·rw [decide_eq_true k4] at hr ⊢
            obtain ⟨s1,hs1,as1⟩:=mG (z:=z) (k:=p1) (j:=p1.toNat) (by omega) (by omega)
            obtain ⟨s2,hs2,as2⟩:=mG (z:=y) (k:=p2) (j:=p2.toNat) (by omega) (by omega)
            rw [hs1,hs2] at hr
            walk_at "s"
            refine pR lz as1 ?_
            walk_at "s"
            refine pR ly as2 ?_
            walk_at "s"
            by_cases k5:s1=s2
            ·rw [decide_eq_true (mF.mpr k5)]
             rw [decide_eq_true (by rw [k5])] at hr
             walk_at "s"
             exact ⟨S1,b,p1,p2,_,hb,rfl,⟨by omega,by omega⟩,hr⟩
            ·rw [decide_eq_false (fun z=>k5 (mF.mp z))]
             rw [decide_eq_false (fun z=>k5 (Option.some.inj z))] at hr
             simp only [Bool.and_false,Bool.false_and] at hr
             rw [← hr] at q
             walk_at "s"
             exact q _ S1
           ·rw [decide_eq_false k4] at hr ⊢
            simp only [Bool.and_false,Bool.false_and] at hr
            rw [← hr] at q
            walk_at "s"
            exact q _ S1
          ·rw [decide_eq_false k3] at hr ⊢
           simp only [Bool.and_false,Bool.false_and] at hr
           rw [← hr] at q
           walk_at "s"
           exact q _ S1
         ·rw [decide_eq_false k2] at hr ⊢
          simp only [Bool.and_false,Bool.false_and] at hr
          rw [← hr] at q
          walk_at "s"
          exact q _ S1
        ·rw [decide_eq_false k1] at hr ⊢
         simp only [Bool.false_and] at hr
         rw [← hr] at q
         walk_at "s"
         exact q _ S1
    ·rw [decide_eq_false (show ¬ V.int (ws.length:Int)=V.int 2 by intro z;injection z with z;omega)]
     have:Dq z y l0 l1 (.tuple es :: ds.drop (i+1))=false:=v6 (qw h2)
     rw [← hr,this] at q
     walk_at "s"
     exact q _ S1
  ·rintro U H1 ⟨S1,c,l0,l1,x4,hc,rfl,hlo,hr⟩
   rw [hl,List.drop_length] at hr
   walk_at "s"
   rw [← hr] at q
   exact q _ S1
theorem Vh:bZ cL "len":=by trivial
theorem Gh:bG cL "_law_thing":=by trivial
theorem kz5i:bZ cL "_law_are_heaps":=by trivial
theorem Yr:bG cL "_law_top":=by trivial
theorem Ys:bG cL "_law_side":=by trivial
theorem kz5l:bZ cL "_law_is_thread":=by trivial
theorem kz5m:bZ cL "isinstance":=by trivial
theorem kz5n:bZ cL "tuple":=by trivial
theorem Yt:bZ cA "repr":=by trivial
theorem Ow:bG cA "_law_thing":=by trivial
theorem Yu:bG cA "_law_kept":=by trivial
theorem Vi:bG cA "_law_found":=by trivial
theorem kz5s:bZ cA "_law_reads":=by trivial
theorem Yv:bG cA "_law_top":=by trivial
theorem Yw:bG cA "_law_side":=by trivial
theorem kz5v:bZ cA "isinstance":=by trivial
theorem kz5w:bZ cA "bool":=by trivial
theorem kz5x:bZ cA "shows":=by trivial
structure Gi (d:PyData):Prop where
 sh:d.showable=true
 dp:d.depth<=60
 ft:d.shown.length<=sizeLine
 hb:∀ x y,d= .tuple [x,y]->(∀ ds,x= .list ds->ds.length<=5000)/\Uk y/\Yj y
def KQ:Sp:=fun vs H Q _=>∃ (z y:Str) (v:V) (d:PyData),vs=[.str z,.str y,v]/\Row z/\Row y/\RD H d v/\(∀ x y,d= .tuple [x,y]->Uk y/\Yj y)/\∀ H',Same H H'->Q (.bl (oR z y d)) H'
theorem yL:aJ ["_law_side","_law_top","_law_thing"] ["_law_side","_law_top","_law_thing"] (au cL):=⟨rfl,rfl,rfl,by trivial,rfl,by trivial,by trivial⟩
theorem ir (T:Txt K mg):pQ P w K mg base 3 "_law_reads" ["_law_side","_law_top","_law_thing"] KQ:=by
 have j0:=j0 (P:=P) (w:=w) (base:=base) T
 have jY:=jY (P:=P) (w:=w) (base:=base) T
 refine iQ T.d_law_reads yL (fun _ _ _ _ _ _ us hl=>L2.rQ (fun _ _ _=>rfl) us hl) ?_ fun f cdv A outer s H vs Q E hr h=>?_
 ·rintro vs H Q E ⟨z,y,v,d,rfl,_⟩;rfl
 obtain ⟨z,y,v,d,rfl,hz,hy,hd,hB,q⟩:=h
 have hu:=hr.units0
 have hu64:=hr.units
 refine ⟨_,(aq (bM (iK (gn (bN (bO (aB (b8 (K:=K) rfl) (aX kz5m) T.b_isinstance aR (aa (ak 2 Gh) (aa (oE (aX kz5n) T.b_tuple oA (by trivial) (by trivial)) aj)) (by trivial) (by trivial)))) (gf (bH (my (K:=K) rfl hu64) (aB (aG (K:=K) rfl) (aX Vh) T.b_len bJ (aa (ak 2 Gh) aj) (by trivial) (by trivial)) az (by walk_at "p"))))) (aA (aD iw)) bx) (aq (bM (iK (gn (bN (bO (aH j0 (hr.mono (by decide)) (aX kz5l) (aa (ak 0 Ys) (aa (ak 1 Yr) (aa (aV (K:=K) rfl (ak 2 Gh) az) aj))) (by trivial)))) (gf (bN (bO (aH jY (hr.mono (by decide)) (aX kz5i) (aa (ak 0 Ys) (aa (ak 1 Yr) (aa (aV (K:=K) rfl (ak 2 Gh) az) aj))) (by trivial))))))) (aA (aD iw)) bx) (aA (aD (kh (fj (K:=K) rfl hu64) (aB (aG (K:=K) rfl) (aX Vh) T.b_len bJ (aa (aV (K:=K) rfl (ak 2 Gh) az) aj) (by trivial) (by trivial)) (aB (aG (K:=K) rfl) (aX Vh) T.b_len bJ (aa (aV (K:=K) rfl (ak 2 Gh) az) aj) (by trivial) (by trivial)) (by walk_at "p")))))),?_⟩
 walk_at "s"
 cases ht:qt d with
 | false=>
  refine bV (dD hd) (by rw [rJ,ht]) ?_
  walk_at "s"
  have:oR z y d=false:=by unfold oR;split <;> first | rfl | cases ht
  rw [this] at q
  exact q _ (Same.refl _)
 | true=>
  obtain ⟨ds,rfl⟩:∃ ds,d= .tuple ds:=by cases d <;> first | exact ⟨_,rfl⟩ | cases ht
  obtain ⟨a,us,rfl,e,r⟩:=cJ.mp hd
  have hl:=bB r
  refine bV (.tup e) rfl ?_
  walk_at "s"
  refine vp (SqT.of e) ?_
  walk_at "s"
  by_cases h2:ds.length=2
  ·match ds,h2,r,hB,q with
   | [d1,d2],_,r,hB,q=>
    obtain ⟨v1,v2,rfl,r1,r2⟩:=mH r
    obtain ⟨b1,b2⟩:=hB d1 d2 rfl
    replace q:∀ H',Same H H'->Q (.bl (eU z y d1 && (fH z y d2 && decide ((tG d1).length=(tG d2).length)))) H':=q
    rw [show (!decide (V.int (([v1,v2]:List V).length:Int)=V.int 2))=false from rfl]
    walk_at "s"
    refine ⟨z,y,v1,d1,rfl,hz.1,hy.1,r1,fun H2 S2=>?_⟩
    walk_at "s"
    rw [yC]
    cases h1:eU z y d1 with
    | false=>
     walk_at "s"
     rw [h1,Bool.false_and] at q
     exact q _ S2
    | true=>
     rw [h1,Bool.true_and] at q
     have e2:=S2 _ _ e
     walk_at "s"
     refine ⟨z,y,v2,d2,rfl,hz,hy,RD.same S2 _ _ r2,b1,b2,fun H3 S3=>?_⟩
     cases hb:fH z y d2 with
     | false=>
      walk_at "s"
      rw [hb,Bool.false_and] at q
      exact q _ (S2.trans S3)
     | true=>
      rw [hb,Bool.true_and] at q
      have e3:=S3 _ _ e2
      have S13:=S2.trans S3
      obtain ⟨ds1,rfl⟩:=rK h1
      obtain ⟨ds2,rfl⟩:=t7 hb
      obtain ⟨a1,w1,rfl,f1,g1⟩:=aO.mp (RD.same S13 _ _ r1)
      obtain ⟨a2,w2,rfl,f2,g2⟩:=aO.mp (RD.same S13 _ _ r2)
      have l1:=bB g1
      have l2:=bB g2
      walk_at "s"
      refine jR (SqL.of f1) ?_
      walk_at "s"
      refine jR (SqL.of f2) ?_
      walk_at "s"
      have e9:decide (V.int (w1.length:Int)=V.int (w2.length:Int))=decide ((tG (.list ds1)).length=(tG (.list ds2)).length):=by
       refine decide_eq_decide.mpr ⟨fun h=>?_,fun h=>?_⟩
       ·injection h with h
        show ds1.length=ds2.length
        omega
       ·have h':ds1.length=ds2.length:=h
        rw [l1,l2,h']
      rw [e9]
      exact q _ S13
  ·rw [decide_eq_false (by intro z;injection z with z;omega)]
   walk_at "s"
   rw [vZ h2] at q
   exact q _ (Same.refl _)
def Ox:Sp:=fun vs H Q _=>∃ (z y:Str) (v:V) (d:PyData),vs=[.str z,.str y,v]/\Row z/\Row y/\RD H d v/\Gi d/\∀ H',Same H H'->Q (.bl true) H'
theorem mL:aJ ["_law_side","_law_top","_law_thing","_law_kept","_law_found"] ["_law_side","_law_top","_law_thing"] (au cA):=⟨rfl,rfl,rfl,by trivial,rfl,by trivial,by trivial⟩
theorem fM (T:Txt K mg):pQ P w K mg base 9 "_law_right" ["_law_side","_law_top","_law_thing"] Ox:=by
 have yw:=yw (P:=P) (w:=w) (base:=base) T
 have ir:=ir (P:=P) (w:=w) (base:=base) T
 refine iQ T.d_law_right mL (fun _ _ _ _ _ _ us hl=>L2.rQ (fun _ _ _=>rfl) us hl) ?_ fun f cdv A outer s H vs Q E hr h=>?_
 ·rintro vs H Q E ⟨z,y,v,d,rfl,_⟩;rfl
 obtain ⟨z,y,v,d,rfl,hz,hy,hd,hA,q⟩:=h
 have hu:=hr.units0
 have hu64:=hr.units
 refine ⟨_,(aq (aN (i:=3) mL.nd rfl (Or.inl Yu) (aB (vD hr.gd hu64) (aX Yt) T.b_repr Cz (aa (ak 2 Ow) aj) (by trivial) (by trivial)) rfl) (aq (aN (i:=4) mL.nd rfl (Or.inl Vi) (di yw (hr.mono (by decide)) (aX kz5x) (zE fun _ _=>rfl) (aa (ak 0 Yw) (aa (ak 1 Yv) (aa (ak 2 Ow) aj))) (by trivial)) rfl) (aA (aD (pU (aB (b8 (K:=K) rfl) (aX kz5v) T.b_isinstance aR (aa (ak 4 Vi) (aa (oE (aX kz5w) T.b_bool xW (by trivial) (by trivial)) aj)) (by trivial) (by trivial)) (pU (kh (fj (K:=K) rfl hu64) (ak 4 Vi) (aH ir (hr.mono (by decide)) (aX kz5s) (aa (ak 0 Yw) (aa (ak 1 Yv) (aa (ak 2 Ow) aj))) (by trivial)) (by walk_at "p")) (w6 (kh (fj (K:=K) rfl hu64) (aB (vD hr.gd hu64) (aX Yt) T.b_repr Cz (aa (ak 2 Ow) aj) (by trivial) (by trivial)) (ak 3 Yu) (by walk_at "p"))))))))),?_⟩
 walk_at "s"
 refine Dg hd hA.sh hA.dp hA.ft ?_
 walk_at "s"
 refine spX3.good hz.b hy.b ⟨d,hd,fun x y e=>⟨(hA.hb x y e).1,(hA.hb x y e).2.1⟩,fun H1 S1=>?_⟩
 have hd1:=RD.same S1 _ _ hd
 walk_at "s"
 refine bV (.bl _) rfl ?_
 walk_at "s"
 refine ⟨z,y,v,d,rfl,hz,hy,hd1,fun x y e=>(hA.hb x y e).2,fun H2 S2=>?_⟩
 walk_at "s"
 rw [decide_eq_true rfl]
 walk_at "s"
 refine Dg (RD.same S2 _ _ hd1) hA.sh hA.dp hA.ft ?_
 walk_at "s"
 rw [decide_eq_true rfl]
 exact q _ (S1.trans S2)
theorem Gj:bG cQ "_law_some":=by trivial
theorem kz5z:bZ cQ "_law_take":=by trivial
theorem kz60:bG cQ "_law_purse_here":=by trivial
theorem qF:bG cQ "_law_other":=by trivial
theorem qG:bG cQ "_law_one":=by trivial
theorem Yx:bZ cQ "len":=by trivial
theorem kz64:bG cQ "_law_top":=by trivial
theorem kz65:bG cQ "_law_side":=by trivial
theorem kz66:bG cQ "_law_pair_here":=by trivial
theorem Aj {d:PyData} (h:Lf d) (l:d.canLay0=true) (b:d.bulk<=10) (n:∀ ds,d≠.tuple ds):Odd d:=⟨h.e,l,fun i j e=>absurd e (n _),b⟩
theorem yM {n:Int} (h0: -100<=n) (h1:n<=100):Odd (.int n):=Aj (BP h0 h1) rfl (by simp [PyData.bulk]) (fun _ e=>by cases e)
theorem KR (b:Bool):Odd (.bool b):=Aj (Dw b) rfl (by simp [PyData.bulk]) (fun _ e=>by cases e)
structure Odd2 (d:PyData):Prop where
 o:Odd d
 h:HpOk d
 c:kY d<=3
def Oz:Sp:=fun vs H Q _=>∃ (p b:Addr) (i j:Nat) (z y:Str),vs=[.ref p,.ref b,.str z,.str y]/\Pur H p/\H b=some (.tup [.int i,.int j])/\i<=48/\j<=48/\z.length<=48/\y.length<=48/\
 ∀ v d H',RD (HN H H') d v->Odd2 d->Pur H' p->Chg p H H'->Q v H'
theorem iu:aJ ["_law_purse_here","_law_pair_here","_law_side","_law_top","_law_one","_law_other","_law_some"] ["_law_purse_here","_law_pair_here","_law_side","_law_top"] (au cQ):=⟨rfl,rfl,rfl,by trivial,rfl,by trivial,by trivial⟩
theorem qH (T:Txt K mg):pQ P w K mg base 2 "_law_pair" ["_law_purse_here","_law_pair_here","_law_side","_law_top"] Oz:=by
 have aF:=aF (P:=P) (w:=w) (base:=base) T
 refine iQ T.d_law_pair iu (fun _ _ _ _ _ _ us hl=>L2.Ql (fun _ _ _ _=>rfl) us hl) ?_ fun f cdv A outer s H vs Q E hr h=>?_
 ·rintro vs H Q E ⟨p,b,i,j,z,y,rfl,_⟩;rfl
 obtain ⟨p,b,i,j,z,y,rfl,hP,hb,hi,hj,hz,hy,q⟩:=h
 have hu:=hr.units0
 have hu64:=hr.units
 refine ⟨_,(aq (Mx (ak 1 kz66) (Mw (K:=K) rfl rfl (dq (bI (i:=4) iu.nd rfl (Or.inl qG) rfl) (dq (bI (i:=5) iu.nd rfl (Or.inl qF) rfl) lZ)))) (aq (aN (i:=6) iu.nd rfl (Or.inl Gj) (dj (aa (cI (aa (bY bz (ak 4 qG) az) (aa (ak 5 qF) aj))) (aa (cI (aa (ak 4 qG) (aa (bY bz (ak 5 qF) az) aj))) (aa (cI (aa (bY lG (ak 4 qG) az) (aa (ak 5 qF) aj))) (aa (cI (aa (ak 4 qG) (aa (bY lG (ak 5 qF) az) aj))) (aa (dj (aa (ak 4 qG) (aa (ak 5 qF) aj))) (aa (cI (aa (ak 4 qG) (aa (ak 5 qF) (aa az aj)))) aj))))))) rfl) (aq (aN (i:=6) iu.nd rfl (Or.inl Gj) (bY bz (ak 6 Gj) (dj (aa (cI (aa (kh (fj (K:=K) rfl hu64) (ak 4 qG) (ak 4 qG) (by walk_at "p")) (aa (ak 5 qF) aj))) (aa (cI (aa (ak 4 qG) (aa (kh (fj (K:=K) rfl hu64) (ak 5 qF) (ak 5 qF) (by walk_at "p")) aj))) (aa Pn (aa (cI (aa (ak 5 qF) (aa (ak 4 qG) aj))) (aa (cI (aa (aB (aG (K:=K) rfl) (aX Yx) T.b_len bJ (aa (ak 2 kz65) aj) (by trivial) (by trivial)) (aa (ak 5 qF) aj))) (aa (cI (aa (ak 4 qG) (aa (aB (aG (K:=K) rfl) (aX Yx) T.b_len bJ (aa (ak 3 kz64) aj) (by trivial) (by trivial)) aj))) aj)))))))) rfl) (aq (aN (i:=6) iu.nd rfl (Or.inl Gj) (bY bz (ak 6 Gj) (dj (aa (cI (aa (kh (my (K:=K) rfl hu64) (ak 4 qG) (ak 4 qG) (by walk_at "p")) (aa (ak 5 qF) aj))) (aa (cI (aa (ak 4 qG) (aa (kh (my (K:=K) rfl hu64) (ak 5 qF) (ak 5 qF) (by walk_at "p")) aj))) aj)))) rfl) (aA (aD (aV (K:=K) rfl (ak 6 Gj) (aH aF (hr.mono (by decide)) (aX kz5z) (aa (ak 0 kz60) (aa az aj)) (by trivial))))))))),?_⟩
 walk_at "s"
 have lz:z.length<=sizeLine:=Nat.le_trans hz (by decide)
 have ly:y.length<=sizeLine:=Nat.le_trans hy (by decide)
 refine ⟨b,_,rfl,.inl (SqT.of hb),rfl,?_⟩
 walk_at "s"
 refine bh rfl fun e1 G1 n1 S1 f1=>?_
 walk_at "s"
 refine bh rfl fun e2 G2 n2 S2 f2=>?_
 walk_at "s"
 refine bh rfl fun e3 G3 n3 S3 f3=>?_
 walk_at "s"
 refine bh rfl fun e4 G4 n4 S4 f4=>?_
 walk_at "s"
 refine bh rfl fun e5 G5 n5 S5 f5=>?_
 walk_at "s"
 refine bh rfl fun e6 G6 n6 S6 f6=>?_
 walk_at "s"
 refine bh rfl fun e7 G7 n7 S7 f7=>?_
 walk_at "s"
 refine bh rfl fun e8 G8 n8 S8 f8=>?_
 walk_at "s"
 refine bh rfl fun e9 G9 n9 S9 f9=>?_
 walk_at "s"
 refine bh rfl fun e10 G10 n10 S10 f10=>?_
 walk_at "s"
 refine fZ lz ?_
 walk_at "s"
 refine bh rfl fun e11 G11 n11 S11 f11=>?_
 walk_at "s"
 refine fZ ly ?_
 walk_at "s"
 refine bh rfl fun e12 G12 n12 S12 f12=>?_
 walk_at "s"
 refine bh rfl fun e13 G13 n13 S13 f13=>?_
 walk_at "s"
 have R7:=S8.trans (S9.trans (S10.trans (S11.trans (S12.trans S13))))
 refine mK (R7 _ _ f7) f13 (by simp;decide) fun e14 G14 n14 S14 f14=>?_
 walk_at "s"
 refine bh rfl fun e15 G15 n15 S15 f15=>?_
 walk_at "s"
 refine bh rfl fun e16 G16 n16 S16 f16=>?_
 walk_at "s"
 refine bh rfl fun e17 G17 n17 S17 f17=>?_
 walk_at "s"
 have R14:=S15.trans (S16.trans S17)
 refine mK (R14 _ _ f14) f17 (by simp;decide) fun e18 G18 n18 S18 f18=>?_
 walk_at "s"
 have A0:=Same.refl H
 have A1:=A0.trans S1
 have A2:=A1.trans S2
 have A3:=A2.trans S3
 have A4:=A3.trans S4
 have A5:=A4.trans S5
 have A6:=A5.trans S6
 have A7:=A6.trans S7
 have A8:=A7.trans S8
 have A9:=A8.trans S9
 have A10:=A9.trans S10
 have A11:=A10.trans S11
 have A12:=A11.trans S12
 have A13:=A12.trans S13
 have A14:=A13.trans S14
 have A15:=A14.trans S15
 have A16:=A15.trans S16
 have A17:=A16.trans S17
 have A18:=A17.trans S18
 have B18:=Same.refl G18
 have B17:=S18.trans B18
 have B16:=S17.trans B17
 have B15:=S16.trans B16
 have B14:=S15.trans B15
 have B13:=S14.trans B14
 have B12:=S13.trans B13
 have B11:=S12.trans B12
 have B10:=S11.trans B11
 have B9:=S10.trans B10
 have B8:=S9.trans B9
 have B7:=S8.trans B8
 have B6:=S7.trans B7
 have B5:=S6.trans B6
 have B4:=S5.trans B5
 have B3:=S4.trans B4
 have B2:=S3.trans B3
 have B1:=S2.trans B2
 refine ⟨p,14,rfl,bw hP A18,by omega,by omega,fun c H8 c0 c1 P8 C8=>?_⟩
 walk_at "s"
 have at_:∀ {e:Addr} {G G':Hp} {o:HO},Same H G->G e=none->Same G' G18->G' e=some o->HN H H8 e=some o:=fun {e G G' o} s n s2 h=>Yq (C8.at_ (s2 _ _ h) (hP.ne (s.free n))) (s.free n)
 have CC:Chg p H H8:=(Chg.of_same A18).trans C8
 have m18:e18≠p:=hP.ne (A17.free n18)
 obtain ⟨t,ht,et⟩:=Io (vs:=[.ref e1,.ref e2,.ref e3,.ref e4,.ref e5,.ref e6] ++ [.ref e8,.ref e9,.non,.ref e10,.ref e11,.ref e12] ++ [.ref e15,.ref e16]) (d:=c) c0 (by simpa using c1)
 refine bD (SqL.of (C8.at_ f18 m18)) et ?_
 walk_at "s"
 have fin:∀ ds,RD (HN H H8) (.tuple ds) t->(∀ d∈ds,Odd d/\Lf d)->ds.length<=3->(∀ i j:Int,ds=[.int i,.int j]->j<=1000)->PyData.bulkAll ds<=10->Q t H8:=fun ds r l n jb bk=>
  q t _ _ r ⟨⟨Dy (fun d hd=>(l d hd).2) n,(o5 (n:=0) fun d hd=>⟨(l d hd).1.ly,by rw [(l d hd).2.dp];omega⟩).1,fun i j e=>jb i j (PyData.tuple.inj e),by rw [PyData.bulk];exact bk⟩,.inr ⟨ds,.inr rfl,fun d hd=>(l d hd).1⟩,n⟩ P8 CC
 have li:∀ n:Int,-100<=n->n<=100->Odd (.int n)/\Lf (.int n):=fun n a b=>⟨yM a b,BP a b⟩
 have lb:∀ n:Bool,Odd (.bool n)/\Lf (.bool n):=fun n=>⟨KR n,Dw n⟩
 simp only [List.cons_append,List.nil_append,List.mem_cons,List.mem_nil_iff,or_false] at ht
 rcases ht with rfl | rfl | rfl | rfl | rfl | rfl | rfl | rfl | rfl | rfl | rfl | rfl | rfl | rfl
 ·exact fin [.int ((i:Int)+1),.int j] (jZ (at_ A0 n1 B1 f1) rfl) (by simp only [List.mem_cons,List.mem_nil_iff,or_false];rintro d (rfl | rfl) <;> first | exact li _ (by omega) (by omega) | exact lb _) (by simp) (fun a b e=>by simp only [List.cons.injEq,PyData.int.injEq,reduceCtorEq,false_and,and_false,and_true] at e;omega) (by simp [PyData.bulk,PyData.bulkAll])
 ·exact fin [.int i,.int ((j:Int)+1)] (jZ (at_ A1 n2 B2 f2) rfl) (by simp only [List.mem_cons,List.mem_nil_iff,or_false];rintro d (rfl | rfl) <;> first | exact li _ (by omega) (by omega) | exact lb _) (by simp) (fun a b e=>by simp only [List.cons.injEq,PyData.int.injEq,reduceCtorEq,false_and,and_false,and_true] at e;omega) (by simp [PyData.bulk,PyData.bulkAll])
 ·exact fin [.int ((i:Int) - 1),.int j] (jZ (at_ A2 n3 B3 f3) rfl) (by simp only [List.mem_cons,List.mem_nil_iff,or_false];rintro d (rfl | rfl) <;> first | exact li _ (by omega) (by omega) | exact lb _) (by simp) (fun a b e=>by simp only [List.cons.injEq,PyData.int.injEq,reduceCtorEq,false_and,and_false,and_true] at e;omega) (by simp [PyData.bulk,PyData.bulkAll])
 ·exact fin [.int i,.int ((j:Int) - 1)] (jZ (at_ A3 n4 B4 f4) rfl) (by simp only [List.mem_cons,List.mem_nil_iff,or_false];rintro d (rfl | rfl) <;> first | exact li _ (by omega) (by omega) | exact lb _) (by simp) (fun a b e=>by simp only [List.cons.injEq,PyData.int.injEq,reduceCtorEq,false_and,and_false,and_true] at e;omega) (by simp [PyData.bulk,PyData.bulkAll])
 ·have ll:∀ d∈[PyData.int i,.int j],Odd d/\Lf d:=by simp only [List.mem_cons,List.mem_nil_iff,or_false];rintro d (rfl | rfl) <;> exact li _ (by omega) (by omega)
  exact q _ (.list [.int i,.int j]) H8 (U9 (at_ A4 n5 B5 f5) rfl) ⟨⟨Ot (fun d hd=>(ll d hd).2) (by simp),rfl,(fun i j e=>by cases e),by simp [PyData.bulk,PyData.bulkAll]⟩,.inr ⟨_,.inl rfl,fun d hd=>(ll d hd).1⟩,by simp [kY]⟩ P8 CC
 ·exact fin [.int i,.int j,.int 0] (jZ (at_ A5 n6 B6 f6) rfl) (by simp only [List.mem_cons,List.mem_nil_iff,or_false];rintro d (rfl | rfl | rfl) <;> first | exact li _ (by omega) (by omega) | exact lb _) (by simp) (fun a b e=>by simp at e) (by simp [PyData.bulk,PyData.bulkAll])
 ·exact fin [.bool true,.int j] (jZ (at_ A7 n8 B8 f8) (by simp [Fi])) (by simp only [List.mem_cons,List.mem_nil_iff,or_false];rintro d (rfl | rfl) <;> first | exact li _ (by omega) (by omega) | exact lb _) (by simp) (fun a b e=>by simp at e) (by simp [PyData.bulk,PyData.bulkAll])
 ·exact fin [.int i,.bool true] (jZ (at_ A8 n9 B9 f9) (by simp [Fi])) (by simp only [List.mem_cons,List.mem_nil_iff,or_false];rintro d (rfl | rfl) <;> first | exact li _ (by omega) (by omega) | exact lb _) (by simp) (fun a b e=>by simp at e) (by simp [PyData.bulk,PyData.bulkAll])
 ·exact q _ .none H8 (uL.mpr rfl) ⟨⟨Oq.e,rfl,(fun i j e=>by cases e),by trivial⟩,.inl rfl,by simp [kY]⟩ P8 CC
 ·exact fin [.int j,.int i] (jZ (at_ A9 n10 B10 f10) rfl) (by simp only [List.mem_cons,List.mem_nil_iff,or_false];rintro d (rfl | rfl) <;> first | exact li _ (by omega) (by omega) | exact lb _) (by simp) (fun a b e=>by simp only [List.cons.injEq,PyData.int.injEq,reduceCtorEq,false_and,and_false,and_true] at e;omega) (by simp [PyData.bulk,PyData.bulkAll])
 ·exact fin [.int z.length,.int j] (jZ (at_ A10 n11 B11 f11) rfl) (by simp only [List.mem_cons,List.mem_nil_iff,or_false];rintro d (rfl | rfl) <;> first | exact li _ (by omega) (by omega) | exact lb _) (by simp) (fun a b e=>by simp only [List.cons.injEq,PyData.int.injEq,reduceCtorEq,false_and,and_false,and_true] at e;omega) (by simp [PyData.bulk,PyData.bulkAll])
 ·exact fin [.int i,.int y.length] (jZ (at_ A11 n12 B12 f12) rfl) (by simp only [List.mem_cons,List.mem_nil_iff,or_false];rintro d (rfl | rfl) <;> first | exact li _ (by omega) (by omega) | exact lb _) (by simp) (fun a b e=>by simp only [List.cons.injEq,PyData.int.injEq,reduceCtorEq,false_and,and_false,and_true] at e;omega) (by simp [PyData.bulk,PyData.bulkAll])
 ·exact fin [.bool false,.int j] (jZ (at_ A14 n15 B15 f15) (by simp [Fi])) (by simp only [List.mem_cons,List.mem_nil_iff,or_false];rintro d (rfl | rfl) <;> first | exact li _ (by omega) (by omega) | exact lb _) (by simp) (fun a b e=>by simp at e) (by simp [PyData.bulk,PyData.bulkAll])
 ·exact fin [.int i,.bool false] (jZ (at_ A15 n16 B16 f16) (by simp [Fi])) (by simp only [List.mem_cons,List.mem_nil_iff,or_false];rintro d (rfl | rfl) <;> first | exact li _ (by omega) (by omega) | exact lb _) (by simp) (fun a b e=>by simp at e) (by simp [PyData.bulk,PyData.bulkAll])
theorem BV:bG aY "_law_found":=by trivial
theorem OD:bG aY "_law_way":=by trivial
theorem BW:bG aY "_law_thread":=by trivial
theorem BX:bG aY "_law_at":=by trivial
theorem OJ:bG aY "_law_to":=by trivial
theorem KY:bZ aY "_law_take":=by trivial
theorem O1:bZ aY "len":=by trivial
theorem Yy:bG aY "_law_top":=by trivial
theorem Gk:bG aY "_law_purse_here":=by trivial
theorem Yz:bG aY "_law_side":=by trivial
theorem kz6h:bZ aY "_law_pair":=by trivial
theorem kz6i:bZ aY "list":=by trivial
def Hy (p f:Addr) (H:Hp):Hp:=Hx f (Hx p H)
theorem O2 (p f:Addr) (H:Hp):Same (Hy p f H) H:=(eY f _).trans (eY p H)
theorem KZ {p f b:Addr} {H:Hp} {o:HO} (h:H b=some o) (n:b≠p) (n':b≠f):Hy p f H b=some o:=d9 (d9 h n) n'
def Chg2 (p f:Addr) (H H':Hp):Prop:=∀ b o,b≠p->b≠f->H b=some o->H' b=some o
theorem tO {p f:Addr} {H H':Hp} (c:Chg2 p f H H'):Same (Hy p f H) (Hy p f H'):=fun b o e=>by
 unfold Hy Hx at e ⊢
 split at e
 ·cases e
 ·rename_i h1
  split at e
  ·cases e
  ·rename_i h2
   rw [if_neg h1,if_neg h2]
   exact c b o h2 h1 e
theorem Chg2.of {p f:Addr} {H H':Hp} (c:Chg p H H'):Chg2 p f H H':=fun b o n _ e=>c b o n e
theorem Chg2.trans {p f:Addr} {H H1 H2:Hp} (a:Chg2 p f H H1) (b:Chg2 p f H1 H2):Chg2 p f H H2:=fun c o n m e=>b c o n m (a c o n m e)
theorem Chg2.put {p f:Addr} {H:Hp} {o:HO}:Chg2 p f H (upd H f o):=fun b u _ m e=>by rw [aC m];exact e
theorem uR {p f:Addr} {H:Hp} {gs:List PyData} {us:List V} {k:Nat} {g:PyData} {m:Addr} (hR:RDs (Hy p f H) gs us) (r:RD (Hy p f H) g (.ref m)):RDs (Hy p f (upd H f (.lst (us.set k (.ref m))))) (gs.set k g) (us.set k (.ref m)):=
 yH k (RDs.same (tO Chg2.put) _ _ hR) (RD.same (tO Chg2.put) _ _ r)
theorem Chg2.sm {p f:Addr} {H H':Hp} (s:Same H H'):Chg2 p f H H':=fun b o _ _ e=>s b o e
theorem uT {p:PP} (h1:p.1<=48) (h2:p.2<=48):HpOk (pD p):=.inr ⟨_,.inr rfl,by
 simp only [List.mem_cons,List.mem_nil_iff,or_false]
 rintro d (rfl | rfl) <;> exact yM (by omega) (by omega)⟩
def G3 (gs:List PyData):Prop:=∀ g∈gs,HpOk g/\kY g<=3
theorem G3.pairs {ps:List PP} (h:∀ x∈ps,x.1<=48/\x.2<=48):G3 (ps.map pD):=fun g hg=>by
 obtain ⟨x,hx,rfl⟩:=List.mem_map.mp hg
 exact ⟨uT (h x hx).1 (h x hx).2,by simp [pD,kY]⟩
theorem G3.set {gs:List PyData} {k:Nat} {g:PyData} (h:G3 gs) (h':HpOk g/\kY g<=3):G3 (gs.set k g):=fun x hx=>by
 rcases List.mem_or_eq_of_mem_set hx with h1 | h1
 ·exact h x h1
 ·rw [h1];exact h'
def Vj:Sp:=fun vs H Q _=>∃ (p t:Addr) (us:List V) (ps:List PP) (z y:Str),vs=[.ref p,.ref t,.str z,.str y]/\Pur H p/\t≠p/\H t=some (.lst us)/\RDs (Hx p H) (ps.map pD) us/\ps≠[]/\ps.length<=48/\(∀ x∈ps,x.1<=48/\x.2<=48)/\0 < z.length/\z.length<=48/\0 < y.length/\y.length<=48/\
 ∀ m gs H',RD (Hx p H') (.list gs) (.ref m)->G3 gs->gs.length=ps.length->Pur H' p->Chg p H H'->Q (.ref m) H'
theorem fO:aJ ["_law_purse_here","_law_thread","_law_side","_law_top","_law_at","_law_to","_law_way","_law_found"] ["_law_purse_here","_law_thread","_law_side","_law_top"] (au aY):=⟨rfl,rfl,rfl,by trivial,rfl,by trivial,by trivial⟩
theorem lQ (T:Txt K mg):pQ P w K mg base 3 "_law_as_long" ["_law_purse_here","_law_thread","_law_side","_law_top"] Vj:=by
 have aF:=aF (P:=P) (w:=w) (base:=base) T
 have qH:=qH (P:=P) (w:=w) (base:=base) T
 refine iQ T.d_law_as_long fO (fun _ _ _ _ _ _ us hl=>L2.Ql (fun _ _ _ _=>rfl) us hl) ?_ fun f cdv A outer s H vs Q E hr h=>?_
 ·rintro vs H Q E ⟨p,t,us,ps,z,y,rfl,_⟩;rfl
 obtain ⟨p,t,us,ps,z,y,rfl,hP,nt,ht,hR,hne,hl,hf,z0,z1,y0,y1,q⟩:=h
 have hu:=hr.units0
 have hu64:=hr.units
 refine ⟨_,(aq (aN (i:=4) fO.nd rfl (Or.inl BX) (aH aF (hr.mono (by decide)) (aX KY) (aa (ak 0 Gk) (aa (aB (aG (K:=K) rfl) (aX O1) T.b_len bJ (aa (ak 1 BW) aj) (by trivial) (by trivial)) aj)) (by trivial)) rfl) (aq (aN (i:=5) fO.nd rfl (Or.inl OJ) (aH aF (hr.mono (by decide)) (aX KY) (aa (ak 0 Gk) (aa (aB (aG (K:=K) rfl) (aX O1) T.b_len bJ (aa (ak 1 BW) aj) (by trivial) (by trivial)) aj)) (by trivial)) rfl) (aq (aN (i:=6) fO.nd rfl (Or.inl OD) (aH aF (hr.mono (by decide)) (aX KY) (aa (ak 0 Gk) (aa az aj)) (by trivial)) rfl) (aq (aN (i:=7) fO.nd rfl (Or.inl BV) (oF (j9 (K:=K) rfl rfl) (aX kz6i) T.b_list gC (aa (ak 1 BW) aj) (by trivial) (by trivial)) rfl) (aq (bM (bH (fj (K:=K) rfl hu64) (ak 6 OD) az (by walk_at "p")) (aq (lB (ts:=qW) (aV (K:=K) rfl (ak 1 BW) (ak 5 OJ)) (oH (ak 7 BV) (ak 4 BX) (o7 hu64))) (aA (lB (ts:=qW) (aV (K:=K) rfl (ak 1 BW) (ak 4 BX)) (oH (ak 7 BV) (ak 5 OJ) (o7 hu64))))) (aA (bM (bH (fj (K:=K) rfl hu64) (ak 6 OD) az (by walk_at "p")) (aA (lB (ts:=qW) (aV (K:=K) rfl (ak 1 BW) (ak 5 OJ)) (oH (ak 7 BV) (ak 4 BX) (o7 hu64)))) (aA (bM (bH (fj (K:=K) rfl hu64) (ak 6 OD) az (by walk_at "p")) (aA (lB (ts:=qW) (cI (aa (aH aF (hr.mono (by decide)) (aX KY) (aa (ak 0 Gk) (aa (aB (aG (K:=K) rfl) (aX O1) T.b_len bJ (aa (ak 2 Yz) aj) (by trivial) (by trivial)) aj)) (by trivial)) (aa (aH aF (hr.mono (by decide)) (aX KY) (aa (ak 0 Gk) (aa (aB (aG (K:=K) rfl) (aX O1) T.b_len bJ (aa (ak 3 Yy) aj) (by trivial) (by trivial)) aj)) (by trivial)) aj))) (oH (ak 7 BV) (ak 4 BX) (o7 hu64)))) (aA (lB (ts:=qW) (aH qH (hr.mono (by decide)) (aX kz6h) (aa (ak 0 Gk) (aa (aV (K:=K) rfl (ak 1 BW) (ak 4 BX)) (aa (ak 2 Yz) (aa (ak 3 Yy) aj)))) (by trivial)) (oH (ak 7 BV) (ak 4 BX) (o7 hu64))))))))) (aA (aD (ak 7 BV)))))))),?_⟩
 walk_at "s"
 have lz:z.length<=sizeLine:=Nat.le_trans z1 (by decide)
 have ly:y.length<=sizeLine:=Nat.le_trans y1 (by decide)
 have hul:=bB hR
 rw [List.length_map] at hul
 have hpos:0 < ps.length:=List.length_pos_iff.mpr hne
 refine jR (SqL.of ht) ?_
 walk_at "s"
 refine ⟨p,_,rfl,hP,by omega,by omega,fun a1 H1 a0 a2 P1 C1=>?_⟩
 walk_at "s"
 obtain ⟨a,rfl⟩:∃ k:Nat,a1=(k:Int):=⟨a1.toNat,by omega⟩
 have ht1:=C1.at_ ht nt
 refine jR (SqL.of ht1) ?_
 walk_at "s"
 refine ⟨p,_,rfl,P1,by omega,by omega,fun b1 H2 b0 b2 P2 C2=>?_⟩
 walk_at "s"
 obtain ⟨b,rfl⟩:∃ k:Nat,b1=(k:Int):=⟨b1.toNat,by omega⟩
 have ht2:=C2.at_ ht1 nt
 refine ⟨p,4,rfl,P2,by omega,by omega,fun way H3 w0 w1 P3 C3=>?_⟩
 walk_at "s"
 have ht3:=C3.at_ ht2 nt
 have C03:Chg p H H3:=(C1.trans C2).trans C3
 refine oY ht3 fun f H4 nf S4 g4=>?_
 walk_at "s"
 have C04:Chg p H H4:=C03.trans (Chg.of_same S4)
 have P4:=bw P3 S4
 have fp:f≠p:=P3.ne nf
 have nfH:H f=none:=C03.none_ nf fp
 have ht4:=S4 _ _ ht3
 have R4:RDs (Hy p f H4) (ps.map pD) us:=RDs.same (fun b o e=>by
  have e2:=eY _ _ _ _ e
  have np:b≠p:=fun z=>by unfold Hx at e;rw [if_pos z] at e;cases e
  exact KZ (C04.at_ e2 np) np fun z=>by rw [z,nfH] at e2;cases e2) _ _ hR
 have la:a < ps.length:=by omega
 have lb:b < ps.length:=by omega
 obtain ⟨va,ea,ra⟩:=yI (k:=a) R4 (by rw [List.getElem?_map,List.getElem?_eq_getElem la];rfl)
 obtain ⟨vb,eb,rb⟩:=yI (k:=b) R4 (by rw [List.getElem?_map,List.getElem?_eq_getElem lb];rfl)
 obtain ⟨ca,rfl,hca⟩:=iG.mp (show RD (Hy p f H4) (.tuple [.int (ps[a].1:Int),.int (ps[a].2:Int)]) va from ra)
 obtain ⟨cb,rfl,hcb⟩:=iG.mp (show RD (Hy p f H4) (.tuple [.int (ps[b].1:Int),.int (ps[b].2:Int)]) vb from rb)
 have iA:uH us (a:Int)=some (.ref ca):=dJ (by omega) (by simpa using ea)
 have iB:uH us (b:Int)=some (.ref cb):=dJ (by omega) (by simpa using eb)
 have ixA:Cp us.length (a:Int)=some a:=by unfold Cp;rw [if_pos (by omega),if_pos (by omega),Int.toNat_natCast]
 have ixB:Cp us.length (b:Int)=some b:=by unfold Cp;rw [if_pos (by omega),if_pos (by omega),Int.toNat_natCast]
 have fa:=hf _ (List.getElem_mem la)
 have fb:=hf _ (List.getElem_mem lb)
 have g0:G3 (ps.map pD):=.pairs hf
 have fin:∀ gs us' H',H' f=some (.lst us')->RDs (Hy p f H') gs us'->G3 gs->gs.length=ps.length->Pur H' p->Chg2 p f H4 H'->Q (.ref f) H':=fun gs us' H' h r g l P C=>
  q f gs H' (aO.mpr ⟨f,us',rfl,d9 h fp,RDs.same (eY f _) _ _ r⟩) g l P fun b o n e=>C b o n (fun z=>by rw [z,nfH] at e;cases e) (C04 b o n e)
 have nft:t≠f:=fun z=>by rw [z,nf] at ht3;cases ht3
 refine lu (fun hw=>?_) (fun hw=>?_)
 ·walk_at "s"
  refine bD (SqL.of ht4) iB ?_
  walk_at "s"
  refine qX g4 ixA ?_
  walk_at "s"
  refine bD (SqL.of (by rw [aC nft];exact ht4)) iA ?_
  walk_at "s"
  refine qX ao (by rw [List.length_set];exact ixB) ?_
  walk_at "s"
  have R5:=uR (k:=a) R4 (show RD (Hy p f H4) (pD ps[b]) (.ref cb) from rb)
  refine fin (((ps.map pD).set a (pD ps[b])).set b (pD ps[a])) _ _ ao (uR R5 (RD.same (tO Chg2.put) _ _ (show RD (Hy p f H4) (pD ps[a]) (.ref ca) from ra))) ((g0.set ⟨uT fb.1 fb.2,by simp [pD,kY]⟩).set ⟨uT fa.1 fa.2,by simp [pD,kY]⟩) (by simp) ?_ (Chg2.put.trans Chg2.put)
  obtain ⟨x,y,z,e,r⟩:=P4
  exact ⟨x,y,z,by rw [aC (Ne.symm fp),aC (Ne.symm fp)];exact e,r⟩
 ·walk_at "s"
  refine lu (fun hw=>?_) (fun hw=>?_)
  ·walk_at "s"
   refine bD (SqL.of ht4) iB ?_
   walk_at "s"
   refine qX g4 ixA ?_
   walk_at "s"
   refine fin ((ps.map pD).set a (pD ps[b])) _ _ ao (uR R4 rb) (g0.set ⟨uT fb.1 fb.2,by simp [pD,kY]⟩) (by simp) ?_ Chg2.put
   obtain ⟨x,y,z,e,r⟩:=P4
   exact ⟨x,y,z,by rw [aC (Ne.symm fp)];exact e,r⟩
  ·walk_at "s"
   refine lu (fun hw=>?_) (fun hw=>?_)
   ·walk_at "s"
    refine fZ lz ?_
    walk_at "s"
    refine ⟨p,_,rfl,P4,by omega,by omega,fun c1 H5 c0 c2 P5 C5=>?_⟩
    walk_at "s"
    refine fZ ly ?_
    walk_at "s"
    refine ⟨p,_,rfl,P5,by omega,by omega,fun d1 H6 d0 d2 P6 C6=>?_⟩
    walk_at "s"
    refine bh rfl fun m G6 nm S6 gm=>?_
    walk_at "s"
    have C46:Chg2 p f H4 G6:=(Chg2.of (C5.trans C6)).trans (Chg2.sm S6)
    have hf6:=S6 _ _ (C6.at_ (C5.at_ g4 fp) fp)
    have P7:=bw P6 S6
    have mp:m≠p:=P6.ne nm
    have mf:m≠f:=fun z=>by rw [z,C6.at_ (C5.at_ g4 fp) fp] at nm;cases nm
    refine qX hf6 ixA ?_
    walk_at "s"
    refine fin ((ps.map pD).set a (.tuple [.int c1,.int d1])) _ _ ao (uR (RDs.same (tO C46) _ _ R4) (iG.mpr ⟨m,rfl,KZ gm mp mf⟩)) (g0.set ⟨.inr ⟨_,.inr rfl,?_⟩,by simp [kY]⟩) (by simp) ?_ (C46.trans Chg2.put)
    ·simp only [List.mem_cons,List.mem_nil_iff,or_false]
     rintro d (rfl | rfl) <;> exact yM (by omega) (by omega)
    ·obtain ⟨x,y,z,e,r⟩:=P7
     exact ⟨x,y,z,by rw [aC (Ne.symm fp)];exact e,r⟩
   ·walk_at "s"
    refine bD (SqL.of ht4) iA ?_
    walk_at "s"
    refine ⟨p,ca,ps[a].1,ps[a].2,z,y,rfl,P4,O2 _ _ _ _ _ hca,fa.1,fa.2,z1,y1,fun v d H5 rv od P5 C5=>?_⟩
    walk_at "s"
    refine qX (C5.at_ g4 fp) ixA ?_
    walk_at "s"
    have rv2:RD (Hy p f H5) d v:=RD.same (H:=HN H4 H5) (fun e o h=>by
     obtain ⟨h1,h2⟩:=Va h
     exact KZ h2 (P4.ne h1) fun z=>by rw [z,g4] at h1;cases h1) _ _ rv
    refine fin ((ps.map pD).set a d) _ _ ao (yH a (RDs.same (tO ((Chg2.of C5).trans Chg2.put)) _ _ R4) (RD.same (tO Chg2.put) _ _ rv2)) (g0.set ⟨od.h,od.c⟩) (by simp) ?_ ((Chg2.of C5).trans Chg2.put)
    obtain ⟨x,y,z,e,r⟩:=P5
    exact ⟨x,y,z,by rw [aC (Ne.symm fp)];exact e,r⟩
end
local macro_rules | `(tactic| walk_at "s") => `(tactic| (with_reducible repeat (first | refine wY ?_ | walk_at "3")))
local macro_rules | `(tactic| walk_at "n") => `(tactic| (with_reducible repeat (walk_at "3")))
section
variable {P:Program} {w:World} {K:W.Frag} {mg:Str->Option Value} {base:Heap}
theorem uz:(["_law_pair_here"]:List Str).Nodup:=by trivial
theorem uA:(["_law_heap"]:List Str).Nodup:=by trivial
theorem uB:(["_law_heap"]:List Str).Nodup:=by trivial
theorem uC:(["_law_heap"]:List Str).Nodup:=by trivial
theorem YB:bG aM "_law_some":=by trivial
theorem Vk:bZ aM "_law_take":=by trivial
theorem O3:bG aM "_law_purse_here":=by trivial
theorem oZ:bG aM "_law_thread":=by trivial
theorem pN:bG aM "_law_heaps":=by trivial
theorem yN:bG aM "_law_way":=by trivial
theorem yO:bG aM "_law_at":=by trivial
theorem kz6q:bZ aM "_law_pairs":=by trivial
theorem YC:bG aM "_law_top":=by trivial
theorem YD:bG aM "_law_side":=by trivial
theorem kz6t:bZ aM "_law_as_long":=by trivial
theorem kz6u:bZ aM "max":=by trivial
theorem kz6v:bZ aM "len":=by trivial
theorem YF:bG aM "_law_paper":=by trivial
theorem kz6x:bZ aM "list":=by trivial
def TL (d:PyData):Prop:=∃ gs,d= .list gs/\Th gs
theorem TL.all:∀ {ds:List PyData},(∀ d∈ds,TL d)->PyData.showableAll ds=true/\PyData.depthAll ds<=3/\PyData.leavesShortAll 60 ds=true/\PyData.bulkAll ds<=55000*ds.length
 | [],_=>⟨rfl,by simp [PyData.depthAll],rfl,by simp [PyData.bulkAll]⟩
 | d :: ds,h=>by
  obtain ⟨a,b,c,e⟩:=TL.all fun x hx=>h x (List.mem_cons_of_mem _ hx)
  obtain ⟨gs,rfl,t⟩:=h d (by simp)
  obtain ⟨a',b',c',e'⟩:=wk t.ok
  have:=t.len
  have:=t.cn
  simp only [PyData.showableAll,PyData.depthAll,PyData.leavesShortAll,PyData.bulkAll,PyData.showable,PyData.depth,PyData.leavesShort,PyData.bulk,a,c,a',c',List.length_cons]
  exact ⟨rfl,by omega,rfl,by omega⟩
theorem Vl {d:PyData} (lv:d.leavesShort 60=true) (bk:d.bulk<=200000):d.shown.length<=sizeLine:=by
 have e:=PyData.shown_le_bulk 60 (by omega) d lv
 refine Nat.le_trans (show d.shown.length<=62*200000+60 from ?_) (by decide)
 have:=Nat.mul_le_mul_left (60+2) bk
 omega
theorem TL.hb {x:PyData} (h:TL x):(∀ ds,x= .list ds->ds.length<=5000)/\Uk x/\Yj x:=by
 obtain ⟨gs,rfl,t⟩:=h
 exact ⟨fun ds e=>by cases e;have:=t.len;omega,t.ask.hb,t.ask.hl⟩
theorem TL.askT {ds:List PyData} (h:∀ d∈ds,TL d) (hl:ds.length<=3):Gi (.tuple ds):=by
 obtain ⟨a,b,c,e⟩:=TL.all h
 refine ⟨by simp only [PyData.showable];exact a,by simp only [PyData.depth];omega,Vl (by simp only [PyData.leavesShort];exact c) (by simp only [PyData.bulk];omega),fun x y e=>?_⟩
 cases e
 exact ⟨(h x (by simp)).hb.1,(h y (by simp)).hb.2⟩
theorem TL.askL {ds:List PyData} (h:∀ d∈ds,TL d) (hl:ds.length<=3):Gi (.list ds):=by
 obtain ⟨a,b,c,e⟩:=TL.all h
 exact ⟨by simp only [PyData.showable];exact a,by simp only [PyData.depth];omega,Vl (by simp only [PyData.leavesShort];exact c) (by simp only [PyData.bulk];omega),fun x y e=>by cases e⟩
theorem Th.ask2 {gs:List PyData} (h:Th gs):Gi (.list gs):=⟨h.ask.sh,h.ask.dp,h.ask.ft,fun x y e=>by cases e⟩
theorem G3.th {gs:List PyData} (h:G3 gs) (hl:gs.length<=100):Th gs:=by
 refine ⟨by omega,fun g hg=>(h g hg).1,?_⟩
 have:∀ l:List PyData,(∀ g∈l,kY g<=3)->(l.map kY).sum<=3*l.length:=fun l hl=>by
  induction l with
  | nil=>simp
  | cons a l ih=>
   have:=ih fun g hg=>hl g (List.mem_cons_of_mem _ hg)
   have:=hl a (by simp)
   simp only [List.map_cons,List.sum_cons,List.length_cons]
   omega
 have:=this gs fun g hg=>(h g hg).2
 omega
theorem t8 {H:Hp}:∀ {ds:List PyData} {vs:List V},RDs H ds vs->RDs H ds.reverse vs.reverse
 | [],vs,h=>by rw [aU] at h;subst h;exact aU.mpr rfl
 | d :: ds,vs,h=>by
  rw [cZ] at h
  obtain ⟨v,r,rfl,h1,h2⟩:=h
  rw [List.reverse_cons,List.reverse_cons]
  exact c7 (t8 h2) (bF h1 (aU.mpr rfl))
theorem DK:∀ l:List PP,((l.map fun x=>[x]).map List.length).sum=l.length
 | []=>rfl
 | a :: l=>by simp only [List.map_cons,List.sum_cons,DK l,List.length_cons,List.length_nil];omega
theorem xG:∀ hs:List (List PP),((hs.map fun h=>h.take 1).map List.length).sum<=(hs.map List.length).sum
 | []=>by simp
 | a :: l=>by
  have:=xG l
  simp only [List.map_cons,List.sum_cons,List.length_take]
  omega
def K1:Sp:=fun vs H Q _=>∃ (p kp:Addr) (ps:List PP) (hs:List (List PP)) (z y:Str),vs=[.ref p,.ref kp,.str z,.str y]/\Pur H p/\RD (Hx p H) (.tuple [.list (ps.map pD),.list (hs.map hD)]) (.ref kp)/\HS hs/\ps.length<=48/\(∀ x∈ps,x.1 < z.length/\x.2 < y.length)/\Row z/\Row y/\
 ∀ v d H',RD (Hx p H') d v->Gi d->Pur H' p->Chg p H H'->Q v H'
theorem gB:aJ ["_law_purse_here","_law_paper","_law_side","_law_top","_law_thread","_law_heaps","_law_way","_law_at","_law_some"] ["_law_purse_here","_law_paper","_law_side","_law_top"] (au aM):=⟨rfl,rfl,rfl,by trivial,rfl,by trivial,by trivial⟩
theorem mO (T:Txt K mg):pQ P w K mg base 4 "_law_spoilt" ["_law_purse_here","_law_paper","_law_side","_law_top"] K1:=by
 have aF:=aF (P:=P) (w:=w) (base:=base) T
 have lQ:=lQ (P:=P) (w:=w) (base:=base) T
 have dG:=dG (P:=P) (w:=w) (base:=base) T
 refine iQ T.d_law_spoilt gB (fun _ _ _ _ _ _ us hl=>L2.Ql (fun _ _ _ _=>rfl) us hl) ?_ fun f cdv A outer s H vs Q E hr h=>?_
 ·rintro vs H Q E ⟨p,kp,ps,hs,z,y,rfl,_⟩;rfl
 obtain ⟨p,kp,ps,hs,z,y,rfl,hP,hK,hS,hpl,hpf,hz,hy,q⟩:=h
 have hu:=hr.units0
 have hu64:=hr.units
 refine ⟨_,(aq (Ti (i:=4) (j:=5) rfl gB.nd rfl rfl (by decide) oZ pN (aa (oF (j9 (K:=K) rfl rfl) (aX kz6x) T.b_list gC (aa (aV (K:=K) rfl (ak 1 YF) az) aj) (by trivial) (by trivial)) (aa (gO (sub:=[none]) (cH (N:=["_law_purse_here","_law_paper","_law_side","_law_top","_law_thread","_law_heaps","_law_way","_law_at","_law_some"]) (sc:=au aM) (N':=["_law_heap"]) (by trivial)) rfl rfl rfl (cT (K:=K) rfl (aV (K:=K) rfl (ak 1 YF) az)) (fun C s₀ H₀ ex=>(oG 0 (by trivial) uC)) (fun C s₀ H₀ ex=>dW) (fun C s₀ H₀ ex=>(oF (j9 (K:=K) rfl rfl) (Gq (by trivial)) T.b_list gC (aa (iI 0 (by trivial)) aj) (by trivial) (by trivial)))) aj))) (aq (aN (i:=6) gB.nd rfl (Or.inl yN) (aH aF (hr.mono (by decide)) (aX Vk) (aa (ak 0 O3) (aa az aj)) (by trivial)) rfl) (aq (aN (i:=7) gB.nd rfl (Or.inl yO) (aH aF (hr.mono (by decide)) (aX Vk) (aa (ak 0 O3) (aa (aB (Ff rfl) (aX kz6u) T.b_max vm (aa az (aa (aB (aG (K:=K) rfl) (aX kz6v) T.b_len bJ (aa (ak 4 oZ) aj) (by trivial) (by trivial)) aj)) (by trivial) (by trivial)) aj)) (by trivial)) rfl) (aq (bM (iK (Iz (bH uU (ak 6 yN) az (by walk_at "p")) (CJ (bH (my (K:=K) rfl hu64) (ak 4 oZ) (dj aj) (by walk_at "p"))))) (aA (aD (cI (aa (aH lQ (hr.mono (by decide)) (aX kz6t) (aa (ak 0 O3) (aa (ak 4 oZ) (aa (ak 2 YD) (aa (ak 3 YC) aj)))) (by trivial)) (aa (ak 5 pN) aj))))) bx) (aq (bM (bH (fj (K:=K) rfl hu64) (ak 6 yN) az (by walk_at "p")) (aA (aD (cI (aa (bY bz (fQ (gK (K:=K) rfl) (ak 4 oZ) dU (eQ (ak 7 yO))) (fQ (gK (K:=K) rfl) (ak 4 oZ) (eQ (bY bz (ak 7 yO) az)) dU)) (aa (ak 5 pN) aj))))) bx) (aq (bM (bH (fj (K:=K) rfl hu64) (ak 6 yN) az (by walk_at "p")) (aA (aD (cI (aa (dj aj) (aa (ak 5 pN) aj))))) bx) (aq (bM (bH (fj (K:=K) rfl hu64) (ak 6 yN) az (by walk_at "p")) (aA (aD (cI (aa (ak 4 oZ) (aa (bY bz (gO (sub:=[none]) (cH (N:=["_law_purse_here","_law_paper","_law_side","_law_top","_law_thread","_law_heaps","_law_way","_law_at","_law_some"]) (sc:=au aM) (N':=["_law_heap"]) (by trivial)) rfl rfl rfl (cT (K:=K) rfl (ak 5 pN)) (fun C s₀ H₀ ex=>(oG 0 (by trivial) uA)) (fun C s₀ H₀ ex=>dW) (fun C s₀ H₀ ex=>(fQ (gK (K:=K) rfl) (iI 0 (by trivial)) dU (eQ az)))) (gO (sub:=[none]) (cH (N:=["_law_purse_here","_law_paper","_law_side","_law_top","_law_thread","_law_heaps","_law_way","_law_at","_law_some"]) (sc:=au aM) (N':=["_law_heap"]) (by trivial)) rfl rfl rfl (cT (K:=K) rfl (ak 5 pN)) (fun C s₀ H₀ ex=>(oG 0 (by trivial) uB)) (fun C s₀ H₀ ex=>(CN (bH uU (aB (aG (K:=K) rfl) (Gq (by trivial)) T.b_len bJ (aa (iI 0 (by trivial)) aj) (by trivial) (by trivial)) az (by walk_at "p")))) (fun C s₀ H₀ ex=>(fQ (gK (K:=K) rfl) (iI 0 (by trivial)) (eQ az) dU)))) aj))))) bx) (aq (bM (bH (fj (K:=K) rfl hu64) (ak 6 yN) az (by walk_at "p")) (aA (aD (cI (aa (ak 4 oZ) (aa (bY bz (fQ (gK (K:=K) rfl) (ak 5 pN) dU (eQ (ak 7 yO))) (fQ (gK (K:=K) rfl) (ak 5 pN) (eQ (bY bz (ak 7 yO) az)) dU)) aj))))) bx) (aq (bM (bH (fj (K:=K) rfl hu64) (ak 6 yN) az (by walk_at "p")) (aA (aD (cI (aa (ak 4 oZ) (aa (Fg (K:=K) rfl (ak 5 pN) dU dU (eQ (wz lH az))) aj))))) bx) (aq (bM (bH (fj (K:=K) rfl hu64) (ak 6 yN) az (by walk_at "p")) (aA (aD (cI (aa (ak 4 oZ) (aa (gO (sub:=[none]) (cH (N:=["_law_purse_here","_law_paper","_law_side","_law_top","_law_thread","_law_heaps","_law_way","_law_at","_law_some"]) (sc:=au aM) (N':=["_law_pair_here"]) (by trivial)) rfl rfl rfl (cT (K:=K) rfl (aH dG (hr.mono (by decide)) (aX kz6q) (aa (ak 2 YD) (aa (ak 3 YC) aj)) (by trivial))) (fun C s₀ H₀ ex=>(oG 0 (by trivial) uz)) (fun C s₀ H₀ ex=>dW) (fun C s₀ H₀ ex=>(dj (aa (iI 0 (by trivial)) aj)))) aj))))) bx) (aq (bM (bH (fj (K:=K) rfl hu64) (ak 6 yN) az (by walk_at "p")) (aA (aD (cI (aa (bY bz (fQ (gK (K:=K) rfl) (ak 4 oZ) dU (eQ (ak 7 yO))) (fQ (gK (K:=K) rfl) (ak 4 oZ) (eQ (bY bz (ak 7 yO) az)) dU)) (aa (bY bz (fQ (gK (K:=K) rfl) (ak 5 pN) dU (eQ (ak 7 yO))) (fQ (gK (K:=K) rfl) (ak 5 pN) (eQ (bY bz (ak 7 yO) az)) dU)) aj))))) bx) (aq (aN (i:=8) gB.nd rfl (Or.inl YB) (dj (aa (cI (aa (ak 5 pN) (aa (ak 4 oZ) aj))) (aa (dj (aa (ak 4 oZ) (aa (ak 5 pN) aj))) (aa (cI (aa (ak 4 oZ) (aa (ak 5 pN) (aa (dj aj) aj)))) (aa (cI (aa (ak 4 oZ) aj)) (aa Pn (aa (cI aj) (aa (cI (aa (ak 5 pN) (aa (ak 5 pN) aj))) (aa (ak 4 oZ) aj))))))))) rfl) (aA (aD (aV (K:=K) rfl (ak 8 YB) (aH aF (hr.mono (by decide)) (aX Vk) (aa (ak 0 O3) (aa az aj)) (by trivial))))))))))))))))),?_⟩
 walk_at "s"
 obtain ⟨kp',kvs,ek,hkp,hkR⟩:=cJ.mp hK
 cases ek
 obtain ⟨v1,v2,rfl,r1,r2⟩:=mH hkR
 obtain ⟨t0,us,rfl,ht0,RT0⟩:=aO.mp r1
 obtain ⟨h0,hus0,rfl,hh0,RH0⟩:=aO.mp r2
 have hkp':=eY _ _ _ _ hkp
 have ht0':=eY _ _ _ _ ht0
 have hh0':=eY _ _ _ _ hh0
 have lz:=hz.1
 have ly:=hy.1
 have hpf48:∀ x∈ps,x.1<=48/\x.2<=48:=fun x hx=>by have:=hpf x hx;omega
 have lus:=bB RT0
 have lhus:=bB RH0
 rw [List.length_map] at lus lhus
 have hsl:=hS.len
 have hsa:=hS.all
 have zl:sizeLine>=5000:=by decide
 refine ju (SqT.of hkp') (i:=0) (v:=.ref t0) (dJ (by omega) rfl) ?_
 walk_at "s"
 refine oY ht0' fun t H1 nt S1 gt=>?_
 walk_at "s"
 have tp:t≠p:=hP.ne nt
 have P1:=bw hP S1
 refine ju (SqT.of (S1 _ _ hkp')) (i:=1) (v:=.ref h0) (dJ (by omega) rfl) ?_
 walk_at "s"
 refine .inl ⟨h0,rfl,⟨_,SqL.of (S1 _ _ hh0')⟩,?_⟩
 refine eG (xs:=hus0) (fun i ys H'=>Same H1 H'/\RDs (Hx p H') ((hs.map hD).take i) ys) (by omega) ⟨Same.refl _,aU.mpr rfl⟩ ?_ ?_ ?_ ?_
 ·rintro i ys H' ⟨_,h⟩
  have:=bB h
  rw [List.length_take] at this
  omega
 ·rintro i ys H' ⟨S2,_⟩
  exact SqL.of ((S1.trans S2) _ _ hh0')
 ·rintro i ys H2 x hx ⟨S2,r⟩
  obtain ⟨d,e1,e2⟩:=fG RH0 hx
  obtain ⟨h,eh,rfl⟩:=Option.map_eq_some_iff.mp (by rw [List.getElem?_map] at e1;exact e1)
  obtain ⟨c,ws,rfl,hc,hW⟩:=aO.mp e2
  have S12:=S1.trans S2
  walk_at "s"
  refine ⟨KeepSt.set rfl,?_⟩
  walk_at "s"
  try with_reducible refine jz ?_
  walk_at "s"
  refine oY (S12 _ _ (eY _ _ _ _ hc)) fun m H3 nm S3 gm=>⟨S2.trans S3,?_⟩
  rw [List.take_add_one,e1]
  refine c7 (RDs.same (bC S3) _ _ r) (bF (aO.mpr ⟨m,ws,rfl,d9 gm ((bw hP S12).ne nm),?_⟩) (aU.mpr rfl))
  exact RDs.same (bC (S12.trans S3)) _ _ hW
 ·rintro hus H2 ⟨S2,r2'⟩ hp nhp
  rw [lhus,List.take_of_length_le (by simp)] at r2'
  have lhs:=bB r2'
  rw [List.length_map] at lhs
  have S12:=S1.trans S2
  have hpp:hp≠p:=(bw hP S12).ne nhp
  have S3:=S12.upd (o:=.lst hus) nhp
  have S23:=(Same.refl H2).upd (o:=.lst hus) nhp
  have ht3:upd H2 hp (.lst hus) t=some (.lst us):=S23 _ _ (S2 _ _ gt)
  have hh3:upd H2 hp (.lst hus) hp=some (.lst hus):=ao
  have RT3:=RDs.same (bC (p:=p) S3) _ _ RT0
  have RH3:=RDs.same (bC (p:=p) S23) _ _ r2'
  have P3:=bw hP S3
  generalize upd H2 hp (.lst hus)=H3 at S3 ht3 hh3 RT3 RH3 P3 ⊢
  walk_at "s"
  refine ⟨p,14,rfl,P3,by omega,by omega,fun way H4 w0 w1 P4 C4=>?_⟩
  walk_at "s"
  have ht4:=C4.at_ ht3 tp
  refine jR (SqL.of ht4) ?_
  walk_at "n"
  refine ⟨p,_,rfl,P4,by split <;> omega,by split <;> omega,fun a1 H5 a0 a2 P5 C5=>?_⟩
  walk_at "n"
  have C05:Chg p H H5:=((Chg.of_same S3).trans C4).trans C5
  have C35:Chg p H3 H5:=C4.trans C5
  obtain ⟨a,rfl⟩:∃ k:Nat,a1=(k:Int):=⟨a1.toNat,by omega⟩
  have thT:Th (ps.map pD):=(G3.pairs hpf48).th (by rw [List.length_map];omega)
  have thH:Th (hs.map hD):=xF hS.few (by omega) (by omega)
  have fin:∀ (m:Addr) (v1 v2:V) (g1 g2:List PyData) (H':Hp),H' m=some (.tup [v1,v2])->m≠p->RD (Hx p H') (.list g1) v1->RD (Hx p H') (.list g2) v2->Th g1->Th g2->Pur H' p->Chg p H H'->Q (.ref m) H':=fun m v1 v2 g1 g2 H' h n r1 r2 t1 t2 P C=>
   q _ (.tuple [.list g1,.list g2]) H' (cJ.mpr ⟨m,_,rfl,d9 h n,bF r1 (bF r2 (aU.mpr rfl))⟩) (TL.askT (by
    simp only [List.mem_cons,List.mem_nil_iff,or_false]
    rintro d (rfl | rfl)
    ·exact ⟨_,rfl,t1⟩
    ·exact ⟨_,rfl,t2⟩) (by simp)) P C
  with_reducible refine WP (fun U H'=>H' t=some (.lst us)/\H' hp=some (.lst hus)/\RDs (Hx p H') (ps.map pD) us/\RDs (Hx p H') (hs.map hD) hus/\Pur H' p/\Chg p H H'/\U=[some (.ref p),some (.ref kp),some (.str z),some (.str y),some (.ref t),some (.ref hp),some (.int way),some (.int a),none]) ?_ ?_
  rotate_left
  ·intro N hN
   have ht5:=C5.at_ ht4 tp
   have hh5:=C35.at_ hh3 hpp
   have RT5:=RDs.same (qD C35) _ _ RT3
   have RH5:=RDs.same (qD C35) _ _ RH3
   walk_at "n"
   by_cases hw:8 < way
   ·rw [decide_eq_true hw]
    walk_at "n"
    refine bh rfl fun e0 H6 n0 S6 g0=>?_
    refine .inl (.inl (Je (d:=.list (ps.map pD)) (e:=.list []) (o4.mpr ⟨t,us,rfl,S6 _ _ ht5,uP _ _ (KH _) (RDs.same (S6.trans (Same.refl _)) _ _ (RDs.same (eY _ _) _ _ RT5))⟩) (o4.mpr ⟨e0,[],rfl,g0,dg.mpr rfl⟩) (xn _) rfl ?_))
    rw [Dv]
    cases he:(ps.map pD).isEmpty with
    | true=>
     walk_at "n"
     exact hN _ _ ⟨S6 _ _ ht5,S6 _ _ hh5,RDs.same (bC S6) _ _ RT5,RDs.same (bC S6) _ _ RH5,bw P5 S6,C05.trans (Chg.of_same S6),rfl⟩
    | false=>
     have hne:ps≠[]:=fun z=>by rw [z] at he;cases he
     have h0:=hpf _ (List.getElem_mem (List.length_pos_iff.mpr hne))
     walk_at "n"
     refine ⟨p,t,us,ps,z,y,rfl,bw P5 S6,tp,S6 _ _ ht5,RDs.same (bC S6) _ _ RT5,hne,hpl,hpf48,by omega,lz,by omega,ly,fun m gs H7 rm g3 gl P7 C7=>?_⟩
     walk_at "n"
     refine bh rfl fun e1 H8 n1 S8 g8=>?_
     have RH7:=RDs.same (qD C7) _ _ (RDs.same (bC S6) _ _ RH5)
     exact fin e1 _ _ gs _ H8 g8 (P7.ne n1) (RD.same (bC S8) _ _ rm) (aO.mpr ⟨hp,hus,rfl,d9 (S8 _ _ (C7.at_ (S6 _ _ hh5) hpp)) hpp,RDs.same (bC S8) _ _ RH7⟩) (g3.th (by omega)) thH (bw P7 S8) (((C05.trans (Chg.of_same S6)).trans C7).trans (Chg.of_same S8))
   ·rw [decide_eq_false hw]
    walk_at "n"
    exact hN _ _ ⟨ht5,hh5,RT5,RH5,P5,C05,rfl⟩
  rintro U B ⟨htB,hhB,RTB,RHB,PB,CB,rfl⟩
  clear P5 C5 C05 C35 P4 C4 ht4 RT3 RH3 P3 ht3 hh3
  have a1':((a:Int)+1)=((a+1:Nat):Int):=by omega
  have rdT:∀ {B':Hp},Same B B'->RD (Hx p B') (.list (ps.map pD)) (.ref t):=fun s=>aO.mpr ⟨t,us,rfl,d9 (s _ _ htB) tp,RDs.same (bC s) _ _ RTB⟩
  have rdH:∀ {B':Hp},Same B B'->RD (Hx p B') (.list (hs.map hD)) (.ref hp):=fun s=>aO.mpr ⟨hp,hus,rfl,d9 (s _ _ hhB) hpp,RDs.same (bC s) _ _ RHB⟩
  have cutT:Th ((ps.take a).map pD ++ (ps.drop (a+1)).map pD):=by
   rw [← List.map_append]
   refine (G3.pairs fun x hx=>?_).th (by simp;omega)
   rcases List.mem_append.mp hx with h | h
   ·exact hpf48 x (List.mem_of_mem_take h)
   ·exact hpf48 x (List.mem_of_mem_drop h)
  have cutH:Th ((hs.take a).map hD ++ (hs.drop (a+1)).map hD):=by
   rw [← List.map_append]
   have e1:((hs.take a).map List.length).sum+((hs.drop a).map List.length).sum=(hs.map List.length).sum:=by
    rw [← List.sum_append,← List.map_append,List.take_append_drop]
   have e2:((hs.drop (a+1)).map List.length).sum<=((hs.drop a).map List.length).sum:=by
    by_cases ha:a < hs.length
    ·rw [List.drop_eq_getElem_cons ha,List.map_cons,List.sum_cons];omega
    ·rw [List.drop_eq_nil_of_le (by omega)];simp
   refine xF (fun h hh=>?_) (by simp;omega) (by rw [List.map_append,List.sum_append];omega)
   rcases List.mem_append.mp hh with h1 | h1
   ·exact hS.few h (List.mem_of_mem_take h1)
   ·exact hS.few h (List.mem_of_mem_drop h1)
  have tkT:RDs (Hx p B) ((ps.take a).map pD) (us.take a):=by rw [List.map_take];exact rN _ RTB
  have drT:RDs (Hx p B) ((ps.drop (a+1)).map pD) (us.drop (a+1)):=by rw [List.map_drop];exact rO _ RTB
  have tkH:RDs (Hx p B) ((hs.take a).map hD) (hus.take a):=by rw [List.map_take];exact rN _ RHB
  have drH:RDs (Hx p B) ((hs.drop (a+1)).map hD) (hus.drop (a+1)):=by rw [List.map_drop];exact rO _ RHB
  walk_at "s"
  refine lu (fun hw=>?_) (fun hw=>?_)
  ·walk_at "s"
   refine lL htB fun m1 G1 n1 S1' g1=>?_
   walk_at "s"
   rw [oK] at g1
   rw [a1']
   refine lL (S1' _ _ htB) fun m2 G2 n2 S2' g2=>?_
   walk_at "s"
   rw [kJ] at g2
   refine mK (S2' _ _ g1) g2 (by rw [List.length_take,List.length_drop];omega) fun m3 G3' n3 S3' g3=>?_
   walk_at "s"
   refine bh rfl fun m4 G4 n4 S4' g4=>?_
   have T3:=(S1'.trans S2').trans S3'
   have T4:=T3.trans S4'
   exact fin m4 _ _ _ _ G4 g4 ((bw PB T3).ne n4) (aO.mpr ⟨m3,_,rfl,d9 (S4' _ _ g3) ((bw PB (S1'.trans S2')).ne n3),c7 (RDs.same (bC T4) _ _ tkT) (RDs.same (bC T4) _ _ drT)⟩) (rdH T4) cutT thH (bw PB T4) (CB.trans (Chg.of_same T4))
  walk_at "s"
  refine lu (fun hw=>?_) (fun hw=>?_)
  ·walk_at "s"
   refine bh rfl fun m1 G1 n1 S1' g1=>?_
   walk_at "s"
   refine bh rfl fun m4 G4 n4 S4' g4=>?_
   have T4:=S1'.trans S4'
   exact fin m4 _ _ [] _ G4 g4 ((bw PB S1').ne n4) (aO.mpr ⟨m1,_,rfl,d9 (S4' _ _ g1) (PB.ne n1),aU.mpr rfl⟩) (rdH T4) ⟨by simp,by simp,by simp⟩ thH (bw PB T4) (CB.trans (Chg.of_same T4))
  walk_at "s"
  refine lu (fun hw=>?_) (fun hw=>?_)
  ·walk_at "s"
   refine .inl ⟨hp,rfl,⟨_,SqL.of hhB⟩,?_⟩
   refine eG (xs:=hus) (fun i ys H'=>Same B H'/\RDs (Hx p H') (((hs.map fun h=>h.take 1).take i).map hD) ys) (by omega) ⟨Same.refl _,aU.mpr rfl⟩ ?_ ?_ ?_ ?_
   ·rintro i ys H' ⟨_,h⟩
    have:=bB h
    simp only [List.length_map,List.length_take] at this
    omega
   ·rintro i ys H' ⟨s,_⟩
    exact SqL.of (s _ _ hhB)
   ·rintro i ys G1 x hx ⟨s,r⟩
    obtain ⟨d,e1,e2⟩:=fG RHB hx
    rw [List.getElem?_map] at e1
    obtain ⟨h,eh,rfl⟩:=Option.map_eq_some_iff.mp e1
    obtain ⟨c,ws,rfl,hc,hW⟩:=aO.mp e2
    walk_at "s"
    refine ⟨KeepSt.set rfl,?_⟩
    walk_at "s"
    try with_reducible refine jz ?_
    walk_at "s"
    refine lL (s _ _ (eY _ _ _ _ hc)) fun m G2 nm s2 gm=>⟨s.trans s2,?_⟩
    rw [show nJ ws none (some 1)=ws.take 1 from oK (k:=1)] at gm
    rw [List.take_add_one,List.getElem?_map,eh,List.map_append]
    refine c7 (RDs.same (bC s2) _ _ r) (bF (aO.mpr ⟨m,_,rfl,d9 gm ((bw PB s).ne nm),?_⟩) (aU.mpr rfl))
    show RDs _ ((h.take 1).map pD) _
    rw [List.map_take]
    exact RDs.same (bC (s.trans s2)) _ _ (rN 1 hW)
   ·rintro ys1 G1 ⟨s1,r1'⟩ D1 nD1
    rw [lhs,List.take_of_length_le (by simp)] at r1'
    have ly1:=bB r1'
    simp only [List.length_map] at ly1
    have s12:=(Same.refl G1).upd (o:=.lst ys1) nD1
    have gD1:upd G1 D1 (.lst ys1) D1=some (.lst ys1):=ao
    generalize upd G1 D1 (.lst ys1)=G2 at s12 gD1 ⊢
    have s02:=s1.trans s12
    have P2:=bw PB s02
    walk_at "s"
    refine .inl ⟨hp,rfl,⟨_,SqL.of (s02 _ _ hhB)⟩,?_⟩
    refine eG (xs:=hus) (fun i ys H'=>Same G2 H'/\∃ hs':List (List PP),RDs (Hx p H') (hs'.map hD) ys/\(∀ h∈hs',∀ x∈h,x.1<=48/\x.2<=48)/\hs'.length<=i/\(hs'.map List.length).sum<=((hs.take i).map List.length).sum) (by omega) ⟨Same.refl _,[],aU.mpr rfl,by simp,by simp,by simp⟩ ?_ ?_ ?_ ?_
    ·rintro i ys H' ⟨_,hs',r,_,l,_⟩
     have:=bB r
     rw [List.length_map] at this
     omega
    ·rintro i ys H' ⟨s,_⟩
     exact SqL.of ((s02.trans s) _ _ hhB)
    ·rintro i ys G3 x hx ⟨s,hs',r,fw,l,sm⟩
     obtain ⟨d,e1,e2⟩:=fG RHB hx
     rw [List.getElem?_map] at e1
     obtain ⟨h,eh,rfl⟩:=Option.map_eq_some_iff.mp e1
     obtain ⟨c,ws,rfl,hc,hW⟩:=aO.mp e2
     have s03:=s02.trans s
     have tks:((hs.take (i+1)).map List.length).sum=((hs.take i).map List.length).sum+h.length:=by
      rw [List.take_add_one,eh,List.map_append,List.sum_append]
      simp
     walk_at "s"
     refine ⟨KeepSt.set rfl,?_⟩
     walk_at "s"
     refine jR (SqL.of (s03 _ _ (eY _ _ _ _ hc))) ?_
     walk_at "s"
     by_cases hw1:1 < (ws.length:Int)
     ·rw [decide_eq_true hw1]
      walk_at "s"
      refine lL (s03 _ _ (eY _ _ _ _ hc)) fun m G4 nm s4 gm=>⟨s.trans s4,hs' ++ [h.drop 1],?_,fun g hg=>?_,by simp;omega,?_⟩
      ·rw [show nJ ws (some 1) none=ws.drop 1 from kJ (k:=1)] at gm
       rw [List.map_append]
       refine c7 (RDs.same (bC s4) _ _ r) (bF (aO.mpr ⟨m,_,rfl,d9 gm ((bw PB s03).ne nm),?_⟩) (aU.mpr rfl))
       rw [List.map_drop]
       exact RDs.same (bC (s03.trans s4)) _ _ (rO 1 hW)
      ·rcases List.mem_append.mp hg with hg | hg
       ·exact fw g hg
       ·rw [List.mem_singleton.mp hg]
        exact fun x hx=>hS.few h (List.mem_of_getElem? eh) x (List.mem_of_mem_drop hx)
      ·rw [tks,List.map_append,List.sum_append]
       simp only [List.map_cons,List.map_nil,List.sum_cons,List.sum_nil,List.length_drop]
       omega
     ·rw [decide_eq_false hw1]
      walk_at "s"
      exact ⟨s,hs',r,fw,by omega,by omega⟩
    ·rintro ys2 G3 ⟨s3,hs',r3,fw,l3,sm⟩ D2 nD2
     rw [lhs,List.take_length] at sm
     have ly2:=bB r3
     rw [List.length_map] at ly2
     have s34:=(Same.refl G3).upd (o:=.lst ys2) nD2
     have gD2:upd G3 D2 (.lst ys2) D2=some (.lst ys2):=ao
     generalize upd G3 D2 (.lst ys2)=G4 at s34 gD2 ⊢
     have s24:=s3.trans s34
     have s04:=s02.trans s24
     walk_at "s"
     refine mK (s24 _ _ gD1) gD2 (by omega) fun m5 G5 n5 s5 g5=>?_
     walk_at "s"
     refine bh rfl fun m6 G6 n6 s6 g6=>?_
     have s06:=(s04.trans s5).trans s6
     refine fin m6 _ _ _ ((hs.map fun h=>h.take 1).map hD ++ hs'.map hD) G6 g6 ((bw PB (s04.trans s5)).ne n6) (rdT s06) (aO.mpr ⟨m5,_,rfl,d9 (s6 _ _ g5) ((bw PB s04).ne n5),c7 (RDs.same (bC (((s12.trans s24).trans s5).trans s6)) _ _ r1') (RDs.same (bC ((s34.trans s5).trans s6)) _ _ r3)⟩) thT ?_ (bw PB s06) (CB.trans (Chg.of_same s06))
     rw [← List.map_append]
     have e1:=xG hs
     refine xF (fun h hh=>?_) (by simp;omega) (by rw [List.map_append,List.sum_append];omega)
     rcases List.mem_append.mp hh with h1 | h1
     ·obtain ⟨h0,m0,rfl⟩:=List.mem_map.mp h1
      exact fun x hx=>hS.few h0 m0 x (List.mem_of_mem_take hx)
     ·exact fw h h1
  walk_at "s"
  refine lu (fun hw=>?_) (fun hw=>?_)
  ·walk_at "s"
   refine lL hhB fun m1 G1 n1 S1' g1=>?_
   walk_at "s"
   rw [oK] at g1
   rw [a1']
   refine lL (S1' _ _ hhB) fun m2 G2 n2 S2' g2=>?_
   walk_at "s"
   rw [kJ] at g2
   refine mK (S2' _ _ g1) g2 (by rw [List.length_take,List.length_drop];omega) fun m3 G3' n3 S3' g3=>?_
   walk_at "s"
   refine bh rfl fun m4 G4 n4 S4' g4=>?_
   have T3:=(S1'.trans S2').trans S3'
   have T4:=T3.trans S4'
   exact fin m4 _ _ _ _ G4 g4 ((bw PB T3).ne n4) (rdT T4) (aO.mpr ⟨m3,_,rfl,d9 (S4' _ _ g3) ((bw PB (S1'.trans S2')).ne n3),c7 (RDs.same (bC T4) _ _ tkH) (RDs.same (bC T4) _ _ drH)⟩) thT cutH (bw PB T4) (CB.trans (Chg.of_same T4))
  walk_at "s"
  refine lu (fun hw=>?_) (fun hw=>?_)
  ·walk_at "s"
   refine ⟨hp,hus,-1,rfl,rfl,by decide,SqL.of hhB,by rw [zH,List.length_reverse];omega,fun m1 n1=>?_⟩
   rw [zH]
   have s1:=(Same.refl B).upd (o:=.lst hus.reverse) n1
   have g1:upd B m1 (.lst hus.reverse) m1=some (.lst hus.reverse):=ao
   generalize upd B m1 (.lst hus.reverse)=G1 at s1 g1 ⊢
   walk_at "s"
   refine bh rfl fun m4 G4 n4 S4' g4=>?_
   have T4:=s1.trans S4'
   refine fin m4 _ _ _ (hs.map hD).reverse G4 g4 ((bw PB s1).ne n4) (rdT T4) (aO.mpr ⟨m1,_,rfl,d9 (S4' _ _ g1) (PB.ne n1),RDs.same (bC T4) _ _ (t8 RHB)⟩) thT ?_ (bw PB T4) (CB.trans (Chg.of_same T4))
   rw [← List.map_reverse]
   exact xF (fun h hh=>hS.few h (List.mem_reverse.mp hh)) (by simp;omega) (by rw [List.map_reverse,List.sum_reverse];omega)
  walk_at "s"
  refine lu (fun hw=>?_) (fun hw=>?_)
  ·walk_at "s"
   refine ⟨z,y,rfl,hz,hy,fun q1 HF nq1 SF PL3=>?_⟩
   walk_at "s"
   obtain ⟨vs,hv,hvl,hvd⟩:=PL3.len
   have pf:=DG lz ly
   have PF:=bw PB SF
   refine .inl ⟨q1,rfl,⟨_,SqL.of hv⟩,?_⟩
   refine eG (xs:=vs) (fun i ys H'=>Same HF H'/\RDs (Hx p H') ((((prs z.cps.toList y.cps.toList z.length).take i).map fun x=>[x]).map hD) ys) (by omega) ⟨Same.refl _,aU.mpr rfl⟩ ?_ ?_ ?_ ?_
   ·rintro i ys H' ⟨_,h⟩
    have:=bB h
    simp only [List.length_map,List.length_take] at this
    omega
   ·rintro i ys H' ⟨s,_⟩
    exact SqL.of (s _ _ hv)
   ·rintro i ys HG x hx ⟨SG,rG⟩
    obtain ⟨pp,b,ep,rfl,hb⟩:=PL.at_ (q:=q1) hvd hx
    have bp:b≠p:=fun e=>by
     obtain ⟨x,y,w,e2,_⟩:=PF
     rw [e,e2] at hb
     cases hb
    walk_at "s"
    refine ⟨KeepSt.set rfl,?_⟩
    walk_at "s"
    try with_reducible refine jz ?_
    walk_at "s"
    refine bh rfl fun m HH nm SH gm=>⟨SG.trans SH,?_⟩
    rw [List.take_add_one,ep,List.map_append,List.map_append]
    refine c7 (RDs.same (bC SH) _ _ rG) (bF (aO.mpr ⟨m,_,rfl,d9 gm ((bw PF SG).ne nm),bF (iG.mpr ⟨b,rfl,d9 ((SG.trans SH) _ _ hb) bp⟩) (aU.mpr rfl)⟩) (aU.mpr rfl))
   ·rintro us2 HG ⟨SG,rG⟩ D3 nD3
    rw [hvl,List.take_length] at rG
    have l2:y.length=y.cps.toList.length:=cC y
    have SH:=(Same.refl HG).upd (o:=.lst us2) nD3
    have gD3:upd HG D3 (.lst us2) D3=some (.lst us2):=ao
    generalize upd HG D3 (.lst us2)=HH at SH gD3 ⊢
    walk_at "s"
    refine bh rfl fun m4 G4 n4 S4' g4=>?_
    have T3:=(SF.trans SG).trans SH
    have T4:=T3.trans S4'
    refine fin m4 _ _ _ _ G4 g4 ((bw PB T3).ne n4) (rdT T4) (aO.mpr ⟨D3,us2,rfl,d9 (S4' _ _ gD3) ((bw PB (SF.trans SG)).ne nD3),RDs.same (bC (SH.trans S4')) _ _ rG⟩) thT (xF (fun h hh' x hx=>?_) (by rw [List.length_map];omega) (by rw [DK];omega)) (bw PB T4) (CB.trans (Chg.of_same T4))
    obtain ⟨x0,hx0,rfl⟩:=List.mem_map.mp hh'
    rw [List.mem_singleton.mp hx]
    have:=jt hx0
    omega
  walk_at "s"
  refine lu (fun hw=>?_) (fun hw=>?_)
  ·walk_at "s"
   refine lL htB fun m1 G1 n1 S1' g1=>?_
   walk_at "s"
   rw [oK] at g1
   rw [a1']
   refine lL (S1' _ _ htB) fun m2 G2 n2 S2' g2=>?_
   walk_at "s"
   rw [kJ] at g2
   refine mK (S2' _ _ g1) g2 (by rw [List.length_take,List.length_drop];omega) fun m3 G3' n3 S3' g3=>?_
   walk_at "s"
   have T3:=(S1'.trans S2').trans S3'
   refine lL (T3 _ _ hhB) fun m5 G5 n5 S5' g5=>?_
   walk_at "s"
   rw [oK] at g5
   rw [a1']
   have T5:=T3.trans S5'
   refine lL (T5 _ _ hhB) fun m6 G6 n6 S6' g6=>?_
   walk_at "s"
   rw [kJ] at g6
   have T6:=T5.trans S6'
   refine mK (S6' _ _ g5) g6 (by rw [List.length_take,List.length_drop];omega) fun m7 G7 n7 S7' g7=>?_
   walk_at "s"
   have T7:=T6.trans S7'
   refine bh rfl fun m4 G4 n4 S4' g4=>?_
   have T4:=T7.trans S4'
   exact fin m4 _ _ _ _ G4 g4 ((bw PB T7).ne n4) (aO.mpr ⟨m3,_,rfl,d9 ((S5'.trans (S6'.trans (S7'.trans S4'))) _ _ g3) ((bw PB (S1'.trans S2')).ne n3),c7 (RDs.same (bC T4) _ _ tkT) (RDs.same (bC T4) _ _ drT)⟩) (aO.mpr ⟨m7,_,rfl,d9 (S4' _ _ g7) ((bw PB T6).ne n7),c7 (RDs.same (bC T4) _ _ tkH) (RDs.same (bC T4) _ _ drH)⟩) cutT cutH (bw PB T4) (CB.trans (Chg.of_same T4))
  walk_at "s"
  refine bh rfl fun e1 G1 n1 S1' f1=>?_
  walk_at "s"
  refine bh rfl fun e2 G2 n2 S2' f2=>?_
  walk_at "s"
  refine bh rfl fun e3 G3 n3 S3' f3=>?_
  walk_at "s"
  refine bh rfl fun e4 G4 n4 S4' f4=>?_
  walk_at "s"
  refine bh rfl fun e5 G5 n5 S5' f5=>?_
  walk_at "s"
  refine bh rfl fun e6 G6 n6 S6' f6=>?_
  walk_at "s"
  refine bh rfl fun e7 G7 n7 S7' f7=>?_
  walk_at "s"
  refine bh rfl fun e8 G8 n8 S8' f8=>?_
  walk_at "s"
  have A0:=Same.refl B
  have A1:=A0.trans S1'
  have A2:=A1.trans S2'
  have A3:=A2.trans S3'
  have A4:=A3.trans S4'
  have A5:=A4.trans S5'
  have A6:=A5.trans S6'
  have A7:=A6.trans S7'
  have A8:=A7.trans S8'
  have B8:=Same.refl G8
  have B7:=S8'.trans B8
  have B6:=S7'.trans B7
  have B5:=S6'.trans B6
  have B4:=S5'.trans B5
  have B3:=S4'.trans B4
  have B2:=S3'.trans B3
  have B1:=S2'.trans B2
  refine ⟨p,8,rfl,bw PB A8,by omega,by omega,fun c H8 c0 c1 P8 C8=>?_⟩
  walk_at "s"
  have at_:∀ {e:Addr} {G G':Hp} {o:HO},Same B G->G e=none->Same G' G8->G' e=some o->Hx p H8 e=some o:=fun {e G G' o} s n s2 h=>d9 (C8.at_ (s2 _ _ h) (PB.ne (s.free n))) (PB.ne (s.free n))
  have CC:Chg p H H8:=(CB.trans (Chg.of_same A8)).trans C8
  obtain ⟨tv,htv,etv⟩:=Io (vs:=[.ref e1,.ref e2,.ref e4,.ref e5,.non,.ref e6,.ref e7,.ref t]) (d:=c) c0 (by simpa using c1)
  refine bD (SqL.of (C8.at_ f8 (PB.ne (A7.free n8)))) etv ?_
  walk_at "s"
  have T8:RD (Hx p H8) (.list (ps.map pD)) (.ref t):=RD.same (qD C8) _ _ (rdT A8)
  have H8':RD (Hx p H8) (.list (hs.map hD)) (.ref hp):=RD.same (qD C8) _ _ (rdH A8)
  have tlT:TL (.list (ps.map pD)):=⟨_,rfl,thT⟩
  have tlH:TL (.list (hs.map hD)):=⟨_,rfl,thH⟩
  have tl0:TL (.list []):=⟨[],rfl,by simp,by simp,by simp⟩
  simp only [List.mem_cons,List.mem_nil_iff,or_false] at htv
  rcases htv with rfl | rfl | rfl | rfl | rfl | rfl | rfl | rfl
  ·exact q _ (.tuple [.list (hs.map hD),.list (ps.map pD)]) H8 (cJ.mpr ⟨e1,_,rfl,at_ A0 n1 B1 f1,bF H8' (bF T8 (aU.mpr rfl))⟩) (TL.askT (by simp only [List.mem_cons,List.mem_nil_iff,or_false];rintro d (rfl | rfl) <;> assumption) (by simp)) P8 CC
  ·exact q _ (.list [.list (ps.map pD),.list (hs.map hD)]) H8 (aO.mpr ⟨e2,_,rfl,at_ A1 n2 B2 f2,bF T8 (bF H8' (aU.mpr rfl))⟩) (TL.askL (by simp only [List.mem_cons,List.mem_nil_iff,or_false];rintro d (rfl | rfl) <;> assumption) (by simp)) P8 CC
  ·exact q _ (.tuple [.list (ps.map pD),.list (hs.map hD),.list []]) H8 (cJ.mpr ⟨e4,_,rfl,at_ A3 n4 B4 f4,bF T8 (bF H8' (bF (aO.mpr ⟨e3,[],rfl,at_ A2 n3 B3 f3,aU.mpr rfl⟩) (aU.mpr rfl)))⟩) (TL.askT (by simp only [List.mem_cons,List.mem_nil_iff,or_false];rintro d (rfl | rfl | rfl) <;> assumption) (by simp)) P8 CC
  ·exact q _ (.tuple [.list (ps.map pD)]) H8 (cJ.mpr ⟨e5,_,rfl,at_ A4 n5 B5 f5,bF T8 (aU.mpr rfl)⟩) (TL.askT (by simp only [List.mem_cons,List.mem_nil_iff,or_false];rintro d rfl;assumption) (by simp)) P8 CC
  ·exact q _ .none H8 (uL.mpr rfl) ⟨rfl,by decide,Vl rfl (by decide),fun x y e=>by cases e⟩ P8 CC
  ·exact q _ (.tuple []) H8 (cJ.mpr ⟨e6,_,rfl,at_ A5 n6 B6 f6,aU.mpr rfl⟩) (TL.askT (by simp) (by simp)) P8 CC
  ·exact q _ (.tuple [.list (hs.map hD),.list (hs.map hD)]) H8 (cJ.mpr ⟨e7,_,rfl,at_ A6 n7 B7 f7,bF H8' (bF H8' (aU.mpr rfl))⟩) (TL.askT (by simp only [List.mem_cons,List.mem_nil_iff,or_false];rintro d (rfl | rfl) <;> assumption) (by simp)) P8 CC
  ·exact q _ (.list (ps.map pD)) H8 T8 thT.ask2 P8 CC
end
local macro_rules | `(tactic| walk_at "s") => `(tactic| (with_reducible repeat (first | refine wY ?_ | walk_at "0")))
local macro_rules | `(tactic| walk_at "n") => `(tactic| (with_reducible repeat (walk_at "0")))
section
variable {P:Program} {w:World} {K:W.Frag} {mg:Str->Option Value} {base:Heap}
theorem wG:(["number"]:List Str).Nodup:=by trivial
theorem Vm:bG cO "heaps":=by trivial
theorem kz6z:bZ cO "pairs_of":=by trivial
theorem YG:bG cO "top":=by trivial
theorem YH:bG cO "side":=by trivial
theorem O5:bG cO "pair":=by trivial
theorem Vn:bG cO "table":=by trivial
theorem kz74:bZ cO "range":=by trivial
theorem kz75:bZ cO "lengths":=by trivial
def Vo:Str->Str->Hp->VK->Prop:=fun side top H Q=>∀ (t:Addr) (rs:List Addr) (H':Hp),H t=none->(∀ r∈rs,H r=none)->Same H H'->
 HTab H' t rs (lev side.cps.toList top.cps.toList (lt side.cps.toList top.cps.toList side.length top.length).toNat (prs side.cps.toList top.cps.toList side.length))->Q (.ref t) H'
theorem lF:aJ ["side","top","table","heaps","pair"] ["side","top"] (au cO):=⟨rfl,rfl,rfl,by trivial,rfl,by trivial,by trivial⟩
theorem qI (T:Txt K mg):sE P w K mg base 6 "heaps_of" ["side","top"] (spX K mg Vo):=by
 have j7:=j7 (P:=P) (w:=w) (base:=base) T
 have jk:=jk (P:=P) (w:=w) (base:=base) T
 refine pW T.d_heaps_of lF (fun _ _ _ _ _ _ us hl=>L2.rP (fun _ _=>rfl) us hl) ?_ fun f cdv A outer s H vs Q E hr h=>?_
 ·rintro vs H Q E ⟨v,u,rfl,_⟩;rfl
 obtain ⟨v,u,rfl,hv,hu',qx,q⟩:=h
 have hu:=hr.units0
 have hu64:=hr.units
 refine ⟨_,(aq (aN (i:=2) lF.nd rfl (Or.inl Vn) (di j7 (hr.mono (by decide)) (aX kz75) dw (aa (ak 0 YH) (aa (ak 1 YG) aj)) (by trivial)) rfl) (aq (CQ (i:=3) lF.nd rfl (Or.inl Vm) (sub:=[none]) (cH (N:=["side","top","table","heaps","pair"]) (sc:=au cO) (N':=["number"]) (by trivial)) rfl rfl rfl (fU (aX kz74) T.b_range (aa (aV (K:=K) rfl (aV (K:=K) rfl (ak 2 Vn) (wz lH az)) (wz lH az)) aj)) (fun C s₀ H₀ ex=>(oG 0 (by trivial) wG)) (fun C s₀ H₀ ex=>dW) (fun C s₀ H₀ ex=>(dj aj)) rfl) (aq (yc (dN PassesOwn.never rfl (cT (K:=K) rfl (di jk (hr.mono (by decide)) (aX kz6z) (zE fun _ _=>rfl) (aa (ak 0 YH) (aa (ak 1 YG) aj)) (by trivial))) (bI (i:=4) lF.nd rfl (Or.inl O5) rfl) (aA (cU (kj (K:=K) rfl PySem.F.plainAttrs_list PySem.F.slot_list_append PySem.F.type_list_append gY (aV (K:=K) rfl (ak 3 Vm) (aV (K:=K) rfl (aV (K:=K) rfl (ak 2 Vn) (aV (K:=K) rfl (ak 4 O5) az)) (aV (K:=K) rfl (ak 4 O5) az))) (aa (ak 4 O5) aj)))))) (aA (aD (ak 3 Vm)))))),?_⟩
 walk_at "s"
 refine ⟨v,u,rfl,hv,hu',qx,fun side top e1 e2 hs ht t rs H1 nt fr S1 TB=>?_⟩
 subst e1 e2
 have hrl:rs.length=side.length+1:=by rw [TB.len];simp [iD]
 obtain ⟨r1,a1,er1,b1⟩:=sZ TB (k:=(side.length:Int)) (i:=side.length) rfl (by omega)
 have l0:=J6 side.cps.toList top.cps.toList side.length top.length
 have l1:=yo side.cps.toList top.cps.toList side.length top.length
 have hs1:=hs.1
 walk_at "s"
 refine bD (SqL.of TB.at_) (sY (n:=side.length) (v:=.ref r1) (by simp [hrl]) (by rw [List.getElem?_map,er1];rfl)) ?_
 walk_at "s"
 refine bD (SqL.of b1) (sY (n:=top.length) (v:=.int (lt side.cps.toList top.cps.toList side.length top.length)) (by rw [List.length_map,rD]) (by rw [List.getElem?_map,yj (by omega)];rfl)) ?_
 walk_at "s"
 refine ⟨_,rfl,by omega,by omega,?_⟩
 refine lW (fun i ys H'=>Same H1 H'/\∃ rs':List Addr,ys=rs'.map V.ref/\rs'.length=i/\rs'.Nodup/\∀ r∈rs',H1 r=none/\H' r=some (.lst [])) (Nat.le_trans (show _<=1000 by omega) (by decide)) ⟨Same.refl _,[],rfl,rfl,by simp,by simp⟩ (by rintro i ys H ⟨_,zs,rfl,hl,_⟩;simp [hl]) ?_ ?_
 ·rintro i ys H2 hi ⟨S2,rs',rfl,hl,hnd,hrs⟩
  walk_at "s"
  refine ⟨KeepSt.set rfl,?_⟩
  walk_at "s"
  try with_reducible refine jz ?_
  walk_at "s"
  refine ⟨by simp,fun r nr=>⟨S2.upd nr,rs' ++ [r],by simp,by simp [hl],?_,fun r' hr'=>?_⟩⟩
  ·rw [List.nodup_append]
   exact ⟨hnd,by simp,fun a ha b hb z=>by rw [List.mem_singleton.mp hb] at z;rw [z] at ha;rw [(hrs r ha).2] at nr;cases nr⟩
  ·rcases List.mem_append.mp hr' with h | h
   ·exact ⟨(hrs r' h).1,dM nr (hrs r' h).2⟩
   ·rw [List.mem_singleton.mp h];exact ⟨S2.free nr,ao⟩
 ·rintro ys H2 ⟨S2,rs',rfl,hl,hnd,hrs⟩ D hD
  walk_at "s"
  refine spX.good hs ht fun q1 H3 nq1 S3 PL3=>?_
  obtain ⟨vs,hv,hvl,hvd⟩:=PL3.len
  have S12:Same H1 (upd H2 D (.lst (rs'.map V.ref))):=S2.upd hD
  have HT2:HTab (upd H2 D (.lst (rs'.map V.ref))) D rs' (lev side.cps.toList top.cps.toList (lt side.cps.toList top.cps.toList side.length top.length).toNat []):=HTab.start (H1:=H1) hl hnd hrs hD
  have HT3:=HT2.same S3
  have TB3:=TB.same (S12.trans S3)
  have lrs:∀ r∈rs',∃ xs,H3 r=some (.lst xs):=fun r hr=>HT3.mem hr
  have nH1:∀ r∈rs',H1 r=none:=fun r hr=>(hrs r hr).1
  have ntr:t ∉ rs':=fun z=>by have:=nH1 t z;rw [TB.at_] at this;cases this
  have nrr:∀ r∈rs,r ∉ rs':=fun r hr z=>by have:=nH1 r z;obtain ⟨xs,e⟩:=TB.mem hr;rw [e] at this;cases this
  have nqr:q1 ∉ rs':=fun z=>by obtain ⟨xs,e⟩:=HT2.mem z;rw [e] at nq1;cases nq1
  refine .inl ⟨q1,rfl,⟨_,SqL.of hv⟩,?_⟩
  refine eZ (xs:=vs) (fun k U H'=>Out rs' H3 H'/\HTab H' D rs' (lev side.cps.toList top.cps.toList (lt side.cps.toList top.cps.toList side.length top.length).toNat ((prs side.cps.toList top.cps.toList side.length).take k))/\∃ x4,U=[some (.str side),some (.str top),some (.ref t),some (.ref D),x4])
   ⟨Out.refl _ _,by simpa using HT3,none,rfl⟩ (fun i U H' _ h=>SqL.of (h.1 _ _ nqr hv)) ?_ ?_
  ·rintro k v U H4 hk ⟨O4,HT4,x4,rfl⟩
   have tk4:=TK.out O4 lrs
   have TB4:=TB3.out O4 ntr nrr
   obtain ⟨p,a,ep,rfl,ha⟩:=PL.at_ (q:=q1) (jx tk4 _ _ hvd) hk
   have hm:=List.mem_of_getElem? ep
   obtain ⟨m1,m2,m3⟩:=jt hm
   obtain ⟨v1,v2⟩:=yp (n:=top.length) (by simp [Str.length]) hm
   have m2':p.2 < top.length:=by simpa [Str.length] using m2
   obtain ⟨r5,a5,er5,b5⟩:=sZ TB4 (k:=(p.1:Int)) (i:=p.1) rfl (by omega)
   have hL:(lt side.cps.toList top.cps.toList p.1 p.2).toNat < rs'.length:=by omega
   have er6:rs'[(lt side.cps.toList top.cps.toList p.1 p.2).toNat]?=some rs'[(lt side.cps.toList top.cps.toList p.1 p.2).toNat]:=List.getElem?_eq_getElem hL
   obtain ⟨ws,hw,hwl,HT5⟩:=HT4.push er6 (vU (by omega)) ha
   walk_at "s"
   refine bD (SqL.of TB4.at_) a5 ?_
   walk_at "s"
   refine bD (SqL.of b5) (qp (j:=p.2) rfl (by omega)) ?_
   walk_at "s"
   refine bD (SqL.of HT4.at_) (dJ v1 (v:=.ref rs'[(lt side.cps.toList top.cps.toList p.1 p.2).toNat]) (by rw [List.getElem?_map,er6];rfl)) ?_
   refine ⟨.inl ⟨rfl,_,SqL.of hw⟩,?_⟩
   walk_at "s"
   have hz:ws.length < sizeLine:=by
    have a:=rH side.cps.toList top.cps.toList side.length
    have c:side.length*top.cps.toList.length<=48*48:=Nat.mul_le_mul hs1 (by have:=ht.1;rw [cC] at this;exact this)
    have e:=List.length_filter_le (fun p':PP=>decide (lt side.cps.toList top.cps.toList p'.1 p'.2=(((lt side.cps.toList top.cps.toList p.1 p.2).toNat:Nat):Int))) ((prs side.cps.toList top.cps.toList side.length).take k)
    have f:((prs side.cps.toList top.cps.toList side.length).take k).length<=(prs side.cps.toList top.cps.toList side.length).length:=by rw [List.length_take];omega
    exact Nat.lt_of_lt_of_le (show ws.length < 5000 by omega) (by decide)
   refine gq hw hz ⟨O4.step (List.getElem_mem hL),?_,_,rfl⟩
   have et:(prs side.cps.toList top.cps.toList side.length).take (k+1)=(prs side.cps.toList top.cps.toList side.length).take k ++ [p]:=by rw [List.take_add_one,ep];rfl
   rw [et,zY (k:=(lt side.cps.toList top.cps.toList p.1 p.2).toNat) (by omega) (by omega)]
   exact HT5
  ·rintro U H4 ⟨O4,HT4,x4,rfl⟩
   walk_at "s"
   have nHD:H D=none:=S1.free (S2.free hD)
   refine q _ _ rfl rfl hs ht D rs' H4 nHD (fun r hr=>S1.free (nH1 r hr)) (O4.same ((S1.trans S12).trans S3) fun r hr=>S1.free (nH1 r hr)) ?_
   rw [hvl,List.take_of_length_le (Nat.le_refl _)] at HT4
   exact HT4
end
local macro_rules | `(tactic| walk_at "s") => `(tactic| (with_reducible repeat (first | refine wY ?_ | walk_at "3")))
local macro_rules | `(tactic| walk_at "n") => `(tactic| (with_reducible repeat (walk_at "3")))
section
variable {P:Program} {w:World} {K:W.Frag} {mg:Str->Option Value} {base:Heap}
theorem kz76:bZ gR "heaps_of":=by trivial
theorem YJ:bG gR "top":=by trivial
theorem YK:bG gR "side":=by trivial
theorem kz79:bZ gR "thread_of":=by trivial
theorem PL.rd {H:Hp} {a:Addr} {ps:List PP} (h:PL H a ps):RD H (.list (ps.map pD)) (.ref a):=by
 obtain ⟨vs,e,d⟩:=h
 exact aO.mpr ⟨a,vs,rfl,e,yJ d⟩
theorem YL {H:Hp} {p:Addr} (hP:Pur H p):TK H (Hx p H):=fun b xs e=>d9 e fun z=>by
 obtain ⟨x,y,w,e2,_⟩:=hP
 rw [z,e2] at e
 cases e
theorem PL.ne {H:Hp} {a p:Addr} {ps:List PP} (h:PL H a ps) (hP:Pur H p):a≠p:=fun z=>by
 obtain ⟨vs,e,d⟩:=h
 obtain ⟨x,y,w,e2,_⟩:=hP
 rw [z,e2] at e
 cases e
 cases ps with
 | nil=>have d':DRs H [] _:=d;rw [dg] at d';cases d'
 | cons q ps=>
  have d':DRs H (pD q :: ps.map pD) _:=d
  rw [du] at d'
  obtain ⟨v,r,e3,h1,_⟩:=d'
  obtain ⟨b,rfl,_⟩:=vR.mp h1
  cases e3
theorem PL.hx {H:Hp} {a p:Addr} {ps:List PP} (h:PL H a ps) (hP:Pur H p):PL (Hx p H) a ps:=
 h.keep (YL hP) fun vs e=>d9 e (h.ne hP)
theorem HTab.hx {H:Hp} {t p:Addr} {rs:List Addr} {hs:List (List PP)} (h:HTab H t rs hs) (hP:Pur H p):HTab (Hx p H) t rs hs:=by
 refine ⟨d9 h.at_ fun z=>?_,h.len,h.nd,h.ne,fun i r ps e1 e2=>(h.row i r ps e1 e2).hx hP⟩
 obtain ⟨x,y,w,e2,_⟩:=hP
 have:=h.at_
 rw [z,e2] at this
 have e:=HO.lst.inj (Option.some.inj this)
 cases rs with
 | nil=>cases e
 | cons r rs=>cases e
def Vp:Str->Str->Hp->VK->Prop:=fun side top H Q=>∀ (kp th hp:Addr) (rs:List Addr) (H':Hp),Same H H'->H' kp=some (.tup [.ref th,.ref hp])->H th=none->H hp=none->(∀ r∈rs,H r=none)->th≠hp->th ∉ rs->
 PL H' th (wb side.cps.toList top.cps.toList side.length top.length).reverse->HTab H' hp rs (lev side.cps.toList top.cps.toList (lt side.cps.toList top.cps.toList side.length top.length).toNat (prs side.cps.toList top.cps.toList side.length))->Q (.ref kp) H'
theorem Ak:aJ ["side","top"] ["side","top"] (au gR):=⟨rfl,rfl,rfl,by trivial,rfl,by trivial,by trivial⟩
theorem mQ (T:Txt K mg):sE P w K mg base 7 "paper_of" ["side","top"] (spX K mg Vp):=by
 have oU:=oU (P:=P) (w:=w) (base:=base) T
 have qI:=qI (P:=P) (w:=w) (base:=base) T
 refine pW T.d_paper_of Ak (fun _ _ _ _ _ _ us hl=>L2.rP (fun _ _=>rfl) us hl) ?_ fun f cdv A outer s H vs Q E hr h=>?_
 ·rintro vs H Q E ⟨v,u,rfl,_⟩;rfl
 obtain ⟨v,u,rfl,hv,hu',qx,q⟩:=h
 have hu:=hr.units0
 have hu64:=hr.units
 refine ⟨_,(aA (aD (cI (aa (di oU (hr.mono (by decide)) (aX kz79) dw (aa (ak 0 YK) (aa (ak 1 YJ) aj)) (by trivial)) (aa (di qI (hr.mono (by decide)) (aX kz76) dw (aa (ak 0 YK) (aa (ak 1 YJ) aj)) (by trivial)) aj))))),?_⟩
 walk_at "s"
 refine ⟨v,u,rfl,hv,hu',qx,fun side top e1 e2 hs ht r H1 nr S1 PL1=>?_⟩
 subst e1 e2
 walk_at "s"
 refine spX.good hs ht fun t rs H2 nt fr S2 HT=>?_
 walk_at "s"
 refine bh rfl fun kp H3 nk S3 gk=>?_
 obtain ⟨vs,ev,dv⟩:=id PL1
 refine q _ _ rfl rfl hs ht kp r t rs H3 ((S1.trans S2).trans S3) gk nr (S1.free nt) (fun x hx=>S1.free (fr x hx)) (fun z=>?_) (fun z=>?_) ((PL1.same S2).same S3) (HT.same S3)
 ·rw [← z,ev] at nt;cases nt
 ·have:=fr r z;rw [ev] at this;cases this
theorem K3:(["_law_heap"]:List Str).Nodup:=by trivial
theorem YM:bG dB "_law_script":=by trivial
theorem kz7b:bZ dB "_law_cell":=by trivial
theorem YQ:bG dB "_law_cell_here":=by trivial
theorem K4:bZ dB "_law_right":=by trivial
theorem Gm:bG dB "_law_kept":=by trivial
theorem uD:bG dB "_law_side":=by trivial
theorem uE:bG dB "_law_top":=by trivial
theorem kz7h:bZ dB "range":=by trivial
theorem kz7i:bG dB "_law_k":=by trivial
theorem kz7j:bZ dB "_law_spoilt":=by trivial
theorem Gn:bG dB "_law_purse_here":=by trivial
theorem YS:bZ dB "_law_levels":=by trivial
theorem YT:bZ dB "paper_of":=by trivial
theorem Al:bG dB "_law_paper":=by trivial
theorem YW:bG dB "_law_heap":=by trivial
theorem kz7p:bZ dB "list":=by trivial
theorem kz7q:bZ dB "_law_reads":=by trivial
theorem YX:bZ dB "_law_row":=by trivial
theorem Vq:bG dB "_law_most":=by trivial
theorem Vr:bG dB "_law_letters_here":=by trivial
theorem kz7u:bZ dB "_law_take":=by trivial
theorem kz7v:bZ dB "_law_letters":=by trivial
theorem kz7w:bZ dB "_law_purse":=by trivial
theorem O6 (ns:List Int) (lo hi:Option Int):∃ ms:List Int,nJ (ns.map V.int) lo hi=ms.map V.int:=by
 unfold nJ
 exact ⟨_,by rw [← List.map_drop,← List.map_take]⟩
theorem Vs:(113:Nat)∈GOOD:=by trivial
theorem YZ {z:Str} (h:Row z):Row (Txt.slice (z ++ Str.ofString "q") none (some 48)):=by
 have e:(Txt.slice (z ++ Str.ofString "q") none (some 48)).cps.toList=(z ++ Str.ofString "q").cps.toList.take 48:=Ju _ 48
 have e2:(z ++ Str.ofString "q").cps.toList=z.cps.toList ++ [113]:=by
  show (z.cps ++ (Str.ofString "q").cps).toList=_
  rw [Array.toList_append];rfl
 refine ⟨?_,fun c hc=>?_⟩
 ·rw [cC,e,List.length_take];omega
 ·rw [e,e2] at hc
  rcases List.mem_append.mp (List.mem_of_mem_take hc) with h1 | h1
  ·exact h.2 c h1
  ·rw [List.mem_singleton.mp h1];exact Vs
def Qk (K:W.Frag):Sp:=fun vs H Q _=>∃ (a:Addr) (ns:List Int),vs=[.ref a]/\SqL K H a (ns.map V.int)/\ns.length<=63/\∀ H',Q (.bl true) H'
theorem kZ:aJ ["_law_script","_law_cell_here","_law_purse_here","_law_letters_here","_law_most","_law_side","_law_top","_law_paper","_law_kept","_law_heap","_law_k"] ["_law_script"] (au dB):=⟨rfl,rfl,rfl,by trivial,rfl,by trivial,by trivial⟩
theorem Vt (T:Txt K mg) {f0:Addr} {fd0:FuncData} (F0:Fun K "law" "law" dB f0 fd0):rY P w K mg base Bc 10 f0 fd0 ["_law_script"] (Qk K):=by
 have oV:=oV (P:=P) (w:=w) (base:=base) T
 have lM:=lM (P:=P) (w:=w) (base:=base) T
 have pK:=pK (P:=P) (w:=w) (base:=base) T
 have mQ:=mQ (P:=P) (w:=w) (base:=base) T
 have qz:=qz (P:=P) (w:=w) (base:=base) T
 have aF:=aF (P:=P) (w:=w) (base:=base) T
 have fM:=fM (P:=P) (w:=w) (base:=base) T
 have ir:=ir (P:=P) (w:=w) (base:=base) T
 have j6:=j6 (P:=P) (w:=w) (base:=base) T
 have mO:=mO (P:=P) (w:=w) (base:=base) T
 refine okJ F0 kZ ?_ fun f cdv A outer s H vs Q E hr h=>?_
 ·rintro vs H Q E ⟨a,ns,rfl,_⟩;rfl
 obtain ⟨a,ns,rfl,hS,hlen,q⟩:=h
 have hu:=hr.units0
 have hu64:=hr.units
 refine ⟨_,(aq (dN PassesOwn.never rfl (cT (K:=K) rfl (bY bz (fQ (gK (K:=K) rfl) (ak 0 YM) dU (eQ az)) (dj (aa (aH qz (hr.mono (by decide)) (aX kz7b) (aa (ak 0 YM) (aa az aj)) (by trivial)) aj)))) (bI (i:=1) kZ.nd rfl (Or.inl YQ) rfl) (aq (aN (i:=2) kZ.nd rfl (Or.inl Gn) (aH oV (hr.mono (by decide)) (aX kz7w) (aa (ak 1 YQ) aj) (by trivial)) rfl) (aq (aN (i:=3) kZ.nd rfl (Or.inl Vr) (aH lM (hr.mono (by decide)) (aX kz7v) (aa (ak 2 Gn) aj) (by trivial)) rfl) (aq (aN (i:=4) kZ.nd rfl (Or.inl Vq) (aV (K:=K) rfl (dj (aa az (aa az (aa az (aa az aj))))) (aH aF (hr.mono (by decide)) (aX kz7u) (aa (ak 2 Gn) (aa az aj)) (by trivial))) rfl) (aq (aN (i:=5) kZ.nd rfl (Or.inl uD) (aH pK (hr.mono (by decide)) (aX YX) (aa (ak 2 Gn) (aa (ak 3 Vr) (aa (ak 4 Vq) aj))) (by trivial)) rfl) (aq (aN (i:=6) kZ.nd rfl (Or.inl uE) (aH pK (hr.mono (by decide)) (aX YX) (aa (ak 2 Gn) (aa (ak 3 Vr) (aa (ak 4 Vq) aj))) (by trivial)) rfl) (aq (aN (i:=7) kZ.nd rfl (Or.inl Al) (di mQ (hr.mono (by decide)) (aX YT) (zE fun _ _=>rfl) (aa (ak 5 uD) (aa (ak 6 uE) aj)) (by trivial)) rfl) (aq (bM (iK (gn (bN (bO (aH ir (hr.mono (by decide)) (aX kz7q) (aa (ak 5 uD) (aa (ak 6 uE) (aa (ak 7 Al) aj))) (by trivial)))) (gf (bH (my (K:=K) rfl hu64) (aV (K:=K) rfl (ak 7 Al) az) (aH j6 (hr.mono (by decide)) (aX YS) (aa (ak 5 uD) (aa (ak 6 uE) aj)) (by trivial)) (by walk_at "p"))))) (aA (aD iw)) bx) (aq (bM (bN (bO (aH fM (hr.mono (by decide)) (aX K4) (aa (ak 5 uD) (aa (ak 6 uE) (aa (ak 7 Al) aj))) (by trivial)))) (aA (aD iw)) bx) (aq (aN (i:=8) kZ.nd rfl (Or.inl Gm) (cI (aa (oF (j9 (K:=K) rfl rfl) (aX kz7p) T.b_list gC (aa (aV (K:=K) rfl (ak 7 Al) az) aj) (by trivial) (by trivial)) (aa (gO (sub:=[none]) (cH (N:=["_law_script","_law_cell_here","_law_purse_here","_law_letters_here","_law_most","_law_side","_law_top","_law_paper","_law_kept","_law_heap","_law_k"]) (sc:=au dB) (N':=["_law_heap"]) (by trivial)) rfl rfl rfl (cT (K:=K) rfl (aV (K:=K) rfl (ak 7 Al) az)) (fun C s₀ H₀ ex=>(oG 0 (by trivial) K3)) (fun C s₀ H₀ ex=>dW) (fun C s₀ H₀ ex=>(oF (j9 (K:=K) rfl rfl) (Gq (by trivial)) T.b_list gC (aa (iI 0 (by trivial)) aj) (by trivial) (by trivial)))) aj))) rfl) (aq (dN PassesOwn.never rfl (cT (K:=K) rfl (aV (K:=K) rfl (ak 7 Al) az)) (bI (i:=9) kZ.nd rfl (Or.inl YW) rfl) (aA (cU (CK (K:=K) rfl PySem.F.plainAttrs_list PySem.F.slot_list_clear PySem.F.type_list_clear yZ (ak 9 YW))))) (aq (cU (CK (K:=K) rfl PySem.F.plainAttrs_list PySem.F.slot_list_clear PySem.F.type_list_clear yZ (aV (K:=K) rfl (ak 7 Al) az))) (aq (bM (iK (gn (bH (my (K:=K) rfl hu64) (di mQ (hr.mono (by decide)) (aX YT) (zE fun _ _=>rfl) (aa (ak 5 uD) (aa (ak 6 uE) aj)) (by trivial)) (ak 8 Gm) (by walk_at "p")) (gf (bN (bO (aH fM (hr.mono (by decide)) (aX K4) (aa (ak 5 uD) (aa (ak 6 uE) (aa (cI (aa (aV (K:=K) rfl (ak 8 Gm) az) (aa (aH j6 (hr.mono (by decide)) (aX YS) (aa (ak 5 uD) (aa (ak 6 uE) aj)) (by trivial)) aj))) aj))) (by trivial))))))) (aA (aD iw)) bx) (aq (dN PassesOwn.never rfl (fU (aX kz7h) T.b_range (aa az aj)) (bI (i:=10) kZ.nd rfl (Or.inl kz7i) rfl) (aA (bM (bN (bO (aH fM (hr.mono (by decide)) (aX K4) (aa (ak 5 uD) (aa (ak 6 uE) (aa (aH mO (hr.mono (by decide)) (aX kz7j) (aa (ak 2 Gn) (aa (ak 8 Gm) (aa (ak 5 uD) (aa (ak 6 uE) aj)))) (by trivial)) aj))) (by trivial)))) (aA (aD iw)) bx))) (aA (bM (iK (gn (bN (bO (aH fM (hr.mono (by decide)) (aX K4) (aa (fQ (gK (K:=K) rfl) (bY bz (ak 5 uD) CG) dU (eQ az)) (aa (ak 6 uE) (aa (ak 8 Gm) aj))) (by trivial)))) (gf (bN (bO (aH fM (hr.mono (by decide)) (aX K4) (aa (ak 6 uE) (aa (ak 5 uD) (aa (ak 8 Gm) aj))) (by trivial))))))) (aA (aD iw)) bx)))))))))))))))) (aA (aD iw))),?_⟩
 walk_at "s"
 have hs5:20000<=sizeLine:=by decide
 refine .inl (Iu hS fun m1 n1=>?_)
 obtain ⟨ms,hms⟩:=O6 ns none (some 6)
 have lm:ms.length<=63:=by
  have:=nY (ns.map V.int) none (some 6)
  rw [hms] at this
  simp at this
  omega
 rw [hms]
 walk_at "s"
 refine ⟨a,ns,6,rfl,((Same.refl H).upd n1).seq hS,by omega,fun c5=>?_⟩
 walk_at "s"
 refine bh rfl fun m2 G2 n2 S2 g2=>?_
 walk_at "s"
 refine Bj (S2 _ _ ao) g2 (by simp;omega) fun L n3=>?_
 have e3:ms.map V.int ++ [V.int c5]=(ms ++ [c5]).map V.int:=by simp
 rw [e3]
 refine .inl ⟨L,rfl,⟨_,SqL.of ao⟩,?_⟩
 refine eZ (xs:=(ms ++ [c5]).map V.int) (fun i U H'=>H' L=some (.lst ((ms ++ [c5]).map V.int))/\∃ x1 x2 x3 x4 x5 x6 x7 x8 x9 x10,U=[some (.ref a),x1,x2,x3,x4,x5,x6,x7,x8,x9,x10])
  ⟨ao,none,none,none,none,none,none,none,none,none,none,rfl⟩ (fun i U H' _ h=>SqL.of h.1) ?_ ?_
 ·rintro i y U H1 hi ⟨hL,x1,x2,x3,x4,x5,x6,x7,x8,x9,x10,rfl⟩
  obtain ⟨n,rfl⟩:∃ n,y=V.int n:=by
   rw [List.getElem?_map] at hi
   cases e:(ms ++ [c5])[i]? with
   | none=>rw [e] at hi;cases hi
   | some n=>rw [e] at hi;exact ⟨n,(Option.some.inj hi).symm⟩
  walk_at "s"
  refine ⟨n,rfl,fun p H2 hp C2 P2=>?_⟩
  walk_at "s"
  have nLp:L≠p:=fun z=>by rw [z,hp] at hL;cases hL
  have hL2:=C2.at_ hL nLp
  refine ⟨p,rfl,P2,fun r ys H3 nr P3 C3 hr3 hne hle hg=>?_⟩
  walk_at "s"
  have hL3:=C3.at_ hL2 nLp
  refine bh rfl fun m5 G5 n5 S5 g5=>?_
  walk_at "s"
  have P5:=bw P3 S5
  refine ⟨p,4,rfl,P5,by omega,by omega,fun c H6 c0 c1 P6 C6=>?_⟩
  walk_at "s"
  obtain ⟨t,htm,et⟩:=Io (vs:=[.int 8,.int 12,.int 16,.int 48]) (d:=c) c0 (by simpa using c1)
  have hL6:=C6.at_ (S5 _ _ hL3) nLp
  have hr6:=C6.at_ (S5 _ _ hr3) (Kp P3 hr3)
  refine bD (SqL.of (C6.at_ g5 (P3.ne n5))) et ?_
  walk_at "s"
  obtain ⟨mo,rfl,mo0,mo1⟩:∃ mo:Int,t= .int mo/\0<=mo/\mo<=48:=by
   simp only [List.mem_cons,List.mem_nil_iff,or_false] at htm
   rcases htm with rfl | rfl | rfl | rfl <;> exact ⟨_,rfl,by omega,by omega⟩
  refine ⟨p,r,ys,mo,rfl,P6,hr6,hne,by omega,hg,by omega,by omega,fun side H7 hs P7 C7=>?_⟩
  walk_at "s"
  have hL7:=C7.at_ hL6 nLp
  have hr7:=C7.at_ hr6 (Kp P6 hr6)
  refine ⟨p,r,ys,mo,rfl,P7,hr7,hne,by omega,hg,by omega,by omega,fun top H8 ht P8 C8=>?_⟩
  walk_at "s"
  have hL8:=C8.at_ hL7 nLp
  have lz:=hs.1
  have ly:=ht.1
  refine spX.good hs.b ht.b fun kp th hq rs H9 S9 gk nth nhq nrs nthq nthr TH HT=>?_
  have P9:=bw P8 S9
  have hL9:=S9 _ _ hL8
  walk_at "s"
  obtain ⟨TP,lps⟩:=XD side top
  have GH0:=GH.lev (y:=top) lz
  have llv:=pG side.cps.toList top.cps.toList (lt side.cps.toList top.cps.toList side.length top.length).toNat (prs side.cps.toList top.cps.toList side.length)
  generalize hlev:lev side.cps.toList top.cps.toList (lt side.cps.toList top.cps.toList side.length top.length).toNat (prs side.cps.toList top.cps.toList side.length)=levs at HT GH0 llv
  generalize hwb:(wb side.cps.toList top.cps.toList side.length top.length).reverse=ps at TH TP lps
  have lpl:ps.length=levs.length:=by omega
  have HS0:=GH0.hs lz ly
  have hs0l:=HS0.len
  have hs0a:=HS0.all
  have pfew:∀ x∈ps,x.1<=48/\x.2<=48:=fun x hx=>by have:=TP.mem x hx;omega
  have pl48:ps.length<=48:=by have:=TP.few;omega
  have thT:Th (ps.map pD):=(G3.pairs pfew).th (by rw [List.length_map];omega)
  have thH:Th (levs.map hD):=xF HS0.few (by omega) (by omega)
  have tlA:∀ d∈[PyData.list (ps.map pD),.list (levs.map hD)],TL d:=by
   simp only [List.mem_cons,List.mem_nil_iff,or_false]
   rintro d (rfl | rfl)
   ·exact ⟨_,rfl,thT⟩
   ·exact ⟨_,rfl,thH⟩
  have askP:Gi (.tuple [.list (ps.map pD),.list (levs.map hD)]):=TL.askT tlA (by simp)
  have shP:oR side top (.tuple [.list (ps.map pD),.list (levs.map hD)])=true:=by
   show (eU side top (.list (ps.map pD)) && (fH side top (.list (levs.map hD)) && decide ((tG (.list (ps.map pD))).length=(tG (.list (levs.map hD))).length)))=true
   rw [Gd TP.mem TP.up,GH0.good,decide_eq_true (by show (ps.map pD).length=(levs.map hD).length;rw [List.length_map,List.length_map,lpl])];rfl
  have layH0:(PyData.list (levs.map hD)).canLay0=true/\(PyData.list (levs.map hD)).depth<=3:=vC (n:=2) fun d hd=>by
   obtain ⟨_,d2,_,_,f⟩:=(HS0.ok d hd).all
   exact ⟨f,d2⟩
  have layT0:(PyData.list (ps.map pD)).canLay0=true/\(PyData.list (ps.map pD)).depth<=3:=by
   have:=xn ps
   refine ⟨PySem.SeqAt.canLay_of_shaped this,?_⟩
   have h2:=(vC (n:=1) (ds:=ps.map pD) fun d hd=>by
    obtain ⟨x,_,rfl⟩:=List.mem_map.mp hd
    exact o5 (n:=0) fun e he=>by
     simp only [List.mem_cons,List.mem_nil_iff,or_false] at he
     rcases he with rfl | rfl <;> exact De _).2
   omega
  have layP0:=o5 (n:=3) (ds:=[PyData.list (ps.map pD),.list (levs.map hD)]) (by
   simp only [List.mem_cons,List.mem_nil_iff,or_false]
   rintro d (rfl | rfl)
   ·exact layT0
   ·exact layH0)
  have shH:=mq layH0 (by omega)
  have shPP:=mq layP0 (by omega)
  have rdP:∀ {G:Hp} {k t h:Addr} {rr:List Addr},G k=some (.tup [.ref t,.ref h])->PL G t ps->HTab G h rr levs->RD G (.tuple [.list (ps.map pD),.list (levs.map hD)]) (.ref k):=fun h1 h2 h3=>cJ.mpr ⟨_,_,rfl,h1,bF h2.rd (bF h3.rd (aU.mpr rfl))⟩
  refine ⟨side,top,.ref kp,_,rfl,hs,ht,rdP gk TH HT,fun x y e=>(askP.hb x y e).2,fun HA SA=>?_⟩
  walk_at "s"
  rw [shP]
  have gkA:=SA _ _ gk
  walk_at "s"
  refine ⟨side,top,rfl,hs,ht,fun D rs2 HB nD frs SB TT=>?_⟩
  walk_at "s"
  rw [hlev] at TT
  have SAB:=SA.trans SB
  refine .inl (.inl (zx (d:=.list (levs.map hD)) (xu _ _ layH0.1 (HT.same SAB).rd) (xu _ _ layH0.1 TT.rd) shH ?_))
  walk_at "s"
  refine ⟨side,top,.ref kp,_,rfl,hs,ht,rdP (SAB _ _ gk) (TH.same SAB) (HT.same SAB),askP,fun HC SC=>?_⟩
  walk_at "s"
  have S9C:=SAB.trans SC
  have gkC:=S9C _ _ gk
  have THC:=TH.same S9C
  have HTC:=HT.same S9C
  refine ju (SqT.of gkC) (i:=0) (v:=.ref th) (dJ (by omega) rfl) ?_
  walk_at "s"
  obtain ⟨tv,htv,htvl,htvd⟩:=THC.len
  refine oY htv fun kT HD nkT SD gkT=>?_
  walk_at "s"
  have PkT:PL HD kT ps:=⟨tv,gkT,DRs.same SD _ _ htvd⟩
  have gkD:=SD _ _ gkC
  have HTD:=HTC.same SD
  refine ju (SqT.of gkD) (i:=1) (v:=.ref hq) (dJ (by omega) rfl) ?_
  walk_at "s"
  refine .inl ⟨hq,rfl,⟨_,SqL.of HTD.at_⟩,?_⟩
  have lrs:=HTD.len
  refine eG (xs:=rs.map V.ref) (fun i ys H'=>Same HD H'/\∃ rr:List Addr,ys=rr.map V.ref/\rr.length=i/\rr.Nodup/\(∀ r∈rr,HD r=none/\H' r≠none)/\∀ (k:Nat) (r:Addr) (ps:List PP),rr[k]?=some r->levs[k]?=some ps->PL H' r ps) (by rw [List.length_map];omega) ⟨Same.refl _,[],rfl,rfl,.nil,by simp,fun k r ps e=>by simp at e⟩ ?_ ?_ ?_ ?_
  ·rintro i ys H' ⟨_,rr,rfl,h,_⟩
   simp [h]
  ·rintro i ys H' ⟨S,_⟩
   exact SqL.of (S _ _ HTD.at_)
  ·rintro i ys HE x hx ⟨SE,rr,rfl,lr,nd,fr,row⟩
   rw [List.getElem?_map] at hx
   obtain ⟨ri,eri,rfl⟩:=Option.map_eq_some_iff.mp hx
   have hi':i < levs.length:=by have:=(List.getElem?_eq_some_iff.mp eri).1;omega
   have ell:levs[i]?=some levs[i]:=List.getElem?_eq_getElem hi'
   obtain ⟨vs,hv,hvl,hvd⟩:=((HTD.same SE).row i ri _ eri ell).len
   walk_at "s"
   refine ⟨KeepSt.set rfl,?_⟩
   walk_at "s"
   try with_reducible refine jz ?_
   walk_at "s"
   refine oY hv fun m H2 nm S2 g2=>?_
   refine ⟨SE.trans S2,rr ++ [m],by simp,by simp [lr],?_,fun r hr=>?_,fun k r ps e1 e2=>?_⟩
   ·rw [List.nodup_append]
    refine ⟨nd,by simp,fun x hx y hy e=>?_⟩
    rw [List.mem_singleton.mp hy] at e
    subst e
    exact (fr _ hx).2 nm
   ·rcases List.mem_append.mp hr with h1 | h1
    ·refine ⟨(fr r h1).1,fun z=>?_⟩
     cases h2:HE r with
     | none=>exact (fr r h1).2 h2
     | some o=>rw [S2 _ _ h2] at z;cases z
    ·rw [List.mem_singleton.mp h1]
     exact ⟨SE.free nm,by rw [g2];simp⟩
   ·by_cases hk:k < rr.length
    ·rw [List.getElem?_append_left hk] at e1
     exact (row k r ps e1 e2).same S2
    ·have hk2:k=rr.length:=by
      have:=(List.getElem?_eq_some_iff.mp e1).1
      simp at this
      omega
     subst hk2
     rw [List.getElem?_concat_length] at e1
     cases e1
     rw [lr,ell] at e2
     cases e2
     exact ⟨vs,g2,DRs.same S2 _ _ hvd⟩
  ·rintro ys HE ⟨SE,rr,rfl,lr,nd,fr,row⟩ kH nkH
   rw [List.length_map] at lr
   have S2:=(Same.refl HE).upd (o:=.lst (rr.map V.ref)) nkH
   have TK2:HTab (upd HE kH (.lst (rr.map V.ref))) kH rr levs:=⟨ao,by omega,nd,fun z=>(fr kH z).2 nkH,fun i r ps e1 e2=>(row i r ps e1 e2).same S2⟩
   have SDE:=SE.trans S2
   generalize upd HE kH (.lst (rr.map V.ref))=HF at TK2 SDE ⊢
   walk_at "s"
   refine bh rfl fun kk HG nkk SG gkk=>?_
   walk_at "s"
   have SDG:=SDE.trans SG
   have S9G:=(S9C.trans SD).trans SDG
   have gkG:=S9G _ _ gk
   have THG:=TH.same S9G
   have HTG:=HT.same S9G
   have PkG:=PkT.same SDG
   have TKG:=TK2.same SG
   have PG:=bw P9 S9G
   have hLG:=S9G _ _ hL9
   have old:∀ b∈th :: rs,H8 b=none/\H9 b≠none:=fun b hb=>by
    rcases List.mem_cons.mp hb with rfl | hb
    ·obtain ⟨vs,e,_⟩:=TH
     exact ⟨nth,by rw [e];simp⟩
    ·obtain ⟨xs,e⟩:=HT.mem hb
     exact ⟨nrs b hb,by rw [e];simp⟩
   have notH8:∀ {b:Addr} {o:HO},H8 b=some o->b ∉ th :: rs:=fun e hb=>by rw [(old _ hb).1] at e;cases e
   have notNew:∀ {b:Addr} {G:Hp},Same H9 G->G b=none->b ∉ th :: rs:=fun {b G} s n hb=>by
    cases h:H9 b with
    | none=>exact (old _ hb).2 h
    | some o=>rw [s _ _ h] at n;cases n
   have nkTm:=notNew S9C nkT
   have nrr:∀ r∈rr,r ∉ th :: rs:=fun r hr=>notNew (S9C.trans SD) (fr r hr).1
   have nkHm:=notNew ((S9C.trans SD).trans SE) nkH
   have nkkm:=notNew ((S9C.trans SD).trans SDE) nkk
   have nhqm:hq ∉ th :: rs:=fun z=>by
    rcases List.mem_cons.mp z with z | z
    ·exact nthq z.symm
    ·exact HT.ne z
   have isl:∀ r∈th :: rs,∃ xs,HG r=some (.lst xs):=fun r hr=>by
    rcases List.mem_cons.mp hr with rfl | hr
    ·obtain ⟨vs,e,_⟩:=THG
     exact ⟨_,e⟩
    ·exact HTG.mem hr
   have nkpm:kp ∉ th :: rs:=fun z=>by
    obtain ⟨xs,e⟩:=isl kp z
    rw [gkG] at e
    cases e
   refine ju (SqT.of gkG) (i:=1) (v:=.ref hq) (dJ (by omega) rfl) ?_
   walk_at "s"
   refine .inl ⟨hq,rfl,⟨_,SqL.of HTG.at_⟩,?_⟩
   refine eZ (xs:=rs.map V.ref) (fun i U H'=>Out (th :: rs) HG H'/\(∀ r∈th :: rs,∃ xs,H' r=some (.lst xs))/\∃ x9,U=[some (.ref a),some (.int n),some (.ref p),some (.ref r),some (.int mo),some (.str side),some (.str top),some (.ref kp),some (.ref kk),x9,x10])
    ⟨Out.refl _ _,isl,_,rfl⟩ (fun i U H' _ h=>SqL.of (h.1 _ _ nhqm HTG.at_)) ?_ ?_
   ·rintro k x U HH hx ⟨OH,lst,x9,rfl⟩
    rw [List.getElem?_map] at hx
    obtain ⟨ri,eri,rfl⟩:=Option.map_eq_some_iff.mp hx
    have rim:ri∈th :: rs:=List.mem_cons_of_mem _ (List.mem_of_getElem? eri)
    obtain ⟨xs,hxs⟩:=lst ri rim
    walk_at "s"
    refine ⟨.inl ⟨rfl,_,SqL.of hxs⟩,ri,xs,rfl,rfl,hxs,?_⟩
    walk_at "s"
    refine ⟨OH.step rim,fun r hr=>?_,_,rfl⟩
    by_cases e:r=ri
    ·rw [e,ao];exact ⟨_,rfl⟩
    ·rw [aC e];exact lst r hr
   ·rintro U HH ⟨OH,lst,x9,rfl⟩
    have gkH:=OH _ _ nkpm gkG
    obtain ⟨xs,hxs⟩:=lst th List.mem_cons_self
    walk_at "s"
    refine ⟨.inl ⟨rfl,_,SqL.of hxs⟩,th,xs,rfl,rfl,hxs,?_⟩
    have OI:Out (th :: rs) HG (upd HH th (.lst [])):=OH.step List.mem_cons_self
    generalize upd HH th (.lst [])=HI at OI ⊢
    have hLI:=OI _ _ (notH8 hL8) hLG
    have PI:Pur HI p:=by
     obtain ⟨x,y,w,e,rr⟩:=PG
     obtain ⟨_,_,_,e8,_⟩:=P8
     exact ⟨x,y,w,OI _ _ (notH8 e8) e,rr⟩
    have PkI:PL HI kT ps:=PkG.keep (TK.out OI isl) fun vs e=>OI _ _ nkTm e
    have TKI:HTab HI kH rr levs:=TKG.out OI isl nkHm nrr
    have gkkI:=OI _ _ nkkm gkk
    have kkp:kk≠p:=fun z=>by
     obtain ⟨x,y,w,e,_⟩:=PI
     rw [z,e] at gkkI
     cases gkkI
    walk_at "s"
    refine spX.good hs.b ht.b fun kp2 th2 hq2 rs3 HJ SJ gk2 _ _ _ _ _ TH2 HT2=>?_
    rw [hlev] at HT2
    rw [hwb] at TH2
    have gkkJ:=SJ _ _ gkkI
    have PkJ:=PkI.same SJ
    have TKJ:=TKI.same SJ
    walk_at "s"
    refine .inl (.inl (zx (d:=.tuple [.list (ps.map pD),.list (levs.map hD)]) (xu _ _ layP0.1 (rdP gk2 TH2 HT2)) (xu _ _ layP0.1 (rdP gkkJ PkJ TKJ)) shPP ?_))
    walk_at "s"
    refine ⟨side,top,rfl,hs,ht,fun D3 rs4 HK nD3 frs3 SK TT3=>?_⟩
    walk_at "s"
    rw [hlev] at TT3
    refine bh rfl fun tp HM ntp SM gtp=>?_
    walk_at "s"
    have SKM:=SK.trans SM
    refine ⟨side,top,.ref tp,_,rfl,hs,ht,rdP gtp (PkJ.same SKM) (TT3.same SM),askP,fun HN2 SN=>?_⟩
    walk_at "s"
    have SJN:=SKM.trans SN
    have SIN:=SJ.trans SJN
    have PN:=bw PI SIN
    have rdx:=rdP (d9 (SIN _ _ gkkI) kkp) ((PkI.same SIN).hx PN) ((TKI.same SIN).hx PN)
    refine ⟨_,rfl,by omega,by omega,?_⟩
    refine rW (fun i U H'=>H' L=some (.lst ((ms ++ [c5]).map V.int))/\Pur H' p/\RD (Hx p H') (.tuple [.list (ps.map pD),.list (levs.map hD)]) (.ref kk)/\∃ x9 x10,U=[some (.ref a),some (.int n),some (.ref p),some (.ref r),some (.int mo),some (.str side),some (.str top),some (.ref kp),some (.ref kk),x9,x10])
     ⟨SIN _ _ hLI,PN,rdx,_,_,rfl⟩ ?_ ?_
    ·rintro k U HE2 hk ⟨hLE,PE,RE,x9,x10,rfl⟩
     walk_at "s"
     refine ⟨p,kk,ps,levs,side,top,rfl,PE,RE,HS0,pl48,fun x hx=>⟨(TP.mem x hx).1,(TP.mem x hx).2.1⟩,hs,ht,fun v d HF2 rv ask PF CF=>?_⟩
     walk_at "s"
     refine ⟨side,top,v,d,rfl,hs,ht,RD.same (eY _ _) _ _ rv,ask,fun HG2 SG2=>?_⟩
     walk_at "s"
     exact ⟨SG2 _ _ (CF.at_ hLE nLp),bw PF SG2,RD.same (bC SG2) _ _ (Yp RE CF),_,_,rfl⟩
    ·rintro U HE2 ⟨hLE,PE,RE,x9,x10,rfl⟩
     have RE':=RD.same (eY _ _) _ _ RE
     walk_at "s"
     refine Il (by rw [cC,cC];show side.cps.toList.length+1<=_;rw [← cC];omega) ?_
     walk_at "s"
     refine Tg (by rw [cC];show (side.cps ++ (Str.ofString "q").cps).toList.length<=_;rw [Array.toList_append,List.length_append];show side.cps.toList.length+1<=_;rw [← cC];omega) ?_
     walk_at "s"
     refine ⟨_,top,.ref kk,_,rfl,YZ hs,ht,RE',askP,fun HF2 SF2=>?_⟩
     walk_at "s"
     refine ⟨top,side,.ref kk,_,rfl,ht,hs,RD.same SF2 _ _ RE',askP,fun HG2 SG2=>?_⟩
     walk_at "s"
     exact ⟨(SF2.trans SG2) _ _ hLE,_,_,_,_,_,_,_,_,_,_,rfl⟩
 ·rintro U H1 ⟨hL,x1,x2,x3,x4,x5,x6,x7,x8,x9,x10,rfl⟩
  walk_at "s"
  exact q _
end
end My
namespace PySem.W.Fast
def tw16835004121015498354:=0
def tw1643966508301873479:=0
def tw15057814023543843326:=0
def tw2426078447441999020:=0
def tw10527023446138253494:=0
def tw7831895590306563895:=0
def tw8909133838171523102:=0
def tw297316807783098097:=0
def tw9609016165020880804:=0
def tw16424120506700962189:=0
def tw7439087119428522611:=0
def tw12920941975389917720:=0
def tw2102069133512356805:=0
def tw14119428105657334236:=0
def tw17190405850917435160:=0
def tw11504529105692211704:=0
def tw13264162372108635216:=0
def tw10142071049524082475:=0
def tw9553704406644137950:=0
def tw5091638760350852877:=0
def tw18235153933929718038:=0
def tw5614633724051950944:=0
def tw4313867845735290890:=0
def tw6658620788647244911:=0
def tw13459775368956001402:=0
def tw8357575139668291707:=0
def tw3158854950158690750:=0
def tw4253889400415139119:=0
def tw13184134359412359156:=0
def tw4280375424609683145:=0
def tw5746100135820950231:=0
def tw13486962966093655739:=0
def tw13445380577885003332:=0
def tw3837825614739921848:=0
def tw3979378806155535112:=0
def tw18250258502191655873:=0
def tw5672815808683572140:=0
def tw8452117711195219274:=0
def tw12499099181872817295:=0
def tw5097065353729666687:=0
def tw7485261522132411933:=0
def tw8414799785529563252:=0
def tw2686799965271002362:=0
def tw373223740132170649:=0
def tw6561445664081262954:=0
def tw7341480847625515763:=0
def tw4234599160420112174:=0
def tw11715817526538085490:=0
def tw33344982479766335:=0
def tw7127976951052130653:=0
def tw16817985896886189844:=0
def tw4359974899293059886:=0
def tw9561869809800730083:=0
def tw17104737873804003859:=0
def tw594594406960401572:=0
def tw13388921335267380512:=0
def tw6410845779011380924:=0
def tw5357347027406122509:=0
def tw1547611178752577017:=0
def tw15505685850894220163:=0
def tw8980088368935429769:=0
def tw11231526641055334538:=0
def tw15825618891667068453:=0
def tw15917097834252409627:=0
def tw5058968660139606964:=0
def tw6743233249689700716:=0
def tw3334026145706099949:=0
def tw1706350492671167323:=0
def tw9847320926844195434:=0
def tw13996717185218986290:=0
def tw18161150810526952145:=0
def tw14663318988648267352:=0
def tw14042038036079820010:=0
def tw17875451039898528852:=0
def tw14697996507526722579:=0
def tw15647669805149566552:=0
def tw10380657276246121422:=0
def tw8180831230216487620:=0
def tw9166091416466286039:=0
def tw7641792192134306864:=0
def tw14404159086546878149:=0
def tw16856370555615523301:=0
def tw3953333357624554238:=0
def tw17628469061647427813:=0
def tw12389759899503341794:=0
def tw14653495507471409277:=0
def tw10310338441041498250:=0
def tw10101909798708457257:=0
def tw5545987753064012258:=0
def tw2865925833214993790:=0
def tw633636975554377682:=0
def tw63661156386918408:=0
def tw6261442266753752663:=0
def tw6096920663923610579:=0
def tw4526119709593840169:=0
def tw6865052885658180162:=0
def tw18143390236886169643:=0
def tw298985784965903587:=0
def tw8146421988558081264:=0
def tw9353048451166731310:=0
def tw3319876589321791045:=0
def tw2806695851714505690:=0
def tw9213590576707621613:=0
def tw15885705409799611861:=0
def tw3531403640800631810:=0
def tw16744078858119793613:=0
def tw13587463409775148392:=0
def tw597431194917092262:=0
def tw1200081412133861537:=0
def tw681811348490666238:=0
def tw11347371084464470744:=0
def tw11305541724179394785:=0
def tw4579869776924895574:=0
def tw14768586975481584238:=0
def tw6045867896181196165:=0
def tw17116676597419029426:=0
def tw8749987077447816675:=0
def tw11126742784901099436:=0
def tw15680504926833883084:=0
def tw13193955254028299785:=0
def tw6043157101459691506:=0
def tw1557742475778900166:=0
def tw2582568188412141254:=0
def tw1626742275143934694:=0
def tw18206592549965449356:=0
def tw1598446729892228483:=0
def tw1295992624968963665:=0
def tw16966625710430608999:=0
def tw11771448263941055445:=0
def tw8628253816537606383:=0
def tw4333206788009420375:=0
def tw10395373258328040129:=0
def tw15105695013203820370:=0
def tw15762346551237092599:=0
def tw6594881693169433952:=0
def tw1042313468265222227:=0
def tw3249302340312234236:=0
def tw16653808061143914803:=0
def tw17684613349849296318:=0
def tw9263693789394730782:=0
def tw13113129092429538016:=0
def tw17255100923168710092:=0
def tw18352781603384237529:=0
def tw1770629031467537500:=0
def tw1230603944309645241:=0
def tw15943588674494203038:=0
def tw952735287820015019:=0
def tw4896081462723003989:=0
def tw7567694746387645636:=0
def tw13690832039670315362:=0
def tw15488707720161362620:=0
def tw1437631031888737489:=0
def tw15969696520318364948:=0
def tw4424133487750777522:=0
def tw18173590282889542140:=0
def tw10366604346421770113:=0
def tw1345622818821669252:=0
def tw1384552831147812481:=0
def tw1873937774105201805:=0
def tw1164724734251945974:=0
def tw13277508787685193861:=0
def tw16841574769097201311:=0
def tw8168263063547136650:=0
def tw11814423301117060929:=0
def tw2132786445977301527:=0
def tw8004034029038178001:=0
def tw10933553175474270932:=0
def tw12870634414755769499:=0
def tw10791105625915899692:=0
def tw8505845105191891401:=0
def tw8719736974836890635:=0
def tw1590455063293567773:=0
def tw3924239948029043660:=0
def tw18359093056090552019:=0
def tw4151400923040004301:=0
def tw7643496722518632706:=0
def tw13977327455020172644:=0
def tw7142858129562495957:=0
def tw1361728863397804363:=0
def tw1604244664141448045:=0
def tw9332763294048286136:=0
def tw14969857311228091911:=0
def tw13651572137139673973:=0
def tw10843168797291167650:=0
def tw10674750243383167185:=0
def tw4400199279109504189:=0
def tw5004979228498588679:=0
def tw2609553013912540375:=0
def tw5377681022407866109:=0
def tw16605355979992266533:=0
def tw18115160139328064010:=0
def tw11257495634315231061:=0
def tw4390075080724199834:=0
def tw4377822850387470609:=0
def tw1179375868404370607:=0
def tw9294370473637214223:=0
def tw11631211211808970719:=0
def tw4083491333401127758:=0
def tw2611538232721112718:=0
def tw9843651627729335181:=0
def tw5007606230091680797:=0
def tw18387816554875861715:=0
def tw16007153525732378016:=0
def tw4858610499140649538:=0
def tw4203661122379529394:=0
def tw10604537550846670668:=0
def tw15729362255174773548:=0
def tw13880166532494852741:=0
def tw2224304012333230578:=0
def tw17758918471247552968:=0
def tw17646222360874470277:=0
def tw9039740704975435633:=0
def tw3424909593024810607:=0
def tw8857746337518612036:=0
def tw10505794661574859409:=0
def tw9511848754905658660:=0
def tw8749623631713007386:=0
def tw3862200089881691316:=0
def tw17404884282862824585:=0
def tw6304868802515534092:=0
def tw3437843261632877228:=0
def tw5588529801482689707:=0
def tw12411979321043322030:=0
def tw17226391146053526317:=0
def tw6428595561621478069:=0
def tw15840133062052827381:=0
def tw9268099303401194138:=0
def tw1119985503559400891:=0
def tw4416608890360468151:=0
def tw10454135822524686647:=0
def tw2021352646496074226:=0
def tw16812087421712894311:=0
def tw11046570912128575206:=0
def tw11831007542909560142:=0
def tw16839898776167446536:=0
def tw3977917629726055089:=0
def tw6716977311396064407:=0
def tw10771393270422008844:=0
def tw18310645483824543609:=0
def tw11479031226099194648:=0
def tw11080727514811379448:=0
def tw11266930664756214918:=0
def tw5521949569937901145:=0
def tw9656828128474286549:=0
def tw13925683834800087501:=0
def tw18310483520903059777:=0
def tw9920366199322770806:=0
def tw8102945793742524242:=0
def tw10749614688929267922:=0
def tw9254218517766501970:=0
def tw18436819168010495128:=0
def tw9673237408318623819:=0
def tw11138005503342808856:=0
def tw7355215482465973711:=0
def tw5545286110883885713:=0
def tw14813960281110109601:=0
def tw10867715178210468108:=0
def tw14274677014007402093:=0
def tw6683183056558697977:=0
def tw12057331940164322297:=0
end PySem.W.Fast
open PySem PySem.W PyProof.Rows
set_option maxRecDepth 100000 in
set_option maxHeartbeats 0 in
theorem PySem.Challenge.cw_panethread_k13_papers_holds : PySem.Challenge.rw_panethread_k13_papers.Holds := by
 w_on;o_law;k_head;(case hw=>w_witness2)
 k_fill
 refine L2.Ws (l:=PySem.Challenge.rw_panethread_k13_papers) (st:=My.dB) (k:=10) (x:="_law_script") (sp:=My.Qk) rfl rfl rfl ⟨rfl,by decide,by decide,rfl⟩ (fun w h Y=>PySem.W.kIn_of Y) (fun _ _ _ _ _ _ us hl=>L2.wu (fun _=>rfl) us hl) ?F (fun K H a ns hl hS=>⟨a,ns,rfl,hS,hl,fun _=>rfl⟩)
 case F=>
  intro w mg h KX G
  have b_all:mg "all"=none:=by
   refine' PySem.W.mg_none_of KX G ?_
   k_is
  have b_any:mg "any"=none:=by
   refine' PySem.W.mg_none_of KX G ?_
   k_is
  have b_bool:mg "bool"=none:=by
   refine' PySem.W.mg_none_of KX G ?_
   k_is
  have b_enumerate:mg "enumerate"=none:=by
   refine' PySem.W.mg_none_of KX G ?_
   k_is
  have b_int:mg "int"=none:=by
   refine' PySem.W.mg_none_of KX G ?_
   k_is
  have b_isinstance:mg "isinstance"=none:=by
   refine' PySem.W.mg_none_of KX G ?_
   k_is
  have b_len:mg "len"=none:=by
   refine' PySem.W.mg_none_of KX G ?_
   k_is
  have b_list:mg "list"=none:=by
   refine' PySem.W.mg_none_of KX G ?_
   k_is
  have b_max:mg "max"=none:=by
   refine' PySem.W.mg_none_of KX G ?_
   k_is
  have b_min:mg "min"=none:=by
   refine' PySem.W.mg_none_of KX G ?_
   k_is
  have b_range:mg "range"=none:=by
   refine' PySem.W.mg_none_of KX G ?_
   k_is
  have b_repr:mg "repr"=none:=by
   refine' PySem.W.mg_none_of KX G ?_
   k_is
  have b_reversed:mg "reversed"=none:=by
   refine' PySem.W.mg_none_of KX G ?_
   k_is
  have b_sorted:mg "sorted"=none:=by
   refine' PySem.W.mg_none_of KX G ?_
   k_is
  have b_str:mg "str"=none:=by
   refine' PySem.W.mg_none_of KX G ?_
   k_is
  have b_tuple:mg "tuple"=none:=by
   refine' PySem.W.mg_none_of KX G ?_
   k_is
  have c_LETTERS:∃ t,mg "LETTERS"=some (.str "abcdefghijklmnopqrstuvwxyz" t):=by
   refine' L2.vq KX G ?a ?h
   (case a=>k_is);(case h=>exact ⟨_,by with_unfolding_all rfl⟩)
  have c_MOST_SIGNS:∃ t,mg "MOST_SIGNS"=some (.int 48 t):=by
   refine' L2.vq KX G ?a ?h
   (case a=>k_is);(case h=>exact ⟨_,by with_unfolding_all rfl⟩)
  have c_POINT:∃ t,mg "POINT"=some (.str "." t):=by
   refine' L2.vq KX G ?a ?h
   (case a=>k_is);(case h=>exact ⟨_,by with_unfolding_all rfl⟩)
  have d_is_number:L2.dO (L2.KOf KX) mg "is_number" My.fu:=by
   dsimp only [L2.KOf]
   refine' L2.bA KX G ?a ?l ?c ?k
   (case a=>k_is);(case l=>k_is);(case c=>k_is);(case k=>k_is)
  have d_is_pair:L2.dO (L2.KOf KX) mg "is_pair" My.ie:=by
   dsimp only [L2.KOf]
   refine' L2.bA KX G ?a ?l ?c ?k
   (case a=>k_is);(case l=>k_is);(case c=>k_is);(case k=>k_is)
  have d_is_row:L2.dO (L2.KOf KX) mg "is_row" My.gw:=by
   dsimp only [L2.KOf]
   refine' L2.bA KX G ?a ?l ?c ?k
   (case a=>k_is);(case l=>k_is);(case c=>k_is);(case k=>k_is)
  have d_need_row:L2.dO (L2.KOf KX) mg "need_row" My.jh:=by
   dsimp only [L2.KOf]
   refine' L2.bA KX G ?a ?l ?c ?k
   (case a=>k_is);(case l=>k_is);(case c=>k_is);(case k=>k_is)
  have d_need_rows:L2.dO (L2.KOf KX) mg "need_rows" My.ig:=by
   dsimp only [L2.KOf]
   refine' L2.bA KX G ?a ?l ?c ?k
   (case a=>k_is);(case l=>k_is);(case c=>k_is);(case k=>k_is)
  have d_lengths_below:L2.dO (L2.KOf KX) mg "lengths_below" My.aZ:=by
   dsimp only [L2.KOf]
   refine' L2.bA KX G ?a ?l ?c ?k
   (case a=>k_is);(case l=>k_is);(case c=>k_is);(case k=>k_is)
  have d_lengths:L2.dO (L2.KOf KX) mg "lengths" My.eN:=by
   dsimp only [L2.KOf]
   refine' L2.bA KX G ?a ?l ?c ?k
   (case a=>k_is);(case l=>k_is);(case c=>k_is);(case k=>k_is)
  have d_thread_of:L2.dO (L2.KOf KX) mg "thread_of" My.cu:=by
   dsimp only [L2.KOf]
   refine' L2.bA KX G ?a ?l ?c ?k
   (case a=>k_is);(case l=>k_is);(case c=>k_is);(case k=>k_is)
  have d_is_match:L2.dO (L2.KOf KX) mg "is_match" My.dI:=by
   dsimp only [L2.KOf]
   refine' L2.bA KX G ?a ?l ?c ?k
   (case a=>k_is);(case l=>k_is);(case c=>k_is);(case k=>k_is)
  have d_is_ahead:L2.dO (L2.KOf KX) mg "is_ahead" My.kO:=by
   dsimp only [L2.KOf]
   refine' L2.bA KX G ?a ?l ?c ?k
   (case a=>k_is);(case l=>k_is);(case c=>k_is);(case k=>k_is)
  have d_is_thread:L2.dO (L2.KOf KX) mg "is_thread" My.bQ:=by
   dsimp only [L2.KOf]
   refine' L2.bA KX G ?a ?l ?c ?k
   (case a=>k_is);(case l=>k_is);(case c=>k_is);(case k=>k_is)
  have d_pairs_of:L2.dO (L2.KOf KX) mg "pairs_of" My.cN:=by
   dsimp only [L2.KOf]
   refine' L2.bA KX G ?a ?l ?c ?k
   (case a=>k_is);(case l=>k_is);(case c=>k_is);(case k=>k_is)
  have d_is_stack:L2.dO (L2.KOf KX) mg "is_stack" My.dX:=by
   dsimp only [L2.KOf]
   refine' L2.bA KX G ?a ?l ?c ?k
   (case a=>k_is);(case l=>k_is);(case c=>k_is);(case k=>k_is)
  have d_holds_all_once:L2.dO (L2.KOf KX) mg "holds_all_once" My.bu:=by
   dsimp only [L2.KOf]
   refine' L2.bA KX G ?a ?l ?c ?k
   (case a=>k_is);(case l=>k_is);(case c=>k_is);(case k=>k_is)
  have d_has_one_ahead:L2.dO (L2.KOf KX) mg "has_one_ahead" My.bU:=by
   dsimp only [L2.KOf]
   refine' L2.bA KX G ?a ?l ?c ?k
   (case a=>k_is);(case l=>k_is);(case c=>k_is);(case k=>k_is)
  have d_are_heaps:L2.dO (L2.KOf KX) mg "are_heaps" My.bR:=by
   dsimp only [L2.KOf]
   refine' L2.bA KX G ?a ?l ?c ?k
   (case a=>k_is);(case l=>k_is);(case c=>k_is);(case k=>k_is)
  have d_heaps_of:L2.dO (L2.KOf KX) mg "heaps_of" My.cO:=by
   dsimp only [L2.KOf]
   refine' L2.bA KX G ?a ?l ?c ?k
   (case a=>k_is);(case l=>k_is);(case c=>k_is);(case k=>k_is)
  have d_paper_of:L2.dO (L2.KOf KX) mg "paper_of" My.gR:=by
   dsimp only [L2.KOf]
   refine' L2.bA KX G ?a ?l ?c ?k
   (case a=>k_is);(case l=>k_is);(case c=>k_is);(case k=>k_is)
  have d_shows:L2.dO (L2.KOf KX) mg "shows" My.gM:=by
   dsimp only [L2.KOf]
   refine' L2.bA KX G ?a ?l ?c ?k
   (case a=>k_is);(case l=>k_is);(case c=>k_is);(case k=>k_is)
  have d_law_cell:L2.dO (L2.KOf KX) mg "_law_cell" My.ji:=by
   dsimp only [L2.KOf]
   refine' L2.bA KX G ?a ?l ?c ?k
   (case a=>k_is);(case l=>k_is);(case c=>k_is);(case k=>k_is)
  have d_law_purse:L2.dO (L2.KOf KX) mg "_law_purse" My.jw:=by
   dsimp only [L2.KOf]
   refine' L2.bA KX G ?a ?l ?c ?k
   (case a=>k_is);(case l=>k_is);(case c=>k_is);(case k=>k_is)
  have d_law_take:L2.dO (L2.KOf KX) mg "_law_take" My.gU:=by
   dsimp only [L2.KOf]
   refine' L2.bA KX G ?a ?l ?c ?k
   (case a=>k_is);(case l=>k_is);(case c=>k_is);(case k=>k_is)
  have d_law_letters:L2.dO (L2.KOf KX) mg "_law_letters" My.bT:=by
   dsimp only [L2.KOf]
   refine' L2.bA KX G ?a ?l ?c ?k
   (case a=>k_is);(case l=>k_is);(case c=>k_is);(case k=>k_is)
  have d_law_drawn:L2.dO (L2.KOf KX) mg "_law_drawn" My.dz:=by
   dsimp only [L2.KOf]
   refine' L2.bA KX G ?a ?l ?c ?k
   (case a=>k_is);(case l=>k_is);(case c=>k_is);(case k=>k_is)
  have d_law_row:L2.dO (L2.KOf KX) mg "_law_row" My.ik:=by
   dsimp only [L2.KOf]
   refine' L2.bA KX G ?a ?l ?c ?k
   (case a=>k_is);(case l=>k_is);(case c=>k_is);(case k=>k_is)
  have d_law_table:L2.dO (L2.KOf KX) mg "_law_table" My.cz:=by
   dsimp only [L2.KOf]
   refine' L2.bA KX G ?a ?l ?c ?k
   (case a=>k_is);(case l=>k_is);(case c=>k_is);(case k=>k_is)
  have d_law_pairs:L2.dO (L2.KOf KX) mg "_law_pairs" My.cX:=by
   dsimp only [L2.KOf]
   refine' L2.bA KX G ?a ?l ?c ?k
   (case a=>k_is);(case l=>k_is);(case c=>k_is);(case k=>k_is)
  have d_law_levels:L2.dO (L2.KOf KX) mg "_law_levels" My.bL:=by
   dsimp only [L2.KOf]
   refine' L2.bA KX G ?a ?l ?c ?k
   (case a=>k_is);(case l=>k_is);(case c=>k_is);(case k=>k_is)
  have d_law_whole:L2.dO (L2.KOf KX) mg "_law_whole" My.fB:=by
   dsimp only [L2.KOf]
   refine' L2.bA KX G ?a ?l ?c ?k
   (case a=>k_is);(case l=>k_is);(case c=>k_is);(case k=>k_is)
  have d_law_is_heap:L2.dO (L2.KOf KX) mg "_law_is_heap" My.cB:=by
   dsimp only [L2.KOf]
   refine' L2.bA KX G ?a ?l ?c ?k
   (case a=>k_is);(case l=>k_is);(case c=>k_is);(case k=>k_is)
  have d_law_are_heaps:L2.dO (L2.KOf KX) mg "_law_are_heaps" My.aL:=by
   dsimp only [L2.KOf]
   refine' L2.bA KX G ?a ?l ?c ?k
   (case a=>k_is);(case l=>k_is);(case c=>k_is);(case k=>k_is)
  have d_law_is_thread:L2.dO (L2.KOf KX) mg "_law_is_thread" My.aW:=by
   dsimp only [L2.KOf]
   refine' L2.bA KX G ?a ?l ?c ?k
   (case a=>k_is);(case l=>k_is);(case c=>k_is);(case k=>k_is)
  have d_law_reads:L2.dO (L2.KOf KX) mg "_law_reads" My.cL:=by
   dsimp only [L2.KOf]
   refine' L2.bA KX G ?a ?l ?c ?k
   (case a=>k_is);(case l=>k_is);(case c=>k_is);(case k=>k_is)
  have d_law_pair:L2.dO (L2.KOf KX) mg "_law_pair" My.cQ:=by
   dsimp only [L2.KOf]
   refine' L2.bA KX G ?a ?l ?c ?k
   (case a=>k_is);(case l=>k_is);(case c=>k_is);(case k=>k_is)
  have d_law_as_long:L2.dO (L2.KOf KX) mg "_law_as_long" My.aY:=by
   dsimp only [L2.KOf]
   refine' L2.bA KX G ?a ?l ?c ?k
   (case a=>k_is);(case l=>k_is);(case c=>k_is);(case k=>k_is)
  have d_law_spoilt:L2.dO (L2.KOf KX) mg "_law_spoilt" My.aM:=by
   dsimp only [L2.KOf]
   refine' L2.bA KX G ?a ?l ?c ?k
   (case a=>k_is);(case l=>k_is);(case c=>k_is);(case k=>k_is)
  have d_law_right:L2.dO (L2.KOf KX) mg "_law_right" My.cA:=by
   dsimp only [L2.KOf]
   refine' L2.bA KX G ?a ?l ?c ?k
   (case a=>k_is);(case l=>k_is);(case c=>k_is);(case k=>k_is)
  have d_law:L2.dO (L2.KOf KX) mg "law" My.dB:=by
   dsimp only [L2.KOf]
   refine' L2.bA KX G ?a ?l ?c ?k
   (case a=>k_is);(case l=>k_is);(case c=>k_is);(case k=>k_is)
  have x_NoRow:L2.M6 (L2.KOf KX) mg "NoRow" ["found"] "NoRow.__init__" My.rC:=by
   dsimp only [L2.KOf]
   refine' L2.WM KX G ?a ?b ?kp ?na ?i ?t ?l ?c ?k
   (case a=>k_is);(case b=>kernel_rfl);(case kp=>k_is);(case na=>kernel_rfl);(case i=>k_is);(case t=>k_is);(case l=>k_is);(case c=>k_is);(case k=>k_is)
  exact ⟨d_law,fun base f fd F=>My.Vt ⟨b_all,b_any,b_bool,b_enumerate,b_int,b_isinstance,b_len,b_list,b_max,b_min,b_range,b_repr,b_reversed,b_sorted,b_str,b_tuple,c_LETTERS,c_MOST_SIGNS,c_POINT,d_is_number,d_is_pair,d_is_row,d_need_row,d_need_rows,d_lengths_below,d_lengths,d_thread_of,d_is_match,d_is_ahead,d_is_thread,d_pairs_of,d_is_stack,d_holds_all_once,d_has_one_ahead,d_are_heaps,d_heaps_of,d_paper_of,d_shows,d_law_cell,d_law_purse,d_law_take,d_law_letters,d_law_drawn,d_law_row,d_law_table,d_law_pairs,d_law_levels,d_law_whole,d_law_is_heap,d_law_are_heaps,d_law_is_thread,d_law_reads,d_law_pair,d_law_as_long,d_law_spoilt,d_law_right,d_law,x_NoRow⟩ F⟩
