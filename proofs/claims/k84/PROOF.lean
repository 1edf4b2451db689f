import PyProof.Rows.All
import Wide.All
import OpenK.AllK
import Wide.FinOn
import Lean
import PyProof.EqAt
import PyProof.EqKinds
import PyProof.TupleCall
import PyProof.ReprRoads
import KE.KSortTup
import KE.KDictList
import KE.KMinKey
import KE.KIntText
import PySem.Challenge.RW_panethread_k84_words_spoilt
noncomputable section
local macro_rules | `(tactic| trivial) => `(tactic| decide +kernel)
set_option compiler.extract_closed false
set_option Elab.async false
set_option linter.all false
set_option maxRecDepth 100000
namespace L2
@[elab_as_elim] theorem iJ {p:List PySem.Value->Prop} (h:∀ a0:PySem.Value,p [a0]) (us:List PySem.Value) (hl:us.length=1):p us:=by
 rcases us with _ | ⟨a0,us0⟩
 ·cases hl
 rcases us0 with _ | ⟨b,us⟩
 ·exact h a0
 ·cases hl
@[elab_as_elim] theorem oU {p:List PySem.Value->Prop} (h:∀ a0 a1:PySem.Value,p [a0,a1]) (us:List PySem.Value) (hl:us.length=2):p us:=by
 rcases us with _ | ⟨a0,us0⟩
 ·cases hl
 rcases us0 with _ | ⟨a1,us1⟩
 ·cases hl
 rcases us1 with _ | ⟨b,us⟩
 ·exact h a0 a1
 ·cases hl
@[elab_as_elim] theorem usN3 {p:List PySem.Value->Prop} (h:∀ a0 a1 a2:PySem.Value,p [a0,a1,a2]) (us:List PySem.Value) (hl:us.length=3):p us:=by
 rcases us with _ | ⟨a0,us0⟩
 ·cases hl
 rcases us0 with _ | ⟨a1,us1⟩
 ·cases hl
 rcases us1 with _ | ⟨a2,us2⟩
 ·cases hl
 rcases us2 with _ | ⟨b,us⟩
 ·exact h a0 a1 a2
 ·cases hl
theorem auto1 (h:True:=by first | exact .inl rfl | exact .inr rfl | assumption):True:=h
theorem auto2 (h:True:=by decide):True:=h
theorem auto3 (h:True:=by intro _;rfl):True:=h
theorem auto4 (h:True:=by rfl):True:=h
theorem auto5 (h:True:=by with_unfolding_all rfl):True:=h
theorem auto6 (h:True:=by trivial):True:=h
open PySem PySem.Spec PyProof.Rows
abbrev Key:=Sum Int Str
def tL:Key->Value->Bool
 | .inl k,v=>Value.isInt k v
 | .inr x,v=>Value.isStrOf x v
def keyH (w:World):Key->Int
 | .inl k=>hashInt k
 | .inr x=>hashStr w x
theorem cH:∀ {k:Key} {v:Value},tL k v=true->(∃ i t,k=Sum.inl i/\v=Value.int i t)\/(∃ x t,k=Sum.inr x/\v=Value.str x t)
 | .inl i,v,h=>by
  obtain ⟨t,e⟩:=Value.isInt_shape (k:=i) (v:=v) h
  exact .inl ⟨i,t,rfl,e⟩
 | .inr x,v,h=>by
  obtain ⟨t,e⟩:=Value.isStrOf_shape (x:=x) (v:=v) h
  exact .inr ⟨x,t,rfl,e⟩
theorem yK (i:Int) (t:Tok):tL (.inl i) (.int i t)=true:=by simp [tL,Value.isInt]
theorem tM (x:Str) (t:Tok):tL (.inr x) (.str x t)=true:=by simp [tL,Value.isStrOf]
theorem Ik (a b:Int):decide ((Sum.inl a:Key)=Sum.inl b)=(a == b):=by
 by_cases e:a=b
 ·subst e;simp
 ·have h:¬ (Sum.inl a:Key)=Sum.inl b:=fun q=>e (Sum.inl.inj q)
  rw [decide_eq_false h]
  exact (beq_eq_false_iff_ne.mpr e).symm
theorem Il (a b:Str):decide ((Sum.inr a:Key)=Sum.inr b)=decide (a=b):=by
 by_cases e:a=b
 ·subst e;simp
 ·have h:¬ (Sum.inr a:Key)=Sum.inr b:=fun q=>e (Sum.inr.inj q)
  rw [decide_eq_false h,decide_eq_false e]
theorem Im (a:Int) (b:Str):decide ((Sum.inl a:Key)=Sum.inr b)=false:=decide_eq_false (fun q=>nomatch q)
theorem Io (a:Str) (b:Int):decide ((Sum.inr a:Key)=Sum.inl b)=false:=decide_eq_false (fun q=>nomatch q)
def aR (prog:Program) (w:World):PySem.KeyKind prog w Key where
 is:=tL
 hash:=keyH w
 inj:=fun v a b ha hb=>by
  rcases cH ha with ⟨i,t,rfl,rfl⟩ | ⟨x,t,rfl,rfl⟩
  ·rcases cH hb with ⟨j,u,rfl,e⟩ | ⟨y,u,rfl,e⟩
   ·injection e with e1 _;rw [e1]
   ·exact nomatch e
  ·rcases cH hb with ⟨j,u,rfl,e⟩ | ⟨y,u,rfl,e⟩
   ·exact nomatch e
   ·injection e with e1 _;rw [e1]
 byValue:=fun k v h=>by
  rcases cH h with ⟨i,t,rfl,rfl⟩ | ⟨x,t,rfl,rfl⟩ <;> rfl
 pyHash:=fun hv h=>by
  rcases cH hv with ⟨i,t,rfl,rfl⟩ | ⟨x,t,rfl,rfl⟩
  ·exact wpAny_pyHash_int h
  ·exact wpAny_pyHash_str h
 eqBool:=fun hu hv h=>by
  rcases cH hu with ⟨i,t,rfl,rfl⟩ | ⟨x,t,rfl,rfl⟩
  ·rcases cH hv with ⟨j,u,rfl,rfl⟩ | ⟨y,u,rfl,rfl⟩
   ·rw [Ik] at h;exact wpAny_eqBool_int h
   ·rw [Im] at h;exact SeqAt.EqAt.int_str i t y u _ _ _ _ h
  ·rcases cH hv with ⟨j,u,rfl,rfl⟩ | ⟨y,u,rfl,rfl⟩
   ·rw [Io] at h;exact SeqAt.EqAt.str_int x t j u _ _ _ _ h
   ·rw [Il] at h;exact wpAny_eqBool_str h
 «strs»:=fun k x t v h=>by
  rcases cH h with ⟨i,u,rfl,e⟩ | ⟨y,u,rfl,e⟩
  ·exact nomatch e
  ·injection e with e1 _
   subst e1
   cases v <;> rfl
theorem vy (prog:Program) (w:World) (i:Int) (t:Tok):(aR prog w).is (.inl i) (.int i t)=true:=yK i t
theorem vz (prog:Program) (w:World) (x:Str) (t:Tok):(aR prog w).is (.inr x) (.str x t)=true:=tM x t
end L2
namespace L2
open PySem PySem.Spec PyProof.Rows
inductive V where
 | non | bl (b:Bool) | int (i:Int) | str (x:Str) | byt (b:Array UInt8) | flt (b:UInt64) | ref (a:Addr) | ty (n:String)
 deriving DecidableEq
def RelV:V->Value->Prop
 | .non,u=>u=Value.none
 | .bl b,u=>u=Value.bool b
 | .int i,u=>∃ t,u=Value.int i t
 | .str x,u=>∃ t,u=Value.str x t
 | .byt b,u=>∃ t,u=Value.bytes b t
 | .flt b,u=>∃ t,u=Value.float b t
 | .ref a,u=>u=Value.ref a
 | .ty n,u=>u=Value.type n
abbrev Vals:List V->List Value->Prop:=Paired RelV
theorem Vals.length {xs:List V} {us:List Value} (r:Vals xs us):xs.length=us.length:=Paired.length r
theorem Vals.get:∀ {xs:List V} {us:List Value} {i:Nat} {x:V},Vals xs us->xs[i]?=some x->∃ u,us[i]?=some u/\RelV x u
 | _,_,_,_,.nil,e=>by simp at e
 | _,_,0,_,.cons r _,e=>by simp at e;subst e;exact ⟨_,rfl,r⟩
 | _,_,i+1,x,.cons _ t,e=>by
  obtain ⟨u,h1,h2⟩:=Vals.get (i:=i) (x:=x) t (by simpa using e)
  exact ⟨u,by simpa using h1,h2⟩
theorem Vals.set {x:V} {u:Value} (r:RelV x u):∀ {xs:List V} {us:List Value} (i:Nat),Vals xs us->Vals (xs.set i x) (us.set i u)
 | _,_,_,.nil=>.nil
 | _,_,0,.cons _ t=>.cons r t
 | _,_,i+1,.cons q t=>.cons q (Vals.set r i t)
theorem Vals.append:∀ {xs ys:List V} {us ws:List Value},Vals xs us->Vals ys ws->Vals (xs ++ ys) (us ++ ws)
 | _,_,_,_,.nil,s=>s
 | _,_,_,_,.cons r t,s=>.cons r (Vals.append t s)
theorem Vals.take:∀ {xs:List V} {us:List Value} (n:Nat),Vals xs us->Vals (xs.take n) (us.take n)
 | _,_,0,_=>.nil
 | _,_,_+1,.nil=>.nil
 | _,_,n+1,.cons r t=>.cons r (Vals.take n t)
theorem Vals.drop:∀ {xs:List V} {us:List Value} (n:Nat),Vals xs us->Vals (xs.drop n) (us.drop n)
 | _,_,0,r=>r
 | _,_,_+1,.nil=>.nil
 | _,_,n+1,.cons _ t=>Vals.drop n t
def RelO:Option V->Option Value->Prop
 | some v,some u=>RelV v u
 | none,none=>True
 | _,_=>False
def KV {κ:Type}:List (κ×V)->List (κ×Value)->Prop:=Paired fun (p:κ×V) (q:κ×Value)=>p.1=q.1/\RelV p.2 q.2
def kV:Key->V
 | .inl i=>.int i
 | .inr x=>.str x
inductive HO where
 /-- a list -/
 | lst (xs:List V)
 /-- a tuple (never changes) -/
 | tup (xs:List V)
 /-- a dict whose keys are ints and texts;one whose keys are tuples of ints and texts (the empty one is both) -/
 | dK (kvs:List (Key×V)) | dT (kvs:List (List Key×V))
 /-- a set of ints:its members,its size -/
 | set (S:Int->Bool) (n:Nat)
 /-- an instance of the class at C,its dict at dx,its attributes -/
 | ins (C dx:Addr) (fs:List (Str×V))
 /-- the dict of the instance at x -/
 | own (x:Addr)
 /-- the dict of an exception -/
 | xd (fs:List (Str×V))
 /-- a bound method,f of x -/
 | met (f x:Addr)
 /-- a range object lo,lo+1,.. below hi -/
 | rng (lo hi:Int)
 /-- a thing that is known to the object (the script;a dict while a loop walks it):read,never written while it is so -/
 | frz (o:Obj) (u:HO)
 /-- a code object's table -/
 | tbl (ps:Array Value)
 /-- any other thing,by what is true of its one object (a def of one's own:SetO a S n:=HO.ext fun h=>..) -/
 | ext (φ:Heap->Prop)
abbrev Hp:=Addr->Option HO
def upd (H:Hp) (a:Addr) (o:HO):Hp:=fun b=>if b=a then some o else H b
theorem au {H:Hp} {a:Addr} {o:HO}:upd H a o a=some o:=by unfold upd;rw [if_pos rfl]
theorem aG {H:Hp} {a b:Addr} {o:HO} (h:b≠a):upd H a o b=H b:=by unfold upd;rw [if_neg h]
theorem MT {H:Hp} {a b:Addr} {o u:HO} (h:H a=some o) (h':H b=some u) (d:o≠u):a≠b:=by
 intro e;subst e;rw [h] at h';exact d (Option.some.inj h')
theorem iR {H:Hp} {a b:Addr} {o:HO} (h:H a=some o) (h':H b=none):a≠b:=by
 intro e;subst e;rw [h] at h';cases h'
section
variable (P:Program) (w:World)
def ObjOk (H:Hp) (h:Heap) (a:Addr):HO->Prop
 | .lst xs=>xs.length<=sizeLine/\∃ (its:List Value) (n:Nat),Vals xs its/\h.get? a=some {cls:=.type "list",data:=.seq its.toArray n}
 | .tup xs=>xs.length<=sizeLine/\∃ its:List Value,Vals xs its/\IsTup h a its.toArray
 | .dK kvs=>kvs.length<=sizeLine/\(a == sysModules)=false/\∃ vs,KV kvs vs/\h.DictOf (aR P w) a vs
 | .dT kvs=>kvs.length<=sizeLine/\(a == sysModules)=false/\∃ xs:List (List Key×Addr×Value),
   Paired (fun (p:List Key×V) (q:List Key×Addr×Value)=>p.1=q.1/\H q.2.1=some (.tup (p.1.map kV))/\RelV p.2 q.2.2) kvs xs/\
   ∃ o es ep,h.get? a=some o/\o.ExactDict/\o.data= .dict es ep/\es.toList=xs.map (entryOfKey (tupleKind (aR P w)))/\(xs.map (·.1)).Nodup
 | .set S n=>h.SetOf (intKind P w) a S n
 | .ins C dx fs=>H dx=some (.own a)/\fs.length<=1000/\dx≠a/\h.get? a=some (PySem.W.instObj C dx)/\
   ∃ mA,h.Ns1 dx mA/\(∀ f,RelO (fs.lookup f) (mA f))/\PySem.Within mA (fs.map (·.1))
 | .own _=>∃ o,h.get? a=some o
 | .xd fs=>∃ mA,h.Ns1 a mA/\∀ f,RelO (fs.lookup f) (mA f)
 | .rng lo hi=>∃ t u v,h.get? a=some {cls:=.type "range",data:=.fields #[.int lo t,.int hi u,.int 1 v]}
 | .frz o u=>h.get? a=some o/\ObjOk H h a u
 | .tbl ps=>h.get? a=some {cls:=.none,data:=.fields ps}
 | .met f x=>h.get? a=some (PySem.W.methodObj (.ref f) (.ref x))
 | .ext φ=>φ h/\(∃ o,h.get? a=some o)/\∀ h1 h2:Heap,φ h1->(∀ o,h1.get? a=some o->h2.get? a=some o)->φ h2
def HOk (H:Hp) (h:Heap):Prop:=∀ a o,H a=some o->ObjOk P w H h a o
end
section
variable {P:Program} {w:World} {H H':Hp} {h h':Heap} {a:Addr} {o:HO}
theorem ObjOk.lt (x:ObjOk P w H h a o):a < h.objs.size:=by
 cases o with
 | lst xs=>obtain ⟨_,_,_,_,e⟩:=x;exact Heap.lt_size e
 | tup xs=>obtain ⟨_,_,_,p⟩:=x;exact p.lt
 | dK kvs=>obtain ⟨_,_,_,_,o,_,_,e,_⟩:=x;exact Heap.lt_size e
 | dT kvs=>obtain ⟨_,_,_,_,o,_,_,e,_⟩:=x;exact Heap.lt_size e
 | set S n=>obtain ⟨o,_,_,_,e,_⟩:=x;exact Heap.lt_size e
 | ins C dx fs=>obtain ⟨_,_,_,e,_⟩:=x;exact Heap.lt_size e
 | own y=>obtain ⟨_,e⟩:=x;exact Heap.lt_size e
 | xd fs=>obtain ⟨_,⟨_,_,_,e,_⟩,_⟩:=x;exact Heap.lt_size e
 | rng lo hi=>obtain ⟨_,_,_,e⟩:=x;exact Heap.lt_size e
 | frz ob u=>obtain ⟨e,_⟩:=x;exact Heap.lt_size e
 | tbl ps=>exact Heap.lt_size (show h.get? a=some _ from x)
 | met f y=>exact Heap.lt_size (show h.get? a=some _ from x)
 | ext φ=>obtain ⟨_,⟨_,e⟩,_⟩:=x;exact Heap.lt_size e
theorem Paired.mapP {α β:Type} {F G:α->β->Prop}:∀ {l₁:List α} {l₂:List β},Paired F l₁ l₂->(∀ a b,F a b->G a b)->Paired G l₁ l₂
 | _,_,.nil,_=>.nil
 | _,_,.cons r t,f=>.cons (f _ _ r) (Paired.mapP t f)
theorem ObjOk.stay (x:ObjOk P w H h a o) (k:∀ b u,(b=a\/H b=some (.own a))->h.get? b=some u->h'.get? b=some u)
  (ho:∀ b,H b=some (.own a)->H' b=some (.own a)) (ht:∀ b xs,H b=some (.tup xs)->H' b=some (.tup xs)):ObjOk P w H' h' a o:=by
 induction o with
 | lst xs=>obtain ⟨z,its,n,r,e⟩:=x;exact ⟨z,its,n,r,k _ _ (.inl rfl) e⟩
 | tup xs=>obtain ⟨z,its,r,ob,e,c⟩:=x;exact ⟨z,its,r,ob,k _ _ (.inl rfl) e,c⟩
 | dK kvs=>obtain ⟨z,y,vs,r,ob,es,ep,e,c⟩:=x;exact ⟨z,y,vs,r,ob,es,ep,k _ _ (.inl rfl) e,c⟩
 | dT kvs=>
  obtain ⟨z,y,xs,r,ob,es,ep,e,c⟩:=x
  exact ⟨z,y,xs,Paired.mapP r fun p q z=>⟨z.1,ht _ _ z.2.1,z.2.2⟩,ob,es,ep,k _ _ (.inl rfl) e,c⟩
 | set S n=>obtain ⟨ob,es,ep,t,e,c⟩:=x;exact ⟨ob,es,ep,t,k _ _ (.inl rfl) e,c⟩
 | ins C dx fs=>
  obtain ⟨d,z,ne,e,mA,⟨od,es,ep,e2,c⟩,r⟩:=x
  exact ⟨ho _ d,z,ne,k _ _ (.inl rfl) e,mA,⟨od,es,ep,k _ _ (.inr d) e2,c⟩,r⟩
 | own y=>obtain ⟨ob,e⟩:=x;exact ⟨ob,k _ _ (.inl rfl) e⟩
 | xd fs=>obtain ⟨mA,⟨od,es,ep,e,c⟩,r⟩:=x;exact ⟨mA,⟨od,es,ep,k _ _ (.inl rfl) e,c⟩,r⟩
 | rng lo hi=>obtain ⟨t,u,v,e⟩:=x;exact ⟨t,u,v,k _ _ (.inl rfl) e⟩
 | frz ob u ih=>obtain ⟨e,q⟩:=x;exact ⟨k _ _ (.inl rfl) e,ih q⟩
 | tbl ps=>
  have e:h.get? a=some {cls:=.none,data:=.fields ps}:=x
  show h'.get? a=some {cls:=.none,data:=.fields ps}
  exact k a _ (.inl rfl) e
 | met f y=>
  have e:h.get? a=some (PySem.W.methodObj (.ref f) (.ref y)):=x
  show h'.get? a=some (PySem.W.methodObj (.ref f) (.ref y))
  exact k a _ (.inl rfl) e
 | ext φ=>obtain ⟨p,⟨o,e⟩,st⟩:=x;exact ⟨st _ _ p fun o q=>k _ _ (.inl rfl) q,⟨o,k _ _ (.inl rfl) e⟩,st⟩
theorem HOk.lt (x:HOk P w H h) (e:H a=some o):a < h.objs.size:=(x a o e).lt
theorem HOk.fresh (x:HOk P w H h) (e:h.objs.size<=a):H a=none:=by
 cases q:H a with
 | none=>rfl
 | some u=>exact absurd (Nat.lt_of_lt_of_le (x.lt q) e) (Nat.lt_irrefl _)
theorem HOk.kept (x:HOk P w H h) (k:∀ b u,h.get? b=some u->h'.get? b=some u):HOk P w H h':=fun a o e=>
 (x a o e).stay (fun b u _ q=>k b u q) (fun _ q=>q) fun _ _ q=>q
theorem HOk.laid (x:HOk P w H h) (k:∀ b u,h.get? b=some u->h'.get? b=some u) (hp:h.objs.size<=a) (new:ObjOk P w (upd H a o) h' a o):HOk P w (upd H a o) h':=fun b u e=>by
 have hn:=x.fresh hp
 by_cases hb:b=a
 ·subst hb;rw [au] at e;cases e;exact new
 ·rw [aG hb] at e
  exact (x b u e).stay (fun c v _ q=>k c v q) (fun c q=>by rw [aG (iR q hn)];exact q) fun c xs q=>by rw [aG (iR q hn)];exact q
end
def Rd (H:Hp) (a:Addr) (u:HO):Prop:=H a=some u\/∃ o,H a=some (.frz o u)
theorem Rd.ok {P:Program} {w:World} {H:Hp} {h:Heap} {a:Addr} {u:HO} (r:Rd H a u) (x:HOk P w H h):ObjOk P w H h a u:=by
 rcases r with r | ⟨o,r⟩
 ·exact x a u r
 ·obtain ⟨_,q⟩:=x a _ r
  exact q
def M5:Option HO->Prop
 | some (.lst _)=>True
 | some (.dK _)=>True
 | some (.dT _)=>True
 | some (.set _ _)=>True
 | some (.ins _ _ _)=>True
 | some (.ext _)=>True
 | _=>False
section
variable {P:Program} {w:World} {H:Hp} {h h':Heap} {x e:Addr} {o':HO}
theorem HOk.write (ok:HOk P w H h) (mu:M5 (H x)) (he:e=x\/H e=some (.own x)) (k:∀ b u,b≠e->h.get? b=some u->h'.get? b=some u) (heo:∃ u,h'.get? e=some u)
  (new:ObjOk P w (upd H x o') h' x o'):HOk P w (upd H x o') h':=fun b u q=>by
 have nown:∀ c y,H c=some (.own y)->c≠x:=fun c y r z=>by subst z;rw [r] at mu;exact mu
 have ntup:∀ c xs,H c=some (.tup xs)->c≠x:=fun c xs r z=>by subst z;rw [r] at mu;exact mu
 by_cases hb:b=x
 ·subst hb;rw [au] at q;cases q;exact new
 ·rw [aG hb] at q
  by_cases hbe:b=e
  ·have q':H b=some (.own x):=by
    rcases he with z | z
    ·exact absurd (hbe.trans z) hb
    ·rw [hbe];exact z
   rw [q] at q';cases q'
   obtain ⟨v,hv⟩:=heo
   exact ⟨v,by rw [hbe];exact hv⟩
  ·refine (ok b u q).stay (fun c v hc r=>k c v ?_ r) (fun c r=>by rw [aG (nown c b r)];exact r) fun c xs r=>by rw [aG (ntup c xs r)];exact r
   rcases hc with rfl | hc
   ·exact hbe
   ·rintro rfl
    rcases he with z | z
    ·exact nown c b hc z
    ·rw [hc] at z;cases z;exact hb rfl
end
structure Un (fs ex:List Addr) (H H':Hp) (h h':Heap):Prop where
 keep:∀ b o,h.get? b=some o->H b=none->b ∉ fs->b ∉ ex->h'.get? b=some o
 slot:∀ b o,h.get? b=some o->H b=none->b∈fs->b ∉ ex->∃ sl,h'.get? b=some {o with slots:=sl}
 free:∀ b o,h.get? b=some o->H b=none->b ∉ ex->H' b=none
 there:∀ b o,h.get? b=some o->b ∉ ex->∃ o',h'.get? b=some o'
 tups:∀ b xs,H b=some (.tup xs)->H' b=some (.tup xs)
 frzs:∀ b o u,H b=some (.frz o u)->H' b=some (.frz o u)
 tbls:∀ b ps,H b=some (.tbl ps)->∃ more,H' b=some (.tbl (ps ++ more))
section
variable {fs fs' ex ex':List Addr} {H H1 H2:Hp} {h h1 h2 h':Heap} {a x e:Addr} {o:HO}
theorem Un.any (u:Un fs ex H H1 h h1) {b:Addr} {ob:Obj} (q:h.get? b=some ob) (n:H b=none) (hx:b ∉ ex):∃ sl,h1.get? b=some {ob with slots:=sl}:=by
 by_cases hb:b∈fs
 ·exact u.slot b ob q n hb hx
 ·exact ⟨ob.slots,u.keep b ob q n hb hx⟩
theorem Un.kept (k:∀ b u,h.get? b=some u->h'.get? b=some u):Un fs ex H H h h':=
 ⟨fun b ob q _ _ _=>k b ob q,fun b ob q _ _ _=>⟨ob.slots,k b ob q⟩,fun _ _ _ n _=>n,fun b ob q _=>⟨ob,k b ob q⟩,fun _ _ q=>q,fun _ _ _ q=>q,fun _ ps q=>⟨#[],by rw [q];simp⟩⟩
theorem Un.refl:Un fs ex H H h h:=Un.kept fun _ _ q=>q
theorem Un.laid (k:∀ b u,h.get? b=some u->h'.get? b=some u) (hp:h.objs.size<=a) (hn:H a=none):Un fs ex H (upd H a o) h h' where
 keep:=fun b u q _ _ _=>k b u q
 slot:=fun b u q _ _ _=>⟨u.slots,k b u q⟩
 free:=fun b u q n _=>by rw [aG (Nat.ne_of_lt (Nat.lt_of_lt_of_le (Heap.lt_size q) hp))];exact n
 there:=fun b u q _=>⟨u,k b u q⟩
 tups:=fun b xs q=>by rw [aG (iR q hn)];exact q
 frzs:=fun b u xs q=>by rw [aG (iR q hn)];exact q
 tbls:=fun b ps q=>⟨#[],by rw [aG (iR q hn),q];simp⟩
theorem Un.write (mu:M5 (H x)) (he:e=x\/H e=some (.own x)) (k:∀ b u,b≠e->h.get? b=some u->h'.get? b=some u) (heo:∃ u,h'.get? e=some u):Un fs ex H (upd H x o) h h':=by
 have hx:∀ b,H b=none->b≠x:=fun b n z=>by subst z;rw [n] at mu;exact mu
 have hb:∀ b,H b=none->b≠e:=fun b n z=>by
  subst z
  rcases he with r | r
  ·exact hx b n r
  ·rw [n] at r;cases r
 have hm:∀ b u,H b=some u->¬ M5 (some u)->b≠x:=fun b u q nm z=>by subst z;rw [q] at mu;exact nm mu
 refine ⟨fun b u q n _ _=>k b u (hb b n) q,fun b u q n _ _=>⟨u.slots,k b u (hb b n) q⟩,fun b u q n _=>by rw [aG (hx b n)];exact n,fun b u q _=>?_,
  fun b xs q=>by rw [aG (hm b _ q fun z=>z)];exact q,fun b u xs q=>by rw [aG (hm b _ q fun z=>z)];exact q,fun b ps q=>⟨#[],by rw [aG (hm b _ q fun z=>z),q];simp⟩⟩
 by_cases hbe:b=e
 ·subst hbe;exact heo
 ·exact ⟨u,k b u hbe q⟩
end
def DK (h:Heap) (H:Hp):List Addr:=(List.range h.objs.size).filter fun a=>(H a).isSome
def uy (h:Heap) (H:Hp):Heap:=PySem.W.hideAll h (DK h H)
theorem yL (h:Heap) (H:Hp):(uy h H).objs.size=h.objs.size:=PySem.W.hideAll_size _ _
theorem z9 {h:Heap} {H:Hp} {b:Addr} {o:Obj} (e:h.get? b=some o) (n:H b=none):(uy h H).get? b=some o:=
 PySem.W.hideAll_get _ e fun hm=>by
  have q:(H b).isSome=true:=(List.mem_filter.mp hm).2
  rw [n] at q;simp at q
theorem DP {h:Heap} {H:Hp} {b:Addr} {o:Obj} (e:(uy h H).get? b=some o):h.get? b=some o/\H b=none:=by
 have e':h.get? b=some o:=PySem.W.of_hideAll (DK h H) e
 refine ⟨e',?_⟩
 cases q:H b with
 | none=>rfl
 | some x=>
  have hm:b∈DK h H:=List.mem_filter.mpr ⟨List.mem_range.mpr (Heap.lt_size e'),by simp [q]⟩
  have z:(uy h H).get? b=none:=PySem.W.hideAll_none (DK h H) hm
  rw [z] at e;cases e
structure Mod (K:W.Frag) (mg:Str->Option Value) (base:Heap):Prop where
 kin:K.In base
 glob:base.Ns mainGlobals mg
 blt:∃ mb,base.Ns builtinsNs mb/\∀ x:Str,x≠"__name__"->mb x=bootBuiltins x
 nolimit:base.NoLimit
 sysm:∃ mm,base.Ns sysModules mm
structure Cx where
 prog:Program
 w:World
 K:W.Frag
 mg:Str->Option Value
 base:Heap
 A:Around
 N:List Str
 s₀:Shared
 H₀:Hp
 env:Env
 outer:List Env
 stack:List Env
 ex:List Addr
 fn:Str->Bool
 calm:Bool
 pn:List (Addr×Obj)
 xe:Value->Shared->Prop
def frs (l:List Env):List Addr:=l.filterMap (·.frame)
abbrev Cx.fs (X:Cx):List Addr:=frs X.outer
def Qx (sc:Scope) (x:Str):Prop:=sc.names.lookup x=some .local\/sc.names.lookup x=some .cell\/sc.names.lookup x=some .free
def Loc (sc:Scope) (x:Str):Prop:=sc.names.lookup x=some .local\/sc.names.lookup x=some .cell
def Look (env:Env) (h:Heap) (m:Str->Option Value) (x:Str) (u:Value):Prop:=
 (env.kindOf x=some .local/\m x=some u)\/((env.kindOf x=some .cell\/env.kindOf x=some .free)/\∃ c,env.cells.lookup x=some c/\h.IsCell c (some u))
structure Cx.Ok (X:Cx):Prop where
 mod:Mod X.K X.mg X.base
 kind:X.env.scope.kind= .function
 glob:X.env.globals=mainGlobals
 blt:X.env.builtins=builtinsNs
 above:X.s₀.heap.objs.size<=X.env.locals
 inj:∀ x y c,X.env.cells.lookup x=some c->X.env.cells.lookup y=some c->x=y
 has:∀ x,(X.env.kindOf x=some .cell\/X.env.kindOf x=some .free)->∃ c,X.env.cells.lookup x=some c
 cab:∀ x c,X.fn x=true->X.env.cells.lookup x=some c->X.s₀.heap.objs.size<=c
 hd:X.calm=true->X.A.handled=none
 frames:X.A.frames=some X.stack
 stk:X.stack=X.outer\/(X.stack=X.env :: X.outer/\X.env.frame=some X.env.locals)
 exf:∀ b∈X.ex,b≠X.env.locals/\∀ x c,X.env.cells.lookup x=some c->c≠b
 bs:∀ b o,X.base.get? b=some o->X.s₀.heap.get? b=some o/\X.H₀ b=none
 bsz:X.base.objs.size<=X.s₀.heap.objs.size
 noex:∀ b o,X.base.get? b=some o->b ∉ X.ex
 exfs:∀ b∈X.ex,b ∉ X.fs
 funs:X.s₀.heap.FunFrames X.base X.outer
 frf:∀ b∈X.fs,X.H₀ b=none
structure Inv (X:Cx) (pins:List (Addr×Obj)) (U:List (Option V)) (H:Hp) (s:Shared):Prop where
 ok:X.Ok
 os:s.os=X.s₀.os
 bare:AllBare s.gens
 base:Un X.fs X.ex X.H₀ H X.s₀.heap s.heap
 loc:∃ m,s.heap.Ns X.env.locals m/\∀ (i:Nat) (x:Str) (v:V),X.N[i]?=some x->U[i]?=some (some v)->Qx X.env.scope x->∃ u,RelV v u/\Look X.env s.heap m x u
 cell:∀ x c,X.env.cells.lookup x=some c->∃ v,s.heap.IsCell c v
 free:H X.env.locals=none
 freeC:∀ x c,X.env.cells.lookup x=some c->H c=none
 pin:∀ p∈X.pn ++ pins,s.heap.get? p.1=some p.2/\H p.1=none/\p.1≠X.env.locals/\p.1 ∉ X.fs/\∀ v,p.2.data≠.cell v
 hok:HOk X.prog X.w H s.heap
 len:U.length=X.N.length
section
variable {X:Cx} {pins:List (Addr×Obj)} {U:List (Option V)} {H H':Hp} {s:Shared} {h':Heap}
theorem Cx.Ok.nofr (ok:X.Ok) {b:Addr} {o:Obj} (e:X.base.get? b=some o):b ∉ X.fs:=fun hb=>by
 have:=(ok.funs.mem hb).1
 rw [e] at this;cases this
theorem Inv.bs (I:Inv X pins U H s):∀ b o,X.base.get? b=some o->s.heap.get? b=some o/\H b=none:=fun b o e=>
 ⟨I.base.keep b o (I.ok.bs b o e).1 (I.ok.bs b o e).2 (I.ok.nofr e) (I.ok.noex b o e),I.base.free b o (I.ok.bs b o e).1 (I.ok.bs b o e).2 (I.ok.noex b o e)⟩
theorem Inv.bk (I:Inv X pins U H s):∀ b o,X.base.get? b=some o->s.heap.get? b=some o:=fun b o e=>(I.bs b o e).1
theorem Inv.mod (I:Inv X pins U H s):Mod X.K X.mg X.base:=I.ok.mod
theorem Inv.kIn (I:Inv X pins U H s):X.K.In s.heap:=I.ok.mod.kin.keeps I.bk
theorem Inv.lt (I:Inv X pins U H s):X.env.locals < s.heap.objs.size:=let ⟨_,hn,_⟩:=I.loc;hn.lt
theorem Inv.sz (I:Inv X pins U H s):X.s₀.heap.objs.size<=s.heap.objs.size:=Nat.le_trans I.ok.above (Nat.le_of_lt I.lt)
theorem Inv.nofs (I:Inv X pins U H s) {a:Addr} (h:s.heap.objs.size<=a):a ∉ X.fs:=fun hb=>by
 obtain ⟨_,o,ho,_⟩:=I.ok.funs.mem hb
 exact absurd (Nat.lt_of_lt_of_le (Heap.lt_size ho) (Nat.le_trans I.sz h)) (Nat.lt_irrefl _)
theorem Inv.cne (I:Inv X pins U H s):∀ x c,X.env.cells.lookup x=some c->c≠X.env.locals:=fun x c e z=>by
 obtain ⟨v,o,ho,hd⟩:=I.cell x c e
 obtain ⟨m,⟨o',es,ep,ho',hd',_⟩,_⟩:=I.loc
 rw [z,ho'] at ho;cases ho;rw [hd'] at hd;cases hd
theorem Inv.funs (I:Inv X pins U H s):s.heap.FunFrames X.base X.outer:=by
 have all:∀ (l:List Env),(∀ b∈frs l,b∈X.fs)->X.s₀.heap.FunFrames X.base l->s.heap.FunFrames X.base l:=by
  intro l
  induction l with
  | nil=>intro _ _;trivial
  | cons env r ih=>
   intro hs hl
   obtain ⟨hk,⟨L,o,hf,hn,ho,hd⟩,hr⟩:=hl
   have hL:L∈X.fs:=hs L (by unfold frs;rw [List.filterMap_cons,hf];exact List.mem_cons_self)
   obtain ⟨sl,e⟩:=I.base.slot L o ho (I.ok.frf L hL) hL fun z=>I.ok.exfs L z hL
   exact ⟨hk,⟨L,_,hf,hn,e,hd⟩,ih (fun b hb=>hs b (by unfold frs;rw [List.filterMap_cons,hf];exact List.mem_cons_of_mem _ hb)) hr⟩
 exact all X.outer (fun _ hb=>hb) I.ok.funs
theorem Inv.stack (I:Inv X pins U H s):s.heap.FunFrames X.base X.stack:=by
 rcases I.ok.stk with e | ⟨e,hf⟩
 ·rw [e];exact I.funs
 ·rw [e]
  obtain ⟨m,hn,_⟩:=I.loc
  refine .cons (by rw [I.ok.kind];decide) hf hn ?_ I.funs
  exact Heap.get?_none_of_le (Nat.le_trans I.ok.bsz I.ok.above)
theorem Inv.stkSub (I:Inv X pins U H s):∀ b∈frs X.stack,b∈X.env.locals :: X.fs:=fun b hb=>by
 rcases I.ok.stk with e | ⟨e,hf⟩
 ·rw [e] at hb;exact List.mem_cons_of_mem _ hb
 ·rw [e] at hb
  unfold frs at hb
  rw [List.filterMap_cons,hf] at hb
  exact hb
theorem Inv.stkFree (I:Inv X pins U H s):∀ b∈frs X.stack,H b=none:=fun b hb=>by
 rcases List.mem_cons.mp (I.stkSub b hb) with e | hb
 ·rw [e];exact I.free
 ·obtain ⟨_,o,ho,_⟩:=I.ok.funs.mem hb
  exact I.base.free b o ho (I.ok.frf b hb) fun z=>I.ok.exfs b z hb
theorem Inv.step {g':Array GenState} {t':Nat} {d':Drawn} {ch:List Addr} (I:Inv X pins U H s)
  (hch:∀ b∈ch,(b∈X.ex\/X.s₀.heap.objs.size<=b)/\b≠X.env.locals/\(∀ x c,X.env.cells.lookup x=some c->c≠b)/\∀ p∈X.pn ++ pins,p.1≠b)
  (keep:∀ b o,b≠X.env.locals->b ∉ X.fs->b ∉ ch->s.heap.get? b=some o->H b=none->h'.get? b=some o)
  (slot:∀ b o,b≠X.env.locals->b∈X.fs->b ∉ ch->s.heap.get? b=some o->H b=none->∃ sl,h'.get? b=some {o with slots:=sl}) (free:∀ b o,b ∉ ch->s.heap.get? b=some o->H b=none->H' b=none)
  (there:∀ b o,b ∉ ch->s.heap.get? b=some o->∃ o',h'.get? b=some o')
  (tups:∀ b xs,H b=some (.tup xs)->H' b=some (.tup xs)) (frzs:∀ b o u,H b=some (.frz o u)->H' b=some (.frz o u)) (tbls:∀ b ps,H b=some (.tbl ps)->∃ more,H' b=some (.tbl (ps ++ more)))
  (ns:∀ m,s.heap.Ns X.env.locals m->h'.Ns X.env.locals m) (hok:HOk X.prog X.w H' h') (hg:AllBare g'):
  Inv X pins U H' {s with heap:=h',gens:=g',drawn:=d',toks:=t'}:=by
 have neL:∀ b o,X.s₀.heap.get? b=some o->b≠X.env.locals:=fun b o e=>Nat.ne_of_lt (Nat.lt_of_lt_of_le (Heap.lt_size e) I.ok.above)
 have neC:∀ b o,X.s₀.heap.get? b=some o->b ∉ X.ex->b ∉ ch:=fun b o e hx hb=>by
  rcases (hch b hb).1 with z | z
  ·exact hx z
  ·exact absurd (Nat.lt_of_lt_of_le (Heap.lt_size e) z) (Nat.lt_irrefl _)
 have cellK:∀ x c,X.env.cells.lookup x=some c->∀ v,s.heap.IsCell c v->h'.IsCell c v:=fun x c e v ⟨o,ho,hd⟩=>by
  have nch:c ∉ ch:=fun z=>(hch c z).2.2.1 x c e rfl
  by_cases hc:c∈X.fs
  ·obtain ⟨sl,q⟩:=slot c o (I.cne x c e) hc nch ho (I.freeC x c e)
   exact ⟨_,q,hd⟩
  ·exact ⟨o,keep c o (I.cne x c e) hc nch ho (I.freeC x c e),hd⟩
 refine ⟨I.ok,I.os,hg,⟨fun b o e n hb hx=>?_,fun b o e n hb hx=>?_,fun b o e n hx=>?_,fun b o e hx=>?_,fun b xs e=>tups b xs (I.base.tups b xs e),fun b o xs e=>frzs b o xs (I.base.frzs b o xs e),fun b ps e=>?_⟩,?_,fun x c e=>?_,?_,fun x c e=>?_,fun p hp=>?_,hok,I.len⟩
 ·exact keep b o (neL b o e) hb (neC b o e hx) (I.base.keep b o e n hb hx) (I.base.free b o e n hx)
 ·obtain ⟨sl,e1⟩:=I.base.slot b o e n hb hx
  obtain ⟨sl',e2⟩:=slot b _ (neL b o e) hb (neC b o e hx) e1 (I.base.free b o e n hx)
  exact ⟨sl',e2⟩
 ·obtain ⟨o',e1⟩:=I.base.there b o e hx
  exact free b o' (neC b o e hx) e1 (I.base.free b o e n hx)
 ·obtain ⟨o',e1⟩:=I.base.there b o e hx
  exact there b o' (neC b o e hx) e1
 ·obtain ⟨m1,e1⟩:=I.base.tbls b ps e
  obtain ⟨m2,e2⟩:=tbls b _ e1
  exact ⟨m1 ++ m2,by rw [e2,Array.append_assoc]⟩
 ·obtain ⟨m,hn,hl⟩:=I.loc
  refine ⟨m,ns m hn,fun i x v e1 e2 e3=>?_⟩
  obtain ⟨u,r,l⟩:=hl i x v e1 e2 e3
  refine ⟨u,r,?_⟩
  rcases l with l | ⟨k,c,e,z⟩
  ·exact .inl l
  ·exact .inr ⟨k,c,e,cellK x c e _ z⟩
 ·obtain ⟨v,z⟩:=I.cell x c e
  exact ⟨v,cellK x c e v z⟩
 ·obtain ⟨m,⟨o,_,_,ho,_⟩,_⟩:=I.loc
  exact free _ o (fun z=>(hch _ z).2.1 rfl) ho I.free
 ·obtain ⟨v,o,ho,hd⟩:=I.cell x c e
  exact free c o (fun z=>(hch c z).2.2.1 x c e rfl) ho (I.freeC x c e)
 ·obtain ⟨e,n,ne,nf,d⟩:=I.pin p hp
  have nch:p.1 ∉ ch:=fun z=>(hch p.1 z).2.2.2 p hp rfl
  exact ⟨keep p.1 p.2 ne nf nch e n,free p.1 p.2 nch e n,ne,nf,d⟩
theorem Inv.un {t':Nat} (I:Inv X pins U H s) (u:Un X.fs [] H H' s.heap h') (hok:HOk X.prog X.w H' h'):Inv X pins U H' {s with heap:=h',toks:=t'}:=by
 obtain ⟨m,⟨o,es,ep,ho,r⟩,_⟩:=id I.loc
 obtain ⟨sl,hL⟩:=u.any ho I.free (by simp)
 exact I.step (g':=s.gens) (d':=s.drawn) (ch:=[]) (fun _ z=>nomatch z) (fun b o _ hb _ e n=>u.keep b o e n hb (by simp)) (fun b o _ hb _ e n=>u.slot b o e n hb (by simp)) (fun b o _ e n=>u.free b o e n (by simp)) (fun b o _ e=>u.there b o e (by simp)) u.tups u.frzs u.tbls (fun m' hm=>by
  obtain ⟨o',es',ep',ho',r'⟩:=hm
  rw [ho] at ho';cases ho'
  exact ⟨_,es',ep',hL,r'⟩) hok I.bare
theorem Inv.call {g':Array GenState} {t':Nat} {d':Drawn} {ch:List Addr} (I:Inv X pins U H s) (u:Un (frs X.stack) ch H H' s.heap h') (hok:HOk X.prog X.w H' h') (hg:AllBare g')
  (hch:∀ b∈ch,(b∈X.ex\/X.s₀.heap.objs.size<=b)/\b≠X.env.locals/\(∀ x c,X.env.cells.lookup x=some c->c≠b)/\∀ p∈X.pn ++ pins,p.1≠b):
  Inv X pins U H' {s with heap:=h',gens:=g',drawn:=d',toks:=t'}:=by
 obtain ⟨m,⟨o,es,ep,ho,r⟩,_⟩:=id I.loc
 obtain ⟨sl,hL⟩:=u.any ho I.free fun z=>(hch _ z).2.1 rfl
 exact I.step (ch:=ch) hch (fun b o hL hb hc e n=>u.keep b o e n (fun z=>(List.mem_cons.mp (I.stkSub b z)).elim hL hb) hc) (fun b o _ _ hc e n=>u.any e n hc) (fun b o hc e n=>u.free b o e n hc) (fun b o hc e=>u.there b o e hc) u.tups u.frzs u.tbls (fun m' hm=>by
  obtain ⟨o',es',ep',ho',r'⟩:=hm
  rw [ho] at ho';cases ho'
  exact ⟨_,es',ep',hL,r'⟩) hok hg
theorem Inv.turned {t':Nat} {it:Addr} (I:Inv X pins U H s) (k:∀ b o,b≠it->s.heap.get? b=some o->h'.get? b=some o) (hn:H it=none) (hL:it≠X.env.locals)
  (h1:it∈X.ex\/X.s₀.heap.objs.size<=it) (h2:∀ x c,X.env.cells.lookup x=some c->c≠it) (h3:∀ p∈X.pn ++ pins,p.1≠it):Inv X pins U H {s with heap:=h',toks:=t'}:=by
 have nit:∀ b u,H b=some u->b≠it:=fun b u e z=>by rw [z,hn] at e;cases e
 refine I.step (g':=s.gens) (d':=s.drawn) (ch:=[it]) (fun b hb=>?_) (fun b o _ _ hc e _=>k b o (fun z=>hc (by simp [z])) e) (fun b o _ _ hc e _=>⟨o.slots,k b o (fun z=>hc (by simp [z])) e⟩) (fun _ _ _ _ n=>n)
  (fun b o hc e=>⟨o,k b o (fun z=>hc (by simp [z])) e⟩) (fun _ _ e=>e) (fun _ _ _ e=>e) (fun b ps e=>⟨#[],by rw [e];simp⟩) (fun m hm=>?_) (fun b u e=>?_) I.bare
 ·have e:b=it:=by simpa using hb
  subst e
  exact ⟨h1,hL,h2,h3⟩
 ·obtain ⟨o,es,ep,ho,r⟩:=hm
  exact ⟨o,es,ep,k _ o (Ne.symm hL) ho,r⟩
 ·refine (I.hok b u e).stay (fun c v hc q=>k c v ?_ q) (fun _ q=>q) fun _ _ q=>q
  rcases hc with z | z
  ·rw [z];exact nit b u e
  ·exact nit c _ z
theorem Inv.tok (I:Inv X pins U H s) (t:Nat):Inv X pins U H {s with toks:=t}:=I.un (h':=s.heap) (t':=t) Un.refl I.hok
theorem Inv.kept {t':Nat} (I:Inv X pins U H s) (k:∀ b u,s.heap.get? b=some u->h'.get? b=some u):Inv X pins U H {s with heap:=h',toks:=t'}:=I.un (Un.kept k) (I.hok.kept k)
theorem Inv.laid {a:Addr} {o:HO} {t':Nat} (I:Inv X pins U H s) (k:∀ b u,s.heap.get? b=some u->h'.get? b=some u) (hp:s.heap.objs.size<=a) (new:ObjOk X.prog X.w (upd H a o) h' a o):
  Inv X pins U (upd H a o) {s with heap:=h',toks:=t'}:=I.un (Un.laid k hp (I.hok.fresh hp)) (I.hok.laid k hp new)
theorem Inv.write {x e:Addr} {o:HO} {t':Nat} (I:Inv X pins U H s) (mu:M5 (H x)) (he:e=x\/H e=some (.own x)) (k:∀ b u,b≠e->s.heap.get? b=some u->h'.get? b=some u) (heo:∃ u,h'.get? e=some u)
  (new:ObjOk X.prog X.w (upd H x o) h' x o):Inv X pins U (upd H x o) {s with heap:=h',toks:=t'}:=I.un (Un.write mu he k heo) (I.hok.write mu he k heo new)
theorem Inv.weak {U':List (Option V)} (I:Inv X pins U H s) (hl:U'.length=U.length) (w:∀ (i:Nat) v,U'[i]?=some (some v)->U[i]?=some (some v)):Inv X pins U' H s:=
 ⟨I.ok,I.os,I.bare,I.base,let ⟨m,hn,hl'⟩:=I.loc;⟨m,hn,fun i x v e1 e2 e3=>hl' i x v e1 (w i v e2) e3⟩,I.cell,I.free,I.freeC,I.pin,I.hok,hl.trans I.len⟩
theorem Inv.pins_of {pins':List (Addr×Obj)} (I:Inv X pins U H s) (h:∀ p∈pins',s.heap.get? p.1=some p.2/\H p.1=none/\p.1≠X.env.locals/\p.1 ∉ X.fs/\∀ v,p.2.data≠.cell v):Inv X pins' U H s:=
 ⟨I.ok,I.os,I.bare,I.base,I.loc,I.cell,I.free,I.freeC,fun p hp=>(List.mem_append.mp hp).elim (fun z=>I.pin p (List.mem_append_left _ z)) (h p),I.hok,I.len⟩
theorem qP {N:List Str} (hN:N.Nodup) {i j:Nat} {x:Str} (a:N[i]?=some x) (b:N[j]?=some x):i=j:=by
 obtain ⟨h1,e1⟩:=List.getElem?_eq_some_iff.mp a
 obtain ⟨h2,e2⟩:=List.getElem?_eq_some_iff.mp b
 exact (List.getElem_inj hN).mp (e1.trans e2.symm)
theorem tO {M:Model} {A:Around} {E:Value->Shared->Prop} {i:Nat} {x:Str} {v:V} {u:Value} {Q:Unit->Shared->Prop} (I:Inv X pins U H s) (hN:X.N.Nodup) (hi:X.N[i]?=some x) (hx:Loc X.env.scope x) (r:RelV v u)
  (h:∀ s',Inv X pins (U.set i (some v)) H s'->(∃ a,Heap.SameBut a s.heap s'.heap/\(a=X.env.locals\/X.env.cells.lookup x=some a))->Q () s') (hf:autoParam (X.fn x=true\/X.env.scope.names.lookup x=some .local) L2.auto1._auto_1):wpAny M A (storeName X.env x u) Q E s:=by
 obtain ⟨m,hn,hl⟩:=id I.loc
 have hcls:(X.env.scope.kind == .class || (X.env.scope.kind == .module && X.env.locals != X.env.globals))=false:=by rw [I.ok.kind];rfl
 have hiU:i < U.length:=by rw [I.len];exact (List.getElem?_eq_some_iff.mp hi).1
 have cne:=I.cne
 have tracked:∀ {a:Addr} {h':Heap},(∃ o,s.heap.get? a=some o/\H a=none)->Heap.SameBut a s.heap h'->HOk X.prog X.w H h':=fun {a h'} ha hs b ob e=>by
  obtain ⟨_,_,hfree⟩:=ha
  refine (I.hok b ob e).stay (fun c w' hc q=>(hs.2 c ?_).trans q) (fun _ q=>q) fun _ _ q=>q
  rintro rfl
  rcases hc with rfl | hc
  ·rw [hfree] at e;cases e
  ·rw [hfree] at hc;cases hc
 rcases hx with hk | hk
 ·refine wpAny_storeName_local hk hn (fun h' hn' hs=>?_) hcls
  obtain ⟨oL,_,_,hoL,_⟩:=id hn
  refine h _ ⟨I.ok,I.os,I.bare,⟨fun b o e n hb hx=>?_,fun b o e n hb hx=>?_,I.base.free,fun b o e hx=>?_,I.base.tups,I.base.frzs,I.base.tbls⟩,⟨_,hn',fun j y v' e1 e2 e3=>?_⟩,fun y c e=>?_,I.free,I.freeC,fun p hp=>?_,tracked ⟨oL,hoL,I.free⟩ hs,by simpa using I.len⟩ ⟨_,hs,.inl rfl⟩
  ·exact (hs.2 b (Nat.ne_of_lt (Nat.lt_of_lt_of_le (Heap.lt_size e) I.ok.above))).trans (I.base.keep b o e n hb hx)
  ·obtain ⟨sl,e1⟩:=I.base.slot b o e n hb hx
   exact ⟨sl,(hs.2 b (Nat.ne_of_lt (Nat.lt_of_lt_of_le (Heap.lt_size e) I.ok.above))).trans e1⟩
  ·obtain ⟨o',e1⟩:=I.base.there b o e hx
   exact ⟨o',(hs.2 b (Nat.ne_of_lt (Nat.lt_of_lt_of_le (Heap.lt_size e) I.ok.above))).trans e1⟩
  ·by_cases hj:j=i
   ·subst hj
    rw [hi] at e1;cases e1
    rw [List.getElem?_set_self hiU] at e2
    cases e2
    exact ⟨u,r,.inl ⟨hk,by simp⟩⟩
   ·rw [List.getElem?_set_ne (Ne.symm hj)] at e2
    obtain ⟨u',r',q⟩:=hl j y v' e1 e2 e3
    refine ⟨u',r',?_⟩
    rcases q with ⟨k,e⟩ | ⟨k,c,e,z⟩
    ·refine .inl ⟨k,?_⟩
     have:y≠x:=fun e=>hj (qP hN e1 (e ▸ hi))
     simp [this,e]
    ·exact .inr ⟨k,c,e,z.sameBut hs (cne y c e)⟩
  ·obtain ⟨w',z⟩:=I.cell y c e
   exact ⟨w',z.sameBut hs (cne y c e)⟩
  ·obtain ⟨e,n,ne,nf,d⟩:=I.pin p hp
   exact ⟨(hs.2 p.1 ne).trans e,n,ne,nf,d⟩
 ·have hfn:X.fn x=true:=by
   rcases hf with z | z
   ·exact z
   ·rw [z] at hk;cases hk
  obtain ⟨c,hc⟩:=I.ok.has x (.inl hk)
  obtain ⟨w',z⟩:=I.cell x c hc
  refine wpAny_storeName_cell I.ok.kind hk hc z (fun h' hc' hs=>?_)
  obtain ⟨oc,hoc,hocd⟩:=id z
  refine h {s with heap:=h'} ⟨I.ok,I.os,I.bare,⟨fun b o e n hb hx=>?_,fun b o e n hb hx=>?_,I.base.free,fun b o e hx=>?_,I.base.tups,I.base.frzs,I.base.tbls⟩,⟨m,hn.sameBut hs (Ne.symm (cne x c hc)),fun j y v' e1 e2 e3=>?_⟩,fun y c' e=>?_,I.free,I.freeC,fun p hp=>?_,tracked ⟨oc,hoc,I.freeC x c hc⟩ hs,by simpa using I.len⟩ ⟨c,hs,.inr hc⟩
  ·exact (hs.2 b (Nat.ne_of_lt (Nat.lt_of_lt_of_le (Heap.lt_size e) (I.ok.cab x c hfn hc)))).trans (I.base.keep b o e n hb hx)
  ·obtain ⟨sl,e1⟩:=I.base.slot b o e n hb hx
   exact ⟨sl,(hs.2 b (Nat.ne_of_lt (Nat.lt_of_lt_of_le (Heap.lt_size e) (I.ok.cab x c hfn hc)))).trans e1⟩
  ·obtain ⟨o',e1⟩:=I.base.there b o e hx
   exact ⟨o',(hs.2 b (Nat.ne_of_lt (Nat.lt_of_lt_of_le (Heap.lt_size e) (I.ok.cab x c hfn hc)))).trans e1⟩
  ·by_cases hj:j=i
   ·subst hj
    rw [hi] at e1;cases e1
    rw [List.getElem?_set_self hiU] at e2
    cases e2
    exact ⟨u,r,.inr ⟨.inl hk,c,hc,hc'⟩⟩
   ·rw [List.getElem?_set_ne (Ne.symm hj)] at e2
    obtain ⟨u',r',q⟩:=hl j y v' e1 e2 e3
    refine ⟨u',r',?_⟩
    rcases q with q | ⟨k,c',e,z'⟩
    ·exact .inl q
    ·refine .inr ⟨k,c',e,z'.sameBut hs ?_⟩
     rintro rfl
     exact hj (qP hN e1 (I.ok.inj _ _ _ e hc ▸ hi))
  ·by_cases hcc:c'=c
   ·subst hcc;exact ⟨_,hc'⟩
   ·obtain ⟨w2,z2⟩:=I.cell y c' e
    exact ⟨w2,z2.sameBut hs hcc⟩
  ·obtain ⟨e,n,ne,nf,d⟩:=I.pin p hp
   refine ⟨(hs.2 p.1 ?_).trans e,n,ne,nf,d⟩
   intro q
   rw [q,hoc] at e
   have q':oc=p.2:=Option.some.inj e
   exact d w' (by rw [← q'];exact hocd)
theorem mX {M:Model} {A:Around} {E:Value->Shared->Prop} {i:Nat} {x:Str} {v:V} {u:Value} {Q:Unit->Shared->Prop} (I:Inv X pins U H s) (hN:X.N.Nodup) (hi:X.N[i]?=some x) (hx:Loc X.env.scope x) (r:RelV v u)
  (h:∀ s',Inv X pins (U.set i (some v)) H s'->Q () s') (hf:autoParam (X.fn x=true\/X.env.scope.names.lookup x=some .local) L2.auto1._auto_1):wpAny M A (storeName X.env x u) Q E s:=
 tO I hN hi hx r (fun s' I' _=>h s' I') hf
theorem Inv.call' {s':Shared} {ch:List Addr} (I:Inv X pins U H s) (ho:s'.os=s.os) (u:Un (frs X.stack) ch H H' s.heap s'.heap) (hok:HOk X.prog X.w H' s'.heap) (hg:AllBare s'.gens)
  (hch:∀ b∈ch,(b∈X.ex\/X.s₀.heap.objs.size<=b)/\b≠X.env.locals/\(∀ x c,X.env.cells.lookup x=some c->c≠b)/\∀ p∈X.pn ++ pins,p.1≠b):Inv X pins U H' s':=by
 obtain ⟨h',g',d',t',o'⟩:=s'
 have e:o'=s.os:=ho
 subst e
 exact I.call (g':=g') (t':=t') (d':=d') u hok hg hch
end
abbrev XK:=Value->Option Addr->Hp->Prop
abbrev St:=List (Option V)
abbrev VK:=V->Hp->Prop
abbrev TE:=St->Hp->VK->Prop
abbrev TT:=St->Hp->(Bool->Hp->Prop)->Prop
abbrev TA:=St->Hp->(List V->Hp->Prop)->Prop
structure Ends where
 nx:St->Hp->Prop
 rt:VK
 bk:St->Hp->Prop:=fun _ _=>False
 ct:St->Hp->Prop:=fun _ _=>False
abbrev TS:=Ends->St->Hp->Prop
def EP (X:Cx) (pins:List (Addr×Obj)) (U:St) (Q:VK) (u:Value) (s':Shared):Prop:=∃ v H',Inv X pins U H' s'/\RelV v u/\Q v H'
def TP (X:Cx) (pins:List (Addr×Obj)) (U:St) (Q:Bool->Hp->Prop) (b:Bool) (s':Shared):Prop:=∃ H',Inv X pins U H' s'/\Q b H'
def AP (X:Cx) (pins:List (Addr×Obj)) (U:St) (Q:List V->Hp->Prop) (us:List Value) (s':Shared):Prop:=∃ vs H',Inv X pins U H' s'/\Vals vs us/\Q vs H'
def SP (X:Cx) (pins:List (Addr×Obj)) (D:Ends) (f:Flow) (s':Shared):Prop:=
 match f with
 | .next=>∃ U' H',Inv X pins U' H' s'/\D.nx U' H'
 | .brk=>∃ U' H',Inv X pins U' H' s'/\D.bk U' H'
 | .cont=>∃ U' H',Inv X pins U' H' s'/\D.ct U' H'
 | .ret u=>∃ v U' H',Inv X pins U' H' s'/\RelV v u/\D.rt v H'
def PE (X:Cx) (e:Expr) (t:TE):Prop:=
 ∀ (pins:List (Addr×Obj)) (s:Shared) (U:St) (H:Hp) (Q:VK),Inv X pins U H s->t U H Q->wpAny (model X.prog X.w) X.A (eval e X.env) (EP X pins U Q) X.xe s
def PT (X:Cx) (e:Expr) (t:TT):Prop:=
 ∀ (pins:List (Addr×Obj)) (s:Shared) (U:St) (H:Hp) (Q:Bool->Hp->Prop),Inv X pins U H s->t U H Q->wpAny (model X.prog X.w) X.A (isTrue e X.env (eval e X.env)) (TP X pins U Q) X.xe s
def PW (X:Cx) (e:Expr) (t:TT):Prop:=
 ∀ (whole:Sem Value) (pins:List (Addr×Obj)) (s:Shared) (U:St) (H:Hp) (Q:Bool->Hp->Prop),Inv X pins U H s->t U H Q->wpAny (model X.prog X.w) X.A (isTrue e X.env whole) (TP X pins U Q) X.xe s
theorem PW.pt {X:Cx} {e:Expr} {t:TT} (h:PW X e t):PT X e t:=h _
def PA (X:Cx) (es:List Expr) (t:TA):Prop:=
 ∀ (pos:Pos) (pins:List (Addr×Obj)) (s:Shared) (U:St) (H:Hp) (Q:List V->Hp->Prop),Inv X pins U H s->t U H Q->wpAny (model X.prog X.w) X.A (spliced (backTo pos (starEach es X.env))) (AP X pins U Q) X.xe s
def PS (X:Cx) (st:Stmt) (t:TS):Prop:=
 ∀ (pins:List (Addr×Obj)) (s:Shared) (U:St) (H:Hp) (D:Ends),Inv X pins U H s->t D U H->wpAny (model X.prog X.w) X.A (exec st X.env) (SP X pins D) X.xe s
def PSs (X:Cx) (st:List Stmt) (t:TS):Prop:=
 ∀ (pins:List (Addr×Obj)) (s:Shared) (U:St) (H:Hp) (D:Ends),Inv X pins U H s->t D U H->wpAny (model X.prog X.w) X.A (execs st X.env) (SP X pins D) X.xe s
theorem dB {α:Type} {t:Sem α} {Q Q':α->Shared->Prop} {M:Model} {A:Around} {E:Value->Shared->Prop} {s:Shared} (h:wpAny M A t Q E s) (hQ:∀ a s,Q a s->Q' a s):wpAny M A t Q' E s:=wpAny_mono h hQ fun _ _ x=>x
section
variable {X:Cx}
def pX (i:Nat):TE:=fun U H Q=>∃ v,U[i]?=some (some v)/\Q v H
def tC (v:V):TE:=fun _ H Q=>Q v H
theorem uz {i:Nat} {x:Str} {pos:Pos} (hN:X.N[i]?=some x) (hv:Qx X.env.scope x) (hd:autoParam ((x == ("__debug__":Str))=false) L2.auto2._auto_1) (hcd:autoParam ((x == ("__classdict__":Str))=false) L2.auto2._auto_1):PE X (.Name x pos) (pX i):=by
 intro pins s U H Q I h
 obtain ⟨v,e,h⟩:=h
 obtain ⟨m,hn,hl⟩:=I.loc
 obtain ⟨u,r,l⟩:=hl i x v hN e hv
 have fin:EP X pins U Q u s:=⟨v,H,I,r,h⟩
 rcases l with ⟨hk,hm⟩ | ⟨hk,c,hc,hcell⟩
 ·exact wpAny_Name (wpAny_loadName_local I.ok.kind hk hn hm fin) hd
 ·rcases hk with hk | hk
  ·exact wpAny_Name (wpAny_loadName_cell I.ok.kind hk hc hcell fin) hd
  ·exact wpAny_Name (wpAny_loadName_free I.ok.kind hk hc hcell fin hcd) hd
theorem Ip {i j pos}:PE X (.Constant (.int i) j pos) (tC (.int i)):=fun _ _ _ H _ I h=>wpAny_Constant_int ⟨.int i,H,I.tok _,⟨_,rfl⟩,h⟩
theorem M6 {b j pos}:PE X (.Constant (.bool b) j pos) (tC (.bl b)):=fun _ _ _ H _ I h=>Constant_bool ⟨.bl b,H,I,rfl,h⟩
theorem Ir {j pos}:PE X (.Constant .none j pos) (tC .non):=fun _ _ _ H _ I h=>Constant_none ⟨.non,H,I,rfl,h⟩
theorem Iu {x j pos}:PE X (.Constant (.str x) j pos) (tC (.str x)):=fun _ _ _ H _ I h=>Calls.Constant_str ⟨.str x,H,I.tok _,⟨_,rfl⟩,h⟩
def Gl (X:Cx) (x:Str):Prop:=X.env.kindOf x=some .globalImplicit
theorem mY {E:Value->Shared->Prop} {pins:List (Addr×Obj)} {s:Shared} {U:St} {H:Hp} {x:Str} {u:Value} {pos:Pos} {Q:Value->Shared->Prop} (I:Inv X pins U H s) (hg:Gl X x) (hm:X.mg x=some u) (h:Q u s)
  (hd:autoParam ((x == ("__debug__":Str))=false) L2.auto2._auto_1):wpAny (model X.prog X.w) X.A (eval (.Name x pos) X.env) Q E s:=
 Calls.Name_function_global I.ok.kind hg (Calls.loadGlobal_global (by rw [I.ok.glob];exact I.mod.glob.keeps I.bk) hm h) hd
theorem uA {E:Value->Shared->Prop} {pins:List (Addr×Obj)} {s:Shared} {U:St} {H:Hp} {x:Str} {u:Value} {pos:Pos} {Q:Value->Shared->Prop} (I:Inv X pins U H s) (hg:Gl X x) (hm:X.mg x=none) (hv:bootBuiltins x=some u) (h:Q u s)
  (hn:autoParam (x≠"__name__") L2.auto2._auto_1) (hd:autoParam ((x == ("__debug__":Str))=false) L2.auto2._auto_1):wpAny (model X.prog X.w) X.A (eval (.Name x pos) X.env) Q E s:=by
 obtain ⟨mb,h1,h2⟩:=I.mod.blt
 exact Calls.Name_function_global I.ok.kind hg (Calls.loadGlobal_builtin (by rw [I.ok.glob];exact I.mod.glob.keeps I.bk) hm (by rw [I.ok.blt];exact h1.keeps I.bk) ((h2 x hn).trans hv) h) hd
theorem uB {x:Str} {v:V} {u:Value} {pos:Pos} (hg:Gl X x) (hm:X.mg x=some u) (r:RelV v u) (hd:autoParam ((x == ("__debug__":Str))=false) L2.auto2._auto_1):PE X (.Name x pos) (tC v):=
 fun _ _ _ H _ I h=>mY I hg hm ⟨v,H,I,r,h⟩ hd
theorem DQ {x:Str} {v:V} {u:Value} {pos:Pos} (hg:Gl X x) (hm:X.mg x=none) (hv:bootBuiltins x=some u) (r:RelV v u) (hn:autoParam (x≠"__name__") L2.auto2._auto_1) (hd:autoParam ((x == ("__debug__":Str))=false) L2.auto2._auto_1):PE X (.Name x pos) (tC v):=
 fun _ _ _ H _ I h=>uA I hg hm hv ⟨v,H,I,r,h⟩ hn hd
variable {a b:Expr} {ta tb:TE} {pos:Pos}
def tB (t:TE):TT:=fun U H Q=>t U H fun x H1=>∃ c,x= .bl c/\Q c H1
theorem Iv {e:Expr} {t:TE} (h:PE X e t) (he:autoParam (∀ whole,isTrue e X.env whole=(do let v ← whole;standAt e.pos;holding [v] (truthy v))) L2.auto3._auto_1):PT X e (tB t):=by
 intro pins s U H Q I hw
 refine isTrue_plain (dB (h pins s U H _ I hw) fun v s1 qq0=>?_) (he _)
 obtain ⟨x,H1,I1,r1,q1⟩:=qq0
 obtain ⟨d,rfl,q⟩:=q1
 cases r1
 exact wpAny_truthy_bool ⟨H1,I1,q⟩
variable {tA tB':TT} {rest:List Expr}
def Iw (t u:TT):TT:=fun U H Q=>t U H fun c H1=>if c=true then u U H1 Q else Q false H1
def tOr (t u:TT):TT:=fun U H Q=>t U H fun c H1=>if c=true then Q true H1 else u U H1 Q
def Iz (t:TT):TT:=fun U H Q=>t U H fun c H1=>Q (!c) H1
theorem DW (ha:PT X a tA):PW X (.BoolOp .And [a] pos) tA:=by
 intro wh pins s U H Q I h
 refine isTrue_and (dB (ha pins s U H Q I h) fun c s1 e=>?_)
 cases c with
 | true=>exact isTrue_and_nil e
 | false=>exact e
theorem IK (ha:PT X a tA):PW X (.BoolOp .Or [a] pos) tA:=by
 intro wh pins s U H Q I h
 refine isTrue_or (dB (ha pins s U H Q I h) fun c s1 e=>?_)
 cases c with
 | false=>exact isTrue_or_nil e
 | true=>exact e
theorem IV (ha:PT X a tA) (hb:PW X (.BoolOp .And (b :: rest) pos) tB'):PW X (.BoolOp .And (a :: b :: rest) pos) (Iw tA tB'):=by
 intro wh pins s U H Q I h
 refine isTrue_and (dB (ha pins s U H _ I h) fun c s1 qq0=>?_)
 obtain ⟨H1,I1,q1⟩:=qq0
 cases c with
 | true=>exact hb wh pins s1 U H1 Q I1 q1
 | false=>exact ⟨H1,I1,q1⟩
theorem M7 (ha:PT X a tA) (hb:PW X (.BoolOp .Or (b :: rest) pos) tB'):PW X (.BoolOp .Or (a :: b :: rest) pos) (tOr tA tB'):=by
 intro wh pins s U H Q I h
 refine isTrue_or (dB (ha pins s U H _ I h) fun c s1 qq0=>?_)
 obtain ⟨H1,I1,q1⟩:=qq0
 cases c with
 | true=>exact ⟨H1,I1,q1⟩
 | false=>exact hb wh pins s1 U H1 Q I1 q1
theorem IW (ha:PT X a tA):PT X (.UnaryOp .Not a pos) (Iz tA):=by
 intro pins s U H Q I h
 exact isTrue_not (ha pins s U H (fun c H1=>Q (!c) H1) I h)
def Aa (ta tb:TE):TE:=fun U H Q=>ta U H fun x H1=>∃ c,x= .bl c/\if c=true then tb U H1 Q else Q (.bl false) H1
def Ja (ta tb:TE):TE:=fun U H Q=>ta U H fun x H1=>∃ c,x= .bl c/\if c=true then Q (.bl true) H1 else tb U H1 Q
theorem Jb {op} {t:TE} (h:PE X a t):PE X (.BoolOp op [a] pos) t:=fun pins s U H Q I hw=>BoolOp_one (h pins s U H Q I hw)
theorem Jc (ha:PE X a ta) (hb:PE X (.BoolOp .And (b :: rest) pos) tb):PE X (.BoolOp .And (a :: b :: rest) pos) (Aa ta tb):=by
 intro pins s U H Q I h
 refine BoolOp_and (dB (ha pins s U H _ I h) fun v s1 qq0=>?_)
 obtain ⟨x,H1,I1,r1,q1⟩:=qq0
 obtain ⟨c,rfl,q1⟩:=q1
 cases r1
 refine wpAny_truthy_bool ?_
 cases c with
 | true=>exact hb pins s1 U H1 Q I1 q1
 | false=>exact ⟨.bl false,H1,I1,rfl,q1⟩
theorem M8 (ha:PE X a ta) (hb:PE X (.BoolOp .Or (b :: rest) pos) tb):PE X (.BoolOp .Or (a :: b :: rest) pos) (Ja ta tb):=by
 intro pins s U H Q I h
 refine BoolOp_or (dB (ha pins s U H _ I h) fun v s1 qq0=>?_)
 obtain ⟨x,H1,I1,r1,q1⟩:=qq0
 obtain ⟨c,rfl,q1⟩:=q1
 cases r1
 refine wpAny_truthy_bool ?_
 cases c with
 | false=>exact hb pins s1 U H1 Q I1 q1
 | true=>exact ⟨.bl true,H1,I1,rfl,q1⟩
def tIf (t:TT) (ta tb:TE):TE:=fun U H Q=>t U H fun c H1=>if c=true then ta U H1 Q else tb U H1 Q
theorem Ab {c:Expr} (hc:PT X c tA) (ha:PE X a ta) (hb:PE X b tb):PE X (.IfExp c a b pos) (tIf tA ta tb):=by
 intro pins s U H Q I h
 refine wpAny_IfExp (dB (hc pins s U H _ I h) fun d s1 qq0=>?_)
 obtain ⟨H1,I1,q1⟩:=qq0
 cases d with
 | true=>exact ha pins s1 U H1 Q I1 q1
 | false=>exact hb pins s1 U H1 Q I1 q1
end
def SqL (K:W.Frag) (H:Hp) (a:Addr) (xs:List V):Prop:=
 Rd H a (.lst xs)\/
  ∃ (o:Obj) (its:Array Value) (n:Nat),K.lookup a=some o/\o.cls= .type "list"/\o.dict=none/\o.data= .seq its n/\its.size<=sizeLine/\Vals xs its.toList
def SqT (K:W.Frag) (H:Hp) (a:Addr) (xs:List V):Prop:=
 Rd H a (.tup xs)\/
  ∃ (o:Obj) (its:Array Value) (n:Nat),K.lookup a=some o/\o.cls= .type "tuple"/\o.data= .seq its n/\its.size<=sizeLine/\Vals xs its.toList
def absV:Value->Option V
 | .none=>some .non
 | .bool b=>some (.bl b)
 | .int i _=>some (.int i)
 | .str x _=>some (.str x)
 | .bytes b _=>some (.byt b)
 | .float b _=>some (.flt b)
 | .ref a=>some (.ref a)
 | .type n=>some (.ty n)
 | _=>none
theorem RelV.abs {x:V} {u:Value} (r:RelV x u):absV u=some x:=by
 cases x with
 | non=>cases r;rfl
 | bl _=>cases r;rfl
 | int _=>obtain ⟨t,rfl⟩:=r;rfl
 | str _=>obtain ⟨t,rfl⟩:=r;rfl
 | byt _=>obtain ⟨t,rfl⟩:=r;rfl
 | flt _=>obtain ⟨t,rfl⟩:=r;rfl
 | ref _=>cases r;rfl
 | ty _=>cases r;rfl
theorem RelV.inj {x y:V} {u:Value} (r:RelV x u) (q:RelV y u):x=y:=Option.some.inj (r.abs.symm.trans q.abs)
theorem Vals.inj:∀ {xs ys:List V} {us:List Value},Vals xs us->Vals ys us->xs=ys
 | _,_,_,.nil,.nil=>rfl
 | _,_,_,.cons r t,.cons r' t'=>by rw [r.inj r',Vals.inj t t']
section
variable {X:Cx} {pins:List (Addr×Obj)} {U:St} {H:Hp} {s:Shared} {a:Addr} {xs ys:List V}
theorem SqL.of {K:W.Frag} (h:H a=some (.lst xs)):SqL K H a xs:=.inl (.inl h)
theorem SqT.of {K:W.Frag} (h:H a=some (.tup xs)):SqT K H a xs:=.inl (.inl h)
theorem Inv.list (I:Inv X pins U H s) (h:SqL X.K H a xs):∃ its:List Value,Vals xs its/\PlainL s.heap a its.toArray/\xs.length<=sizeLine:=by
 rcases h with h | ⟨o,its,n,hk,hc,hd,hs,hz,r⟩
 ·obtain ⟨z,its,n,r,e⟩:=h.ok I.hok
  exact ⟨its,r,⟨_,n,e,rfl,rfl,rfl⟩,z⟩
 ·refine ⟨its.toList,r,⟨o,n,I.kIn a o hk,hc,hd,by simpa using hs⟩,?_⟩
  have e:=r.length
  simp only [Array.length_toList] at e
  omega
theorem Inv.tuple (I:Inv X pins U H s) (h:SqT X.K H a xs):∃ its:List Value,Vals xs its/\IsTup s.heap a its.toArray/\xs.length<=sizeLine:=by
 rcases h with h | ⟨o,its,n,hk,hc,hs,hz,r⟩
 ·obtain ⟨z,its,r,p⟩:=h.ok I.hok
  exact ⟨its,r,p,z⟩
 ·refine ⟨its.toList,r,⟨o,I.kIn a o hk,hc,n,by simpa using hs⟩,?_⟩
  have e:=r.length
  simp only [Array.length_toList] at e
  omega
theorem Inv.list_inj (I:Inv X pins U H s) (h:SqL X.K H a xs) (h':SqL X.K H a ys):xs=ys:=by
 obtain ⟨its,r,⟨o,n,e,_,_,d⟩,_⟩:=I.list h
 obtain ⟨its',r',⟨o',n',e',_,_,d'⟩,_⟩:=I.list h'
 rw [e] at e';cases e'
 rw [d] at d'
 injection d' with d1 _
 have:its=its':=by simpa using congrArg Array.toList d1
 subst this
 exact r.inj r'
theorem Inv.tuple_inj (I:Inv X pins U H s) (h:SqT X.K H a xs) (h':SqT X.K H a ys):xs=ys:=by
 obtain ⟨its,r,⟨o,e,_,n,d⟩,_⟩:=I.tuple h
 obtain ⟨its',r',⟨o',e',_,n',d'⟩,_⟩:=I.tuple h'
 rw [e] at e';cases e'
 rw [d] at d'
 injection d' with d1 _
 have:its=its':=by simpa using congrArg Array.toList d1
 subst this
 exact r.inj r'
end
abbrev Cx.wish (X:Cx) (E:Value->Shared->Prop):Cx:={X with xe:=E}
abbrev Cx.nox (X:Cx):Cx:=X.wish fun _ _=>False
theorem Cx.Ok.wish {X:Cx} (ok:X.Ok) (E:Value->Shared->Prop):(X.wish E).Ok:=
 ⟨ok.mod,ok.kind,ok.glob,ok.blt,ok.above,ok.inj,ok.has,ok.cab,ok.hd,ok.frames,ok.stk,ok.exf,ok.bs,ok.bsz,ok.noex,ok.exfs,ok.funs,ok.frf⟩
theorem Cx.Ok.unwish {X:Cx} {E:Value->Shared->Prop} (ok:(X.wish E).Ok):X.Ok:=
 ⟨ok.mod,ok.kind,ok.glob,ok.blt,ok.above,ok.inj,ok.has,ok.cab,ok.hd,ok.frames,ok.stk,ok.exf,ok.bs,ok.bsz,ok.noex,ok.exfs,ok.funs,ok.frf⟩
section
variable {X:Cx} {pins:List (Addr×Obj)} {U:St} {H:Hp} {s:Shared} {E:Value->Shared->Prop}
theorem Inv.wish (I:Inv X pins U H s) (E:Value->Shared->Prop):Inv (X.wish E) pins U H s:=⟨I.ok.wish E,I.os,I.bare,I.base,I.loc,I.cell,I.free,I.freeC,I.pin,I.hok,I.len⟩
theorem Inv.unwish (I:Inv (X.wish E) pins U H s):Inv X pins U H s:=⟨I.ok.unwish,I.os,I.bare,I.base,I.loc,I.cell,I.free,I.freeC,I.pin,I.hok,I.len⟩
theorem SP.unwish {D:Ends} {f:Flow} {s':Shared} (h:SP (X.wish E) pins D f s'):SP X pins D f s':=by
 cases f with
 | next=>obtain ⟨U',H',I,q⟩:=h;exact ⟨U',H',I.unwish,q⟩
 | brk=>obtain ⟨U',H',I,q⟩:=h;exact ⟨U',H',I.unwish,q⟩
 | cont=>obtain ⟨U',H',I,q⟩:=h;exact ⟨U',H',I.unwish,q⟩
 | ret u=>obtain ⟨v,U',H',I,r,q⟩:=h;exact ⟨v,U',H',I.unwish,r,q⟩
theorem PSs.nox {st:List Stmt} {t:TS} (h:PSs X.nox st t):PSs X st t:=fun pins s U H D I hw=>
 wpAny_mono (h pins s U H D (I.wish _) hw) (fun _ _ q=>q.unwish) fun _ _ z=>False.elim z
end
section
variable {X:Cx} {st:Stmt} {rest:List Stmt} {t u:TS} {e:Expr} {te:TE} {pos:Pos}
def Ac:TS:=fun D U H=>D.nx U H
def DX (t u:TS):TS:=fun D U H=>t {D with nx:=u D} U H
theorem DY:PSs X [] Ac:=fun _ _ U H _ I h=>wpAny_execs_nil ⟨U,H,I,h⟩
theorem Ad (h1:PS X st t) (h2:PSs X rest u):PSs X (st :: rest) (DX t u):=by
 intro pins s U H D I h
 refine wpAny_execs_cons (dB (h1 pins s U H {D with nx:=u D} I h) fun f s1 q=>?_)
 cases f with
 | next=>
  obtain ⟨U',H',I',q⟩:=q
  exact h2 pins s1 U' H' D I' q
 | ret v=>exact q
 | brk=>exact q
 | cont=>exact q
theorem Ea (h1:PS X st t):PSs X [st] t:=by
 intro pins s U H D I h
 refine wpAny_execs_cons (dB (h1 pins s U H D I h) fun f s1 q=>?_)
 cases f with
 | next=>exact wpAny_execs_nil q
 | ret v=>exact q
 | brk=>exact q
 | cont=>exact q
theorem Inv.quiet {pins:List (Addr×Obj)} {U:St} {H:Hp} {s:Shared} (I:Inv X pins U H s):interactive X.env=false:=by simp [interactive,I.ok.kind]
def xR (te:TE):TS:=fun D U H=>te U H fun _ H1=>D.nx U H1
theorem Eb (he:PE X e te) (hs:autoParam (swapsWith e none pos.line X.env=pure false) L2.auto4._auto_1):PS X (.Expr e pos) (xR te):=by
 intro pins s U H D I h
 exact wpAny_Expr_any (dB (he pins s U H _ I h) fun v s1 ⟨x,H1,I1,r1,q1⟩=>⟨U,H1,I1,q1⟩) I.quiet hs
def Jd (te:TE):TS:=fun D U H=>te U H D.rt
theorem Je (he:PE X e te):PS X (.Return (some e) pos) (Jd te):=by
 intro pins s U H D I h
 exact wpAny_Return_some (dB (he pins s U H _ I h) fun v s1 ⟨x,H1,I1,r1,q1⟩=>⟨x,U,H1,I1,r1,q1⟩)
def Jf (c:TT) (t u:TS):TS:=fun D U H=>c U H fun b H1=>if b=true then t D U H1 else u D U H1
theorem M9 {c:Expr} {a b:List Stmt} {tc:TT} (hc:PT X c tc) (ha:PSs X a t) (hb:PSs X b u):PS X (.If c a b pos) (Jf tc t u):=by
 intro pins s U H D I h
 refine wpAny_If (dB (hc pins s U H _ I h) fun d s1 qq0=>?_)
 obtain ⟨H1,I1,q1⟩:=qq0
 cases d with
 | true=>exact ha pins s1 U H1 D I1 q1
 | false=>exact hb pins s1 U H1 D I1 q1
def Ae:TS:=fun _ _ _=>False
theorem Af:PS X st Ae:=fun _ _ _ _ _ _ h=>h.elim
end
abbrev TG:=V->St->Hp->(St->Hp->Prop)->Prop
def PG (X:Cx) (target:Expr) (t:TG):Prop:=
 ∀ (pins:List (Addr×Obj)) (s:Shared) (U:St) (H:Hp) (v:V) (u:Value) (Q:St->Hp->Prop),Inv X pins U H s->RelV v u->t v U H Q->
  wpAny (model X.prog X.w) X.A (assign target X.env u) (fun _ s'=>∃ U' H',Inv X pins U' H' s'/\Q U' H') X.xe s
abbrev wN:=V->V->V->Hp->(Hp->Prop)->Prop
def Ec (X:Cx) (t:wN):Prop:=
 ∀ (pins:List (Addr×Obj)) (s:Shared) (U:St) (H:Hp) (o i v:V) (ov iv u:Value) (Q:Hp->Prop),Inv X pins U H s->RelV o ov->RelV i iv->RelV v u->t o i v H Q->
  wpAny (model X.prog X.w) X.A (setItem ov iv u) (fun _ s'=>∃ H',Inv X pins U H' s'/\Q H') X.xe s
section
variable {X:Cx} {pos:Pos}
def lY (i:Nat):TG:=fun v U H Q=>Q (U.set i (some v)) H
theorem xT {i:Nat} {x:Str} (hN:X.N.Nodup) (hi:X.N[i]?=some x) (hx:Loc X.env.scope x) (hf:autoParam (X.fn x=true\/X.env.scope.names.lookup x=some .local) L2.auto1._auto_1):PG X (.Name x pos) (lY i):=by
 intro pins s U H v u Q I r h
 exact wpAny_assign_Name (mX I hN hi hx r (fun s' I'=>⟨_,H,I',h⟩) hf)
def Jg (to ti:TE) (t:wN):TG:=fun v U H Q=>to U H fun o H1=>ti U H1 fun i H2=>t o i v H2 fun H3=>Q U H3
theorem Jh {o i:Expr} {to ti:TE} {t:wN} (ho:PE X o to) (hi:PE X i ti) (hs:Ec X t)
  (ha:∀ v,assign (.Subscript o i pos) X.env v=(do
   let ov ← holding [v] (eval o X.env)
   let iv ← holding [v,ov] (eval i X.env)
   standAt pos
   holding [v,ov,iv] (setItem ov iv v)
   release [v,ov,iv] []):=by intro _;rfl):PG X (.Subscript o i pos) (Jg to ti t):=by
 intro pins s U H v u Q I r h
 rw [ha]
 refine wpAny_bind (wpAny_holding (dB (ho pins s U H _ I h) fun ov s1 qq0=>?_))
 obtain ⟨x,H1,I1,r1,q1⟩:=qq0
 refine wpAny_bind (wpAny_holding (dB (hi pins s1 U H1 _ I1 q1) fun iv s2 qq0=>?_))
 obtain ⟨y,H2,I2,r2,q2⟩:=qq0
 refine wpAny_bind (wpAny_standAt (wpAny_bind (wpAny_holding (dB (hs pins s2 U H2 x y v ov iv u _ I2 r1 r2 r q2) fun _ s3 qq0=>?_))))
 obtain ⟨H3,I3,q3⟩:=qq0
 exact wpAny_release ⟨U,H3,I3,q3⟩
def vA (te:TE) (g:TG):TS:=fun D U H=>te U H fun x H1=>g x U H1 D.nx
theorem Ji {tg e:Expr} {te:TE} {g:TG} (he:PE X e te) (hg:PG X tg g) (hs:autoParam (swapsWithSole [tg] e pos.line X.env=pure false) L2.auto4._auto_1) (hw:autoParam (swappedStores [tg] e X.env=pure none) L2.auto4._auto_1)
  (h1:autoParam ((assignEach [tg] X.env).map (·.2)=[assign tg X.env]) L2.auto4._auto_1):PS X (.Assign [tg] e pos) (vA te g):=by
 intro pins s U H D I h
 refine wpAny_Assign_stores (dB (he pins s U H _ I h) fun v s1 qq0=>?_) hs hw
 obtain ⟨x,H1,I1,r1,q1⟩:=qq0
 rw [h1]
 exact dB (hg pins s1 U H1 x v _ I1 r1 q1) fun _ s2 q=>q
theorem Ag {i:Nat} {x:Str} {e:Expr} {te:TE} {pos':Pos} (hN:X.N.Nodup) (hi:X.N[i]?=some x) (hx:Loc X.env.scope x) (he:PE X e te) (hs:autoParam (swapsWith e (some (.Name x pos')) pos.line X.env=pure false) L2.auto4._auto_1) (hf:autoParam (X.fn x=true\/X.env.scope.names.lookup x=some .local) L2.auto1._auto_1):
  PS X (.Assign [.Name x pos'] e pos) (vA te (lY i)):=by
 intro pins s U H D I h
 refine wpAny_Assign_Name (dB (he pins s U H _ I h) fun v s1 qq0=>?_) hs
 obtain ⟨y,H1,I1,r1,q1⟩:=qq0
 exact mX I1 hN hi hx r1 (fun s2 I2=>⟨_,H1,I2,q1⟩) hf
end
structure It where
 go:Nat->Hp->Prop
 yld:Nat->Hp->V->Hp->Prop
 stop:Nat->Hp->Prop
def kW (X:Cx) (pins:List (Addr×Obj)) (H:Hp) (b:Addr):Prop:=
 H b=none/\b≠X.env.locals/\b ∉ X.fs/\(b∈X.ex\/X.s₀.heap.objs.size<=b)/\(∀ x c,X.env.cells.lookup x=some c->c≠b)/\∀ p∈X.pn ++ pins,p.1≠b
theorem Inv.fpOk {X:Cx} {pins:List (Addr×Obj)} {U:St} {H H':Hp} {s:Shared} {b:Addr} (I:Inv X pins U H s) (hb:s.heap.objs.size<=b) (hn:H' b=none):kW X pins H' b:=by
 refine ⟨hn,Nat.ne_of_gt (Nat.lt_of_lt_of_le I.lt hb),I.nofs hb,.inr (Nat.le_trans I.sz hb),fun x c e z=>?_,fun p hp z=>?_⟩
 ·obtain ⟨v,q⟩:=I.cell x c e
  exact absurd (Nat.lt_of_lt_of_le q.lt (by rw [z];exact hb)) (Nat.lt_irrefl _)
 ·exact absurd (Nat.lt_of_lt_of_le (Heap.lt_size (I.pin p hp).1) (by rw [z];exact hb)) (Nat.lt_irrefl _)
structure Turn (P:Program) (w:World) (K:W.Frag) (tg:Expr) (J:It) (fp:List Addr) (it:Addr) (tn:Nat->Heap->Prop):Prop where
 mem:it∈fp
 obj:∀ i h,tn i h->∀ b∈fp,∃ o,h.get? b=some o/\∀ v,o.data≠.cell v
 keep:∀ i h h',tn i h->(∀ b∈fp,∀ o,h.get? b=some o->h'.get? b=some o)->tn i h'
 item:∀ (X:Cx),X.prog=P->X.w=w->X.K=K->X.calm=true->∀ (i:Nat) (pins:List (Addr×Obj)) (s:Shared) (U:St) (H:Hp) (E:Value->Shared->Prop),Inv X pins U H s->(∀ b∈fp,kW X pins H b)->tn i s.heap->J.go i H->
  wpAny (model P w) X.A (pyNext (.ref it)) (fun r s1=>∃ u,r=some u/\
   wpAny (model P w) X.A (letOwnedTupleGo tg (.ref it) u) (fun _ s2=>∃ x H',Inv X pins U H' s2/\RelV x u/\J.yld i H x H'/\tn (i+1) s2.heap/\∀ b∈fp,H' b=none) E s1) E s
 done:∀ (X:Cx),X.prog=P->X.w=w->X.K=K->X.calm=true->∀ (i:Nat) (pins:List (Addr×Obj)) (s:Shared) (U:St) (H:Hp) (E:Value->Shared->Prop),Inv X pins U H s->(∀ b∈fp,kW X pins H b)->tn i s.heap->J.stop i H->
  wpAny (model P w) X.A (pyNext (.ref it)) (fun r s1=>r=none/\Inv X pins U H s1) E s
 self:∀ (A:Around) (i:Nat) (s:Shared) (Q:Value->Shared->Prop) (E:Value->Shared->Prop),tn i s.heap->Q (.ref it) s->wpAny (model P w) A (pyIter (.ref it)) Q E s
abbrev TI:=St->Hp->(It->Hp->Prop)->Prop
def PIE (X:Cx) (pins:List (Addr×Obj)) (U:St) (tg:Expr) (R:It->Hp->Prop) (itv:Value) (s2:Shared):Prop:=
 ∃ (it:Addr) (fp:List Addr) (tn:Nat->Heap->Prop) (J:It) (H':Hp),itv= .ref it/\Inv X pins U H' s2/\Turn X.prog X.w X.K tg J fp it tn/\tn 0 s2.heap/\(∀ b∈fp,kW X pins H' b)/\R J H'
def PI (X:Cx) (tg iter:Expr) (wi:TI):Prop:=
 ∀ (pins:List (Addr×Obj)) (s:Shared) (U:St) (H:Hp) (R:It->Hp->Prop),Inv X pins U H s->wi U H R->
  wpAny (model X.prog X.w) X.A (eval iter X.env) (fun v s1=>wpAny (model X.prog X.w) X.A (pyIter v) (PIE X pins U tg R) X.xe s1) X.xe s
theorem xU {M:Model} {A:Around} {E:Value->Shared->Prop} {s:Shared} {tg:Expr} {it:Addr} {u:Value} {o:Obj} {n:String} {vs:Array Value} {Q:Unit->Shared->Prop} (ho:s.heap.get? it=some o) (hc:o.cls= .type n) (hd:o.data= .fields vs)
  (hn:["enumerate","zip","dict_itemiterator","dict_reverseitemiterator","odict_iterator","itertools.zip_longest","itertools.pairwise"].contains n=false) (hQ:Q () s):wpAny M A (letOwnedTupleGo tg (.ref it) u) Q E s:=by
 unfold letOwnedTupleGo
 cases tg <;> first
  | exact wpAny_pure hQ
  | (cases u <;> first
    | exact wpAny_pure hQ
    | (refine wpAny_bind (wpAny_load ho ?_)
       rw [hc,hd]
       show wpAny M A (if (["enumerate","zip","dict_itemiterator","dict_reverseitemiterator","odict_iterator","itertools.zip_longest","itertools.pairwise"].contains n && vs[0]? == some (rawInt _))=true then _ else _) Q E s
       rw [if_neg (by intro h;rw [hn,Bool.false_and] at h;cases h)]
       exact wpAny_pure hQ))
def Hv (K:W.Frag) (a:Addr):It:=
 ⟨fun i H=>∃ xs x,SqL K H a xs/\xs[i]?=some x,fun i H x H'=>H'=H/\∀ xs,SqL K H a xs->xs[i]?=some x,fun i H=>∃ xs,SqL K H a xs/\xs.length<=i⟩
def Nb (K:W.Frag) (a:Addr):It:=
 ⟨fun i H=>∃ xs x,SqT K H a xs/\xs[i]?=some x,fun i H x H'=>H'=H/\∀ xs,SqT K H a xs->xs[i]?=some x,fun i H=>∃ xs,SqT K H a xs/\xs.length<=i⟩
def Jj (lo:Int) (n:Nat):It:=⟨fun i _=>i < n,fun i H x H'=>H'=H/\x= .int (lo+i),fun i _=>n<=i⟩
theorem yM {P:Program} {w:World} {K:W.Frag} {tg:Expr} (a it:Addr):Turn P w K tg (Hv K a) [it] it (fun i h=>h.IsListIter it a i) where
 mem:=by simp
 obj:=fun i h st b hb=>by
  have e:b=it:=by simpa using hb
  subst e
  obtain ⟨o,e,c,d⟩:=st
  exact ⟨o,e,fun v z=>by rw [d] at z;cases z⟩
 keep:=fun i h h' st k=>st.at fun o e=>k it (by simp) o e
 item:=by
  intro X hP hw hK hc i pins s U H E I hf st hg
  subst hP hw hK
  obtain ⟨xs,x,hq,hx⟩:=hg
  obtain ⟨its,rv,p,hz⟩:=I.list hq
  obtain ⟨u,hu,ru⟩:=rv.get hx
  obtain ⟨f0,f1,f2,f3,f4,f5⟩:=hf it (by simp)
  refine wpAny_pyNext_list_item st p.isList (x:=u) (by simpa using hu) fun h' st' sb=>?_
  have I1:Inv X pins U H {s with heap:=h'}:=I.turned (t':=s.toks) (fun b o hb e=>(sb.2 b hb).trans e) f0 f1 f3 f4 f5
  obtain ⟨o,e,c,d⟩:=id st'
  exact ⟨u,rfl,xU (s:={s with heap:=h'}) e c d (by decide) ⟨x,H,I1,ru,⟨rfl,fun ys hy=>by rw [I.list_inj hy hq];exact hx⟩,st',fun b hb=>(hf b hb).1⟩⟩
 done:=by
  intro X hP hw hK hc i pins s U H E I hf st hg
  subst hP hw hK
  obtain ⟨xs,hq,hx⟩:=hg
  obtain ⟨its,rv,p,hz⟩:=I.list hq
  obtain ⟨f0,f1,f2,f3,f4,f5⟩:=hf it (by simp)
  have hl:=rv.length
  exact wpAny_pyNext_list_end (I.ok.hd hc) st p.isList (by simp;omega) fun h' eb=>⟨rfl,I.turned (t':=s.toks) (fun b o hb e=>eb b o hb e) f0 f1 f3 f4 f5⟩
 self:=fun _ _ _ _ _ st h=>wpAny_pyIter_listiter st h
theorem wO {P:Program} {w:World} {K:W.Frag} {tg:Expr} (a it:Addr):Turn P w K tg (Nb K a) [it] it (fun i h=>h.IsTupleIter it a i) where
 mem:=by simp
 obj:=fun i h st b hb=>by
  have e:b=it:=by simpa using hb
  subst e
  obtain ⟨o,e,c,d⟩:=st
  exact ⟨o,e,fun v z=>by rw [d] at z;cases z⟩
 keep:=fun i h h' st k=>st.at fun o e=>k it (by simp) o e
 item:=by
  intro X hP hw hK hc i pins s U H E I hf st hg
  subst hP hw hK
  obtain ⟨xs,x,hq,hx⟩:=hg
  obtain ⟨its,rv,p,hz⟩:=I.tuple hq
  obtain ⟨u,hu,ru⟩:=rv.get hx
  obtain ⟨f0,f1,f2,f3,f4,f5⟩:=hf it (by simp)
  refine wpAny_pyNext_tuple_item st (show s.heap.IsTuple a its.toArray from p) (x:=u) (by simpa using hu) fun h' st' sb=>?_
  have I1:Inv X pins U H {s with heap:=h'}:=I.turned (t':=s.toks) (fun b o hb e=>(sb.2 b hb).trans e) f0 f1 f3 f4 f5
  obtain ⟨o,e,c,d⟩:=id st'
  exact ⟨u,rfl,xU (s:={s with heap:=h'}) e c d (by decide) ⟨x,H,I1,ru,⟨rfl,fun ys hy=>by rw [I.tuple_inj hy hq];exact hx⟩,st',fun b hb=>(hf b hb).1⟩⟩
 done:=by
  intro X hP hw hK hc i pins s U H E I hf st hg
  subst hP hw hK
  obtain ⟨xs,hq,hx⟩:=hg
  obtain ⟨its,rv,p,hz⟩:=I.tuple hq
  obtain ⟨f0,f1,f2,f3,f4,f5⟩:=hf it (by simp)
  have hl:=rv.length
  exact wpAny_pyNext_tuple_end (I.ok.hd hc) st (show s.heap.IsTuple a its.toArray from p) (by simp;omega) fun h' eb=>⟨rfl,I.turned (t':=s.toks) (fun b o hb e=>eb b o hb e) f0 f1 f3 f4 f5⟩
 self:=fun _ _ _ _ _ st h=>wpAny_pyIter_tupleiter st h
theorem wQ {P:Program} {w:World} {K:W.Frag} {tg:Expr} (it:Addr) (lo:Int) (n:Nat):Turn P w K tg (Jj lo n) [it] it (fun i h=>IsRangeIter h it (lo+(i:Nat)*1) ((n:Int) - (i:Nat)) 1) where
 mem:=by simp
 obj:=fun i h st b hb=>by
  have e:b=it:=by simpa using hb
  subst e
  exact ⟨_,st,fun v z=>by
   have z':Data.fields _=Data.cell v:=z
   cases z'⟩
 keep:=fun i h h' st k=>k it (by simp) _ st
 item:=by
  intro X hP hw hK hc i pins s U H E I hf st hg
  subst hP hw hK
  obtain ⟨f0,f1,f2,f3,f4,f5⟩:=hf it (by simp)
  have W:=Walks.range (prog:=X.prog) (w:=X.w) (I.ok.hd hc) it lo 1 n
  refine W.item i s _ _ hg st fun v h' tk hv st' kk=>?_
  obtain ⟨t,rfl⟩:=hv
  have I1:Inv X pins U H {s with heap:=h',toks:=tk}:=I.turned (fun b o hb e=>kk b o (by simpa using hb) e) f0 f1 f3 f4 f5
  refine ⟨_,rfl,xU (s:={s with heap:=h',toks:=tk}) (n:="range_iterator") st' rfl rfl (by decide) ⟨.int (lo+i),H,I1,⟨t,?_⟩,⟨rfl,rfl⟩,st',fun b hb=>(hf b hb).1⟩⟩
  rw [Int.mul_one]
 done:=by
  intro X hP hw hK hc i pins s U H E I hf st hg
  subst hP hw hK
  obtain ⟨f0,f1,f2,f3,f4,f5⟩:=hf it (by simp)
  exact wpAny_pyNext_range_end (I.ok.hd hc) st (by have:n<=i:=hg;omega) fun h' eb=>⟨rfl,I.turned (t':=s.toks) (fun b o hb e=>eb b o hb e) f0 f1 f3 f4 f5⟩
 self:=fun _ _ _ _ _ st h=>wpAny_pyIter_rangeiter st h
section
variable {X:Cx} {tg:Expr}
theorem Ah {pins:List (Addr×Obj)} {U:St} {H:Hp} {s:Shared} {R:It->Hp->Prop} {E:Value->Shared->Prop} {lo hi:Int} {t u v:Tok} {tk:Nat} (I:Inv X pins U H s) (h1: -(2 ^ 62)<=lo) (h2:lo < 2 ^ 62) (h3: -(2 ^ 62)<=hi) (h4:hi < 2 ^ 62)
  (q:R (Jj lo (hi - lo).toNat) H):wpAny (model X.prog X.w) X.A (pyIter (.ref s.heap.objs.size)) (PIE X pins U tg R) E {s with heap:=s.heap.push {cls:=.type "range",data:=.fields #[.int lo t,.int hi u,.int 1 v]},toks:=tk}:=by
 refine wpAny_pyIter_range (IsRange.new ..) (small_one h1 h2 h3 h4) ?_
 have I1:Inv X pins U H {s with heap:=s.heap.push {cls:=.type "range",data:=.fields #[.int lo t,.int hi u,.int 1 v]},toks:=tk}:=I.kept fun b o e=>Heap.get?_push_of_some _ e
 refine ⟨(s.heap.push {cls:=.type "range",data:=.fields #[.int lo t,.int hi u,.int 1 v]}).objs.size,[(s.heap.push {cls:=.type "range",data:=.fields #[.int lo t,.int hi u,.int 1 v]}).objs.size],_,_,H,rfl,
  I1.kept (t':=tk) fun b o e=>Heap.get?_push_of_some _ e,wQ _ lo (hi - lo).toNat,?_,fun b hb=>?_,q⟩
 ·have e1:lo+((0:Nat):Int)*1=lo:=by simp
  have e2:(((hi - lo).toNat:Nat):Int) - ((0:Nat):Int)=Builtin.Range.rangeSize lo hi 1:=by rw [rangeSize_one];split <;> omega
  show IsRangeIter _ _ (lo+((0:Nat):Int)*1) ((((hi - lo).toNat:Nat):Int) - ((0:Nat):Int)) 1
  rw [e1,e2]
  exact Heap.get?_push_size _ rfl
 ·have e:b=(s.heap.push {cls:=.type "range",data:=.fields #[.int lo t,.int hi u,.int 1 v]}).objs.size:=by simpa using hb
  subst e
  exact I1.fpOk (Nat.le_refl _) (I1.hok.fresh (Nat.le_refl _))
def Ai (ta:TA):TI:=fun U H R=>ta U H fun vs H1=>∃ j:Int,vs=[.int j]/\-(2 ^ 62)<=j/\j < 2 ^ 62/\R (Jj 0 j.toNat) H1
theorem yN {a:Expr} {ta:TA} {p pos:Pos} (hg:Gl X "range") (hm:X.mg "range"=none) (ha:PA X [a] ta) (hs:autoParam (starEach [a] X.env=[(false,eval a X.env)]) L2.auto4._auto_1):PI X tg (.Call (.Name "range" p) [a] [] pos) (Ai ta):=by
 intro pins s U H R I h
 refine Call_ (uA I hg hm boot_range (PyProof.Rows.callWith_type1 (dB (ha pos pins s U H _ I h) fun us s1 ⟨vs,H1,I1,r1,q1⟩=>?_) hs rfl))
 obtain ⟨j,e,q1,q2,q⟩:=q1
 subst e
 cases r1 with
 | cons r rr=>
  cases rr
  obtain ⟨t,rfl⟩:=r
  exact call_range_1 (Ah I1 (by omega) (by omega) q1 q2 (by simpa using q))
def Ed (wi:TI) (g:TG) (tb:TS):TS:=fun D U H=>wi U H fun J H1=>∃ W:Nat->Nat->St->Hp->Prop,(∃ m,W 0 m U H1)/\∀ i m U H,W i m U H->
 (J.stop i H/\D.nx U H)\/(J.go i H/\∃ N:St->Hp->Prop,(∀ U' H',N U' H'->∃ m',m' < m/\W (i+1) m' U' H')/\∀ x H',J.yld i H x H'->g x U H' fun σ2 H2=>tb {D with nx:=N,ct:=N,bk:=D.nx} σ2 H2)
def oW (fp:List Addr) (h:Heap):List (Addr×Obj):=fp.filterMap fun b=>(h.get? b).map fun o=>(b,o)
theorem jH {fp:List Addr} {h:Heap} {b:Addr} {o:Obj} (hb:b∈fp) (e:h.get? b=some o):(b,o)∈oW fp h:=List.mem_filterMap.mpr ⟨b,hb,by rw [e];rfl⟩
theorem yO {fp:List Addr} {h:Heap} {p:Addr×Obj} (hp:p∈oW fp h):p.1∈fp/\h.get? p.1=some p.2:=by
 obtain ⟨b,hb,e⟩:=List.mem_filterMap.mp hp
 cases q:h.get? b with
 | none=>rw [q] at e;cases e
 | some o=>
  rw [q] at e
  have e':(b,o)=p:=Option.some.inj e
  subst e'
  exact ⟨hb,q⟩
theorem Inv.pinned {pins:List (Addr×Obj)} {U:St} {H:Hp} {s:Shared} {fp:List Addr} (I:Inv X pins U H s) (hf:∀ b∈fp,kW X pins H b) (ho:∀ b∈fp,∃ o,s.heap.get? b=some o/\∀ v,o.data≠.cell v):Inv X (pins ++ oW fp s.heap) U H s:=
 I.pins_of fun p hp=>(List.mem_append.mp hp).elim (fun z=>I.pin p (List.mem_append_right _ z)) fun z=>by
  obtain ⟨hb,e⟩:=yO z
  obtain ⟨f0,f1,f2,_⟩:=hf p.1 hb
  obtain ⟨o,e',d⟩:=ho p.1 hb
  rw [e] at e';cases e'
  exact ⟨e,f0,f1,f2,d⟩
theorem Inv.unpinned {pins pl:List (Addr×Obj)} {U:St} {H:Hp} {s:Shared} (I:Inv X (pins ++ pl) U H s):Inv X pins U H s:=I.pins_of fun p hp=>I.pin p (List.mem_append_right _ (List.mem_append_left _ hp))
theorem Jk {iter:Expr} {body:List Stmt} {wi:TI} {g:TG} {tb:TS} {pos:Pos} (hp:PassesOwn (model X.prog X.w) X.A X.env X.xe) (hc:X.calm=true) (hi:PI X tg iter wi) (hg:PG X tg g) (hb:PSs X body tb)
  (hs:autoParam (∀ x,foldedSetIterable iter X.env x=pure x) L2.auto3._auto_1):PS X (.For tg iter body [] pos) (Ed wi g tb):=by
 intro pins s U H D I h
 refine wpAny_For (dB (hi pins s U H _ I h) fun v s1 h1=>dB h1 fun itv s2 h2=>?_) hs
 obtain ⟨it,fp,tn,J,H2,e,I2,T,st2,f2,W,⟨m0,w0⟩,turn⟩:=h2
 subst e
 have stat:∀ {H':Hp},(∀ b∈fp,H' b=none)->∀ b∈fp,kW X pins H' b:=fun hn b hb=>⟨hn b hb,(f2 b hb).2⟩
 refine codeAny_forLoop_any (fun n s'=>∃ i U' H',Inv X pins U' H' s'/\tn i s'.heap/\(∀ b∈fp,H' b=none)/\W i n U' H') ?_ m0 ⟨0,U,H2,I2,st2,fun b hb=>(f2 b hb).1,w0⟩
 rintro n s3 ⟨i,σ3,H3,I3,st3,fr3,w3⟩
 rcases turn i n σ3 H3 w3 with ⟨stop,qn⟩ | ⟨go,N,hN,step⟩
 ·refine wpAny_passesOwn hp (dB (T.done X rfl rfl rfl hc i pins s3 σ3 H3 X.xe I3 (stat fr3) st3 stop) fun r s4 qq0=>?_)
  obtain ⟨hr,I4⟩:=qq0
  subst hr
  exact wpAny_execs_nil ⟨σ3,H3,I4,qn⟩
 ·refine wpAny_passesOwn hp (dB (T.item X rfl rfl rfl hc i pins s3 σ3 H3 X.xe I3 (stat fr3) st3 go) fun r s4 qq0=>?_)
  obtain ⟨u,hr,h4⟩:=qq0
  subst hr
  refine wpAny_passesOwn hp (dB h4 fun _ s5 qq0=>?_)
  obtain ⟨x,H5,I5,r5,y5,st5,fr5⟩:=qq0
  have I5':=I5.pinned (stat fr5) (T.obj _ _ st5)
  refine wpAny_passesOwn hp (dB (hg _ s5 σ3 H5 x u _ I5' r5 (step x H5 y5)) fun _ s6 qq0=>?_)
  obtain ⟨σ6,H6,I6,q6⟩:=qq0
  refine wpAny_passesOwn hp (dB (hb _ s6 σ6 H6 _ I6 q6) fun f s7 q7=>?_)
  have again:∀ {σ7:St} {H7:Hp},Inv X (pins ++ oW fp s5.heap) σ7 H7 s7->N σ7 H7->∃ m,m < n/\∃ i U' H',Inv X pins U' H' s7/\tn i s7.heap/\(∀ b∈fp,H' b=none)/\W i m U' H':=fun {σ7 H7} I7 n7=>by
   obtain ⟨m',hm,w7⟩:=hN σ7 H7 n7
   refine ⟨m',hm,i+1,σ7,H7,I7.unpinned,T.keep _ _ _ st5 fun b hb o e=>(I7.pin (b,o) (List.mem_append_right _ (List.mem_append_right _ (jH hb e)))).1,fun b hb=>?_,w7⟩
   obtain ⟨o,e,d⟩:=T.obj _ _ st5 b hb
   exact (I7.pin (b,o) (List.mem_append_right _ (List.mem_append_right _ (jH hb e)))).2.1
  cases f with
  | next=>obtain ⟨σ7,H7,I7,n7⟩:=q7;exact again I7 n7
  | cont=>obtain ⟨σ7,H7,I7,n7⟩:=q7;exact again I7 n7
  | brk=>obtain ⟨σ7,H7,I7,q7⟩:=q7;exact ⟨σ7,H7,I7.unpinned,q7⟩
  | ret v=>obtain ⟨x7,σ7,H7,I7,r7,q7⟩:=q7;exact ⟨x7,σ7,H7,I7.unpinned,r7,q7⟩
end
theorem Aj {K:W.Frag} {a:Addr} {xs:List V} {g:TG} {tb:TS} {D:Ends} {U:St} {H:Hp} (Pv:Nat->St->Hp->Prop) (h0:Pv 0 U H) (hl:∀ i U H,i<=xs.length->Pv i U H->SqL K H a xs)
  (hs:∀ i x U H,xs[i]?=some x->Pv i U H->g x U H fun σ2 H2=>tb {D with nx:=Pv (i+1),ct:=Pv (i+1),bk:=D.nx} σ2 H2) (hd:∀ U H,Pv xs.length U H->D.nx U H):
  ∃ W:Nat->Nat->St->Hp->Prop,(∃ m,W 0 m U H)/\∀ i m U H,W i m U H->
   ((Hv K a).stop i H/\D.nx U H)\/((Hv K a).go i H/\∃ N:St->Hp->Prop,(∀ U' H',N U' H'->∃ m',m' < m/\W (i+1) m' U' H')/\∀ x H',(Hv K a).yld i H x H'->g x U H' fun σ2 H2=>tb {D with nx:=N,ct:=N,bk:=D.nx} σ2 H2):=by
 refine ⟨fun i m U H=>m=xs.length - i/\i<=xs.length/\Pv i U H,⟨xs.length,by simp,Nat.zero_le _,h0⟩,?_⟩
 rintro i m U H ⟨rfl,hi,p⟩
 have q:=hl i U H hi p
 by_cases hlt:i < xs.length
 ·refine .inr ⟨⟨xs,xs[i],q,by simp [hlt]⟩,Pv (i+1),fun U' H' p'=>⟨xs.length - (i+1),by omega,rfl,hlt,p'⟩,fun x H' y=>?_⟩
  obtain ⟨e,y⟩:=y
  subst e
  exact hs i x U _ (y xs q) p
 ·have e:i=xs.length:=by omega
  subst e
  exact .inl ⟨⟨xs,q,Nat.le_refl _⟩,hd U H p⟩
theorem yP {lo:Int} {n:Nat} {g:TG} {tb:TS} {D:Ends} {U:St} {H:Hp} (Pv:Nat->St->Hp->Prop) (h0:Pv 0 U H)
  (hs:∀ i U H,i < n->Pv i U H->g (.int (lo+i)) U H fun σ2 H2=>tb {D with nx:=Pv (i+1),ct:=Pv (i+1),bk:=D.nx} σ2 H2) (hd:∀ U H,Pv n U H->D.nx U H):
  ∃ W:Nat->Nat->St->Hp->Prop,(∃ m,W 0 m U H)/\∀ i m U H,W i m U H->
   ((Jj lo n).stop i H/\D.nx U H)\/((Jj lo n).go i H/\∃ N:St->Hp->Prop,(∀ U' H',N U' H'->∃ m',m' < m/\W (i+1) m' U' H')/\∀ x H',(Jj lo n).yld i H x H'->g x U H' fun σ2 H2=>tb {D with nx:=N,ct:=N,bk:=D.nx} σ2 H2):=by
 refine ⟨fun i m U H=>m=n - i/\i<=n/\Pv i U H,⟨n,by simp,Nat.zero_le _,h0⟩,?_⟩
 rintro i m U H ⟨rfl,hi,p⟩
 by_cases hlt:i < n
 ·refine .inr ⟨hlt,Pv (i+1),fun U' H' p'=>⟨n - (i+1),by omega,rfl,hlt,p'⟩,fun x H' y=>?_⟩
  obtain ⟨e,y⟩:=y
  subst e y
  exact hs i U _ hlt p
 ·have e:i=n:=by omega
  subst e
  exact .inl ⟨Nat.le_refl _,hd U H p⟩
abbrev R2:=V->V->Hp->VK->Prop
def OpR (X:Cx) (f:Value->Value->Sem Value) (r:R2):Prop:=
 ∀ (pins:List (Addr×Obj)) (s:Shared) (U:St) (H:Hp) (x y:V) (v u:Value) (Q:VK),Inv X pins U H s->RelV x v->RelV y u->r x y H Q->
  wpAny (model X.prog X.w) X.A (f v u) (EP X pins U Q) X.xe s
def Qy (X:Cx) (f:Value->Sem Value) (r:V->Hp->VK->Prop):Prop:=
 ∀ (pins:List (Addr×Obj)) (s:Shared) (U:St) (H:Hp) (x:V) (v:Value) (Q:VK),Inv X pins U H s->RelV x v->r x H Q->
  wpAny (model X.prog X.w) X.A (f v) (EP X pins U Q) X.xe s
def CallR (X:Cx) (f:Value) (r:List V->Hp->VK->Prop):Prop:=
 ∀ (pins:List (Addr×Obj)) (s:Shared) (U:St) (H:Hp) (xs:List V) (us:List Value) (Q:VK),Inv X pins U H s->Vals xs us->r xs H Q->
  wpAny (model X.prog X.w) X.A (call f us) (EP X pins U Q) X.xe s
def DN (r:R2) (ta tb:TE):TE:=fun U H Q=>ta U H fun x H1=>tb U H1 fun y H2=>r x y H2 Q
def tUn (r:V->Hp->VK->Prop) (ta:TE):TE:=fun U H Q=>ta U H fun x H1=>r x H1 Q
def rI (C:Int->Int->Prop) (g:Int->Int->V):R2:=fun x y H Q=>∃ i j,x= .int i/\y= .int j/\C i j/\Q (g i j) H
def Hw (g:Int->Int->V):R2:=fun x y H Q=>∃ i j,x= .int i/\y= .int j/\Q (g i j) H
def rU (g:Int->V):V->Hp->VK->Prop:=fun x H Q=>∃ i,x= .int i/\Q (g i) H
section
variable {X:Cx} {a b c:Expr} {ta tb tc:TE} {pos:Pos}
theorem Jl (ha:PE X a ta) (hb:PE X b tb) {pins:List (Addr×Obj)} {s:Shared} {U:St} {H:Hp} {R:V->V->Hp->Prop} (I:Inv X pins U H s)
  (h:ta U H fun x H1=>tb U H1 fun y H2=>R x y H2) {Q:Value->Shared->Prop} {f:Value->Value->Sem Value}
  (hf:∀ v u s2 x y H2,Inv X pins U H2 s2->RelV x v->RelV y u->R x y H2->wpAny (model X.prog X.w) X.A (f v u) Q X.xe s2):
  wpAny (model X.prog X.w) X.A (eval a X.env) (fun v s₁=>wpAny (model X.prog X.w) X.A (eval b X.env) (fun u s₂=>wpAny (model X.prog X.w) X.A (f v u) Q X.xe s₂) X.xe s₁) X.xe s:=by
 refine dB (ha pins s U H _ I h) fun v s1 qq0=>?_
 obtain ⟨x,H1,I1,r1,q1⟩:=qq0
 refine dB (hb pins s1 U H1 _ I1 q1) fun u s2 qq0=>?_
 obtain ⟨y,H2,I2,r2,q2⟩:=qq0
 exact hf v u s2 x y H2 I2 r1 r2 q2
theorem Nf {op:Operator} {r:R2} (ho:OpR X (binaryOp op) r) (ha:PE X a ta) (hb:PE X b tb):PE X (.BinOp a op b pos) (DN r ta tb):=by
 intro pins s U H Q I h
 exact wpAny_BinOp (Jl ha hb I h fun v u s2 x y H2 I2 rx ry q=>ho pins s2 U H2 x y v u Q I2 rx ry q)
theorem Ng {op:UnaryOp} {r:V->Hp->VK->Prop} (ho:Qy X (unaryOp op) r) (ha:PE X a ta):PE X (.UnaryOp op a pos) (tUn r ta):=by
 intro pins s U H Q I h
 exact UnaryOp_ (dB (ha pins s U H _ I h) fun v s1 ⟨x,H1,I1,r1,q1⟩=>ho pins s1 U H1 x v Q I1 r1 q1)
theorem Qz {f:Value->Value->Sem Value} {C:Int->Int->Prop} {g:Int->Int->Int}
  (rule:∀ (i j:Int) (t u:Tok) (s:Shared) (Q:Value->Shared->Prop) (E:Value->Shared->Prop),C i j->Q (.int (g i j) s.toks) {s with toks:=s.toks+1}->wpAny (model X.prog X.w) X.A (f (.int i t) (.int j u)) Q E s):
  OpR X f (rI C fun i j=>.int (g i j)):=by
 intro pins s U H x y v u Q I rx ry h
 obtain ⟨i,j,rfl,rfl,hc,q⟩:=h
 obtain ⟨t,rfl⟩:=rx
 obtain ⟨t',rfl⟩:=ry
 exact rule i j t t' s _ _ hc ⟨.int (g i j),H,I.tok _,⟨_,rfl⟩,q⟩
theorem opI0 {f:Value->Value->Sem Value} {g:Int->Int->Int}
  (rule:∀ (i j:Int) (t u:Tok) (s:Shared) (Q:Value->Shared->Prop) (E:Value->Shared->Prop),Q (.int (g i j) s.toks) {s with toks:=s.toks+1}->wpAny (model X.prog X.w) X.A (f (.int i t) (.int j u)) Q E s):
  OpR X f (Hw fun i j=>.int (g i j)):=by
 intro pins s U H x y v u Q I rx ry h
 obtain ⟨i,j,rfl,rfl,q⟩:=h
 obtain ⟨t,rfl⟩:=rx
 obtain ⟨t',rfl⟩:=ry
 exact rule i j t t' s _ _ ⟨.int (g i j),H,I.tok _,⟨_,rfl⟩,q⟩
theorem Ef {f:Value->Value->Sem Value} {g:Int->Int->Bool}
  (rule:∀ (i j:Int) (t u:Tok) (s:Shared) (Q:Value->Shared->Prop) (E:Value->Shared->Prop),Q (.bool (g i j)) s->wpAny (model X.prog X.w) X.A (f (.int i t) (.int j u)) Q E s):
  OpR X f (Hw fun i j=>.bl (g i j)):=by
 intro pins s U H x y v u Q I rx ry h
 obtain ⟨i,j,rfl,rfl,q⟩:=h
 obtain ⟨t,rfl⟩:=rx
 obtain ⟨t',rfl⟩:=ry
 exact rule i j t t' s _ _ ⟨.bl (g i j),H,I,rfl,q⟩
def CDiv (i j:Int):Prop:=0 < j/\j < 1073741824
def CPow (i j:Int):Prop:=0<=j/\j<=1000000/\i.natAbs < 2 ^ 64
def CMul (i j:Int):Prop:=(-(2 ^ 64) < i/\i < 2 ^ 64)\/(-(2 ^ 64) < j/\j < 2 ^ 64)
theorem CMul.ok {i j:Int} (h:CMul i j):IntMulOk i j:=by
 rcases h with ⟨h1,h2⟩ | ⟨h1,h2⟩
 ·exact .of_left (intBits_le_64 h1 h2)
 ·exact .of_right (intBits_le_64 h1 h2)
theorem Jm:OpR X (binaryOp .Add) (Hw fun i j=>.int (i+j)):=opI0 fun _ _ _ _ _ _ _ q=>add_int q
theorem Jo:OpR X (binaryOp .Mult) (rI CMul fun i j=>.int (i*j)):=Qz fun _ _ _ _ _ _ _ hc q=>mul_int q hc.ok
theorem mZ:OpR X (binaryOp .FloorDiv) (rI CDiv fun i j=>.int (i / j)):=Qz fun i j _ _ _ _ _ hc q=>by
 have h1:(0:Int) < j:=hc.1
 have h2:j < 1073741824:=hc.2
 exact floordiv_int (by omega) (by rw [Int.fdiv_eq_ediv_of_nonneg i (by omega)];exact q) (.inl (PyProof.noPylong_small (by omega)))
theorem bW:OpR X (binaryOp .Mod) (rI (fun _ j=>0 < j) fun i j=>.int (i % j)):=Qz fun i j _ _ _ _ _ hc q=>by
 have h1:(0:Int) < j:=hc
 exact mod_int' (by omega) (by rw [Int.fmod_eq_emod_of_nonneg i (by omega)];exact q)
theorem Jp:OpR X (binaryOp .Pow) (rI CPow fun i j=>.int (i ^ j.toNat)):=Qz fun _ _ _ _ _ _ _ hc q=>pow_int_small hc.1 hc.2.1 hc.2.2 q
theorem unI {f:Value->Sem Value} {g:Int->Int}
  (rule:∀ (i:Int) (t:Tok) (s:Shared) (Q:Value->Shared->Prop) (E:Value->Shared->Prop),Q (.int (g i) s.toks) {s with toks:=s.toks+1}->wpAny (model X.prog X.w) X.A (f (.int i t)) Q E s):
  Qy X f (rU fun i=>.int (g i)):=by
 intro pins s U H x v Q I rx h
 obtain ⟨i,rfl,q⟩:=h
 obtain ⟨t,rfl⟩:=rx
 exact rule i t s _ _ ⟨.int (g i),H,I.tok _,⟨_,rfl⟩,q⟩
theorem Ak:Qy X (unaryOp .USub) (rU fun i=>.int (-i)):=unI fun _ _ _ _ _ q=>neg_int q
end
def Jq:V->V->Bool
 | .non,.non=>true | .non,.int _=>true | .int _,.non=>true | .non,.bl _=>true | .bl _,.non=>true | .non,.str _=>true | .str _,.non=>true
 | .int _,.int _=>true | .bl _,.bl _=>true | .str _,.str _=>true | .byt _,.byt _=>true
 | .int _,.str _=>true | .str _,.int _=>true | .bl _,.str _=>true | .str _,.bl _=>true
 | _,_=>false
def rEq:R2:=fun x y H Q=>Jq x y=true/\Q (.bl (decide (x=y))) H
def rNe:R2:=fun x y H Q=>Jq x y=true/\Q (.bl (!decide (x=y))) H
theorem xV {i j:Int}:decide (V.int i=V.int j)=(i == j):=by
 rw [Bool.eq_iff_iff]
 simp
theorem Al {i j:Bool}:decide (V.bl i=V.bl j)=(i == j):=by
 rw [Bool.eq_iff_iff]
 simp
theorem xW {i j:Str}:decide (V.str i=V.str j)=(i == j):=by
 rw [Bool.eq_iff_iff]
 simp
theorem xX {i j:Array UInt8}:decide (V.byt i=V.byt j)=(i.toList == j.toList):=by
 rw [Bool.eq_iff_iff]
 cases i
 cases j
 simp
section
variable {X:Cx} {a b c:Expr} {ta tb tc:TE} {pos:Pos}
theorem bx {pins:List (Addr×Obj)} {U:St} {H:Hp} {s:Shared} {Q:VK} {k k':Bool} (I:Inv X pins U H s) (q:Q (.bl k) H) (e:k=k'):EP X pins U Q (.bool k') s:=by
 subst e
 exact ⟨.bl k,H,I,rfl,q⟩
theorem Nh:OpR X (compareOp .Eq) rEq:=by
 intro pins s U H x y v u Q I rx ry h
 obtain ⟨hs,q⟩:=h
 cases x with
 | non=>
  cases rx
  cases y with
  | non=>cases ry;exact PySem.EqNone.eq_none_none (bx I q (by simp))
  | bl j=>cases ry;exact PySem.EqNone.eq_none_bool (bx I q (by simp))
  | int j=>obtain ⟨t',rfl⟩:=ry;exact PySem.EqNone.eq_none_int (bx I q (by simp))
  | str j=>obtain ⟨t',rfl⟩:=ry;exact PySem.EqNone.eq_none_str (bx I q (by simp))
  | _=>exact absurd (show false=true from hs) Bool.false_ne_true
 | bl i=>
  cases rx
  cases y with
  | non=>cases ry;exact PySem.EqNone.eq_bool_none (bx I q (by simp))
  | bl j=>cases ry;exact eq_bool (bx I q Al)
  | str j=>obtain ⟨t',rfl⟩:=ry;exact PySem.EqMixed.eq_bool_str (bx I q (by simp))
  | _=>exact absurd (show false=true from hs) Bool.false_ne_true
 | int i=>
  obtain ⟨t,rfl⟩:=rx
  cases y with
  | non=>cases ry;exact PySem.EqNone.eq_int_none (bx I q (by simp))
  | int j=>obtain ⟨t',rfl⟩:=ry;exact eq_int (bx I q xV)
  | str j=>obtain ⟨t',rfl⟩:=ry;exact PySem.EqMixed.eq_int_str (bx I q (by simp))
  | _=>exact absurd (show false=true from hs) Bool.false_ne_true
 | str i=>
  obtain ⟨t,rfl⟩:=rx
  cases y with
  | non=>cases ry;exact PySem.EqNone.eq_str_none (bx I q (by simp))
  | bl j=>cases ry;exact PySem.EqMixed.eq_str_bool (bx I q (by simp))
  | int j=>obtain ⟨t',rfl⟩:=ry;exact PySem.EqMixed.eq_str_int (bx I q (by simp))
  | str j=>obtain ⟨t',rfl⟩:=ry;exact eq_str (bx I q xW)
  | _=>exact absurd (show false=true from hs) Bool.false_ne_true
 | byt i=>
  obtain ⟨t,rfl⟩:=rx
  cases y with
  | byt j=>obtain ⟨t',rfl⟩:=ry;exact PySem.W.eq_bytes (bx I q xX)
  | _=>exact absurd (show false=true from hs) Bool.false_ne_true
 | _=>cases y <;> exact absurd (show false=true from hs) Bool.false_ne_true
theorem Ni:OpR X (compareOp .NotEq) rNe:=by
 intro pins s U H x y v u Q I rx ry h
 obtain ⟨hs,q⟩:=h
 cases x with
 | non=>
  cases rx
  cases y with
  | non=>cases ry;exact PySem.EqNone.ne_none_none (bx I q (by simp))
  | bl j=>cases ry;exact PySem.EqNone.ne_none_bool (bx I q (by simp))
  | int j=>obtain ⟨t',rfl⟩:=ry;exact PySem.EqNone.ne_none_int (bx I q (by simp))
  | str j=>obtain ⟨t',rfl⟩:=ry;exact PySem.EqNone.ne_none_str (bx I q (by simp))
  | _=>exact absurd (show false=true from hs) Bool.false_ne_true
 | bl i=>
  cases rx
  cases y with
  | non=>cases ry;exact PySem.EqNone.ne_bool_none (bx I q (by simp))
  | bl j=>cases ry;exact ne_bool (bx I q (congrArg not Al))
  | str j=>obtain ⟨t',rfl⟩:=ry;exact PySem.EqMixed.ne_bool_str (bx I q (by simp))
  | _=>exact absurd (show false=true from hs) Bool.false_ne_true
 | int i=>
  obtain ⟨t,rfl⟩:=rx
  cases y with
  | non=>cases ry;exact PySem.EqNone.ne_int_none (bx I q (by simp))
  | int j=>obtain ⟨t',rfl⟩:=ry;exact ne_int (bx I q (congrArg not xV))
  | str j=>obtain ⟨t',rfl⟩:=ry;exact PySem.EqMixed.ne_int_str (bx I q (by simp))
  | _=>exact absurd (show false=true from hs) Bool.false_ne_true
 | str i=>
  obtain ⟨t,rfl⟩:=rx
  cases y with
  | non=>cases ry;exact PySem.EqNone.ne_str_none (bx I q (by simp))
  | bl j=>cases ry;exact PySem.EqMixed.ne_str_bool (bx I q (by simp))
  | int j=>obtain ⟨t',rfl⟩:=ry;exact PySem.EqMixed.ne_str_int (bx I q (by simp))
  | str j=>obtain ⟨t',rfl⟩:=ry;exact ne_str (bx I q (congrArg not xW))
  | _=>exact absurd (show false=true from hs) Bool.false_ne_true
 | byt i=>
  obtain ⟨t,rfl⟩:=rx
  cases y with
  | byt j=>obtain ⟨t',rfl⟩:=ry;exact PySem.W.ne_bytes (bx I q (congrArg not xX))
  | _=>exact absurd (show false=true from hs) Bool.false_ne_true
 | _=>cases y <;> exact absurd (show false=true from hs) Bool.false_ne_true
theorem Am:OpR X (compareOp .Lt) (Hw fun i j=>.bl (decide (i < j))):=Ef fun _ _ _ _ _ _ _ q=>lt_int q
theorem xY:OpR X (compareOp .LtE) (Hw fun i j=>.bl (decide (i<=j))):=Ef fun _ _ _ _ _ _ _ q=>le_int q
theorem tQ:OpR X (compareOp .Gt) (Hw fun i j=>.bl (decide (j < i))):=Ef fun _ _ _ _ _ _ _ q=>gt_int q
theorem Nj:OpR X (compareOp .GtE) (Hw fun i j=>.bl (decide (j<=i))):=Ef fun _ _ _ _ _ _ _ q=>ge_int q
theorem yQ:OpR X (compareOp .In) (fun x y H Q=>∃ i j,x= .str i/\y= .str j/\Q (.bl (!(Builtin.Str.occurrences j i 0 j.length 1).isEmpty)) H):=by
 intro pins s U H x y v u Q I rx ry h
 obtain ⟨i,j,rfl,rfl,q⟩:=h
 obtain ⟨t,rfl⟩:=rx
 obtain ⟨t',rfl⟩:=ry
 exact in_str (bx I q rfl)
theorem Jr:OpR X (compareOp .Is) (fun x y H Q=>y= .non/\Q (.bl (decide (x= .non))) H):=by
 intro pins s U H x y v u Q I rx ry h
 obtain ⟨rfl,q⟩:=h
 cases ry
 refine is_none_gen (bx I q ?_)
 cases x <;> first
  | (cases rx;rfl)
  | (obtain ⟨t,rfl⟩:=rx;rfl)
theorem OpR.or {f:Value->Value->Sem Value} {r r':R2} (h:OpR X f r) (h':OpR X f r'):OpR X f (fun x y H Q=>r x y H Q\/r' x y H Q):=by
 intro pins s U H x y v u Q I rx ry q
 rcases q with q | q
 ·exact h pins s U H x y v u Q I rx ry q
 ·exact h' pins s U H x y v u Q I rx ry q
theorem aC (b:Expr) {op:CmpOp} (h:autoParam (op≠.In) L2.auto2._auto_1) (h2:autoParam (op≠.NotIn) L2.auto2._auto_1):behindInMarks op b=false:=by
 have e1:(op == CmpOp.In)=false:=by cases op <;> first | rfl | exact absurd rfl h
 have e2:(op == CmpOp.NotIn)=false:=by cases op <;> first | rfl | exact absurd rfl h2
 cases b <;> simp [behindInMarks,e1,e2]
theorem Eg {op:CmpOp} {r:R2} (ho:OpR X (compareOp op) r) (ha:PE X a ta) (hb:PE X b tb) (hm:behindInMarks op b=false):PE X (.Compare a [op] [b] pos) (DN r ta tb):=by
 intro pins s U H Q I h
 exact wpAny_Compare1 (Jl ha hb I h fun v u s2 x y H2 I2 rx ry q=>ho pins s2 U H2 x y v u Q I2 rx ry q) hm
def vB (t:TE):TT:=fun U H Q=>t U H fun x H'=>∃ k,x= .bl k/\Q k H'
theorem Eh {op:CmpOp} {r:R2} (ho:OpR X (compareOp op) r) (ha:PE X a ta) (hb:PE X b tb) (hm:behindInMarks op b=false):PT X (.Compare a [op] [b] pos) (vB (DN r ta tb)):=by
 intro pins s U H Q I h
 refine wpAny_isTrue_Compare1 (dB (ha pins s U H _ I h) fun v s1 ⟨x,H1,I1,r1,q1⟩=>dB (hb pins s1 U H1 _ I1 q1) fun u s2 ⟨y,H2,I2,r2,q2⟩=>
  dB (ho pins s2 U H2 x y v u _ I2 r1 r2 q2) fun c s3 ⟨z,H3,I3,r3,k,e,q3⟩=>?_) hm
 subst e
 cases r3
 exact wpAny_truthy_bool ⟨H3,I3,q3⟩
def wR (r r':R2) (ta tb tc:TE):TE:=fun U H Q=>ta U H fun x H1=>tb U H1 fun y H2=>r x y H2 fun z H3=>∃ k,z= .bl k/\
 (if k=true then tc U H3 fun w' H4=>r' y w' H4 Q else Q (.bl false) H3)
theorem An {op op':CmpOp} {r r':R2} (ho:OpR X (compareOp op) r) (ho':OpR X (compareOp op') r') (ha:PE X a ta) (hb:PE X b tb) (hc:PE X c tc)
  (hm:autoParam (lastMarks [op,op'] [b,c]=false) L2.auto5._auto_1):PT X (.Compare a [op,op'] [b,c] pos) (vB (wR r r' ta tb tc)):=by
 intro pins s U H Q I h
 refine isTrue_chain (dB (ha pins s U H _ I h) fun v s1 ⟨x,H1,I1,r1,q1⟩=>test_link (dB (hb pins s1 U H1 _ I1 q1) fun u s2 ⟨y,H2,I2,r2,q2⟩=>
  dB (ho pins s2 U H2 x y v u _ I2 r1 r2 q2) fun d s3 ⟨z,H3,I3,r3,k,e,q3⟩=>?_)) hm
 subst e
 cases r3
 refine wpAny_truthy_bool ?_
 cases k with
 | false=>
  obtain ⟨k',e',q'⟩:=q3
  cases e'
  exact ite_ff ⟨H3,I3,q'⟩
 | true=>
  refine ite_tt (test_last (dB (hc pins s3 U H3 _ I3 q3) fun w' s4 ⟨z',H4,I4,r4,q4⟩=>dB (ho' pins s4 U H4 y z' u w' _ I4 r2 r4 q4) fun d' s5 qq0=>?_))
  obtain ⟨z2,H5,I5,r5,k2,e2,q5⟩:=qq0
  subst e2
  cases r5
  exact wpAny_truthy_bool ⟨H5,I5,q5⟩
theorem qQ:(sizeLine:Nat) < 2 ^ 63:=by rw [sizeLine_eq];decide
theorem wU:OpR X (binaryOp .Add) (fun x y H Q=>∃ i j,x= .str i/\y= .str j/\i.length+j.length<=sizeLine/\Q (.str (i ++ j)) H):=by
 intro pins s U H x y v u Q I rx ry h
 obtain ⟨i,j,rfl,rfl,hz,q⟩:=h
 obtain ⟨t,rfl⟩:=rx
 obtain ⟨t',rfl⟩:=ry
 exact add_str (fun t' tk=>⟨.str (i ++ j),H,I.tok _,⟨_,rfl⟩,q⟩) hz
theorem vals1 {x:V} {us:List Value} (r:Vals [x] us):∃ u,us=[u]/\RelV x u:=by
 cases r with
 | cons r1 r2=>cases r2;exact ⟨_,rfl,r1⟩
theorem vals2 {x y:V} {us:List Value} (r:Vals [x,y] us):∃ u w',us=[u,w']/\RelV x u/\RelV y w':=by
 cases r with
 | cons r1 r2=>
  cases r2 with
  | cons r3 r4=>cases r4;exact ⟨_,_,rfl,r1,r3⟩
theorem yR (hc:X.calm=true):CallR X (.builtin "max") (fun xs H Q=>∃ i j,xs=[.int i,.int j]/\Q (.int (if j > i then j else i)) H):=by
 intro pins s U H xs us Q I r h
 obtain ⟨i,j,rfl,q⟩:=h
 obtain ⟨u,w',rfl,⟨t,rfl⟩,⟨t',rfl⟩⟩:=vals2 r
 refine max_two_ints (I.ok.hd hc) fun h' tk k=>⟨_,H,I.kept k,?_,q⟩
 by_cases hj:j > i
 ·rw [if_pos hj,if_pos hj];exact ⟨_,rfl⟩
 ·rw [if_neg hj,if_neg hj];exact ⟨_,rfl⟩
theorem yS (hc:X.calm=true):CallR X (.builtin "min") (fun xs H Q=>∃ i j,xs=[.int i,.int j]/\Q (.int (if j < i then j else i)) H):=by
 intro pins s U H xs us Q I r h
 obtain ⟨i,j,rfl,q⟩:=h
 obtain ⟨u,w',rfl,⟨t,rfl⟩,⟨t',rfl⟩⟩:=vals2 r
 refine min_two_ints (I.ok.hd hc) fun h' tk k=>⟨_,H,I.kept k,?_,q⟩
 by_cases hj:j < i
 ·rw [if_pos hj,if_pos hj];exact ⟨_,rfl⟩
 ·rw [if_neg hj,if_neg hj];exact ⟨_,rfl⟩
theorem yU:CallR X (.type "int") (fun xs H Q=>(∃ i,xs=[.int i]/\Q (.int i) H)\/∃ k,xs=[.bl k]/\Q (.int (if k then 1 else 0)) H):=by
 intro pins s U H xs us Q I r h
 rcases h with ⟨i,rfl,q⟩ | ⟨k,rfl,q⟩
 ·obtain ⟨u,rfl,t,rfl⟩:=vals1 r
  exact call_int_int ⟨.int i,H,I,⟨_,rfl⟩,q⟩
 ·obtain ⟨u,rfl,r1⟩:=vals1 r
  cases r1
  exact call_int_bool ⟨.int (if k then 1 else 0),H,I.tok _,⟨_,rfl⟩,q⟩
def Nk (K:W.Frag) (x:V) (H:Hp) (n:Nat):Prop:=
 match x with
 | .str y=>y.length<=sizeLine/\n=y.length
 | .byt y=>y.size<=sizeLine/\n=y.size
 | .ref p=>(∃ xs,SqL K H p xs/\n=xs.length)\/∃ xs,SqT K H p xs/\n=xs.length
 | _=>False
theorem Ao:CallR X (.builtin "len") (fun xs H Q=>∃ x n,xs=[x]/\Nk X.K x H n/\Q (.int n) H):=by
 intro pins s U H xs us Q I r h
 obtain ⟨x,n,rfl,e,q⟩:=h
 obtain ⟨u,rfl,rx⟩:=vals1 r
 have hl:=qQ
 have hs:sizeLine=16777216:=sizeLine_eq
 cases x with
 | str y=>
  obtain ⟨t,rfl⟩:=rx
  obtain ⟨hy,e'⟩:y.length<=sizeLine/\n=y.length:=e
  subst e'
  exact len_str (by omega) ⟨.int _,H,I.tok _,⟨_,rfl⟩,q⟩
 | byt y=>
  obtain ⟨t,rfl⟩:=rx
  obtain ⟨hy,e'⟩:y.size<=sizeLine/\n=y.size:=e
  subst e'
  exact PySem.W.len_bytes (by omega) ⟨.int _,H,I.tok _,⟨_,rfl⟩,q⟩
 | ref p=>
  cases rx
  have e':(∃ xs,SqL X.K H p xs/\n=xs.length)\/∃ xs,SqT X.K H p xs/\n=xs.length:=e
  rcases e' with ⟨xs,hx,e'⟩ | ⟨xs,hx,e'⟩
  ·subst e'
   obtain ⟨its,r',pl,hz⟩:=I.list hx
   have hlen:=r'.length
   exact Calls.call_len_list pl.isList (by simp only [List.size_toArray];omega) ⟨.int xs.length,H,I.tok _,⟨_,by simp only [List.size_toArray];rw [hlen]⟩,q⟩
  ·subst e'
   obtain ⟨its,r',pl,hz⟩:=I.tuple hx
   have hlen:=r'.length
   exact len_tuple pl (by simp only [List.size_toArray];omega) ⟨.int xs.length,H,I.tok _,⟨_,by simp only [List.size_toArray];rw [hlen]⟩,q⟩
 | _=>exact (show False from e).elim
end
structure ObjM (h:Heap) (x dx C:Addr) (mA:Str->Option Value):Prop where
 obj:h.get? x=some (PySem.W.instObj C dx)
 ns:h.Ns1 dx mA
 ne:dx≠x
theorem tR {h:Heap} {dx:Addr} {mA:Str->Option Value} (n:h.Ns1 dx mA):∃ od,h.get? dx=some od/\∀ name,PySem.W.lookIn name od=some (mA name):=by
 obtain ⟨o,es,ep,ho,hd,hk,_,hm⟩:=n
 refine ⟨o,ho,fun name=>?_⟩
 have e:=hm name
 unfold nsFind findBy at e
 rw [← Array.find?_toList] at e
 unfold PySem.W.lookIn
 rw [hd]
 dsimp only
 split
 ·rename_i y q
  rw [q] at e
  exact congrArg some e
 ·rename_i q
  rw [q] at e
  have a:es.toList.any (·.refKey)=false:=by
   rw [List.any_eq_false]
   intro y hy
   obtain ⟨z,t,hkey⟩:=hk y (Array.mem_toList_iff.mp hy)
   simp [DictEntry.refKey,hkey]
  have a':¬ es.toList.any (·.refKey)=true:=by rw [a];exact Bool.false_ne_true
  rw [if_neg a']
  exact congrArg some e
theorem ObjM.look {h:Heap} {x dx C:Addr} {mA:Str->Option Value} (I:ObjM h x dx C mA):∃ od,PySem.W.InstAt h x (PySem.W.instObj C dx) C (some od)/\∀ name,PySem.W.lookIn name od=some (mA name):=
 let ⟨od,ho,hl⟩:=tR I.ns
 ⟨od,⟨I.obj,rfl,rfl,ho⟩,hl⟩
def yV (f:Str) (v:V):List (Str×V)->List (Str×V)
 | []=>[(f,v)]
 | (g,x) :: r=>if g=f then (g,v) :: r else (g,x) :: yV f v r
theorem pI (f g:Str) (v:V):∀ fs:List (Str×V),(yV f v fs).lookup g=if g=f then some v else fs.lookup g
 | []=>by
  show List.lookup g [(f,v)]=_
  by_cases h:g=f
  ·have hb:(g == f)=true:=beq_iff_eq.mpr h
   simp only [List.lookup,hb,if_pos h]
  ·have hb:(g == f)=false:=beq_eq_false_iff_ne.mpr h
   simp only [List.lookup,hb,if_neg h]
 | (k,x) :: r=>by
  have ih:=pI f g v r
  rw [show yV f v ((k,x) :: r)=(if k=f then (k,v) :: r else (k,x) :: yV f v r) from rfl]
  by_cases hk:k=f
  ·rw [if_pos hk]
   by_cases h:g=k
   ·have hb:(g == k)=true:=beq_iff_eq.mpr h
    simp only [List.lookup,hb,if_pos (h.trans hk)]
   ·have hb:(g == k)=false:=beq_eq_false_iff_ne.mpr h
    simp only [List.lookup,hb,if_neg (fun e:g=f=>h (e.trans hk.symm))]
  ·rw [if_neg hk]
   by_cases h:g=k
   ·have hb:(g == k)=true:=beq_iff_eq.mpr h
    simp only [List.lookup,hb,if_neg (fun e:g=f=>hk (h.symm.trans e))]
   ·have hb:(g == k)=false:=beq_eq_false_iff_ne.mpr h
    simp only [List.lookup,hb]
    exact ih
theorem RelO.some_of {v:V} {o:Option Value} (r:RelO (some v) o):∃ u,o=some u/\RelV v u:=by
 cases o with
 | none=>exact (show False from r).elim
 | some u=>exact ⟨u,rfl,r⟩
theorem RelO.none_of {o:Option Value} (r:RelO none o):o=none:=by
 cases o with
 | none=>rfl
 | some u=>exact (show False from r).elim
theorem yW {v:V} {u:Value} (r:RelV v u):PySem.W.handedIn u=true:=by
 cases v with
 | non=>cases (show u=Value.none from r);rfl
 | bl b=>cases (show u=Value.bool b from r);rfl
 | int i=>obtain ⟨t,e⟩:=(show ∃ t,u=Value.int i t from r);cases e;rfl
 | str x=>obtain ⟨t,e⟩:=(show ∃ t,u=Value.str x t from r);cases e;rfl
 | byt b=>obtain ⟨t,e⟩:=(show ∃ t,u=Value.bytes b t from r);cases e;rfl
 | flt b=>obtain ⟨t,e⟩:=(show ∃ t,u=Value.float b t from r);cases e;rfl
 | ref a=>cases (show u=Value.ref a from r);rfl
 | ty n=>cases (show u=Value.type n from r);rfl
section
variable {P:Program} {w:World} {H H':Hp} {h h':Heap} {a C dx:Addr} {fs fs':List (Str×V)}
theorem Ei (hok:HOk P w H h) (e:H a=some (.ins C dx fs)):∃ mA,ObjM h a dx C mA/\(∀ f,RelO (fs.lookup f) (mA f))/\PySem.Within mA (fs.map (·.1))/\fs.length<=1000/\H dx=some (.own a):=by
 obtain ⟨d,z,ne,ob,mA,n,r,q⟩:=(show ObjOk P w H h a (.ins C dx fs) from hok a _ e)
 exact ⟨mA,⟨ob,n,ne⟩,r,q,z,d⟩
end
structure Cls (K:W.Frag) (C:Addr):Prop where
 pg:PySem.W.plainGet K C Str.empty=true
 hd:PySem.W.hasDictIn K C=true
 po:PySem.W.plainOver K C=true
 sa:PySem.W.findIn K (.ref C) "__setattr__"=some (some (.builtin "object.__setattr__"))
theorem Cls.get {K:W.Frag} {C:Addr} (c:Cls K C) (f:Str):PySem.W.plainGet K C f=true:=c.pg
def jo (K:W.Frag) (C:Addr) (f:Str):Prop:=PySem.W.findIn K (.ref C) f=some none
section
variable {X:Cx} {pins:List (Addr×Obj)} {U:St} {H:Hp} {s:Shared} {a C dx:Addr} {fs:List (Str×V)} {f:Str} {v:V} {A:Around} {E:Value->Shared->Prop}
theorem Ej {prog:Program} {w:World} {env:Env} {e:Expr} {f:Str} {pos:Pos} {s:Shared} {Q:Value->Shared->Prop} (hb:attributeBase e f env (eval e env)=eval e env)
  (h:wpAny (model prog w) A (eval e env) (fun o s₁=>wpAny (model prog w) A (getAttr o f true) Q E s₁) E s):wpAny (model prog w) A (eval (.Attribute e f pos) env) Q E s:=
 Attribute_any_ h (by rw [arm_eval_Attribute,hb])
end
section
variable {X:Cx} {pins:List (Addr×Obj)} {U:St} {H:Hp} {s:Shared} {A:Around} {E:Value->Shared->Prop} {Q:Value->Shared->Prop} {c:Value} {b:Bool}
inductive TyOf (K:W.Frag) (H:Hp):V->Value->Prop where
 | non:TyOf K H .non (.type "NoneType")
 | bl (x:Bool):TyOf K H (.bl x) (.type "bool")
 | int (i:Int):TyOf K H (.int i) (.type "int")
 | str (x:Str):TyOf K H (.str x) (.type "str")
 | flt (x:UInt64):TyOf K H (.flt x) (.type "float")
 | lst {a:Addr} {xs:List V} (e:H a=some (.lst xs)):TyOf K H (.ref a) (.type "list")
 | frz {a:Addr} {o:Obj} {xs:List V} (e:H a=some (.frz o (.lst xs))):TyOf K H (.ref a) (.type "list")
 | tup {a:Addr} {xs:List V} (e:H a=some (.tup xs)):TyOf K H (.ref a) (.type "tuple")
 | dK {a:Addr} {kvs:List (Key×V)} (e:H a=some (.dK kvs)):TyOf K H (.ref a) (.type "dict")
 | dT {a:Addr} {kvs:List (List Key×V)} (e:H a=some (.dT kvs)):TyOf K H (.ref a) (.type "dict")
 | ins {a C dx:Addr} {fs:List (Str×V)} (e:H a=some (.ins C dx fs)) (cl:Cls K C) (ha:PySem.W.findIn K (.ref C) "__class__"=some (some (.builtin "object.__class__")))
   (hn:PySem.W.specialIn K (.builtin "object.__class__") "__get__"=some (some (.builtin "getset_descriptor.__get__"))) (htk:PySem.W.takesIn K (.builtin "object.__class__")=some true)
   (hm:PySem.W.mroIn K C (.type "object")=some true):TyOf K H (.ref a) (.ref C)
theorem yX {x:V} {u t:Value} (I:Inv X pins U H s) (rx:RelV x u) (ty:TyOf X.K H x t) (e:PySem.W.kitOne X.K t c=some b) (h:∀ tk,Q (.bool b) {s with toks:=tk}):
  wpAny (model X.prog X.w) A (call (.builtin "isinstance") [u,c]) Q E s:=by
 cases ty with
 | non=>cases (show u=Value.none from rx);exact PySem.W.kia_one PySem.W.kitx_none I.kIn True.intro e (fun z=>nomatch z) h
 | bl y=>cases (show u=Value.bool y from rx);exact PySem.W.kia_one PySem.W.kitx_bool I.kIn True.intro e (fun z=>nomatch z) h
 | int i=>obtain ⟨t,q⟩:=(show ∃ t,u=Value.int i t from rx);cases q;exact PySem.W.kia_one PySem.W.kitx_int I.kIn True.intro e (fun z=>nomatch z) h
 | str y=>obtain ⟨t,q⟩:=(show ∃ t,u=Value.str y t from rx);cases q;exact PySem.W.kia_one PySem.W.kitx_str I.kIn True.intro e (fun z=>nomatch z) h
 | flt y=>obtain ⟨t,q⟩:=(show ∃ t,u=Value.float y t from rx);cases q;exact PySem.W.kia_one PySem.W.kitx_float I.kIn True.intro e (fun z=>nomatch z) h
 | @lst a xs ea=>
  cases (show u=Value.ref a from rx)
  obtain ⟨_,_,n,_,h1⟩:=(show ObjOk X.prog X.w H s.heap a (.lst xs) from I.hok a _ ea)
  exact PySem.W.kia_one PySem.W.kitx_list I.kIn ⟨_,h1,rfl⟩ e (fun z=>nomatch z) h
 | @frz a ob xs ea=>
  cases (show u=Value.ref a from rx)
  obtain ⟨_,_,_,n,_,h1⟩:=(show ObjOk X.prog X.w H s.heap a (.frz ob (.lst xs)) from I.hok a _ ea)
  exact PySem.W.kia_one PySem.W.kitx_list I.kIn ⟨_,h1,rfl⟩ e (fun z=>nomatch z) h
 | @tup a xs ea=>
  cases (show u=Value.ref a from rx)
  obtain ⟨_,_,_,p⟩:=(show ObjOk X.prog X.w H s.heap a (.tup xs) from I.hok a _ ea)
  obtain ⟨o,h1,h2,_⟩:=p
  exact PySem.W.kia_one PySem.W.kitx_tuple I.kIn ⟨o,h1,h2⟩ e (fun z=>nomatch z) h
 | @dK a kvs ea=>
  cases (show u=Value.ref a from rx)
  obtain ⟨_,_,vs,_,p⟩:=(show ObjOk X.prog X.w H s.heap a (.dK kvs) from I.hok a _ ea)
  obtain ⟨o,es,ep,h1,h2,_⟩:=p
  exact PySem.W.kia_one PySem.W.kitx_dict I.kIn ⟨o,h1,h2.1⟩ e (fun z=>nomatch z) h
 | @dT a kvs ea=>
  cases (show u=Value.ref a from rx)
  obtain ⟨_,_,xs,_,o,es,ep,h1,h2,_⟩:=(show ObjOk X.prog X.w H s.heap a (.dT kvs) from I.hok a _ ea)
  exact PySem.W.kia_one PySem.W.kitx_dict I.kIn ⟨o,h1,h2.1⟩ e (fun z=>nomatch z) h
 | @ins a C dx fs ea cl ha hn htk hm=>
  cases (show u=Value.ref a from rx)
  obtain ⟨mA,O,_⟩:=Ei I.hok ea
  obtain ⟨od,J,_⟩:=O.look
  exact PySem.W.kia_one (PySem.W.kitx_own (cl.get _) cl.hd ha hn htk hm) I.kIn J e (fun z=>nomatch z) h
end
structure Room (k:Nat) (A:Around):Prop where
 hd:A.handled=none
 dp:A.depth+3*k+5 < recursionLimit
 un:A.units+16*k+200 < cLine
 gd:A.guards=some []
theorem Room.mono {j k:Nat} {A:Around} (r:Room k A) (h:j<=k):Room j A:=⟨r.hd,by have:=r.dp;omega,by have:=r.un;omega,r.gd⟩
theorem Room.deeper {k:Nat} {A:Around} (r:Room (k+1) A) (env:Env):Room k (A.deeper env):=
 ⟨r.hd,by have:=r.dp;show A.depth+1+3*k+5 < _;omega,by have:=r.un;show A.units+3+16*k+200 < _;omega,r.gd⟩
theorem wV {A:Around} {C:Addr} {us:List Value} {kw:List (Str×Value)}:(A.under (.builtin "type.__call__" ⟨.ref C :: us,kw⟩)).depth=A.depth+1:=by
 first | rfl | simp [Around.under,Code.weight,Code.isCreation,Code.isGuard,Code.isCaller,Code.frames,Code.isFrame,guardIds]
theorem wW {A:Around} {C:Addr} {us:List Value} {kw:List (Str×Value)}:(A.under (.builtin "type.__call__" ⟨.ref C :: us,kw⟩)).units=A.units+1:=by
 first | rfl | simp [Around.under,Code.cUnits,Code.frames,Code.isFrame]
theorem vC {A:Around} {C:Addr} {us:List Value} {kw:List (Str×Value)}:(A.under (.builtin "type.__call__" ⟨.ref C :: us,kw⟩)).guards=pushGuards [] A.guards:=by
 first | rfl | simp [Around.under,Code.guards,Code.isGuard,guardIds]
theorem Room.make {k:Nat} {A:Around} (r:Room (k+1) A) (C:Addr) (us:List Value) (kw:List (Str×Value)):Room k (A.under (.builtin "type.__call__" ⟨.ref C :: us,kw⟩)):=
 ⟨r.hd,by have:=r.dp;rw [wV];omega,by have:=r.un;rw [wW];omega,(vC.trans (by rw [r.gd];rfl))⟩
theorem Room.depth {k:Nat} {A:Around} (r:Room k A):A.depth < recursionLimit:=by have:=r.dp;omega
theorem Room.units {k:Nat} {A:Around} (r:Room k A):A.units+64 < cLine:=by have:=r.un;omega
theorem Room.units0 {k:Nat} {A:Around} (r:Room k A):A.units < cLine:=by have:=r.un;omega
def Js:TA:=fun _ H Q=>Q [] H
def xZ (ta:TE) (tr:TA):TA:=fun U H Q=>ta U H fun x H1=>tr U H1 fun xs H2=>Q (x :: xs) H2
section
variable {X:Cx} {e:Expr} {es:List Expr} {te:TE} {t:TA} {pos:Pos}
theorem Jt:PA X [] Js:=fun _ _ _ _ H Q I h=>Calls.spliced_nil ⟨[],H,I,.nil,h⟩
theorem Ek (ha:PE X e te) (hr:PA X es t) (hs:autoParam (starEach (e :: es) X.env=(false,eval e X.env) :: starEach es X.env) L2.auto4._auto_1):PA X (e :: es) (xZ te t):=by
 intro pos pins s U H Q I h
 rw [hs]
 show wpAny _ _ (spliced ((false,eval e X.env) :: backTo pos (starEach es X.env))) _ _ s
 refine Calls.spliced_cons (dB (ha pins s U H _ I h) fun u s1 qq0=>?_)
 obtain ⟨x,H1,I1,r1,q1⟩:=qq0
 exact dB (hr pos pins s1 U H1 _ I1 q1) fun us s2 ⟨xs,H2,I2,r2,q2⟩=>⟨x :: xs,H2,I2,.cons r1 r2,q2⟩
def Ju (t:TA):TE:=fun U H Q=>t U H fun xs H1=>xs.length<=sizeLine/\∀ p,H1 p=none->Q (.ref p) (upd H1 p (.tup xs))
def Jv (t:TA):TE:=fun U H Q=>t U H fun xs H1=>xs.length<=sizeLine/\∀ p,H1 p=none->Q (.ref p) (upd H1 p (.lst xs))
theorem Jw {x1} (h:PA X es t):PE X (.Tuple es x1 pos) (Ju t):=by
 intro pins s U H Q I hq
 refine wpAny_Tuple_spliced (dB (h pos pins s U H _ I hq) fun us s1 ⟨xs,H1,I1,r,z,q⟩=>⟨by rw [← r.length];exact z,?_⟩)
 have hf:H1 s1.heap.objs.size=none:=I1.hok.fresh (Nat.le_refl _)
 refine ⟨.ref s1.heap.objs.size,upd H1 s1.heap.objs.size (.tup xs),I1.laid (t':=s1.toks) (fun b u e=>Heap.get?_push_of_some _ e) (Nat.le_refl _) ?_,rfl,q _ hf⟩
 exact ⟨z,us,r,⟨_,Heap.get?_push_size _ rfl,rfl,_,rfl⟩⟩
theorem Jx (h:PA X es t):PE X (.List es pos) (Jv t):=by
 intro pins s U H Q I hq
 refine wpAny_List_spliced (dB (h pos pins s U H _ I hq) fun us s1 ⟨xs,H1,I1,r,z,q⟩=>⟨by rw [← r.length];exact z,?_⟩)
 have hf:H1 s1.heap.objs.size=none:=I1.hok.fresh (Nat.le_refl _)
 refine ⟨.ref s1.heap.objs.size,upd H1 s1.heap.objs.size (.lst xs),I1.laid (t':=s1.toks) (fun b u e=>Heap.get?_push_of_some _ e) (Nat.le_refl _) ?_,rfl,q _ hf⟩
 exact ⟨z,us,0,r,Heap.get?_push_size _ rfl⟩
end
abbrev Sp:=List V->Hp->VK->XK->Prop
abbrev zZ:=List Env->Hp->Shared->XK->Value->Shared->Prop
structure Env0 (P:Program) (w:World) (K:W.Frag) (mg:Str->Option Value) (base:Heap) (A:Around) (outer:List Env) (s:Shared) (H:Hp):Prop where
 frames:A.frames=some outer
 mod:Mod K mg base
 bs:∀ b o,base.get? b=some o->s.heap.get? b=some o/\H b=none
 bsz:base.objs.size<=s.heap.objs.size
 funs:s.heap.FunFrames base outer
 frf:∀ b∈frs outer,H b=none
 hok:HOk P w H s.heap
 bare:AllBare s.gens
def CE (outer:List Env) (P:Program) (w:World) (H:Hp) (s:Shared) (Q:VK) (u:Value) (s':Shared):Prop:=
 ∃ v H',s'.os=s.os/\AllBare s'.gens/\Un (frs outer) [] H H' s.heap s'.heap/\HOk P w H' s'.heap/\RelV v u/\Q v H'
def CR (CX:zZ) (outer:List Env) (P:Program) (w:World) (H:Hp) (s:Shared) (Q:VK) (E:XK) (r:Result) (s':Shared):Prop:=
 match r with
 | .ok (.ret u)=>CE outer P w H s Q u s'
 | .ok _=>False
 | .error e=>CX outer H s E e s'
structure oX (P:Program) (w:World) (K:W.Frag) (mg:Str->Option Value) (base:Heap) (CX:zZ) (k:Nat) (f:Addr) (fd:FuncData) (ps:List Str) (sp:Sp):Prop where
 len:∀ vs H Q E,sp vs H Q E->vs.length=ps.length
 run:∀ (A:Around) (outer:List Env) (s:Shared) (H:Hp) (args:Args) (us:List Value) (vs:List V) (Q:VK) (E:XK),Room k A->Env0 P w K mg base A outer s H->BindsTo s fd args (ps.zip us)->Vals vs us->sp vs H Q E->
  codeAny (model P w) A (.call (.ref f) args) (CR CX outer P w H s Q E) s
theorem Env0.make {P:Program} {w:World} {K:W.Frag} {mg:Str->Option Value} {base:Heap} {A:Around} {outer:List Env} {s:Shared} {H:Hp} (e:Env0 P w K mg base A outer s H) (C:Addr) (us:List Value) (kw:List (Str×Value)):
  Env0 P w K mg base (A.under (.builtin "type.__call__" ⟨.ref C :: us,kw⟩)) outer s H:=⟨by first | exact e.frames | (simpa [Around.under,Code.envs,Code.isFrame,pushEnvs] using e.frames),e.mod,e.bs,e.bsz,e.funs,e.frf,e.hok,e.bare⟩
section
variable {X:Cx} {pins:List (Addr×Obj)} {U:St} {H:Hp} {s s':Shared}
theorem Inv.env0 (I:Inv X pins U H s):Env0 X.prog X.w X.K X.mg X.base X.A X.stack s H:=
 ⟨I.ok.frames,I.ok.mod,I.bs,Nat.le_trans I.ok.bsz I.sz,I.stack,I.stkFree,I.hok,I.bare⟩
theorem Inv.after {Q:VK} {u:Value} (I:Inv X pins U H s) (h:CE X.stack X.prog X.w H s Q u s'):EP X pins U Q u s':=by
 obtain ⟨v,H',os,bare,un,hok,r,q⟩:=h
 obtain ⟨hh,g,d,t,os'⟩:=s'
 obtain rfl:os'=s.os:=os
 exact ⟨v,H',I.call (h':=hh) (g':=g) (d':=d) (t':=t) (ch:=[]) un hok bare (fun b z=>absurd z (by simp)),r,q⟩
end
def tU (sp:Sp) (dvs:List V) (E:XK) (t:TA):TE:=fun U H Q=>t U H fun vs H1=>sp (vs ++ dvs) H1 Q E
def Binds (K:W.Frag) (fd:FuncData) (ps:List Str) (ds:List Value):Prop:=
 ∀ (s:Shared) (us:List Value),K.In s.heap->(us ++ ds).length=ps.length->BindsTo s fd ⟨us,[]⟩ (ps.zip (us ++ ds))
theorem Binds.all {K:W.Frag} {fd:FuncData} {ps:List Str} (h:∀ us:List Value,us.length=ps.length->bindArgs fd ⟨us,[]⟩=pure (ps.zip us)):Binds K fd ps []:=fun s us _ hl=>by
 rw [List.append_nil] at hl ⊢
 exact .of_eq (h us hl)
def wX (CX:zZ) (X:Cx) (E:XK):Prop:=∀ (pins:List (Addr×Obj)) (U:St) (H:Hp) (s:Shared) (e:Value) (s':Shared),Inv X pins U H s->CX X.stack H s E e s'->X.xe e s'
section
variable {X:Cx} {CX:zZ} {k:Nat} {f C:Addr} {fd:FuncData} {ps:List Str} {sp:Sp} {dvs:List V} {ds:List Value} {E:XK} {x m:Str} {p pos apos:Pos} {e o:Expr} {es:List Expr} {ta:TE} {t:TA}
theorem Jy {pins:List (Addr×Obj)} {U:St} {H:Hp} {s:Shared} {Q:VK} {us:List Value} {vs:List V} (F:oX X.prog X.w X.K X.mg X.base CX k f fd ps sp) (hr:Room k X.A) (hb:Binds X.K fd ps ds) (hd:Vals dvs ds) (hx:wX CX X E)
  (I:Inv X pins U H s) (r:Vals vs us) (h:sp (vs ++ dvs) H Q E):wpAny (model X.prog X.w) X.A (call (.ref f) us) (EP X pins U Q) X.xe s:=by
 have r2:Vals (vs ++ dvs) (us ++ ds):=r.append hd
 have hl:(us ++ ds).length=ps.length:=by rw [← r2.length];exact F.len _ _ _ _ h
 refine wpAny_call (codeAny_mono (F.run X.A X.stack s H ⟨us,[]⟩ (us ++ ds) (vs ++ dvs) Q E hr I.env0 (hb s us I.kIn hl) r2 h) fun r s' hq=>?_)
 cases r with
 | error e=>exact hx pins U H s e s' I hq
 | ok fl=>
  cases fl with
  | ret u=>exact I.after hq
  | next=>exact False.elim hq
  | brk=>exact False.elim hq
  | cont=>exact False.elim hq
theorem El (F:oX X.prog X.w X.K X.mg X.base CX k f fd ps sp) (hr:Room k X.A) (hg:Gl X x) (hm:X.mg x=some (.ref f)) (hk:PySem.W.keepIn X.K (.ref f)=true) (hb:Binds X.K fd ps ds) (hd:Vals dvs ds) (hx:wX CX X E)
  (ha:PA X (e :: es) t) (hdb:autoParam ((x == ("__debug__":Str))=false) L2.auto2._auto_1) (he:autoParam (starEach (e :: es) X.env=(false,eval e X.env) :: starEach es X.env) L2.auto4._auto_1) (hpl:autoParam ((backTo pos (starEach es X.env)).any (·.1)=false) L2.auto4._auto_1):
  PE X (.Call (.Name x p) (e :: es) [] pos) (tU sp dvs E t):=by
 intro pins s U H Q I h
 refine wpAny_Call_Name_kw (mY I hg hm ?_ hdb)
 refine PySem.W.callWith_K (h₀:=X.base) I.ok.mod.kin hk (dB (ha pos pins s U H _ I h) fun us s1 ⟨vs,H1,I1,r,q⟩=>⟨I1.kIn,?_⟩) he hpl
 exact Jy F hr hb hd hx I1 r q
end
structure aK (N P:List Str) (sc:Scope):Prop where
 kind:sc.kind= .function
 co:sc.isCoroutine=false
 gen:sc.isGenerator=false
 nd:N.Nodup
 pre:N.take P.length=P
 par:∀ x∈P,sc.names.lookup x=some .local\/sc.names.lookup x=some .cell
 nofree:∀ y∈sc.names,y.2≠.free
theorem tV {kindOf:Str->Option NameKind} {x:Str}:∀ {binds:List (Str×Value)} {m:Str->Option Value},(∀ v,(x,v) ∉ binds)->bindL kindOf binds m x=m x
 | [],_,_=>rfl
 | (n,v) :: r,m,h=>by
  unfold bindL
  rw [tV fun w hw=>h w (List.mem_cons_of_mem _ hw)]
  split
  ·have:x≠n:=by rintro rfl;exact h v List.mem_cons_self
   simp [this]
  ·rfl
theorem tW {kindOf:Str->Option NameKind} {x:Str}:∀ {binds:List (Str×Value)} {m:Str->Option Value},(∀ v,(x,v) ∉ binds)->bindC kindOf binds m x=m x
 | [],_,_=>rfl
 | (n,v) :: r,m,h=>by
  unfold bindC
  rw [tW fun w hw=>h w (List.mem_cons_of_mem _ hw)]
  split
  ·rfl
  ·have:x≠n:=by rintro rfl;exact h v List.mem_cons_self
   simp [this]
theorem tX {kindOf:Str->Option NameKind} {x:Str} {v:Value}:∀ {P:List Str} {vs:List Value} {i:Nat} {m:Str->Option Value},P.Nodup->P[i]?=some x->vs[i]?=some v->kindOf x=some .local->
  bindL kindOf (P.zip vs) m x=some v
 | [],_,_,_,_,h,_,_=>by simp at h
 | _ :: _,[],_,_,_,_,h,_=>by simp at h
 | p :: P,w :: vs,0,m,nd,h1,h2,hk=>by
  simp at h1 h2;subst h1;subst h2
  show bindL kindOf ((p,w) :: P.zip vs) m p=_
  unfold bindL
  rw [tV fun v hv=>(List.nodup_cons.mp nd).1 (List.of_mem_zip hv).1,if_pos hk]
  simp
 | p :: P,w :: vs,i+1,m,nd,h1,h2,hk=>by
  show bindL kindOf ((p,w) :: P.zip vs) m x=_
  unfold bindL
  exact tX (i:=i) (List.nodup_cons.mp nd).2 (by simpa using h1) (by simpa using h2) hk
theorem tY {kindOf:Str->Option NameKind} {x:Str} {v:Value}:∀ {P:List Str} {vs:List Value} {i:Nat} {m:Str->Option Value},P.Nodup->P[i]?=some x->vs[i]?=some v->kindOf x≠some .local->
  bindC kindOf (P.zip vs) m x=some v
 | [],_,_,_,_,h,_,_=>by simp at h
 | _ :: _,[],_,_,_,_,h,_=>by simp at h
 | p :: P,w :: vs,0,m,nd,h1,h2,hk=>by
  simp at h1 h2;subst h1;subst h2
  show bindC kindOf ((p,w) :: P.zip vs) m p=_
  unfold bindC
  rw [tW fun v hv=>(List.nodup_cons.mp nd).1 (List.of_mem_zip hv).1,if_neg hk]
  simp
 | p :: P,w :: vs,i+1,m,nd,h1,h2,hk=>by
  show bindC kindOf ((p,w) :: P.zip vs) m x=_
  unfold bindC
  exact tY (i:=i) (List.nodup_cons.mp nd).2 (by simpa using h1) (by simpa using h2) hk
def start (N:List Str) (vs:List V):St:=vs.map some ++ List.replicate (N.length - vs.length) none
def m5 (CX:zZ) (P:Program) (w:World) (K:W.Frag) (mg:Str->Option Value) (base:Heap) (N:List Str) (qual:Str) (scope:Scope) (f:Addr) (cd:Value) (A:Around) (outer:List Env) (s:Shared) (H:Hp) (E:XK):Cx where
 prog:=P
 w:=w
 K:=K
 mg:=mg
 base:=base
 A:=A.deeper (envOfC qual scope s.heap.objs.size f cd)
 N:=N
 s₀:=s
 H₀:=H
 env:=envOfC qual scope s.heap.objs.size f cd
 outer:=outer
 stack:=envOfC qual scope s.heap.objs.size f cd :: outer
 ex:=[]
 calm:=true
 fn:=fun _=>true
 pn:=[]
 xe:=fun e s'=>wpAny (model P w) (A.deeper (envOfC qual scope s.heap.objs.size f cd)) (leaving (envOfC qual scope s.heap.objs.size f cd) e) (fun _ s''=>CX outer H s E e s'') (fun e' s''=>CX outer H s E e' s'') s'
theorem vD {sc:Scope} {n:Nat} {x:Str} (h:sc.names.lookup x=some .cell):∃ c,(cellsFrom n sc.names []).lookup x=some c:=by
 have q:=PySem.W.cellsFrom_some sc.names n [] (.inl h)
 exact Option.isSome_iff_exists.mp q
theorem yZ {CX:zZ} {P:Program} {w:World} {K:W.Frag} {mg:Str->Option Value} {base:Heap} {N ps:List Str} {qual:Str} {scope:Scope} {f:Addr} {cd:Value} {A:Around} {outer:List Env} {s s1:Shared} {H:Hp} {E:XK} {us:List Value} {vs:List V}
  (S:aK N ps scope) (hd:A.handled=none) (e0:Env0 P w K mg base A outer s H) (hl:vs.length=ps.length) (r:Vals vs us)
  (x:InCallC s s.heap.objs.size (bindL (envOfC qual scope s.heap.objs.size f cd).kindOf (ps.zip us) fun _=>none) (cellsFrom (s.heap.objs.size+1) scope.names []) (bindC (envOfC qual scope s.heap.objs.size f cd).kindOf (ps.zip us) fun _=>none) s1):
  Inv (m5 CX P w K mg base N qual scope f cd A outer s H E) [] (start N vs) H s1:=by
 have hpl:ps.length<=N.length:=by have:=congrArg List.length S.pre;rw [List.length_take] at this;omega
 obtain ⟨h1,tk,rfl,hk⟩:=x.done
 have noA:∀ b:Addr,b ∉ (m5 CX P w K mg base N qual scope f cd A outer s H E).ex:=fun b z=>absurd (show b∈([]:List Addr) from z) (by simp)
 refine ⟨⟨e0.mod,S.kind,rfl,rfl,Nat.le_refl _,fun y z c h1 h2=>?_,fun y hy=>?_,fun y c _ h=>?_,fun _=>hd,Around.frames_deeper e0.frames,.inr ⟨rfl,rfl⟩,fun b z=>absurd z (noA b),e0.bs,e0.bsz,fun b _ _=>noA b,fun b z=>absurd z (noA b),e0.funs,e0.frf⟩,
  rfl,e0.bare,Un.kept hk,⟨_,x.toInCall.ns,fun i y v h1 h2 h3=>?_⟩,fun y c h=>⟨_,x.cell y c h⟩,e0.hok.fresh (Nat.le_refl _),fun y c h=>?_,fun p hp=>absurd (show p∈([]:List (Addr×Obj)) from hp) (by simp),e0.hok.kept hk,?_⟩
 ·exact name_of_addr x.apart (PySem.mem_of_lookup h1) (PySem.mem_of_lookup h2)
 ·have hy:scope.names.lookup y=some .cell\/scope.names.lookup y=some .free:=hy
  rcases hy with hy | hy
  ·exact vD hy
  ·exact absurd rfl (S.nofree _ (PySem.mem_of_lookup hy))
 ·exact Nat.le_of_lt (x.above y c (PySem.mem_of_lookup h))
 ·have hi:i < vs.length:=by
   unfold start at h2
   by_cases hi:i < vs.length
   ·exact hi
   ·rw [List.getElem?_append_right (by simpa using hi)] at h2
    rw [List.getElem?_replicate] at h2
    split at h2 <;> cases h2
  have ha:vs[i]?=some v:=by
   unfold start at h2
   rw [List.getElem?_append_left (by simpa using hi),List.getElem?_map] at h2
   cases e:vs[i]? with
   | none=>rw [e] at h2;cases h2
   | some a=>rw [e] at h2;cases h2;rfl
  obtain ⟨u,hu,rv⟩:=r.get ha
  have hp:ps[i]?=some y:=by
   rw [← S.pre,List.getElem?_take_of_lt (by omega)];exact h1
  have ndP:ps.Nodup:=by rw [← S.pre];exact S.nd.sublist (List.take_sublist _ _)
  refine ⟨u,rv,?_⟩
  rcases S.par y (List.mem_of_getElem? hp) with k | k
  ·exact .inl ⟨k,tX ndP hp hu k⟩
  ·obtain ⟨c,e⟩:=vD (n:=s.heap.objs.size+1) k
   refine .inr ⟨.inl k,c,e,?_⟩
   have q:=x.cell y c e
   rw [tY ndP hp hu (by show scope.names.lookup y≠_;rw [k];decide)] at q
   exact q
 ·exact e0.hok.fresh (Nat.le_of_lt (x.above y c (PySem.mem_of_lookup h)))
 ·unfold start
  show _=N.length
  rw [List.length_append,List.length_map,List.length_replicate]
  omega
theorem Hx {CX:zZ} {P:Program} {w:World} {K:W.Frag} {mg:Str->Option Value} {base:Heap} {k:Nat} {f:Addr} {name qual:Str} {params:Arguments} {body:List Stmt} {scope:Scope} {dV kV doc pm cdv ct oc:Value} {an od:Option Addr}
  {osl:Array (Option Value)} {N ps:List Str} {sp:Sp} (lk:K.lookup f=some ⟨oc,od,.func (PySem.W.fnOf name qual params body scope dV kV doc pm an cdv ct),osl⟩) (hcd:PySem.W.codeIn K cdv qual=true) (S:aK N ps scope)
  (len:∀ vs H Q E,sp vs H Q E->vs.length=ps.length)
  (hbody:∀ (A:Around) (outer:List Env) (s:Shared) (H:Hp) (vs:List V) (Q:VK) (E:XK),Room k (A.deeper (envOfC qual scope s.heap.objs.size f cdv))->sp vs H Q E->
   ∃ t,PSs (m5 CX P w K mg base N qual scope f cdv A outer s H E) body t/\t {nx:=fun _ H'=>Q .non H',rt:=Q} (start N vs) H):
  oX P w K mg base CX (k+1) f (PySem.W.fnOf name qual params body scope dV kV doc pm an cdv ct) ps sp:=by
 refine ⟨len,fun A outer s H args us vs Q E hr e0 hb r hsp=>?_⟩
 have hl:=len _ _ _ _ hsp
 have KX:K.In s.heap:=e0.mod.kin.keeps fun b o e=>(e0.bs b o e).1
 have lim:s.heap.NoLimit:=e0.mod.nolimit.keeps fun b o e=>(e0.bs b o e).1
 have hkind:∀ y∈ps.zip us,scope.names.lookup y.1=some .local\/(scope.names.lookup y.1=some .cell/\((cellsFrom (s.heap.objs.size+1) scope.names []).lookup y.1).isSome=true):=fun ⟨n,v⟩ hy=>by
  rcases S.par n (List.of_mem_zip hy).1 with q | q
  ·exact .inl q
  ·exact .inr ⟨q,PySem.W.cellsFrom_some _ _ _ (.inl q)⟩
 refine codeAny_call_function hr.depth (KX _ _ lk) rfl S.co S.gen rfl (PySem.W.codeRec_of KX hcd) (hb _ _ _ _ ?_)
 refine wpAny_newFunctionEnv_cells S.kind hkind fun env he s1 x=>?_
 subst he
 refine ⟨lim.keeps x.toInCall.keep,codeAny_func ?_⟩
 obtain ⟨t,ht,hq⟩:=hbody A outer s H vs Q E (hr.deeper _) hsp
 have I:Inv (m5 CX P w K mg base N qual scope f cdv A outer s H E) [] (start N vs) H s1:=yZ S hr.hd e0 hl r x
 refine wpAny_mono (ht [] s1 (start N vs) H _ I hq) (fun fl s' hs=>?_) fun e s' hs=>hs
 have fin:∀ {U':St} {H':Hp} {v:V} {u:Value},Inv (m5 CX P w K mg base N qual scope f cdv A outer s H E) [] U' H' s'->RelV v u->Q v H'->CE outer P w H s Q u s':=
  fun {U' H' v u} J rv q=>⟨v,H',J.os,J.bare,J.base,J.hok,rv,q⟩
 cases fl with
 | ret u=>
  obtain ⟨v,U',H',J,rv,q⟩:=hs
  exact fin J rv q
 | next=>
  obtain ⟨U',H',J,q⟩:=hs
  exact fin (v:=V.non) (u:=Value.none) J rfl q
 | brk=>
  obtain ⟨_,_,_,q⟩:=hs
  exact False.elim q
 | cont=>
  obtain ⟨_,_,_,q⟩:=hs
  exact False.elim q
section
variable {X:Cx} {x:Str} {p pos:Pos} {e:Expr} {es:List Expr} {t:TA} {id T:String} {r:List V->Hp->VK->Prop}
def Jz (r:List V->Hp->VK->Prop) (t:TA):TE:=fun U H Q=>t U H fun vs H1=>r vs H1 Q
theorem Aq (hc:CallR X (.builtin id) r) (hg:Gl X x) (hm:X.mg x=none) (hv:bootBuiltins x=some (.builtin id)) (ha:PA X (e :: es) t) (hn:autoParam (x≠"__name__") L2.auto2._auto_1) (hdb:autoParam ((x == ("__debug__":Str))=false) L2.auto2._auto_1)
  (he:autoParam (starEach (e :: es) X.env=(false,eval e X.env) :: starEach es X.env) L2.auto4._auto_1) (hpl:autoParam ((backTo pos (starEach es X.env)).any (·.1)=false) L2.auto4._auto_1):PE X (.Call (.Name x p) (e :: es) [] pos) (Jz r t):=by
 intro pins s U H Q I h
 refine wpAny_Call_Name_kw (uA I hg hm hv ?_ hn hdb)
 exact PyProof.Rows.callWith_builtin1 (dB (ha pos pins s U H _ I h) fun us s1 ⟨vs,H1,I1,r1,q1⟩=>hc pins s1 U H1 vs us Q I1 r1 q1) he hpl
theorem za (hc:CallR X (.type T) r) (hg:Gl X x) (hm:X.mg x=none) (hv:bootBuiltins x=some (.type T)) (ha:PA X (e :: es) t) (hn:autoParam (x≠"__name__") L2.auto2._auto_1) (hdb:autoParam ((x == ("__debug__":Str))=false) L2.auto2._auto_1)
  (he:autoParam (starEach (e :: es) X.env=(false,eval e X.env) :: starEach es X.env) L2.auto4._auto_1) (hpl:autoParam ((backTo pos (starEach es X.env)).any (·.1)=false) L2.auto4._auto_1):PE X (.Call (.Name x p) (e :: es) [] pos) (Jz r t):=by
 intro pins s U H Q I h
 refine wpAny_Call_Name_kw (uA I hg hm hv ?_ hn hdb)
 exact PyProof.Rows.callWith_type1 (dB (ha pos pins s U H _ I h) fun us s1 ⟨vs,H1,I1,r1,q1⟩=>hc pins s1 U H1 vs us Q I1 r1 q1) he hpl
end
end L2
namespace HT
open PySem PyProof.Rows
section
open PySem.SeqAt
open PySem.AutoSeq1 (wpAny_loadPart')
open PySem.MeetsSeq PySem.MeetsSeq2 PySem.MeetsSeq3
end
section
variable {prog:Program} {w:World} {A:Around} {E:Value->Shared->Prop} {s:Shared}
def sIx (n d:Nat):Option Int->Nat
 | none=>d
 | some v=>if v < 0 then (v+(n:Int)).toNat else min v.toNat n
theorem sIx_none (n d:Nat):sIx n d none=d:=rfl
theorem sIx_nat (n d k:Nat):sIx n d (some (k:Int))=min k n:=by
 show (if (k:Int) < 0 then ((k:Int)+(n:Int)).toNat else min (k:Int).toNat n)=min k n
 rw [if_neg (by omega),Int.toNat_natCast]
theorem sIx_le (n d:Nat) (hd:d<=n) (o:Option Int):sIx n d o<=n:=by
 cases o with
 | none=>exact hd
 | some v=>
  show (if v < 0 then (v+(n:Int)).toNat else min v.toNat n)<=n
  by_cases hv:v < 0
  ·rw [if_pos hv];omega
  ·rw [if_neg hv];exact Nat.min_le_right _ _
theorem clip_eq (v:Int) (n d:Nat):(if v < 0 then max (v+(n:Int)) 0 else min v (n:Int))=((sIx n d (some v):Nat):Int):=by
 show (if v < 0 then max (v+(n:Int)) 0 else min v (n:Int))=(((if v < 0 then (v+(n:Int)).toNat else min v.toNat n):Nat):Int)
 by_cases hv:v < 0
 ·simp only [if_pos hv];omega
 ·simp only [if_neg hv];omega
theorem wY (lo hi:Option Int) (n:Nat):Builtin.Slice.sliceAdjust lo hi 1 (n:Int)=(((sIx n 0 lo:Nat):Int),((sIx n n hi:Nat):Int)):=by
 have h1:¬ ((1:Int) < 0):=by omega
 unfold Builtin.Slice.sliceAdjust
 simp only [h1,if_false]
 refine Prod.ext ?_ ?_
 ·cases lo with
  | none=>rfl
  | some v=>exact clip_eq v n 0
 ·cases hi with
  | none=>rfl
  | some v=>exact clip_eq v n n
theorem wZ (i j:Nat):Builtin.Slice.slicePlaces (i:Int) (j:Int) 1=j - i:=by
 unfold Builtin.Slice.slicePlaces
 have h1:(1:Int) > 0:=by omega
 simp only [h1,if_true,Int.ediv_one]
 split <;> omega
theorem qR {v:Value} {o:Option Int} {Q:Option Int->Shared->Prop} (p:IsPart v o) (h:Q o s):wpAny (model prog w) A (Builtin.Slice.slicePartIndex v) Q E s:=by
 cases p with
 | none=>exact slicePart_none h
 | int i t=>exact slicePart_int h
theorem jA {sl:Addr} {vl vu:Value} {lo hi:Option Int} {n:Nat} {Q:Int×Int×Nat->Shared->Prop} (hs:s.heap.IsSliceOf sl vl vu .none) (pl:IsPart vl lo) (pu:IsPart vu hi)
  (h:Q (((sIx n 0 lo:Nat):Int),1,sIx n n hi - sIx n 0 lo) s):wpAny (model prog w) A (Builtin.Slice.sliceApplied (.ref sl) (pure (n:Int))) Q E s:=by
 obtain ⟨os,hos,hcs,hds⟩:=id hs
 unfold Builtin.Slice.sliceApplied Builtin.Slice.sliceFields
 refine wpAny_bind (wpAny_bind (wpAny_field hos hds (x:=vl) rfl (wpAny_bind (wpAny_field hos hds (x:=vu) rfl (wpAny_bind (wpAny_field hos hds (x:=.none) rfl (wpAny_pure ?_)))))))
 refine wpAny_bind (slicePart_none ?_)
 show wpAny _ _ (if ((1:Int) == 0)=true then _ else _) _ _ s
 rw [if_neg (by decide)]
 refine wpAny_bind (qR pl (wpAny_bind (qR pu (wpAny_bind (wpAny_pure ?_)))))
 show wpAny _ _ (match Builtin.Slice.sliceAdjust lo hi 1 (n:Int) with | (lo,hi)=>pure (lo,(1:Int),Builtin.Slice.slicePlaces lo hi 1)) _ _ s
 rw [wY lo hi n]
 show wpAny _ _ (pure (((sIx n 0 lo:Nat):Int),(1:Int),Builtin.Slice.slicePlaces ((sIx n 0 lo:Nat):Int) ((sIx n n hi:Nat):Int) 1)) _ _ s
 rw [wZ]
 exact wpAny_pure h
theorem Ar (xs:Array Value) (i k:Nat):((List.range k).filterMap fun (m:Nat)=>xs[((i:Int)+(m:Int)*1).toNat]?).toArray=((xs.toList.drop i).take k).toArray:=by
 have e:(fun (m:Nat)=>xs[((i:Int)+(m:Int)*1).toNat]?)=fun m=>xs[i+m]?:=by
  funext m
  have:((i:Int)+(m:Int)*1).toNat=i+m:=by omega
  rw [this]
 rw [e]
 have:=pick_run xs i k
 rw [List.filterMap_map] at this
 have e2:((fun x=>xs[x]?) ∘ fun x=>i+x)=fun m=>xs[i+m]?:=rfl
 rw [e2] at this
 rw [this]
theorem getItem_tuple_cut {t sl:Addr} {items:Array Value} {vl vu:Value} {lo hi:Option Int} {Q:Value->Shared->Prop} (ht:IsTup s.heap t items) (hs:s.heap.IsSliceOf sl vl vu .none) (pl:IsPart vl lo) (pu:IsPart vu hi)
  (hw:¬ (sIx items.size 0 lo=0/\sIx items.size items.size hi=items.size))
  (h:Q (.ref s.heap.objs.size) {s with heap:=s.heap.push {cls:=.type "tuple",data:=.seq ((items.toList.drop (sIx items.size 0 lo)).take (sIx items.size items.size hi - sIx items.size 0 lo)).toArray}})
  (hsz:items.size<=sizeLine):wpAny (model prog w) A (getItem (.ref t) (.ref sl)) Q E s:=by
 have htake:sizeOk (.seq ((items.toList.drop (sIx items.size 0 lo)).take (sIx items.size items.size hi - sIx items.size 0 lo)).toArray):=by
  show ((items.toList.drop (sIx items.size 0 lo)).take (sIx items.size items.size hi - sIx items.size 0 lo)).toArray.size<=sizeLine
  rw [List.size_toArray,List.length_take,List.length_drop,Array.length_toList]
  omega
 have hj:sIx items.size items.size hi<=items.size:=sIx_le _ _ (Nat.le_refl _) hi
 obtain ⟨os,hos,hcs,hds⟩:=id hs
 have hTs:s.TypeIs (.ref sl) "slice":=⟨os,hos,hcs⟩
 unfold getItem
 try with_reducible refine wpAny_holding ?_
 first | refine wpAny_bind (wpAny_pure ?_) | skip
 refine wpAny_bind (wpAny_sequenceKey ht.typeIs (by decide) ?_)
 refine wpAny_bind (wpAny_callSpecial?_slot (name:=Str.ofString "__getitem__") ht.typeIs PyProof.Rows.slot_tuple_getitem
  (wpAny_call_entry PyProof.Rows.slot_tuple_getitem ht.typeIs entry_tuple_getitem ?_ (args_tuple_getitem _ _)))
 show wpAny _ _ (Builtin.Tuple.tupleItemsOf (.ref t) >>=_) _ _ s
 refine wpAny_bind (tupleItemsOf_ ht ?_)
 refine wpAny_bind (wpAny_typeOf hTs ?_)
 rw [if_pos (by decide)]
 refine wpAny_bind (jA hs pl pu ?_)
 have hno:¬ ((((sIx items.size 0 lo:Nat):Int) == 0 && (1:Int) == 1 && (sIx items.size items.size hi - sIx items.size 0 lo) == items.size)=true):=by
  intro q
  rw [Bool.and_eq_true,Bool.and_eq_true] at q
  have q1:((sIx items.size 0 lo:Nat):Int)=0:=eq_of_beq q.1.1
  have q2:sIx items.size items.size hi - sIx items.size 0 lo=items.size:=eq_of_beq q.2
  exact hw ⟨by omega,by omega⟩
 show wpAny _ _ (if (((sIx items.size 0 lo:Nat):Int) == 0 && (1:Int) == 1 && (sIx items.size items.size hi - sIx items.size 0 lo) == items.size)=true then _ else _) _ _ s
 rw [if_neg hno,Ar]
 first
  | exact wpAny_bind (m:=Builtin.Tuple.tupleExact _) (wpAny_newObj_type (wpAny_pure ⟨_,rfl,wpAny_pure h⟩) htake)
  | exact wpAny_bind (m:=Builtin.Tuple.tupleExact _) (wpAny_newObj_type (wpAny_bind (wpAny_pure (wpAny_pure ⟨_,rfl,wpAny_pure h⟩))) htake)
  | exact wpAny_bind (wpAny_bind (m:=Builtin.Tuple.tupleExact _) (wpAny_newObj_type (wpAny_pure (wpAny_pure ⟨_,rfl,wpAny_pure h⟩)) htake))
  | exact wpAny_bind (wpAny_bind (m:=Builtin.Tuple.tupleExact _) (wpAny_newObj_type (wpAny_pure ⟨_,rfl,wpAny_pure h⟩) htake))
end
end HT
namespace L2
open PySem PySem.Spec PyProof.Rows
abbrev TO:=St->Hp->(Option Int->Hp->Prop)->Prop
def PO (X:Cx) (e:Option Expr) (t:TO):Prop:=
 ∀ (pins:List (Addr×Obj)) (s:Shared) (U:St) (H:Hp) (Q:Option Int->Hp->Prop),Inv X pins U H s->t U H Q->
  wpAny (model X.prog X.w) X.A (evalPart e X.env) (fun u s'=>∃ o H',Inv X pins U H' s'/\IsPart u o/\Q o H') X.xe s
def uC:TO:=fun _ H Q=>Q none H
def Av (t:TE):TO:=fun U H Q=>t U H fun x H1=>∃ i,x= .int i/\Q (some i) H1
theorem intsAre_of {ns:List Int}:∀ {us:List Value},Vals (ns.map V.int) us->IntsAre us ns:=by
 induction ns with
 | nil=>intro us r;rw [List.map_nil] at r;cases r;exact .nil
 | cons n ns ih=>
  intro us r
  rw [List.map_cons] at r
  cases r with
  | cons r1 r2=>
   obtain ⟨t,e⟩:=r1
   subst e
   exact .cons n t (ih r2)
section
variable {X:Cx} {e:Expr} {te:TE} {lo hi:Option Expr} {tl th:TO} {pos p2:Pos}
theorem Em:PO X none uC:=by
 intro pins s U H Q I h
 rw [evalPart_none]
 exact wpAny_pure ⟨none,H,I,.none,h⟩
theorem En (h:PE X e te):PO X (some e) (Av te):=by
 intro pins s U H Q I hw
 rw [evalPart_some]
 refine dB (h pins s U H _ I hw) fun u s1 qq0=>?_
 obtain ⟨x,H1,I1,r1,q1⟩:=qq0
 obtain ⟨i,rfl,q⟩:=q1
 obtain ⟨t,rfl⟩:=r1
 exact ⟨some i,H1,I1,.int i t,q⟩
def SlR (X:Cx) (r:V->Option Int->Option Int->Hp->VK->Prop):Prop:=
 ∀ (pins:List (Addr×Obj)) (s:Shared) (U:St) (H:Hp) (x:V) (v vl vu:Value) (lo hi:Option Int) (sl:Addr) (Q:VK),Inv X pins U H s->RelV x v->s.heap.IsSliceOf sl vl vu .none->IsPart vl lo->IsPart vu hi->r x lo hi H Q->
  ∃ T id,typeLookup (.type T) "__getitem__"=pure (some (.builtin id))/\s.TypeIs v T/\wpAny (model X.prog X.w) X.A (getItem v (.ref sl)) (EP X pins U Q) X.xe s
theorem SlR.or {r r':V->Option Int->Option Int->Hp->VK->Prop} (h:SlR X r) (h':SlR X r'):SlR X (fun x lo hi H Q=>r x lo hi H Q\/r' x lo hi H Q):=by
 intro pins s U H x v vl vu lo hi sl Q I rx hs pl pu q
 rcases q with q | q
 ·exact h pins s U H x v vl vu lo hi sl Q I rx hs pl pu q
 ·exact h' pins s U H x v vl vu lo hi sl Q I rx hs pl pu q
def tSl (r:V->Option Int->Option Int->Hp->VK->Prop) (te:TE) (tl th:TO):TE:=fun U H Q=>te U H fun x H1=>tl U H1 fun l H2=>th U H2 fun u H3=>r x l u H3 Q
theorem Aw {r:V->Option Int->Option Int->Hp->VK->Prop} (hr:SlR X r) (he:PE X e te) (hl:PO X lo tl) (hu:PO X hi th):PE X (.Subscript e (.Slice lo hi none p2) pos) (tSl r te tl th):=by
 intro pins s U H Q I h
 refine Subscript_ (dB (he pins s U H _ I h) fun v s1 qq0=>?_)
 obtain ⟨x,H1,I1,r1,q1⟩:=qq0
 refine wpAny_Slice (dB (hl pins s1 U H1 _ I1 q1) fun vl s2 ⟨l,H2,I2,pl,q2⟩=>dB (hu pins s2 U H2 _ I2 q2) fun vu s3 qq0=>?_)
 obtain ⟨u,H3,I3,pu,q3⟩:=qq0
 rw [evalPart_none]
 refine wpAny_pure ?_
 have I4:Inv X pins U H3 {s3 with heap:=s3.heap.push {cls:=.type "slice",data:=.fields #[vl,vu,.none]}}:=I3.kept (t':=s3.toks) fun b ob q=>Heap.get?_push_of_some _ q
 obtain ⟨T,id,hT,ht,hg⟩:=hr pins {s3 with heap:=s3.heap.push {cls:=.type "slice",data:=.fields #[vl,vu,.none]}} U H3 x v vl vu l u s3.heap.objs.size Q I4 r1 (Heap.IsSliceOf.new ..) pl pu q3
 show wpAny (model X.prog X.w) X.A (subscriptTail e (.Slice lo hi none p2) v (.ref s3.heap.objs.size)) (EP X pins U Q) X.xe {s3 with heap:=s3.heap.push {cls:=.type "slice",data:=.fields #[vl,vu,.none]}}
 exact tail_any (ops:=[.ref s3.heap.objs.size,v]) ht hT hg (by with_unfolding_all rfl)
def m6 (xs:List V) (lo hi:Option Int):List V:=(xs.drop (HT.sIx xs.length 0 lo)).take (HT.sIx xs.length xs.length hi - HT.sIx xs.length 0 lo)
theorem pJ (xs:List V) (lo hi:Option Int):(m6 xs lo hi).length<=xs.length:=by
 unfold m6
 rw [List.length_take,List.length_drop]
 omega
def Nm (K:W.Frag):V->Option Int->Option Int->Hp->VK->Prop:=fun x lo hi H Q=>∃ a xs,x= .ref a/\SqT K H a xs/\
 ¬ (HT.sIx xs.length 0 lo=0/\HT.sIx xs.length xs.length hi=xs.length)/\∀ p,H p=none->Q (.ref p) (upd H p (.tup (m6 xs lo hi)))
theorem JC:SlR X (Nm X.K):=by
 intro pins s U H x v vl vu lo hi sl Q I rx hs pl pu h
 obtain ⟨a,xs,rfl,hx,hw,q⟩:=h
 cases rx
 obtain ⟨its,r,ht,hz⟩:=I.tuple hx
 have hlen:its.toArray.size=xs.length:=by rw [List.size_toArray];exact r.length.symm
 refine ⟨"tuple",_,PyProof.Rows.slot_tuple_getitem.lookup,ht.typeIs,?_⟩
 refine HT.getItem_tuple_cut ht hs pl pu (by rw [hlen];exact hw) ?_ (by rw [hlen];exact hz)
 rw [hlen]
 refine ⟨.ref s.heap.objs.size,_,I.laid (t':=s.toks) (o:=.tup (m6 xs lo hi)) (fun b ob q=>Heap.get?_push_of_some _ q) (Nat.le_refl _) ?_,rfl,q _ (I.hok.fresh (Nat.le_refl _))⟩
 exact ⟨Nat.le_trans (pJ xs lo hi) hz,_,(r.drop (HT.sIx xs.length 0 lo)).take (HT.sIx xs.length xs.length hi - HT.sIx xs.length 0 lo),IsTup.new _ _⟩
end
def Ax (n:Nat) (i:Int):Option Nat:=if 0<=i then (if i < n then some i.toNat else none) else if -(n:Int)<=i then some (i+n).toNat else none
def uD {α:Type} (xs:List α) (i:Int):Option α:=(Ax xs.length i).bind fun j=>xs[j]?
theorem yc {n:Nat} {i:Int} {j:Nat} (h:Ax n i=some j):seqIndex? i n=some j/\j < n/\-(n:Int)<=i/\i < n:=by
 unfold Ax at h
 by_cases h0:0<=i
 ·rw [if_pos h0] at h
  by_cases h1:i < n
  ·rw [if_pos h1] at h
   have e:i.toNat=j:=Option.some.inj h
   exact ⟨by rw [seqIndex_of h0 h1,e],by omega,by omega,h1⟩
  ·rw [if_neg h1] at h;cases h
 ·rw [if_neg h0] at h
  by_cases h1: -(n:Int)<=i
  ·rw [if_pos h1] at h
   have e:(i+n).toNat=j:=Option.some.inj h
   exact ⟨by rw [seqIndex_neg (by omega) h1,e],by omega,h1,by omega⟩
  ·rw [if_neg h1] at h;cases h
theorem uE {α:Type} {xs:List α} {i:Int} {v:α} (h:uD xs i=some v):∃ j,seqIndex? i xs.length=some j/\xs[j]?=some v/\j < xs.length/\-(xs.length:Int)<=i/\i < xs.length:=by
 unfold uD at h
 cases e:Ax xs.length i with
 | none=>rw [e] at h;cases h
 | some j=>
  rw [e] at h
  obtain ⟨h1,h2,h3,h4⟩:=yc e
  exact ⟨j,h1,h,h2,h3,h4⟩
theorem fQ {α:Type} {xs:List α} {j:Nat} {v:α} (h:xs[j]?=some v):uD xs (j:Int)=some v:=by
 have hj:j < xs.length:=(List.getElem?_eq_some_iff.mp h).1
 have e:Ax xs.length (j:Int)=some j:=by
  unfold Ax
  rw [if_pos (by omega),if_pos (by omega)];simp
 unfold uD;rw [e];exact h
def yd (b:Expr):Prop:=∀ o i,subscripted b false o i=operate [o,i] (getItem o i)
def IxR (X:Cx) (r:R2):Prop:=
 ∀ (value slice:Expr) (pins:List (Addr×Obj)) (s:Shared) (U:St) (H:Hp) (x y:V) (v u:Value) (Q:VK),Inv X pins U H s->RelV x v->RelV y u->r x y H Q->
  subscripted slice false v u=operate [v,u] (getItem v u)->wpAny (model X.prog X.w) X.A (subscriptTail value slice v u) (EP X pins U Q) X.xe s
def Hy (X:Cx) (id:String) (r:V->List V->Hp->VK->Prop):Prop:=
 ∀ (pins:List (Addr×Obj)) (s:Shared) (U:St) (H:Hp) (x:V) (xs:List V) (v:Value) (us:List Value) (Q:VK),Inv X pins U H s->RelV x v->Vals xs us->r x xs H Q->
  wpAny (model X.prog X.w) X.A (call (.builtin id) (v :: us)) (EP X pins U Q) X.xe s
section
variable {X:Cx} {a b:Expr} {ta tb:TE} {pos:Pos}
theorem IxR.or {r r':R2} (h:IxR X r) (h':IxR X r'):IxR X (fun x y H Q=>r x y H Q\/r' x y H Q):=by
 intro value slice pins s U H x y v u Q I rx ry q hs
 rcases q with q | q
 ·exact h value slice pins s U H x y v u Q I rx ry q hs
 ·exact h' value slice pins s U H x y v u Q I rx ry q hs
theorem Np {r:R2} (hr:IxR X r) (ha:PE X a ta) (hb:PE X b tb) (hs:yd b):PE X (.Subscript a b pos) (DN r ta tb):=by
 intro pins s U H Q I h
 exact Subscript_ (Jl ha hb I h fun v u s2 x y H2 I2 rx ry q=>hr a b pins s2 U H2 x y v u Q I2 rx ry q (hs _ _))
def Nq (K:W.Frag):R2:=fun x y H Q=>∃ p xs i v,x= .ref p/\y= .int i/\SqL K H p xs/\uD xs i=some v/\Q v H
def Nr (K:W.Frag):R2:=fun x y H Q=>∃ p xs i v,x= .ref p/\y= .int i/\SqT K H p xs/\uD xs i=some v/\Q v H
def Nt:R2:=fun x y H Q=>∃ z i c,x= .str z/\y= .int i/\z.length<=sizeLine/\uD z.cps.toList i=some c/\Q (.str ⟨#[c]⟩) H
theorem Eo:IxR X (Nq X.K):=by
 intro value slice pins s U H x y v u Q I rx ry h hs
 obtain ⟨p,xs,i,z,rfl,rfl,hq,he,q⟩:=h
 cases rx
 obtain ⟨t,rfl⟩:=ry
 obtain ⟨its,r,pl,hz⟩:=I.list hq
 obtain ⟨j,h1,h2,h3,h4,h5⟩:=uE he
 obtain ⟨w,ew,rw'⟩:=r.get h2
 have hl:=r.length
 have hn:=qQ
 have fin:EP X pins U Q w s:=⟨z,H,I,rw',q⟩
 by_cases h0:0<=i
 ·have hj:i.toNat=j:=by
   rw [seqIndex_of h0 h5] at h1
   exact Option.some.inj h1
  exact item_listR pl.isList h0 (by omega) (by rw [hj];simpa using ew) fin hs
 ·have hj:(i+(its.toArray.size:Int)).toNat=j:=by
   rw [seqIndex_neg (by omega) h4] at h1
   rw [List.size_toArray,← hl]
   exact Option.some.inj h1
  exact subscriptTail_builtinR (x:=w) pl.isList.typeIs slot_list_getitem.lookup
   (wpAny_getItem_list_neg (Q:=fun r s'=>r=w/\EP X pins U Q r s') pl.isList (by omega) (by rw [List.size_toArray] <;> omega) (by omega) (by rw [hj];simpa using ew) ⟨rfl,fin⟩) hs
theorem JD:IxR X (Nr X.K):=by
 intro value slice pins s U H x y v u Q I rx ry h hs
 obtain ⟨p,xs,i,z,rfl,rfl,hq,he,q⟩:=h
 cases rx
 obtain ⟨t,rfl⟩:=ry
 obtain ⟨its,r,pl,hz⟩:=I.tuple hq
 obtain ⟨j,h1,h2,h3,h4,h5⟩:=uE he
 obtain ⟨w,ew,rw'⟩:=r.get h2
 have hl:=r.length
 have hn:=qQ
 have fin:EP X pins U Q w s:=⟨z,H,I,rw',q⟩
 exact subscriptTail_builtinR (x:=w) pl.typeIs slot_tuple_getitem.lookup
  (getItem_tuple (j:=j) (Q:=fun r s'=>r=w/\EP X pins U Q r s') pl (by omega) (by omega) (by rw [List.size_toArray,← hl];exact h1) (by simpa using ew) ⟨rfl,fin⟩) hs
theorem JK:IxR X Nt:=by
 intro value slice pins s U H x y v u Q I rx ry h hs
 obtain ⟨z,i,c,rfl,rfl,hz,he,q⟩:=h
 obtain ⟨t,rfl⟩:=rx
 obtain ⟨t',rfl⟩:=ry
 obtain ⟨j,h1,h2,h3,h4,h5⟩:=uE he
 have hl:z.cps.toList.length=z.length:=by simp [Str.length]
 rw [hl] at h1 h4 h5
 have hn:=qQ
 exact tail_any (typeIs_str s z t) slot_str_getitem.lookup (getItem_str (c:=c) (by
  have e1:decide (i < -(2 ^ 63:Int))=false:=decide_eq_false (by omega)
  have e2:decide (i>=2 ^ 63)=false:=decide_eq_false (by omega)
  rw [e1,e2,Bool.or_false]) (by rw [h1];simpa using h2) ⟨.str ⟨#[c]⟩,H,I.tok _,⟨_,rfl⟩,q⟩) hs
def JL (K:W.Frag):R2:=fun x y H Q=>Nq K x y H Q\/Nr K x y H Q\/Nt x y H Q
theorem JM:IxR X (JL X.K):=Eo.or (JD.or JK)
theorem w5 (its:List Value) (n j:Nat) (u:Value):Obj.mapSeq (·.setIfInBounds j u) {cls:=.type "list",data:=.seq its.toArray n}={cls:=.type "list",data:=.seq (its.set j u).toArray n}:=by
 simp [Obj.mapSeq]
theorem Inv.lst {pins:List (Addr×Obj)} {U:St} {H:Hp} {s:Shared} {p:Addr} {xs:List V} (I:Inv X pins U H s) (h:H p=some (.lst xs)):
  ∃ (its:List Value) (n:Nat),Vals xs its/\s.heap.get? p=some {cls:=.type "list",data:=.seq its.toArray n}/\xs.length<=sizeLine:=by
 obtain ⟨z,its,n,r,e⟩:=I.hok p _ h
 exact ⟨its,n,r,e,z⟩
theorem Inv.lstUpd {pins:List (Addr×Obj)} {U:St} {H:Hp} {s:Shared} {p:Addr} {xs ys:List V} {its its':List Value} {n n':Nat} {f:Obj->Obj} (I:Inv X pins U H s) (h:H p=some (.lst xs))
  (ho:s.heap.get? p=some {cls:=.type "list",data:=.seq its.toArray n}) (hf:f {cls:=.type "list",data:=.seq its.toArray n}={cls:=.type "list",data:=.seq its'.toArray n'}) (r:Vals ys its') (hz:ys.length<=sizeLine) (t:Nat):
  Inv X pins U (upd H p (.lst ys)) {s with heap:=s.heap.update p f,toks:=t}:=by
 have e:(s.heap.update p f).get? p=some {cls:=.type "list",data:=.seq its'.toArray n'}:=by
  rw [Heap.get?_update_self f ho (by rw [hf] <;> rfl),hf]
 refine I.write (x:=p) (e:=p) (by rw [h];trivial) (.inl rfl) (fun b u hb q=>(Heap.get?_update_other _ _ (Ne.symm hb)).trans q) ⟨_,e⟩ ?_
 exact ⟨hz,its',n',r,e⟩
def Ay:V->V->V->Hp->(Hp->Prop)->Prop:=fun o i v H Q=>∃ p xs k j,o= .ref p/\i= .int k/\H p=some (.lst xs)/\Ax xs.length k=some j/\Q (upd H p (.lst (xs.set j v)))
theorem set_list:Ec X Ay:=by
 intro pins s U H o i v ov iv u Q I ro ri rv h
 obtain ⟨p,xs,k,j,rfl,rfl,hp,hj,q⟩:=h
 cases ro
 obtain ⟨t,rfl⟩:=ri
 obtain ⟨its,n,r,ho,hz⟩:=I.lst hp
 obtain ⟨h1,h2,h3,h4⟩:=yc hj
 have hl:=r.length
 have hn:=qQ
 have I':Inv X pins U (upd H p (.lst (xs.set j v))) {s with heap:=s.heap.update p (Obj.mapSeq (·.setIfInBounds j u))}:=
  I.lstUpd hp ho (w5 its n j u) (r.set rv j) (by rw [List.length_set];exact hz) s.toks
 by_cases h0:0<=k
 ·have hk:k.toNat=j:=by
   rw [seqIndex_of h0 h4] at h1
   exact Option.some.inj h1
  exact PySem.W.ki_setAt ho h0 (by omega) (by rw [List.size_toArray,← hl];exact h4) (by rw [hk];exact ⟨_,I',q⟩)
 ·have hk:(k+(its.toArray.size:Int)).toNat=j:=by
   rw [seqIndex_neg (by omega) h3] at h1
   rw [List.size_toArray,← hl]
   exact Option.some.inj h1
  exact PySem.W.ki_setBack ho (by omega) (by rw [List.size_toArray,← hl];exact h3) (by omega) (by rw [hk];exact ⟨_,I',q⟩)
theorem uF (lo hi:Option Int) (n:Nat):(sliceBounds lo hi none n).1=((HT.sIx n 0 lo:Nat):Int)/\(sliceBounds lo hi none n).2.1=((HT.sIx n n hi:Nat):Int)/\(sliceBounds lo hi none n).2.2=1:=by
 refine ⟨?_,?_,rfl⟩
 ·cases lo with
  | none=>simp [sliceBounds,HT.sIx]
  | some i=>
   simp only [sliceBounds,HT.sIx,Option.getD_none,show (1:Int) > 0 by decide,if_true]
   by_cases h:i < 0
   ·simp only [h,if_true] <;> omega
   ·simp only [h,if_false] <;> omega
 ·cases hi with
  | none=>simp [sliceBounds,HT.sIx]
  | some i=>
   simp only [sliceBounds,HT.sIx,Option.getD_none,show (1:Int) > 0 by decide,if_true]
   by_cases h:i < 0
   ·simp only [h,if_true] <;> omega
   ·simp only [h,if_false] <;> omega
theorem sO (its:List Value) (lo hi:Option Int):slicePick its.toArray lo hi none=((its.drop (HT.sIx its.length 0 lo)).take (HT.sIx its.length its.length hi - HT.sIx its.length 0 lo)).toArray:=by
 obtain ⟨h1,h2,h3⟩:=uF lo hi its.toArray.size
 unfold slicePick
 rw [h1,h2,h3]
 simp only [sliceRange_one,pick_run,List.size_toArray] <;> rfl
def Nu (K:W.Frag):V->Option Int->Option Int->Hp->VK->Prop:=fun x lo hi H Q=>∃ a xs,x= .ref a/\SqL K H a xs/\∀ p,H p=none->Q (.ref p) (upd H p (.lst (m6 xs lo hi)))
theorem Ep:SlR X (Nu X.K):=by
 intro pins s U H x v vl vu lo hi sl Q I rx hs pl pu h
 obtain ⟨a,xs,rfl,hx,q⟩:=h
 cases rx
 obtain ⟨its,r,ht,hz⟩:=I.list hx
 have hlen:=r.length
 refine ⟨"list",_,slot_list_getitem.lookup,ht.isList.typeIs,?_⟩
 refine wpAny_getItem_list_slice ht.isList hs pl pu .none (by simp) ?_ (by rw [List.size_toArray] <;> omega)
 rw [sO,← hlen]
 refine ⟨.ref s.heap.objs.size,_,I.laid (t':=s.toks) (o:=.lst (m6 xs lo hi)) (fun b ob q=>Heap.get?_push_of_some _ q) (Nat.le_refl _) ?_,rfl,q _ (I.hok.fresh (Nat.le_refl _))⟩
 exact ⟨Nat.le_trans (pJ xs lo hi) hz,_,0,(r.drop (HT.sIx xs.length 0 lo)).take (HT.sIx xs.length xs.length hi - HT.sIx xs.length 0 lo),Heap.get?_push_size _ rfl⟩
def gD:V->Bool
 | .non=>true
 | .bl _=>true
 | .int _=>true
 | .str _=>true
 | _=>false
def ye:V->V->Bool
 | .non,.non=>true
 | .bl a,.bl b=>a == b
 | .bl a,.int b=>(if a then 1 else 0) == b
 | .int a,.bl b=>a == (if b then 1 else 0)
 | .int a,.int b=>a == b
 | .str a,.str b=>a == b
 | _,_=>false
theorem oY {A:Around} {s:Shared} {y x:V} {u v:Value} (ry:RelV y u) (rx:RelV x v) (fy:gD y=true) (fx:gD x=true):SeqAt.EqAt A s u v (ye y x):=by
 cases y with
 | non=>
  cases ry
  cases x with
  | non=>cases rx;exact SeqAt.EqAt.same _
  | bl b=>cases rx;exact SeqAt.EqAt.none_bool b
  | int b=>obtain ⟨t,rfl⟩:=rx;exact SeqAt.EqAt.none_int b t
  | str b=>obtain ⟨t,rfl⟩:=rx;exact SeqAt.EqAt.none_str b t
  | _=>exact absurd (show false=true from fx) Bool.false_ne_true
 | bl a=>
  cases ry
  cases x with
  | non=>cases rx;exact SeqAt.EqAt.bool_none a
  | bl b=>cases rx;exact SeqAt.EqAt.bool_bool a b
  | int b=>obtain ⟨t,rfl⟩:=rx;exact SeqAt.EqAt.bool_int a b t
  | str b=>obtain ⟨t,rfl⟩:=rx;exact SeqAt.EqAt.bool_str a b t
  | _=>exact absurd (show false=true from fx) Bool.false_ne_true
 | int a=>
  obtain ⟨t',rfl⟩:=ry
  cases x with
  | non=>cases rx;exact SeqAt.EqAt.int_none a t'
  | bl b=>cases rx;exact SeqAt.EqAt.int_bool a t' b
  | int b=>obtain ⟨t,rfl⟩:=rx;exact SeqAt.EqAt.int_int a t' b t
  | str b=>obtain ⟨t,rfl⟩:=rx;exact SeqAt.EqAt.int_str a t' b t
  | _=>exact absurd (show false=true from fx) Bool.false_ne_true
 | str a=>
  obtain ⟨t',rfl⟩:=ry
  cases x with
  | non=>cases rx;exact SeqAt.EqAt.str_none a t'
  | bl b=>cases rx;exact SeqAt.EqAt.str_bool a t' b
  | int b=>obtain ⟨t,rfl⟩:=rx;exact SeqAt.EqAt.str_int a t' b t
  | str b=>obtain ⟨t,rfl⟩:=rx;exact SeqAt.EqAt.str_str a t' b t
  | _=>exact absurd (show false=true from fx) Bool.false_ne_true
 | _=>exact absurd (show false=true from fy) Bool.false_ne_true
def w6 (x:V) (u:Value):Bool:=match u with
 | .none=>ye .non x
 | .bool b=>ye (.bl b) x
 | .int i _=>ye (.int i) x
 | .str z _=>ye (.str z) x
 | _=>false
theorem Az {x y:V} {u:Value} (r:RelV y u) (f:gD y=true):w6 x u=ye y x:=by
 cases y with
 | non=>cases r;rfl
 | bl b=>cases r;rfl
 | int i=>obtain ⟨t,rfl⟩:=r;rfl
 | str z=>obtain ⟨t,rfl⟩:=r;rfl
 | _=>exact absurd (show false=true from f) Bool.false_ne_true
theorem m7 {x:V}:∀ {xs:List V} {us:List Value},Vals xs us->xs.all gD=true->us.any (w6 x)=xs.any fun y=>ye y x
 | _,_,.nil,_=>rfl
 | y :: xs,u :: us,.cons r t,f=>by
  rw [List.all_cons,Bool.and_eq_true] at f
  rw [List.any_cons,List.any_cons,Az r f.1,m7 t f.2]
theorem kY {A:Around} {s:Shared} {x:V} {v:Value} (rx:RelV x v) (fx:gD x=true):∀ {xs:List V} {us:List Value},Vals xs us->xs.all gD=true->∀ u∈us,SeqAt.EqAt A s u v (w6 x u)
 | _,_,.nil,_=>fun u hu=>by cases hu
 | y :: xs,u :: us,.cons r t,f=>fun u' hu=>by
  rw [List.all_cons,Bool.and_eq_true] at f
  rcases List.mem_cons.mp hu with rfl | hu
  ·rw [Az r f.1];exact oY r rx f.1 fx
  ·exact kY rx fx t f.2 u' hu
def inV (x:V) (xs:List V):Bool:=xs.any fun y=>ye y x
def QB (K:W.Frag) (neg:Bool):R2:=fun x y H Q=>∃ p xs,y= .ref p/\(SqL K H p xs\/SqT K H p xs)/\gD x=true/\xs.all gD=true/\Q (.bl (if neg then !inV x xs else inV x xs)) H
theorem zb:OpR X (compareOp .In) (QB X.K false):=by
 intro pins s U H x y v u Q I rx ry h
 obtain ⟨p,xs,rfl,hq,fx,fs,q⟩:=h
 cases ry
 rcases hq with hq | hq
 ·obtain ⟨its,r,pl,hz⟩:=I.list hq
  refine SeqAt.in_listAt (w6 x) pl.isList (fun w hw=>kY rx fx r fs w (by simpa using hw)) ⟨.bl _,H,I,rfl,?_⟩
  rw [show its.toArray.any (w6 x)=its.any (w6 x) by simp,m7 r fs]
  exact q
 ·obtain ⟨its,r,pl,hz⟩:=I.tuple hq
  refine SeqAt.in_tupleAt (w6 x) pl (fun w hw=>kY rx fx r fs w (by simpa using hw)) ⟨.bl _,H,I,rfl,?_⟩
  rw [show its.toArray.any (w6 x)=its.any (w6 x) by simp,m7 r fs]
  exact q
theorem uG:OpR X (compareOp .NotIn) (QB X.K true):=by
 intro pins s U H x y v u Q I rx ry h
 obtain ⟨p,xs,rfl,hq,fx,fs,q⟩:=h
 cases ry
 rcases hq with hq | hq
 ·obtain ⟨its,r,pl,hz⟩:=I.list hq
  refine SeqAt.notIn_listAt (w6 x) pl.isList (fun w hw=>kY rx fx r fs w (by simpa using hw)) ⟨.bl _,H,I,rfl,?_⟩
  rw [show its.toArray.any (w6 x)=its.any (w6 x) by simp,m7 r fs]
  exact q
 ·obtain ⟨its,r,pl,hz⟩:=I.tuple hq
  refine SeqAt.notIn_tupleAt (w6 x) pl (fun w hw=>kY rx fx r fs w (by simpa using hw)) ⟨.bl _,H,I,rfl,?_⟩
  rw [show its.toArray.any (w6 x)=its.any (w6 x) by simp,m7 r fs]
  exact q
theorem uH:OpR X (compareOp .NotIn) (fun x y H Q=>∃ i j,x= .str i/\y= .str j/\Q (.bl (!(!(Builtin.Str.occurrences j i 0 j.length 1).isEmpty))) H):=by
 intro pins s U H x y v u Q I rx ry h
 obtain ⟨i,j,rfl,rfl,q⟩:=h
 obtain ⟨t,rfl⟩:=rx
 obtain ⟨t',rfl⟩:=ry
 exact notIn_str ⟨.bl _,H,I,rfl,q⟩
theorem CallR.or {f:Value} {r r':List V->Hp->VK->Prop} (h:CallR X f r) (h':CallR X f r'):CallR X f (fun xs H Q=>r xs H Q\/r' xs H Q):=by
 intro pins s U H xs us Q I rs q
 rcases q with q | q
 ·exact h pins s U H xs us Q I rs q
 ·exact h' pins s U H xs us Q I rs q
theorem uI:CallR X (.type "list") (fun xs H Q=>∃ p ys,xs=[.ref p]/\(SqL X.K H p ys\/SqT X.K H p ys)/\∀ l,H l=none->Q (.ref l) (upd H l (.lst ys))):=by
 intro pins s U H xs us Q I r h
 obtain ⟨p,ys,rfl,hq,q⟩:=h
 obtain ⟨u,rfl,rx⟩:=vals1 r
 cases rx
 have fin:∀ (its:List Value),Vals ys its->ys.length<=sizeLine->∀ (h':Heap) (c':Nat),(∀ b o',s.heap.get? b=some o'->h'.get? b=some o')->
   h'.get? s.heap.objs.size=some {cls:=.type "list",dict:=none,data:=.seq its.toArray c',slots:=#[]}->EP X pins U Q (.ref s.heap.objs.size) {s with heap:=h'}:=fun its r' hz h' c' kp e=>
  ⟨.ref s.heap.objs.size,_,I.laid (t':=s.toks) kp (Nat.le_refl _) (show ObjOk X.prog X.w _ h' _ (.lst ys) from ⟨hz,its,c',r',e⟩),rfl,q _ (I.hok.fresh (Nat.le_refl _))⟩
 rcases hq with hq | hq
 ·obtain ⟨its,r',pl,hz⟩:=I.list hq
  have hlen:=r'.length
  obtain ⟨o,ho,hc,n,hd⟩:=pl.isList
  exact call_list_seq p (.inl rfl) ho hc hd (fun h' c' kp e=>fin its r' hz h' c' kp e) (by simp only [List.size_toArray] <;> omega)
 ·obtain ⟨its,r',pl,hz⟩:=I.tuple hq
  have hlen:=r'.length
  obtain ⟨o,ho,hc,n,hd⟩:=pl
  exact call_list_seq p (.inr rfl) ho hc hd (fun h' c' kp e=>fin its r' hz h' c' kp e) (by simp only [List.size_toArray] <;> omega)
theorem sS:CallR X (.type "tuple") (fun xs H Q=>∃ p ys,xs=[.ref p]/\((SqL X.K H p ys/\∀ l,H l=none->Q (.ref l) (upd H l (.tup ys)))\/(SqT X.K H p ys/\Q (.ref p) H))):=by
 intro pins s U H xs us Q I r h
 obtain ⟨p,ys,rfl,h⟩:=h
 obtain ⟨u,rfl,rx⟩:=vals1 r
 cases rx
 rcases h with ⟨hq,q⟩ | ⟨hq,q⟩
 ·obtain ⟨its,r',pl,hz⟩:=I.list hq
  have hlen:=r'.length
  refine call_tuple_list pl.isList (fun h' kp=>?_) (by simp only [List.size_toArray] <;> omega)
  have I1:Inv X pins U H {s with heap:=h'}:=I.kept (t':=s.toks) kp
  have I2:Inv X pins U (upd H h'.objs.size (.tup ys)) {s with heap:=h'.push {cls:=.type "tuple",data:=.seq its.toArray}}:=
   I1.laid (t':=s.toks) (fun b o e=>Heap.get?_push_of_some _ e) (Nat.le_refl _) (show ObjOk X.prog X.w _ _ _ (.tup ys) from ⟨hz,its,r',IsTup.new _ _⟩)
  exact ⟨.ref h'.objs.size,_,I2,rfl,q _ (I1.hok.fresh (Nat.le_refl _))⟩
 ·obtain ⟨its,r',pl,hz⟩:=I.tuple hq
  exact call_tuple_same pl ⟨.ref p,H,I,rfl,q⟩
def tyV (K:W.Frag) (T:String) (x:V) (H:Hp):Prop:=match x with
 | .str _=>T="str"
 | .int _=>T="int"
 | .ref p=>(T="list"/\∃ xs,SqL K H p xs)\/(T="tuple"/\∃ o,K.lookup p=some o/\o.cls= .type "tuple"/\o.dict=none)\/
   (T="dict"/\((∃ kvs,H p=some (.dK kvs))\/∃ kvs,H p=some (.dT kvs)))\/(T="set"/\∃ S n,H p=some (.set S n))
 | _=>False
theorem JN {pins:List (Addr×Obj)} {U:St} {H:Hp} {s:Shared} {T:String} {x:V} {v:Value} (I:Inv X pins U H s) (r:RelV x v) (ty:tyV X.K T x H):
  s.TypeIs v T/\∀ a,v= .ref a->∃ ob,s.heap.get? a=some ob/\ob.dict=none:=by
 cases x with
 | str z=>
  obtain ⟨t,rfl⟩:=r
  cases (show T="str" from ty)
  exact ⟨typeIs_str s z t,fun _ e=>nomatch e⟩
 | int i=>
  obtain ⟨t,rfl⟩:=r
  cases (show T="int" from ty)
  exact ⟨typeIs_int s i t,fun _ e=>nomatch e⟩
 | ref p=>
  cases r
  rcases ty with ⟨rfl,xs,hq⟩ | ⟨rfl,o,hk,hc,hd⟩ | ⟨rfl,hk⟩ | ⟨rfl,S,n,hk⟩
  ·obtain ⟨its,_,pl,_⟩:=I.list hq
   refine ⟨pl.isList.typeIs,fun a e=>?_⟩
   cases e
   obtain ⟨o,n,e,c,hd,_⟩:=pl
   exact ⟨o,e,hd⟩
  ·refine ⟨⟨o,I.kIn p o hk,hc⟩,fun a e=>?_⟩
   cases e
   exact ⟨o,I.kIn _ o hk,hd⟩
  ·have z:∃ o,s.heap.get? p=some o/\o.ExactDict:=by
    rcases hk with ⟨kvs,hk⟩ | ⟨kvs,hk⟩
    ·obtain ⟨_,_,_,_,o,_,_,e,ex,_⟩:=I.hok p _ hk
     exact ⟨o,e,ex⟩
    ·obtain ⟨_,_,_,_,o,_,_,e,ex,_⟩:=I.hok p _ hk
     exact ⟨o,e,ex⟩
   obtain ⟨o,e,ex⟩:=z
   refine ⟨⟨o,e,ex.1⟩,fun a e2=>?_⟩
   cases e2
   exact ⟨o,e,ex.2.1⟩
  ·obtain ⟨o,_,_,_,e,ex,_⟩:=I.hok p _ hk
   refine ⟨⟨o,e,ex.1⟩,fun a e2=>?_⟩
   cases e2
   exact ⟨o,e,ex.2.1⟩
 | _=>exact False.elim ty
def Nv (K:W.Frag) (T:String) (r:V->List V->Hp->VK->Prop) (to:TE) (t:TA):TE:=fun U H Q=>to U H fun x H1=>tyV K T x H1/\t U H1 fun xs H2=>r x xs H2 Q
variable {o e:Expr} {es:List Expr} {to:TE} {t:TA} {name:Str} {apos cpos:Pos} {T id:String} {r:V->List V->Hp->VK->Prop}
theorem Nx (pa:PlainAttrs T) (slot:Slot T name id) (hty:typeOf (.builtin id)=pure (.type "method_descriptor")) (hm:Hy X id r) (ho:PE X o to) (ha:PA X (e :: es) t)
  (hbase:autoParam (attributeBase o name X.env (eval o X.env)=eval o X.env) L2.auto4._auto_1)
  (hfew:((backTo cpos (starEach (e :: es) X.env)).all (fun x=>!x.1) && (backToKw cpos (keywordEach [] X.env)).all (fun x=>x.1.isSome)
   && decide ((e :: es).length+([]:List Keyword).length+(if ([]:List Keyword).isEmpty then 0 else 1) < 30))=true:=by rfl)
  (hline:autoParam ((apos.endLine == cpos.line)=true) L2.auto4._auto_1) (hs:autoParam (starEach (e :: es) X.env=(false,eval e X.env) :: starEach es X.env) L2.auto4._auto_1) (hplain:autoParam ((backTo cpos (starEach es X.env)).any (·.1)=false) L2.auto4._auto_1):
  PE X (.Call (.Attribute o name apos) (e :: es) [] cpos) (Nv X.K T r to t):=by
 intro pins s U H Q I h
 refine wpAny_Call_method_late hbase hfew hline rfl (dB (ho pins s U H _ I h) fun v s1 qq0=>?_)
 obtain ⟨x,H1,I1,r1,ty,q1⟩:=qq0
 obtain ⟨h1,h2⟩:=JN I1 r1 ty
 refine ⟨T,id,pa,slot,hty,h1,h2,?_⟩
 have hA:=ha cpos pins s1 U H1 _ I1 q1
 rw [hs] at hA ⊢
 refine Calls.callWith_builtin (by show (false || (backTo cpos (starEach es X.env)).any (·.1))=false;rw [hplain] <;> rfl) (Calls.evalArgs_plain ?_)
 exact dB hA fun us s2 ⟨vs,H2,I2,r2,q2⟩=>hm pins s2 U H2 x vs v us Q I2 r1 r2 q2
end
def MtM (X:Cx) (id:String) (r:V->List V->Hp->VK->Prop):Prop:=
 ∀ (pins:List (Addr×Obj)) (s:Shared) (U:St) (H:Hp) (x:V) (xs:List V) (v:Value) (us:List Value) (Q:VK),Inv X pins U H s->RelV x v->Vals xs us->r x xs H Q->
  wpAny (model X.prog X.w) X.A (call (.builtin id) (v :: us)) (EP X pins U Q) X.xe s
theorem Vals.one:∀ {x:V} {us:List Value},Vals [x] us->∃ u,us=[u]/\RelV x u
 | _,_,.cons r .nil=>⟨_,rfl,r⟩
theorem Vals.rep {xs:List V} {us:List Value} (h:Vals xs us):∀ k:Nat,Vals (List.replicate k xs).flatten (List.replicate k us).flatten
 | 0=>.nil
 | k+1=>by
  rw [List.replicate_succ,List.replicate_succ,List.flatten_cons,List.flatten_cons]
  exact Vals.append h (Vals.rep h k)
theorem foldl_rep (its:List Value):∀ (k:Nat) (acc:List Value),
  List.foldl (fun x1 x2=>x1 ++ x2) acc.toArray (List.replicate k its.toArray)=(acc ++ (List.replicate k its).flatten).toArray
 | 0,acc=>by simp
 | k+1,acc=>by
  have e:acc.toArray ++ its.toArray=(acc ++ its).toArray:=by simp
  have e2:(acc ++ its) ++ (List.replicate k its).flatten=acc ++ (List.replicate (k+1) its).flatten:=by
   rw [List.replicate_succ,List.flatten_cons,List.append_assoc]
  rw [← e2,← foldl_rep its k (acc ++ its),← e,List.replicate_succ,List.foldl_cons]
section
variable {X:Cx} {pins:List (Addr×Obj)} {U:St} {H:Hp} {s:Shared} {l b:Addr} {xs ys zs:List V}
theorem Inv.lset {its its':List Value} {n:Nat} {f:Array Value->Array Value} {t':Nat} (I:Inv X pins U H s) (hH:H l=some (.lst xs))
  (e:s.heap.get? l=some {cls:=.type "list",data:=.seq its.toArray n}) (hf:f its.toArray=its'.toArray) (hv:Vals ys its') (hz:ys.length<=sizeLine):
  Inv X pins U (upd H l (.lst ys)) {s with heap:=s.heap.update l (Obj.mapSeq f),toks:=t'}:=by
 have q:=PySem.IsL.update e f
 rw [hf] at q
 refine I.write (x:=l) (e:=l) (by rw [hH];exact trivial) (.inl rfl) (fun b' u hb hu=>(Heap.get?_update_other s.heap (Obj.mapSeq f) (Ne.symm hb)).trans hu) ⟨_,q⟩ ?_
 exact ⟨hz,its',_,hv,q⟩
theorem Inv.lnew {its:List Value} {t':Nat} (I:Inv X pins U H s) (hv:Vals ys its) (hz:ys.length<=sizeLine):
  Inv X pins U (upd H s.heap.objs.size (.lst ys)) {s with heap:=s.heap.push {cls:=.type "list",data:=.seq its.toArray},toks:=t'}:=
 I.laid (fun _ _ q=>Heap.get?_push_of_some _ q) (Nat.le_refl _) ⟨hz,its,0,hv,Heap.get?_push_size _ rfl⟩
theorem Inv.fresh (I:Inv X pins U H s):H s.heap.objs.size=none:=I.hok.fresh (Nat.le_refl _)
theorem Inv.lstM (I:Inv X pins U H s) (hH:H l=some (.lst xs)):xs.length<=sizeLine/\∃ (its:List Value) (n:Nat),Vals xs its/\xs.length=its.length/\s.heap.get? l=some {cls:=.type "list",data:=.seq its.toArray n}:=by
 obtain ⟨z,its,n,r,e⟩:=I.hok l _ hH
 exact ⟨z,its,n,r,r.length,e⟩
theorem vG {n:Nat} (h:n<=sizeLine):Builtin.List.listTooLong n=false:=by
 unfold Builtin.List.listTooLong
 exact decide_eq_false (by omega)
end
section
variable {X:Cx}
def yf:V->List V->Hp->VK->Prop:=fun x vs H Q=>∃ l xs y,x= .ref l/\vs=[y]/\H l=some (.lst xs)/\xs.length < sizeLine/\Q .non (upd H l (.lst (xs ++ [y])))
theorem oZ:MtM X "list.append" yf:=by
 intro pins s U H x vs v us Q I rx rv h
 obtain ⟨l,xs,y,rfl,rfl,hH,hz,q⟩:=h
 cases rx
 obtain ⟨u,rfl,ru⟩:=rv.one
 obtain ⟨z,its,n,r,hl,e⟩:=I.lstM hH
 refine call_meets F.slot_list_append ⟨_,e,rfl⟩ F.entry_list_append (F.args_list_append_2 _ _) (PySem.list_append l its.toArray n u (by rw [List.size_toArray];omega)) ⟨e,?_⟩
 refine ⟨.non,_,I.lset (its':=its ++ [u]) hH e (by simp) (r.append (.cons ru .nil)) ?_,rfl,q⟩
 rw [List.length_append,List.length_singleton]
 omega
def Er:V->List V->Hp->VK->Prop:=fun x vs H Q=>∃ l b xs zs,x= .ref l/\vs=[.ref b]/\H l=some (.lst xs)/\H b=some (.lst zs)/\xs.length+zs.length<=sizeLine/\Q .non (upd H l (.lst (xs ++ zs)))
theorem zc:MtM X "list.extend" Er:=by
 intro pins s U H x vs v us Q I rx rv h
 obtain ⟨l,b,xs,zs,rfl,rfl,hH,hB,hz,q⟩:=h
 cases rx
 obtain ⟨u,rfl,ru⟩:=rv.one
 cases ru
 obtain ⟨z,its,n,r,hl,e⟩:=I.lstM hH
 obtain ⟨z2,its2,n2,r2,hl2,e2⟩:=I.lstM hB
 have hsz:its.toArray.size+its2.toArray.size<=sizeLine:=by rw [List.size_toArray,List.size_toArray];omega
 have hlong:¬ (!its.toArray.isEmpty && Builtin.List.listTooLong (its.toArray.size+its2.toArray.size))=true:=by
  rw [vG hsz,Bool.and_false]
  exact Bool.false_ne_true
 refine call_meets F.slot_list_extend ⟨_,e,rfl⟩ F.entry_list_extend (F.args_list_extend_2 _ _)
  (AutoSeq1.list_extend_list_list_0 l its.toArray n b its2.toArray n2 hlong (by rw [List.size_toArray];omega) (by omega)) ⟨e,e2,?_⟩
 refine ⟨.non,_,I.lset (its':=its ++ its2) hH e (by simp) (r.append r2) ?_,rfl,q⟩
 rw [List.length_append]
 omega
def Ny:R2:=fun x y H Q=>∃ l b xs zs,x= .ref l/\y= .ref b/\H l=some (.lst xs)/\H b=some (.lst zs)/\xs.length+zs.length<=sizeLine/\∀ p,H p=none->Q (.ref p) (upd H p (.lst (xs ++ zs)))
theorem JP:OpR X (binaryOp .Add) Ny:=by
 intro pins s U H x y v u Q I rx ry h
 obtain ⟨l,b,xs,zs,rfl,rfl,hH,hB,hz,q⟩:=h
 cases rx
 cases ry
 obtain ⟨z,its,n,r,hl,e⟩:=I.lstM hH
 obtain ⟨z2,its2,n2,r2,hl2,e2⟩:=I.lstM hB
 refine PySem.P.add_list e e2 ?_ (by rw [List.size_toArray,List.size_toArray];omega)
 have ea:its.toArray ++ its2.toArray=(its ++ its2).toArray:=by simp
 rw [ea]
 exact ⟨.ref _,_,I.lnew (t':=s.toks) (r.append r2) (by rw [List.length_append];omega),rfl,q _ I.fresh⟩
def Nz:R2:=fun x y H Q=>∃ l k xs,x= .ref l/\y= .int k/\H l=some (.lst xs)/\-(2 ^ 63)<=k/\k < 2 ^ 63/\xs.length*k.toNat<=sizeLine/\
 ∀ p,H p=none->Q (.ref p) (upd H p (.lst (List.replicate k.toNat xs).flatten))
theorem len_rep {α:Type} (xs:List α) (k:Nat):(List.replicate k xs).flatten.length=k*xs.length:=by
 induction k with
 | zero=>simp
 | succ k ih=>rw [List.replicate_succ,List.flatten_cons,List.length_append,ih,Nat.succ_mul,Nat.add_comm]
theorem JQ:OpR X (binaryOp .Mult) Nz:=by
 intro pins s U H x y v u Q I rx ry h
 obtain ⟨l,k,xs,rfl,rfl,hH,h1,h2,hz,q⟩:=h
 cases rx
 obtain ⟨t,rfl⟩:=ry
 obtain ⟨z,its,n,r,hl,e⟩:=I.lstM hH
 have hlen:its.toArray.size*k.toNat<=sizeLine:=by rw [List.size_toArray,← hl];exact hz
 have hcap:¬ its.toArray.size*k.toNat > (2 ^ 63 - 1) / 8:=by
  have:(sizeLine:Nat)<=(2 ^ 63 - 1) / 8:=by decide
  omega
 have hfit:¬ (!Builtin.List.listFitsIndex k)=true:=by
  rw [fitsIndex_both h1 h2]
  exact Bool.false_ne_true
 have hlong:¬ Builtin.List.listTooLong (its.toArray.size*k.toNat)=true:=by
  rw [vG hlen]
  exact Bool.false_ne_true
 have hnew:List.foldl (fun x1 x2=>x1 ++ x2) #[] (List.replicate (if its.toArray.isEmpty=true then 0 else k.toNat) its.toArray)=(List.replicate k.toNat its).flatten.toArray:=by
  have f0:∀ m:Nat,List.foldl (fun x1 x2=>x1 ++ x2) #[] (List.replicate m its.toArray)=(List.replicate m its).flatten.toArray:=fun m=>by
   have:=foldl_rep its m []
   rw [List.nil_append] at this
   exact this
  rw [f0]
  cases its with
  | nil=>simp
  | cons a r'=>rw [if_neg (by simp)]
 refine wpAny_binaryOp_repeat_ref (T:="list") (U:="int") (by decide) ⟨_,e,rfl⟩ (fun s'=>typeIs_int s' k t) noFill_list_mul F.fills_int_mul F.slot_int_rmul repeat_list F.slot_int_index.lookup
  (call_meets F.slot_int_rmul (typeIs_int s k t) F.entry_int_rmul (F.args_int_rmul_2 _ _) (int___rmul___int_list k t l its.toArray n)
   ⟨e,rfl,⟨_,e,rfl⟩,call_meets F.slot_list_mul ⟨_,e,rfl⟩ F.entry_list_mul (F.args_list_mul_2 _ _) (AutoListH.list___mul___list_int_3 l its.toArray n k t hfit hcap hlong) ⟨e,?_⟩⟩)
 rw [hnew]
 exact ⟨.ref _,_,I.lnew (t':=s.toks) (r.rep k.toNat) (by rw [len_rep,Nat.mul_comm];exact hz),rfl,q _ I.fresh⟩
end
end L2
namespace Att
open PySem PySem.W PySem.Calls PyProof.Rows
theorem pY {P:Params} {h:Heap}:∀ (ns:List Int) (vs:List Value),WellAll P h vs (ns.map WData.int)->IntsAre vs ns:=by
 intro ns
 induction ns with
 | nil=>
  intro vs w
  rw [List.map_nil] at w
  cases w
  exact .nil
 | cons n ns ih=>
  intro vs w
  rw [List.map_cons] at w
  cases w with
  | cons a b=>
   cases a
   exact .cons _ _ (ih _ b)
theorem zf {l:OpenLaw} {n:Nat} (hn:l.most=some n) {P:Params} {h:Heap} {args:List WData} {vals:List Value}
  (hpre:l.row.toRowW.claim.pre args=true) (hwl:WellAll P h vals args):
  ∃ a vs ns,vals=[Value.ref a]/\args=[WData.list (ns.map WData.int)]/\h.get? a=some {cls:=.type "list",data:=.seq vs.toArray}/\IntsAre vs ns/\ns.length<=n:=by
 have hsh:WShape.hasAll [] args [.list .int]=true:=(pre_splitW hpre).1
 have hc:l.pre.holds [] {args:=args}=true:=(pre_splitW hpre).2
 obtain ⟨d,r,rfl,h1,h2⟩:=hasAllW_cons hsh
 obtain rfl:=hasAllW_nil h2
 obtain ⟨xs,rfl,h3⟩:=hasW_list h1
 obtain ⟨ns,rfl⟩:=items_int h3
 have hlen:ns.length<=n:=by
  unfold OpenLaw.pre at hc
  have h4:(WTm.not (.lt (.lit (.int (n:Int))) (.len (.arg 0)))).holds [] {args:=[.list (ns.map .int)]}=true:=by
   have h4:=(holds_andW hc).1
   rw [hn] at h4
   exact h4
  have h5:=condW_of h4 (w_not (w_lt w_lit (w_len_list (w_arg rfl))))
  rw [List.length_map] at h5
  refine Nat.le_of_not_lt fun q=>?_
  have q':(n:Int) < ((ns.length:Nat):Int):=by omega
  first
   | (rw [decide_eq_true q'] at h5;exact absurd h5 (by decide))
   | (simp at h5;omega)
 cases hwl with
 | cons w1 w2=>
  cases w2
  cases w1 with
  | list ho hall=>exact ⟨_,_,ns,rfl,rfl,ho,pY ns _ hall,hlen⟩
theorem zg (l:OpenLaw) (args:List WData):l.row.toRowW.claim.post args (.bool true) args=true:=
 postW_of (r:=l.row.toRowW) (X:=(true == true))
  (show WShape.has [] (.bool true) .bool=true by first | rfl | decide | simp [WShape.has,WShape.arms,WShape.armsAll])
  (show (WTm.eq .res (.lit (.bool true))).value [] {args:=args,res:=some (.bool true),after:=args}=some (.bool (true == true)) from w_eq_bool (w_res rfl) w_lit) rfl
theorem attach_call {l:OpenLaw} {n:Nat} {q:Program} {loose:List Str} {XP:(Str->Option Value)->Heap->Prop} {YP:World->Heap->Prop} {d:DefRec}
  (hn:l.most=some n) (hdf:d.params.defaults=[])
  (call:∀ (w:World) (s₀ s₁:Shared) (mg mb:Str->Option Value) (fa:Addr) (o:Obj) (pm cd doc:Value) (a:Addr) (vs:List Value) (ns:List Int),
   Ground q loose [] XP w s₀ mg mb s₁.heap->YP w s₁.heap->
   s₁.heap.get? fa=some o->o.data= .func (docDef d.name d.params d.body d.scope pm cd doc)->s₁.heap.CodeRec cd d.name->mg d.name=some (.ref fa)->
   s₁.heap.get? a=some {cls:=.type "list",data:=.seq vs.toArray}->IntsAre vs ns->ns.length<=n->s₁.gens= #[]->
   codeAny (model l.prog w) callerA (.call (.ref fa) ⟨[.ref a],[]⟩) (fun r s'=>r= .ok (.ret (.bool true))/\OldK s₁.heap s'.heap/\s'.os=s₁.os/\AllBare s'.gens) s₁):
  WalkO q loose XP YP l.row.toRowW d [] (fun f vs=>PySem.call f vs):=by
 intro w s₀ s₁ mg mb G Y fa o pm cd doc dV kV ho hd hcd hD hmg hg args vals as hpre hlay hrd hwl hlo
 obtain rfl:dV= .none:=Dflts.none hD hdf
 obtain rfl:kV= .none:=Dflts.noKw hD
 obtain ⟨a,vs,ns,rfl,rfl,hobj,hints,hlen⟩:=zf hn hpre hwl
 refine enter_call (codeAny_mono (call w s₀ s₁ mg mb fa o pm cd doc a vs ns G Y ho (fd_plain hd) hcd hmg hobj hints hlen hg) fun r s' hq=>?_)
 obtain ⟨rfl,h2,h3,h4⟩:=hq
 exact ⟨.inl ⟨.bool true,.bool true,[],rfl,fun _=>rfl,.bool true,zg l _,fun _=>⟨List.Pairwise.nil,fun _ hm=>(nomatch hm)⟩⟩,h2,h3,h4⟩
end Att
namespace L2
open PySem PySem.Spec PyProof.Rows
theorem tZ:∀ {vs:List Value} {ns:List Int},IntsAre vs ns->Vals (ns.map V.int) vs
 | _,_,.nil=>.nil
 | _,_,.cons n t h=>.cons ⟨t,rfl⟩ (tZ h)
def Only (H:Hp):Prop:=∀ b,H b=none\/∃ o xs,H b=some (.frz o (.lst xs))
theorem Ba {P:Program} {w:World} {K:W.Frag} {mg mb:Str->Option Value} {CX:zZ} {k:Nat} {fa a:Addr} {fd:FuncData} {x:Str} {sp:Sp} {s₁:Shared} {vs:List Value} {ns:List Int}
  (KX:K.In s₁.heap) (hns:s₁.heap.Ns mainGlobals mg) (hb:s₁.heap.Ns builtinsNs mb) (hbb:∀ x:Str,x≠"__name__"->mb x=bootBuiltins x) (hlim:s₁.heap.NoLimit) (hsm:∃ mm,s₁.heap.Ns sysModules mm) (hg:s₁.gens= #[])
  (ha:s₁.heap.get? a=some {cls:=.type "list",data:=.seq vs.toArray}) (hi:IntsAre vs ns) (hl:ns.length<=sizeLine) (hr:Room k callerA)
  (F:∀ base:Heap,K.In base->base.Ns mainGlobals mg->oX P w K mg base CX k fa fd [x] sp) (hbind:∀ (s:Shared) (u:Value),BindsTo s fd ⟨[u],[]⟩ [(x,u)])
  (hsp:∀ H:Hp,Only H->SqL K H a (ns.map V.int)->sp [.ref a] H (fun v _=>v= .bl true) fun _ _ _=>False)
  (hCX:∀ H e s',CX [] H s₁ (fun _ _ _=>False) e s'->False):
  codeAny (model P w) callerA (.call (.ref fa) ⟨[.ref a],[]⟩) (fun r s'=>r= .ok (.ret (.bool true))/\OldK s₁.heap s'.heap/\s'.os=s₁.os/\AllBare s'.gens) s₁:=by
 have rv:=tZ hi
 have lenV:=hi.length
 have core:∀ H:Hp,Only H->SqL K H a (ns.map V.int)->HOk P w H s₁.heap->(∀ b,H b≠none->b=a)->(H a≠none->K.lookup a=none)->
   codeAny (model P w) callerA (.call (.ref fa) ⟨[.ref a],[]⟩) (fun r s'=>r= .ok (.ret (.bool true))/\OldK s₁.heap s'.heap/\s'.os=s₁.os/\AllBare s'.gens) s₁:=by
  intro H hO hS hok hA hK
  have base_of:∀ {b:Addr} {o:Obj},s₁.heap.get? b=some o->H b=none->(uy s₁.heap H).get? b=some o:=fun e n=>z9 e n
  have noA:∀ {b:Addr} {o:Obj} {es:Array DictEntry} {ep:Nat},s₁.heap.get? b=some o->o.data= .dict es ep->H b=none:=fun {b o es ep} e d=>by
   cases q:H b with
   | none=>rfl
   | some u=>
    have e':b=a:=hA b (by rw [q];simp)
    subst e'
    rw [ha] at e;cases e
    have d':Data.seq vs.toArray _=Data.dict es ep:=d
    cases d'
  have nsK:∀ {b:Addr} {m:Str->Option Value},s₁.heap.Ns b m->(uy s₁.heap H).Ns b m:=fun {b m} ⟨o,es,ep,e,d,r⟩=>⟨o,es,ep,base_of e (noA e d),d,r⟩
  have hKb:K.In (uy s₁.heap H):=fun b o e=>base_of (KX b o e) (by
   cases q:H b with
   | none=>rfl
   | some u=>
    have e':b=a:=hA b (by rw [q];simp)
    subst e'
    rw [hK (by rw [q];simp)] at e;cases e)
  have hM:Mod K mg (uy s₁.heap H):=⟨hKb,nsK hns,⟨mb,nsK hb,hbb⟩,(let ⟨mc,h1,h2⟩:=hlim;⟨mc,nsK h1,h2⟩),let ⟨mm,h1⟩:=hsm;⟨mm,nsK h1⟩⟩
  have e0:Env0 P w K mg (uy s₁.heap H) callerA [] s₁ H:=⟨rfl,hM,fun b o e=>DP e,Nat.le_of_eq (yL _ _),trivial,fun b hb=>absurd (show b∈([]:List Addr) from hb) (by simp),hok,.of_eq hg⟩
  refine codeAny_mono ((F _ hKb (nsK hns)).run callerA [] s₁ H ⟨[.ref a],[]⟩ [.ref a] [.ref a] _ _ hr e0 (hbind s₁ (.ref a)) (.cons rfl .nil) (hsp H hO hS)) fun r s' h=>?_
  cases r with
  | error e=>exact (hCX H e s' h).elim
  | ok fl=>
   cases fl with
   | next=>exact False.elim h
   | brk=>exact False.elim h
   | cont=>exact False.elim h
   | ret u=>
    obtain ⟨v,H',os,bare,un,hok',r',q⟩:=h
    have q':v= .bl true:=q
    subst q'
    obtain rfl:u=Value.bool true:=r'
    refine ⟨rfl,OldK.of_keep fun b o e=>?_,os,bare⟩
    cases q:H b with
    | none=>exact un.keep b o e q (by intro z;exact absurd (show b∈([]:List Addr) from z) (by simp)) (by simp)
    | some u=>
     rcases hO b with z | ⟨ob,xs,z⟩
     ·rw [q] at z;cases z
     ·have z2:=un.frzs b ob _ z
      obtain ⟨e1,_⟩:=hok b _ z
      obtain ⟨e2,_⟩:=hok' b _ z2
      rw [e] at e1;cases e1
      exact e2
 cases hk:K.lookup a with
 | some o=>
  have e:=KX a o hk
  rw [ha] at e
  cases e
  refine core (fun _=>none) (fun _=>.inl rfl) (.inr ⟨_,vs.toArray,_,hk,rfl,rfl,rfl,by rw [List.size_toArray,lenV];exact hl,by simpa using rv⟩) (fun b u z=>by have z':(none:Option HO)=some u:=z;cases z') (fun b z=>absurd rfl z) fun z=>absurd rfl z
 | none=>
  refine core (fun b=>if b=a then some (.frz {cls:=.type "list",data:=.seq vs.toArray} (.lst (ns.map V.int))) else none) (fun b=>?_) (.inl (.inr ⟨{cls:=.type "list",data:=.seq vs.toArray},if_pos rfl⟩)) (fun b u z=>?_) (fun b z=>?_) fun _=>hk
  ·by_cases hb:b=a
   ·exact .inr ⟨_,_,if_pos hb⟩
   ·exact .inl (if_neg hb)
  ·by_cases hb:b=a
   ·have z':=(if_pos hb).symm.trans z
    cases z'
    subst hb
    exact ⟨ha,by rw [List.length_map];exact hl,vs,_,rv,ha⟩
   ·have z':=(if_neg hb).symm.trans z
    cases z'
  ·by_cases hb:b=a
   ·exact hb
   ·exact absurd (if_neg hb) z
abbrev KOf {K:W.Frag} {h:Heap} (_:K.In h):W.Frag:=K
theorem Es {l:PySem.W.OpenLaw} {n k:Nat} {q:Program} {loose:List Str} {XP:(Str->Option Value)->Heap->Prop} {YP:World->Heap->Prop} {d:DefRec} {K:Params->W.Frag} {CX:World->zZ} {sp:World->Sp} {x:Str}
  (hn:l.most=some n) (hn2:n<=sizeLine) (hdf:d.params.defaults=[]) (hr:Room k callerA)
  (hY:∀ (w:World) (h:Heap),YP w h->(K w.params).In h)
  (F:∀ (w:World) (mg:Str->Option Value) (fa:Addr) (h:Heap),(K w.params).In h->h.Ns mainGlobals mg->mg d.name=some (.ref fa)->
   ∃ fd:FuncData,(∀ (s:Shared) (u:Value),BindsTo s fd ⟨[u],[]⟩ [(x,u)])/\
    ∀ base:Heap,(K w.params).In base->base.Ns mainGlobals mg->oX l.prog w (K w.params) mg base (CX w) k fa fd [x] (sp w))
  (hsp:∀ (w:World) (H:Hp) (a:Addr) (ns:List Int),ns.length<=n->Only H->SqL (K w.params) H a (ns.map V.int)->sp w [.ref a] H (fun v _=>v= .bl true) fun _ _ _=>False)
  (hCX:∀ (w:World) (H:Hp) (s:Shared) (e:Value) (s':Shared),CX w [] H s (fun _ _ _=>False) e s'->False) (him:importsNone q=true):
  PySem.W.WalkO q loose XP YP l.row.toRowW d [] (fun f vs=>PySem.call f vs):=by
 refine Att.attach_call hn hdf fun w s₀ s₁ mg mb fa o pm cd doc a vs ns G Y ho hd hcd hmg hobj hints hlen hg=>?_
 have KX:=hY w _ Y
 obtain ⟨fd,hb,hF⟩:=F w mg fa _ KX G.T.g hmg
 exact Ba KX G.T.g G.T.b G.T.builtins G.T.nolimit (let ⟨mm,h1,_⟩:=(G.T.seer him).mods;⟨mm,h1⟩) hg hobj hints (Nat.le_trans hlen hn2) hr hF hb (fun H hO hS=>hsp w H a ns hlen hO hS) fun H e s'=>hCX w H s₁ e s'
def fU (s:Stmt):Arguments:=match s with
 | .FunctionDef _ a _ _ _ _ _ _ _ _=>a
 | _=>{posonlyargs:=[],args:=[],vararg:=none,kwonlyargs:=[],kw_defaults:=[],kwarg:=none,defaults:=[]}
def cI (s:Stmt):List Stmt:=match s with
 | .FunctionDef _ _ b _ _ _ _ _ _ _=>b
 | _=>[]
def ak (s:Stmt):Scope:=match s with
 | .FunctionDef _ _ _ _ _ _ sc _ _ _=>sc
 | _=>{kind:=.function,names:=[],isGenerator:=false,isCoroutine:=false}
abbrev zj:zZ:=fun _ _ _ _ _ _=>False
abbrev E0:XK:=fun _ _ _=>False
theorem NB {X:Cx}:wX zj X E0:=fun _ _ _ _ _ _ _ h=>h.elim
structure Fun (K:W.Frag) (x qual:Str) (st:Stmt) (f:Addr) (fd:FuncData):Prop where
 ex:∃ (oc:Value) (od:Option Addr) (kV doc pm:Value) (an:Option Addr) (cdv ct:Value) (osl:Array (Option Value)),
  fd=PySem.W.fnOf x qual (fU st) (cI st) (ak st) .none kV doc pm an cdv ct/\K.lookup f=some ⟨oc,od,.func fd,osl⟩/\PySem.W.codeIn K cdv qual=true
 kp:PySem.W.keepIn K (.ref f)=true
section
variable {P:Program} {w:World} {K:W.Frag} {mg:Str->Option Value} {base:Heap}
theorem Fun.ok {x qual:Str} {st:Stmt} {f:Addr} {fd:FuncData} {N ps:List Str} {k:Nat} {sp:Sp} (F:Fun K x qual st f fd) (S:aK N ps (ak st)) (len:∀ vs H Q E,sp vs H Q E->vs.length=ps.length)
  (hbody:∀ (cdv:Value) (A:Around) (outer:List Env) (s:Shared) (H:Hp) (vs:List V) (Q:VK) (E:XK),Room k (A.deeper (envOfC qual (ak st) s.heap.objs.size f cdv))->sp vs H Q E->
   ∃ t,PSs (m5 zj P w K mg base N qual (ak st) f cdv A outer s H E).nox (cI st) t/\t {nx:=fun _ H'=>Q .non H',rt:=Q} (start N vs) H):oX P w K mg base zj (k+1) f fd ps sp:=by
 obtain ⟨oc,od,kV,doc,pm,an,cdv,ct,osl,rfl,lk,hcd⟩:=F.ex
 refine Hx lk hcd S len fun A outer s H vs Q E hr hsp=>?_
 obtain ⟨t,h,q⟩:=hbody cdv A outer s H vs Q E hr hsp
 exact ⟨t,h.nox,q⟩
theorem Fun.binds {x qual:Str} {st:Stmt} {f:Addr} {fd:FuncData} {ps:List Str} (F:Fun K x qual st f fd)
  (h:∀ (kV doc pm:Value) (an:Option Addr) (cdv ct:Value) (us:List Value),us.length=ps.length->bindArgs (PySem.W.fnOf x qual (fU st) (cI st) (ak st) .none kV doc pm an cdv ct) ⟨us,[]⟩=pure (ps.zip us)):Binds K fd ps []:=by
 obtain ⟨oc,od,kV,doc,pm,an,cdv,ct,osl,rfl,lk,hcd⟩:=F.ex
 exact .all (h kV doc pm an cdv ct)
theorem Bb {x qual:Str} {st:Stmt} {f:Addr} {oc:Value} {od an:Option Addr} {osl:Array (Option Value)} {kV doc pm cdv ct:Value} (l:K.lookup f=some ⟨oc,od,.func (PySem.W.fnOf x qual (fU st) (cI st) (ak st) .none kV doc pm an cdv ct),osl⟩)
  (c:PySem.W.codeIn K cdv qual=true) (k:PySem.W.keepIn K (.ref f)=true):Fun K x qual st f (PySem.W.fnOf x qual (fU st) (cI st) (ak st) .none kV doc pm an cdv ct):=⟨⟨oc,od,kV,doc,pm,an,cdv,ct,osl,rfl,l,c⟩,k⟩
end
theorem pZ {A B:Prop} (h:B):if false=true then A else B:=by
 rw [if_neg Bool.false_ne_true]
 exact h
theorem p6 {A B:Prop} (h:A):if true=true then A else B:=by
 rw [if_pos rfl]
 exact h
def Same (H H':Hp):Prop:=∀ b o,H b=some o->H' b=some o
theorem Same.refl (H:Hp):Same H H:=fun _ _ h=>h
theorem Same.trans {H H1 H2:Hp} (a:Same H H1) (b:Same H1 H2):Same H H2:=fun c o h=>b c o (a c o h)
end L2
set_option maxHeartbeats 4000000
namespace L2
open PySem PySem.Spec PyProof.Rows
def p7 (env:Env):List (Str×NameKind)->List (Str×Addr)->List (Str×Addr)
 | [],acc=>acc
 | (n,k) :: r,acc=>p7 env r (if k == .free then (match env.cells.lookup n with | some c=>(n,c) :: acc | none=>acc) else acc)
theorem qT {env:Env}:∀ {names:List (Str×NameKind)} {acc:List (Str×Addr)},(∀ x c,(x,c)∈acc->env.cells.lookup x=some c)->∀ x c,(x,c)∈p7 env names acc->env.cells.lookup x=some c
 | [],_,h,x,c,m=>h x c m
 | (n,k) :: r,acc,h,x,c,m=>by
  refine qT (names:=r) ?_ x c m
  intro y d hm
  cases hk:(k == NameKind.free) with
  | false=>rw [hk] at hm;exact h y d hm
  | true=>
   rw [hk] at hm
   simp only [if_true] at hm
   cases e:env.cells.lookup n with
   | none=>rw [e] at hm;exact h y d hm
   | some c'=>
    rw [e] at hm
    rcases List.mem_cons.mp hm with z | z
    ·cases z;exact e
    ·exact h y d z
theorem vH {env:Env}:∀ {names:List (Str×NameKind)} {acc:List (Str×Addr)} {p:Str×Addr},p∈acc->p∈p7 env names acc
 | [],_,_,h=>h
 | (n,k) :: r,acc,p,h=>by
  refine vH (names:=r) ?_
  split
  ·split
   ·exact List.mem_cons_of_mem _ h
   ·exact h
  ·exact h
theorem qU {env:Env} {x:Str} {c:Addr} (e:env.cells.lookup x=some c):∀ {names:List (Str×NameKind)} {acc:List (Str×Addr)},(x,NameKind.free)∈names->(x,c)∈p7 env names acc
 | [],_,h=>by simp at h
 | (n,k) :: r,acc,h=>by
  rcases List.mem_cons.mp h with z | z
  ·cases z
   refine vH (names:=r) ?_
   rw [e]
   simp
  ·exact qU e (names:=r) z
theorem sU {l:List (Str×Addr)} {x:Str} {c:Addr} (hm:(x,c)∈l) (ha:∀ d,(x,d)∈l->d=c):l.lookup x=some c:=by
 induction l with
 | nil=>simp at hm
 | cons p r ih=>
  obtain ⟨n,d⟩:=p
  by_cases e:x=n
  ·subst e
   have:d=c:=ha d (by simp)
   subst this
   simp [List.lookup_cons]
  ·have hb:(x == n)=false:=by simpa using e
   rw [List.lookup_cons,hb]
   refine ih ?_ fun d' h'=>ha d' (List.mem_cons_of_mem _ h')
   rcases List.mem_cons.mp hm with z | z
   ·cases z;exact absurd rfl e
   ·exact z
theorem vI {env:Env} {names:List (Str×NameKind)} {x:Str} {c:Addr} (e:env.cells.lookup x=some c) (h:(x,NameKind.free)∈names):(p7 env names []).lookup x=some c:=
 sU (qU e h) fun d hd=>by
  have q:=qT (names:=names) (acc:=[]) (env:=env) (by simp) x d hd
  rw [e] at q
  exact (Option.some.inj q).symm
theorem zm {env:Env} {names:List (Str×NameKind)} {x:Str} {c:Addr} (e:(p7 env names []).lookup x=some c):env.cells.lookup x=some c:=
 qT (names:=names) (acc:=[]) (env:=env) (by simp) x c (PySem.mem_of_lookup e)
theorem mD {env:Env}:∀ (names:List (Str×NameKind)) (acc:List (Str×Addr)),(∀ x∈names,x.2=NameKind.free->∃ c,env.cells.lookup x.1=some c)->
  (forIn (m:=Sem) names acc fun x r=>match x with
   | (name,kind)=>if (kind == NameKind.free)=true then do let c ← cellOf env name;pure (ForInStep.yield ((name,c) :: r)) else pure (ForInStep.yield r))=pure (p7 env names acc)
 | [],acc,_=>rfl
 | (n,k) :: r,acc,h=>by
  rw [List.forIn_cons]
  cases hk:(k == NameKind.free) with
  | false=>
   simp only [hk,Bool.false_eq_true,if_false,pure_bind,p7]
   exact mD r acc fun x hx=>h x (List.mem_cons_of_mem _ hx)
  | true=>
   obtain ⟨c,e⟩:=h (n,k) List.mem_cons_self (by simpa using hk)
   simp only [hk,if_true,pure_bind,p7,cellOf,e]
   exact mD r ((n,c) :: acc) fun x hx=>h x (List.mem_cons_of_mem _ hx)
theorem lZ {scope:Scope} {env:Env} (h:∀ x∈scope.names,x.2=NameKind.free->∃ c,env.cells.lookup x.1=some c):closureFor scope env=pure (p7 env scope.names []):=by
 unfold closureFor
 have:=mD (env:=env) scope.names [] h
 simp only [this,pure_bind]
theorem t6 {prog:Program} {w:World} {A:Around} {R:Result->Shared->Prop} {s:Shared} {elt target iter:Expr} {ifs:List Expr} {scope:Scope} {pos:Pos} {it acc:Value} {env:Env} (I:Nat->Shared->Prop)
  (turn:∀ n s,I n s->wpAny (model prog w) A (pyNext it) (fun r s₁=>match r with
   | none=>R (.ok .next) s₁
   | some v=>wpAny (model prog w) A (letOwnedTupleGo target it v) (fun _ s₁'=>wpAny (model prog w) A (assign target env v) (fun _ s₂=>
     wpAny (model prog w) A (forIn ifs true fun c r=>if r=true then do let ok ← isTrue c env (eval c env);pure (ForInStep.yield ok) else pure (ForInStep.yield r)) (fun ok s₃=>
      if ok=true then wpAny (model prog w) A (eval elt env) (fun x s₄=>
       wpAny (model prog w) A (call (.builtin "list.append") [acc,x]) (fun _ s₅=>∃ m,m < n/\I m s₅) (fun _ _=>False) s₄) (fun _ _=>False) s₃
      else ∃ m,m < n/\I m s₃) (fun _ _=>False) s₂) (fun _ _=>False) s₁') (fun _ _=>False) s₁) (fun _ _=>False) s)
  (n:Nat) (h:I n s):
  codeAny (model prog w) A (.compLoop (.ListComp elt [⟨target,iter,ifs,0⟩] scope pos) 0 it acc env) R s:=by
 refine codeAny_loop rfl I (fun n s hI=>?_) n h
 show wpAny _ A ((compTurn (.ListComp elt [⟨target,iter,ifs,0⟩] scope pos) 0 it acc env).onRaise (fun x=>do noteFrame x env;theTreesLotGoes x)) _ _ s
 refine wpAny_noted ?_
 rw [compTurn_list]
 refine wpAny_bind (wpAny_standAt (wpAny_bind (wpAny_mono (turn n s hI) (fun r s₁ h₁=>?_) fun _ _ h'=>h'.elim)))
 cases r with
 | none=>exact wpAny_pure h₁
 | some v=>
  refine wpAny_bind (wpAny_mono h₁ (fun _ s₁' h₁'=>?_) fun _ _ h'=>h'.elim)
  refine wpAny_bind (wpAny_mono h₁' (fun _ s₂ h₂=>wpAny_bind (wpAny_mono h₂ (fun ok s₃ h₃=>?_) fun _ _ h'=>h'.elim)) fun _ _ h'=>h'.elim)
  cases ok with
  | false=>exact wpAny_pure ⟨rfl,h₃⟩
  | true=>
   exact wpAny_bind (wpAny_bind (wpAny_mono h₃ (fun x s₄ h₄=>wpAny_bind (wpAny_mono h₄ (fun _ s₅ h₅=>wpAny_pure (wpAny_pure ⟨rfl,h₅⟩)) fun _ _ h'=>h'.elim)) fun _ _ h'=>h'.elim))
theorem cT:∀ (names:List (Str×NameKind)) (n:Nat) (acc:List (Str×Addr)),cellsFrom n names acc=cellsFrom n names [] ++ acc
 | [],_,_=>rfl
 | (x,k) :: r,n,acc=>by
  unfold cellsFrom
  split
  ·rw [cT r (n+1) ((x,n) :: acc),cT r (n+1) [(x,n)],List.append_assoc];rfl
  ·exact cT r n acc
theorem m8 {α:Type}:∀ {A B:List (Str×α)} {x:Str},(A ++ B).lookup x=(match A.lookup x with | some c=>some c | none=>B.lookup x)
 | [],_,_=>rfl
 | (y,c) :: A,B,x=>by
  rw [List.cons_append,List.lookup_cons,List.lookup_cons]
  cases x == y with
  | true=>rfl
  | false=>exact m8 (A:=A)
theorem qW:∀ {names:List (Str×NameKind)} {n:Nat} {acc:List (Str×Addr)} {x:Str} {c:Addr},(x,c)∈cellsFrom n names acc->(x,c)∈acc\/(x,NameKind.cell)∈names
 | [],_,_,_,_,h=>.inl h
 | (y,k) :: r,n,acc,x,c,h=>by
  unfold cellsFrom at h
  split at h
  ·rename_i hk
   rcases qW h with z | z
   ·rcases List.mem_cons.mp z with z | z
    ·cases z
     have:k= .cell:=by simpa using hk
     rw [this];exact .inr List.mem_cons_self
    ·exact .inl z
   ·exact .inr (List.mem_cons_of_mem _ z)
  ·exact (qW h).imp id (List.mem_cons_of_mem _)
theorem m9 {α:Type}:∀ {l:List (Str×α)} {x:Str} {c:α},(x,c)∈l->∃ d,l.lookup x=some d
 | (y,d) :: r,x,c,h=>by
  by_cases e:x=y
  ·subst e;exact ⟨d,by simp [List.lookup_cons]⟩
  ·have hb:(x == y)=false:=by simpa using e
   rw [List.lookup_cons,hb]
   rcases List.mem_cons.mp h with z | z
   ·cases z;exact absurd rfl e
   ·exact m9 z
theorem ni:∀ {names:List (Str×NameKind)} {n:Nat} {acc:List (Str×Addr)} {x:Str},(x,NameKind.cell)∈names\/(∃ c,(x,c)∈acc)->∃ c,(x,c)∈cellsFrom n names acc
 | [],_,_,_,h=>h.elim (fun h=>by simp at h) id
 | (y,k) :: r,n,acc,x,h=>by
  unfold cellsFrom
  split
  ·refine ni ?_
   rcases h with h | ⟨c,h⟩
   ·rcases List.mem_cons.mp h with z | z
    ·cases z;exact .inr ⟨n,List.mem_cons_self⟩
    ·exact .inl z
   ·exact .inr ⟨c,List.mem_cons_of_mem _ h⟩
  ·rename_i hk
   refine ni ?_
   rcases h with h | h
   ·rcases List.mem_cons.mp h with z | z
    ·cases z;exact absurd (by decide) hk
    ·exact .inl z
   ·exact .inr h
def zp (X:Cx) (scope:Scope) (C:Addr):List (Str×Addr):=cellsFrom (C+1) scope.names (p7 X.env scope.names [])
section
variable {M:Model} {A:Around} {E:Value->Shared->Prop} {s:Shared}
theorem fH {scope:Scope} {globals:Addr} {cl:List (Str×Addr)} {qual:Str} {env:Env} {Q:Env->Shared->Prop}
  (hQ:∀ h':Heap,h'.Ns s.heap.objs.size (fun _=>none)->(∀ b o,s.heap.get? b=some o->h'.get? b=some o)->CellsOk h' (s.heap.objs.size+1) (cellsFrom (s.heap.objs.size+1) scope.names [])->
   Q (newEnv scope s.heap.objs.size globals (cellsFrom (s.heap.objs.size+1) scope.names cl) qual none .none (some env) builtinsNs) {s with heap:=h',toks:=s.toks+([]:List (Str×Value)).length}):
  wpAny M A (newFunctionEnv scope globals cl [] qual none .none (some env)) Q E s:=by
 simp only [newFunctionEnv,Option.isSome_some,if_true]
 refine wpAny_bind (wpAny_alloc ?_)
 refine wpAny_bind (wpAny_layCells _ (fun name kind cells=>by cases hkc:kind == NameKind.cell <;> simp [hkc]) _ _ _ _ ?_)
 have ok:=cellsFrom_ok scope.names (s.heap.push {cls:=.type "dict",data:=.dict #[]}) (s.heap.objs.size+1) [] ⟨fun _ _ hm=>(nomatch hm),List.Pairwise.nil⟩ (by rw [Heap.size_push];exact Nat.le_refl _)
 rw [Heap.size_push] at ok
 rw [show ({s with heap:=s.heap.push {cls:=.type "dict",data:=.dict #[]}}:Shared).heap.objs.size=s.heap.objs.size+1 from Heap.size_push ..]
 exact wpAny_bind (wpAny_pure (wpAny_pure (hQ _ ((Heap.Ns.new s.heap (.type "dict")).keeps (pushCells_keeps _ _)) (fun b o e=>pushCells_keeps _ _ b o (Heap.get?_push_of_some _ e)) ok)))
end
def lW (X:Cx) (N':List Str) (scope:Scope) (C:Addr) (s₀:Shared) (H₀:Hp) (ex:List Addr):Cx:=
 {X with N:=N',s₀:=s₀,H₀:=H₀,env:=compEnvC scope (zp X scope C) C X.env,outer:=X.stack,ex:=ex,fn:=fun x=>decide (scope.names.lookup x=some .cell),pn:=[],xe:=fun _ _=>False}
def cV (sub:List (Option Nat)) (U:St):St:=sub.map fun o=>o.bind fun j=>(U[j]?).join
structure mj (N:List Str) (sc:Scope) (N':List Str) (scope:Scope) (sub:List (Option Nat)):Prop where
 kind:scope.kind= .function
 cel:∀ x∈scope.names,x.2= .cell->scope.names.lookup x.1=some .cell
 loc:∀ x∈scope.names,x.2= .local->scope.names.lookup x.1=some .local
 free:∀ x∈scope.names,x.2= .free->sc.names.lookup x.1=some .cell\/sc.names.lookup x.1=some .free
 len:sub.length=N'.length
 at_:∀ (i j:Nat) (x:Str),sub[i]?=some (some j)->N'[i]?=some x->N[j]?=some x/\(x,NameKind.free)∈scope.names/\scope.names.lookup x=some .free
def Bc (N:List Str) (sc:Scope) (N':List Str) (scope:Scope) (sub:List (Option Nat)):Bool:=
 decide (scope.kind= .function) && scope.names.all (fun x=>decide (x.2= .cell->scope.names.lookup x.1=some .cell)) && scope.names.all (fun x=>decide (x.2= .local->scope.names.lookup x.1=some .local)) &&
 scope.names.all (fun x=>decide (x.2= .free->sc.names.lookup x.1=some .cell\/sc.names.lookup x.1=some .free)) && decide (sub.length=N'.length) &&
 (List.range sub.length).all fun i=>match sub[i]?,N'[i]? with
  | some (some j),some x=>decide (N[j]?=some x/\(x,NameKind.free)∈scope.names/\scope.names.lookup x=some .free)
  | _,_=>true
theorem aY {N:List Str} {sc:Scope} {N':List Str} {scope:Scope} {sub:List (Option Nat)} (h:Bc N sc N' scope sub=true):mj N sc N' scope sub:=by
 simp only [Bc,Bool.and_eq_true,decide_eq_true_eq,List.all_eq_true] at h
 obtain ⟨⟨⟨⟨⟨h1,h2⟩,h3⟩,h4⟩,h5⟩,h6⟩:=h
 refine ⟨h1,h2,h3,h4,h5,fun i j x e1 e2=>?_⟩
 have hi:i < sub.length:=(List.getElem?_eq_some_iff.mp e1).1
 have q:=h6 i (List.mem_range.mpr hi)
 rw [e1,e2] at q
 simpa using q
def Bd:TT:=fun _ H Q=>Q true H
def uJ (X:Cx) (ifs:List Expr) (t:TT):Prop:=
 ∀ (pins:List (Addr×Obj)) (s:Shared) (U:St) (H:Hp) (Q:Bool->Hp->Prop),Inv X pins U H s->t U H Q->
  wpAny (model X.prog X.w) X.A (forIn ifs true fun c r=>if r=true then do let ok ← isTrue c X.env (eval c X.env);pure (ForInStep.yield ok) else pure (ForInStep.yield r)) (TP X pins U Q) X.xe s
theorem Be {X:Cx}:uJ X [] Bd:=fun _ _ _ H _ I h=>wpAny_tests_nil ⟨H,I,h⟩
theorem Bf {X:Cx} {c:Expr} {t:TT} (hc:PT X c t):uJ X [c] t:=fun pins s U H Q I h=>wpAny_tests_one (hc pins s U H Q I h)
def KeepSt (U U':St):Prop:=U'.length=U.length/\∀ (i:Nat) (v:V),U[i]?=some (some v)->U'[i]?=some (some v)
theorem KeepSt.set {U:St} {i:Nat} {v:V} (h:U[i]?=some none):KeepSt U (U.set i (some v)):=by
 refine ⟨by simp,fun j u e=>?_⟩
 by_cases hj:i=j
 ·subst hj;rw [h] at e;cases e
 ·rw [List.getElem?_set_ne hj];exact e
def qX (sub:List (Option Nat)) (wi:TI) (g:TG) (tt:TT) (te:TE):TE:=fun U H Q=>wi U H fun J H1=>∃ W:Nat->Nat->List V->Hp->Prop,(∃ m,W 0 m [] H1)/\∀ i m ys H,W i m ys H->
 (J.stop i H/\ys.length<=sizeLine/\∀ D,H D=none->Q (.ref D) (upd H D (.lst ys)))\/
 (J.go i H/\ys.length < sizeLine/\∃ N:List V->Hp->Prop,(∀ ys' H',N ys' H'->∃ m',m' < m/\W (i+1) m' ys' H')/\
  ∀ x H',J.yld i H x H'->g x (cV sub U) H' fun σ2 H2=>KeepSt (cV sub U) σ2/\tt σ2 H2 fun b H3=>if b=true then te σ2 H3 fun y H4=>N (ys ++ [y]) H4 else N ys H3)
theorem jJ {scope:Scope} {env:Env} {x:Str} (hx:scope.names.lookup x=some .free):(relabel scope env).names.lookup x=some .cell\/(relabel scope env).names.lookup x=some .free:=by
 have:∀ names:List (Str×NameKind),names.lookup x=some .free->
  (names.map fun (n,k)=>if (k == NameKind.free && env.scope.kind == .function && env.kindOf n == some .cell) then (n,NameKind.cell) else (n,k)).lookup x=some .cell\/
  (names.map fun (n,k)=>if (k == NameKind.free && env.scope.kind == .function && env.kindOf n == some .cell) then (n,NameKind.cell) else (n,k)).lookup x=some .free:=by
  intro names
  induction names with
  | nil=>intro h;simp at h
  | cons p r ih=>
   obtain ⟨n,k⟩:=p
   intro h
   by_cases e:x=n
   ·subst e
    have hk:k= .free:=by simpa [List.lookup_cons] using h
    subst hk
    by_cases hc:((NameKind.free == NameKind.free && env.scope.kind == .function && env.kindOf x == some .cell)=true)
    ·left;simp only [List.map_cons];rw [if_pos hc];simp [List.lookup_cons]
    ·right;simp only [List.map_cons];rw [if_neg hc];simp [List.lookup_cons]
   ·have hb:(x == n)=false:=by simpa using e
    rw [List.lookup_cons,hb] at h
    have q:=ih h
    simp only [List.map_cons]
    split <;> (rw [List.lookup_cons,hb];exact q)
 exact this scope.names hx
theorem uK {scope:Scope} {env:Env} {x:Str} (h:(relabel scope env).names.lookup x=some .cell\/(relabel scope env).names.lookup x=some .free):(x,NameKind.cell)∈scope.names\/(x,NameKind.free)∈scope.names:=by
 have key:∀ k,(k=NameKind.cell\/k=NameKind.free)->(relabel scope env).names.lookup x=some k->(x,NameKind.cell)∈scope.names\/(x,NameKind.free)∈scope.names:=by
  intro k hk hl
  have hm:=PySem.mem_of_lookup hl
  unfold relabel at hm
  obtain ⟨⟨n,k'⟩,hm1,hm2⟩:=List.mem_map.mp hm
  dsimp only at hm2
  by_cases hc:(k' == NameKind.free && env.scope.kind == .function && env.kindOf n == some .cell)=true
  ·rw [if_pos hc] at hm2
   cases hm2
   simp only [Bool.and_eq_true,beq_iff_eq] at hc
   rw [← hc.1.1];exact .inr hm1
  ·rw [if_neg hc] at hm2
   cases hm2
   rcases hk with hk | hk
   ·subst hk;exact .inl hm1
   ·subst hk;exact .inr hm1
 rcases h with h | h
 ·exact key _ (.inl rfl) h
 ·exact key _ (.inr rfl) h
theorem uL {scope:Scope} {env:Env} {x:Str} (hx:scope.names.lookup x=some .cell):(relabel scope env).names.lookup x=some .cell:=by
 have:∀ names:List (Str×NameKind),names.lookup x=some .cell->
  (names.map fun (n,k)=>if (k == NameKind.free && env.scope.kind == .function && env.kindOf n == some .cell) then (n,NameKind.cell) else (n,k)).lookup x=some .cell:=by
  intro names
  induction names with
  | nil=>intro h;simp at h
  | cons p r ih=>
   obtain ⟨n,k⟩:=p
   intro h
   by_cases e:x=n
   ·subst e
    have hk:k= .cell:=by simpa [List.lookup_cons] using h
    subst hk
    simp only [List.map_cons]
    split <;> simp [List.lookup_cons]
   ·have hb:(x == n)=false:=by simpa using e
    rw [List.lookup_cons,hb] at h
    have q:=ih h
    simp only [List.map_cons]
    split <;> (rw [List.lookup_cons,hb];exact q)
 exact this scope.names hx
section
variable {X:Cx} {tg iter elt:Expr} {ifs:List Expr} {scope:Scope} {pos:Pos} {N':List Str} {sub:List (Option Nat)} {wi:TI} {g:TG} {tt:TT} {te:TE}
theorem t7 {pins:List (Addr×Obj)} {U:St} {H:Hp} {s:Shared} {fp:List Addr} {D:Addr} {h':Heap} {tk:Nat} {N:List Str} {sc:Scope} (S:mj N sc N' scope sub) (hN:X.N=N) (hsc:X.env.scope=sc) (I:Inv X pins U H s) (hf:∀ b∈fp,kW X pins H b) (hfo:∀ b∈fp,b < s.heap.objs.size)
  (hD:D < s.heap.objs.size) (fD:kW X pins H D) (hns:h'.Ns s.heap.objs.size fun _=>none) (hk:∀ b o,s.heap.get? b=some o->h'.get? b=some o) (hc:CellsOk h' (s.heap.objs.size+1) (cellsFrom (s.heap.objs.size+1) scope.names [])):
  Inv (lW X N' scope s.heap.objs.size s H (D :: fp)) [] (cV sub U) H {s with heap:=h',toks:=tk}:=by
 have hex:∀ b∈D :: fp,kW X pins H b/\b < s.heap.objs.size:=fun b hb=>by
  rcases List.mem_cons.mp hb with rfl | z
  ·exact ⟨fD,hD⟩
  ·exact ⟨hf b z,hfo b z⟩
 have spl:∀ {x c},(zp X scope s.heap.objs.size).lookup x=some c->(h'.IsCell c none/\s.heap.objs.size+1<=c/\(x,c)∈cellsFrom (s.heap.objs.size+1) scope.names [])\/(X.env.cells.lookup x=some c/\∃ o,s.heap.get? c=some o):=fun {x c} h=>by
  unfold zp at h
  rw [cT,m8] at h
  cases e:(cellsFrom (s.heap.objs.size+1) scope.names []).lookup x with
  | some d=>
   rw [e] at h
   cases h
   have m:=PySem.mem_of_lookup e
   exact .inl ⟨(hc.empty _ _ m).1,(hc.empty _ _ m).2,m⟩
  | none=>
   rw [e] at h
   have z:=zm h
   obtain ⟨v,o,ho,_⟩:=I.cell x c z
   exact .inr ⟨z,o,ho⟩
 have fre:∀ {x c},(x,NameKind.free)∈scope.names->scope.names.lookup x=some .free->X.env.cells.lookup x=some c->(zp X scope s.heap.objs.size).lookup x=some c:=fun {x c} h1 h2 h3=>by
  unfold zp
  rw [cT,m8]
  cases e:(cellsFrom (s.heap.objs.size+1) scope.names []).lookup x with
  | some d=>
   rcases qW (PySem.mem_of_lookup e) with z | z
   ·cases z
   ·have:=S.cel _ z rfl
    rw [h2] at this;cases this
  | none=>exact vI h3 h1
 refine ⟨⟨I.ok.mod,S.kind,I.ok.glob,I.ok.blt,Nat.le_refl _,fun x y c h1 h2=>?_,fun x hx=>?_,fun x c hx h=>?_,I.ok.hd,I.ok.frames,.inl rfl,fun b hb=>?_,I.bs,Nat.le_trans I.ok.bsz I.sz,fun b o e hb=>?_,fun b hb=>?_,I.stack,I.stkFree⟩,
  rfl,I.bare,Un.kept hk,⟨_,hns,fun i x v h1 h2 h3=>?_⟩,fun x c h=>?_,I.hok.fresh (Nat.le_refl _),fun x c h=>?_,fun p hp=>(nomatch hp),I.hok.kept hk,?_⟩
 ·rcases spl h1 with ⟨_,l1,m1⟩ | ⟨z1,o1,q1⟩ <;> rcases spl h2 with ⟨_,l2,m2⟩ | ⟨z2,o2,q2⟩
  ·exact PySem.name_of_addr hc.apart m1 m2
  ·exact absurd (Nat.lt_of_lt_of_le (Heap.lt_size q2) (Nat.le_of_succ_le l1)) (Nat.lt_irrefl _)
  ·exact absurd (Nat.lt_of_lt_of_le (Heap.lt_size q1) (Nat.le_of_succ_le l2)) (Nat.lt_irrefl _)
  ·exact I.ok.inj x y c z1 z2
 ·rcases uK hx with z | z
  ·obtain ⟨c,m⟩:=ni (n:=s.heap.objs.size+1) (acc:=p7 X.env scope.names []) (.inl z)
   exact m9 m
  ·obtain ⟨c,e⟩:=I.ok.has x (by have:=S.free _ z rfl;rw [← hsc] at this;exact this)
   show ∃ c,(zp X scope s.heap.objs.size).lookup x=some c
   unfold zp
   rw [cT]
   exact m9 (c:=c) (List.mem_append_right _ (qU e z))
 ·have hx':scope.names.lookup x=some .cell:=by simpa [lW] using hx
  rcases spl h with ⟨_,l,_⟩ | ⟨z,o,q⟩
  ·exact Nat.le_of_succ_le l
  ·exfalso
   have m:(x,NameKind.cell)∈scope.names:=PySem.mem_of_lookup hx'
   obtain ⟨d,md⟩:=ni (n:=s.heap.objs.size+1) (acc:=[]) (.inl m)
   obtain ⟨d',e'⟩:=m9 md
   have h:(zp X scope s.heap.objs.size).lookup x=some c:=h
   unfold zp at h
   rw [cT,m8,e'] at h
   cases h
   exact absurd (Nat.lt_of_lt_of_le (Heap.lt_size q) (Nat.le_of_succ_le (hc.empty _ _ (PySem.mem_of_lookup e')).2)) (Nat.lt_irrefl _)
 ·obtain ⟨⟨f0,f1,f2,f3,f4,f5⟩,hlt⟩:=hex b hb
  refine ⟨Nat.ne_of_lt hlt,fun x c h=>?_⟩
  rcases spl h with ⟨_,l,_⟩ | ⟨z,_⟩
  ·exact fun z=>absurd (Nat.lt_of_lt_of_le hlt (Nat.le_of_succ_le (z ▸ l))) (Nat.lt_irrefl _)
  ·exact f4 x c z
 ·obtain ⟨⟨f0,f1,f2,f3,f4,f5⟩,hlt⟩:=hex b hb
  rcases f3 with z | z
  ·exact I.ok.noex b o e z
  ·exact absurd (Nat.lt_of_lt_of_le (Heap.lt_size (I.ok.bs b o e).1) z) (Nat.lt_irrefl _)
 ·obtain ⟨⟨f0,f1,f2,f3,f4,f5⟩,hlt⟩:=hex b hb
  intro z
  rcases List.mem_cons.mp (I.stkSub b z) with z | z
  ·exact f1 z
  ·exact f2 z
 ·have hs:∃ j,sub[i]?=some (some j)/\U[j]?=some (some v):=by
   unfold cV at h2
   rw [List.getElem?_map] at h2
   cases e:sub[i]? with
   | none=>rw [e] at h2;cases h2
   | some o=>
    rw [e] at h2
    cases o with
    | none=>cases h2
    | some j=>
     refine ⟨j,rfl,?_⟩
     have h3:(U[j]?).join=some v:=Option.some.inj h2
     cases e2:U[j]? with
     | none=>rw [e2] at h3;cases h3
     | some z=>rw [e2] at h3;cases z with
      | none=>cases h3
      | some z=>cases h3;rfl
  obtain ⟨j,e1,e2⟩:=hs
  obtain ⟨g1,g2,g3⟩:=S.at_ i j x e1 h1
  rw [← hN] at g1
  obtain ⟨m,hn,hl⟩:=I.loc
  have hkf:X.env.kindOf x=some .cell\/X.env.kindOf x=some .free:=by have:=S.free _ g2 rfl;rw [← hsc] at this;exact this
  have hvis:Qx X.env.scope x:=by
   rcases hkf with z | z
   ·exact .inr (.inl z)
   ·exact .inr (.inr z)
  obtain ⟨u,r,l⟩:=hl j x v g1 e2 hvis
  refine ⟨u,r,.inr ⟨jJ g3,?_⟩⟩
  rcases l with ⟨k,_⟩ | ⟨_,c,e,o,ho,hd⟩
  ·have k':X.env.kindOf x=some .local:=k
   rcases hkf with z | z <;> (rw [k'] at z;cases z)
  ·exact ⟨c,fre g2 g3 e,o,hk _ _ ho,hd⟩
 ·rcases spl h with ⟨z,_⟩ | ⟨z,_⟩
  ·exact ⟨_,z⟩
  ·obtain ⟨v,o,ho,hd⟩:=I.cell x c z
   exact ⟨v,o,hk _ _ ho,hd⟩
 ·rcases spl h with ⟨_,l,_⟩ | ⟨z,_⟩
  ·exact I.hok.fresh (Nat.le_of_succ_le l)
  ·exact I.freeC x c z
 ·show (cV sub U).length=N'.length
  unfold cV
  rw [List.length_map]
  exact S.len
theorem yg {N:List Str} {sc:Scope} (S:mj N sc N' scope sub) (hc:X.calm=true) (hN:X.N=N) (hsc:X.env.scope=sc) (hi:PI X tg iter wi)
  (hg:∀ (C:Addr) (s₀:Shared) (H₀:Hp) (ex:List Addr),PG (lW X N' scope C s₀ H₀ ex) tg g)
  (ht:∀ (C:Addr) (s₀:Shared) (H₀:Hp) (ex:List Addr),uJ (lW X N' scope C s₀ H₀ ex) ifs tt)
  (he:∀ (C:Addr) (s₀:Shared) (H₀:Hp) (ex:List Addr),PE (lW X N' scope C s₀ H₀ ex) elt te)
  (hs:autoParam (∀ x,foldedSetIterable iter X.env x=pure x) L2.auto3._auto_1):
  PE X (.ListComp elt [⟨tg,iter,ifs,0⟩] scope pos) (qX sub wi g tt te):=by
 intro pins s U H Q I h
 rw [eval_ListComp]
 have hcl:∀ x∈scope.names,x.2=NameKind.free->∃ c,X.env.cells.lookup x.1=some c:=fun x hx hk=>I.ok.has x.1 (by have:=S.free x hx hk;rw [← hsc] at this;exact this)
 refine wpAny_comprehension_free (use:=none) rfl hs (lZ hcl) S.kind S.loc ?_
 refine dB (hi pins s U H _ I h) fun v s1 h1=>dB h1 fun itv s2 h2=>?_
 obtain ⟨it,fp,tn,J,H2,e,I2,T,st2,f2,W,⟨m0,w0⟩,turn⟩:=h2
 subst e
 refine wpAny_newObj_type (fH fun h₁ hns₁ hk31 hcl₁=>?_)
 dsimp only at hns₁ hk31 hcl₁ ⊢
 generalize hs3:({s2 with heap:=s2.heap.push {cls:=.type "list",dict:=none,data:=.seq ([]:List Value).toArray}}:Shared)=s3
 have e3:s2.heap.push {cls:=.type "list",dict:=none,data:=.seq ([]:List Value).toArray}=s3.heap:=by rw [← hs3]
 rw [e3] at hns₁ hk31 hcl₁ ⊢
 have hD3:s3.heap.get? s2.heap.objs.size=some {cls:=.type "list",dict:=none,data:=.seq ([]:List Value).toArray}:=by rw [← e3];exact Heap.get?_push_size _ rfl
 have I3:Inv X pins U H2 s3:=by
  rw [← hs3]
  exact I2.kept (t':=s2.toks) fun b o e=>Heap.get?_push_of_some _ e
 have k23:∀ b o,s2.heap.get? b=some o->s3.heap.get? b=some o:=fun b o e=>by rw [← e3];exact Heap.get?_push_of_some _ e
 have hsz:s3.heap.objs.size=s2.heap.objs.size+1:=by rw [← e3,Heap.size_push]
 have hDn:H2 s2.heap.objs.size=none:=I2.hok.fresh (Nat.le_refl _)
 have fD:kW X pins H2 s2.heap.objs.size:=I2.fpOk (Nat.le_refl _) hDn
 have hfo:∀ b∈fp,b < s2.heap.objs.size:=fun b hb=>let ⟨o,e,_⟩:=T.obj _ _ st2 b hb;Heap.lt_size e
 have hDfp:s2.heap.objs.size ∉ fp:=fun z=>absurd (hfo _ z) (Nat.lt_irrefl _)
 have I4:=t7 (tk:=s3.toks+([]:List (Str×Value)).length) S hN hsc I3 f2 (fun b hb=>by rw [hsz];exact Nat.lt_succ_of_lt (hfo b hb)) (D:=s2.heap.objs.size) (by rw [hsz];exact Nat.lt_succ_self _) fD hns₁ hk31 hcl₁
 have stat:∀ {H':Hp} {ob:Obj},(∀ b∈fp,H' b=none)->∀ b∈fp,kW (lW X N' scope s3.heap.objs.size s3 H2 (s2.heap.objs.size :: fp)) [(s2.heap.objs.size,ob)] H' b:=fun {H' ob} hn b hb=>by
  obtain ⟨q1,q2⟩:=I4.ok.exf b (List.mem_cons_of_mem _ hb)
  refine ⟨hn b hb,q1,I4.ok.exfs b (List.mem_cons_of_mem _ hb),.inl (List.mem_cons_of_mem _ hb),q2,fun p hp z=>?_⟩
  have hp':p=(s2.heap.objs.size,ob):=by simpa [lW] using hp
  subst hp'
  have z':s2.heap.objs.size=b:=z
  exact hDfp (by rw [z'];exact hb)
 generalize hXC:lW X N' scope s3.heap.objs.size s3 H2 (s2.heap.objs.size :: fp)=XC at I4 stat
 have eP:XC.prog=X.prog:=by rw [← hXC];rfl
 have eW:XC.w=X.w:=by rw [← hXC];rfl
 have eK:XC.K=X.K:=by rw [← hXC];rfl
 have eA:XC.A=X.A:=by rw [← hXC];rfl
 have eE:XC.env=compEnvC scope (zp X scope s3.heap.objs.size) s3.heap.objs.size X.env:=by rw [← hXC];rfl
 have eC:XC.calm=true:=by rw [← hXC];exact hc
 have eX:XC.xe=fun _ _=>False:=by rw [← hXC];rfl
 have eH:XC.H₀=H2:=by rw [← hXC];rfl
 have eS:XC.s₀=s3:=by rw [← hXC];rfl
 have eF:XC.fs=frs X.stack:=by rw [← hXC];rfl
 have eEx:XC.ex=s2.heap.objs.size :: fp:=by rw [← hXC];rfl
 have ePn:XC.pn=[]:=by rw [← hXC];rfl
 have hgC:PG XC tg g:=by rw [← hXC];exact hg _ _ _ _
 have htC:uJ XC ifs tt:=by rw [← hXC];exact ht _ _ _ _
 have heC:PE XC elt te:=by rw [← hXC];exact he _ _ _ _
 have pinD:∀ {U':St} {H':Hp} {s':Shared} {ob:Obj},Inv XC [] U' H' s'->H' s2.heap.objs.size=none->s'.heap.get? s2.heap.objs.size=some ob->(∀ v,ob.data≠.cell v)->Inv XC [(s2.heap.objs.size,ob)] U' H' s':=fun {U' H' s' ob} J hn hg hd=>
  J.pins_of fun p hp=>by
   have hp':p=(s2.heap.objs.size,ob):=by simpa using hp
   subst hp'
   refine ⟨hg,hn,(J.ok.exf _ (by rw [eEx];exact List.mem_cons_self)).1,J.ok.exfs _ (by rw [eEx];exact List.mem_cons_self),hd⟩
 have loop:codeAny (model X.prog X.w) X.A (.compLoop (.ListComp elt [⟨tg,iter,ifs,0⟩] scope pos) 0 (.ref it) (.ref s2.heap.objs.size) (compEnvC scope (zp X scope s3.heap.objs.size) s3.heap.objs.size X.env))
   (compPost (model X.prog X.w) X.A X.xe none (EP X pins U Q) (.ref s2.heap.objs.size) s3.heap.objs.size) {s3 with heap:=h₁,toks:=s3.toks+([]:List (Str×Value)).length}:=by
  refine t6 (fun n s'=>∃ (i:Nat) (ys:List V) (its:List Value) (nn:Nat) (H':Hp),Inv XC [] (cV sub U) H' s'/\tn i s'.heap/\(∀ b∈fp,H' b=none)/\H' s2.heap.objs.size=none/\
   s'.heap.get? s2.heap.objs.size=some {cls:=.type "list",data:=.seq its.toArray nn}/\Vals ys its/\W i n ys H') ?_ m0
   ⟨0,[],[],_,H2,I4,T.keep _ _ _ st2 fun b _ o e=>hk31 b o (k23 b o e),fun b hb=>(f2 b hb).1,hDn,hk31 _ _ hD3,.nil,w0⟩
  rintro n s4 ⟨i,ys,its,nn,H4,J4,st4,fr4,dn4,dg4,rv4,w4⟩
  have P4:=pinD J4 dn4 dg4 (fun v z=>by cases z)
  rcases turn i n ys H4 w4 with ⟨stop,hyl,qn⟩ | ⟨go,hyl,N,hN,step⟩
  ·have hdone:=T.done XC eP eW eK eC i _ s4 _ H4 (fun _ _=>False) P4 (stat fr4) st4 stop
   rw [eA] at hdone
   refine wpAny_mono hdone (fun r s5 ⟨hr,I5⟩=>?_) fun _ _ z=>z
   subst hr
   obtain ⟨m,hn,_⟩:=id I5.loc
   have hCe:XC.env.locals=s3.heap.objs.size:=by rw [eE];rfl
   rw [hCe] at hn
   refine ⟨m,hn,fun h6 hs6=>?_⟩
   have hDg:=(I5.pin (s2.heap.objs.size,_) (by rw [ePn];exact List.mem_cons_self)).1
   have hDne:s2.heap.objs.size≠s3.heap.objs.size:=by rw [hsz];exact Nat.ne_of_lt (Nat.lt_succ_self _)
   have hHC:H4 s3.heap.objs.size=none:=by have:=I5.free;rw [hCe] at this;exact this
   have k56:∀ b o,b≠s3.heap.objs.size->s5.heap.get? b=some o->h6.get? b=some o:=fun b o hb e=>hs6.extBut b o hb e
   have un:=I5.base
   rw [eF,eEx,eH,eS] at un
   have nC:∀ b o,s3.heap.get? b=some o->b≠s3.heap.objs.size:=fun b o e=>Nat.ne_of_lt (Heap.lt_size e)
   have hok6:HOk X.prog X.w (upd H4 s2.heap.objs.size (.lst ys)) h6:=by
    have h5:=I5.hok
    rw [eP,eW] at h5
    have DK:∀ b u,H4 b=some u->b≠s3.heap.objs.size:=fun b u e z=>by rw [z,hHC] at e;cases e
    intro b u e
    by_cases hb:b=s2.heap.objs.size
    ·subst hb
     rw [au] at e;cases e
     exact ⟨hyl,its,nn,rv4,k56 _ _ hDne hDg⟩
    ·rw [aG hb] at e
     have nD:∀ c u,H4 c=some u->c≠s2.heap.objs.size:=fun c u e z=>by rw [z,dn4] at e;cases e
     refine (h5 b u e).stay (fun c v hc' q=>k56 c v ?_ q) (fun c q=>by rw [aG (nD c _ q)];exact q) fun c xs q=>by rw [aG (nD c _ q)];exact q
     rcases hc' with z | z
     ·rw [z];exact DK b u e
     ·exact DK c _ z
   have nD2:∀ c u,H4 c=some u->c≠s2.heap.objs.size:=fun c u e z=>by rw [z,dn4] at e;cases e
   have un6:Un (frs X.stack) (s2.heap.objs.size :: fp) H2 (upd H4 s2.heap.objs.size (.lst ys)) s3.heap h6:=
    ⟨fun b o e nn' hb hx=>k56 b o (nC b o e) (un.keep b o e nn' hb hx),fun b o e nn' hb hx=>let ⟨sl,q⟩:=un.slot b o e nn' hb hx;⟨sl,k56 b _ (nC b o e) q⟩,
     fun b o e nn' hx=>by rw [aG (fun z=>hx (by rw [z];exact List.mem_cons_self))];exact un.free b o e nn' hx,
     fun b o e hx=>let ⟨o',q⟩:=un.there b o e hx;⟨o',k56 b o' (nC b o e) q⟩,
     fun b xs e=>by have q:=un.tups b xs e;rw [aG (nD2 b _ q)];exact q,
     fun b o u e=>by have q:=un.frzs b o u e;rw [aG (nD2 b _ q)];exact q,
     fun b ps e=>let ⟨more,q⟩:=un.tbls b ps e;⟨more,by rw [aG (nD2 b _ q)];exact q⟩⟩
   have I6:Inv X pins U (upd H4 s2.heap.objs.size (.lst ys)) {s5 with heap:=h6}:=by
    refine I3.call' (s':={s5 with heap:=h6}) (ch:=s2.heap.objs.size :: fp) ?_ un6 hok6 I5.bare fun b hb=>?_
    ·show s5.os=s3.os
     have:=I5.os
     rw [eS] at this
     exact this
    ·have q:kW X pins H2 b:=by
      rcases List.mem_cons.mp hb with rfl | z
      ·exact fD
      ·exact f2 b z
     obtain ⟨f0,f1,f2',f3,f4,f5⟩:=q
     exact ⟨f3,f1,f4,f5⟩
   exact ⟨.ref s2.heap.objs.size,_,I6,rfl,qn _ dn4⟩
  ·have hitem:=T.item XC eP eW eK eC i _ s4 _ H4 (fun _ _=>False) P4 (stat fr4) st4 go
   rw [eA] at hitem
   refine wpAny_mono hitem (fun r s5 ⟨u,hr,h5⟩=>?_) fun _ _ z=>z
   subst hr
   dsimp only
   refine wpAny_mono h5 (fun _ s6 ⟨x,H6,I6,r6,y6,st6,fr6⟩=>?_) fun _ _ z=>z
   have P6:=I6.pinned (stat fr6) (T.obj _ _ st6)
   rw [← eE,← eP,← eW,← eA]
   refine wpAny_mono (hgC _ s6 _ H6 x u _ P6 r6 (step x H6 y6)) (fun _ s7 ⟨σ7,H7,I7,kp7,q7⟩=>?_) fun _ _ z=>by rw [eX] at z;exact z
   refine wpAny_mono (htC _ s7 σ7 H7 _ I7 q7) (fun ok s8 ⟨H8,I8,q8⟩=>?_) fun _ _ z=>by rw [eX] at z;exact z
   have fin:∀ {H9:Hp} {s9:Shared},Inv XC ([(s2.heap.objs.size,({cls:=.type "list",data:=.seq its.toArray nn}:Obj))] ++ oW fp s6.heap) σ7 H9 s9->Inv XC [] (cV sub U) H9 s9/\tn (i+1) s9.heap/\(∀ b∈fp,H9 b=none)/\H9 s2.heap.objs.size=none/\
     s9.heap.get? s2.heap.objs.size=some {cls:=.type "list",data:=.seq its.toArray nn}:=fun {H9 s9} J=>by
    have pD:=J.pin (s2.heap.objs.size,({cls:=.type "list",data:=.seq its.toArray nn}:Obj)) (by rw [ePn];simp)
    have pF:∀ b∈fp,∀ o,s6.heap.get? b=some o->s9.heap.get? b=some o/\H9 b=none:=fun b hb o e=>by
     have q:=J.pin (b,o) (by rw [ePn];exact List.mem_append_right _ (List.mem_append_right _ (jH hb e)))
     exact ⟨q.1,q.2.1⟩
    refine ⟨?_,T.keep _ _ _ st6 fun b hb o e=>(pF b hb o e).1,fun b hb=>?_,pD.2.1,pD.1⟩
    ·have J0:Inv XC [] σ7 H9 s9:=J.pins_of fun p hp=>nomatch hp
     exact J0.weak kp7.1.symm fun j v e=>kp7.2 j v e
    ·obtain ⟨o,e,_⟩:=T.obj _ _ st6 b hb
     exact (pF b hb o e).2
   cases ok with
   | false=>
    rw [if_neg (by simp)]
    rw [if_neg (by simp)] at q8
    obtain ⟨m',hm,w8⟩:=hN _ _ q8
    obtain ⟨a1,a2,a3,a4,a5⟩:=fin I8
    exact ⟨m',hm,i+1,ys,its,nn,H8,a1,a2,a3,a4,a5,rv4,w8⟩
   | true=>
    rw [if_pos rfl]
    rw [if_pos rfl] at q8
    refine wpAny_mono (heC _ s8 σ7 H8 _ I8 q8) (fun xv s9 ⟨y,H9,I9,r9,n9⟩=>?_) fun _ _ z=>by rw [eX] at z;exact z
    obtain ⟨m',hm,w9⟩:=hN _ _ n9
    obtain ⟨a1,a2,a3,a4,a5⟩:=fin I9
    refine wpAny_list_append_plain (items:=its.toArray) ⟨nn,a5⟩ (fun h' ⟨n',hp'⟩ sb=>?_) (by simp;rw [← rv4.length];omega)
    obtain ⟨q1,q2⟩:=I4.ok.exf s2.heap.objs.size (by rw [eEx];exact List.mem_cons_self)
    have a1':Inv XC [] (cV sub U) H9 {s9 with heap:=h'}:=a1.turned (t':=s9.toks) (fun b o hb e=>(sb.2 b hb).trans e) a4 q1 (.inl (by rw [eEx];exact List.mem_cons_self)) q2 (fun p hp=>by rw [ePn] at hp;exact nomatch hp)
    refine ⟨m',hm,i+1,ys ++ [y],its ++ [xv],n',H9,a1',T.keep _ _ _ a2 fun b hb o e=>(sb.2 b (fun z=>hDfp (by rw [← z];exact hb))).trans e,a3,a4,?_,rv4.append (.cons r9 .nil),w9⟩
    rw [hp']
    simp
 subst hs3
 exact codeAny_compStart_list loop (T.self _ 0 _ _ _ (T.keep _ _ _ st2 fun b _ o e=>hk31 b o (k23 b o e)) loop)
end
abbrev pK (sub:List (Option Nat)) (g:TG) (tt:TT) (te:TE) (U:St) (Q:VK) (J:It) (H1:Hp):Prop:=∃ W:Nat->Nat->List V->Hp->Prop,(∃ m,W 0 m [] H1)/\∀ i m ys H,W i m ys H->
 (J.stop i H/\ys.length<=sizeLine/\∀ D,H D=none->Q (.ref D) (upd H D (.lst ys)))\/
 (J.go i H/\ys.length < sizeLine/\∃ N:List V->Hp->Prop,(∀ ys' H',N ys' H'->∃ m',m' < m/\W (i+1) m' ys' H')/\
  ∀ x H',J.yld i H x H'->g x (cV sub U) H' fun σ2 H2=>KeepSt (cV sub U) σ2/\tt σ2 H2 fun b H3=>if b=true then te σ2 H3 fun y H4=>N (ys ++ [y]) H4 else N ys H3)
theorem uM {sub:List (Option Nat)} {g:TG} {tt:TT} {te:TE} {U:St} {Q:VK} {J:It} {H:Hp} {n:Nat} (Pv:Nat->List V->Hp->Prop) (hn:n<=sizeLine) (h0:Pv 0 [] H) (hl:∀ i ys H,Pv i ys H->ys.length<=i)
  (hgo:∀ i ys H,i < n->Pv i ys H->J.go i H) (hstop:∀ ys H,Pv n ys H->J.stop n H)
  (hs:∀ i ys H x H',i < n->Pv i ys H->J.yld i H x H'->g x (cV sub U) H' fun σ2 H2=>KeepSt (cV sub U) σ2/\tt σ2 H2 fun b H3=>if b=true then te σ2 H3 fun y H4=>Pv (i+1) (ys ++ [y]) H4 else Pv (i+1) ys H3)
  (hd:∀ ys H,Pv n ys H->∀ D,H D=none->Q (.ref D) (upd H D (.lst ys))):pK sub g tt te U Q J H:=by
 refine ⟨fun i m ys H=>m=n - i/\i<=n/\Pv i ys H,⟨n,by simp,Nat.zero_le _,h0⟩,?_⟩
 rintro i m ys H ⟨rfl,hi,p⟩
 have hl':=hl i ys H p
 by_cases hlt:i < n
 ·exact .inr ⟨hgo i ys H hlt p,by omega,fun ys' H'=>Pv (i+1) ys' H',fun ys' H' p'=>⟨n - (i+1),by omega,rfl,hlt,p'⟩,fun x H' y=>hs i ys H x H' hlt p y⟩
 ·have e:i=n:=by omega
  subst e
  exact .inl ⟨hstop ys H p,by omega,hd ys H p⟩
section
variable {κ:Type} [DecidableEq κ]
def o4 (kvs:List (κ×V)) (k:κ):Option V:=(kvs.find? fun kv=>decide (kv.1=k)).map (·.2)
def putK (kvs:List (κ×V)) (k:κ) (v:V):List (κ×V):=
 if (kvs.any fun kv=>decide (kv.1=k))=true then kvs.map (fun kv=>if kv.1=k then (kv.1,v) else kv) else kvs ++ [(k,v)]
theorem qY {p:κ×V} {r:List (κ×V)} {k:κ} (e:p.1=k):o4 (p :: r) k=some p.2:=by simp [o4,List.find?_cons,e]
theorem qZ {p:κ×V} {r:List (κ×V)} {k:κ} (e:¬ p.1=k):o4 (p :: r) k=o4 r k:=by simp [o4,List.find?_cons,e]
theorem vJ (k:κ):∀ kvs:List (κ×V),(kvs.any fun kv=>decide (kv.1=k))=(o4 kvs k).isSome
 | []=>rfl
 | p :: r=>by
  rw [List.any_cons]
  by_cases e:p.1=k
  ·simp only [qY e,decide_eq_true e,Bool.true_or,Option.isSome_some]
  ·rw [qZ e,decide_eq_false e,Bool.false_or];exact vJ k r
theorem kZ (kvs:List (κ×V)) (k:κ) (v:V):(putK kvs k v).length<=kvs.length+1:=by
 unfold putK
 split
 ·rw [List.length_map];omega
 ·rw [List.length_append,List.length_cons,List.length_nil];omega
theorem RelO.isSome_eq {o:Option V} {u:Option Value} (r:RelO o u):o.isSome=u.isSome:=by
 cases o with
 | none=>cases u with
  | none=>rfl
  | some _=>exact (show False from r).elim
 | some _=>cases u with
  | none=>exact (show False from r).elim
  | some _=>rfl
theorem RelO.getD {o:Option V} {u:Option Value} {d:V} {d':Value} (r:RelO o u) (rd:RelV d d'):RelV (o.getD d) (u.getD d'):=by
 cases o with
 | none=>cases u with
  | none=>exact rd
  | some _=>exact (show False from r).elim
 | some _=>cases u with
  | none=>exact (show False from r).elim
  | some _=>exact r
theorem KV.val {kvs:List (κ×V)} {vs:List (κ×Value)} (r:KV kvs vs) (k:κ):RelO (o4 kvs k) (valueAt vs k):=by
 unfold KV at r
 induction r with
 | nil=>exact True.intro
 | @cons p q ps qs h t ih=>
  obtain ⟨h1,h2⟩:=h
  by_cases e:p.1=k
  ·have e':q.1=k:=h1.symm.trans e
   have b:valueAt (q :: qs) k=some q.2:=by simp [valueAt,List.find?_cons,e']
   rw [qY e,b];exact h2
  ·have e':¬ q.1=k:=fun z=>e (h1.trans z)
   have b:valueAt (q :: qs) k=valueAt qs k:=by simp [valueAt,List.find?_cons,e']
   rw [qZ e,b];exact ih
theorem KV.any {kvs:List (κ×V)} {vs:List (κ×Value)} (r:KV kvs vs) (k:κ):(kvs.any fun kv=>decide (kv.1=k))=vs.any fun kv=>decide (kv.1=k):=by
 unfold KV at r
 induction r with
 | nil=>rfl
 | cons h t ih=>rw [List.any_cons,List.any_cons,ih,h.1]
theorem KV.repl {kvs:List (κ×V)} {vs:List (κ×Value)} (r:KV kvs vs) (k:κ) {y:V} {u:Value} (ry:RelV y u):
  KV (kvs.map fun kv=>if kv.1=k then (kv.1,y) else kv) (vs.map fun kv=>if kv.1=k then (kv.1,u) else kv):=by
 unfold KV at r ⊢
 induction r with
 | nil=>exact .nil
 | @cons p q ps qs h t ih=>
  rw [List.map_cons,List.map_cons]
  refine .cons ?_ ih
  obtain ⟨h1,h2⟩:=h
  by_cases e:p.1=k
  ·rw [if_pos e,if_pos (h1.symm.trans e)];exact ⟨h1,ry⟩
  ·rw [if_neg e,if_neg (fun z=>e (h1.trans z))];exact ⟨h1,h2⟩
theorem KV.put {kvs:List (κ×V)} {vs:List (κ×Value)} (r:KV kvs vs) (k:κ) {y:V} {u:Value} (ry:RelV y u):KV (putK kvs k y) (stored vs k u):=by
 unfold putK stored
 rw [r.any k]
 by_cases e:(vs.any fun kv=>decide (kv.1=k))=true
 ·rw [if_pos e,if_pos e];exact r.repl k ry
 ·rw [if_neg e,if_neg e];exact Paired.snoc r ⟨rfl,ry⟩
theorem KV.length {kvs:List (κ×V)} {vs:List (κ×Value)} (r:KV kvs vs):kvs.length=vs.length:=Paired.length r
end
theorem rm {P:Program} {w:World} {k:Key} {u:Value} (r:RelV (kV k) u):(aR P w).is k u=true:=by
 cases k with
 | inl i=>obtain ⟨t,e⟩:=(show ∃ t,u=Value.int i t from r);subst e;exact vy P w i t
 | inr x=>obtain ⟨t,e⟩:=(show ∃ t,u=Value.str x t from r);subst e;exact vz P w x t
theorem t8 {P:Program} {w:World}:∀ {ks:List Key} {us:List Value},Vals (ks.map kV) us->ItemsAre (aR P w) ks us
 | [],_,r=>by rw [List.map_nil] at r;cases r;exact .nil
 | k :: ks,_,r=>by
  rw [List.map_cons] at r
  cases r with
  | cons h t=>exact .cons (rm h) (t8 t)
abbrev KT (H:Hp):List (List Key×V)->List (List Key×Addr×Value)->Prop:=Paired fun p q=>p.1=q.1/\H q.2.1=some (.tup (p.1.map kV))/\RelV p.2 q.2.2
theorem KT.val {H:Hp} {kvs:List (List Key×V)} {xs:List (List Key×Addr×Value)} (r:KT H kvs xs) (k:List Key):RelO (o4 kvs k) ((atKey xs k).map (·.2)):=by
 induction r with
 | nil=>exact True.intro
 | @cons p q ps qs h t ih=>
  obtain ⟨h1,_,h2⟩:=h
  by_cases e:p.1=k
  ·have e':q.1=k:=h1.symm.trans e
   have b:atKey (q :: qs) k=some q.2:=by simp [atKey,List.find?_cons,e']
   rw [qY e,b];exact h2
  ·have e':¬ q.1=k:=fun z=>e (h1.trans z)
   have b:atKey (q :: qs) k=atKey qs k:=by simp [atKey,List.find?_cons,e']
   rw [qZ e,b];exact ih
theorem KT.repl {H:Hp} {kvs:List (List Key×V)} {xs:List (List Key×Addr×Value)} (r:KT H kvs xs) (k:List Key) {y:V} {u:Value} (ry:RelV y u):
  KT H (kvs.map fun kv=>if kv.1=k then (kv.1,y) else kv) (xs.map (putAt k u)):=by
 induction r with
 | nil=>exact .nil
 | @cons p q ps qs h t ih=>
  rw [List.map_cons,List.map_cons]
  refine .cons ?_ ih
  obtain ⟨h1,h2,h3⟩:=h
  unfold putAt
  by_cases e:p.1=k
  ·rw [if_pos e,if_pos (h1.symm.trans e)];exact ⟨h1,h2,ry⟩
  ·rw [if_neg e,if_neg (fun z=>e (h1.trans z))];exact ⟨h1,h2,h3⟩
theorem KT.put {H:Hp} {kvs:List (List Key×V)} {xs:List (List Key×Addr×Value)} (r:KT H kvs xs) (k:List Key) {b:Addr} {y:V} {u:Value} (hb:H b=some (.tup (k.map kV))) (ry:RelV y u):
  KT H (putK kvs k y) (storedH xs k b u):=by
 have e:(kvs.any fun kv=>decide (kv.1=k))=(atKey xs k).isSome:=by
  rw [vJ,(r.val k).isSome_eq,Option.isSome_map]
 unfold putK storedH
 rw [e]
 by_cases q:(atKey xs k).isSome=true
 ·rw [if_pos q,if_pos q];exact r.repl k ry
 ·rw [if_neg q,if_neg q];exact Paired.snoc r ⟨rfl,hb,ry⟩
theorem KT.keeps {H H':Hp} {kvs:List (List Key×V)} {xs:List (List Key×Addr×Value)} (r:KT H kvs xs) (ht:∀ b ys,H b=some (.tup ys)->H' b=some (.tup ys)):KT H' kvs xs:=
 Paired.mapP r fun _ _ z=>⟨z.1,ht _ _ z.2.1,z.2.2⟩
section
variable {P:Program} {w:World} {H:Hp} {h:Heap} {a:Addr}
theorem Hz {u:HO} (ok:HOk P w H h) (e:Rd H a u):ObjOk P w H h a u:=e.ok ok
theorem vK {kvs:List (Key×V)} (ok:HOk P w H h) (e:Rd H a (.dK kvs)):kvs.length<=sizeLine/\(a == sysModules)=false/\∃ vs,KV kvs vs/\h.DictOf (aR P w) a vs:=
 show ObjOk P w H h a (.dK kvs) from Hz ok e
theorem HB {kvs:List (Key×V)} (ok:HOk P w H h) (e:H a=some (.dK kvs)):kvs.length<=sizeLine/\(a == sysModules)=false/\∃ vs,KV kvs vs/\h.DictOf (aR P w) a vs:=vK ok (.inl e)
theorem rn {ks:List Key} (ok:HOk P w H h) (e:H a=some (.tup (ks.map kV))):(tupleKind (aR P w)).is h ks a:=by
 obtain ⟨_,its,r,o,h1,h2,n,h3⟩:=(show ObjOk P w H h a (.tup (ks.map kV)) from ok a _ e)
 exact ⟨o,its.toArray,n,h1,h2,h3,by simpa using t8 r⟩
theorem vL {kvs:List (List Key×V)} (ok:HOk P w H h) (e:Rd H a (.dT kvs)):kvs.length<=sizeLine/\(a == sysModules)=false/\
  ∃ xs,KT H kvs xs/\h.DictOfH (tupleKind (aR P w)) a xs:=by
 obtain ⟨z,y,xs,r,o,es,ep,h1,h2,h3,h4,h5⟩:=(show ObjOk P w H h a (.dT kvs) from Hz ok e)
 refine ⟨z,y,xs,r,o,es,ep,h1,h2,h3,h4,fun x hx=>?_,h5⟩
 have all:∀ {l:List (List Key×V)} {m:List (List Key×Addr×Value)},KT H l m->∀ x∈m,(tupleKind (aR P w)).is h x.1 x.2.1:=by
  intro l m q
  induction q with
  | nil=>intro x hx;exact nomatch hx
  | @cons p q ps qs hq t ih=>
   intro x hx
   rcases List.mem_cons.mp hx with e | hx
   ·subst e
    exact rn ok (by rw [← hq.1];exact hq.2.1)
   ·exact ih x hx
 exact all r x hx
theorem NK {kvs:List (List Key×V)} (ok:HOk P w H h) (e:H a=some (.dT kvs)):kvs.length<=sizeLine/\(a == sysModules)=false/\
  ∃ xs,KT H kvs xs/\h.DictOfH (tupleKind (aR P w)) a xs:=vL ok (.inl e)
end
def DGet (H:Hp) (a:Addr) (y:V) (r:Option V):Prop:=
 (∃ kvs k,Rd H a (.dK kvs)/\y=kV k/\r=o4 kvs k)\/∃ kvs k b,Rd H a (.dT kvs)/\y= .ref b/\H b=some (.tup (k.map kV))/\r=o4 kvs k
def NP (H:Hp) (a:Addr) (y v:V) (H':Hp):Prop:=
 (∃ kvs k,H a=some (.dK kvs)/\y=kV k/\kvs.length < sizeLine/\H'=upd H a (.dK (putK kvs k v)))\/
 ∃ kvs k b,H a=some (.dT kvs)/\y= .ref b/\H b=some (.tup (k.map kV))/\kvs.length < sizeLine/\H'=upd H a (.dT (putK kvs k v))
theorem DGet.k {H:Hp} {a:Addr} {kvs:List (Key×V)} {k:Key} (e:H a=some (.dK kvs)):DGet H a (kV k) (o4 kvs k):=.inl ⟨kvs,k,.inl e,rfl,rfl⟩
section
variable {X:Cx} {pins:List (Addr×Obj)} {U:St} {H:Hp} {s:Shared} {a:Addr} {y v:V} {u r:Value} {o:Option V} {A:Around} {E:Value->Shared->Prop}
theorem Inv.big (I:Inv X pins U H s):sysModules < s.heap.objs.size:=by
 have h:mainGlobals < s.heap.objs.size:=(I.mod.glob.keeps I.bk).lt
 exact Nat.lt_trans (by decide) h
theorem d_in {Q:Value->Shared->Prop} (hu:A.units+1 < cLine) (I:Inv X pins U H s) (g:DGet H a y o) (ry:RelV y u) (h:∀ s',Inv X pins U H s'->Q (.bool o.isSome) s'):
  wpAny (model X.prog X.w) A (compareOp .In u (.ref a)) Q E s:=by
 rcases g with ⟨kvs,k,e,ey,l⟩ | ⟨kvs,k,b,e,ey,eb,l⟩
 ·subst ey
  obtain ⟨z,hd,vs,rel,dd⟩:=vK I.hok e
  refine wpAny_in_of (rm ry) hd dd.mapOf ?_
  rw [← (rel.val k).isSome_eq,← l]
  exact h _ (I.tok _)
 ·subst ey
  cases (show u=Value.ref b from ry)
  obtain ⟨z,hd,xs,rel,dd⟩:=vL I.hok e
  refine wpAny_in_heap (tupleKind_room_in1 hu) (rn I.hok eb) hd dd ?_
  have q:=(rel.val k).isSome_eq
  rw [Option.isSome_map] at q
  rw [← q,← l]
  exact h _ (I.tok _)
theorem Et {Q:Value->Shared->Prop} (hu:A.units+1 < cLine) (I:Inv X pins U H s) (g:DGet H a y o) (ry:RelV y u) (h:∀ s',Inv X pins U H s'->Q (.bool (!o.isSome)) s'):
  wpAny (model X.prog X.w) A (compareOp .NotIn u (.ref a)) Q E s:=by
 rcases g with ⟨kvs,k,e,ey,l⟩ | ⟨kvs,k,b,e,ey,eb,l⟩
 ·subst ey
  obtain ⟨z,hd,vs,rel,dd⟩:=vK I.hok e
  refine wpAny_notIn_of (rm ry) hd dd.mapOf ?_
  rw [← (rel.val k).isSome_eq,← l]
  exact h _ (I.tok _)
 ·subst ey
  cases (show u=Value.ref b from ry)
  obtain ⟨z,hd,xs,rel,dd⟩:=vL I.hok e
  refine wpAny_notIn_heap (tupleKind_room_in1 hu) (rn I.hok eb) hd dd ?_
  have q:=(rel.val k).isSome_eq
  rw [Option.isSome_map] at q
  rw [← q,← l]
  exact h _ (I.tok _)
theorem uN {h':Heap} {t':Nat} {ob:HO} (I:Inv X pins U H s) (mu:M5 (H a)) (hs:Heap.SameBut a s.heap h') (he:∃ q,h'.get? a=some q) (new:ObjOk X.prog X.w (upd H a ob) h' a ob):
  Inv X pins U (upd H a ob) {s with heap:=h',toks:=t'}:=
 I.write (x:=a) (e:=a) mu (.inl rfl) (fun b q hb z=>(hs.2 b hb).trans z) he new
theorem Bg {P:Program} {w:World} {H':Hp} {h':Heap} {kvs:List (Key×V)} {vs:List (Key×Value)} (z:kvs.length<=sizeLine) (hd:(a == sysModules)=false) (rel:KV kvs vs) (dd:h'.DictOf (aR P w) a vs):
  ObjOk P w H' h' a (.dK kvs):=⟨z,hd,vs,rel,dd⟩
theorem zq {H':Hp} {Q:Unit->Shared->Prop} (hu:A.units+1 < cLine) (I:Inv X pins U H s) (g:NP H a y v H') (ry:RelV y u) (rv:RelV v r) (h:∀ s',Inv X pins U H' s'->Q () s'):
  wpAny (model X.prog X.w) A (setItem (.ref a) u r) Q E s:=by
 rcases g with ⟨kvs,k,e,ey,l,eH⟩ | ⟨kvs,k,b,e,ey,eb,l,eH⟩
 ·subst ey eH
  obtain ⟨z,hd,vs,rel,dd⟩:=HB I.hok e
  have hz:vs.length<=sizeLine:=by rw [← rel.length];exact z
  have hl:(putK kvs k v).length<=sizeLine:=by have:=kZ kvs k v;omega
  refine wpAny_setItem_pairs (hsz:=hz) (rm ry) dd fun h' dd' hs=>h _ ?_
  have he:∃ q,h'.get? a=some q:=let ⟨q,_,_,hq,_⟩:=dd';⟨q,hq⟩
  exact uN I (by rw [e];exact True.intro) hs he (Bg hl hd (rel.put k rv) dd')
 ·subst ey eH
  cases (show u=Value.ref b from ry)
  obtain ⟨z,hd,xs,rel,dd⟩:=NK I.hok e
  have hz:xs.length<=sizeLine:=by rw [← Paired.length rel];exact z
  have hl:(putK kvs k v).length<=sizeLine:=by have:=kZ kvs k v;omega
  refine wpAny_setItem_heap (hsz:=hz) (tupleKind_room_in1 hu) (rn I.hok eb) dd fun h' dd' hs=>h _ ?_
  obtain ⟨q,es,ep,hq,h2,h3,h4,_,h5⟩:=dd'
  refine uN I (by rw [e];exact True.intro) hs ⟨q,hq⟩ ⟨hl,hd,_,(rel.put k eb rv).keeps fun c ys ec=>?_,q,es,ep,hq,h2,h3,h4,h5⟩
  rw [aG (MT ec e (fun z=>nomatch z))]
  exact ec
end
theorem vM {P:Program} {w:World} {H:Hp} (h:Heap) (hb:sysModules < h.objs.size):ObjOk P w H (h.push {cls:=.type "dict",data:=.dict #[]}) h.objs.size (.dK []):=
 ⟨Nat.zero_le _,beq_eq_false_iff_ne.mpr (Ne.symm (Nat.ne_of_lt hb)),[],.nil,Heap.DictOf.new h⟩
def xf:TE:=fun _ H Q=>∀ p,H p=none->Q (.ref p) (upd H p (.dK []))
section
variable {X:Cx} {pos:Pos}
theorem Bh:PE X (.Dict [] [] pos) xf:=fun pins s U H Q I h=>
 wpAny_Dict_empty ⟨.ref s.heap.objs.size,_,I.laid (a:=s.heap.objs.size) (o:=.dK []) (t':=s.toks) (fun _ _ q=>Heap.get?_push_of_some _ q) (Nat.le_refl _) (vM s.heap I.big),rfl,h _ (I.hok.fresh (Nat.le_refl _))⟩
end
def uO:List (TE×TE)->St->Hp->(List (V×V)->Hp->Prop)->Prop
 | [],_,H,Q=>Q [] H
 | (tk,tv) :: r,U,H,Q=>tk U H fun x H1=>tv U H1 fun y H2=>uO r U H2 fun ps H3=>Q ((x,y) :: ps) H3
abbrev VV:List (V×V)->List (Value×Value)->Prop:=Paired fun p q=>RelV p.1 q.1/\RelV p.2 q.2
def NQ (X:Cx) (pos:Pos) (keys:List (Option Expr)) (values:List Expr) (trs:List (TE×TE)):Prop:=
 ∀ (pins:List (Addr×Obj)) (s:Shared) (U:St) (H:Hp) (Q:List (V×V)->Hp->Prop),Inv X pins U H s->uO trs U H Q->
  wpAny (model X.prog X.w) X.A (evalPairs (pairTrees keys values X.env pos)) (fun vs s'=>∃ ps H',Inv X pins U H' s'/\VV ps vs/\Q ps H') X.xe s
theorem Eu {X:Cx} {pos:Pos}:NQ X pos [] [] []:=fun pins s U H Q I h=>pairTrees_nil_walk ⟨[],H,I,.nil,h⟩
theorem Bj {X:Cx} {pos:Pos} {k v:Expr} {ks:List (Option Expr)} {vs:List Expr} {tk tv:TE} {trs:List (TE×TE)} (hk:PE X k tk) (hv:PE X v tv) (hr:NQ X pos ks vs trs):
  NQ X pos (some k :: ks) (v :: vs) ((tk,tv) :: trs):=fun pins s U H Q I h=>
 pairTrees_cons_walk (dB (hk pins s U H _ I h) fun u s1 ⟨x,H1,I1,rx,q1⟩=>dB (hv pins s1 U H1 _ I1 q1) fun w2 s2 ⟨y,H2,I2,ry,q2⟩=>
  dB (hr pins s2 U H2 _ I2 q2) fun ws s3 ⟨ps,H3,I3,rel,q3⟩=>⟨(x,y) :: ps,H3,I3,.cons ⟨rx,ry⟩ rel,q3⟩)
def jq (kvs more:List (Key×V)):List (Key×V):=more.foldl (fun acc kv=>putK acc kv.1 kv.2) kvs
theorem KV.merge:∀ {more:List (Key×V)} {rs:List (Key×Value)} {kvs:List (Key×V)} {vs:List (Key×Value)},KV more rs->KV kvs vs->KV (jq kvs more) (merged vs rs):=by
 intro more rs kvs vs r
 unfold KV at r
 induction r generalizing kvs vs with
 | nil=>intro q;exact q
 | @cons p q ps qs h t ih=>
  intro r0
  have e:KV (putK kvs p.1 p.2) (stored vs q.1 q.2):=by
   have:=r0.put p.1 h.2
   rw [← h.1];exact this
  exact ih e
theorem mq:∀ (more kvs:List (Key×V)),(jq kvs more).length<=kvs.length+more.length
 | [],kvs=>by show kvs.length<=kvs.length+0;omega
 | p :: r,kvs=>by
  have h1:=mq r (putK kvs p.1 p.2)
  have h2:=kZ kvs p.1 p.2
  show (jq (putK kvs p.1 p.2) r).length<=_
  rw [List.length_cons];omega
theorem rB {P:Program} {w:World}:∀ {kvs:List (Key×V)} {ws:List (Value×Value)},VV (kvs.map fun kv=>(kV kv.1,kv.2)) ws->∃ rs,Carries (aR P w) ws rs/\KV kvs rs
 | [],_,r=>by rw [List.map_nil] at r;cases r;exact ⟨[],True.intro,.nil⟩
 | p :: kvs,_,r=>by
  rw [List.map_cons] at r
  cases r with
  | @cons a b as bs h t=>
   obtain ⟨rs,c,q⟩:=rB (P:=P) (w:=w) t
   obtain ⟨b1,b2⟩:=b
   exact ⟨(p.1,b2) :: rs,⟨rm h.1,rfl,c⟩,.cons ⟨rfl,h.2⟩ q⟩
def Bk (trs:List (TE×TE)):TE:=fun U H Q=>∀ p,H p=none->uO trs U (upd H p (.dK [])) fun ps H2=>H2 p=some (.dK [])/\∃ kvs:List (Key×V),ps=kvs.map (fun kv=>(kV kv.1,kv.2))/\kvs.length<=15/\Q (.ref p) (upd H2 p (.dK (jq [] kvs)))
theorem Ew {X:Cx} {pos:Pos} {keys:List (Option Expr)} {values:List Expr} {trs:List (TE×TE)} (h:NQ X pos keys values trs) (hall:keys.all (·.isSome)=true) (hl:keys.length=values.length) (h0:keys≠[])
  (h15:keys.length<=15):PE X (.Dict keys values pos) (Bk trs):=by
 intro pins s U H Q I q
 have hn:=I.hok.fresh (Nat.le_refl s.heap.objs.size)
 have I1:=I.laid (a:=s.heap.objs.size) (o:=.dK []) (h':=s.heap.push {cls:=.type "dict",data:=.dict #[]}) (t':=s.toks) (fun _ _ q=>Heap.get?_push_of_some _ q) (Nat.le_refl _) (vM s.heap I.big)
 refine wpAny_Dict_walk (knd:=aR X.prog X.w) hall hl h0 h15 (dB (h pins _ U _ _ I1 (q _ hn)) fun ws s2 qq0=>?_)
 obtain ⟨ps,H2,I2,rel,e,kvs,ep,lk,q2⟩:=qq0
 subst ep
 obtain ⟨rs,c,rk⟩:=rB (P:=X.prog) (w:=X.w) rel
 obtain ⟨z,hd,vs0,r0,dd⟩:=HB I2.hok e
 cases r0
 refine ⟨rs,c,dd,fun h' dd' hs=>⟨.ref s.heap.objs.size,_,?_,rfl,q2⟩⟩
 have hz:(jq [] kvs).length<=sizeLine:=by
  have h1:=mq kvs []
  rw [List.length_nil] at h1
  rw [sizeLine_eq];omega
 have he:∃ q,h'.get? s.heap.objs.size=some q:=let ⟨q,_,_,hq,_⟩:=dd';⟨q,hq⟩
 exact uN I2 (by rw [e];exact True.intro) hs he (Bg hz hd (rk.merge .nil) dd')
structure M2 (X:Cx) (o:Expr) (m:Str) (apos:Pos) (e f:Expr) (cpos:Pos):Prop where
 base:attributeBase o m X.env (eval o X.env)=eval o X.env
 few:((backTo cpos (starEach [e,f] X.env)).all (fun x=>!x.1) && (backToKw cpos (keywordEach [] X.env)).all (fun x=>x.1.isSome)
  && decide (([e,f]:List Expr).length+([]:List Keyword).length+(if ([]:List Keyword).isEmpty then 0 else 1) < 30))=true
 line:(apos.endLine == cpos.line)=true
 trees:backTo cpos (starEach [e,f] X.env)=[(false,eval e X.env),(false,eval f X.env)]
def IsD (H:Hp) (a:Addr):Prop:=(∃ kvs,Rd H a (.dK kvs))\/∃ kvs,Rd H a (.dT kvs)
theorem JR {X:Cx} {pins:List (Addr×Obj)} {U:St} {H:Hp} {s:Shared} {a:Addr} (I:Inv X pins U H s) (d:IsD H a):
  s.TypeIs (.ref a) "dict"/\(∀ b,Value.ref a= .ref b->∃ ob,s.heap.get? b=some ob/\ob.dict=none)/\(a == sysModules)=false:=by
 rcases d with ⟨kvs,e⟩ | ⟨kvs,e⟩
 ·obtain ⟨_,hd,vs,_,dd⟩:=vK I.hok e
  refine ⟨dd.typeIs,fun b q=>?_,hd⟩
  cases q
  obtain ⟨ob,_,_,h1,h2,_⟩:=dd
  exact ⟨ob,h1,h2.2.1⟩
 ·obtain ⟨_,hd,xs,_,dd⟩:=vL I.hok e
  refine ⟨dd.typeIs,fun b q=>?_,hd⟩
  cases q
  obtain ⟨ob,_,_,h1,h2,_⟩:=dd
  exact ⟨ob,h1,h2.2.1⟩
section
variable {X:Cx} {pins:List (Addr×Obj)} {U:St} {H:Hp} {s:Shared} {a:Addr} {y d:V} {u r:Value} {o:Option V} {A:Around} {E:Value->Shared->Prop}
theorem JV {Q:Value->Shared->Prop} (hu:A.units+1 < cLine) (I:Inv X pins U H s) (g:DGet H a y o) (ry:RelV y u) (rd:RelV d r) (h:∀ w' s',Inv X pins U H s'->RelV (o.getD d) w'->Q w' s'):
  wpAny (model X.prog X.w) A (call (.builtin "dict.get") [.ref a,u,r]) Q E s:=by
 rcases g with ⟨kvs,k,e,ey,l⟩ | ⟨kvs,k,b,e,ey,eb,l⟩
 ·subst ey
  obtain ⟨z,hd,vs,rel,dd⟩:=vK I.hok e
  refine call_meetsIn PySem.F.slot_dict_get dd.typeIs PySem.F.entry_dict_get (PySem.F.args_dict_get_3 _ _ _) (meets_dict_get_default (aR X.prog X.w) a (rm ry) hd r) ⟨_,dd.mapOf,h _ _ (I.tok _) ?_⟩
  rw [l]
  exact (rel.val k).getD rd
 ·subst ey
  cases (show u=Value.ref b from ry)
  obtain ⟨z,hd,xs,rel,dd⟩:=vL I.hok e
  refine call_meetsIn PySem.F.slot_dict_get dd.typeIs PySem.F.entry_dict_get (PySem.F.args_dict_get_3 _ _ _) (meetsH_dict_get_default (tupleKind (aR X.prog X.w)) a b hd r) ⟨tupleKind_room_in1 hu,k,xs,rn I.hok eb,dd,h _ _ (I.tok _) ?_⟩
  rw [l]
  exact (rel.val k).getD rd
end
def xg (td ty tx:TE):TE:=fun U H Q=>td U H fun x H1=>∃ a,x= .ref a/\IsD H1 a/\ty U H1 fun y H2=>tx U H2 fun z H3=>∃ o,DGet H3 a y o/\Q (o.getD z) H3
section
variable {X:Cx} {o e f:Expr} {apos cpos:Pos} {td ty tx:TE}
theorem Bl (hu:X.A.units+1 < cLine) (ho:PE X o td) (he:PE X e ty) (hf:PE X f tx) (m:M2 X o "get" apos e f cpos):PE X (.Call (.Attribute o "get" apos) [e,f] [] cpos) (xg td ty tx):=by
 intro pins s U H Q I h
 refine wpAny_Call_method m.base m.few m.line PySem.F.plainAttrs_dict PySem.F.slot_dict_get PySem.F.type_dict_get (dB (ho pins s U H _ I h) fun u s1 qq0=>?_)
 obtain ⟨x,H1,I1,rx,a,ex,d,q1⟩:=qq0
 subst ex
 obtain rfl:u=Value.ref a:=rx
 obtain ⟨t1,t2,_⟩:=JR I1 d
 refine ⟨t1,t2,?_⟩
 rw [m.trees]
 refine Calls.callWith_builtin rfl (Calls.evalArgs_plain (Calls.spliced_cons (dB (he pins s1 U H1 _ I1 q1) fun iv s2 ⟨y,H2,I2,ry,q2⟩=>
  Calls.spliced_cons (dB (hf pins s2 U H2 _ I2 q2) fun fv s3 ⟨z,H3,I3,rz,ov,g,q3⟩=>Calls.spliced_nil ?_))))
 exact JV hu I3 g ry rz fun w' s4 I4 rw'=>⟨_,H3,I4,rw',q3⟩
end
def Ex (x:Str):It:=⟨fun i _=>i < x.cps.size,fun i H v H'=>H'=H/\∃ c,x.cps[i]?=some c/\v= .str ⟨#[c]⟩,fun i _=>i=x.cps.size⟩
theorem vN {P:Program} {w:World} {K:W.Frag} {tg:Expr} (it:Addr) (x:Str) (t:Tok) (ty:String)
  (hty:["enumerate","zip","dict_itemiterator","dict_reverseitemiterator","odict_iterator","itertools.zip_longest","itertools.pairwise"].contains ty=false)
  (W:∀ A:Around,A.handled=none->Walks P w A it [it] [it] x.cps.size (SignAt x) fun i h=>h.IsStrIter it ty x t i)
  (hself:∀ (A:Around) (i:Nat) (s:Shared) (Q:Value->Shared->Prop) (E:Value->Shared->Prop),s.heap.IsStrIter it ty x t i->Q (.ref it) s->wpAny (model P w) A (pyIter (.ref it)) Q E s):Turn P w K tg (Ex x) [it] it (fun i h=>h.IsStrIter it ty x t i) where
 mem:=by simp
 obj:=fun i h st b hb=>by
  have e:b=it:=by simpa using hb
  subst e
  obtain ⟨o,e,c,d⟩:=st
  exact ⟨o,e,fun v z=>by rw [d] at z;cases z⟩
 keep:=fun i h h' st k=>by
  obtain ⟨o,e,r⟩:=st
  exact ⟨o,k it (by simp) o e,r⟩
 item:=by
  intro X hP hw hK hc i pins s U H E I hf st hg
  subst hP hw hK
  obtain ⟨f0,f1,f2,f3,f4,f5⟩:=hf it (by simp)
  refine (W X.A (I.ok.hd hc)).item i s _ _ hg st fun v h' tk hv st' kk=>?_
  obtain ⟨c,u,e1,rfl⟩:=hv
  have I1:Inv X pins U H {s with heap:=h',toks:=tk}:=I.turned (fun b o hb e=>kk b o (by simpa using hb) e) f0 f1 f3 f4 f5
  obtain ⟨o,e,cl,d⟩:=id st'
  exact ⟨_,rfl,xU (s:={s with heap:=h',toks:=tk}) e cl d hty ⟨.str ⟨#[c]⟩,H,I1,⟨u,rfl⟩,⟨rfl,c,e1,rfl⟩,st',fun b hb=>(hf b hb).1⟩⟩
 done:=by
  intro X hP hw hK hc i pins s U H E I hf st hg
  subst hP hw hK
  obtain ⟨f0,f1,f2,f3,f4,f5⟩:=hf it (by simp)
  have hg:i=x.cps.size:=hg
  subst hg
  exact (W X.A (I.ok.hd hc)).done s _ _ st fun h' tk kk=>⟨rfl,I.turned (fun b o hb e=>kk b o (by simpa using hb) e) f0 f1 f3 f4 f5⟩
 self:=hself
section
variable {X:Cx}
theorem all_range {bs:List Bool}:(List.range bs.length).all (fun i=>bs.getD i false)=bs.all id:=by
 rw [Bool.eq_iff_iff]
 simp only [List.all_eq_true,List.mem_range]
 constructor
 ·intro h b hb
  obtain ⟨i,hi,e⟩:=List.mem_iff_getElem.mp hb
  have:=h i hi
  rw [List.getD_eq_getElem?_getD,List.getElem?_eq_getElem hi] at this
  simp only [Option.getD_some] at this
  rw [← e];exact this
 ·intro h i hi
  rw [List.getD_eq_getElem?_getD,List.getElem?_eq_getElem hi]
  exact h _ (List.getElem_mem hi)
theorem pL:∀ {bs:List Bool} {us:List Value} {i:Nat} {v:Value},Vals (bs.map V.bl) us->us[i]?=some v->v= .bool (bs.getD i false)
 | [],_,i,v,.nil,e=>by simp at e
 | b :: bs,_,0,v,.cons r t,e=>by simp at e;subst e;exact r
 | b :: bs,_,i+1,v,.cons r t,e=>by
  simp at e
  have:=pL (bs:=bs) t e
  simpa using this
def rAll:List V->Hp->VK->Prop:=fun xs H Q=>∃ (p:Addr) (bs:List Bool),xs=[.ref p]/\H p=some (.lst (bs.map V.bl))/\Q (.bl (bs.all id)) H
theorem fV (hc:X.calm=true):CallR X (.builtin "all") rAll:=by
 intro pins s U H xs us Q I r h
 obtain ⟨p,bs,rfl,hp,q⟩:=h
 obtain ⟨u,rfl,ru⟩:=vals1 r
 cases ru
 obtain ⟨hz,its,n,rv,e⟩:=I.hok p _ hp
 refine call_all_walk (wpAny_pyIter_list (items:=its.toArray) ⟨_,e,rfl,n,rfl⟩ ?_)
 refine ⟨s.heap.objs.size,_,_,_,_,_,fun i=>bs.getD i false,rfl,Walks.list (A:=X.A.in1) (I.ok.hd hc) s.heap.objs.size p (Nat.ne_of_lt (Heap.lt_size e)) its.toArray,⟨⟨_,Heap.get?_push_size _ rfl,rfl,rfl⟩,⟨_,Heap.get?_push_of_some _ e,rfl,n,rfl⟩⟩,?_,fun h' tk hk=>?_⟩
 ·intro i v s' Q' E' hv hq
  have:=pL rv (by simpa using hv)
  subst this
  exact wpAny_truthy_bool hq
 ·have hl:its.toArray.size=bs.length:=by have:=rv.length;simpa using this.symm
  rw [hl,all_range]
  refine ⟨.bl _,H,?_,rfl,q⟩
  exact I.kept fun b o e=>hk b o (by simp;exact Nat.ne_of_lt (Heap.lt_size e)) (Heap.get?_push_of_some _ e)
theorem mF:∀ {ys:List Str} {us:List Value},Vals (ys.map V.str) us->StrsAre us ys
 | [],_,.nil=>.nil
 | y :: ys,_,.cons r t=>by
  obtain ⟨k,e⟩:=(show ∃ t,_=Value.str y t from r)
  subst e
  exact .cons y k (mF t)
def rJoin:V->List V->Hp->VK->Prop:=fun x xs H Q=>∃ (sep:Str) (p:Addr) (ys:List Str),x= .str sep/\xs=[.ref p]/\H p=some (.lst (ys.map V.str))/\(ys.map (·.length)).sum+ys.length*sep.length<=16777216/\Q (.str (Txt.join sep ys)) H
theorem Ey:Hy X "str.join" rJoin:=by
 intro pins s U H x xs v us Q I rx r h
 obtain ⟨sep,p,ys,rfl,rfl,hp,hz,q⟩:=h
 obtain ⟨u,rfl,ru⟩:=vals1 r
 cases ru
 obtain ⟨t,rfl⟩:=rx
 obtain ⟨hz',its,n,rv,e⟩:=I.hok p _ hp
 exact join_list (items:=its.toArray) ⟨_,e,rfl,n,rfl⟩ (by simpa using mF rv) hz fun t' k=>⟨.str _,H,I.tok _,⟨_,rfl⟩,q⟩
def NT:V->Option Int->Option Int->Hp->VK->Prop:=fun v lo hi H Q=>∃ x,v= .str x/\x.length<=sizeLine/\Q (.str (Txt.slice x lo hi)) H
theorem JX:SlR X NT:=by
 intro pins s U H x v vl vu lo hi sl Q I rx hs pl pu h
 obtain ⟨z,rfl,hz,q⟩:=h
 obtain ⟨t,rfl⟩:=rx
 refine ⟨"str",_,F.slot_str_getitem.lookup,typeIs_str _ _ _,?_⟩
 have fin:∀ (t' k:Nat),EP X pins U Q (.str (Txt.slice z lo hi) t') {s with toks:=k}:=fun t' k=>⟨.str _,H,I.tok _,⟨_,rfl⟩,q⟩
 have sz:=Nat.le_trans (Txt.slice_le z lo hi) hz
 obtain ⟨o,ho,hc,hd⟩:=hs
 cases pl with
 | none=>
  cases pu with
  | none=>exact wpAny_getItem_str_slice (l:=none) (u:=none) (st:=none) ⟨o,ho,hc,hd⟩ rfl (post_val_or_str ⟨sz,fin⟩)
  | int j tj=>exact wpAny_getItem_str_slice (l:=none) (u:=some (j,tj)) (st:=none) ⟨o,ho,hc,hd⟩ rfl (post_val_or_str ⟨sz,fin⟩)
 | int i ti=>
  cases pu with
  | none=>exact wpAny_getItem_str_slice (l:=some (i,ti)) (u:=none) (st:=none) ⟨o,ho,hc,hd⟩ rfl (post_val_or_str ⟨sz,fin⟩)
  | int j tj=>exact wpAny_getItem_str_slice (l:=some (i,ti)) (u:=some (j,tj)) (st:=none) ⟨o,ho,hc,hd⟩ rfl (post_val_or_str ⟨sz,fin⟩)
def HD:R2:=fun x y H Q=>∃ i n,x= .str i/\y= .int n/\MulOk i n/\Q (.str (Txt.mul i n)) H
theorem xj:OpR X (binaryOp .Mult) HD:=by
 intro pins s U H x y v u Q I rx ry h
 obtain ⟨i,n,rfl,rfl,hk,q⟩:=h
 obtain ⟨t,rfl⟩:=rx
 obtain ⟨t',rfl⟩:=ry
 exact SB.mul hk fun t' k=>⟨.str _,H,I.tok _,⟨_,rfl⟩,q⟩
def sgn (x:Str):List V:=x.cps.toList.map fun c=>V.str ⟨#[c]⟩
theorem ud {x:Str} {acc:Array Value} (h:ItemsOf (SignAt x) acc x.cps.size):Vals (sgn x) acc.toList:=by
 obtain ⟨h1,h2⟩:=h
 have key:∀ (l:List Nat) (a:List Value),l.length=a.length->(∀ (j:Nat) (v:Value),a[j]?=some v->∃ (c:Nat) (u:Tok),l[j]?=some c/\v=Value.str ⟨#[c]⟩ u)->Vals (l.map fun c=>V.str ⟨#[c]⟩) a:=by
  intro l
  induction l with
  | nil=>intro a hl _;cases a with
   | nil=>exact .nil
   | cons _ _=>simp at hl
  | cons c l ih=>
   intro a hl hh
   cases a with
   | nil=>simp at hl
   | cons v a=>
    obtain ⟨c',u,e1,e2⟩:=hh 0 v (by simp)
    simp at e1;subst e1
    refine .cons ⟨u,e2⟩ (ih a (by simpa using hl) fun j v' e=>?_)
    obtain ⟨c',u,e1,e2⟩:=hh (j+1) v' (by simpa using e)
    exact ⟨c',u,by simpa using e1,e2⟩
 refine key x.cps.toList acc.toList (by simp [h1]) fun j v e=>?_
 obtain ⟨c,u,e1,e2⟩:=h2 j v (by simpa using e)
 exact ⟨c,u,by simpa using e1,e2⟩
theorem vO (hc:X.calm=true):CallR X (.type "list") (fun xs H Q=>∃ x,xs=[.str x]/\x.cps.size<=sizeLine/\∀ p,H p=none->Q (.ref p) (upd H p (.lst (sgn x)))):=by
 intro pins s U H xs us Q I r h
 obtain ⟨x,rfl,hz,q⟩:=h
 obtain ⟨u,rfl,t,rfl⟩:=vals1 r
 refine call_list_str (I.ok.hd hc) x t (hn:=hz) fun h' tk acc' c' hk hS hacc=>?_
 refine ⟨.ref s.heap.objs.size,_,I.laid (o:=.lst (sgn x)) hk (Nat.le_refl _) ⟨by simp [sgn];exact hz,acc'.toList,c',ud hacc,by simpa using hS⟩,rfl,q _ I.fresh⟩
theorem uP (hc:X.calm=true):CallR X (.type "tuple") (fun xs H Q=>∃ x,xs=[.str x]/\x.cps.size<=sizeLine/\∀ p,H p=none->Q (.ref p) (upd H p (.tup (sgn x)))):=by
 intro pins s U H xs us Q I r h
 obtain ⟨x,rfl,hz,q⟩:=h
 obtain ⟨u,rfl,t,rfl⟩:=vals1 r
 refine call_tuple_str (I.ok.hd hc) x t (hsz:=hz) fun h' tk acc hk hacc=>?_
 have J:Inv X pins U H {s with heap:=h',toks:=tk}:=I.kept hk
 refine ⟨.ref h'.objs.size,_,J.laid (t':=tk) (o:=.tup (sgn x)) (fun b o e=>Heap.get?_push_of_some _ e) (Nat.le_refl _) ⟨by simp [sgn];exact hz,acc.toList,ud hacc,⟨_,Heap.get?_push_size _ rfl,rfl,0,by simp⟩⟩,rfl,q _ J.fresh⟩
def JZ (K:W.Frag):List V->Hp->VK->Prop:=fun xs H Q=>∃ x T t b,xs=[x,.ty T]/\TyOf K H x t/\PySem.W.kitOne K t (.type T)=some b/\Q (.bl b) H
theorem Bm:CallR X (.builtin "isinstance") (JZ X.K):=by
 intro pins s U H xs us Q I r h
 obtain ⟨x,T,t,b,rfl,ty,e,q⟩:=h
 obtain ⟨u,v,rfl,ru,rv⟩:=vals2 r
 cases rv
 exact yX I ru ty e fun tk=>⟨.bl b,H,I.tok _,rfl,q⟩
def xm:List V->List V->Bool
 | [],[]=>true
 | x :: xs,y :: ys=>ye x y && xm xs ys
 | _,_=>false
theorem rC:∀ (xs ys:List V),xs.length=ys.length->(List.range xs.length).all (fun j=>ye (xs.getD j .non) (ys.getD j .non))=xm xs ys
 | [],[],_=>rfl
 | x :: xs,y :: ys,h=>by
  have ih:=rC xs ys (by simpa using h)
  rw [List.length_cons,List.range_succ_eq_map,List.all_cons,List.all_map]
  simp only [xm]
  rw [← ih]
  rfl
 | [],y :: ys,h=>by simp at h
 | x :: xs,[],h=>by simp at h
theorem vP:∀ {xs ys:List V},xs.length≠ys.length->xm xs ys=false
 | [],[],h=>absurd rfl h
 | [],y :: ys,_=>rfl
 | x :: xs,[],_=>rfl
 | x :: xs,y :: ys,h=>by simp [xm,vP (xs:=xs) (ys:=ys) (by simpa using h)]
def NZ (K:W.Frag) (neg:Bool):R2:=fun x y H Q=>∃ a b xs ys,x= .ref a/\y= .ref b/\SqL K H a xs/\SqL K H b ys/\xs.all gD=true/\ys.all gD=true/\Q (.bl (if neg then !xm xs ys else xm xs ys)) H
theorem zr (hu:X.A.units < cLine):OpR X (compareOp .Eq) (NZ X.K false):=by
 intro pins s U H x y v u Q I rx ry h
 obtain ⟨a,b,xs,ys,rfl,rfl,ha,hb,fx,fy,q⟩:=h
 cases rx
 cases ry
 obtain ⟨its,r1,p1,z1⟩:=I.list ha
 obtain ⟨jts,r2,p2,z2⟩:=I.list hb
 have l1:its.toArray.size=xs.length:=by simpa using r1.length.symm
 have l2:jts.toArray.size=ys.length:=by simpa using r2.length.symm
 by_cases hl:xs.length=ys.length
 ·refine SeqAt.eq_listAt (e:=fun j=>ye (xs.getD j .non) (ys.getD j .non)) p1.isList p2.isList (by rw [l1,l2];exact hl) hu (fun j h1 h2=>?_) ?_
  ·have h1':j < xs.length:=by omega
   have h2':j < ys.length:=by omega
   obtain ⟨u1,e1,q1⟩:=r1.get (List.getElem?_eq_getElem h1')
   obtain ⟨u2,e2,q2⟩:=r2.get (List.getElem?_eq_getElem h2')
   have e1':its.toArray[j]=u1:=by
    have:=List.getElem?_eq_some_iff.mp e1
    obtain ⟨_,z⟩:=this
    simpa using z
   have e2':jts.toArray[j]=u2:=by
    have:=List.getElem?_eq_some_iff.mp e2
    obtain ⟨_,z⟩:=this
    simpa using z
   rw [e1',e2']
   have g1:xs.getD j .non=xs[j]:=by rw [List.getD_eq_getElem?_getD,List.getElem?_eq_getElem h1'];rfl
   have g2:ys.getD j .non=ys[j]:=by rw [List.getD_eq_getElem?_getD,List.getElem?_eq_getElem h2'];rfl
   show SeqAt.EqAt X.A.in1 s u1 u2 (ye (xs.getD j .non) (ys.getD j .non))
   rw [g1,g2]
   exact oY q1 q2 (List.all_eq_true.mp fx _ (List.getElem_mem h1')) (List.all_eq_true.mp fy _ (List.getElem_mem h2'))
  ·rw [l1,rC xs ys hl]
   exact ⟨.bl _,H,I,rfl,q⟩
 ·refine SeqAt.eq_list_lengthsAt p1.isList p2.isList (by rw [l1,l2];simpa using hl) hu ?_
  rw [if_neg (by simp),vP hl] at q
  exact ⟨.bl false,H,I,rfl,q⟩
end
def dj (K:W.Frag) (mg:Str->Option Value) (x:Str) (st:Stmt):Prop:=∃ f fd,Fun K x x st f fd/\mg x=some (.ref f)
theorem aW {K:W.Frag} {mg:Str->Option Value} {h:Heap} (X:K.In h) (G:h.Ns mainGlobals mg) {x:Str} {st:Stmt} {f:Addr} {oc:Value} {od an:Option Addr} {osl:Array (Option Value)} {kV doc pm cdv ct:Value}
  (a:PySem.W.nsIn K mainGlobals x=some (some (.ref f)))
  (l:K.lookup f=some ⟨oc,od,.func (PySem.W.fnOf x x (fU st) (cI st) (ak st) .none kV doc pm an cdv ct),osl⟩)
  (c:PySem.W.codeIn K cdv x=true) (k:PySem.W.keepIn K (.ref f)=true):dj K mg x st:=⟨f,_,Bb l c k,PySem.W.mg_of X G a⟩
def p8 (P:Program) (w:World) (K:W.Frag) (mg:Str->Option Value) (base:Heap) (k:Nat) (x:Str) (ps:List Str) (sp:Sp):Prop:=
 ∃ f fd,mg x=some (.ref f)/\PySem.W.keepIn K (.ref f)=true/\Binds K fd ps []/\oX P w K mg base zj k f fd ps sp
section
variable {P:Program} {w:World} {K:W.Frag} {mg:Str->Option Value} {base:Heap}
theorem Ka {x:Str} {st:Stmt} {N ps:List Str} {k:Nat} {sp:Sp} (D:dj K mg x st) (S:aK N ps (ak st))
  (hb:∀ (kV doc pm:Value) (an:Option Addr) (cdv ct:Value) (us:List Value),us.length=ps.length->bindArgs (PySem.W.fnOf x x (fU st) (cI st) (ak st) .none kV doc pm an cdv ct) ⟨us,[]⟩=pure (ps.zip us))
  (len:∀ vs H Q E,sp vs H Q E->vs.length=ps.length)
  (hbody:∀ (f:Addr) (cdv:Value) (A:Around) (outer:List Env) (s:Shared) (H:Hp) (vs:List V) (Q:VK) (E:XK),Room k (A.deeper (envOfC x (ak st) s.heap.objs.size f cdv))->sp vs H Q E->
   ∃ t,PSs (m5 zj P w K mg base N x (ak st) f cdv A outer s H E).nox (cI st) t/\t {nx:=fun _ H'=>Q .non H',rt:=Q} (start N vs) H):p8 P w K mg base (k+1) x ps sp:=by
 obtain ⟨f,fd,F,hm⟩:=D
 exact ⟨f,fd,hm,F.kp,F.binds hb,F.ok S len fun cdv A outer s H vs Q E hr h=>hbody f cdv A outer s H vs Q E hr h⟩
end
section
variable {X:Cx}
theorem Bo {k:Nat} {x:Str} {ps:List Str} {sp:Sp} {p pos:Pos} {e:Expr} {es:List Expr} {t:TA} (F:p8 X.prog X.w X.K X.mg X.base k x ps sp) (hr:Room k X.A) (hg:Gl X x)
  (ha:PA X (e :: es) t) (hdb:autoParam ((x == ("__debug__":Str))=false) L2.auto2._auto_1) (he:autoParam (starEach (e :: es) X.env=(false,eval e X.env) :: starEach es X.env) L2.auto4._auto_1) (hpl:autoParam ((backTo pos (starEach es X.env)).any (·.1)=false) L2.auto4._auto_1):
  PE X (.Call (.Name x p) (e :: es) [] pos) (tU sp [] E0 t):=by
 obtain ⟨f,fd,a,b,c,d⟩:=F
 exact El d hr hg a b c .nil NB ha hdb he hpl
def yh:R2:=fun x y H Q=>(∃ i j,x= .int i/\y= .int j/\Q (.int (i+j)) H)\/(∃ i j,x= .str i/\y= .str j/\i.length+j.length<=sizeLine/\Q (.str (i ++ j)) H)\/Ny x y H Q
theorem aV:OpR X (binaryOp .Add) yh:=Jm.or (wU.or JP)
def yj:R2:=fun x y H Q=>(∃ i j,x= .int i/\y= .int j/\CMul i j/\Q (.int (i*j)) H)\/HD x y H Q\/Nz x y H Q
theorem gB:OpR X (binaryOp .Mult) yj:=Jo.or (xj.or JQ)
theorem Bp {x:Str} {z:Str} {pos:Pos} (hg:Gl X x) (hm:∃ t,X.mg x=some (.str z t)) (hd:autoParam ((x == ("__debug__":Str))=false) L2.auto2._auto_1):PE X (.Name x pos) (tC (.str z)):=
 let ⟨t,e⟩:=hm;uB hg e ⟨t,rfl⟩ hd
theorem Bq {x:Str} {z:Int} {pos:Pos} (hg:Gl X x) (hm:∃ t,X.mg x=some (.int z t)) (hd:autoParam ((x == ("__debug__":Str))=false) L2.auto2._auto_1):PE X (.Name x pos) (tC (.int z)):=
 let ⟨t,e⟩:=hm;uB hg e ⟨t,rfl⟩ hd
theorem N5 {x:Str} {T:String} {pos:Pos} (hg:Gl X x) (hm:X.mg x=none) (hv:bootBuiltins x=some (.type T)) (hn:autoParam (x≠"__name__") L2.auto2._auto_1) (hd:autoParam ((x == ("__debug__":Str))=false) L2.auto2._auto_1):PE X (.Name x pos) (tC (.ty T)):=
 DQ hg hm hv rfl hn hd
def Br (K:W.Frag):R2:=fun x y H Q=>(∃ i j,x= .str i/\y= .str j/\Q (.bl (!(Builtin.Str.occurrences j i 0 j.length 1).isEmpty)) H)\/QB K false x y H Q
theorem Kc:OpR X (compareOp .In) (Br X.K):=yQ.or zb
def qM (K:W.Frag):R2:=fun x y H Q=>(∃ i j,x= .str i/\y= .str j/\Q (.bl (!(!(Builtin.Str.occurrences j i 0 j.length 1).isEmpty))) H)\/QB K true x y H Q
theorem zu:OpR X (compareOp .NotIn) (qM X.K):=uH.or uG
def Kd (K:W.Frag):R2:=fun x y H Q=>rEq x y H Q\/NZ K false x y H Q
theorem Ke (hu:X.A.units < cLine):OpR X (compareOp .Eq) (Kd X.K):=Nh.or (zr hu)
def QC (K:W.Frag):V->Option Int->Option Int->Hp->VK->Prop:=fun x lo hi H Q=>Nu K x lo hi H Q\/Nm K x lo hi H Q\/NT x lo hi H Q
theorem Kf:SlR X (QC X.K):=Ep.or (JC.or JX)
def Ez (K:W.Frag) (tl:TE):TI:=fun U H R=>tl U H fun x H1=>(∃ a,x= .ref a/\(∃ xs,SqL K H1 a xs)/\R (Hv K a) H1)\/(∃ a,x= .ref a/\(∃ xs,SqT K H1 a xs)/\R (Nb K a) H1)\/(∃ z,x= .str z/\R (Ex z) H1)
theorem Kg {tg l:Expr} {tl:TE} (hl:PE X l tl):PI X tg l (Ez X.K tl):=by
 intro pins s U H R I h
 refine dB (hl pins s U H _ I h) fun v s1 qq0=>?_
 obtain ⟨x,H1,I1,r1,q1⟩:=qq0
 rcases q1 with ⟨a,rfl,⟨xs,hq⟩,q⟩ | ⟨a,rfl,⟨xs,hq⟩,q⟩ | ⟨z,rfl,q⟩
 ·cases r1
  obtain ⟨its,rv,p,hz⟩:=I1.list hq
  refine wpAny_pyIter_list p.isList ?_
  refine ⟨s1.heap.objs.size,[s1.heap.objs.size],_,_,H1,rfl,I1.kept (t':=s1.toks) fun b o e=>Heap.get?_push_of_some _ e,yM a _,⟨_,Heap.get?_push_size _ rfl,rfl,rfl⟩,fun b hb=>?_,q⟩
  have e:b=s1.heap.objs.size:=by simpa using hb
  subst e
  exact I1.fpOk (Nat.le_refl _) (I1.hok.fresh (Nat.le_refl _))
 ·cases r1
  obtain ⟨its,rv,p,hz⟩:=I1.tuple hq
  refine wpAny_pyIter_tuple (show s1.heap.IsTuple a its.toArray from p) ?_
  refine ⟨s1.heap.objs.size,[s1.heap.objs.size],_,_,H1,rfl,I1.kept (t':=s1.toks) fun b o e=>Heap.get?_push_of_some _ e,wO a _,⟨_,Heap.get?_push_size _ rfl,rfl,rfl⟩,fun b hb=>?_,q⟩
  have e:b=s1.heap.objs.size:=by simpa using hb
  subst e
  exact I1.fpOk (Nat.le_refl _) (I1.hok.fresh (Nat.le_refl _))
 ·obtain ⟨t,rfl⟩:=r1
  have fin:∀ (ty:String) (T:Turn X.prog X.w X.K tg (Ex z) [s1.heap.objs.size] s1.heap.objs.size (fun i h=>h.IsStrIter s1.heap.objs.size ty z t i)) (o:Obj),(s1.heap.push o).IsStrIter s1.heap.objs.size ty z t 0->PIE X pins U tg R (.ref s1.heap.objs.size) {s1 with heap:=s1.heap.push o}:=
   fun ty T o st=>⟨s1.heap.objs.size,[s1.heap.objs.size],_,_,H1,rfl,I1.kept (t':=s1.toks) fun b o e=>Heap.get?_push_of_some _ e,T,st,fun b hb=>by
    have e:b=s1.heap.objs.size:=by simpa using hb
    subst e
    exact I1.fpOk (Nat.le_refl _) (I1.hok.fresh (Nat.le_refl _)),q⟩
  cases ha:z.cps.all (· < 128)
  ·exact wpAny_pyIter_wide ha (fin "str_iterator" (vN _ z t _ (by decide) (fun A' hA=>Walks.strWide hA _ z t) fun A i s Q E st h=>wpAny_pyIter_striter_wide st h) _ ⟨_,Heap.get?_push_size _ rfl,rfl,rfl⟩)
  ·exact wpAny_pyIter_ascii ha (fin "str_ascii_iterator" (vN _ z t _ (by decide) (fun A' hA=>Walks.strAscii hA _ z t) fun A i s Q E st h=>wpAny_pyIter_striter_ascii st h) _ ⟨_,Heap.get?_push_size _ rfl,rfl,rfl⟩)
end
section
variable {X:Cx} {K:W.Frag}
theorem EY (hK:X.K=K):IxR X (JL K):=hK ▸ JM
theorem Bs (hK:X.K=K):OpR X (compareOp .In) (Br K):=hK ▸ Kc
theorem zx (hK:X.K=K):OpR X (compareOp .NotIn) (qM K):=hK ▸ zu
theorem Kh (hK:X.K=K) (hu:X.A.units < cLine):OpR X (compareOp .Eq) (Kd K):=hK ▸ Ke hu
theorem Fb {tg l:Expr} {tl:TE} (hK:X.K=K) (hl:PE X l tl):PI X tg l (Ez K tl):=hK ▸ Kg hl
def Fd (K:W.Frag):List V->Hp->VK->Prop:=fun xs H Q=>∃ x n,xs=[x]/\Nk K x H n/\Q (.int n) H
theorem aQ (hK:X.K=K):CallR X (.builtin "len") (Fd K):=hK ▸ Ao
theorem fJ (hK:X.K=K):CallR X (.builtin "isinstance") (JZ K):=hK ▸ Bm
def Bt (K:W.Frag):List V->Hp->VK->Prop:=fun xs H Q=>(∃ p ys,xs=[.ref p]/\(SqL K H p ys\/SqT K H p ys)/\∀ l,H l=none->Q (.ref l) (upd H l (.lst ys)))\/(∃ x,xs=[.str x]/\x.cps.size<=sizeLine/\∀ p,H p=none->Q (.ref p) (upd H p (.lst (sgn x))))
theorem xn (hK:X.K=K) (hc:X.calm=true):CallR X (.type "list") (Bt K):=hK ▸ uI.or (vO hc)
def N6 (K:W.Frag):List V->Hp->VK->Prop:=fun xs H Q=>(∃ p ys,xs=[.ref p]/\((SqL K H p ys/\∀ l,H l=none->Q (.ref l) (upd H l (.tup ys)))\/(SqT K H p ys/\Q (.ref p) H)))\/(∃ x,xs=[.str x]/\x.cps.size<=sizeLine/\∀ p,H p=none->Q (.ref p) (upd H p (.tup (sgn x))))
theorem vQ (hK:X.K=K) (hc:X.calm=true):CallR X (.type "tuple") (N6 K):=hK ▸ sS.or (uP hc)
variable {o e:Expr} {es:List Expr} {to:TE} {t:TA} {name:Str} {apos cpos:Pos} {T id:String} {r:V->List V->Hp->VK->Prop}
theorem Kl (hK:X.K=K) (pa:PlainAttrs T) (slot:Slot T name id) (hty:typeOf (.builtin id)=pure (.type "method_descriptor")) (hm:Hy X id r) (ho:PE X o to) (ha:PA X (e :: es) t)
  (hbase:autoParam (attributeBase o name X.env (eval o X.env)=eval o X.env) L2.auto4._auto_1)
  (hfew:((backTo cpos (starEach (e :: es) X.env)).all (fun x=>!x.1) && (backToKw cpos (keywordEach [] X.env)).all (fun x=>x.1.isSome)
   && decide ((e :: es).length+([]:List Keyword).length+(if ([]:List Keyword).isEmpty then 0 else 1) < 30))=true:=by rfl)
  (hline:autoParam ((apos.endLine == cpos.line)=true) L2.auto4._auto_1) (hs:autoParam (starEach (e :: es) X.env=(false,eval e X.env) :: starEach es X.env) L2.auto4._auto_1) (hplain:autoParam ((backTo cpos (starEach es X.env)).any (·.1)=false) L2.auto4._auto_1):
  PE X (.Call (.Attribute o name apos) (e :: es) [] cpos) (Nv K T r to t):=by
 subst hK;exact Nx pa slot hty hm ho ha hbase hfew hline hs hplain
end
section
variable {X:Cx} {sc scope:Scope} {N':List Str} {C:Addr} {s₀:Shared} {H₀:Hp} {ex:List Addr} {x:Str} {pos:Pos}
theorem pvL (i:Nat) (h:sc.names.lookup x=some .local) (hN:autoParam (X.N[i]?=some x) L2.auto4._auto_1) (hsc:autoParam (X.env.scope=sc) L2.auto4._auto_1) (hd:autoParam ((x == ("__debug__":Str))=false) L2.auto6._auto_1) (hcd:autoParam ((x == ("__classdict__":Str))=false) L2.auto6._auto_1):
  PE X (.Name x pos) (pX i):=uz hN (.inl (by rw [hsc];exact h)) hd hcd
theorem pvC (i:Nat) (h:sc.names.lookup x=some .cell) (hN:autoParam (X.N[i]?=some x) L2.auto4._auto_1) (hsc:autoParam (X.env.scope=sc) L2.auto4._auto_1) (hd:autoParam ((x == ("__debug__":Str))=false) L2.auto6._auto_1) (hcd:autoParam ((x == ("__classdict__":Str))=false) L2.auto6._auto_1):
  PE X (.Name x pos) (pX i):=uz hN (.inr (.inl (by rw [hsc];exact h))) hd hcd
theorem pvBL (i:Nat) (h:scope.names.lookup x=some .local) (hN:autoParam (N'[i]?=some x) L2.auto4._auto_1) (hd:autoParam ((x == ("__debug__":Str))=false) L2.auto6._auto_1) (hcd:autoParam ((x == ("__classdict__":Str))=false) L2.auto6._auto_1):
  PE (lW X N' scope C s₀ H₀ ex) (.Name x pos) (pX i):=uz hN (.inl (lookup_relabel_local h)) hd hcd
theorem pvBF (i:Nat) (h:scope.names.lookup x=some .free) (hN:autoParam (N'[i]?=some x) L2.auto4._auto_1) (hd:autoParam ((x == ("__debug__":Str))=false) L2.auto6._auto_1) (hcd:autoParam ((x == ("__classdict__":Str))=false) L2.auto6._auto_1):
  PE (lW X N' scope C s₀ H₀ ex) (.Name x pos) (pX i):=uz hN (by
   rcases jJ (env:=X.env) h with z | z
   ·exact .inr (.inl z)
   ·exact .inr (.inr z)) hd hcd
theorem bG (h:sc.names.lookup x=some .globalImplicit) (hsc:autoParam (X.env.scope=sc) L2.auto4._auto_1):Gl X x:=by
 show X.env.scope.names.lookup x=_
 rw [hsc];exact h
theorem iI {env:Env}:∀ {names:List (Str×NameKind)} {x:Str},names.lookup x=some .globalImplicit->
  (names.map fun (n,k)=>if (k == NameKind.free && env.scope.kind == .function && env.kindOf n == some .cell) then (n,NameKind.cell) else (n,k)).lookup x=some .globalImplicit
 | [],_,h=>by simp at h
 | (n,k) :: r,x,h=>by
  have ih:=@iI env r x
  show List.lookup x ((if (k == NameKind.free && env.scope.kind == .function && env.kindOf n == some .cell)=true then (n,NameKind.cell) else (n,k)) :: _)=_
  cases hx:x == n with
  | true=>
   simp only [List.lookup_cons,hx] at h
   cases h
   simp [List.lookup_cons,hx]
  | false=>
   simp only [List.lookup_cons,hx] at h
   by_cases hc:(k == NameKind.free && env.scope.kind == .function && env.kindOf n == some .cell)=true
   ·rw [if_pos hc];simp only [List.lookup_cons,hx];exact ih h
   ·rw [if_neg hc];simp only [List.lookup_cons,hx];exact ih h
theorem sI (h:scope.names.lookup x=some .globalImplicit):Gl (lW X N' scope C s₀ H₀ ex) x:=iI h
theorem pgB (i:Nat) (h:scope.names.lookup x=some .local) (hN:N'.Nodup) (hi:autoParam (N'[i]?=some x) L2.auto4._auto_1):PG (lW X N' scope C s₀ H₀ ex) (.Name x pos) (lY i):=
 xT hN hi (.inl (lookup_relabel_local h)) (.inr (lookup_relabel_local h))
end
def jK:Expr->Bool
 | .ListComp ..=>false | .SetComp ..=>false | .DictComp ..=>false | _=>true
theorem yl {value:Expr} {target:Option Expr} {line:Nat} {env:Env} (h:jK value=true):swapsWith value target line env=pure false:=by
 cases value <;> first | rfl | cases h
def nj:Expr->Bool
 | .Slice ..=>false | _=>true
theorem pix {b:Expr} (h:nj b=true):yd b:=by
 intro o i
 cases b <;> first | rfl | cases h
def o5:Expr->Bool
 | .Set ..=>false | _=>true
theorem Bu {e:Expr} {env:Env} (h:o5 e=true):∀ x,foldedSetIterable e env x=pure x:=by
 intro x
 cases e <;> first | rfl | cases h
def notStar:Expr->Bool
 | .Starred ..=>false | _=>true
theorem cC {e:Expr} {es:List Expr} {env:Env} (h:notStar e=true):starEach (e :: es) env=(false,eval e env) :: starEach es env:=by
 cases e <;> first | rfl | cases h
theorem mG {env:Env} {pos:Pos}:∀ {es:List Expr},es.all notStar=true->(backTo pos (starEach es env)).any (·.1)=false
 | [],_=>rfl
 | e :: es,h=>by
  simp only [List.all_cons,Bool.and_eq_true] at h
  rw [cC h.1]
  show (false || (backTo pos (starEach es env)).any (·.1))=false
  rw [mG h.2];rfl
theorem Bv {env:Env} {pos:Pos}:∀ {es:List Expr},es.all notStar=true->(backTo pos (starEach es env)).all (fun x=>!x.1)=true
 | [],_=>rfl
 | e :: es,h=>by
  simp only [List.all_cons,Bool.and_eq_true] at h
  rw [cC h.1]
  show (true && (backTo pos (starEach es env)).all (fun x=>!x.1))=true
  rw [Bv h.2];rfl
section
variable {X:Cx} {K:W.Frag} {e:Expr} {es:List Expr} {te:TE} {t:TA} {pos p:Pos}
theorem paC (ha:PE X e te) (hr:PA X es t) (h:autoParam (notStar e=true) L2.auto4._auto_1):PA X (e :: es) (xZ te t):=Ek ha hr (cC h)
theorem N7 {k:Nat} {x:Str} {ps:List Str} {sp:Sp} (F:p8 X.prog X.w X.K X.mg X.base k x ps sp) (hr:Room k X.A) (hg:Gl X x) (ha:PA X (e :: es) t) (hdb:(x == ("__debug__":Str))=false) (h:autoParam ((e :: es).all notStar=true) L2.auto4._auto_1):
  PE X (.Call (.Name x p) (e :: es) [] pos) (tU sp [] E0 t):=by
 simp only [List.all_cons,Bool.and_eq_true] at h
 exact Bo F hr hg ha hdb (cC h.1) (mG h.2)
theorem N8 {x:Str} {id:String} {r:List V->Hp->VK->Prop} (hc:CallR X (.builtin id) r) (hg:Gl X x) (hm:X.mg x=none) (hv:bootBuiltins x=some (.builtin id)) (ha:PA X (e :: es) t) (hn:x≠"__name__") (hdb:(x == ("__debug__":Str))=false) (h:autoParam ((e :: es).all notStar=true) L2.auto4._auto_1):
  PE X (.Call (.Name x p) (e :: es) [] pos) (Jz r t):=by
 simp only [List.all_cons,Bool.and_eq_true] at h
 exact Aq hc hg hm hv ha hn hdb (cC h.1) (mG h.2)
theorem Km {x:Str} {T:String} {r:List V->Hp->VK->Prop} (hc:CallR X (.type T) r) (hg:Gl X x) (hm:X.mg x=none) (hv:bootBuiltins x=some (.type T)) (ha:PA X (e :: es) t) (hn:x≠"__name__") (hdb:(x == ("__debug__":Str))=false) (h:autoParam ((e :: es).all notStar=true) L2.auto4._auto_1):
  PE X (.Call (.Name x p) (e :: es) [] pos) (Jz r t):=by
 simp only [List.all_cons,Bool.and_eq_true] at h
 exact za hc hg hm hv ha hn hdb (cC h.1) (mG h.2)
def nu:Expr->Bool
 | .Call ..=>false | _=>true
theorem HF {o:Expr} {f:Str} {env:Env} {w:Sem Value} (h:nu o=true):attributeBase o f env w=w:=by
 cases o <;> first | rfl | cases h
theorem Oa {o:Expr} {to:TE} {name:Str} {apos cpos:Pos} {T id:String} {r:V->List V->Hp->VK->Prop} (hK:X.K=K) (pa:PlainAttrs T) (slot:Slot T name id) (hty:typeOf (.builtin id)=pure (.type "method_descriptor")) (hm:Hy X id r) (ho:PE X o to) (ha:PA X (e :: es) t)
  (hbase:autoParam (nu o=true) L2.auto4._auto_1) (hl:autoParam (es.length < 20) L2.auto2._auto_1) (hline:autoParam ((apos.endLine == cpos.line)=true) L2.auto4._auto_1) (h:autoParam ((e :: es).all notStar=true) L2.auto4._auto_1):
  PE X (.Call (.Attribute o name apos) (e :: es) [] cpos) (Nv K T r to t):=by
 have hA:=Bv (env:=X.env) (pos:=cpos) h
 simp only [List.all_cons,Bool.and_eq_true] at h
 refine Kl hK pa slot hty hm ho ha (HF hbase) ?_ hline (cC h.1) (mG h.2)
 rw [hA]
 have:(e :: es).length+([]:List Keyword).length+(if ([]:List Keyword).isEmpty then 0 else 1) < 30:=by simp;omega
 rw [decide_eq_true this];rfl
theorem Ob {i:Nat} {x:Str} {pos':Pos} (hN:X.N.Nodup) (hi:X.N[i]?=some x) (hx:Loc X.env.scope x) (he:PE X e te) (hf:X.fn x=true) (h:autoParam (jK e=true) L2.auto4._auto_1):PS X (.Assign [.Name x pos'] e pos) (vA te (lY i)):=
 Ag hN hi hx he (yl h) (.inl hf)
theorem Ko (he:PE X e te) (h:autoParam (jK e=true) L2.auto4._auto_1):PS X (.Expr e pos) (xR te):=Eb he (yl h)
theorem ixE {a b:Expr} {ta tb:TE} (hK:X.K=K) (ha:PE X a ta) (hb:PE X b tb) (h:autoParam (nj b=true) L2.auto4._auto_1):PE X (.Subscript a b pos) (DN (JL K) ta tb):=Np (EY hK) ha hb (pix h)
theorem Oc {tg iter:Expr} {body:List Stmt} {wi:TI} {g:TG} {tb:TS} (hp:PassesOwn (model X.prog X.w) X.A X.env X.xe) (hc:X.calm=true) (hi:PI X tg iter wi) (hg:PG X tg g) (hb:PSs X body tb) (h:autoParam (o5 iter=true) L2.auto4._auto_1):PS X (.For tg iter body [] pos) (Ed wi g tb):=
 Jk hp hc hi hg hb (Bu h)
end
section
variable {X:Cx} {tg iter elt:Expr} {ifs:List Expr} {scope:Scope} {pos:Pos} {N':List Str} {sub:List (Option Nat)} {wi:TI} {g:TG} {tt:TT} {te:TE} {N:List Str} {sc:Scope}
theorem Od (S:mj N sc N' scope sub) (hc:X.calm=true) (hN:X.N=N) (hsc:X.env.scope=sc) (hi:PI X tg iter wi)
  (hg:∀ (C:Addr) (s₀:Shared) (H₀:Hp) (ex:List Addr),PG (lW X N' scope C s₀ H₀ ex) tg g)
  (ht:∀ (C:Addr) (s₀:Shared) (H₀:Hp) (ex:List Addr),uJ (lW X N' scope C s₀ H₀ ex) ifs tt)
  (he:∀ (C:Addr) (s₀:Shared) (H₀:Hp) (ex:List Addr),PE (lW X N' scope C s₀ H₀ ex) elt te) (h:autoParam (o5 iter=true) L2.auto4._auto_1):
  PE X (.ListComp elt [⟨tg,iter,ifs,0⟩] scope pos) (qX sub wi g tt te):=yg S hc hN hsc hi hg ht he (Bu h)
end
theorem cu:bootBuiltins "len"=some (.builtin "len"):=by trivial
theorem Kp:bootBuiltins "max"=some (.builtin "max"):=by trivial
theorem Kq:bootBuiltins "min"=some (.builtin "min"):=by trivial
theorem b7:bootBuiltins "isinstance"=some (.builtin "isinstance"):=by trivial
theorem jL:bootBuiltins "all"=some (.builtin "all"):=by trivial
theorem ym:bootBuiltins "list"=some (.type "list"):=by trivial
theorem vR:bootBuiltins "tuple"=some (.type "tuple"):=by trivial
theorem rD:bootBuiltins "int"=some (.type "int"):=by trivial
theorem jr:bootBuiltins "str"=some (.type "str"):=by trivial
theorem o6 {c A B:Prop} [Decidable c] (h1:c->A) (h2:¬ c->B):if decide c=true then A else B:=by
 by_cases h:c
 ·rw [if_pos (decide_eq_true h)];exact h1 h
 ·rw [if_neg (by rw [decide_eq_false h];exact Bool.false_ne_true)];exact h2 h
theorem yo {α:Type} {xs:List α} {k:Int} {v:α} (h0:0<=k) (h:xs[k.toNat]?=some v):uD xs k=some v:=by
 have e:((k.toNat:Nat):Int)=k:=by omega
 rw [← e]
 exact fQ h
section
variable {U:St} {H:Hp} {D:Ends} {ta tb te tc:TE} {tt tu:TT} {Q:VK} {t u:TS} {g:TG}
theorem ue (h:t {D with nx:=u D} U H):DX t u D U H:=h
theorem gM (h:D.nx U H):Ac D U H:=h
theorem jV (h:te U H fun x H1=>g x U H1 D.nx):vA te g D U H:=h
theorem gO {i:Nat} {v:V} {R:St->Hp->Prop} (h:R (U.set i (some v)) H):lY i v U H R:=h
theorem jW {to ti:TE} {ts:wN} {v:V} {R:St->Hp->Prop} (h:to U H fun o H1=>ti U H1 fun i H2=>ts o i v H2 fun H3=>R U H3):Jg to ti ts v U H R:=h
theorem jX (h:te U H D.rt):Jd te D U H:=h
theorem gP (h:te U H fun _ H1=>D.nx U H1):xR te D U H:=h
theorem qd (h:tt U H fun b H1=>if b=true then t D U H1 else u D U H1):Jf tt t u D U H:=h
theorem gQ {R:Bool->Hp->Prop} (h:te U H fun x H1=>∃ k,x= .bl k/\R k H1):vB te U H R:=h
theorem qe {R:Bool->Hp->Prop} (h:te U H fun x H1=>∃ k,x= .bl k/\R k H1):tB te U H R:=h
theorem jY {R:Bool->Hp->Prop} (h:tt U H fun c H1=>R (!c) H1):Iz tt U H R:=h
theorem jZ {R:Bool->Hp->Prop} (h:tt U H fun c H1=>if c=true then tu U H1 R else R false H1):Iw tt tu U H R:=h
theorem qg {R:Bool->Hp->Prop} (h:tt U H fun c H1=>if c=true then R true H1 else tu U H1 R):tOr tt tu U H R:=h
theorem gR (h:ta U H fun x H1=>∃ c,x= .bl c/\if c=true then tb U H1 Q else Q (.bl false) H1):Aa ta tb U H Q:=h
theorem j0 (h:ta U H fun x H1=>∃ c,x= .bl c/\if c=true then Q (.bl true) H1 else tb U H1 Q):Ja ta tb U H Q:=h
theorem j4 (h:tt U H fun c H1=>if c=true then ta U H1 Q else tb U H1 Q):tIf tt ta tb U H Q:=h
theorem j5 {i:Nat} {v:V} (e:U[i]?=some (some v)) (h:Q v H):pX i U H Q:=⟨v,e,h⟩
theorem z6 {v:V} (h:Q v H):tC v U H Q:=h
theorem qi {r:R2} (h:ta U H fun x H1=>tb U H1 fun y H2=>r x y H2 Q):DN r ta tb U H Q:=h
theorem qj {r:V->Hp->VK->Prop} (h:ta U H fun x H1=>r x H1 Q):tUn r ta U H Q:=h
theorem ql {r:List V->Hp->VK->Prop} {a:TA} (h:a U H fun vs H1=>r vs H1 Q):Jz r a U H Q:=h
theorem gU {a:TA} {R:List V->Hp->Prop} (h:te U H fun x H1=>a U H1 fun xs H2=>R (x :: xs) H2):xZ te a U H R:=h
theorem j6 {R:List V->Hp->Prop} (h:R [] H):Js U H R:=h
theorem gW {sp:Sp} {E:XK} {a:TA} (h:a U H fun vs H1=>sp vs H1 Q E):tU sp [] E a U H Q:=by
 unfold tU
 simpa only [List.append_nil] using h
theorem qm {K:W.Frag} {T:String} {r:V->List V->Hp->VK->Prop} {a:TA} (h:te U H fun x H1=>tyV K T x H1/\a U H1 fun xs H2=>r x xs H2 Q):Nv K T r te a U H Q:=h
theorem qp {r:V->Option Int->Option Int->Hp->VK->Prop} {tl th:TO} (h:te U H fun x H1=>tl U H1 fun l H2=>th U H2 fun u H3=>r x l u H3 Q):tSl r te tl th U H Q:=h
theorem j7 {R:Option Int->Hp->Prop} (h:R none H):uC U H R:=h
theorem gY {R:Option Int->Hp->Prop} (h:te U H fun x H1=>∃ i,x= .int i/\R (some i) H1):Av te U H R:=h
theorem gZ {R:Bool->Hp->Prop} (h:R true H):Bd U H R:=h
theorem ie {a:TA} {R:It->Hp->Prop} (h:a U H fun vs H1=>∃ j:Int,vs=[.int j]/\-(2 ^ 62)<=j/\j < 2 ^ 62/\R (Jj 0 j.toNat) H1):Ai a U H R:=h
theorem ig {K:W.Frag} {R:It->Hp->Prop} (h:te U H fun x H1=>(∃ a,x= .ref a/\(∃ xs,SqL K H1 a xs)/\R (Hv K a) H1)\/(∃ a,x= .ref a/\(∃ xs,SqT K H1 a xs)/\R (Nb K a) H1)\/(∃ z,x= .str z/\R (Ex z) H1)):Ez K te U H R:=h
theorem ik {sub:List (Option Nat)} {wi:TI} (h:wi U H fun J H1=>pK sub g tt te U Q J H1):qX sub wi g tt te U H Q:=h
theorem j8 {wi:TI} {tbd:TS} (h:wi U H fun J H1=>∃ W:Nat->Nat->St->Hp->Prop,(∃ m,W 0 m U H1)/\∀ i m U H,W i m U H->
 (J.stop i H/\D.nx U H)\/(J.go i H/\∃ N:St->Hp->Prop,(∀ U' H',N U' H'->∃ m',m' < m/\W (i+1) m' U' H')/\∀ x H',J.yld i H x H'->g x U H' fun σ2 H2=>tbd {D with nx:=N,ct:=N,bk:=D.nx} σ2 H2)):Ed wi g tbd D U H:=h
variable {i j:Int} {x y:Str} {f:Int->Int->V} {C:Int->Int->Prop} {K:W.Frag}
theorem qt (h:Q (f i j) H):Hw f (.int i) (.int j) H Q:=⟨_,_,rfl,rfl,h⟩
theorem z7 (c:C i j) (h:Q (f i j) H):rI C f (.int i) (.int j) H Q:=⟨_,_,rfl,rfl,c,h⟩
theorem il (h:Q (.int (i+j)) H):yh (.int i) (.int j) H Q:=.inl ⟨_,_,rfl,rfl,h⟩
theorem eZ (c:x.length+y.length<=sizeLine) (h:Q (.str (x ++ y)) H):yh (.str x) (.str y) H Q:=.inr (.inl ⟨_,_,rfl,rfl,c,h⟩)
theorem Bw {a b:Addr} {xs ys:List V} (ha:H a=some (.lst xs)) (hb:H b=some (.lst ys)) (c:xs.length+ys.length<=sizeLine) (h:∀ p,H p=none->Q (.ref p) (upd H p (.lst (xs ++ ys)))):yh (.ref a) (.ref b) H Q:=
 .inr (.inr ⟨a,b,xs,ys,rfl,rfl,ha,hb,c,h⟩)
theorem ir (c:CMul i j) (h:Q (.int (i*j)) H):yj (.int i) (.int j) H Q:=.inl ⟨_,_,rfl,rfl,c,h⟩
theorem xq (c:MulOk x j) (h:Q (.str (Txt.mul x j)) H):yj (.str x) (.int j) H Q:=.inr (.inl ⟨_,_,rfl,rfl,c,h⟩)
theorem bH {p:Addr} {xs:List V} {v:V} (s:SqL K H p xs) (e:uD xs i=some v) (h:Q v H):JL K (.ref p) (.int i) H Q:=.inl ⟨p,xs,i,v,rfl,rfl,s,e,h⟩
theorem j9 {p:Addr} {xs:List V} {v:V} (s:SqT K H p xs) (e:uD xs i=some v) (h:Q v H):JL K (.ref p) (.int i) H Q:=.inr (.inl ⟨p,xs,i,v,rfl,rfl,s,e,h⟩)
theorem nF {c:Nat} (s:x.length<=sizeLine) (e:uD x.cps.toList i=some c) (h:Q (.str ⟨#[c]⟩) H):JL K (.str x) (.int i) H Q:=.inr (.inr ⟨x,i,c,rfl,rfl,s,e,h⟩)
theorem fZ {p:Addr} {xs:List V} {n:Nat} {v:V} {R:Hp->Prop} (hp:H p=some (.lst xs)) (e:Ax xs.length i=some n) (h:R (upd H p (.lst (xs.set n v)))):Ay (.ref p) (.int i) v H R:=⟨p,xs,i,n,rfl,rfl,hp,e,h⟩
theorem ji (h:Q (.bl (!(Builtin.Str.occurrences y x 0 y.length 1).isEmpty)) H):Br K (.str x) (.str y) H Q:=.inl ⟨_,_,rfl,rfl,h⟩
theorem cY (h:Q (.bl (!(!(Builtin.Str.occurrences y x 0 y.length 1).isEmpty))) H):qM K (.str x) (.str y) H Q:=.inl ⟨_,_,rfl,rfl,h⟩
theorem qu {b:Bool} {R:Bool->Prop} (h:R b):∃ k,V.bl b= .bl k/\R k:=⟨b,rfl,h⟩
theorem iu {n:Int} {R:Int->Prop} (h:R n):∃ k,V.int n= .int k/\R k:=⟨n,rfl,h⟩
end
theorem Same.upd {H H':Hp} {p:Addr} {o:HO} (s:Same H H') (hn:H' p=none):Same H (upd H' p o):=fun b u e=>by
 have q:=s b u e
 rw [aG (fun z=>by rw [z,hn] at q;cases q)]
 exact q
theorem yp {H:Hp} {q b:Addr} {o u:HO} (hq:H q=none) (hb:H b=some u):upd H q o b=some u:=by
 rw [aG (fun z=>by rw [z,hq] at hb;cases hb)];exact hb
theorem uf {vs:List V} {d:Int} (h0:0<=d) (h1:d < vs.length):∃ v,v∈vs/\uD vs d=some v:=by
 have hl:d.toNat < vs.length:=by omega
 exact ⟨vs[d.toNat],List.getElem_mem hl,yo h0 (List.getElem?_eq_getElem hl)⟩
theorem xr (sep:Str) (ys:List Str):Txt.join sep ys=Str.join sep ys:=by
 show Builtin.Str.glued sep ys=Str.join sep ys
 exact PySem.StrLaws.glued_eq_join sep ys
theorem vU (c:Nat):(⟨#[c]⟩:Str).length=1:=by simp [Str.length]
theorem Fe {x:Str} {n:Int} (h:0<=n):((Txt.mul x n).length:Int)=(x.length:Int)*n:=by
 have:=len_mul_k (x:=x) (n:=n) x.length rfl
 rw [if_neg (by omega)] at this
 exact this
section
variable {H:Hp} {Q:VK} {K:W.Frag}
theorem lg {p:Addr} {xs:List V} (s:SqL K H p xs) (h:Q (.int xs.length) H):Fd K [V.ref p] H Q:=⟨_,_,rfl,.inl ⟨_,s,rfl⟩,h⟩
theorem Bx {p:Addr} {xs:List V} (s:SqT K H p xs) (h:Q (.int xs.length) H):Fd K [V.ref p] H Q:=⟨_,_,rfl,.inr ⟨_,s,rfl⟩,h⟩
theorem f9 {z:Str} (s:z.length<=sizeLine) (h:Q (.int z.length) H):Fd K [V.str z] H Q:=⟨_,_,rfl,⟨s,rfl⟩,h⟩
theorem qw {i j:Int} {R:Int->Int->Prop} (h:R i j):∃ a b,[V.int i,V.int j]=[.int a,.int b]/\R a b:=⟨_,_,rfl,h⟩
theorem iT {x:V} {T:String} {t:Value} {b:Bool} (ty:TyOf K H x t) (e:PySem.W.kitOne K t (.type T)=some b) (h:Q (.bl b) H):JZ K [x,.ty T] H Q:=⟨x,T,t,b,rfl,ty,e,h⟩
theorem Kr {sep:Str} {p:Addr} {ys:List Str} (hp:H p=some (.lst (ys.map V.str))) (hz:(ys.map (·.length)).sum+ys.length*sep.length<=16777216) (h:Q (.str (Txt.join sep ys)) H):rJoin (.str sep) [.ref p] H Q:=⟨sep,p,ys,rfl,rfl,hp,hz,h⟩
theorem Oe {x:Str} {lo hi:Option Int} (hz:x.length<=sizeLine) (h:Q (.str (Txt.slice x lo hi)) H):QC K (.str x) lo hi H Q:=.inr (.inr ⟨x,rfl,hz,h⟩)
theorem Og {p:Addr} {xs:List V} {lo hi:Option Int} (s:SqL K H p xs) (h:∀ q,H q=none->Q (.ref q) (upd H q (.lst (m6 xs lo hi)))):QC K (.ref p) lo hi H Q:=.inl ⟨p,xs,rfl,s,h⟩
end
section
variable {U:St} {H:Hp} {Q:VK}
theorem By {trs:List (TE×TE)} (h:∀ p,H p=none->uO trs U (upd H p (.dK [])) fun ps H2=>H2 p=some (.dK [])/\∃ kvs:List (Key×V),ps=kvs.map (fun kv=>(kV kv.1,kv.2))/\kvs.length<=15/\Q (.ref p) (upd H2 p (.dK (jq [] kvs)))):Bk trs U H Q:=h
theorem Ff {K:W.Frag} {z:Str} (hz:z.length<=sizeLine) (h:∀ p,H p=none->Q (.ref p) (upd H p (.lst (sgn z)))):Bt K [.str z] H Q:=.inr ⟨z,rfl,hz,h⟩
end
theorem TyOf.mono {K:W.Frag} {H H':Hp} {v:V} {T:String} (h:TyOf K H v (.type T)) (s:∀ b o,H b=some o->v= .ref b->H' b=some o):TyOf K H' v (.type T):=by
 generalize e:(Value.type T)=t at h
 cases h with
 | non=>exact .non
 | bl x=>exact .bl x
 | int i=>exact .int i
 | str x=>exact .str x
 | flt x=>exact .flt x
 | lst z=>exact .lst (s _ _ z rfl)
 | frz z=>exact .frz (s _ _ z rfl)
 | tup z=>exact .tup (s _ _ z rfl)
 | dK z=>exact .dK (s _ _ z rfl)
 | dT z=>exact .dT (s _ _ z rfl)
 | ins=>cases e
theorem BJ {sub:List (Option Nat)} {g:TG} {tt:TT} {te:TE} {U:St} {Q:VK} {H:Hp} {z:Str} (Pv:Nat->List V->Hp->Prop) (hn:z.cps.size<=sizeLine) (h0:Pv 0 [] H) (hl:∀ i ys H,Pv i ys H->ys.length<=i)
  (hs:∀ i ys H c,z.cps.toList[i]?=some c->Pv i ys H->g (.str ⟨#[c]⟩) (cV sub U) H fun σ2 H2=>KeepSt (cV sub U) σ2/\tt σ2 H2 fun b H3=>if b=true then te σ2 H3 fun y H4=>Pv (i+1) (ys ++ [y]) H4 else Pv (i+1) ys H3)
  (hd:∀ ys H,Pv z.cps.size ys H->∀ D,H D=none->Q (.ref D) (upd H D (.lst ys))):pK sub g tt te U Q (Ex z) H:=
 uM (n:=z.cps.size) Pv hn h0 hl (fun i ys H hi _=>hi) (fun ys H _=>rfl) (fun i ys H x H' hi p y=>by
  obtain ⟨e1,c,e2,e3⟩:=y
  subst e1 e3
  exact hs i ys _ c (by simpa using e2) p) hd
theorem zy {sub:List (Option Nat)} {g:TG} {tt:TT} {te:TE} {U:St} {Q:VK} {H:Hp} {K:W.Frag} {a:Addr} {xs:List V} (Pv:Nat->List V->Hp->Prop) (hn:xs.length<=sizeLine) (h0:Pv 0 [] H) (hl:∀ i ys H,Pv i ys H->ys.length<=i)
  (hq:∀ i ys H,Pv i ys H->SqL K H a xs)
  (hs:∀ i ys H x,xs[i]?=some x->Pv i ys H->g x (cV sub U) H fun σ2 H2=>KeepSt (cV sub U) σ2/\tt σ2 H2 fun b H3=>if b=true then te σ2 H3 fun y H4=>Pv (i+1) (ys ++ [y]) H4 else Pv (i+1) ys H3)
  (hd:∀ ys H,Pv xs.length ys H->∀ D,H D=none->Q (.ref D) (upd H D (.lst ys))):pK sub g tt te U Q (Hv K a) H:=
 uM (n:=xs.length) Pv hn h0 hl (fun i ys H hi p=>⟨xs,xs[i],hq i ys H p,List.getElem?_eq_getElem hi⟩) (fun ys H p=>⟨xs,hq _ ys H p,Nat.le_refl _⟩) (fun i ys H x H' hi p y=>by
  obtain ⟨e1,e2⟩:=y
  subst e1
  exact hs i ys _ x (e2 xs (hq i ys _ p)) p) hd
structure JE (X:Cx) (e:Expr) (t:TE):Prop where
 run:PE X e t
structure JT (X:Cx) (e:Expr) (t:TT):Prop where
 run:PT X e t
structure JW (X:Cx) (e:Expr) (t:TT):Prop where
 run:PW X e t
structure JA (X:Cx) (es:List Expr) (t:TA):Prop where
 run:PA X es t
structure JS (X:Cx) (s:Stmt) (t:TS):Prop where
 run:PS X s t
structure JB (X:Cx) (s:List Stmt) (t:TS):Prop where
 run:PSs X s t
structure JI (X:Cx) (tg iter:Expr) (t:TI):Prop where
 run:PI X tg iter t
structure JG (X:Cx) (tg:Expr) (t:TG):Prop where
 run:PG X tg t
structure JO (X:Cx) (e:Option Expr) (t:TO):Prop where
 run:PO X e t
structure QD (X:Cx) (pos:Pos) (keys:List (Option Expr)) (values:List Expr) (t:List (TE×TE)):Prop where
 run:NQ X pos keys values t
structure Fg (X:Cx) (ifs:List Expr) (t:TT):Prop where
 run:uJ X ifs t
section
variable {X:Cx} {K:W.Frag} {sc scope:Scope} {N':List Str} {C:Addr} {s₀:Shared} {H₀:Hp} {ex:List Addr} {x:Str} {pos p p2 pos' apos cpos tpos:Pos} {a b c e o:Expr} {es:List Expr} {ta tb tc te to ti:TE} {t:TA} {tA tB' tt:TT} {rest:List Expr}
theorem ao (i:Nat) (h:sc.names.lookup x=some .local) (hN:autoParam (X.N[i]?=some x) L2.auto4._auto_1) (hsc:autoParam (X.env.scope=sc) L2.auto4._auto_1) (hd:autoParam ((x == ("__debug__":Str))=false) L2.auto6._auto_1) (hcd:autoParam ((x == ("__classdict__":Str))=false) L2.auto6._auto_1):JE X (.Name x pos) (pX i):=⟨pvL i h hN hsc hd hcd⟩
theorem Fi (i:Nat) (h:sc.names.lookup x=some .cell) (hN:autoParam (X.N[i]?=some x) L2.auto4._auto_1) (hsc:autoParam (X.env.scope=sc) L2.auto4._auto_1) (hd:autoParam ((x == ("__debug__":Str))=false) L2.auto6._auto_1) (hcd:autoParam ((x == ("__classdict__":Str))=false) L2.auto6._auto_1):JE X (.Name x pos) (pX i):=⟨pvC i h hN hsc hd hcd⟩
theorem dh (i:Nat) (h:scope.names.lookup x=some .local) (hN:autoParam (N'[i]?=some x) L2.auto4._auto_1) (hd:autoParam ((x == ("__debug__":Str))=false) L2.auto6._auto_1) (hcd:autoParam ((x == ("__classdict__":Str))=false) L2.auto6._auto_1):JE (lW X N' scope C s₀ H₀ ex) (.Name x pos) (pX i):=⟨pvBL i h hN hd hcd⟩
theorem BK (i:Nat) (h:scope.names.lookup x=some .free) (hN:autoParam (N'[i]?=some x) L2.auto4._auto_1) (hd:autoParam ((x == ("__debug__":Str))=false) L2.auto6._auto_1) (hcd:autoParam ((x == ("__classdict__":Str))=false) L2.auto6._auto_1):JE (lW X N' scope C s₀ H₀ ex) (.Name x pos) (pX i):=⟨pvBF i h hN hd hcd⟩
theorem az {i j}:JE X (.Constant (.int i) j pos) (tC (.int i)):=⟨Ip⟩
theorem iU {i j}:JE X (.Constant (.bool i) j pos) (tC (.bl i)):=⟨M6⟩
theorem jj {j}:JE X (.Constant .none j pos) (tC .non):=⟨Ir⟩
theorem aD {i j}:JE X (.Constant (.str i) j pos) (tC (.str i)):=⟨Iu⟩
theorem iw {z:Str} (hg:Gl X x) (hm:∃ t,X.mg x=some (.str z t)) (hd:(x == ("__debug__":Str))=false):JE X (.Name x pos) (tC (.str z)):=⟨Bp hg hm hd⟩
theorem xu {z:Int} (hg:Gl X x) (hm:∃ t,X.mg x=some (.int z t)) (hd:(x == ("__debug__":Str))=false):JE X (.Name x pos) (tC (.int z)):=⟨Bq hg hm hd⟩
theorem vV {T:String} (hg:Gl X x) (hm:X.mg x=none) (hv:bootBuiltins x=some (.type T)) (hn:x≠"__name__") (hd:(x == ("__debug__":Str))=false):JE X (.Name x pos) (tC (.ty T)):=⟨N5 hg hm hv hn hd⟩
theorem aZ {op:Operator} {r:R2} (ho:OpR X (binaryOp op) r) (ha:JE X a ta) (hb:JE X b tb):JE X (.BinOp a op b pos) (DN r ta tb):=⟨Nf ho ha.run hb.run⟩
theorem Oh {op:UnaryOp} {r:V->Hp->VK->Prop} (ho:Qy X (unaryOp op) r) (ha:JE X a ta):JE X (.UnaryOp op a pos) (tUn r ta):=⟨Ng ho ha.run⟩
theorem fX {op:CmpOp} {r:R2} (ho:OpR X (compareOp op) r) (ha:JE X a ta) (hb:JE X b tb) (hm:behindInMarks op b=false):JE X (.Compare a [op] [b] pos) (DN r ta tb):=⟨Eg ho ha.run hb.run hm⟩
theorem aH {op:CmpOp} {r:R2} (ho:OpR X (compareOp op) r) (ha:JE X a ta) (hb:JE X b tb) (hm:behindInMarks op b=false):JT X (.Compare a [op] [b] pos) (vB (DN r ta tb)):=⟨Eh ho ha.run hb.run hm⟩
theorem iK (ha:JT X a tA):JW X (.BoolOp .And [a] pos) tA:=⟨DW ha.run⟩
theorem jM (ha:JT X a tA):JW X (.BoolOp .Or [a] pos) tA:=⟨IK ha.run⟩
theorem iV (ha:JT X a tA) (hb:JW X (.BoolOp .And (b :: rest) pos) tB'):JW X (.BoolOp .And (a :: b :: rest) pos) (Iw tA tB'):=⟨IV ha.run hb.run⟩
theorem lq (ha:JT X a tA) (hb:JW X (.BoolOp .Or (b :: rest) pos) tB'):JW X (.BoolOp .Or (a :: b :: rest) pos) (tOr tA tB'):=⟨M7 ha.run hb.run⟩
theorem fY (h:JW X e tt):JT X e tt:=⟨h.run.pt⟩
theorem gb (ha:JT X a tA):JT X (.UnaryOp .Not a pos) (Iz tA):=⟨IW ha.run⟩
def plainT:Expr->Bool
 | .BoolOp ..=>false | .UnaryOp ..=>false | .Compare ..=>false | .IfExp ..=>false | _=>true
theorem iy (h:JE X e te) (hp:autoParam (plainT e=true) L2.auto4._auto_1):JT X e (tB te):=⟨Iv h.run (by
 intro whole
 cases e <;> first | rfl | cases hp)⟩
theorem nG {op} (h:JE X a te):JE X (.BoolOp op [a] pos) te:=⟨Jb h.run⟩
theorem pM (ha:JE X a ta) (hb:JE X (.BoolOp .And (b :: rest) pos) tb):JE X (.BoolOp .And (a :: b :: rest) pos) (Aa ta tb):=⟨Jc ha.run hb.run⟩
theorem Oi (ha:JE X a ta) (hb:JE X (.BoolOp .Or (b :: rest) pos) tb):JE X (.BoolOp .Or (a :: b :: rest) pos) (Ja ta tb):=⟨M8 ha.run hb.run⟩
theorem Ks (hc:JT X c tA) (ha:JE X a ta) (hb:JE X b tb):JE X (.IfExp c a b pos) (tIf tA ta tb):=⟨Ab hc.run ha.run hb.run⟩
theorem gG {x1} (h:JA X es t):JE X (.Tuple es x1 pos) (Ju t):=⟨Jw h.run⟩
theorem bA (h:JA X es t):JE X (.List es pos) (Jv t):=⟨Jx h.run⟩
theorem aj:JA X [] Js:=⟨Jt⟩
theorem aa (ha:JE X e te) (hr:JA X es t) (h:autoParam (notStar e=true) L2.auto4._auto_1):JA X (e :: es) (xZ te t):=⟨paC ha.run hr.run h⟩
theorem BL:QD X pos [] [] []:=⟨Eu⟩
theorem nH {k v:Expr} {ks:List (Option Expr)} {vs:List Expr} {tk tv:TE} {trs:List (TE×TE)} (hk:JE X k tk) (hv:JE X v tv) (hr:QD X pos ks vs trs):QD X pos (some k :: ks) (v :: vs) ((tk,tv) :: trs):=⟨Bj hk.run hv.run hr.run⟩
theorem BP {keys:List (Option Expr)} {values:List Expr} {trs:List (TE×TE)} (h:QD X pos keys values trs) (hall:keys.all (·.isSome)=true) (hl:keys.length=values.length) (h0:keys≠[]) (h15:keys.length<=15):JE X (.Dict keys values pos) (Bk trs):=⟨Ew h.run hall hl h0 h15⟩
theorem jk:JO X none uC:=⟨Em⟩
theorem cW (h:JE X e te):JO X (some e) (Av te):=⟨En h.run⟩
theorem d9 {r:V->Option Int->Option Int->Hp->VK->Prop} {lo hi:Option Expr} {tl th:TO} (hr:SlR X r) (he:JE X e te) (hl:JO X lo tl) (hu:JO X hi th):JE X (.Subscript e (.Slice lo hi none p2) pos) (tSl r te tl th):=⟨Aw hr he.run hl.run hu.run⟩
theorem cJ (hK:X.K=K) (ha:JE X a ta) (hb:JE X b tb) (h:autoParam (nj b=true) L2.auto4._auto_1):JE X (.Subscript a b pos) (DN (JL K) ta tb):=⟨ixE hK ha.run hb.run h⟩
theorem bj {k:Nat} {ps:List Str} {sp:Sp} (F:p8 X.prog X.w X.K X.mg X.base k x ps sp) (hr:Room k X.A) (hg:Gl X x) (ha:JA X (e :: es) t) (hdb:(x == ("__debug__":Str))=false) (h:autoParam ((e :: es).all notStar=true) L2.auto4._auto_1):
  JE X (.Call (.Name x p) (e :: es) [] pos) (tU sp [] E0 t):=⟨N7 F hr hg ha.run hdb h⟩
theorem aM {id:String} {r:List V->Hp->VK->Prop} (hc:CallR X (.builtin id) r) (hg:Gl X x) (hm:X.mg x=none) (hv:bootBuiltins x=some (.builtin id)) (ha:JA X (e :: es) t) (hn:x≠"__name__") (hdb:(x == ("__debug__":Str))=false) (h:autoParam ((e :: es).all notStar=true) L2.auto4._auto_1):
  JE X (.Call (.Name x p) (e :: es) [] pos) (Jz r t):=⟨N8 hc hg hm hv ha.run hn hdb h⟩
theorem dD {T:String} {r:List V->Hp->VK->Prop} (hc:CallR X (.type T) r) (hg:Gl X x) (hm:X.mg x=none) (hv:bootBuiltins x=some (.type T)) (ha:JA X (e :: es) t) (hn:x≠"__name__") (hdb:(x == ("__debug__":Str))=false) (h:autoParam ((e :: es).all notStar=true) L2.auto4._auto_1):
  JE X (.Call (.Name x p) (e :: es) [] pos) (Jz r t):=⟨Km hc hg hm hv ha.run hn hdb h⟩
theorem fc {name:Str} {T id:String} {r:V->List V->Hp->VK->Prop} (hK:X.K=K) (pa:PlainAttrs T) (slot:Slot T name id) (hty:typeOf (.builtin id)=pure (.type "method_descriptor")) (hm:Hy X id r) (ho:JE X o to) (ha:JA X (e :: es) t)
  (hbase:autoParam (nu o=true) L2.auto4._auto_1) (hl:autoParam (es.length < 20) L2.auto2._auto_1) (hline:autoParam ((apos.endLine == cpos.line)=true) L2.auto4._auto_1) (h:autoParam ((e :: es).all notStar=true) L2.auto4._auto_1):JE X (.Call (.Attribute o name apos) (e :: es) [] cpos) (Nv K T r to t):=⟨Oa hK pa slot hty hm ho.run ha.run hbase hl hline h⟩
theorem bL:Fg X [] Bd:=⟨Be⟩
theorem Fj (hc:JT X c tt):Fg X [c] tt:=⟨Bf hc.run⟩
variable {tg iter elt:Expr} {ifs:List Expr} {sub:List (Option Nat)} {wi:TI} {g:TG} {N:List Str}
theorem zA {ta:TA} (hg:Gl X "range") (hm:X.mg "range"=none) (ha:JA X [a] ta) (h:autoParam (notStar a=true) L2.auto4._auto_1):JI X tg (.Call (.Name "range" p) [a] [] pos) (Ai ta):=⟨yN hg hm ha.run (cC h)⟩
theorem bM (hK:X.K=K) (hl:JE X e te):JI X tg e (Ez K te):=⟨Fb hK hl.run⟩
theorem nJ {i:Nat} (hN:X.N.Nodup) (hi:X.N[i]?=some x) (hx:Loc X.env.scope x) (hf:X.fn x=true):JG X (.Name x pos) (lY i):=⟨xT hN hi hx (.inl hf)⟩
theorem iW (i:Nat) (h:scope.names.lookup x=some .local) (hN:N'.Nodup) (hi:autoParam (N'[i]?=some x) L2.auto4._auto_1):JG (lW X N' scope C s₀ H₀ ex) (.Name x pos) (lY i):=⟨pgB i h hN hi⟩
theorem Ku {ts:wN} (ho:JE X a ta) (hi:JE X b tb) (hs:Ec X ts) (h:autoParam (nj b=true) L2.auto4._auto_1):JG X (.Subscript a b pos) (Jg ta tb ts):=⟨Jh ho.run hi.run hs (by
 intro v
 cases b <;> first | rfl | cases h)⟩
theorem dF (S:mj N sc N' scope sub) (hc:X.calm=true) (hN:X.N=N) (hsc:X.env.scope=sc) (hi:JI X tg iter wi)
  (hg:∀ (C:Addr) (s₀:Shared) (H₀:Hp) (ex:List Addr),JG (lW X N' scope C s₀ H₀ ex) tg g)
  (ht:∀ (C:Addr) (s₀:Shared) (H₀:Hp) (ex:List Addr),Fg (lW X N' scope C s₀ H₀ ex) ifs tt)
  (he:∀ (C:Addr) (s₀:Shared) (H₀:Hp) (ex:List Addr),JE (lW X N' scope C s₀ H₀ ex) elt te) (h:autoParam (o5 iter=true) L2.auto4._auto_1):
  JE X (.ListComp elt [⟨tg,iter,ifs,0⟩] scope pos) (qX sub wi g tt te):=⟨Od S hc hN hsc hi.run (fun C s₀ H₀ ex=>(hg C s₀ H₀ ex).run) (fun C s₀ H₀ ex=>(ht C s₀ H₀ ex).run) (fun C s₀ H₀ ex=>(he C s₀ H₀ ex).run) h⟩
variable {st:Stmt} {sts:List Stmt} {u v:TS}
theorem bw {i:Nat} (hN:X.N.Nodup) (hi:X.N[i]?=some x) (hx:Loc X.env.scope x) (he:JE X e te) (hf:X.fn x=true) (h:autoParam (jK e=true) L2.auto4._auto_1):JS X (.Assign [.Name x pos'] e pos) (vA te (lY i)):=⟨Ob hN hi hx he.run hf h⟩
theorem Fl {ts:wN} (he:JE X e te) (hg:JG X (.Subscript a b pos') g) (h:autoParam (jK e=true) L2.auto4._auto_1):JS X (.Assign [.Subscript a b pos'] e pos) (vA te g):=⟨Ji he.run hg.run (by show swapsWith e (some (.Subscript a b pos')) pos.line X.env=pure false;exact yl h) (by cases e <;> rfl) rfl⟩
theorem aF (he:JE X e te):JS X (.Return (some e) pos) (Jd te):=⟨Je he.run⟩
theorem cX (he:JE X e te) (h:autoParam (jK e=true) L2.auto4._auto_1):JS X (.Expr e pos) (xR te):=⟨Ko he.run h⟩
theorem aX {sa sb:List Stmt} (hc:JT X c tt) (ha:JB X sa u) (hb:JB X sb v):JS X (.If c sa sb pos) (Jf tt u v):=⟨M9 hc.run ha.run hb.run⟩
theorem rE {body:List Stmt} (hp:PassesOwn (model X.prog X.w) X.A X.env X.xe) (hc:X.calm=true) (hi:JI X tg iter wi) (hg:JG X tg g) (hb:JB X body u) (h:autoParam (o5 iter=true) L2.auto4._auto_1):JS X (.For tg iter body [] pos) (Ed wi g u):=⟨Oc hp hc hi.run hg.run hb.run h⟩
theorem vW:JS X st Ae:=⟨Af⟩
theorem aP:JB X [] Ac:=⟨DY⟩
theorem aA (h:JS X st u):JB X [st] u:=⟨Ea h.run⟩
theorem aq (h:JS X st u) (h2:JB X sts v):JB X (st :: sts) (DX u v):=⟨Ad h.run h2.run⟩
end
section
variable {P:Program} {w:World} {K:W.Frag} {mg:Str->Option Value} {base:Heap}
theorem jB {x:Str} {st:Stmt} {N ps:List Str} {k:Nat} {sp:Sp} (D:dj K mg x st) (S:aK N ps (ak st))
  (hb:∀ (kV doc pm:Value) (an:Option Addr) (cdv ct:Value) (us:List Value),us.length=ps.length->bindArgs (PySem.W.fnOf x x (fU st) (cI st) (ak st) .none kV doc pm an cdv ct) ⟨us,[]⟩=pure (ps.zip us))
  (len:∀ vs H Q E,sp vs H Q E->vs.length=ps.length)
  (hbody:∀ (f:Addr) (cdv:Value) (A:Around) (outer:List Env) (s:Shared) (H:Hp) (vs:List V) (Q:VK) (E:XK),Room k (A.deeper (envOfC x (ak st) s.heap.objs.size f cdv))->sp vs H Q E->
   ∃ t,JB (m5 zj P w K mg base N x (ak st) f cdv A outer s H E).nox (cI st) t/\t {nx:=fun _ H'=>Q .non H',rt:=Q} (start N vs) H):p8 P w K mg base (k+1) x ps sp:=
 Ka D S hb len fun f cdv A outer s H vs Q E hr h=>let ⟨t,j,q⟩:=hbody f cdv A outer s H vs Q E hr h;⟨t,j.run,q⟩
theorem okJ {x:Str} {st:Stmt} {N ps:List Str} {k:Nat} {sp:Sp} {f:Addr} {fd:FuncData} (F:Fun K x x st f fd) (S:aK N ps (ak st)) (len:∀ vs H Q E,sp vs H Q E->vs.length=ps.length)
  (hbody:∀ (f:Addr) (cdv:Value) (A:Around) (outer:List Env) (s:Shared) (H:Hp) (vs:List V) (Q:VK) (E:XK),Room k (A.deeper (envOfC x (ak st) s.heap.objs.size f cdv))->sp vs H Q E->
   ∃ t,JB (m5 zj P w K mg base N x (ak st) f cdv A outer s H E).nox (cI st) t/\t {nx:=fun _ H'=>Q .non H',rt:=Q} (start N vs) H):oX P w K mg base zj (k+1) f fd ps sp:=
 F.ok S len fun cdv A outer s H vs Q E hr h=>let ⟨t,j,q⟩:=hbody f cdv A outer s H vs Q E hr h;⟨t,j.run,q⟩
end
theorem dG {K:W.Frag} {mg:Str->Option Value} {h:Heap} (X:K.In h) (G:h.Ns mainGlobals mg) {x:Str} {v:Value} {f:Tok->Value} (a:PySem.W.nsIn K mainGlobals x=some (some v)) (e:∃ t,v=f t):∃ t,mg x=some (f t):=by
 obtain ⟨t,rfl⟩:=e
 exact ⟨t,PySem.W.mg_of X G a⟩
theorem Oj {l:PySem.W.OpenLaw} {q:Program} {loose:List Str} {XP:(Str->Option Value)->Heap->Prop} {YP:World->Heap->Prop} {d:DefRec} {K:Params->W.Frag} {st:Stmt} {k:Nat} {sp:W.Frag->Sp} {x:Str}
  (hn:l.most=some 63) (hdf:d.params.defaults=[]) (hdn:d.name="law") (hk:Room k callerA) (hY:∀ (w:World) (h:Heap),YP w h->(K w.params).In h)
  (hb:∀ (kV doc pm:Value) (an:Option Addr) (cdv ct:Value) (us:List Value),us.length=[x].length->bindArgs (PySem.W.fnOf "law" "law" (fU st) (cI st) (ak st) .none kV doc pm an cdv ct) ⟨us,[]⟩=pure ([x].zip us))
  (F:∀ (w:World) (mg:Str->Option Value) (h:Heap),(K w.params).In h->h.Ns mainGlobals mg->dj (K w.params) mg "law" st/\∀ (base:Heap) (f:Addr) (fd:FuncData),Fun (K w.params) "law" "law" st f fd->oX l.prog w (K w.params) mg base zj k f fd [x] (sp (K w.params)))
  (hsp:∀ (K:W.Frag) (H:Hp) (a:Addr) (ns:List Int),ns.length<=63->SqL K H a (ns.map V.int)->sp K [.ref a] H (fun v _=>v= .bl true) fun _ _ _=>False) (him:autoParam (importsNone q=true) L2.auto6._auto_1):
  PySem.W.WalkO q loose XP YP l.row.toRowW d [] (fun f vs=>PySem.call f vs):=
 L2.Es (n:=63) (k:=k) (x:=x) (CX:=fun _=>zj) (sp:=fun w=>sp (K w.params)) hn (by decide) hdf hk hY (fun w mg fa h X G e=>by
  obtain ⟨⟨f,fd,Fn,hm⟩,ok⟩:=F w mg h X G
  rw [hdn,hm] at e
  have ef:f=fa:=by injection (Option.some.inj e)
  subst ef
  refine ⟨fd,fun s u=>?_,fun base _ _=>ok base f fd Fn⟩
  obtain ⟨oc,od,kV,doc,pm,an,cdv,ct,osl,rfl,lk,hcd⟩:=Fn.ex
  exact .of_eq (hb kV doc pm an cdv ct [u] rfl)) (fun w H a ns hl _ hS=>hsp _ H a ns hl hS) (fun _ _ _ _ _ z=>z) him
def Ol (K:W.Frag):R2:=fun x y H Q=>rNe x y H Q\/∃ (a b:Addr) (ns ms:List Int),x= .ref a/\y= .ref b/\SqL K H a (ns.map V.int)/\SqL K H b (ms.map V.int)/\Q (.bl (!decide (ns=ms))) H
theorem Kv {X:Cx} {K:W.Frag} (hK:X.K=K) (hu:X.A.units+64 < cLine):OpR X (compareOp .NotEq) (Ol K):=by
 subst hK
 intro pins s U H x y v u Q I rx ry h
 rcases h with h | ⟨a,b,ns,ms,rfl,rfl,ha,hb,q⟩
 ·exact Ni pins s U H x y v u Q I rx ry h
 ·cases rx
  cases ry
  obtain ⟨its,r1,p1,z1⟩:=I.list ha
  obtain ⟨jts,r2,p2,z2⟩:=I.list hb
  exact PySem.W.ne_intsK p1.isList (intsAre_of r1) p2.isList (intsAre_of r2) hu ⟨.bl _,H,I,rfl,q⟩
section
variable {H:Hp} {Q:VK} {K:W.Frag} {U:St}
theorem rF {p:Addr} {xs:List V} {y:V} (hp:H p=some (.lst xs)) (c:xs.length < sizeLine) (h:Q .non (upd H p (.lst (xs ++ [y])))):yf (.ref p) [y] H Q:=⟨p,xs,y,rfl,rfl,hp,c,h⟩
theorem z8 {f:Int->V} {i:Int} (h:Q (f i) H):rU f (.int i) H Q:=⟨i,rfl,h⟩
theorem xx {a:Addr} {xs:List V} {k:Int} (ha:H a=some (.lst xs)) (h0: -(2 ^ 63)<=k) (h1:k < 2 ^ 63) (hz:xs.length*k.toNat<=sizeLine) (h:∀ p,H p=none->Q (.ref p) (upd H p (.lst (List.replicate k.toNat xs).flatten))):yj (.ref a) (.int k) H Q:=
 .inr (.inr ⟨a,k,xs,rfl,rfl,ha,h0,h1,hz,h⟩)
theorem uQ {z:Str} {g:TG} {tb:TS} {D:Ends} {H:Hp} (Pv:Nat->St->Hp->Prop) (h0:Pv 0 U H)
  (hs:∀ i U H c,z.cps.toList[i]?=some c->Pv i U H->g (.str ⟨#[c]⟩) U H fun σ2 H2=>tb {D with nx:=Pv (i+1),ct:=Pv (i+1),bk:=D.nx} σ2 H2) (hd:∀ U H,Pv z.length U H->D.nx U H):
  ∃ W:Nat->Nat->St->Hp->Prop,(∃ m,W 0 m U H)/\∀ i m U H,W i m U H->
   ((Ex z).stop i H/\D.nx U H)\/((Ex z).go i H/\∃ N:St->Hp->Prop,(∀ U' H',N U' H'->∃ m',m' < m/\W (i+1) m' U' H')/\∀ x H',(Ex z).yld i H x H'->g x U H' fun σ2 H2=>tb {D with nx:=N,ct:=N,bk:=D.nx} σ2 H2):=by
 refine ⟨fun i m U H=>m=z.cps.size - i/\i<=z.cps.size/\Pv i U H,⟨z.cps.size,by simp,Nat.zero_le _,h0⟩,?_⟩
 rintro i m U H ⟨rfl,hi,p⟩
 by_cases hlt:i < z.cps.size
 ·refine .inr ⟨hlt,Pv (i+1),fun U' H' p'=>⟨z.cps.size - (i+1),by omega,rfl,hlt,p'⟩,fun x H' y=>?_⟩
  obtain ⟨e1,c,e2,e3⟩:=y
  subst e1 e3
  exact hs i U _ c (by simpa using e2) p
 ·have e:i=z.cps.size:=by omega
  subst e
  exact .inl ⟨rfl,hd U H p⟩
end
section
variable {X:Cx} {tg iter elt:Expr} {ifs:List Expr} {scope:Scope} {pos:Pos} {N':List Str} {sub:List (Option Nat)} {wi:TI} {g:TG} {tt:TT} {te:TE}
theorem BR {N:List Str} {sc:Scope} {use:Option (Value->Sem Unit)} {R:Value->Shared->Prop} {p0:Pos} (S:mj N sc N' scope sub) (hc:X.calm=true) (hN:X.N=N) (hsc:X.env.scope=sc) (hi:PI X tg iter wi)
  (hg:∀ (C:Addr) (s₀:Shared) (H₀:Hp) (ex:List Addr),PG (lW X N' scope C s₀ H₀ ex) tg g)
  (ht:∀ (C:Addr) (s₀:Shared) (H₀:Hp) (ex:List Addr),uJ (lW X N' scope C s₀ H₀ ex) ifs tt)
  (he:∀ (C:Addr) (s₀:Shared) (H₀:Hp) (ex:List Addr),PE (lW X N' scope C s₀ H₀ ex) elt te)
  (hs:∀ x,foldedSetIterable iter X.env x=pure x) (pins:List (Addr×Obj)) (s:Shared) (U:St) (H:Hp) (Q:VK) (I:Inv X pins U H s) (h:qX sub wi g tt te U H Q)
  (hend:∀ (D C:Addr) (s5:Shared) (H5:Hp) (m:Str->Option Value),Inv X pins U H5 s5->kW X pins H5 C->s5.heap.Ns C m->Q (.ref D) H5->compPost (model X.prog X.w) X.A X.xe use R (.ref D) C (.ok .next) s5):
  wpAny (model X.prog X.w) X.A (comprehension (.ListComp elt [⟨tg,iter,ifs,0⟩] scope pos) scope X.env p0 (newList []) false (eval iter X.env) use) R X.xe s:=by
 have hcl:∀ x∈scope.names,x.2=NameKind.free->∃ c,X.env.cells.lookup x.1=some c:=fun x hx hk=>I.ok.has x.1 (by have:=S.free x hx hk;rw [← hsc] at this;exact this)
 refine wpAny_comprehension_free (use:=use) rfl hs (lZ hcl) S.kind S.loc ?_
 refine dB (hi pins s U H _ I h) fun v s1 h1=>dB h1 fun itv s2 h2=>?_
 obtain ⟨it,fp,tn,J,H2,e,I2,T,st2,f2,W,⟨m0,w0⟩,turn⟩:=h2
 subst e
 refine wpAny_newObj_type (fH fun h₁ hns₁ hk31 hcl₁=>?_)
 dsimp only at hns₁ hk31 hcl₁ ⊢
 generalize hs3:({s2 with heap:=s2.heap.push {cls:=.type "list",dict:=none,data:=.seq ([]:List Value).toArray}}:Shared)=s3
 have e3:s2.heap.push {cls:=.type "list",dict:=none,data:=.seq ([]:List Value).toArray}=s3.heap:=by rw [← hs3]
 rw [e3] at hns₁ hk31 hcl₁ ⊢
 have hD3:s3.heap.get? s2.heap.objs.size=some {cls:=.type "list",dict:=none,data:=.seq ([]:List Value).toArray}:=by rw [← e3];exact Heap.get?_push_size _ rfl
 have I3:Inv X pins U H2 s3:=by
  rw [← hs3]
  exact I2.kept (t':=s2.toks) fun b o e=>Heap.get?_push_of_some _ e
 have k23:∀ b o,s2.heap.get? b=some o->s3.heap.get? b=some o:=fun b o e=>by rw [← e3];exact Heap.get?_push_of_some _ e
 have hsz:s3.heap.objs.size=s2.heap.objs.size+1:=by rw [← e3,Heap.size_push]
 have hDn:H2 s2.heap.objs.size=none:=I2.hok.fresh (Nat.le_refl _)
 have fD:kW X pins H2 s2.heap.objs.size:=I2.fpOk (Nat.le_refl _) hDn
 have hfo:∀ b∈fp,b < s2.heap.objs.size:=fun b hb=>let ⟨o,e,_⟩:=T.obj _ _ st2 b hb;Heap.lt_size e
 have hDfp:s2.heap.objs.size ∉ fp:=fun z=>absurd (hfo _ z) (Nat.lt_irrefl _)
 have I4:=t7 (tk:=s3.toks+([]:List (Str×Value)).length) S hN hsc I3 f2 (fun b hb=>by rw [hsz];exact Nat.lt_succ_of_lt (hfo b hb)) (D:=s2.heap.objs.size) (by rw [hsz];exact Nat.lt_succ_self _) fD hns₁ hk31 hcl₁
 have stat:∀ {H':Hp} {ob:Obj},(∀ b∈fp,H' b=none)->∀ b∈fp,kW (lW X N' scope s3.heap.objs.size s3 H2 (s2.heap.objs.size :: fp)) [(s2.heap.objs.size,ob)] H' b:=fun {H' ob} hn b hb=>by
  obtain ⟨q1,q2⟩:=I4.ok.exf b (List.mem_cons_of_mem _ hb)
  refine ⟨hn b hb,q1,I4.ok.exfs b (List.mem_cons_of_mem _ hb),.inl (List.mem_cons_of_mem _ hb),q2,fun p hp z=>?_⟩
  have hp':p=(s2.heap.objs.size,ob):=by simpa [lW] using hp
  subst hp'
  have z':s2.heap.objs.size=b:=z
  exact hDfp (by rw [z'];exact hb)
 generalize hXC:lW X N' scope s3.heap.objs.size s3 H2 (s2.heap.objs.size :: fp)=XC at I4 stat
 have eP:XC.prog=X.prog:=by rw [← hXC];rfl
 have eW:XC.w=X.w:=by rw [← hXC];rfl
 have eK:XC.K=X.K:=by rw [← hXC];rfl
 have eA:XC.A=X.A:=by rw [← hXC];rfl
 have eE:XC.env=compEnvC scope (zp X scope s3.heap.objs.size) s3.heap.objs.size X.env:=by rw [← hXC];rfl
 have eC:XC.calm=true:=by rw [← hXC];exact hc
 have eX:XC.xe=fun _ _=>False:=by rw [← hXC];rfl
 have eH:XC.H₀=H2:=by rw [← hXC];rfl
 have eS:XC.s₀=s3:=by rw [← hXC];rfl
 have eF:XC.fs=frs X.stack:=by rw [← hXC];rfl
 have eEx:XC.ex=s2.heap.objs.size :: fp:=by rw [← hXC];rfl
 have ePn:XC.pn=[]:=by rw [← hXC];rfl
 have hgC:PG XC tg g:=by rw [← hXC];exact hg _ _ _ _
 have htC:uJ XC ifs tt:=by rw [← hXC];exact ht _ _ _ _
 have heC:PE XC elt te:=by rw [← hXC];exact he _ _ _ _
 have pinD:∀ {U':St} {H':Hp} {s':Shared} {ob:Obj},Inv XC [] U' H' s'->H' s2.heap.objs.size=none->s'.heap.get? s2.heap.objs.size=some ob->(∀ v,ob.data≠.cell v)->Inv XC [(s2.heap.objs.size,ob)] U' H' s':=fun {U' H' s' ob} J hn hg hd=>
  J.pins_of fun p hp=>by
   have hp':p=(s2.heap.objs.size,ob):=by simpa using hp
   subst hp'
   refine ⟨hg,hn,(J.ok.exf _ (by rw [eEx];exact List.mem_cons_self)).1,J.ok.exfs _ (by rw [eEx];exact List.mem_cons_self),hd⟩
 have loop:codeAny (model X.prog X.w) X.A (.compLoop (.ListComp elt [⟨tg,iter,ifs,0⟩] scope pos) 0 (.ref it) (.ref s2.heap.objs.size) (compEnvC scope (zp X scope s3.heap.objs.size) s3.heap.objs.size X.env))
   (compPost (model X.prog X.w) X.A X.xe use R (.ref s2.heap.objs.size) s3.heap.objs.size) {s3 with heap:=h₁,toks:=s3.toks+([]:List (Str×Value)).length}:=by
  refine t6 (fun n s'=>∃ (i:Nat) (ys:List V) (its:List Value) (nn:Nat) (H':Hp),Inv XC [] (cV sub U) H' s'/\tn i s'.heap/\(∀ b∈fp,H' b=none)/\H' s2.heap.objs.size=none/\
   s'.heap.get? s2.heap.objs.size=some {cls:=.type "list",data:=.seq its.toArray nn}/\Vals ys its/\W i n ys H') ?_ m0
   ⟨0,[],[],_,H2,I4,T.keep _ _ _ st2 fun b _ o e=>hk31 b o (k23 b o e),fun b hb=>(f2 b hb).1,hDn,hk31 _ _ hD3,.nil,w0⟩
  rintro n s4 ⟨i,ys,its,nn,H4,J4,st4,fr4,dn4,dg4,rv4,w4⟩
  have P4:=pinD J4 dn4 dg4 (fun v z=>by cases z)
  rcases turn i n ys H4 w4 with ⟨stop,hyl,qn⟩ | ⟨go,hyl,N,hN,step⟩
  ·have hdone:=T.done XC eP eW eK eC i _ s4 _ H4 (fun _ _=>False) P4 (stat fr4) st4 stop
   rw [eA] at hdone
   refine wpAny_mono hdone (fun r s5 ⟨hr,I5⟩=>?_) fun _ _ z=>z
   subst hr
   obtain ⟨m,hn,_⟩:=id I5.loc
   have hCe:XC.env.locals=s3.heap.objs.size:=by rw [eE];rfl
   rw [hCe] at hn
   have hDg:=(I5.pin (s2.heap.objs.size,_) (by rw [ePn];exact List.mem_cons_self)).1
   have hDne:s2.heap.objs.size≠s3.heap.objs.size:=by rw [hsz];exact Nat.ne_of_lt (Nat.lt_succ_self _)
   have hHC:H4 s3.heap.objs.size=none:=by have:=I5.free;rw [hCe] at this;exact this
   have k56:∀ b o,b≠s3.heap.objs.size->s5.heap.get? b=some o->s5.heap.get? b=some o:=fun b o hb e=>e
   have un:=I5.base
   rw [eF,eEx,eH,eS] at un
   have nC:∀ b o,s3.heap.get? b=some o->b≠s3.heap.objs.size:=fun b o e=>Nat.ne_of_lt (Heap.lt_size e)
   have hok6:HOk X.prog X.w (upd H4 s2.heap.objs.size (.lst ys)) s5.heap:=by
    have h5:=I5.hok
    rw [eP,eW] at h5
    have DK:∀ b u,H4 b=some u->b≠s3.heap.objs.size:=fun b u e z=>by rw [z,hHC] at e;cases e
    intro b u e
    by_cases hb:b=s2.heap.objs.size
    ·subst hb
     rw [au] at e;cases e
     exact ⟨hyl,its,nn,rv4,k56 _ _ hDne hDg⟩
    ·rw [aG hb] at e
     have nD:∀ c u,H4 c=some u->c≠s2.heap.objs.size:=fun c u e z=>by rw [z,dn4] at e;cases e
     refine (h5 b u e).stay (fun c v hc' q=>k56 c v ?_ q) (fun c q=>by rw [aG (nD c _ q)];exact q) fun c xs q=>by rw [aG (nD c _ q)];exact q
     rcases hc' with z | z
     ·rw [z];exact DK b u e
     ·exact DK c _ z
   have nD2:∀ c u,H4 c=some u->c≠s2.heap.objs.size:=fun c u e z=>by rw [z,dn4] at e;cases e
   have un6:Un (frs X.stack) (s2.heap.objs.size :: fp) H2 (upd H4 s2.heap.objs.size (.lst ys)) s3.heap s5.heap:=
    ⟨fun b o e nn' hb hx=>k56 b o (nC b o e) (un.keep b o e nn' hb hx),fun b o e nn' hb hx=>let ⟨sl,q⟩:=un.slot b o e nn' hb hx;⟨sl,k56 b _ (nC b o e) q⟩,
     fun b o e nn' hx=>by rw [aG (fun z=>hx (by rw [z];exact List.mem_cons_self))];exact un.free b o e nn' hx,
     fun b o e hx=>let ⟨o',q⟩:=un.there b o e hx;⟨o',k56 b o' (nC b o e) q⟩,
     fun b xs e=>by have q:=un.tups b xs e;rw [aG (nD2 b _ q)];exact q,
     fun b o u e=>by have q:=un.frzs b o u e;rw [aG (nD2 b _ q)];exact q,
     fun b ps e=>let ⟨more,q⟩:=un.tbls b ps e;⟨more,by rw [aG (nD2 b _ q)];exact q⟩⟩
   have I6:Inv X pins U (upd H4 s2.heap.objs.size (.lst ys)) s5:=by
    refine I3.call' (s':=s5) (ch:=s2.heap.objs.size :: fp) ?_ un6 hok6 I5.bare fun b hb=>?_
    ·show s5.os=s3.os
     have:=I5.os
     rw [eS] at this
     exact this
    ·have q:kW X pins H2 b:=by
      rcases List.mem_cons.mp hb with rfl | z
      ·exact fD
      ·exact f2 b z
     obtain ⟨f0,f1,f2',f3,f4,f5⟩:=q
     exact ⟨f3,f1,f4,f5⟩
   have dC:upd H4 s2.heap.objs.size (.lst ys) s3.heap.objs.size=none:=by rw [aG (Ne.symm hDne)];exact hHC
   exact hend _ _ s5 _ m I6 (I3.fpOk (Nat.le_refl _) dC) hn (qn _ dn4)
  ·have hitem:=T.item XC eP eW eK eC i _ s4 _ H4 (fun _ _=>False) P4 (stat fr4) st4 go
   rw [eA] at hitem
   refine wpAny_mono hitem (fun r s5 ⟨u,hr,h5⟩=>?_) fun _ _ z=>z
   subst hr
   dsimp only
   refine wpAny_mono h5 (fun _ s6 ⟨x,H6,I6,r6,y6,st6,fr6⟩=>?_) fun _ _ z=>z
   have P6:=I6.pinned (stat fr6) (T.obj _ _ st6)
   rw [← eE,← eP,← eW,← eA]
   refine wpAny_mono (hgC _ s6 _ H6 x u _ P6 r6 (step x H6 y6)) (fun _ s7 ⟨σ7,H7,I7,kp7,q7⟩=>?_) fun _ _ z=>by rw [eX] at z;exact z
   refine wpAny_mono (htC _ s7 σ7 H7 _ I7 q7) (fun ok s8 ⟨H8,I8,q8⟩=>?_) fun _ _ z=>by rw [eX] at z;exact z
   have fin:∀ {H9:Hp} {s9:Shared},Inv XC ([(s2.heap.objs.size,({cls:=.type "list",data:=.seq its.toArray nn}:Obj))] ++ oW fp s6.heap) σ7 H9 s9->Inv XC [] (cV sub U) H9 s9/\tn (i+1) s9.heap/\(∀ b∈fp,H9 b=none)/\H9 s2.heap.objs.size=none/\
     s9.heap.get? s2.heap.objs.size=some {cls:=.type "list",data:=.seq its.toArray nn}:=fun {H9 s9} J=>by
    have pD:=J.pin (s2.heap.objs.size,({cls:=.type "list",data:=.seq its.toArray nn}:Obj)) (by rw [ePn];simp)
    have pF:∀ b∈fp,∀ o,s6.heap.get? b=some o->s9.heap.get? b=some o/\H9 b=none:=fun b hb o e=>by
     have q:=J.pin (b,o) (by rw [ePn];exact List.mem_append_right _ (List.mem_append_right _ (jH hb e)))
     exact ⟨q.1,q.2.1⟩
    refine ⟨?_,T.keep _ _ _ st6 fun b hb o e=>(pF b hb o e).1,fun b hb=>?_,pD.2.1,pD.1⟩
    ·have J0:Inv XC [] σ7 H9 s9:=J.pins_of fun p hp=>nomatch hp
     exact J0.weak kp7.1.symm fun j v e=>kp7.2 j v e
    ·obtain ⟨o,e,_⟩:=T.obj _ _ st6 b hb
     exact (pF b hb o e).2
   cases ok with
   | false=>
    rw [if_neg (by simp)]
    rw [if_neg (by simp)] at q8
    obtain ⟨m',hm,w8⟩:=hN _ _ q8
    obtain ⟨a1,a2,a3,a4,a5⟩:=fin I8
    exact ⟨m',hm,i+1,ys,its,nn,H8,a1,a2,a3,a4,a5,rv4,w8⟩
   | true=>
    rw [if_pos rfl]
    rw [if_pos rfl] at q8
    refine wpAny_mono (heC _ s8 σ7 H8 _ I8 q8) (fun xv s9 ⟨y,H9,I9,r9,n9⟩=>?_) fun _ _ z=>by rw [eX] at z;exact z
    obtain ⟨m',hm,w9⟩:=hN _ _ n9
    obtain ⟨a1,a2,a3,a4,a5⟩:=fin I9
    refine wpAny_list_append_plain (items:=its.toArray) ⟨nn,a5⟩ (fun h' ⟨n',hp'⟩ sb=>?_) (by simp;rw [← rv4.length];omega)
    obtain ⟨q1,q2⟩:=I4.ok.exf s2.heap.objs.size (by rw [eEx];exact List.mem_cons_self)
    have a1':Inv XC [] (cV sub U) H9 {s9 with heap:=h'}:=a1.turned (t':=s9.toks) (fun b o hb e=>(sb.2 b hb).trans e) a4 q1 (.inl (by rw [eEx];exact List.mem_cons_self)) q2 (fun p hp=>by rw [ePn] at hp;exact nomatch hp)
    refine ⟨m',hm,i+1,ys ++ [y],its ++ [xv],n',H9,a1',T.keep _ _ _ a2 fun b hb o e=>(sb.2 b (fun z=>hDfp (by rw [← z];exact hb))).trans e,a3,a4,?_,rv4.append (.cons r9 .nil),w9⟩
    rw [hp']
    simp
 subst hs3
 exact codeAny_compStart_list loop (T.self _ 0 _ _ _ (T.keep _ _ _ st2 fun b _ o e=>hk31 b o (k23 b o e)) loop)
theorem xF {N:List Str} {sc:Scope} {i:Nat} {x:Str} {pos' spos:Pos} (hNd:X.N.Nodup) (hxi:X.N[i]?=some x) (hx:Loc X.env.scope x) (hf:X.fn x=true) (S:mj N sc N' scope sub) (hc:X.calm=true) (hN:X.N=N) (hsc:X.env.scope=sc) (hi:PI X tg iter wi)
  (hg:∀ (C:Addr) (s₀:Shared) (H₀:Hp) (ex:List Addr),PG (lW X N' scope C s₀ H₀ ex) tg g)
  (ht:∀ (C:Addr) (s₀:Shared) (H₀:Hp) (ex:List Addr),uJ (lW X N' scope C s₀ H₀ ex) ifs tt)
  (he:∀ (C:Addr) (s₀:Shared) (H₀:Hp) (ex:List Addr),PE (lW X N' scope C s₀ H₀ ex) elt te)
  (hs:∀ x,foldedSetIterable iter X.env x=pure x):PS X (.Assign [.Name x pos'] (.ListComp elt [⟨tg,iter,ifs,0⟩] scope pos) spos) (vA (qX sub wi g tt te) (lY i)):=by
 intro pins s U H D I h
 have hsw:∃ b,swapsWith (.ListComp elt [⟨tg,iter,ifs,0⟩] scope pos) (some (.Name x pos')) spos.line X.env=pure b:=⟨_,rfl⟩
 obtain ⟨b,hsw⟩:=hsw
 cases b with
 | false=>exact Ag hNd hxi hx (yg S hc hN hsc hi hg ht he hs) hsw (.inl hf) pins s U H D I h
 | true=>
  rw [exec_Assign_Name_used _ _ _ _ hsw]
  refine wpAny_bind (wpAny_standAt (wpAny_bind ?_))
  show wpAny _ X.A (do let _ ← comprehension (.ListComp elt [⟨tg,iter,ifs,0⟩] scope pos) scope X.env _ (newList []) false (eval iter X.env) (some (assign (.Name x pos') X.env))) _ _ s
  refine wpAny_bind (wpAny_mono (BR (use:=some (assign (.Name x pos') X.env)) (R:=fun _ s'=>SP X pins D .next s') S hc hN hsc hi hg ht he hs pins s U H _ I h ?_) (fun _ s' hq=>wpAny_pure (wpAny_pure hq)) fun _ _ e=>e)
  intro Da C s5 H5 m I5 fC hn q
  show wpAny _ X.A (assign (.Name x pos') X.env (.ref Da)) _ _ _
  refine wpAny_assign_Name (tO I5 hNd hxi hx (v:=.ref Da) rfl (fun s6 I6 qq0=>?_) (.inl hf))
  obtain ⟨a,sb,ha⟩:=qq0
  obtain ⟨f0,f1,f2,f3,f4,f5⟩:=fC
  have hCa:C≠a:=fun z=>by
   rcases ha with e | e
   ·exact f1 (z.trans e)
   ·exact f4 x a e z.symm
  exact ⟨m,hn.sameBut sb hCa,fun h' hs'=>⟨_,H5,I6.turned (t':=s6.toks) (fun b o hb e=>hs'.extBut b o hb e) f0 f1 f3 f4 f5,q⟩⟩
end
section
variable {X:Cx} {tg iter elt:Expr} {ifs:List Expr} {scope:Scope} {pos:Pos} {N':List Str} {sub:List (Option Nat)} {wi:TI} {g:TG} {tt:TT} {te:TE} {N:List Str} {sc:Scope}
theorem lN {i:Nat} {x:Str} {pos' spos:Pos} (hNd:X.N.Nodup) (hxi:X.N[i]?=some x) (hx:Loc X.env.scope x) (S:mj N sc N' scope sub) (hc:X.calm=true) (hN:X.N=N) (hsc:X.env.scope=sc) (hi:JI X tg iter wi)
  (hg:∀ (C:Addr) (s₀:Shared) (H₀:Hp) (ex:List Addr),JG (lW X N' scope C s₀ H₀ ex) tg g)
  (ht:∀ (C:Addr) (s₀:Shared) (H₀:Hp) (ex:List Addr),Fg (lW X N' scope C s₀ H₀ ex) ifs tt)
  (he:∀ (C:Addr) (s₀:Shared) (H₀:Hp) (ex:List Addr),JE (lW X N' scope C s₀ H₀ ex) elt te) (hf:X.fn x=true) (h:autoParam (o5 iter=true) L2.auto4._auto_1):
  JS X (.Assign [.Name x pos'] (.ListComp elt [⟨tg,iter,ifs,0⟩] scope pos) spos) (vA (qX sub wi g tt te) (lY i)):=
 ⟨xF hNd hxi hx hf S hc hN hsc hi.run (fun C s₀ H₀ ex=>(hg C s₀ H₀ ex).run) (fun C s₀ H₀ ex=>(ht C s₀ H₀ ex).run) (fun C s₀ H₀ ex=>(he C s₀ H₀ ex).run) (Bu h)⟩
end
end L2
namespace L2
open PySem PySem.Spec PyProof.Rows PySem.SeqAt
mutual
def DR (H:Hp):PyData->V->Prop
 | .none,v=>v= .non
 | .bool b,v=>v= .bl b
 | .int n,v=>v= .int n
 | .str x,v=>v= .str x
 | .list ds,v=>∃ a vs,v= .ref a/\H a=some (.lst vs)/\DRs H ds vs
 | .tuple ds,v=>∃ a vs,v= .ref a/\H a=some (.tup vs)/\DRs H ds vs
 | .dict _,_=>False
def DRs (H:Hp):List PyData->List V->Prop
 | [],vs=>vs=[]
 | d :: ds,vs=>∃ v r,vs=v :: r/\DR H d v/\DRs H ds r
end
mutual
theorem DR.same {H H':Hp} (s:Same H H'):∀ (d:PyData) (v:V),DR H d v->DR H' d v
 | .none,_,h=>by rw [DR] at h ⊢;exact h
 | .bool _,_,h=>by rw [DR] at h ⊢;exact h
 | .int _,_,h=>by rw [DR] at h ⊢;exact h
 | .str _,_,h=>by rw [DR] at h ⊢;exact h
 | .list ds,v,h=>by rw [DR] at h ⊢;obtain ⟨a,vs,e,q,r⟩:=h;exact ⟨a,vs,e,s _ _ q,DRs.same s ds vs r⟩
 | .tuple ds,v,h=>by rw [DR] at h ⊢;obtain ⟨a,vs,e,q,r⟩:=h;exact ⟨a,vs,e,s _ _ q,DRs.same s ds vs r⟩
 | .dict _,_,h=>by rw [DR] at h;exact h.elim
theorem DRs.same {H H':Hp} (s:Same H H'):∀ (ds:List PyData) (vs:List V),DRs H ds vs->DRs H' ds vs
 | [],_,h=>by rw [DRs] at h ⊢;exact h
 | d :: ds,vs,h=>by rw [DRs] at h ⊢;obtain ⟨v,r,e,q,t⟩:=h;exact ⟨v,r,e,DR.same s d v q,DRs.same s ds r t⟩
end
theorem mH {H:Hp} {n:Int} {v:V}:DR H (.int n) v↔v= .int n:=by rw [DR]
theorem dm {H:Hp} {n:Str} {v:V}:DR H (.str n) v↔v= .str n:=by rw [DR]
theorem uR {H:Hp} {n:Bool} {v:V}:DR H (.bool n) v↔v= .bl n:=by rw [DR]
theorem jl {H:Hp} {v:V}:DR H .none v↔v= .non:=by rw [DR]
theorem bV {H:Hp} {ds:List PyData} {v:V}:DR H (.list ds) v↔∃ a vs,v= .ref a/\H a=some (.lst vs)/\DRs H ds vs:=by rw [DR]
theorem lu {H:Hp} {ds:List PyData} {v:V}:DR H (.tuple ds) v↔∃ a vs,v= .ref a/\H a=some (.tup vs)/\DRs H ds vs:=by rw [DR]
theorem dq {H:Hp} {vs:List V}:DRs H [] vs↔vs=[]:=by rw [DRs]
theorem cZ {H:Hp} {d:PyData} {ds:List PyData} {vs:List V}:DRs H (d :: ds) vs↔∃ v r,vs=v :: r/\DR H d v/\DRs H ds r:=by rw [DRs]
theorem fj {H:Hp}:∀ {ds es:List PyData} {vs ws:List V},DRs H ds vs->DRs H es ws->DRs H (ds ++ es) (vs ++ ws)
 | [],_,_,_,h,q=>by rw [dq] at h;subst h;exact q
 | d :: ds,_,_,_,h,q=>by
  rw [cZ] at h
  obtain ⟨v,r,rfl,hd,hr⟩:=h
  exact cZ.mpr ⟨v,r ++ _,rfl,hd,fj hr q⟩
theorem cL {H:Hp} {d:PyData} {v:V} (h:DR H d v):DRs H [d] [v]:=cZ.mpr ⟨v,[],rfl,h,dq.mpr rfl⟩
mutual
theorem DR.reads {P:Program} {w:World} {H:Hp} {h:Heap} (ok:HOk P w H h):∀ (d:PyData) (v:V) (u:Value),DR H d v->RelV v u->∃ as,Reads h u d as
 | .none,_,u,q,r=>by rw [DR] at q;subst q;cases r;exact ⟨_,.none⟩
 | .bool b,_,u,q,r=>by rw [DR] at q;subst q;cases r;exact ⟨_,.bool _⟩
 | .int n,_,u,q,r=>by rw [DR] at q;subst q;obtain ⟨t,rfl⟩:=r;exact ⟨_,.int _ _⟩
 | .str n,_,u,q,r=>by rw [DR] at q;subst q;obtain ⟨t,rfl⟩:=r;exact ⟨_,.str _ _⟩
 | .list ds,v,u,q,r=>by
  rw [DR] at q
  obtain ⟨a,vs,rfl,e,t⟩:=q
  cases r
  obtain ⟨_,its,n,rv,g⟩:=ok a _ e
  obtain ⟨as,ra⟩:=DRs.reads ok ds vs its t rv
  exact ⟨_,.list g rfl rfl (by simpa using ra)⟩
 | .tuple ds,v,u,q,r=>by
  rw [DR] at q
  obtain ⟨a,vs,rfl,e,t⟩:=q
  cases r
  obtain ⟨_,its,rv,g⟩:=ok a _ e
  obtain ⟨as,ra⟩:=DRs.reads ok ds vs its t rv
  obtain ⟨o,ho,hc,n,hd⟩:=g
  exact ⟨_,.tuple ho hc hd (by simpa using ra)⟩
 | .dict _,_,_,q,_=>by rw [DR] at q;exact q.elim
theorem DRs.reads {P:Program} {w:World} {H:Hp} {h:Heap} (ok:HOk P w H h):∀ (ds:List PyData) (vs:List V) (us:List Value),DRs H ds vs->Vals vs us->∃ as,ReadsAll h us ds as
 | [],_,us,q,r=>by rw [DRs] at q;subst q;cases r;exact ⟨_,.nil⟩
 | d :: ds,_,us,q,r=>by
  rw [DRs] at q
  obtain ⟨v,r',rfl,q1,q2⟩:=q
  cases r with
  | cons a b=>
   obtain ⟨as,h1⟩:=DR.reads ok d v _ q1 a
   obtain ⟨bs,h2⟩:=DRs.reads ok ds r' _ q2 b
   exact ⟨_,.cons h1 h2⟩
end
def Om:R2:=fun x y H Q=>∃ d e,DR H d x/\DR H e y/\shaped d=true/\shaped e=true/\Q (.bl (PyData.eqv d e)) H
def Oo:R2:=fun x y H Q=>∃ d e,DR H d x/\DR H e y/\shaped d=true/\shaped e=true/\Q (.bl (!PyData.eqv d e)) H
section
variable {X:Cx}
theorem Kw (hu:X.A.units+64 < cLine):OpR X (compareOp .Eq) Om:=by
 intro pins s U H x y v u Q I rx ry h
 obtain ⟨d,e,h1,h2,h3,h4,q⟩:=h
 obtain ⟨as,r1⟩:=DR.reads I.hok d x v h1 rx
 obtain ⟨bs,r2⟩:=DR.reads I.hok e y u h2 ry
 exact eq_dataH r1 r2 h3 h4 hu ⟨.bl _,H,I,rfl,q⟩
theorem Ky (hu:X.A.units+64 < cLine):OpR X (compareOp .NotEq) Oo:=by
 intro pins s U H x y v u Q I rx ry h
 obtain ⟨d,e,h1,h2,h3,h4,q⟩:=h
 obtain ⟨as,r1⟩:=DR.reads I.hok d x v h1 rx
 obtain ⟨bs,r2⟩:=DR.reads I.hok e y u h2 ry
 exact ne_dataH r1 r2 h3 h4 hu ⟨.bl _,H,I,rfl,q⟩
def zB (K:W.Frag):R2:=fun x y H Q=>Kd K x y H Q\/Om x y H Q
def BV (K:W.Frag):R2:=fun x y H Q=>Ol K x y H Q\/Oo x y H Q
theorem Kz {K:W.Frag} (hK:X.K=K) (hu:X.A.units+64 < cLine):OpR X (compareOp .Eq) (zB K):=(Kh hK (Nat.lt_of_le_of_lt (Nat.le_add_right _ _) hu)).or (Kw hu)
theorem lz {K:W.Frag} (hK:X.K=K) (hu:X.A.units+64 < cLine):OpR X (compareOp .NotEq) (BV K):=(Kv hK hu).or (Ky hu)
end
section
variable {H:Hp} {Q:VK} {K:W.Frag} {U:St}
theorem gf {i j:Int} (h:Q (.bl (decide (V.int i=V.int j))) H):zB K (.int i) (.int j) H Q:=.inl (.inl ⟨rfl,h⟩)
theorem gj {i j:Str} (h:Q (.bl (decide (V.str i=V.str j))) H):zB K (.str i) (.str j) H Q:=.inl (.inl ⟨rfl,h⟩)
theorem iz {i j:Int} (h:Q (.bl (!decide (V.int i=V.int j))) H):BV K (.int i) (.int j) H Q:=.inl (.inl ⟨rfl,h⟩)
theorem iB {i j:Str} (h:Q (.bl (!decide (V.str i=V.str j))) H):BV K (.str i) (.str j) H Q:=.inl (.inl ⟨rfl,h⟩)
theorem vX {x y:V} {d:PyData} (h1:DR H d x) (h2:DR H d y) (hs:shaped d=true) (h:Q (.bl true) H):zB K x y H Q:=
 .inr ⟨d,d,h1,h2,hs,hs,by rw [PySem.SeqAt.eqv_refl d (canLay_of_shaped hs)];exact h⟩
theorem BW {x y:V} {d:PyData} (h1:DR H d x) (h2:DR H d y) (hs:shaped d=true) (h:Q (.bl false) H):BV K x y H Q:=
 .inr ⟨d,d,h1,h2,hs,hs,by rw [PySem.SeqAt.eqv_refl d (canLay_of_shaped hs)];exact h⟩
theorem BX {x y:V} {d e:PyData} (h1:DR H d x) (h2:DR H e y) (hs:shaped d=true) (hs2:shaped e=true) (h:Q (.bl (PyData.eqv d e)) H):zB K x y H Q:=.inr ⟨d,e,h1,h2,hs,hs2,h⟩
end
end L2
namespace L2
open PySem PySem.Spec PyProof.Rows
section
variable {X:Cx} {K:W.Frag} {a b c e:Expr} {ta tb tc te:TE} {pos p p2 p3:Pos}
theorem vY {op op':CmpOp} {r r':R2} (ho:OpR X (compareOp op) r) (ho':OpR X (compareOp op') r') (ha:JE X a ta) (hb:JE X b tb) (hc:JE X c tc) (hm:autoParam (lastMarks [op,op'] [b,c]=false) L2.auto5._auto_1):
  JT X (.Compare a [op,op'] [b,c] pos) (vB (wR r r' ta tb tc)):=⟨An ho ho' ha.run hb.run hc.run hm⟩
end
def zE (h:Heap) (T:Addr):Prop:=∃ oT ts,h.get? T=some oT/\oT.data= .fields ts/\3 < ts.size
def dH (C:Addr) (dd:Option Addr) (vs:Array Value):Obj:={cls:=.ref C,dict:=dd,data:=.fields vs}
def Fo (l:List Env):List Addr:=l.filterMap (·.frame)
section
variable {M:Model} {A:Around} {E:Value->Shared->Prop}
theorem ug {base:Heap} {env:Env} {outer:List Env} {L x C:Addr} {dd:Option Addr} {vs:Array Value} {hd:Value} {had:Bool} {Q:Unit->Shared->Prop} {s:Shared}
  (fr:A.frames=some (env :: outer)) (ff:s.heap.FunFrames base (env :: outer)) (fL:env.frame=some L) (ex:s.heap.get? x=some (dH C dd vs)) (sz:1 < vs.size) (nx:x ∉ Fo (env :: outer))
  (k:∀ h' T,h'.get? x=some (dH C dd (vs.setIfInBounds 1 (.ref T)))->s.heap.objs.size<=T->zE h' T->(∀ b o,b≠x->b ∉ Fo (env :: outer)->s.heap.get? b=some o->h'.get? b=some o)->
   (∀ b o,b≠x->s.heap.get? b=some o->∃ sl,h'.get? b=some {o with slots:=sl})->Q () {s with heap:=h'}):
  wpAny M A (do let c ← frameOf env;let pl ← entryPlaceOf L had;let t ← EntryCells.newEntry hd c .none (rawInt L) .none pl;setField (.ref x) 1 t) Q E s:=by
 refine wpAny_bind (wpAny_frameOf_fun fr ff fL fun g1 so=>?_)
 refine wpAny_bind (wpAny_entryPlaceOf fun pl isp=>?_)
 unfold EntryCells.newEntry newFields
 refine wpAny_bind (wpAny_newObj_type ?_ (isp.sizeOk5 _ _ _ _ _))
 have x1:g1.get? x=some (dH C dd vs):=(so.2.1 x nx).trans ex
 have lts:([hd,Value.ref L,.none,rawInt L,.none] ++ (if pl.isEmpty then List.replicate 6 Value.none else pl)).toArray.size > 3:=by
  simp only [List.size_toArray,List.length_append,List.length_cons,List.length_nil];omega
 generalize ([hd,Value.ref L,.none,rawInt L,.none] ++ (if pl.isEmpty then List.replicate 6 Value.none else pl)).toArray=tv at lts
 have x2:(g1.push {cls:=.type "traceback",dict:=none,data:=.fields tv}).get? x=some (dH C dd vs):=Heap.get?_push_of_some _ x1
 have nTx:g1.objs.size≠x:=Nat.ne_of_gt (Heap.lt_size x1)
 have t2:(g1.push {cls:=.type "traceback",dict:=none,data:=.fields tv}).get? g1.objs.size=some {cls:=.type "traceback",dict:=none,data:=.fields tv}:=Heap.get?_push_size _ rfl
 have o2:∀ b o,g1.get? b=some o->(g1.push {cls:=.type "traceback",dict:=none,data:=.fields tv}).get? b=some o:=fun b o e=>Heap.get?_push_of_some _ e
 refine wpAny_setField (vs:=vs) x2 rfl sz ?_
 have e3:=Heap.get?_update_self (Obj.mapFields (·.setIfInBounds 1 (Value.ref g1.objs.size))) x2 rfl
 have ot:∀ b,b≠x->((g1.push {cls:=.type "traceback",dict:=none,data:=.fields tv}).update x (Obj.mapFields (·.setIfInBounds 1 (Value.ref g1.objs.size)))).get? b=(g1.push {cls:=.type "traceback",dict:=none,data:=.fields tv}).get? b:=fun b hb=>Heap.get?_update_other _ _ (Ne.symm hb)
 refine k _ g1.objs.size e3 (by rw [so.1];exact Nat.le_refl _) ⟨_,tv,(ot _ nTx).trans t2,rfl,lts⟩ (fun b o hb hf e=>?_) (fun b o hb e=>?_)
 ·rw [ot b hb];exact o2 b o ((so.2.1 b hf).trans e)
 ·obtain ⟨sl,q⟩:=so.2.2 b o e
  exact ⟨sl,by rw [ot b hb];exact o2 b _ q⟩
structure yq (fs:List Addr) (x C:Addr) (dd:Option Addr) (hd:Option Addr) (h h':Heap) (T:Addr):Prop where
 obj:∃ vs,h'.get? x=some (dH C dd vs)/\vs[1]?=some (.ref T)/\vs[2]?=some .none
 tb:zE h' T
 ne:T≠x
 new:h.objs.size<=T\/hd=some T
 keep:∀ b o,b≠x->some b≠hd->b ∉ fs->h.get? b=some o->h'.get? b=some o
 slot:∀ b o,b≠x->some b≠hd->h.get? b=some o->∃ sl,h'.get? b=some {o with slots:=sl}
 tail:∀ b o,hd=some b->h.get? b=some o->∃ o',h'.get? b=some o'
theorem Oq {base:Heap} {env:Env} {outer:List Env} {L x C:Addr} {dd:Option Addr} {vs:Array Value} {Q:Unit->Shared->Prop} {s:Shared}
  (fr:A.frames=some (env :: outer)) (ff:s.heap.FunFrames base (env :: outer)) (fL:env.frame=some L) (ex:s.heap.get? x=some (dH C dd vs)) (h1:vs[1]?=some .none/\vs[2]?=some .none) (nx:x ∉ Fo (env :: outer))
  (k:∀ h' T,yq (Fo (env :: outer)) x C dd none s.heap h' T->Q () {s with heap:=h'}):wpAny M A (noteFrame (.ref x) env) Q E s:=by
 unfold noteFrame
 simp only [fL]
 refine wpAny_bind (wpAny_field ex rfl h1.1 ?_)
 rw [if_neg (by decide)]
 have sz:1 < vs.size:=(Array.getElem?_eq_some_iff.mp h1.1).1
 refine ug fr ff fL ex sz nx fun h' T a1 a2 a3 a4 a5=>k h' T ⟨⟨_,a1,by simp [sz],by rw [Array.getElem?_setIfInBounds_ne (by decide)];exact h1.2⟩,a3,?_,.inl a2,fun b o hb _ hf e=>a4 b o hb hf e,fun b o hb _ e=>a5 b o hb e,fun b o z=>by cases z⟩
 exact Nat.ne_of_gt (Nat.lt_of_lt_of_le (Heap.lt_size ex) a2)
theorem Ot {base:Heap} {env:Env} {outer:List Env} {L x C T0:Addr} {dd:Option Addr} {vs:Array Value} {Q:Unit->Shared->Prop} {s:Shared}
  (fr:A.frames=some (env :: outer)) (ff:s.heap.FunFrames base (env :: outer)) (fL:env.frame=some L) (ex:s.heap.get? x=some (dH C dd vs)) (h1:vs[1]?=some (.ref T0)/\vs[2]?=some .none) (t0:zE s.heap T0) (ne:T0≠x) (nx:x ∉ Fo (env :: outer)) (nT:T0 ∉ Fo (env :: outer))
  (k:∀ h' T,yq (Fo (env :: outer)) x C dd (some T0) s.heap h' T->Q () {s with heap:=h'}):wpAny M A (noteFrame (.ref x) env) Q E s:=by
 obtain ⟨oT,ts,g,d,l3⟩:=id t0
 unfold noteFrame
 simp only [fL]
 refine wpAny_bind (wpAny_field ex rfl h1.1 ?_)
 rw [if_pos (show (Value.ref T0 != Value.none)=true from by simp)]
 refine wpAny_bind (wpAny_field g d (Array.getElem?_eq_getElem l3) ?_)
 by_cases q:(ts[3] == rawInt L)=true
 ·rw [if_pos q]
  exact wpAny_pure (k _ T0 ⟨⟨vs,ex,h1⟩,t0,ne,.inr rfl,fun b o _ _ _ e=>e,fun b o _ _ e=>⟨o.slots,e⟩,fun b o _ e=>⟨o,e⟩⟩)
 ·rw [if_neg q]
  refine wpAny_bind (wpAny_setField g d l3 ?_)
  have tT:=Heap.get?_update_self (Obj.mapFields (·.setIfInBounds 3 Value.none)) g (Obj.isFreed_of_fields (Obj.data_mapFields d _))
  have ot:∀ b,b≠T0->(s.heap.update T0 (Obj.mapFields (·.setIfInBounds 3 Value.none))).get? b=s.heap.get? b:=fun b hb=>Heap.get?_update_other _ _ (Ne.symm hb)
  have sz:1 < vs.size:=(Array.getElem?_eq_some_iff.mp h1.1).1
  have ff2:(s.heap.update T0 (Obj.mapFields (·.setIfInBounds 3 Value.none))).FunFrames base (env :: outer):=ff.of_keeps fun b o hb hn=>by
   refine ⟨o,(ot b (fun z=>?_)).trans hb,rfl⟩
   rw [z,g] at hb;cases hb;exact hn _ d
  refine ug (s:={s with heap:=s.heap.update T0 (Obj.mapFields (·.setIfInBounds 3 Value.none))}) fr ff2 fL ((ot x (Ne.symm ne)).trans ex) sz nx fun h' T a1 a2 a3 a4 a5=>k h' T ⟨⟨_,a1,by simp [sz],by rw [Array.getElem?_setIfInBounds_ne (by decide)];exact h1.2⟩,a3,?_,.inl (by rw [Heap.size_update] at a2;exact a2),fun b o hb h0 hf e=>a4 b o hb hf ((ot b (fun z=>h0 (by rw [z]))).trans e),fun b o hb h0 e=>a5 b o hb ((ot b (fun z=>h0 (by rw [z]))).trans e),fun b o hb e=>?_⟩
  ·exact Nat.ne_of_gt (Nat.lt_of_lt_of_le (Heap.lt_size ex) (by rw [Heap.size_update] at a2;exact a2))
  ·cases hb
   obtain ⟨sl,z⟩:=a5 T0 _ ne tT
   exact ⟨_,z⟩
theorem Ou {x C T0:Addr} {dd:Option Addr} {vs:Array Value} {Q:Unit->Shared->Prop} {s:Shared} (ex:s.heap.get? x=some (dH C dd vs)) (h1:vs[1]?=some (.ref T0)/\vs[2]?=some .none) (t0:zE s.heap T0) (ne:T0≠x)
  (k:∀ h',yq [] x C dd (some T0) s.heap h' T0->Q () {s with heap:=h'}):wpAny M A (setFlight (.ref x) none) Q E s:=by
 obtain ⟨oT,ts,g,d,l3⟩:=id t0
 unfold setFlight
 refine wpAny_bind (wpAny_field ex rfl h1.1 ?_)
 rw [if_pos (show (Value.ref T0 != Value.none)=true from by simp)]
 refine wpAny_setField g d l3 (k _ ?_)
 have d2:=Obj.data_mapFields d (·.setIfInBounds 3 ((none:Option Addr).elim Value.none fun f=>rawInt f))
 have tT:=Heap.get?_update_self (Obj.mapFields (·.setIfInBounds 3 ((none:Option Addr).elim Value.none fun f=>rawInt f))) g (Obj.isFreed_of_fields d2)
 have ot:∀ b,b≠T0->(s.heap.update T0 (Obj.mapFields (·.setIfInBounds 3 ((none:Option Addr).elim Value.none fun f=>rawInt f)))).get? b=s.heap.get? b:=fun b hb=>Heap.get?_update_other _ _ (Ne.symm hb)
 exact ⟨⟨vs,(ot x (Ne.symm ne)).trans ex,h1⟩,⟨_,_,tT,d2,by simpa using l3⟩,ne,.inr rfl,fun b o _ h0 _ e=>(ot b (fun z=>h0 (by rw [z]))).trans e,fun b o _ h0 e=>⟨o.slots,(ot b (fun z=>h0 (by rw [z]))).trans e⟩,fun b o hb e=>by cases hb;exact ⟨_,tT⟩⟩
end
def Ov:List Value:=[.type "ValueError",.type "Exception",.type "BaseException",.type "object"]
def MN (K:W.Frag) (D:Addr):Bool:=match K.lookup D with
 | some ⟨.type "type",_,.cls cd,sl⟩=>(match cd.mro,sl.toList with
  | .ref E :: bm,[_,_,_,_,some (.builtin n),_]=>E == D && n == "ValueError.__new__" && cd.hasDel == false && cd.hasDict && PySem.W.tailIn K Ov bm
  | _,_=>false)
 | _=>false
theorem rG {K:W.Frag} {D:Addr} (q:MN K D=true):∃ nm qn N bs bm sn sub ab col dd k0 k1 k2 k3 k5,K.lookup D=some (excClassObj nm qn D N bs bm true sn sub ab col dd k0 k1 k2 k3 k5 "ValueError.__new__")/\∀ h,K.In h->OwnTail h Ov bm:=by
 unfold MN at q
 split at q
 ·rename_i dd cd sl ho
  split at q
  ·rename_i D' bm k0 k1 k2 k3 n k5 hm hs
   simp only [Bool.and_eq_true,beq_iff_eq] at q
   obtain ⟨⟨⟨⟨e1,e2⟩,e3⟩,e4⟩,e5⟩:=q
   subst e1 e2
   obtain ⟨nm,bs,mro,ns,qn,hd,sn,sub,ab,col,del⟩:=cd
   dsimp only at hm e3 e4
   subst hm e3 e4
   have hsl:sl= #[k0,k1,k2,k3,some (.builtin "ValueError.__new__"),k5]:=by
    obtain ⟨l⟩:=sl
    dsimp only at hs
    rw [hs]
   subst hsl
   exact ⟨nm,qn,ns,bs,bm,sn,sub,ab,col,dd,k0,k1,k2,k3,k5,ho,fun h X=>PySem.W.tail_of_in X e5⟩
  ·cases q
 ·cases q
section
variable {prog:Program} {w:World} {A:Around} {K:W.Frag} {D f:Addr} {E:Value->Shared->Prop}
theorem vZ {h:Heap} {g:Array GenState} {d:Drawn} {t:Nat} {os:OsState} {us:List Value} {Q:Fin->Shared->Prop} (X:K.In h) (hx:MN K D=true)
  (hi:PySem.W.findIn K (.ref D) "__init__"=some (some (.ref f))) (hf:PySem.W.typeIn K (.ref f)=some (.type "function")) (hl:us.length<=sizeLine)
  (k:wpAny (model prog w) A (call (.ref f) (.ref (h.objs.size+1) :: us)) (fun r s'=>r= .none/\Q (.done (.ret (.ref (h.objs.size+1)))) s') E
   ⟨(h.push {cls:=.type "tuple",data:=.seq us.toArray}).push (dH D none #[.ref h.objs.size,.none,.none,.none,.bool false,.none]),g,d,t,os⟩):
  wpAny (model prog w) A (Builtin.«type.__call__» ⟨.ref D :: us,[]⟩) Q E ⟨h,g,d,t,os⟩:=by
 obtain ⟨nm,qn,N,bs,bm,sn,sub,ab,col,dd,k0,k1,k2,k3,k5,lk0,tl⟩:=rG hx
 have T:=tl h X
 have hD:=X _ _ lk0
 have L3:=PySem.W.looks_findIn (M:=model prog w) X hi
 have L4:=PySem.W.bind_fn (M:=model prog w) X (.ref (h.objs.size+1)) hf
 repeat (first | with_reducible refine wpAny_loadPart_at hD ?_ | with_reducible refine wpAny_madeBy_exc hD ?_ | wp_step)
 refine codeAny_call_builtin_code (Code.quiet_builtin _ F.excBase_ValueError.quiet) (wpAny_check_new_subT F.excBase_ValueError T hD (codeAny_exc_new_subT F.excBase_ValueError T hD ?_ hl))
 show wpAny _ _ _ _ _ _
 have keep:∀ b o,h.get? b=some o->((h.push {cls:=.type "tuple",data:=.seq us.toArray}).push (dH D none #[.ref h.objs.size,.none,.none,.none,.bool false,.none])).get? b=some o:=fun b o q=>Heap.get?_push_of_some _ (Heap.get?_push_of_some _ q)
 have gx:((h.push {cls:=.type "tuple",data:=.seq us.toArray}).push (dH D none #[.ref h.objs.size,.none,.none,.none,.bool false,.none])).get? (h.objs.size+1)=some (dH D none #[.ref h.objs.size,.none,.none,.none,.bool false,.none]):=by
  have:=Heap.get?_push_size (h.push {cls:=.type "tuple",data:=.seq us.toArray}) (o:=dH D none #[.ref h.objs.size,.none,.none,.none,.bool false,.none]) rfl
  rwa [Heap.size_push] at this
 have hD1:=keep _ _ hD
 have M3:=L3.keeps keep
 have M4:=L4.keeps keep
 have cD:(Value.ref D :: bm).contains (.ref D)=true:=by simp
 unfold dH at gx M3 M4 hD1 k
 unfold isInstance
 repeat (first | with_reducible refine wpAny_loadPart_at gx ?_ | (with_reducible refine wpAny_isSubtype_exc hD1 ?_;rw [cD]) | wp_step)
 show wpAny _ _ (typeLookup (.ref D) _) _ _ _
 refine M3.at ?_
 refine wpAny_holding (wpAny_bind (M4.at ?_))
 dsimp only
 refine wpAny_bind (wpAny_mono k (fun r s' hr=>?_) fun _ _ z=>z)
 obtain ⟨rfl,z⟩:=hr
 wp_walk
 exact z
theorem KC {s:Shared} {us:List Value} {Q:Value->Shared->Prop} (X:K.In s.heap) (hx:MN K D=true)
  (hi:PySem.W.findIn K (.ref D) "__init__"=some (some (.ref f))) (hf:PySem.W.typeIn K (.ref f)=some (.type "function")) (hl:us.length<=sizeLine)
  (k:wpAny (model prog w) (A.under (.builtin "type.__call__" ⟨.ref D :: us,[]⟩)) (call (.ref f) (.ref (s.heap.objs.size+1) :: us)) (fun r s'=>r= .none/\Q (.ref (s.heap.objs.size+1)) s') E
   {s with heap:=(s.heap.push {cls:=.type "tuple",data:=.seq us.toArray}).push (dH D none #[.ref s.heap.objs.size,.none,.none,.none,.bool false,.none])}):
  wpAny (model prog w) A (call (.ref D) us) Q E s:=by
 obtain ⟨h,g,d,t,os⟩:=s
 obtain ⟨nm,qn,N,bs,bm,sn,sub,ab,col,dd,k0,k1,k2,k3,k5,lk0,tl⟩:=rG hx
 have hD:=X _ _ lk0
 have f1:=tc_lookup
 have f2:=tc_bind (.ref D)
 have hT:(⟨h,g,d,t,os⟩:Shared).TypeIs (.ref D) "type":=⟨_,hD,rfl⟩
 refine wpAny_call (codeAny_of_tree ?_)
 show wpAny _ _ (callAny (.ref D) _) _ _ _
 repeat (any_goals (first | assumption | with_reducible refine wpAny_loadPart_at hD ?_ | wp_step))
 refine ⟨rfl,codeAny_call_builtin_at (Code.quiet_builtin _ (by trivial)) entry_typeCall (wpAny_check_type_call_sub hD (vZ X hx hi hf hl ?_))⟩
 exact k
end
def o7 (x C dx:Addr):HO:=.ext fun h=>∃ vs,h.get? x=some (dH C (some dx) vs)/\vs[2]?=some .none
def iY (x C:Addr):HO:=.ext fun h=>∃ t,h.get? x=some (dH C none #[.ref t,.none,.none,.none,.bool false,.none])
theorem yr {P:Program} {w:World} {H:Hp} {h:Heap} {x C dx:Addr} {vs:Array Value} (e:h.get? x=some (dH C (some dx) vs)) (h2:vs[2]?=some .none):ObjOk P w H h x (o7 x C dx):=
 ⟨⟨vs,e,h2⟩,⟨_,e⟩,fun h1 h2 ⟨vs,e,z⟩ k=>⟨vs,k _ e,z⟩⟩
theorem Fp {P:Program} {w:World} {H:Hp} {h:Heap} {x C dx:Addr} (ok:HOk P w H h) (e:H x=some (o7 x C dx)):∃ vs,h.get? x=some (dH C (some dx) vs)/\vs[2]?=some .none:=(ok _ _ e).1
structure Head (X:Cx) (pins:List (Addr×Obj)) (H:Hp) (x C dx T:Addr) (h:Heap):Prop where
 obj:∃ vs,h.get? x=some (dH C (some dx) vs)/\vs[1]?=some (.ref T)/\vs[2]?=some .none
 tb:zE h T
 fp:kW X pins H T
 tr:H x=some (o7 x C dx)
theorem Head.ne {X:Cx} {pins:List (Addr×Obj)} {H:Hp} {x C dx T:Addr} {h:Heap} (a:Head X pins H x C dx T h):T≠x:=fun z=>by
 have:=a.fp.1
 rw [z,a.tr] at this;cases this
def Fly (X:Cx) (pins:List (Addr×Obj)) (H:Hp) (x C dx:Addr) (h:Heap):Prop:=
 H x=some (o7 x C dx)/\((∃ vs,h.get? x=some (dH C (some dx) vs)/\vs[1]?=some .none/\vs[2]?=some .none)\/∃ T,Head X pins H x C dx T h)
section
variable {X:Cx} {pins:List (Addr×Obj)} {U:St} {H:Hp} {s:Shared} {x C dx:Addr} {h':Heap} {T:Addr} {hd:Option Addr}
theorem Inv.noted {fs:List Addr} (I:Inv X pins U H s) (hx:H x=some (o7 x C dx)) (hh:∀ b,hd=some b->kW X pins H b) (hf:∀ b∈fs,b∈X.env.locals :: X.fs) (N:yq fs x C (some dx) hd s.heap h' T):Inv X pins U H {s with heap:=h'}:=by
 obtain ⟨m,⟨oL,esL,epL,hoL,rL⟩,_⟩:=id I.loc
 have fsF:∀ b∈fs,H b=none:=fun b hb=>by
  rcases List.mem_cons.mp (hf b hb) with e | hb
  ·rw [e];exact I.free
  ·obtain ⟨_,o,ho,_⟩:=I.ok.funs.mem hb
   exact I.base.free b o ho (I.ok.frf b hb) fun z=>I.ok.exfs b z hb
 have nx:∀ b,H b=none->b≠x:=fun b n z=>by rw [z,hx] at n;cases n
 have hdF:∀ b,hd=some b->H b=none:=fun b e=>(hh b e).1
 have mem:∀ b,b ∉ hd.toList->some b≠hd:=fun b nb z=>nb (by rw [← z];simp)
 refine I.step (g':=s.gens) (d':=s.drawn) (t':=s.toks) (ch:=hd.toList) (fun b hb=>?_) (fun b o hL hb hc e n=>?_) (fun b o hL hb hc e n=>?_) (fun _ _ _ _ n=>n) (fun b o hc e=>?_) (fun _ _ e=>e) (fun _ _ _ e=>e) (fun b ps e=>⟨#[],by rw [e];simp⟩) (fun m hm=>?_) (fun b u e=>?_) I.bare
 ·have e:hd=some b:=by cases hd <;> simp_all
  obtain ⟨_,a2,_,a4,a5,a6⟩:=hh b e
  exact ⟨a4,a2,a5,a6⟩
 ·refine N.keep b o (nx b n) (mem b hc) (fun z=>?_) e
  rcases List.mem_cons.mp (hf b z) with q | q
  ·exact hL q
  ·exact hb q
 ·exact N.slot b o (nx b n) (mem b hc) e
 ·by_cases q:b=x
  ·obtain ⟨vs,z,_⟩:=N.obj
   exact ⟨_,by rw [q];exact z⟩
  ·obtain ⟨sl,z⟩:=N.slot b o q (mem b hc) e
   exact ⟨_,z⟩
 ·obtain ⟨o,es,ep,ho,r⟩:=hm
  obtain ⟨sl,z⟩:=N.slot _ o (nx _ I.free) (fun q=>(hh _ q.symm).2.1 rfl) ho
  exact ⟨_,es,ep,z,r⟩
 ·by_cases q:b=x
  ·subst q
   rw [hx] at e;cases e
   obtain ⟨vs,z,_,z2⟩:=N.obj
   exact yr z z2
  ·refine (I.hok b u e).stay (fun c v hc z=>?_) (fun _ q=>q) fun _ _ q=>q
   have tc:∃ u,H c=some u:=by
    rcases hc with rfl | hc
    ·exact ⟨_,e⟩
    ·exact ⟨_,hc⟩
   obtain ⟨uc,tc⟩:=tc
   refine N.keep c v (fun zz=>?_) (fun zz=>?_) (fun zz=>?_) z
   ·rcases hc with rfl | hc
    ·exact q zz
    ·rw [zz,hx] at hc;cases hc
   ·rw [hdF c zz.symm] at tc;cases tc
   ·rw [fsF c zz] at tc;cases tc
theorem v4 {A:Around} {E:Value->Shared->Prop} {Q:Unit->Shared->Prop} (I:Inv X pins U H s) (hst:X.stack=X.env :: X.outer) (hfr:X.env.frame=some X.env.locals) (hA:A.frames=some X.stack) (F:Fly X pins H x C dx s.heap)
  (k:∀ h' T,Inv X pins U H {s with heap:=h'}->Head X pins H x C dx T h'->Q () {s with heap:=h'}):wpAny (model X.prog X.w) A (noteFrame (.ref x) X.env) Q E s:=by
 have ff:s.heap.FunFrames X.base (X.env :: X.outer):=hst ▸ I.stack
 have sub:∀ b∈Fo (X.env :: X.outer),b∈X.env.locals :: X.fs:=fun b hb=>I.stkSub b (by rw [hst];exact hb)
 have nf:∀ b u,H b=some u->b ∉ Fo (X.env :: X.outer):=fun b u e z=>by
  rw [I.stkFree b (by rw [hst];exact z)] at e;cases e
 obtain ⟨hx,⟨vs,e,h1⟩ | ⟨T0,hT⟩⟩:=F
 ·refine Oq (hst ▸ hA) ff hfr e h1 (nf x _ hx) fun h' T N=>?_
  have J:=I.noted hx (fun b z=>by cases z) sub N
  refine k h' T J ⟨N.obj,N.tb,?_,hx⟩
  have zT:s.heap.objs.size<=T:=by rcases N.new with z | z;exact z;cases z
  exact I.fpOk zT (I.hok.fresh zT)
 ·obtain ⟨vs,e,h1⟩:=hT.obj
  refine Ot (hst ▸ hA) ff hfr e h1 hT.tb hT.ne (nf x _ hx) (fun z=>?_) fun h' T N=>?_
  ·rcases List.mem_cons.mp (sub T0 z) with q | q
   ·exact hT.fp.2.1 q
   ·exact hT.fp.2.2.1 q
  ·have J:=I.noted hx (fun b z=>by cases z;exact hT.fp) sub N
   refine k h' T J ⟨N.obj,N.tb,?_,hx⟩
   rcases N.new with z | z
   ·exact I.fpOk z (I.hok.fresh z)
   ·cases z;exact hT.fp
theorem rH {A:Around} {E:Value->Shared->Prop} {Q:Unit->Shared->Prop} (I:Inv X pins U H s) (F:Head X pins H x C dx T s.heap)
  (k:∀ h',Inv X pins U H {s with heap:=h'}->Head X pins H x C dx T h'->Q () {s with heap:=h'}):wpAny (model X.prog X.w) A (setFlight (.ref x) none) Q E s:=by
 obtain ⟨vs,e,h1⟩:=F.obj
 refine Ou e h1 F.tb F.ne fun h' N=>?_
 exact k h' (I.noted F.tr (fun b z=>by cases z;exact F.fp) (fun b z=>absurd z (by simp)) N) ⟨N.obj,N.tb,F.fp,F.tr⟩
def KD (P:Program) (w:World):zZ:=fun outer H s E e s'=>∃ x C dx T H',e= .ref x/\s'.os=s.os/\AllBare s'.gens/\Un (frs outer) [] H H' s.heap s'.heap/\HOk P w H' s'.heap/\H' x=some (o7 x C dx)/\H' T=none/\s.heap.objs.size<=T/\
 (∃ vs,s'.heap.get? x=some (dH C (some dx) vs)/\vs[1]?=some (.ref T)/\vs[2]?=some .none)/\zE s'.heap T/\E (.ref C) (some x) H'
def XE (X:Cx) (pins:List (Addr×Obj)) (R:St->XK) (e:Value) (s':Shared):Prop:=∃ x C dx U H',e= .ref x/\Inv X pins U H' s'/\Fly X pins H' x C dx s'.heap/\R U (.ref C) (some x) H'
theorem Fq {R:St->XK} {e:Value} {s':Shared} (I:Inv X pins U H s) (c:KD X.prog X.w X.stack H s (R U) e s'):XE X pins R e s':=by
 obtain ⟨x,C,dx,T,H',rfl,os,bare,un,hok,tx,tT,zT,ob,tb,r⟩:=c
 obtain ⟨hh,g,d,t,os'⟩:=s'
 obtain rfl:os'=s.os:=os
 have J:=I.call (h':=hh) (g':=g) (d':=d) (t':=t) (ch:=[]) un hok bare (fun b z=>absurd z (by simp))
 exact ⟨x,C,dx,U,H',rfl,J,⟨tx,.inr ⟨T,ob,tb,I.fpOk zT tT,tx⟩⟩,r⟩
def pN (X:Cx) (R:St->XK):Prop:=∀ (pins:List (Addr×Obj)) (e:Value) (s':Shared),XE X pins R e s'->X.xe e s'
end
theorem bc {P:Program} {w:World} {K:W.Frag} {mg:Str->Option Value} {base:Heap} {N:List Str} {qual:Str} {scope:Scope} {f:Addr} {cd:Value} {A:Around} {outer:List Env} {s:Shared} {H:Hp} {E:XK}:
  pN (m5 (KD P w) P w K mg base N qual scope f cd A outer s H E) (fun _=>E):=by
 rintro pins e s' ⟨x,C,dx,U,H',he,I,F,r⟩
 subst he
 show wpAny _ _ (leaving _ _) _ _ _
 unfold leaving
 refine wpAny_bind (v4 (X:=m5 (KD P w) P w K mg base N qual scope f cd A outer s H E) I rfl rfl I.ok.frames F fun h1 T J1 F1=>?_)
 refine rH (X:=m5 (KD P w) P w K mg base N qual scope f cd A outer s H E) J1 F1 fun h2 J2 F2=>?_
 refine ⟨x,C,dx,T,H',rfl,J2.os,J2.bare,J2.base,J2.hok,F2.tr,F2.fp.1,?_,F2.obj,F2.tb,r⟩
 rcases F2.fp.2.2.2.1 with z | z
 ·exact absurd (show T∈([]:List Addr) from z) (by simp)
 ·exact z
def jC (d:Addr) (fs:List (Str×V)):HO:=.ext fun h=>∃ mA,h.Ns1 d mA/\∀ f,RelO (fs.lookup f) (mA f)
theorem uT {P:Program} {w:World} {H:Hp} {h:Heap} {d:Addr} {fs:List (Str×V)} {mA:Str->Option Value} (n:h.Ns1 d mA) (r:∀ f,RelO (fs.lookup f) (mA f)):ObjOk P w H h d (jC d fs):=by
 refine ⟨⟨mA,n,r⟩,let ⟨o,_,_,e,_⟩:=n;⟨o,e⟩,fun h1 h2 ⟨m,n,r⟩ k=>⟨m,?_,r⟩⟩
 obtain ⟨o,es,ep,e,q⟩:=n
 exact ⟨o,es,ep,k _ e,q⟩
theorem uU {P:Program} {w:World} {H:Hp} {h:Heap} {d:Addr} {fs:List (Str×V)} (ok:HOk P w H h) (e:H d=some (jC d fs)):∃ mA,h.Ns1 d mA/\∀ f,RelO (fs.lookup f) (mA f):=(ok _ _ e).1
def fu (x C d:Addr):HO:=.ext fun h=>∃ t,h.get? x=some (dH C (some d) #[.ref t,.none,.none,.none,.bool false,.none])
theorem zF {P:Program} {w:World} {H:Hp} {h:Heap} {x C d t:Addr} (e:h.get? x=some (dH C (some d) #[.ref t,.none,.none,.none,.bool false,.none])):ObjOk P w H h x (fu x C d):=
 ⟨⟨t,e⟩,⟨_,e⟩,fun h1 h2 ⟨t,e⟩ k=>⟨t,k _ e⟩⟩
theorem o8 {P:Program} {w:World} {H:Hp} {h:Heap} {x C d:Addr} (ok:HOk P w H h) (e:H x=some (fu x C d)):∃ t,h.get? x=some (dH C (some d) #[.ref t,.none,.none,.none,.bool false,.none]):=(ok _ _ e).1
def dY:List Value->Bool
 | [.type a,.type b,.type c,.type d]=>a == "ValueError" && b == "Exception" && c == "BaseException" && d == "object"
 | .ref _ :: r=>dY r
 | _=>false
theorem pP {l:List Value} (e:dY l=true):(∃ a r,l= .ref a :: r/\dY r=true)\/l=Ov:=by
 unfold dY at e
 split at e
 ·simp only [Bool.and_eq_true,beq_iff_eq] at e
  obtain ⟨⟨⟨rfl,rfl⟩,rfl⟩,rfl⟩:=e
  exact .inr rfl
 ·exact .inl ⟨_,_,rfl,e⟩
 ·cases e
theorem pQ (self:Value):∀ (l:List Value),dY l=true->refuseLoop self "__setattr__" l=pure ()
 | [],e=>by cases e
 | v :: r,e=>by
  rcases pP e with ⟨a,r',q,e'⟩ | q
  ·cases q
   rw [refuseLoop_ref]
   exact pQ self r e'
  ·rw [q]
   exact F.store_ValueError.passes self
theorem rJ:∀ (l:List Value),dY l=true->l.contains (.type "object")=true/\l.contains (.type "BaseException")=true
 | [],e=>by cases e
 | v :: r,e=>by
  rcases pP e with ⟨a,r',q,e'⟩ | q
  ·cases q
   obtain ⟨h1,h2⟩:=rJ r e'
   exact ⟨by rw [List.contains_cons,h1,Bool.or_true],by rw [List.contains_cons,h2,Bool.or_true]⟩
  ·rw [q]
   decide
def KH (K:W.Frag) (C:Addr):Bool:=MN K C && (PySem.W.clsIn K C).any (fun cd=>dY cd.mro && cd.hasDict) && PySem.W.findIn K (.ref C) "__setattr__" == some (some (.builtin "object.__setattr__")) &&
 PySem.W.findIn K (.ref C) "__getattribute__" == some (some (.builtin "BaseException.__getattribute__")) && PySem.W.findIn K (.ref C) "__getattr__" == some none
structure XCls (K:W.Frag) (C:Addr):Prop where
 xi:MN K C=true
 ov:∃ cd,PySem.W.clsIn K C=some cd/\dY cd.mro=true/\cd.hasDict=true
 sa:PySem.W.findIn K (.ref C) "__setattr__"=some (some (.builtin "object.__setattr__"))
 ga:PySem.W.findIn K (.ref C) "__getattribute__"=some (some (.builtin "BaseException.__getattribute__"))
 gh:PySem.W.findIn K (.ref C) "__getattr__"=some none
theorem Ft {K:W.Frag} {C:Addr} (h:KH K C=true):XCls K C:=by
 unfold KH at h
 simp only [Bool.and_eq_true,beq_iff_eq] at h
 obtain ⟨⟨⟨⟨h1,h2⟩,h3⟩,h4⟩,h5⟩:=h
 obtain ⟨cd,a,b⟩:=PySem.W.any_some h2
 simp only [Bool.and_eq_true] at b
 exact ⟨h1,⟨cd,a,b.1,b.2⟩,h3,h4,h5⟩
theorem Fv {l:List Value} (e:dY l=true):l.isEmpty=false:=by
 cases l with
 | nil=>cases e
 | cons _ _=>rfl
section
variable {prog:Program} {w:World} {A:Around} {s:Shared} {K:W.Frag} {x C:Addr} {R:Result->Shared->Prop}
theorem XCls.mro {c:Value} {b:Bool} (k:XCls K C) (h:∀ cd,PySem.W.clsIn K C=some cd->dY cd.mro=true->cd.mro.contains c=b):PySem.W.mroIn K C c=some b:=by
 obtain ⟨cd,a,o,_⟩:=k.ov
 unfold PySem.W.mroIn
 rw [a,Option.bind_some,if_neg (by rw [Fv o];decide),h cd a o]
theorem XCls.isObj (k:XCls K C):PySem.W.mroIn K C (.type "object")=some true:=k.mro fun cd _ o=>(rJ _ o).1
theorem XCls.isExc (k:XCls K C):PySem.W.mroIn K C (.type "BaseException")=some true:=k.mro fun cd _ o=>(rJ _ o).2
theorem HH {ox:Obj} {od:Option Obj} {name:Str} {tk:Tok} {v:Value} (X:K.In s.heap) (I:PySem.W.InstAt s.heap x ox C od) (c:XCls K C) (ht:jo K C name)
  (h:wpAny (model prog w) A.in1 (Builtin.ObjectAttr.storeInOwnDict (.ref x) (.ref C) (.str name tk) name v false)
   (fun fin s'=>match fin with | .done f=>R (.ok f) s' | .again c'=>c'.quiet=true/\codeAny (model prog w) A c' R s') (fun e s'=>R (.error e) s') s):
  codeAny (model prog w) A (.call (.builtin "object.__setattr__") ⟨[.ref x,.str name tk,v],[]⟩) R s:=by
 obtain ⟨cd,hc,ho,_⟩:=c.ov
 have sub:PySem.W.Looks (model prog w) s.heap (isInstance (.ref x) (.type "object")) true:=I.type.andThen (PySem.W.looks_mroIn X c.isObj)
 refine codeAny_call_builtin F.store_object.slot.plain F.store_object.entry (@PySem.W.check_slot (model prog w) _ _ s "object.__setattr__" "object" "__setattr__" (.ref x) [.str name tk,v] [] _ F.store_object.kind F.store_object.split sub (F.store_object.args (.ref x) (.str name tk) v) ?_)
 have hm:PySem.W.Looks (model prog w) s.heap (mroOf (.ref C)) cd.mro:=(PySem.W.looks_clsIn X hc).andThen .now
 have L3:PySem.W.Looks (model prog w) s.heap (Builtin.ObjectAttr.storeTaker? none) none:=.now
 rw [PySem.W.osa_eq,refuse_eq]
 refine wpAny_bind (wpAny_bind (I.type.here (wpAny_bind (hm.here ?_))))
 rw [pQ _ _ ho]
 refine wpAny_pure (wpAny_bind (I.type.here (wpAny_bind ((PySem.W.looks_findIn X ht).here (wpAny_bind (L3.here ?_))))))
 exact h
end
theorem BZ {H:Hp} {d x:Addr} {a b c:HO} (n:d≠x):upd (upd (upd H d a) x b) d c=upd (upd H x b) d c:=by
 funext y
 unfold upd
 by_cases h:y=d
 ·simp [h]
 ·simp [h]
section
variable {X:Cx} {pins:List (Addr×Obj)} {U:St} {H:Hp} {s:Shared} {x C d:Addr} {fs:List (Str×V)} {f:Str} {v y:V} {u:Value} {A:Around} {E:Value->Shared->Prop}
theorem Ow {Q:Unit->Shared->Prop} (I:Inv X pins U H s) (e:H x=some (iY x C)) (c:XCls X.K C) (n:jo X.K C f) (ry:RelV y u)
  (h:∀ s' d,H d=none->d≠x->Inv X pins U (upd (upd H x (fu x C d)) d (jC d [(f,y)])) s'->Q () s'):wpAny (model X.prog X.w) A (setAttr (.ref x) f u) Q E s:=by
 obtain ⟨⟨t,hx⟩,-,-⟩:ObjOk X.prog X.w H s.heap x (iY x C):=I.hok x _ e
 obtain ⟨cd,hc,ho,hd⟩:=c.ov
 have J:PySem.W.InstAt s.heap x (dH C none #[.ref t,.none,.none,.none,.bool false,.none]) C none:=⟨hx,rfl,rfl,True.intro⟩
 refine PySem.W.set_plain I.kIn J c.sa (HH (s:={s with toks:=s.toks+1}) I.kIn J c n ?_)
 refine wpAny_bind (wpAny_pure (wpAny_bind (wpAny_bind (wpAny_loadPart hx (wpAny_bind ((PySem.W.looks_clsIn (M:=model X.prog X.w) I.kIn hc).here (s:={s with toks:=s.toks+1}) ?_))))))
 rw [hd]
 have hp:s.heap.objs.size≠x:=Nat.ne_of_gt (Heap.lt_size hx)
 have hx1:(s.heap.push {cls:=.type "dict",data:=.dict #[]}).get? x=some (dH C none #[.ref t,.none,.none,.none,.bool false,.none]):=Heap.get?_push_of_some _ hx
 have d1:(s.heap.push {cls:=.type "dict",data:=.dict #[]}).get? s.heap.objs.size=some {cls:=.type "dict",data:=.dict #[]}:=Heap.get?_push_size _ rfl
 have n1:∀ {hh:Heap},hh.get? s.heap.objs.size=some {cls:=.type "dict",data:=.dict #[]}->hh.Ns1 s.heap.objs.size (fun _=>none):=fun q=>Heap.Ns1.of_empty ⟨_,#[],_,q,rfl,fun e he=>absurd he (by simp),fun _=>rfl⟩
 have I1:Inv X pins U (upd H s.heap.objs.size (jC s.heap.objs.size [])) {s with heap:=s.heap.push {cls:=.type "dict",data:=.dict #[]},toks:=s.toks+1}:=
  I.laid (t':=s.toks+1) (fun b o q=>Heap.get?_push_of_some _ q) (Nat.le_refl _) (uT (n1 d1) fun g=>True.intro)
 refine wpAny_bind (wpAny_alloc' ?_)
 refine wpAny_bind (wpAny_update' hx1 ?_)
 have hx2:=Heap.get?_update_self (fun o:Obj=>({o with dict:=some s.heap.objs.size}:Obj)) hx1 rfl
 have ot:∀ b,b≠x->((s.heap.push {cls:=.type "dict",data:=.dict #[]}).update x fun o=>{o with dict:=some s.heap.objs.size}).get? b=(s.heap.push {cls:=.type "dict",data:=.dict #[]}).get? b:=fun b hb=>Heap.get?_update_other _ _ (Ne.symm hb)
 have e1:upd H s.heap.objs.size (jC s.heap.objs.size []) x=some (iY x C):=(aG (Ne.symm hp)).trans e
 have I2:Inv X pins U (upd (upd H s.heap.objs.size (jC s.heap.objs.size [])) x (fu x C s.heap.objs.size)) {s with heap:=(s.heap.push {cls:=.type "dict",data:=.dict #[]}).update x fun o=>{o with dict:=some s.heap.objs.size},toks:=s.toks+1}:=
  I1.write (t':=s.toks+1) (x:=x) (e:=x) (by rw [e1];exact True.intro) (.inl rfl) (fun b o hb q=>(ot b hb).trans q) ⟨_,hx2⟩ (zF hx2)
 refine wpAny_pure (wpAny_bind (wpAny_pure (wpAny_bind ?_)))
 refine wpAny_nsSet1 (n1 ((ot _ hp).trans d1)) fun h' hn' hs=>?_
 obtain ⟨oD,esD,epD,hoD,hdD,hcD⟩:=hn'.count (PySem.Within.cons f u PySem.Within.nil)
 refine wpAny_bind (wpAny_lookBehind hoD (by rw [hdD];exact pastItsLine_dict (Nat.le_trans hcD (by rw [List.length_cons,List.length_nil,sizeLine_eq];omega))) ?_)
 refine wpAny_pure (h _ s.heap.objs.size (I.hok.fresh (Nat.le_refl _)) hp ?_)
 rw [← BZ (a:=jC s.heap.objs.size []) hp]
 refine I2.write (x:=s.heap.objs.size) (e:=s.heap.objs.size) (by rw [aG hp,au];exact True.intro) (.inl rfl) (fun b o hb q=>(hs.2 b hb).trans q) ⟨_,hoD⟩ (uT hn' fun g=>?_)
 by_cases q:g=f
 ·have qb:(g == f)=true:=beq_iff_eq.mpr q
  simp only [List.lookup,qb,if_pos q]
  exact ry
 ·have qb:(g == f)=false:=beq_eq_false_iff_ne.mpr q
  simp only [List.lookup,qb,if_neg q]
  exact True.intro
theorem Fw {h:Heap} {P:Program} {w:World} (ok:HOk P w H h) (e:H x=some (fu x C d)) (e2:H d=some (jC d fs)):d≠x:=fun z=>by
 subst z
 obtain ⟨t,a⟩:=o8 ok e
 obtain ⟨mA,⟨o,es,ep,b,q,_⟩,_⟩:=uU ok e2
 rw [a] at b;cases b;cases q
theorem Ox {Q:Unit->Shared->Prop} (I:Inv X pins U H s) (e:H x=some (fu x C d)) (e2:H d=some (jC d fs)) (hl:fs.length < 1000) (c:XCls X.K C) (n:jo X.K C f) (ry:RelV y u)
  (h:∀ s',Inv X pins U (upd H d (jC d (yV f y fs))) s'->Q () s'):wpAny (model X.prog X.w) A (setAttr (.ref x) f u) Q E s:=by
 have ne:=Fw I.hok e e2
 obtain ⟨vs,hx⟩:=o8 I.hok e
 obtain ⟨mA,nA,rA⟩:=uU I.hok e2
 obtain ⟨cd,hc,ho,hd⟩:=c.ov
 have J:PySem.W.InstAt s.heap x (dH C (some d) #[.ref vs,.none,.none,.none,.bool false,.none]) C (some (Classical.choose nA)):=⟨hx,rfl,rfl,let ⟨_,_,q,_⟩:=Classical.choose_spec nA;q⟩
 refine PySem.W.set_plain I.kIn J c.sa (HH (s:={s with toks:=s.toks+1}) I.kIn J c n ?_)
 refine wpAny_bind (wpAny_pure (wpAny_bind (wpAny_bind (wpAny_loadPart hx (wpAny_bind ((PySem.W.looks_clsIn (M:=model X.prog X.w) I.kIn hc).here (s:={s with toks:=s.toks+1}) ?_))))))
 rw [hd]
 refine wpAny_pure (a:=some d) (wpAny_bind (wpAny_pure (wpAny_bind ?_)))
 refine wpAny_nsSet1 (s:={s with toks:=s.toks+1}) nA fun h' hn' hs=>?_
 have wi:PySem.Within mA (fs.map (·.1)):=fun z hz=>by
  have r:=rA z
  cases q:fs.lookup z with
  | none=>rw [q] at r;exact absurd (RelO.none_of r) hz
  | some a=>exact List.mem_map.mpr ⟨(z,a),PySem.mem_of_lookup q,rfl⟩
 obtain ⟨oD,esD,epD,hoD,hdD,hcD⟩:=hn'.count (PySem.Within.cons f u wi)
 refine wpAny_bind (wpAny_lookBehind hoD (by rw [hdD];exact pastItsLine_dict (Nat.le_trans hcD (by rw [List.length_cons,List.length_map,sizeLine_eq];omega))) ?_)
 refine wpAny_pure (h _ ?_)
 refine I.write (x:=d) (e:=d) (by rw [e2];exact True.intro) (.inl rfl) (fun b o hb q=>(hs.2 b hb).trans q) ⟨_,hoD⟩ (uT hn' fun g=>?_)
 rw [pI]
 by_cases q:g=f
 ·rw [if_pos q,if_pos q];exact ry
 ·rw [if_neg q,if_neg q];exact rA g
theorem getx {b:Bool} {Q:Value->Shared->Prop} (I:Inv X pins U H s) (e:H x=some (o7 x C d)) (e2:H d=some (jC d fs)) (c:XCls X.K C) (n:jo X.K C f) (l:fs.lookup f=some v)
  (h:∀ u s',Inv X pins U H s'->RelV v u->Q u s'):wpAny (model X.prog X.w) A (getAttr (.ref x) f b) Q E s:=by
 obtain ⟨vs,hx,_⟩:=Fp I.hok e
 obtain ⟨mA,nA,rA⟩:=uU I.hok e2
 obtain ⟨cd,hc,ho,hd⟩:=c.ov
 obtain ⟨od,hod,lk⟩:=tR nA
 obtain ⟨u,hu,ru⟩:=RelO.some_of (v:=v) (o:=mA f) (by rw [← l];exact rA f)
 have J:PySem.W.InstAt s.heap x (dH C (some d) vs) C (some od):=⟨hx,rfl,rfl,hod⟩
 have hf:PySem.W.findObj X.K C (some od) f=some (.value u):=PySem.W.findObj_own (by unfold PySem.W.hasDictIn;rw [hc];exact hd) n rfl (by rw [lk,hu])
 have Z:=h u {s with toks:=s.toks+1} (I.tok _) ru
 have KI:=I.kIn
 obtain ⟨hh,g,dr,t,os⟩:=s
 have L0:=J.type (M:=model X.prog X.w)
 have L1:=PySem.W.looks_findIn (M:=model X.prog X.w) KI c.ga
 have L2:=PySem.W.looks_findIn (M:=model X.prog X.w) KI c.gh
 have L3:=PySem.W.looks_find (M:=model X.prog X.w) KI J hf
 have sub:PySem.W.Looks (model X.prog X.w) hh (isInstance (.ref x) (.type "BaseException")) true:=L0.andThen (PySem.W.looks_mroIn KI c.isExc)
 have hb0:(onTheHeap (Value.ref C) && Value.builtin "BaseException.__getattribute__" == Value.builtin "object.__getattribute__")=false:=by
  rw [show (Value.builtin "BaseException.__getattribute__" == Value.builtin "object.__getattribute__")=false from by trivial,Bool.and_false]
 unfold getAttr getAttrBy
 refine wpAny_bind (wpAny_mkText (wpAny_holding (wpAny_bind (L0.at (wpAny_bind (L1.at ?_))))))
 dsimp only
 rw [hb0]
 rw [if_neg Bool.false_ne_true]
 unfold getAttrByItsOwn hookBefore
 refine wpAny_bind ?_
 rw [if_pos (show onTheHeap (Value.ref C)=true from rfl)]
 refine L2.at ?_
 refine wpAny_bind (wpAny_attempt (wpAny_holding ?_))
 have hb1:(b && onTheHeap (Value.builtin "BaseException.__getattribute__"))=false:=by cases b <;> rfl
 unfold callGetattribute
 rw [hb1,if_neg Bool.false_ne_true]
 unfold boundAndCalled
 refine wpAny_bind (wpAny_of_eq (F.attrBase_ValueError.ga.bind (.ref x)) ?_)
 refine wpAny_call (codeAny_call_builtin F.attrBase_ValueError.ga.plain F.entry_bexc_ga (@PySem.W.check_slot (model X.prog X.w) _ _ ⟨hh,g,dr,t+1,os⟩ "BaseException.__getattribute__" "BaseException" "__getattribute__" (.ref x) [.str f t] [] _ (by trivial) (by trivial) sub (F.args_bexc_ga (.ref x) (.str f t)) ?_))
 refine wpAny_bind (wpAny_pure (wpAny_bind (wpAny_pure (wpAny_bind (L0.at (wpAny_bind (L3.at ?_)))))))
 refine wpAny_pure ?_
 show wpAny _ _ (handedOut u) _ _ _
 rw [PySem.W.handedOut_of (yW ru)]
 exact wpAny_pure Z
end
def yt (K:W.Frag) (C:Addr):Bool:=KH K C && PySem.W.findIn K (.ref C) "__class__" == some (some (.builtin "object.__class__")) && PySem.W.specialIn K (.builtin "object.__class__") "__get__" == some (some (.builtin "getset_descriptor.__get__")) && PySem.W.takesIn K (.builtin "object.__class__") == some true
structure QF (K:W.Frag) (C:Addr):Prop where
 cls:XCls K C
 ca:PySem.W.findIn K (.ref C) "__class__"=some (some (.builtin "object.__class__"))
 cg:PySem.W.specialIn K (.builtin "object.__class__") "__get__"=some (some (.builtin "getset_descriptor.__get__"))
 ct:PySem.W.takesIn K (.builtin "object.__class__")=some true
theorem Ca {K:W.Frag} {C:Addr} (h:yt K C=true):QF K C:=by
 unfold yt at h
 simp only [Bool.and_eq_true,beq_iff_eq] at h
 exact ⟨Ft h.1.1.1,h.1.1.2,h.1.2,h.2⟩
def HJ (H:Hp) (x C:Addr) (fs:List (Str×V)):Prop:=∃ d,H x=some (o7 x C d)/\H d=some (jC d fs)
def lA (P:Program) (w:World) (K:W.Frag) (mg:Str->Option Value) (base:Heap) (k:Nat) (x:Str) (ps:List Str) (sp:Sp):Prop:=
 ∃ f fd,mg x=some (.ref f)/\PySem.W.keepIn K (.ref f)=true/\Binds K fd ps []/\oX P w K mg base (KD P w) k f fd ps sp
def xG (sp:Sp) (R:St->XK) (t:TA):TE:=fun U H Q=>t U H fun vs H1=>sp vs H1 Q (R U)
section
variable {X:Cx} {k:Nat} {f C:Addr} {fd:FuncData} {ps:List Str} {sp:Sp} {R:St->XK} {x:Str} {p pos:Pos} {e:Expr} {es:List Expr} {t:TA} {pins:List (Addr×Obj)} {U:St} {H:Hp} {s:Shared} {Q:VK} {us:List Value} {vs:List V}
theorem Fx (F:oX X.prog X.w X.K X.mg X.base (KD X.prog X.w) k f fd ps sp) (hr:Room k X.A) (hb:Binds X.K fd ps []) (hx:pN X R) (I:Inv X pins U H s) (r:Vals vs us) (h:sp vs H Q (R U)):
  wpAny (model X.prog X.w) X.A (call (.ref f) us) (EP X pins U Q) X.xe s:=by
 have hl:(us ++ []).length=ps.length:=by rw [List.append_nil,← r.length];exact F.len _ _ _ _ h
 have bd:=hb s us I.kIn hl
 rw [List.append_nil] at bd
 refine wpAny_call (codeAny_mono (F.run X.A X.stack s H ⟨us,[]⟩ us vs Q (R U) hr I.env0 bd r h) fun rr s' hq=>?_)
 cases rr with
 | error e=>exact hx pins e s' (Fq I hq)
 | ok fl=>
  cases fl with
  | ret u=>exact I.after hq
  | next=>exact False.elim hq
  | brk=>exact False.elim hq
  | cont=>exact False.elim hq
theorem Cd (F:lA X.prog X.w X.K X.mg X.base k x ps sp) (hr:Room k X.A) (hg:Gl X x) (hx:pN X R) (ha:PA X (e :: es) t) (hdb:(x == ("__debug__":Str))=false)
  (he:starEach (e :: es) X.env=(false,eval e X.env) :: starEach es X.env) (hpl:(backTo pos (starEach es X.env)).any (·.1)=false):PE X (.Call (.Name x p) (e :: es) [] pos) (xG sp R t):=by
 obtain ⟨f,fd,a,b,c,d⟩:=F
 intro pins s U H Q I h
 refine wpAny_Call_Name_kw (mY I hg a ?_ hdb)
 refine PySem.W.callWith_K (h₀:=X.base) I.ok.mod.kin b (dB (ha pos pins s U H _ I h) fun us s1 ⟨vs,H1,I1,r,q⟩=>⟨I1.kIn,?_⟩) he hpl
 exact Fx d hr c hx I1 r q
def Ce (K:W.Frag) (ta tv:TE) (f:Str):TS:=fun D U H=>tv U H fun y H1=>ta U H1 fun x H2=>∃ a C,x= .ref a/\XCls K C/\jo K C f/\
 ((H2 a=some (iY a C)/\∀ d,H2 d=none->d≠a->D.nx U (upd (upd H2 a (fu a C d)) d (jC d [(f,y)])))\/
  (∃ d fs,H2 a=some (fu a C d)/\H2 d=some (jC d fs)/\fs.length < 1000/\D.nx U (upd H2 d (jC d (yV f y fs)))))
theorem Fy {o value:Expr} {ta tv:TE} {fn:Str} {pos':Pos} (ha:PE X o ta) (hv:PE X value tv) (hs:swapsWith value (some (.Attribute o fn pos')) pos.line X.env=pure false):PS X (.Assign [.Attribute o fn pos'] value pos) (Ce X.K ta tv fn):=by
 intro pins s U H D I h
 refine plainObj_wpAny_Assign_Attribute (dB (hv pins s U H _ I h) fun u s1 ⟨y,H1,I1,ry,q⟩=>dB (ha pins s1 U H1 _ I1 q) fun ov s2 qq0=>?_) hs
 obtain ⟨x,H2,I2,rx,a,C,ex,c,n,q2⟩:=qq0
 subst ex
 obtain rfl:ov=Value.ref a:=rx
 rcases q2 with ⟨e,q2⟩ | ⟨d,fs,e,e2,hl,q2⟩
 ·exact Ow I2 e c n ry fun s3 d z1 z2 I3=>⟨U,_,I3,q2 d z1 z2⟩
 ·exact Ox I2 e e2 hl c n ry fun s3 I3=>⟨U,_,I3,q2⟩
def Cg (K:W.Frag) (ta:TE) (f:Str):TE:=fun U H Q=>ta U H fun x H1=>∃ a C fs v,x= .ref a/\HJ H1 a C fs/\XCls K C/\jo K C f/\fs.lookup f=some v/\Q v H1
theorem Fz {ta:TE} {fn:Str} (he:PE X e ta) (hb:attributeBase e fn X.env (eval e X.env)=eval e X.env):PE X (.Attribute e fn pos) (Cg X.K ta fn):=by
 intro pins s U H Q I h
 refine Ej hb (dB (he pins s U H _ I h) fun u s1 qq0=>?_)
 obtain ⟨x,H1,I1,rx,a,C,fs,v,ex,⟨d,e1,e2⟩,c,n,l,q⟩:=qq0
 subst ex
 obtain rfl:u=Value.ref a:=rx
 exact getx I1 e1 e2 c n l fun u2 s2 I2 ru=>⟨v,H1,I2,ru,q⟩
def uV (C:Addr) (fl:List Str):Sp:=fun vs H Q E=>∃ x ws,vs= .ref x :: ws/\ws.length=fl.length/\H x=some (iY x C)/\∀ d,H d=none->d≠x->Q .non (upd (upd H x (fu x C d)) d (jC d (fl.zip ws)))
structure KJ (P:Program) (w:World) (K:W.Frag) (mg:Str->Option Value) (base:Heap) (k:Nat) (x:Str) (C:Addr) (fl:List Str):Prop where
 at_:mg x=some (.ref C)
 cl:QF K C
 kp:PySem.W.keepIn K (.ref C)=true
 na:∀ f∈fl,jo K C f
 run:∃ f fd ps,PySem.W.findIn K (.ref C) "__init__"=some (some (.ref f))/\PySem.W.typeIn K (.ref f)=some (.type "function")/\Binds K fd ps []/\oX P w K mg base zj k f fd ps (uV C fl)
def xH (C:Addr) (fl:List Str) (R:St->XK) (t:TA):TS:=fun _ U H=>t U H fun vs H1=>vs.length=fl.length/\vs.length<=sizeLine/\∀ x H2,Same H1 H2->HJ H2 x C (fl.zip vs)->R U (.ref C) (some x) H2
theorem KN {Q:Value->Shared->Prop} {E:Value->Shared->Prop} {fl:List Str} (M:KJ X.prog X.w X.K X.mg X.base k x C fl) (hr:Room (k+1) X.A) (I:Inv X pins U H s) (r:Vals vs us) (hl:vs.length=fl.length) (hz:vs.length<=sizeLine)
  (q:∀ a d s',H a=none->H d=none->d≠a->Inv X pins U (upd (upd (upd H a (iY a C)) a (fu a C d)) d (jC d (fl.zip vs))) s'->Q (.ref a) s'):wpAny (model X.prog X.w) X.A (call (.ref C) us) Q E s:=by
 obtain ⟨f,fd,ps,hi,hf,hb,F⟩:=M.run
 refine KC I.kIn M.cl.cls.xi hi hf (by rw [← r.length];exact hz) ?_
 have I1:Inv X pins U H {s with heap:=s.heap.push {cls:=.type "tuple",data:=.seq us.toArray}}:=I.kept (t':=s.toks) fun b o e=>Heap.get?_push_of_some _ e
 have sz1:(s.heap.push {cls:=.type "tuple",data:=.seq us.toArray}).objs.size=s.heap.objs.size+1:=Heap.size_push _ _
 have hfr:H (s.heap.objs.size+1)=none:=I.hok.fresh (Nat.le_succ _)
 have gx:((s.heap.push {cls:=.type "tuple",data:=.seq us.toArray}).push (dH C none #[.ref s.heap.objs.size,.none,.none,.none,.bool false,.none])).get? (s.heap.objs.size+1)=some (dH C none #[.ref s.heap.objs.size,.none,.none,.none,.bool false,.none]):=by
  rw [← sz1];exact Heap.get?_push_size _ rfl
 have I2:Inv X pins U (upd H (s.heap.objs.size+1) (iY (s.heap.objs.size+1) C)) {s with heap:=(s.heap.push {cls:=.type "tuple",data:=.seq us.toArray}).push (dH C none #[.ref s.heap.objs.size,.none,.none,.none,.bool false,.none])}:=
  I1.laid (t':=s.toks) (fun b o e=>Heap.get?_push_of_some _ e) (by show (s.heap.push _).objs.size<=_;rw [sz1];exact Nat.le_refl _) ⟨⟨_,gx⟩,⟨_,gx⟩,fun h1 h2 ⟨t,z⟩ kk=>⟨t,kk _ z⟩⟩
 have r2:Vals (V.ref (s.heap.objs.size+1) :: vs) (Value.ref (s.heap.objs.size+1) :: us):=.cons rfl r
 have sp0:uV C fl (V.ref (s.heap.objs.size+1) :: vs) (upd H (s.heap.objs.size+1) (iY (s.heap.objs.size+1) C)) (fun v H2=>v= .non/\∃ d,H d=none/\d≠s.heap.objs.size+1/\H2=upd (upd (upd H (s.heap.objs.size+1) (iY (s.heap.objs.size+1) C)) (s.heap.objs.size+1) (fu (s.heap.objs.size+1) C d)) d (jC d (fl.zip vs))) E0:=
  ⟨_,_,rfl,hl,au,fun d hd ne=>⟨rfl,d,by rw [aG ne] at hd;exact hd,ne,rfl⟩⟩
 have hl2:((Value.ref (s.heap.objs.size+1) :: us) ++ []).length=ps.length:=by rw [List.append_nil,← r2.length];exact F.len _ _ _ _ sp0
 have bd:=hb _ (Value.ref (s.heap.objs.size+1) :: us) I2.kIn hl2
 rw [List.append_nil] at bd
 refine wpAny_call (codeAny_mono (F.run _ X.stack _ _ ⟨Value.ref (s.heap.objs.size+1) :: us,[]⟩ (Value.ref (s.heap.objs.size+1) :: us) _ _ E0 (hr.make C us []) (I2.env0.make C us []) bd r2 sp0) fun rr s' hq=>?_)
 cases rr with
 | error e=>exact False.elim hq
 | ok fl=>
  cases fl with
  | ret u=>
   obtain ⟨v,H',I3,rv,ev,d,hd,ne,eH⟩:=I2.after hq
   subst ev
   rw [eH] at I3
   exact ⟨rv,q _ d s' hfr hd ne I3⟩
  | next=>exact False.elim hq
  | brk=>exact False.elim hq
  | cont=>exact False.elim hq
theorem thrown {env:Env} {C:Addr} {Q:Flow->Shared->Prop} {m:Sem Value} (hc:X.calm=true) (c:QF X.K C) (hx:pN X R)
  (h:wpAny (model X.prog X.w) X.A m (fun v s1=>∃ x d H1,v= .ref x/\Inv X pins U H1 s1/\H1 x=some (fu x C d)/\R U (.ref C) (some x) (upd H1 x (o7 x C d))) X.xe s):
  wpAny (model X.prog X.w) X.A (raiseStmt env (some m) none) Q X.xe s:=by
 obtain ⟨nm,qn,N,bs,bm,sn,sub,ab,col,dd,k0,k1,k2,k3,k5,lk0,tl⟩:=rG c.cls.xi
 unfold raiseStmt
 refine wpAny_bind (dB h fun v s1 qq0=>?_)
 obtain ⟨x,d,H1,ev,I1,e1,r1⟩:=qq0
 subst ev
 have KI:=I1.kIn
 obtain ⟨t,he⟩:=o8 I1.hok e1
 have hh:X.A.handled=none:=I1.ok.hd hc
 have hcB:(Value.ref C :: bm).contains (.type "BaseException")=true:=by
  rw [List.contains_cons,(tl _ KI).hasType (show Ov.contains (.type "BaseException")=true from by decide)];rfl
 have fin:X.xe (.ref x) s1:=by
  have I2:Inv X pins U (upd H1 x (o7 x C d)) s1:=I1.write (t':=s1.toks) (x:=x) (e:=x) (h':=s1.heap) (by rw [e1];exact True.intro) (.inl rfl) (fun b o _ z=>z) ⟨_,he⟩ (yr he rfl)
  exact hx pins _ s1 ⟨x,C,d,U,_,rfl,I2,⟨au,.inl ⟨_,he,rfl,rfl⟩⟩,r1⟩
 have hD:=KI _ _ lk0
 obtain ⟨hp,g,dr,tk,os⟩:=s1
 unfold dH at he
 repeat (first | with_reducible refine wpAny_loadPart_at he ?_ | with_reducible refine wpAny_loadPart_at hD ?_ | (with_reducible refine wpAny_isSubtype_exc hD ?_;rw [hcB]) | wp_step)
 exact wpAny_raiseNew_none hh fin
end
section
variable {X:Cx} {k:Nat} {C:Addr} {R:St->XK} {x:Str} {p cpos pos:Pos} {e:Expr} {es:List Expr} {t:TA} {fl:List Str}
theorem v5 {H:Hp} {a d:Addr} {vs:List V} (ha:H a=none) (hd:H d=none) (ne:d≠a):Same H (upd (upd (upd (upd H a (iY a C)) a (fu a C d)) d (jC d (fl.zip vs))) a (o7 a C d))/\
  HJ (upd (upd (upd (upd H a (iY a C)) a (fu a C d)) d (jC d (fl.zip vs))) a (o7 a C d)) a C (fl.zip vs):=by
 refine ⟨fun b o h=>?_,d,au,by rw [aG ne,au]⟩
 have na:b≠a:=fun z=>by rw [z,ha] at h;cases h
 have nd:b≠d:=fun z=>by rw [z,hd] at h;cases h
 rw [aG na,aG nd,aG na,aG na]
 exact h
theorem Ci (M:KJ X.prog X.w X.K X.mg X.base k x C fl) (hr:Room (k+1) X.A) (hc:X.calm=true) (hg:Gl X x) (hx:pN X R) (ha:PA X (e :: es) t) (hdb:(x == ("__debug__":Str))=false)
  (he:starEach (e :: es) X.env=(false,eval e X.env) :: starEach es X.env) (hpl:(backTo cpos (starEach es X.env)).any (·.1)=false):PS X (.Raise (some (.Call (.Name x p) (e :: es) [] cpos)) none pos) (xH C fl R t):=by
 intro pins s U H D I h
 rw [arm_exec_Raise]
 refine wpAny_bind (wpAny_standAt (thrown (pins:=pins) (U:=U) (C:=C) hc M.cl hx (wpAny_bind (dB (Q:=fun v s1=>∃ x d H1,v= .ref x/\Inv X pins U H1 s1/\H1 x=some (fu x C d)/\R U (.ref C) (some x) (upd H1 x (o7 x C d))) ?_ fun v s3 h3=>wpAny_bind (wpAny_standAt (wpAny_pure h3))))))
 refine wpAny_Call_Name_kw (mY I hg M.at_ ?_ hdb)
 refine PySem.W.callWith_K (h₀:=X.base) I.ok.mod.kin M.kp (dB (ha cpos pins s U H _ I h) fun us s1 ⟨vs,H1,I1,r,hl,hz,q⟩=>⟨I1.kIn,?_⟩) he hpl
 refine KN M hr I1 r hl hz fun a d s2 z1 z2 ne I2=>⟨a,d,_,rfl,I2,?_,?_⟩
 ·rw [aG (Ne.symm ne),au]
 ·obtain ⟨w1,w2⟩:=v5 (C:=C) (fl:=fl) (vs:=vs) z1 z2 ne
  exact q a _ w1 w2
end
section
variable {X:Cx} {pins:List (Addr×Obj)} {U U':St} {H:Hp} {s:Shared} {h':Heap}
theorem Inv.reloc {t':Nat} (I:Inv X pins U H s) (hs:Heap.SameBut X.env.locals s.heap h') (len:U'.length=U.length)
  (l:∃ m',h'.Ns X.env.locals m'/\∀ (i:Nat) (x:Str) (v:V),X.N[i]?=some x->U'[i]?=some (some v)->Qx X.env.scope x->∃ u,RelV v u/\Look X.env h' m' x u):Inv X pins U' H {s with heap:=h',toks:=t'}:=by
 have cne:=I.cne
 obtain ⟨mm,⟨oL,_,_,hoL,_⟩,_⟩:=id I.loc
 have away:∀ b o,X.s₀.heap.get? b=some o->b≠X.env.locals:=fun b o e=>Nat.ne_of_lt (Nat.lt_of_lt_of_le (Heap.lt_size e) I.ok.above)
 refine ⟨I.ok,I.os,I.bare,⟨fun b o e n hb hx=>(hs.2 b (away b o e)).trans (I.base.keep b o e n hb hx),fun b o e n hb hx=>?_,I.base.free,fun b o e hx=>?_,I.base.tups,I.base.frzs,I.base.tbls⟩,l,fun y c e=>?_,I.free,I.freeC,fun q hq=>?_,fun b ob e=>?_,len.trans I.len⟩
 ·obtain ⟨sl,e1⟩:=I.base.slot b o e n hb hx
  exact ⟨sl,(hs.2 b (away b o e)).trans e1⟩
 ·obtain ⟨o2,e1⟩:=I.base.there b o e hx
  exact ⟨o2,(hs.2 b (away b o e)).trans e1⟩
 ·obtain ⟨w2,z⟩:=I.cell y c e
  exact ⟨w2,z.sameBut hs (cne y c e)⟩
 ·obtain ⟨e,n,ne,nf,d⟩:=I.pin q hq
  exact ⟨(hs.2 q.1 ne).trans e,n,ne,nf,d⟩
 ·refine (I.hok b ob e).stay (fun c w2 hc q=>(hs.2 c ?_).trans q) (fun _ q=>q) fun _ _ q=>q
  rintro rfl
  rcases hc with rfl | hc
  ·rw [I.free] at e;cases e
  ·rw [I.free] at hc;cases hc
theorem name_goes {A:Around} {E:Value->Shared->Prop} {i:Nat} {n:Str} {pos:Pos} {Q:Unit->Shared->Prop} (I:Inv X pins U H s) (hN:X.N.Nodup) (hi:X.N[i]?=some n) (hl:X.env.scope.names.lookup n=some .local)
  (h:∀ s',Inv X pins (U.set i none) H s'->Q () s'):wpAny (model X.prog X.w) A (do bindName X.env n .none;unbindBehindTheSuite X.env n pos) Q E s:=by
 have hcls:(X.env.scope.kind == .class || (X.env.scope.kind == .module && X.env.locals != X.env.globals))=false:=by rw [I.ok.kind];rfl
 have hk:X.env.kindOf n=some .local:=hl
 refine wpAny_bind (wpAny_bindName (mX (v:=.non) I hN hi (.inl hl) rfl (fun s1 I1=>?_) (.inr hl)))
 obtain ⟨m1,hn1,hl1⟩:=id I1.loc
 have hiU:i < U.length:=by rw [I.len];exact (List.getElem?_eq_some_iff.mp hi).1
 obtain ⟨u1,ru1,lk1⟩:=hl1 i n .non hi (by rw [List.getElem?_set_self hiU]) (.inl hl)
 have m1n:m1 n=some u1:=by
  rcases lk1 with ⟨_,z⟩ | ⟨z | z,_⟩
  ·exact z
  ·rw [hk] at z;cases z
  ·rw [hk] at z;cases z
 unfold unbindBehindTheSuite
 refine wpAny_onRaise ?_
 unfold unbindName
 refine wpAny_bind (wpAny_point (wpAny_bind ?_))
 unfold deleteName
 simp only [hk,hcls]
 rw [if_neg (by decide)]
 refine wpAny_bind (wpAny_nsDel_keeps hn1 fun h2 v2 hn2 hs2=>?_)
 rw [m1n]
 simp only [if_true,Option.isSome_some,Bool.not_true,Bool.false_eq_true,if_false]
 refine wpAny_pure (wpAny_point (h _ (I1.reloc (t':=s1.toks) hs2 (by rw [List.length_set,List.length_set]) ⟨_,hn2,fun j y v e1 e2 e3=>?_⟩)))
 have hj:j≠i:=fun z=>by
  subst z
  rw [List.getElem?_set_self hiU] at e2;cases e2
 rw [List.getElem?_set_ne (Ne.symm hj)] at e2
 obtain ⟨u,r,q⟩:=hl1 j y v e1 (by rw [List.getElem?_set_ne (Ne.symm hj)];exact e2) e3
 refine ⟨u,r,?_⟩
 rcases q with ⟨k,z⟩ | ⟨k,c,z1,z2⟩
 ·have ny:y≠n:=fun z=>hj (qP hN e1 (z ▸ hi))
  exact .inl ⟨k,by show (if y=n then v2 else m1 y)=some u;rw [if_neg ny];exact z⟩
 ·exact .inr ⟨k,c,z1,z2.sameBut hs2 (I1.cne y c z1)⟩
end
abbrev Cx.sui (X:Cx) (x:Addr):Cx:={X with A:=X.A.mark (some (.ref x)),calm:=false,xe:=fun _ _=>False}
abbrev Cx.bod (X:Cx) (pins:List (Addr×Obj)) (R:St->XK):Cx:={X with pn:=X.pn ++ pins,xe:=XE X pins R}
section
variable {X:Cx} {pins pins':List (Addr×Obj)} {U:St} {H:Hp} {s:Shared} {x C d T:Addr} {R:St->XK} {D:Ends}
theorem Inv.sui (I:Inv X pins U H s) (x:Addr):Inv (X.sui x) pins U H s:=
 ⟨⟨I.ok.mod,I.ok.kind,I.ok.glob,I.ok.blt,I.ok.above,I.ok.inj,I.ok.has,I.ok.cab,fun h=>absurd h Bool.false_ne_true,I.ok.frames,I.ok.stk,I.ok.exf,I.ok.bs,I.ok.bsz,I.ok.noex,I.ok.exfs,I.ok.funs,I.ok.frf⟩,I.os,I.bare,I.base,I.loc,I.cell,I.free,I.freeC,I.pin,I.hok,I.len⟩
theorem Inv.unsui (ok:X.Ok) (I:Inv (X.sui x) pins U H s):Inv X pins U H s:=⟨ok,I.os,I.bare,I.base,I.loc,I.cell,I.free,I.freeC,I.pin,I.hok,I.len⟩
theorem Inv.bod (I:Inv X pins U H s) (R:St->XK):Inv (X.bod pins R) [] U H s:=
 ⟨⟨I.ok.mod,I.ok.kind,I.ok.glob,I.ok.blt,I.ok.above,I.ok.inj,I.ok.has,I.ok.cab,I.ok.hd,I.ok.frames,I.ok.stk,I.ok.exf,I.ok.bs,I.ok.bsz,I.ok.noex,I.ok.exfs,I.ok.funs,I.ok.frf⟩,I.os,I.bare,I.base,I.loc,I.cell,I.free,I.freeC,fun p hp=>I.pin p (by simpa using hp),I.hok,I.len⟩
theorem Inv.unbod (I:Inv (X.bod pins R) pins' U H s):Inv X pins U H s:=
 ⟨⟨I.ok.mod,I.ok.kind,I.ok.glob,I.ok.blt,I.ok.above,I.ok.inj,I.ok.has,I.ok.cab,I.ok.hd,I.ok.frames,I.ok.stk,I.ok.exf,I.ok.bs,I.ok.bsz,I.ok.noex,I.ok.exfs,I.ok.funs,I.ok.frf⟩,I.os,I.bare,I.base,I.loc,I.cell,I.free,I.freeC,fun p hp=>I.pin p (List.mem_append_left _ hp),I.hok,I.len⟩
theorem SP.unbod {f:Flow} (h:SP (X.bod pins R) pins' D f s):SP X pins D f s:=by
 cases f with
 | next=>obtain ⟨U',H',I,q⟩:=h;exact ⟨U',H',I.unbod,q⟩
 | brk=>obtain ⟨U',H',I,q⟩:=h;exact ⟨U',H',I.unbod,q⟩
 | cont=>obtain ⟨U',H',I,q⟩:=h;exact ⟨U',H',I.unbod,q⟩
 | ret u=>obtain ⟨v,U',H',I,r,q⟩:=h;exact ⟨v,U',H',I.unbod,r,q⟩
theorem rK:pN (X.bod pins R) R:=by
 rintro pins' e s' ⟨x,C,d,U,H',he,I,⟨tx,F⟩,r⟩
 refine ⟨x,C,d,U,H',he,I.unbod,⟨tx,?_⟩,r⟩
 rcases F with F | ⟨T,F⟩
 ·exact .inl F
 ·obtain ⟨a1,a2,a3,a4,a5,a6⟩:=F.fp
  exact .inr ⟨T,F.obj,F.tb,⟨a1,a2,a3,a4,a5,fun p hp=>a6 p (List.mem_append_left _ hp)⟩,F.tr⟩
theorem zG {A:Around} {E:Value->Shared->Prop} {P:Addr} {b:Bool} {Q:Bool->Shared->Prop} {vs:Array Value} {M:Model} {K:W.Frag} (KI:K.In s.heap) (c:XCls K C) (cP:XCls K P) (e:s.heap.get? x=some (dH C (some d) vs)) (hm:PySem.W.mroIn K C (.ref P)=some b) (h:Q b s):
  wpAny M A (excMatches (.ref x) (.ref P)) Q E s:=by
 obtain ⟨nm,qn,N,bs,bm,sn,sub,ab,col,dd,k0,k1,k2,k3,k5,lk,tl⟩:=rG c.xi
 obtain ⟨nm',qn',N',bs',bm',sn',sub',ab',col',dd',k0',k1',k2',k3',k5',lk',tl'⟩:=rG cP.xi
 have hC:=KI _ _ lk
 have hP:=KI _ _ lk'
 have hPB:(Value.ref P :: bm').contains (.type "BaseException")=true:=by
  rw [List.contains_cons,(tl' _ KI).hasType (show Ov.contains (.type "BaseException")=true from by decide)];rfl
 have hCP:(Value.ref C :: bm).contains (.ref P)=b:=by
  unfold PySem.W.mroIn PySem.W.clsIn at hm
  rw [lk] at hm
  exact Option.some.inj hm
 have f:=tc_notTuple
 obtain ⟨hp,g,dr,tk,os⟩:=s
 unfold dH at e
 unfold excMatches
 by_cases hh:P=C
 ·subst hh
  have hb:b=true:=by rw [← hCP];simp
  subst hb
  rw [lk] at lk'
  cases lk'
  repeat (first | with_reducible refine wpAny_loadPart_at e ?_ | with_reducible refine wpAny_loadPart_at hC ?_ | (with_reducible refine wpAny_isSubtype_exc hC ?_;first | rw [hPB] | rw [hCP]) | wp_step)
  exact h
 ·repeat (first | with_reducible refine wpAny_loadPart_at e ?_ | with_reducible refine wpAny_loadPart_at hP ?_ | (with_reducible refine wpAny_isSubtype_exc hP ?_;rw [hPB]) | (with_reducible refine wpAny_isSubtype_exc hC ?_;rw [hCP]) | wp_step)
  cases b <;> (wp_walk;exact h)
abbrev TH:=Ends->St->Addr->Addr->Hp->Prop
def PH (X:Cx) (hs:List ExceptHandler) (th:TH):Prop:=∀ (pins:List (Addr×Obj)) (s:Shared) (U:St) (H:Hp) (D:Ends) (x C d T:Addr),Inv X pins U H s->Head X pins H x C d T s.heap->th D U x C H->
 wpAny (model X.prog X.w) X.A (handleBy (.ref x) X.env hs) (SP X pins D) X.xe s
theorem KQ:PH X [] (fun _ _ _ _ _=>False):=fun _ _ _ _ _ _ _ _ _ _ _ h=>h.elim
def Ends.gone (D:Ends) (i:Nat):Ends:={nx:=fun U H=>D.nx (U.set i none) H,rt:=D.rt,bk:=fun U H=>D.bk (U.set i none) H,ct:=fun U H=>D.ct (U.set i none) H}
def QG (K:W.Frag) (P:Addr) (i:Nat) (ts:TS) (th:TH):TH:=fun D U x C H=>∃ b,XCls K C/\PySem.W.mroIn K C (.ref P)=some b/\if b=true then ts (D.gone i) (U.set i (some (.ref x))) H else th D U x C H
variable {nm n:Str} {P:Addr} {i:Nat} {p pos:Pos} {b0:Stmt} {suite:List Stmt} {ts:TS} {th:TH} {hs:List ExceptHandler}
theorem Oz (hg:Gl X nm) (hm:X.mg nm=some (.ref P)) (cP:XCls X.K P) (hdb:(nm == ("__debug__":Str))=false) (hN:X.N.Nodup) (hi:X.N[i]?=some n) (hl:X.env.scope.names.lookup n=some .local)
  (hsu:∀ x,PSs (X.sui x) (b0 :: suite) ts) (hr:PH X hs th):PH X (.ExceptHandler (some (.Name nm p)) (some n) (b0 :: suite) pos :: hs) (QG X.K P i ts th):=by
 rintro pins s U H D x C d T I F ⟨b,c,mb,q⟩
 obtain ⟨vs,ex,h1⟩:=F.obj
 refine wpAny_handleBy_cons (codeAny_handlers_test (mY (I.sui x) hg hm ?_ hdb)) (fun z=>nomatch z)
 refine zG I.kIn c cP ex mb ?_
 cases b with
 | false=>
  rw [if_neg Bool.false_ne_true] at q
  exact hr pins s U H D x C d T I F q
 | true=>
  rw [if_pos rfl] at q
  refine codeAny_handlers_suite_as ?_
  refine rH I F fun h2 I2 F2=>?_
  refine mX (X:=X.sui x) (v:=.ref x) (I2.sui x) hN hi (.inl hl) rfl (fun s3 I3=>?_) (.inr hl)
  refine wpAny_mono (hsu x pins s3 _ H (D.gone i) I3 q) (fun f s4 w=>?_) fun _ _ z=>False.elim z
  cases f with
  | next=>obtain ⟨U',H',J,r⟩:=w;exact name_goes (J.unsui I.ok) hN hi hl fun s5 I5=>⟨_,H',I5,r⟩
  | brk=>obtain ⟨U',H',J,r⟩:=w;exact name_goes (J.unsui I.ok) hN hi hl fun s5 I5=>⟨_,H',I5,r⟩
  | cont=>obtain ⟨U',H',J,r⟩:=w;exact name_goes (J.unsui I.ok) hN hi hl fun s5 I5=>⟨_,H',I5,r⟩
  | ret u=>obtain ⟨v,U',H',J,rv,r⟩:=w;exact name_goes (J.unsui I.ok) hN hi hl fun s5 I5=>⟨v,_,H',I5,rv,r⟩
end
def fB (mg:Str->Option Value) (x:Str):Addr:=match mg x with
 | some (.ref a)=>a
 | _=>0
theorem nM {mg:Str->Option Value} {x:Str} {C:Addr} (h:mg x=some (.ref C)):fB mg x=C:=by unfold fB;rw [h]
structure KR (K:W.Frag) (mg:Str->Option Value) (x:Str):Prop where
 at_:mg x=some (.ref (fB mg x))
 cl:QF K (fB mg x)
theorem OD {K:W.Frag} {mg:Str->Option Value} {h:Heap} (X:K.In h) (G:h.Ns mainGlobals mg) {x:Str} {C:Addr} (a:PySem.W.nsIn K mainGlobals x=some (some (.ref C))) (b:yt K C=true):KR K mg x:=by
 have m:=PySem.W.mg_of X G a
 have e:=nM m
 exact ⟨by rw [e];exact m,by rw [e];exact Ca b⟩
structure v6 (K:W.Frag) (mg:Str->Option Value) (x:Str) (fl:List Str) (qual:Str) (st:Stmt):Prop where
 c:KR K mg x
 kp:PySem.W.keepIn K (.ref (fB mg x))=true
 na:∀ f∈fl,jo K (fB mg x) f
 ini:∃ f fd,PySem.W.findIn K (.ref (fB mg x)) "__init__"=some (some (.ref f))/\PySem.W.typeIn K (.ref f)=some (.type "function")/\Fun K "__init__" qual st f fd
def KY (K:W.Frag) (C:Addr) (fl:List Str):Bool:=fl.all fun n=>PySem.W.findIn K (.ref C) n == some none
theorem Cj {K:W.Frag} {mg:Str->Option Value} {h:Heap} (X:K.In h) (G:h.Ns mainGlobals mg) {x qual:Str} {C f:Addr} {fl:List Str} {st:Stmt} {oc:Value} {od an:Option Addr} {osl:Array (Option Value)} {kV doc pm cdv ct:Value}
  (a:PySem.W.nsIn K mainGlobals x=some (some (.ref C))) (b:yt K C=true) (kp:PySem.W.keepIn K (.ref C)=true) (na:KY K C fl=true)
  (i:PySem.W.findIn K (.ref C) "__init__"=some (some (.ref f))) (t:PySem.W.typeIn K (.ref f)=some (.type "function"))
  (l:K.lookup f=some ⟨oc,od,.func (PySem.W.fnOf "__init__" qual (fU st) (cI st) (ak st) .none kV doc pm an cdv ct),osl⟩) (c:PySem.W.codeIn K cdv qual=true) (k:PySem.W.keepIn K (.ref f)=true):v6 K mg x fl qual st:=by
 have m:=PySem.W.mg_of X G a
 have e:=nM m
 refine ⟨OD X G a b,by rw [e];exact kp,fun n hn=>?_,f,_,by rw [e];exact i,t,Bb l c k⟩
 rw [e]
 have:=List.all_eq_true.mp na n hn
 exact beq_iff_eq.mp this
structure Sub (K:W.Frag) (mg:Str->Option Value) (x y:Str) (b:Bool):Prop where
 mro:PySem.W.mroIn K (fB mg x) (.ref (fB mg y))=some b
 one:PySem.W.kitOne K (.ref (fB mg x)) (.ref (fB mg y))=some b
theorem jN {K:W.Frag} {mg:Str->Option Value} {h:Heap} (X:K.In h) (G:h.Ns mainGlobals mg) {x y:Str} {C P:Addr} {r:Bool} (a:PySem.W.nsIn K mainGlobals x=some (some (.ref C))) (b:PySem.W.nsIn K mainGlobals y=some (some (.ref P)))
  (m:PySem.W.mroIn K C (.ref P)=some r) (o:PySem.W.kitOne K (.ref C) (.ref P)=some r):Sub K mg x y r:=by
 have e:=nM (PySem.W.mg_of X G a)
 have e2:=nM (PySem.W.mg_of X G b)
 exact ⟨by rw [e,e2];exact m,by rw [e,e2];exact o⟩
structure JH (X:Cx) (hs:List ExceptHandler) (th:TH):Prop where
 run:PH X hs th
section
variable {X:Cx} {K:W.Frag} {k:Nat} {x n fn:Str} {ps:List Str} {sp:Sp} {R:St->XK} {p pos cpos pos':Pos} {e o value:Expr} {es:List Expr} {t:TA} {ta tv:TE} {st:Stmt} {u ts:TS} {th:TH} {hs:List ExceptHandler} {i:Nat}
theorem bI (F:lA X.prog X.w X.K X.mg X.base k x ps sp) (hr:Room k X.A) (hg:Gl X x) (hx:pN X R) (ha:JA X (e :: es) t) (hdb:(x == ("__debug__":Str))=false) (h:autoParam ((e :: es).all notStar=true) L2.auto4._auto_1):
  JE X (.Call (.Name x p) (e :: es) [] pos) (xG sp R t):=by
 have h1:notStar e=true:=by simp only [List.all_cons,Bool.and_eq_true] at h;exact h.1
 have h2:es.all notStar=true:=by simp only [List.all_cons,Bool.and_eq_true] at h;exact h.2
 exact ⟨Cd F hr hg hx ha.run hdb (cC h1) (mG h2)⟩
theorem xJ (hK:X.K=K) (he:JE X e ta) (h:autoParam (nu e=true) L2.auto4._auto_1):JE X (.Attribute e fn pos) (Cg K ta fn):=by
 subst hK
 exact ⟨Fz he.run (by cases e <;> first | rfl | cases h)⟩
theorem uW (hK:X.K=K) (ha:JE X o ta) (hv:JE X value tv) (h:autoParam (jK value=true) L2.auto4._auto_1):JS X (.Assign [.Attribute o fn pos'] value pos) (Ce K ta tv fn):=by
 subst hK
 exact ⟨Fy ha.run hv.run (yl h)⟩
theorem rM {fl:List Str} (M:KJ X.prog X.w X.K X.mg X.base k x (fB X.mg x) fl) (hr:Room (k+1) X.A) (hc:X.calm=true) (hg:Gl X x) (hx:pN X R) (ha:JA X (e :: es) t) (hdb:(x == ("__debug__":Str))=false) (h:autoParam ((e :: es).all notStar=true) L2.auto4._auto_1):
  JS X (.Raise (some (.Call (.Name x p) (e :: es) [] cpos)) none pos) (xH (fB X.mg x) fl R t):=by
 have h1:notStar e=true:=by simp only [List.all_cons,Bool.and_eq_true] at h;exact h.1
 have h2:es.all notStar=true:=by simp only [List.all_cons,Bool.and_eq_true] at h;exact h.2
 exact ⟨Ci M hr hc hg hx ha.run hdb (cC h1) (mG h2)⟩
theorem Ck:JH X [] (fun _ _ _ _ _=>False):=⟨KQ⟩
theorem Cm {b0:Stmt} {suite:List Stmt} (hK:X.K=K) (c:KR K X.mg x) (hg:Gl X x) (hdb:(x == ("__debug__":Str))=false) (hN:X.N.Nodup) (hi:X.N[i]?=some n) (hl:X.env.scope.names.lookup n=some .local)
  (hsu:∀ x,JB (X.sui x) (b0 :: suite) ts) (hr:JH X hs th):JH X (.ExceptHandler (some (.Name x p)) (some n) (b0 :: suite) pos :: hs) (QG K (fB X.mg x) i ts th):=by
 subst hK
 exact ⟨Oz hg c.at_ c.cl.cls hdb hN hi hl (fun x=>(hsu x).run) hr.run⟩
end
section
variable {P:Program} {w:World} {K:W.Frag} {mg:Str->Option Value} {base:Heap}
theorem jm {x:Str} {st:Stmt} {N ps:List Str} {k:Nat} {sp:Sp} (D:dj K mg x st) (S:aK N ps (ak st))
  (hb:∀ (kV doc pm:Value) (an:Option Addr) (cdv ct:Value) (us:List Value),us.length=ps.length->bindArgs (PySem.W.fnOf x x (fU st) (cI st) (ak st) .none kV doc pm an cdv ct) ⟨us,[]⟩=pure (ps.zip us))
  (len:∀ vs H Q E,sp vs H Q E->vs.length=ps.length)
  (hbody:∀ (f:Addr) (cdv:Value) (A:Around) (outer:List Env) (s:Shared) (H:Hp) (vs:List V) (Q:VK) (E:XK),Room k (A.deeper (envOfC x (ak st) s.heap.objs.size f cdv))->sp vs H Q E->
   ∃ t,JB (m5 (KD P w) P w K mg base N x (ak st) f cdv A outer s H E) (cI st) t/\t {nx:=fun _ H'=>Q .non H',rt:=Q} (start N vs) H):lA P w K mg base (k+1) x ps sp:=by
 obtain ⟨f,fd,F,hm⟩:=D
 refine ⟨f,fd,hm,F.kp,F.binds hb,?_⟩
 obtain ⟨oc,od,kV,doc,pm,an,cdv,ct,osl,rfl,lk,hcd⟩:=F.ex
 exact Hx lk hcd S len fun A outer s H vs Q E hr h=>let ⟨t,j,q⟩:=hbody f cdv A outer s H vs Q E hr h;⟨t,j.run,q⟩
theorem mkX {x qual:Str} {st:Stmt} {N ps:List Str} {fl:List Str} {k:Nat} (D:v6 K mg x fl qual st) (S:aK N ps (ak st))
  (hb:∀ (kV doc pm:Value) (an:Option Addr) (cdv ct:Value) (us:List Value),us.length=ps.length->bindArgs (PySem.W.fnOf "__init__" qual (fU st) (cI st) (ak st) .none kV doc pm an cdv ct) ⟨us,[]⟩=pure (ps.zip us))
  (hl:ps.length=fl.length+1)
  (hbody:∀ (f:Addr) (cdv:Value) (A:Around) (outer:List Env) (s:Shared) (H:Hp) (vs:List V) (Q:VK) (E:XK),Room k (A.deeper (envOfC qual (ak st) s.heap.objs.size f cdv))->uV (fB mg x) fl vs H Q E->
   ∃ t,JB (m5 zj P w K mg base N qual (ak st) f cdv A outer s H E).nox (cI st) t/\t {nx:=fun _ H'=>Q .non H',rt:=Q} (start N vs) H):KJ P w K mg base (k+1) x (fB mg x) fl:=by
 obtain ⟨f,fd,a,b,F⟩:=D.ini
 refine ⟨D.c.at_,D.c.cl,D.kp,D.na,f,fd,ps,a,b,F.binds hb,F.ok S (fun vs H Q E h=>?_) fun cdv A outer s H vs Q E hr h=>let ⟨t,j,q⟩:=hbody f cdv A outer s H vs Q E hr h;⟨t,j.run,q⟩⟩
 obtain ⟨y,ws,rfl,hw,_⟩:=h
 rw [List.length_cons,hw,hl]
end
def initOf:Stmt->Stmt
 | .ClassDef _ _ _ (s :: _) _ _ _ _ _ _ _=>s
 | s=>s
section
variable {U:St} {H:Hp} {D:Ends} {Q:VK} {sp:Sp} {R:St->XK} {a:TA} {K:W.Frag} {C P:Addr} {fl:List Str} {th:TH} {ts:TS} {i:Nat} {ta:TE} {f:Str}
theorem eG (h:a U H fun vs H1=>sp vs H1 Q (R U)):xG sp R a U H Q:=h
theorem eO (h:a U H fun vs H1=>vs.length=fl.length/\vs.length<=sizeLine/\∀ x H2,Same H1 H2->HJ H2 x C (fl.zip vs)->R U (.ref C) (some x) H2):xH C fl R a D U H:=h
theorem iC (h:ta U H fun x H1=>∃ a C fs v,x= .ref a/\HJ H1 a C fs/\XCls K C/\jo K C f/\fs.lookup f=some v/\Q v H1):Cg K ta f U H Q:=h
theorem Cp {x C:Addr} (c:XCls K C) (m:PySem.W.mroIn K C (.ref P)=some true) (h:ts (D.gone i) (U.set i (some (.ref x))) H):QG K P i ts th D U x C H:=⟨true,c,m,by rw [if_pos rfl];exact h⟩
theorem OJ {x C:Addr} (c:XCls K C) (m:PySem.W.mroIn K C (.ref P)=some false) (h:th D U x C H):QG K P i ts th D U x C H:=⟨false,c,m,by rw [if_neg Bool.false_ne_true];exact h⟩
theorem rd1 {f1 p0 p1:Str} {vs:List V} {E:XK} (c:XCls K C) (n:jo K C f1) (h:uV C [f1] vs H Q E):Ce K (pX 0) (pX 1) f1 {nx:=fun _ H'=>Q .non H',rt:=Q} (start [p0,p1] vs) H:=by
 obtain ⟨x,ws,rfl,hw,hx,q⟩:=h
 match ws,hw with
 | [v],_=>exact ⟨v,rfl,.ref x,rfl,x,C,rfl,c,n,.inl ⟨hx,fun d hd ne=>q d hd ne⟩⟩
end
section
variable {X:Cx} {e:Expr} {te:TE} {lo hi:Option Expr} {st:Expr} {tl th ts:TO} {pos p2:Pos}
theorem FJ:JE X (.Dict [] [] pos) xf:=⟨Bh⟩
end
section
variable {U:St} {H:Hp} {Q:VK} {te:TE}
theorem iD (h:∀ p,H p=none->Q (.ref p) (upd H p (.dK []))):xf U H Q:=h
end
def O1 (K:W.Frag) (neg:Bool):R2:=fun x y H Q=>∃ a b xs,x= .ref a/\y= .ref b/\SqL K H a xs/\SqL K H b xs/\(∀ v∈xs,gD v=true\/∃ r,v= .ref r)/\Q (.bl (!neg)) H
theorem nP {v:V} (f:gD v=true):ye v v=true:=by
 cases v <;> first | (cases f;done) | rfl | (simp [ye])
section
variable {X:Cx}
theorem KZ (hu:X.A.units < cLine):OpR X (compareOp .Eq) (O1 X.K false):=by
 intro pins s U H x y v u Q I rx ry h
 obtain ⟨a,b,xs,rfl,rfl,ha,hb,fx,q⟩:=h
 cases rx
 cases ry
 obtain ⟨its,r1,p1,z1⟩:=I.list ha
 obtain ⟨jts,r2,p2,z2⟩:=I.list hb
 have l1:its.toArray.size=xs.length:=by simpa using r1.length.symm
 have l2:jts.toArray.size=xs.length:=by simpa using r2.length.symm
 refine SeqAt.eq_listAt (e:=fun _=>true) p1.isList p2.isList (by rw [l1,l2]) hu (fun j h1 h2=>?_) ?_
 ·have hj:j < xs.length:=by omega
  obtain ⟨u1,e1,q1⟩:=r1.get (List.getElem?_eq_getElem hj)
  obtain ⟨u2,e2,q2⟩:=r2.get (List.getElem?_eq_getElem hj)
  have f1:its.toArray[j]=u1:=by
   obtain ⟨_,z⟩:=List.getElem?_eq_some_iff.mp e1
   simpa using z
  have f2:jts.toArray[j]=u2:=by
   obtain ⟨_,z⟩:=List.getElem?_eq_some_iff.mp e2
   simpa using z
  rw [f1,f2]
  rcases fx _ (List.getElem_mem hj) with f | ⟨r,f⟩
  ·rw [← nP f]
   exact oY q1 q2 f f
  ·rw [f] at q1 q2
   cases (show u1=Value.ref r from q1)
   cases (show u2=Value.ref r from q2)
   exact SeqAt.EqAt.same _
 ·have e:(List.range its.toArray.size).all (fun _=>true)=true:=by simp
  rw [e]
  exact ⟨.bl true,H,I,rfl,q⟩
def FN (K:W.Frag):R2:=fun x y H Q=>zB K x y H Q\/O1 K false x y H Q
theorem K1 {K:W.Frag} (hK:X.K=K) (hu:X.A.units+64 < cLine):OpR X (compareOp .Eq) (FN K):=by
 subst hK
 exact (Kz rfl hu).or (KZ (Nat.lt_of_le_of_lt (Nat.le_add_right _ _) hu))
end
section
variable {H:Hp} {Q:VK} {K:W.Frag}
theorem gk {i j:Int} (h:Q (.bl (decide (V.int i=V.int j))) H):FN K (.int i) (.int j) H Q:=.inl (gf h)
theorem gm {i j:Str} (h:Q (.bl (decide (V.str i=V.str j))) H):FN K (.str i) (.str j) H Q:=.inl (gj h)
end
end L2
namespace L2
open PySem PySem.Spec PyProof.Rows
open AutoSeq1 (wpAny_loadPart')
theorem xK:isSubtype (.type "dict") (.type "dict")=pure true:=by rw [isSubtype_type];kernel_rfl
theorem zH {prog:Program} {w:World} {A:Around} {E:Value->Shared->Prop} {s:Shared} {Q:Value->Shared->Prop} {a:Addr} {o:Obj} {e:DictEntry} {ep:Nat} {k:Key} (ho:s.heap.get? a=some o) (hc:o.cls= .type "dict") (hd:o.data= .dict #[e] ep)
  (hkey:(aR prog w).is k e.key=true) (hh:e.hash=(aR prog w).hash k) (hsm:(a == sysModules)=false) (hu:A.units < cLine) (h:Q (.bool true) s):wpAny (model prog w) A (compareOp .Eq (.ref a) (.ref a)) Q E s:=by
 show wpAny _ _ (richCompare .Eq (.ref a) (.ref a)) _ _ _
 refine wpAny_richCompare_same_room ⟨o,ho,hc⟩ ⟨o,ho,hc⟩ F.slot_dict_eq (wpAny_call (codeAny_call_builtin F.slot_dict_eq.plain F.entry_dict_eq (F.slot_dict_eq.check _ _ _ _ _ _ _ _ ⟨o,ho,hc⟩ (F.args_dict_eq_2 _ _) ?_))) hu
 have ko:KeysOf (aR prog w) #[e]:=fun x hx=>by
  simp at hx
  subst hx
  exact ⟨k,hkey,hh⟩
 have f2:=xK
 obtain ⟨hp,g,d,tk,os⟩:=s
 have hT:(⟨hp,g,d,tk,os⟩:Shared).TypeIs (.ref a) "dict":=⟨_,ho,hc⟩
 unfold Builtin.«dict.__eq__»
 wp_walk using wpAny_loadPart' ho
 have en:∀ (Q:Array DictEntry->Shared->Prop) (E:Value->Shared->Prop),Q #[e] ⟨hp,g,d,tk,os⟩->wpAny (model prog w) A.in1 (dictEntries a) Q E ⟨hp,g,d,tk,os⟩:=fun Q E q=>by
  unfold dictEntries
  refine wpAny_bind (wpAny_loadPart ho ?_)
  simp only [hd]
  exact wpAny_pure q
 have eo:∀ (Q:Nat->Shared->Prop) (E:Value->Shared->Prop),Q ep ⟨hp,g,d,tk,os⟩->wpAny (model prog w) A.in1 (dictEpoch a) Q E ⟨hp,g,d,tk,os⟩:=fun Q E q=>by
  unfold dictEpoch
  refine wpAny_bind (wpAny_loadPart ho ?_)
  simp only [hd]
  exact wpAny_pure q
 simp only [hd]
 refine wpAny_pure ?_
 refine wpAny_bind (en _ _ ?_)
 rw [if_neg (by simp)]
 refine wpAny_bind (eo _ _ ?_)
 refine wpAny_bind ?_
 rw [Std.Legacy.Range.forIn_eq_forIn_range']
 simp only [Std.Legacy.Range.size,Nat.sub_zero,Nat.add_sub_cancel,Nat.div_one]
 show wpAny _ _ (forIn [0] _ _) _ _ _
 rw [List.forIn_cons]
 refine wpAny_bind (wpAny_bind (en _ _ ?_))
 show wpAny _ _ (holding [e.key,e.val] _ >>=_) _ _ _
 refine wpAny_bind (wpAny_holding ?_)
 refine wpAny_bind (show wpAny (model prog w) A.in1 (dictFind a e.key e.hash) _ _ _ from ?_)
 rw [hh]
 refine wpAny_dictFind_of hkey ho hd ko ?_
 have fi:(#[e]:Array DictEntry).findIdx? (fun e=>(aR prog w).is k e.key)=some 0:=by simp [hkey]
 rw [fi]
 refine wpAny_bind (en _ _ ?_)
 show wpAny _ _ (holding [e.val] (eqBool e.val e.val)) _ _ _
 refine wpAny_holding (SeqAt.EqAt.same e.val prog w _ _ ?_)
 rw [if_neg (by simp)]
 refine wpAny_bind (eo _ _ ?_)
 rw [if_neg (by simp)]
 refine wpAny_pure ?_
 show wpAny _ _ (forIn [] _ _) _ _ _
 rw [List.forIn_nil]
 refine wpAny_pure (wpAny_pure ?_)
 exact wpAny_pure ⟨(fun z=>nomatch z),h⟩
def O2:R2:=fun x y H Q=>(y= .non/\Q (.bl (decide (x= .non))) H)\/∃ a b,x= .bl a/\y= .bl b/\Q (.bl (a == b)) H
section
variable {X:Cx}
theorem K3:OpR X (compareOp .Is) O2:=Jr.or (by
 intro pins s U H x y v u Q I rx ry h
 obtain ⟨a,b,rfl,rfl,q⟩:=h
 cases rx
 cases ry
 exact is_bool ⟨.bl _,H,I,rfl,q⟩)
def HN (K:W.Frag):R2:=fun x y H Q=>∃ a b xs,x= .ref a/\y= .ref b/\SqT K H a xs/\SqT K H b xs/\(∀ v∈xs,gD v=true\/∃ r,v= .ref r)/\Q (.bl true) H
theorem FP (hu:X.A.units < cLine):OpR X (compareOp .Eq) (HN X.K):=by
 intro pins s U H x y v u Q I rx ry h
 obtain ⟨a,b,xs,rfl,rfl,ha,hb,fx,q⟩:=h
 cases rx
 cases ry
 obtain ⟨its,r1,p1,z1⟩:=I.tuple ha
 obtain ⟨jts,r2,p2,z2⟩:=I.tuple hb
 have l1:its.toArray.size=xs.length:=by simpa using r1.length.symm
 have l2:jts.toArray.size=xs.length:=by simpa using r2.length.symm
 refine SeqAt.eq_tupleAt (e:=fun _=>true) p1 p2 hu (fun j h1 h2=>?_) ?_
 ·have hj:j < xs.length:=by omega
  obtain ⟨u1,e1,q1⟩:=r1.get (List.getElem?_eq_getElem hj)
  obtain ⟨u2,e2,q2⟩:=r2.get (List.getElem?_eq_getElem hj)
  have f1:its.toArray[j]=u1:=by
   obtain ⟨_,z⟩:=List.getElem?_eq_some_iff.mp e1
   simpa using z
  have f2:jts.toArray[j]=u2:=by
   obtain ⟨_,z⟩:=List.getElem?_eq_some_iff.mp e2
   simpa using z
  rw [f1,f2]
  rcases fx _ (List.getElem_mem hj) with f | ⟨r,f⟩
  ·rw [← nP f]
   exact oY q1 q2 f f
  ·rw [f] at q1 q2
   cases (show u1=Value.ref r from q1)
   cases (show u2=Value.ref r from q2)
   exact SeqAt.EqAt.same _
 ·have e:((List.range (min its.toArray.size jts.toArray.size)).all (fun _=>true) && its.toArray.size == jts.toArray.size)=true:=by rw [l1,l2];simp
  rw [e]
  exact ⟨.bl true,H,I,rfl,q⟩
def HQ:R2:=fun x y H Q=>∃ a k v,x= .ref a/\y= .ref a/\H a=some (.dK [(k,v)])/\Q (.bl true) H
theorem FQ (hu:X.A.units < cLine):OpR X (compareOp .Eq) HQ:=by
 intro pins s U H x y v u Q I rx ry h
 obtain ⟨a,k,z,rfl,rfl,ha,q⟩:=h
 cases rx
 cases ry
 obtain ⟨_,hsm,vs,kv,o,es,ep,h1,h2,h3,h4,h5,h6⟩:=(show ObjOk X.prog X.w H s.heap a (.dK [(k,z)]) from I.hok a _ ha)
 cases kv with
 | cons a1 a2=>
  cases a2
  obtain ⟨l⟩:=es
  dsimp only at h5
  cases h5 with
  | @cons en _ _ _ p1 p2 p3=>
   cases p3
   obtain ⟨k',b1,b2⟩:=h4 en (by simp)
   exact zH (e:=en) h1 h2.1 h3 b1 b2 hsm hu ⟨.bl true,H,I,rfl,q⟩
def FT (K:W.Frag):R2:=fun x y H Q=>FN K x y H Q\/HN K x y H Q\/HQ x y H Q
theorem aN {K:W.Frag} (hK:X.K=K) (hu:X.A.units+64 < cLine):OpR X (compareOp .Eq) (FT K):=by
 subst hK
 exact (K1 rfl hu).or ((FP (Nat.lt_of_le_of_lt (Nat.le_add_right _ _) hu)).or (FQ (Nat.lt_of_le_of_lt (Nat.le_add_right _ _) hu)))
end
theorem Cq {sub:List (Option Nat)} {g:TG} {tt:TT} {te:TE} {U:St} {Q:VK} {H:Hp} {K:W.Frag} {a:Addr} {xs:List V} (Pv:Nat->List V->Hp->Prop) (hn:xs.length<=sizeLine) (h0:Pv 0 [] H) (hl:∀ i ys H,Pv i ys H->ys.length<=i)
  (hq:∀ i ys H,Pv i ys H->SqT K H a xs)
  (hs:∀ i ys H x,xs[i]?=some x->Pv i ys H->g x (cV sub U) H fun σ2 H2=>KeepSt (cV sub U) σ2/\tt σ2 H2 fun b H3=>if b=true then te σ2 H3 fun y H4=>Pv (i+1) (ys ++ [y]) H4 else Pv (i+1) ys H3)
  (hd:∀ ys H,Pv xs.length ys H->∀ D,H D=none->Q (.ref D) (upd H D (.lst ys))):pK sub g tt te U Q (Nb K a) H:=
 uM (n:=xs.length) Pv hn h0 hl (fun i ys H hi p=>⟨xs,xs[i],hq i ys H p,List.getElem?_eq_getElem hi⟩) (fun ys H p=>⟨xs,hq _ ys H p,Nat.le_refl _⟩) (fun i ys H x H' hi p y=>by
  obtain ⟨rfl,e2⟩:=y
  exact hs i ys _ x (e2 xs (hq i ys _ p)) p) hd
section
variable {H:Hp} {Q:VK} {K:W.Frag}
theorem eQ {U:St} {r r':R2} {ta tb tc:TE} (h:ta U H fun x H1=>tb U H1 fun y H2=>r x y H2 fun z H3=>∃ k,z= .bl k/\if k=true then tc U H3 fun w H4=>r' y w H4 Q else Q (.bl false) H3):wR r r' ta tb tc U H Q:=h
theorem kh {x:V} (h:Q (.bl (decide (x= .non))) H):O2 x .non H Q:=.inl ⟨rfl,h⟩
theorem iG {i j:Int} (h:Q (.bl (decide (V.int i=V.int j))) H):FT K (.int i) (.int j) H Q:=.inl (gk h)
theorem gn {i j:Str} (h:Q (.bl (decide (V.str i=V.str j))) H):FT K (.str i) (.str j) H Q:=.inl (gm h)
end
end L2
namespace L2
open PySem PySem.Spec PyProof.Rows PySem.SeqAt
theorem cps_append (a b:Str):(a ++ b).cps.toList=a.cps.toList ++ b.cps.toList:=by
 show (a.cps ++ b.cps).toList=_
 rw [Array.toList_append]
theorem FW (lo hi:Option Int) (n:Nat):Builtin.Str.strSliceIndices lo hi 1 n=(List.range (HT.sIx n n hi - HT.sIx n 0 lo)).map fun k=>HT.sIx n 0 lo+k:=by
 have c:∀ (i:Int) (d:Nat),max 0 (min (if i < 0 then i+(n:Int) else i) (n:Int))=((HT.sIx n d (some i):Nat):Int):=by
  intro i d
  rw [← HT.clip_eq]
  split <;> omega
 have key:∀ a b:Nat,(List.range (if (a:Int) < (b:Int) then ((b:Int) - a+1 - 1) / 1 else 0).toNat).map (fun k:Nat=>((a:Int)+1*(k:Int)).toNat)=(List.range (b - a)).map fun k=>a+k:=by
  intro a b
  have e3:(if (a:Int) < (b:Int) then ((b:Int) - a+1 - 1) / 1 else 0).toNat=b - a:=by split <;> omega
  rw [e3]
  refine List.map_congr_left fun k _=>?_
  omega
 unfold Builtin.Str.strSliceIndices sliceRange
 simp only [show (1:Int) > 0 by decide,if_true]
 cases lo with
 | none=>
  cases hi with
  | none=>exact key 0 n
  | some j=>rw [← key,← c j n];rfl
 | some i=>
  cases hi with
  | none=>rw [← key,← c i 0];rfl
  | some j=>rw [← key,← c i 0,← c j n]
theorem HR {α β:Type} {f:α->Option β} {g:α->β}:∀ (l:List α),(∀ k∈l,f k=some (g k))->l.filterMap f=l.map g
 | [],_=>rfl
 | k :: l,h=>by rw [List.filterMap_cons,h k (by simp),List.map_cons,HR l fun j hj=>h j (List.mem_cons_of_mem _ hj)]
theorem zJ (l:List Nat) (a m:Nat) (h:a+m<=l.length):((List.range m).map fun k=>a+k).filterMap (fun i=>l[i]?)=(l.drop a).take m:=by
 rw [List.filterMap_map,HR (g:=fun k=>l.getD (a+k) 0)]
 ·refine List.ext_getElem? fun i=>?_
  rw [List.getElem?_map,List.getElem?_take]
  by_cases hi:i < m
  ·rw [if_pos hi,List.getElem?_range hi,List.getElem?_drop,List.getElem?_eq_getElem (by omega)]
   simp [List.getElem?_eq_getElem (show a+i < l.length by omega)]
  ·rw [if_neg hi,List.getElem?_eq_none (by simp;omega)];rfl
 ·intro k hk
  have hk:=List.mem_range.mp hk
  show l[a+k]?=_
  rw [List.getD_eq_getElem?_getD,List.getElem?_eq_getElem (by omega)];rfl
theorem zK (z:Str) (lo hi:Option Int):(Txt.slice z lo hi).cps.toList=(z.cps.toList.drop (HT.sIx z.length 0 lo)).take (HT.sIx z.length z.length hi - HT.sIx z.length 0 lo):=by
 have hn:z.cps.toList.length=z.length:=by simp [Str.length]
 have la:=HT.sIx_le z.length 0 (Nat.zero_le _) lo
 have lb:=HT.sIx_le z.length z.length (Nat.le_refl _) hi
 unfold Txt.slice
 rw [FW]
 generalize HT.sIx z.length 0 lo=a at la ⊢
 generalize HT.sIx z.length z.length hi=b at lb ⊢
 split
 ·rename_i h
  simp at h
  have ha:a=0:=by
   rcases Nat.eq_zero_or_pos z.length with h0 | h0
   ·omega
   ·omega
  subst ha
  rw [List.drop_zero,List.take_of_length_le (by omega)]
 ·show List.filterMap (fun x=>z.cps[x]?) _=_
  have e:(fun x:Nat=>z.cps[x]?)=fun x=>z.cps.toList[x]?:=by funext x;simp
  rw [e]
  by_cases h:a<=b
  ·exact zJ _ a (b - a) (by omega)
  ·rw [show b - a=0 by omega];simp
theorem rN (z:Str) (k:Nat):(Txt.slice z (some (k:Int)) none).cps.toList=z.cps.toList.drop k:=by
 rw [zK,HT.sIx_none,HT.sIx_nat]
 have hn:z.cps.toList.length=z.length:=by simp [Str.length]
 by_cases h:k<=z.length
 ·rw [Nat.min_eq_left h,List.take_of_length_le (by rw [List.length_drop];omega)]
 ·rw [Nat.min_eq_right (by omega),List.drop_eq_nil_of_le (by omega),List.drop_eq_nil_of_le (by omega)];simp
theorem xM {n:Nat}:∀ {ds:List PyData},(∀ d∈ds,d.canLay0=true/\d.depth<=n)->PyData.canLayAll0 ds=true/\PyData.depthAll ds<=n
 | [],_=>⟨rfl,by simp [PyData.depthAll]⟩
 | d :: ds,h=>by
  obtain ⟨a,b⟩:=xM fun e he=>h e (List.mem_cons_of_mem _ he)
  obtain ⟨c,e⟩:=h d (by simp)
  rw [PyData.canLayAll0,PyData.depthAll,a,c]
  exact ⟨rfl,by omega⟩
theorem v7 {n:Nat} {ds:List PyData} (h:∀ d∈ds,d.canLay0=true/\d.depth<=n):(PyData.list ds).canLay0=true/\(PyData.list ds).depth<=n+1:=by
 obtain ⟨a,b⟩:=xM h
 rw [PyData.canLay0,PyData.depth]
 exact ⟨a,by omega⟩
theorem uh {n:Nat} {ds:List PyData} (h:∀ d∈ds,d.canLay0=true/\d.depth<=n):(PyData.tuple ds).canLay0=true/\(PyData.tuple ds).depth<=n+1:=by
 obtain ⟨a,b⟩:=xM h
 rw [PyData.canLay0,PyData.depth]
 exact ⟨a,by omega⟩
theorem nQ {s:Str} (h:PyData.strOk s=true):(PyData.str s).canLay0=true/\(PyData.str s).depth<=0:=by
 rw [PyData.canLay0,PyData.depth]
 exact ⟨h,Nat.le_refl _⟩
theorem uX (s:Int):(PyData.int s).canLay0=true/\(PyData.int s).depth<=0:=by simp [PyData.canLay0,PyData.depth]
theorem rO {d:PyData} {n:Nat} (h:d.canLay0=true/\d.depth<=n) (hn:n<=64):shaped d=true:=by
 unfold shaped
 rw [h.1,decide_eq_true (by omega)];rfl
theorem O3 {xs:List V} {H:Hp} {R:Addr->Prop} (c:Nat.ble xs.length 64=true) (h:∀ p,H p=none->R p):xs.length<=sizeLine/\∀ p,H p=none->R p:=
 ⟨Nat.le_trans (Nat.le_of_ble_eq_true c) (by decide),h⟩
theorem kj {A B:Prop} (h:A):if (!false)=true then A else B:=(if_pos (show (!false)=true from rfl)).mpr h
theorem km {A B:Prop} (h:B):if (!true)=true then A else B:=by rw [if_neg (by simp)];exact h
theorem v8 {t u:TS} {D:Ends} {U:St} {H:Hp} (M:St->Hp->Prop) (h1:∀ U H,M U H->u D U H) (h2:∀ N,(∀ U H,M U H->N U H)->t {D with nx:=N} U H):DX t u D U H:=h2 _ h1
theorem atM1 {α:Type} {xs:List α} {n:Nat} {v:α} (h:xs.length=n+1) (e:xs[n]?=some v):uD xs (-1)=some v:=by
 unfold uD Ax
 rw [h,if_neg (by omega),if_pos (by omega)]
 show xs[((-1:Int)+((n+1:Nat):Int)).toNat]?=some v
 rw [show ((-1:Int)+((n+1:Nat):Int)).toNat=n by omega];exact e
end L2
namespace L2
open PySem PySem.Spec PyProof.Rows PySem.SeqAt
open AutoSeq1 (wpAny_loadPart')
theorem ul:∀ (l:List Str) (n:Nat),Vals (l.map V.str) (strsFrom n l)
 | [],_=>.nil
 | a :: r,n=>.cons ⟨n,rfl⟩ (ul r (n+1))
def Cr:V->List V->Hp->VK->Prop:=fun x xs H Q=>∃ a b:Str,x= .str a/\xs=[.str b]/\(b.length == 0)=false/\a.length+2<=sizeLine/\∀ p,H p=none->Q (.ref p) (upd H p (.lst ((Txt.split a b).map V.str)))
section
variable {X:Cx}
theorem lB:Hy X "str.split" Cr:=by
 intro pins s U H x xs v us Q I rx r h
 obtain ⟨a,b,rfl,rfl,hb,hz,q⟩:=h
 obtain ⟨u,rfl,t',rfl⟩:=vals1 r
 obtain ⟨t,rfl⟩:=rx
 have one:∀ {l:List Str} (k:Nat) (tl:List Value),Vals (l.map V.str) tl->l.length<=sizeLine->Txt.split a b=l->EP X pins U Q (.ref s.heap.objs.size) {s with toks:=k,heap:=s.heap.push {cls:=.type "list",data:=.seq tl.toArray}}:=fun {l} k tl rv hl e=>by
  refine ⟨.ref s.heap.objs.size,_,I.laid (t':=k) (o:=.lst (l.map V.str)) (fun b ob q=>Heap.get?_push_of_some _ q) (Nat.le_refl _) ?_,rfl,e ▸ q _ (I.hok.fresh (Nat.le_refl _))⟩
  exact ⟨by simpa using hl,tl,0,rv,Heap.get?_push_size _ rfl⟩
 have ho:=StrLaws.occ_length_le a b 0 a.length (a.length+1)
 have hp:(Builtin.Str.partsBetween a (Builtin.Str.occurrences a b 0 a.length (a.length+1)) b.length).length=(Builtin.Str.occurrences a b 0 a.length (a.length+1)).length+1:=by simp [Builtin.Str.partsBetween]
 cases h1:(decide (a.length < b.length) || decide (Builtin.Str.strKind a < Builtin.Str.strKind b))
 ·cases hf:(Builtin.Str.occurrences a b 0 a.length (a.length+1)).isEmpty
  ·refine call_meets F.slot_str_split (typeIs_str _ _ _) F.entry_str_split (F.args_str_split_2 _ _) (meets_str_split_sep a b t t' h1 hb hf (by omega) (by omega)) ?_
   exact one _ _ (ul _ _) (by omega) ((if_neg (ne_true_of_eq_false h1)).trans (if_neg (ne_true_of_eq_false hf)))
  ·refine call_meets F.slot_str_split (typeIs_str _ _ _) F.entry_str_split (F.args_str_split_2 _ _) (meets_str_split_not_found a b t t' h1 hb hf) ?_
   exact one s.toks [.str a t] (l:=[a]) (.cons ⟨t,rfl⟩ .nil) (by show 1<=sizeLine;decide) ((if_neg (ne_true_of_eq_false h1)).trans (if_pos hf))
 ·refine call_meets F.slot_str_split (typeIs_str _ _ _) F.entry_str_split (F.args_str_split_2 _ _) (meets_str_split_cannot_occur a b t t' h1) ?_
  exact one s.toks [.str a t] (l:=[a]) (.cons ⟨t,rfl⟩ .nil) (by show 1<=sizeLine;decide) (if_pos h1)
def Cu (tb:(St->XK)->TS) (th:TH) (to:TS):TS:=fun D U H=>tb (fun U' c x H'=>∃ C a,c= .ref C/\x=some a/\th D U' a C H') {D with nx:=to D} U H
theorem FZ {body orelse:List Stmt} {h0:ExceptHandler} {hs:List ExceptHandler} {tb:(St->XK)->TS} {th:TH} {to:TS} {pos:Pos} (hst:X.stack=X.env :: X.outer) (hfr:X.env.frame=some X.env.locals) (hb:∀ (pins:List (Addr×Obj)) (R:St->XK),PSs (X.bod pins R) body (tb R)) (hh:PH X (h0 :: hs) th) (ho:PSs X orelse to):
  PS X (.Try body (h0 :: hs) orelse [] pos) (Cu tb th to):=by
 intro pins s U H D I h
 refine wpAny_Try_except (wpAny_mono (hb pins _ [] s U H _ (I.bod _) h) (fun f s1 q=>?_) fun e s1 q=>?_)
 ·have q':=q.unbod
  cases f with
  | next=>
   obtain ⟨U',H',I',r⟩:=q'
   exact ho pins s1 U' H' D I' r
  | brk=>exact q'
  | cont=>exact q'
  | ret u=>exact q'
 ·obtain ⟨x,C,d,U',H',rfl,I1,F1,C',a',eC,ea,r⟩:=q
  cases eC
  cases ea
  refine v4 I1 hst hfr I1.ok.frames F1 fun h2 T I2 F2=>?_
  refine rH I2 F2 fun h3 I3 F3=>?_
  exact hh pins _ U' H' D x C d T I3 F3 r
theorem yu {body orelse:List Stmt} {h0:ExceptHandler} {hs:List ExceptHandler} {tb:(St->XK)->TS} {th:TH} {to:TS} {pos:Pos} (hst:X.stack=X.env :: X.outer) (hfr:X.env.frame=some X.env.locals) (hb:∀ (pins:List (Addr×Obj)) (R:St->XK),JB (X.bod pins R) body (tb R)) (hh:JH X (h0 :: hs) th) (ho:JB X orelse to):
  JS X (.Try body (h0 :: hs) orelse [] pos) (Cu tb th to):=⟨FZ hst hfr (fun pins R=>(hb pins R).run) hh.run ho.run⟩
end
theorem xN {prog:Program} {w:World} {A:Around} {E:Value->Shared->Prop} {s:Shared} {Q:Value->Shared->Prop} {a:Addr} {o:Obj} {e:DictEntry} {ep:Nat} {k:Key} (ho:s.heap.get? a=some o) (hc:o.cls= .type "dict") (hd:o.data= .dict #[e] ep)
  (hkey:(aR prog w).is k e.key=true) (hh:e.hash=(aR prog w).hash k) (hsm:(a == sysModules)=false) (hu:A.units < cLine) (h:Q (.bool false) s):wpAny (model prog w) A (compareOp .NotEq (.ref a) (.ref a)) Q E s:=by
 show wpAny _ _ (richCompare .NotEq (.ref a) (.ref a)) _ _ _
 refine wpAny_richCompare_same_room ⟨o,ho,hc⟩ ⟨o,ho,hc⟩ F.slot_dict_ne (wpAny_call (codeAny_call_builtin F.slot_dict_ne.plain F.entry_dict_ne (F.slot_dict_ne.check _ _ _ _ _ _ _ _ ⟨o,ho,hc⟩ (F.args_dict_ne_2 _ _) ?_))) hu
 have ko:KeysOf (aR prog w) #[e]:=fun x hx=>by
  simp at hx
  subst hx
  exact ⟨k,hkey,hh⟩
 have f2:=xK
 obtain ⟨hp,g,d,tk,os⟩:=s
 have hT:(⟨hp,g,d,tk,os⟩:Shared).TypeIs (.ref a) "dict":=⟨_,ho,hc⟩
 unfold Builtin.«dict.__ne__»
 wp_walk using wpAny_loadPart' ho
 have en:∀ (Q:Array DictEntry->Shared->Prop) (E:Value->Shared->Prop),Q #[e] ⟨hp,g,d,tk,os⟩->wpAny (model prog w) A.in1 (dictEntries a) Q E ⟨hp,g,d,tk,os⟩:=fun Q E q=>by
  unfold dictEntries
  refine wpAny_bind (wpAny_loadPart ho ?_)
  simp only [hd]
  exact wpAny_pure q
 have eo:∀ (Q:Nat->Shared->Prop) (E:Value->Shared->Prop),Q ep ⟨hp,g,d,tk,os⟩->wpAny (model prog w) A.in1 (dictEpoch a) Q E ⟨hp,g,d,tk,os⟩:=fun Q E q=>by
  unfold dictEpoch
  refine wpAny_bind (wpAny_loadPart ho ?_)
  simp only [hd]
  exact wpAny_pure q
 simp only [hd]
 refine wpAny_pure ?_
 refine wpAny_bind (en _ _ ?_)
 rw [if_neg (by simp)]
 refine wpAny_bind (eo _ _ ?_)
 refine wpAny_bind ?_
 rw [Std.Legacy.Range.forIn_eq_forIn_range']
 simp only [Std.Legacy.Range.size,Nat.sub_zero,Nat.add_sub_cancel,Nat.div_one]
 show wpAny _ _ (forIn [0] _ _) _ _ _
 rw [List.forIn_cons]
 refine wpAny_bind (wpAny_bind (en _ _ ?_))
 show wpAny _ _ (holding [e.key,e.val] _ >>=_) _ _ _
 refine wpAny_bind (wpAny_holding ?_)
 refine wpAny_bind (show wpAny (model prog w) A.in1 (dictFind a e.key e.hash) _ _ _ from ?_)
 rw [hh]
 refine wpAny_dictFind_of hkey ho hd ko ?_
 have fi:(#[e]:Array DictEntry).findIdx? (fun e=>(aR prog w).is k e.key)=some 0:=by simp [hkey]
 rw [fi]
 refine wpAny_bind (en _ _ ?_)
 show wpAny _ _ (holding [e.val] (eqBool e.val e.val)) _ _ _
 refine wpAny_holding (SeqAt.EqAt.same e.val prog w _ _ ?_)
 rw [if_neg (by simp)]
 refine wpAny_bind (eo _ _ ?_)
 rw [if_neg (by simp)]
 refine wpAny_pure ?_
 show wpAny _ _ (forIn [] _ _) _ _ _
 rw [List.forIn_nil]
 refine wpAny_pure (wpAny_pure ?_)
 exact wpAny_pure ⟨(fun z=>nomatch z),h⟩
theorem v9 {prog:Program} {w:World} {A:Around} {E:Value->Shared->Prop} {s:Shared} {Q:Value->Shared->Prop} {a:Addr} {o:Obj} {ep:Nat} (ho:s.heap.get? a=some o) (hc:o.cls= .type "dict") (hd:o.data= .dict #[] ep)
  (hsm:(a == sysModules)=false) (hu:A.units < cLine) (h:Q (.bool false) s):wpAny (model prog w) A (compareOp .NotEq (.ref a) (.ref a)) Q E s:=by
 show wpAny _ _ (richCompare .NotEq (.ref a) (.ref a)) _ _ _
 refine wpAny_richCompare_same_room ⟨o,ho,hc⟩ ⟨o,ho,hc⟩ F.slot_dict_ne (wpAny_call (codeAny_call_builtin F.slot_dict_ne.plain F.entry_dict_ne (F.slot_dict_ne.check _ _ _ _ _ _ _ _ ⟨o,ho,hc⟩ (F.args_dict_ne_2 _ _) ?_))) hu
 have f2:=xK
 obtain ⟨hp,g,d,tk,os⟩:=s
 have hT:(⟨hp,g,d,tk,os⟩:Shared).TypeIs (.ref a) "dict":=⟨_,ho,hc⟩
 unfold Builtin.«dict.__ne__»
 wp_walk using wpAny_loadPart' ho
 have en:∀ (Q:Array DictEntry->Shared->Prop) (E:Value->Shared->Prop),Q #[] ⟨hp,g,d,tk,os⟩->wpAny (model prog w) A.in1 (dictEntries a) Q E ⟨hp,g,d,tk,os⟩:=fun Q E q=>by
  unfold dictEntries
  refine wpAny_bind (wpAny_loadPart ho ?_)
  simp only [hd]
  exact wpAny_pure q
 have eo:∀ (Q:Nat->Shared->Prop) (E:Value->Shared->Prop),Q ep ⟨hp,g,d,tk,os⟩->wpAny (model prog w) A.in1 (dictEpoch a) Q E ⟨hp,g,d,tk,os⟩:=fun Q E q=>by
  unfold dictEpoch
  refine wpAny_bind (wpAny_loadPart ho ?_)
  simp only [hd]
  exact wpAny_pure q
 simp only [hd]
 refine wpAny_pure ?_
 refine wpAny_bind (en _ _ ?_)
 rw [if_neg (by simp)]
 refine wpAny_bind (eo _ _ ?_)
 refine wpAny_bind ?_
 rw [Std.Legacy.Range.forIn_eq_forIn_range']
 simp only [Std.Legacy.Range.size,Nat.sub_zero,Nat.add_sub_cancel,Nat.div_one]
 show wpAny _ _ (forIn [] _ _) _ _ _
 rw [List.forIn_nil]
 refine wpAny_pure (wpAny_pure ?_)
 exact wpAny_pure ⟨(fun z=>nomatch z),h⟩
def HS:R2:=fun x y H Q=>∃ a kvs,x= .ref a/\y= .ref a/\H a=some (.dK kvs)/\kvs.length<=1/\Q (.bl false) H
section
variable {X:Cx}
theorem Ga (hu:X.A.units < cLine):OpR X (compareOp .NotEq) HS:=by
 intro pins s U H x y v u Q I rx ry h
 obtain ⟨a,kvs,rfl,rfl,ha,hl,q⟩:=h
 cases rx
 cases ry
 obtain ⟨_,hsm,vs,kv,o,es,ep,h1,h2,h3,h4,h5,h6⟩:=(show ObjOk X.prog X.w H s.heap a (.dK kvs) from I.hok a _ ha)
 match kvs,hl with
 | [],_=>
  cases kv
  obtain ⟨l⟩:=es
  dsimp only at h5
  cases h5
  exact v9 h1 h2.1 h3 hsm hu ⟨.bl false,H,I,rfl,q⟩
 | [(k,z)],_=>
  cases kv with
  | cons a1 a2=>
   cases a2
   obtain ⟨l⟩:=es
   dsimp only at h5
   cases h5 with
   | @cons en _ _ _ p1 p2 p3=>
    cases p3
    obtain ⟨k',b1,b2⟩:=h4 en (by simp)
    exact xN (e:=en) h1 h2.1 h3 b1 b2 hsm hu ⟨.bl false,H,I,rfl,q⟩
def O4 (K:W.Frag):R2:=fun x y H Q=>BV K x y H Q\/HS x y H Q
theorem K4 {K:W.Frag} (hK:X.K=K) (hu:X.A.units+64 < cLine):OpR X (compareOp .NotEq) (O4 K):=(lz hK hu).or (Ga (Nat.lt_of_le_of_lt (Nat.le_add_right _ _) hu))
end
section
variable {H:Hp} {Q:VK} {K:W.Frag} {U:St} {D:Ends}
theorem jt {tb:(St->XK)->TS} {th:TH} {to:TS} (h:tb (fun U' c x H'=>∃ C a,c= .ref C/\x=some a/\th D U' a C H') {D with nx:=to D} U H):Cu tb th to D U H:=h
theorem nR {x y:Str} (hb:(y.length == 0)=false) (hz:x.length+2<=sizeLine) (h:∀ p,H p=none->Q (.ref p) (upd H p (.lst ((Txt.split x y).map V.str)))):Cr (.str x) [.str y] H Q:=⟨x,y,rfl,rfl,hb,hz,h⟩
end
end L2
namespace L2
open PySem PySem.Spec PyProof.Rows
def O5 (K:W.Frag):R2:=fun x y H Q=>Br K x y H Q\/∃ a o,y= .ref a/\DGet H a x o/\Q (.bl o.isSome) H
def yw (K:W.Frag):R2:=fun x y H Q=>qM K x y H Q\/∃ a o,y= .ref a/\DGet H a x o/\Q (.bl (!o.isSome)) H
def Cv:wN:=fun o i v H R=>Ay o i v H R\/∃ a H4,o= .ref a/\NP H a i v H4/\R H4
section
variable {X:Cx}
theorem uY {K:W.Frag} (hK:X.K=K) (hu:X.A.units+64 < cLine):OpR X (compareOp .In) (O5 K):=(Bs hK).or (by
 intro pins s U H x y v u Q I rx ry h
 obtain ⟨a,o,rfl,g,q⟩:=h
 obtain rfl:u=Value.ref a:=ry
 exact d_in (by omega) I g rx fun s3 I3=>⟨.bl o.isSome,H,I3,rfl,q⟩)
theorem zL {K:W.Frag} (hK:X.K=K) (hu:X.A.units+64 < cLine):OpR X (compareOp .NotIn) (yw K):=(zx hK).or (by
 intro pins s U H x y v u Q I rx ry h
 obtain ⟨a,o,rfl,g,q⟩:=h
 obtain rfl:u=Value.ref a:=ry
 exact Et (by omega) I g rx fun s3 I3=>⟨.bl (!o.isSome),H,I3,rfl,q⟩)
theorem Gb (hu:X.A.units+64 < cLine):Ec X Cv:=by
 intro pins s U H o i v ov iv u Q I ro ri rv h
 rcases h with h | ⟨a,H4,rfl,g,q⟩
 ·exact set_list pins s U H o i v ov iv u Q I ro ri rv h
 ·obtain rfl:ov=Value.ref a:=ro
  exact zq (by omega) I g ri rv fun s4 I4=>⟨H4,I4,q⟩
end
section
variable {U:St} {H:Hp} {Q:VK} {K:W.Frag}
theorem iH {x y:Str} (h:Q (.bl (!(Builtin.Str.occurrences y x 0 y.length 1).isEmpty)) H):O5 K (.str x) (.str y) H Q:=.inl (ji h)
theorem cG {x y:Str} (h:Q (.bl (!(!(Builtin.Str.occurrences y x 0 y.length 1).isEmpty))) H):yw K (.str x) (.str y) H Q:=.inl (cY h)
theorem Gd {p:Addr} {xs:List V} {i:Int} {n:Nat} {v:V} {R:Hp->Prop} (hp:H p=some (.lst xs)) (e:Ax xs.length i=some n) (h:R (upd H p (.lst (xs.set n v)))):Cv (.ref p) (.int i) v H R:=.inl (fZ hp e h)
end
end L2
namespace L2
open PySem PySem.Spec PyProof.Rows
open PySem.Sem (wp)
open PySem.AutoSeq1 (wpAny_loadPart')
end L2
namespace L2
open PySem PySem.Spec PyProof.Rows
end L2
namespace L2
open PySem PySem.Spec PyProof.Rows
open PySem.Sem (wp)
open PySem.AutoSeq1 (wpAny_loadPart')
end L2
namespace L2
open PySem PySem.Spec PyProof.Rows
end L2
namespace L2
open PySem PySem.Spec PyProof.Rows
open PySem.Sem (wp)
end L2
namespace L2
open PySem PySem.Spec PyProof.Rows
def O6:List V->Hp->VK->Prop:=fun xs H Q=>∃ i:Int,xs=[.int i]/\i.natAbs.log2 < 1920/\Q (.str (toString i)) H
theorem lQ {X:Cx}:CallR X (.type "str") O6:=by
 intro pins s U H xs us Q I r h
 obtain ⟨i,rfl,hi,q⟩:=h
 obtain ⟨u,rfl,t,rfl⟩:=vals1 r
 exact P.str_of_int hi ⟨.str _,H,I.tok _,⟨_,rfl⟩,q⟩
end L2
namespace L2
open PySem PySem.Spec PyProof.Rows
open PySem.Sem (wp)
end L2
namespace L2
open PySem PySem.Spec PyProof.Rows
open PySem.Sem (wp)
open AutoSeq1 (wpAny_loadPart')
end L2
namespace L2
open PySem PySem.W PySem.Spec PyProof.Rows
end L2
namespace L2
open PySem PySem.Spec PyProof.Rows
open PySem.Sem (wp)
end L2
namespace L2
open PySem PySem.Spec PyProof.Rows
open PySem.Sem (wp)
open PySem.AutoSeq1 (wpAny_loadPart')
end L2
namespace L2
open PySem PySem.Spec PyProof.Rows
open PySem.Sem (wp)
end L2
namespace L2
open PySem PySem.Spec PyProof.Rows
def HW (K:W.Frag):R2:=fun x y H Q=>∃ a b xs,x= .ref a/\y= .ref b/\SqT K H a xs/\SqT K H b xs/\(∀ v∈xs,gD v=true\/∃ r,v= .ref r)/\Q (.bl false) H
section
variable {X:Cx}
theorem Ge (hu:X.A.units < cLine):OpR X (compareOp .NotEq) (HW X.K):=by
 intro pins s U H x y v u Q I rx ry h
 obtain ⟨a,b,xs,rfl,rfl,ha,hb,fx,q⟩:=h
 cases rx
 cases ry
 obtain ⟨its,r1,p1,z1⟩:=I.tuple ha
 obtain ⟨jts,r2,p2,z2⟩:=I.tuple hb
 have l1:its.toArray.size=xs.length:=by simpa using r1.length.symm
 have l2:jts.toArray.size=xs.length:=by simpa using r2.length.symm
 refine SeqAt.RcNeAt.tuples (e:=fun _=>true) p1 p2 hu (fun j h1 h2=>?_) X.prog X.w _ _ ?_
 ·have hj:j < xs.length:=by omega
  obtain ⟨u1,e1,q1⟩:=r1.get (List.getElem?_eq_getElem hj)
  obtain ⟨u2,e2,q2⟩:=r2.get (List.getElem?_eq_getElem hj)
  have f1:its.toArray[j]=u1:=by
   obtain ⟨_,z⟩:=List.getElem?_eq_some_iff.mp e1
   simpa using z
  have f2:jts.toArray[j]=u2:=by
   obtain ⟨_,z⟩:=List.getElem?_eq_some_iff.mp e2
   simpa using z
  rw [f1,f2]
  rcases fx _ (List.getElem_mem hj) with f | ⟨r,f⟩
  ·rw [← nP f]
   exact oY q1 q2 f f
  ·rw [f] at q1 q2
   cases (show u1=Value.ref r from q1)
   cases (show u2=Value.ref r from q2)
   exact SeqAt.EqAt.same _
 ·have e:(!((List.range (min its.toArray.size jts.toArray.size)).all (fun _=>true) && its.toArray.size == jts.toArray.size))=false:=by rw [l1,l2];simp
  rw [e]
  exact ⟨.bl false,H,I,rfl,q⟩
def O7 (K:W.Frag):R2:=fun x y H Q=>O4 K x y H Q\/HW K x y H Q
theorem K5 {K:W.Frag} (hK:X.K=K) (hu:X.A.units+64 < cLine):OpR X (compareOp .NotEq) (O7 K):=by
 subst hK
 exact (K4 rfl hu).or (Ge (Nat.lt_of_le_of_lt (Nat.le_add_right _ _) hu))
end
def O8 (K:W.Frag):R2:=fun x y H Q=>Br K x y H Q\/∃ d ds,DR H d x/\DR H (.list ds) y/\SeqAt.shaped d=true/\PyData.canLayAll0 ds=true/\d.depth<=63/\Q (.bl (ds.any fun e=>PyData.eqv e d)) H
theorem uZ {X:Cx} {K:W.Frag} (hK:X.K=K) (hu:X.A.units+64 < cLine):OpR X (compareOp .In) (O8 K):=by
 refine (Bs hK).or ?_
 intro pins s U H x y v u Q I rx ry h
 obtain ⟨d,ds,h1,h2,h3,h4,h5,q⟩:=h
 obtain ⟨as,r1⟩:=DR.reads I.hok d x v h1 rx
 obtain ⟨bs,r2⟩:=DR.reads I.hok _ y u h2 ry
 refine SeqAt.in_list_reads r2 r1 h4 (SeqAt.canLay_of_shaped h3) ?_ ⟨.bl _,H,I,rfl,q⟩
 have:min (PyData.depthAll ds) d.depth<=d.depth:=Nat.min_le_right _ _
 omega
section
variable {U:St} {H:Hp} {Q:VK}
def K6 (o:HO) (n:Nat) (H:Hp) (Q:VK):Prop:=n<=sizeLine/\∀ p,H p=none->Q (.ref p) (upd H p o)
theorem ju {a:TA} (h:a U H fun xs H1=>K6 (.lst xs) xs.length H1 Q):Jv a U H Q:=h
theorem jw {a:TA} (h:a U H fun xs H1=>K6 (.tup xs) xs.length H1 Q):Ju a U H Q:=h
theorem aJ {o:HO} {n:Nat} (c:Nat.ble n 64=true) (h:∀ p H',H p=none->Same H H'->H' p=some o->Q (.ref p) H'):K6 o n H Q:=
 ⟨Nat.le_trans (Nat.le_of_ble_eq_true c) (by decide),fun p np=>h p _ np ((Same.refl H).upd np) au⟩
end
section
variable {X:Cx}
def K7:V->List V->Hp->VK->Prop:=fun x xs H Q=>∃ (z y:Str),x= .str z/\xs=[.str y]/\Q (.int (Txt.find z y)) H
theorem Cw:Hy X "str.find" K7:=by
 intro pins s U H x xs v us Q I rx r h
 obtain ⟨z,y,rfl,rfl,q⟩:=h
 obtain ⟨u,rfl,t',rfl⟩:=vals1 r
 obtain ⟨t,rfl⟩:=rx
 exact SC.find ⟨.int _,H,I.tok _,⟨_,rfl⟩,q⟩
end
section
variable {sub:List (Option Nat)} {g:TG} {tt:TT} {te:TE} {U:St} {Q:VK} {H:Hp} {K:W.Frag} {a:Addr} {xs:List V} {lo:Int} {n:Nat} {z:Str}
theorem aU (Pv:Nat->List V->Hp->Prop) (hn:xs.length<=sizeLine) (h0:Pv 0 [] H) (hl:∀ i ys H,Pv i ys H->ys.length<=i) (hq:∀ i ys H,Pv i ys H->SqL K H a xs)
  (hs:∀ i ys H x,xs[i]?=some x->Pv i ys H->g x (cV sub U) H fun σ2 H2=>KeepSt (cV sub U) σ2/\tt σ2 H2 fun b H3=>if b=true then te σ2 H3 fun y H4=>Pv (i+1) (ys ++ [y]) H4 else Pv (i+1) ys H3)
  (hd:∀ ys H D H',Pv xs.length ys H->H D=none->Same H H'->H' D=some (.lst ys)->Q (.ref D) H'):pK sub g tt te U Q (Hv K a) H:=
 zy Pv hn h0 hl hq hs fun ys H p D nD=>hd ys H D _ p nD ((Same.refl H).upd nD) au
theorem zM (Pv:Nat->List V->Hp->Prop) (hn:xs.length<=sizeLine) (h0:Pv 0 [] H) (hl:∀ i ys H,Pv i ys H->ys.length<=i) (hq:∀ i ys H,Pv i ys H->SqT K H a xs)
  (hs:∀ i ys H x,xs[i]?=some x->Pv i ys H->g x (cV sub U) H fun σ2 H2=>KeepSt (cV sub U) σ2/\tt σ2 H2 fun b H3=>if b=true then te σ2 H3 fun y H4=>Pv (i+1) (ys ++ [y]) H4 else Pv (i+1) ys H3)
  (hd:∀ ys H D H',Pv xs.length ys H->H D=none->Same H H'->H' D=some (.lst ys)->Q (.ref D) H'):pK sub g tt te U Q (Nb K a) H:=
 Cq Pv hn h0 hl hq hs fun ys H p D nD=>hd ys H D _ p nD ((Same.refl H).upd nD) au
theorem o9 (Pv:Nat->List V->Hp->Prop) (hn:z.cps.size<=sizeLine) (h0:Pv 0 [] H) (hl:∀ i ys H,Pv i ys H->ys.length<=i)
  (hs:∀ i ys H c,z.cps.toList[i]?=some c->Pv i ys H->g (.str ⟨#[c]⟩) (cV sub U) H fun σ2 H2=>KeepSt (cV sub U) σ2/\tt σ2 H2 fun b H3=>if b=true then te σ2 H3 fun y H4=>Pv (i+1) (ys ++ [y]) H4 else Pv (i+1) ys H3)
  (hd:∀ ys H D H',Pv z.cps.size ys H->H D=none->Same H H'->H' D=some (.lst ys)->Q (.ref D) H'):pK sub g tt te U Q (Ex z) H:=
 BJ Pv hn h0 hl hs fun ys H p D nD=>hd ys H D _ p nD ((Same.refl H).upd nD) au
end
end L2
set_option maxHeartbeats 8000000
namespace L2
open PySem PySem.Spec PyProof.Rows
end L2
namespace L2
open PySem PySem.W PySem.Spec PyProof.Rows
end L2
namespace L2
open PySem PySem.Spec PyProof.Rows
end L2
namespace L2
open PySem PySem.W PySem.Spec PyProof.Rows
end L2
namespace L2
open PySem PySem.Spec PyProof.Rows
theorem Cy {N:List Str} {sc:Scope} {N':List Str} {scope:Scope} {sub:List (Option Nat)} {env:Env} (S:mj N sc N' scope sub):mj N (relabel sc env) N' scope sub:=
 ⟨S.kind,S.cel,S.loc,fun x hx hk=>(S.free x hx hk).elim (fun h=>.inl (uL h)) (fun h=>jJ h),S.len,S.at_⟩
end L2
namespace HT
open PySem PySem.Spec PyProof.Rows
section
variable {prog:Program} {w:World} {A:Around} {E:Value->Shared->Prop} {s:Shared}
theorem getItem_tuple_whole {t sl:Addr} {items:Array Value} {vl vu:Value} {lo hi:Option Int} {Q:Value->Shared->Prop} (ht:IsTup s.heap t items) (hs:s.heap.IsSliceOf sl vl vu .none) (pl:IsPart vl lo) (pu:IsPart vu hi)
  (hw:sIx items.size 0 lo=0/\sIx items.size items.size hi=items.size) (h:Q (.ref t) s):wpAny (model prog w) A (getItem (.ref t) (.ref sl)) Q E s:=by
 obtain ⟨os,hos,hcs,hds⟩:=id hs
 have hTs:s.TypeIs (.ref sl) "slice":=⟨os,hos,hcs⟩
 unfold getItem
 try with_reducible refine wpAny_holding ?_
 first | refine wpAny_bind (wpAny_pure ?_) | skip
 refine wpAny_bind (wpAny_sequenceKey ht.typeIs (by decide) ?_)
 refine wpAny_bind (wpAny_callSpecial?_slot (name:=Str.ofString "__getitem__") ht.typeIs PyProof.Rows.slot_tuple_getitem
  (wpAny_call_entry PyProof.Rows.slot_tuple_getitem ht.typeIs entry_tuple_getitem ?_ (args_tuple_getitem _ _)))
 show wpAny _ _ (Builtin.Tuple.tupleItemsOf (.ref t) >>=_) _ _ s
 refine wpAny_bind (tupleItemsOf_ ht ?_)
 refine wpAny_bind (wpAny_typeOf hTs ?_)
 rw [if_pos (by decide)]
 refine wpAny_bind (jA hs pl pu ?_)
 have hyes:((((sIx items.size 0 lo:Nat):Int) == 0 && (1:Int) == 1 && (sIx items.size items.size hi - sIx items.size 0 lo) == items.size)=true):=by
  rw [hw.1,hw.2];simp
 show wpAny _ _ (if (((sIx items.size 0 lo:Nat):Int) == 0 && (1:Int) == 1 && (sIx items.size items.size hi - sIx items.size 0 lo) == items.size)=true then _ else _) _ _ s
 rw [if_pos hyes]
 unfold Builtin.Tuple.tupleIsExact
 refine wpAny_bind (wpAny_bind (wpAny_typeOf ht.typeIs (wpAny_pure ?_)))
 rw [if_pos (by decide)]
 exact wpAny_bind (wpAny_rule (wpAny_pure ⟨_,rfl,wpAny_pure h⟩))
end
end HT
namespace L2
open PySem PySem.Spec PyProof.Rows
section
variable {X:Cx}
def O9 (K:W.Frag):V->Option Int->Option Int->Hp->VK->Prop:=fun x lo hi H Q=>∃ a xs,x= .ref a/\SqT K H a xs/\(HT.sIx xs.length 0 lo=0/\HT.sIx xs.length xs.length hi=xs.length)/\Q (.ref a) H
theorem Gf:SlR X (O9 X.K):=by
 intro pins s U H x v vl vu lo hi sl Q I rx hs pl pu h
 obtain ⟨a,xs,rfl,hx,hw,q⟩:=h
 cases rx
 obtain ⟨its,r,ht,hz⟩:=I.tuple hx
 have hlen:its.toArray.size=xs.length:=by rw [List.size_toArray];exact r.length.symm
 refine ⟨"tuple",_,PyProof.Rows.slot_tuple_getitem.lookup,ht.typeIs,?_⟩
 exact HT.getItem_tuple_whole ht hs pl pu (by rw [hlen];exact hw) ⟨.ref a,H,I,rfl,q⟩
def Gg (K:W.Frag):V->Option Int->Option Int->Hp->VK->Prop:=fun x lo hi H Q=>QC K x lo hi H Q\/O9 K x lo hi H Q
theorem eU {K:W.Frag} (hK:X.K=K):SlR X (Gg K):=by
 subst hK
 exact Kf.or Gf
end
section
variable {H:Hp} {Q:VK} {K:W.Frag} {p:Addr} {xs:List V} {lo hi:Option Int}
theorem ph {x:Str} (hz:x.length<=sizeLine) (h:Q (.str (Txt.slice x lo hi)) H):Gg K (.str x) lo hi H Q:=.inl (Oe hz h)
theorem rP (hp:H p=some (.lst xs)) (h:∀ q H',H q=none->Same H H'->H' q=some (.lst (m6 xs lo hi))->Q (.ref q) H'):Gg K (.ref p) lo hi H Q:=.inl (Og (SqL.of hp) fun q nq=>h q _ nq ((Same.refl H).upd nq) au)
theorem K8 (hp:H p=some (.tup xs)) (h:∀ q H',Same H H'->H' q=some (.tup (m6 xs lo hi))->Q (.ref q) H'):Gg K (.ref p) lo hi H Q:=by
 by_cases hw:HT.sIx xs.length 0 lo=0/\HT.sIx xs.length xs.length hi=xs.length
 ·refine .inr ⟨p,xs,rfl,SqT.of hp,hw,h p H (Same.refl H) ?_⟩
  unfold m6
  rw [hw.1,hw.2,List.drop_zero,Nat.sub_zero,List.take_length];exact hp
 ·exact .inl (.inr (.inl ⟨p,xs,rfl,SqT.of hp,hw,fun q nq=>h q _ ((Same.refl H).upd nq) au⟩))
end
theorem rQ {xs:List V} {k:Nat}:m6 xs (some (k:Int)) none=xs.drop k:=by
 unfold m6
 rw [HT.sIx_none,HT.sIx_nat]
 by_cases h:k<=xs.length
 ·rw [Nat.min_eq_left h,List.take_of_length_le (by rw [List.length_drop];omega)]
 ·rw [Nat.min_eq_right (by omega),List.drop_eq_nil_of_le (by omega),List.drop_eq_nil_of_le (by omega)];simp
section
variable {X:Cx} {K:W.Frag} {a b e f o:Expr} {ta tb tc:TE} {pos apos cpos:Pos} {H:Hp} {Q:VK} {U:St}
theorem Gh (hu:X.A.units+64 < cLine) (ho:JE X o ta) (he:JE X e tb) (hf:JE X f tc) (hbase:autoParam (nu o=true) L2.auto4._auto_1) (hline:autoParam ((apos.endLine == cpos.line)=true) L2.auto4._auto_1) (h:autoParam (notStar e=true) L2.auto4._auto_1) (h2:autoParam (notStar f=true) L2.auto4._auto_1):JE X (.Call (.Attribute o "get" apos) [e,f] [] cpos) (xg ta tb tc):=
 ⟨Bl (by omega) ho.run he.run hf.run ⟨HF hbase,by rw [cC h,cC h2];rfl,hline,by rw [cC h,cC h2];rfl⟩⟩
theorem Gi (h:ta U H fun x H1=>∃ a,x= .ref a/\IsD H1 a/\tb U H1 fun y H2=>tc U H2 fun z H3=>∃ o,DGet H3 a y o/\Q (o.getD z) H3):xg ta tb tc U H Q:=h
end
def HX (K:W.Frag):R2:=fun x y H Q=>∃ a b xs,x= .ref a/\y= .ref b/\SqL K H a xs/\SqL K H b xs/\(∀ v∈xs,gD v=true\/∃ r,v= .ref r)/\Q (.bl false) H
section
variable {X:Cx}
theorem Gj (hu:X.A.units < cLine):OpR X (compareOp .NotEq) (HX X.K):=by
 intro pins s U H x y v u Q I rx ry h
 obtain ⟨a,b,xs,rfl,rfl,ha,hb,fx,q⟩:=h
 cases rx
 cases ry
 obtain ⟨its,r1,p1,z1⟩:=I.list ha
 obtain ⟨jts,r2,p2,z2⟩:=I.list hb
 have l1:its.toArray.size=xs.length:=by simpa using r1.length.symm
 have l2:jts.toArray.size=xs.length:=by simpa using r2.length.symm
 refine SeqAt.RcNeAt.lists (e:=fun _=>true) p1.isList p2.isList (by rw [l1,l2]) hu (fun j h1 h2=>?_) X.prog X.w _ _ ?_
 ·have hj:j < xs.length:=by omega
  obtain ⟨u1,e1,q1⟩:=r1.get (List.getElem?_eq_getElem hj)
  obtain ⟨u2,e2,q2⟩:=r2.get (List.getElem?_eq_getElem hj)
  have f1:its.toArray[j]=u1:=by
   obtain ⟨_,z⟩:=List.getElem?_eq_some_iff.mp e1
   simpa using z
  have f2:jts.toArray[j]=u2:=by
   obtain ⟨_,z⟩:=List.getElem?_eq_some_iff.mp e2
   simpa using z
  rw [f1,f2]
  rcases fx _ (List.getElem_mem hj) with f | ⟨r,f⟩
  ·rw [← nP f]
   exact oY q1 q2 f f
  ·rw [f] at q1 q2
   cases (show u1=Value.ref r from q1)
   cases (show u2=Value.ref r from q2)
   exact SeqAt.EqAt.same _
 ·have e:(!((List.range its.toArray.size).all (fun _=>true)))=false:=by simp
  rw [e]
  exact ⟨.bl false,H,I,rfl,q⟩
def Pa (K:W.Frag) (r:Bool):R2:=fun x y H Q=>∃ a b xs ys,x= .ref a/\y= .ref b/\SqL K H a xs/\SqL K H b ys/\xs.length≠ys.length/\Q (.bl r) H
theorem Gk (hu:X.A.units < cLine):OpR X (compareOp .NotEq) (Pa X.K true):=by
 intro pins s U H x y v u Q I rx ry h
 obtain ⟨a,b,xs,ys,rfl,rfl,ha,hb,ne,q⟩:=h
 cases rx
 cases ry
 obtain ⟨its,r1,p1,z1⟩:=I.list ha
 obtain ⟨jts,r2,p2,z2⟩:=I.list hb
 have l1:its.toArray.size=xs.length:=by simpa using r1.length.symm
 have l2:jts.toArray.size=ys.length:=by simpa using r2.length.symm
 exact SeqAt.RcNeAt.lists_lengths p1.isList p2.isList (by rw [l1,l2];simpa using ne) hu X.prog X.w _ _ ⟨.bl true,H,I,rfl,q⟩
def K9 (K:W.Frag):R2:=fun x y H Q=>O7 K x y H Q\/HX K x y H Q\/Pa K true x y H Q
theorem Cz {K:W.Frag} (hK:X.K=K) (hu:X.A.units+64 < cLine):OpR X (compareOp .NotEq) (K9 K):=by
 subst hK
 exact (K5 rfl hu).or ((Gj (Nat.lt_of_le_of_lt (Nat.le_add_right _ _) hu)).or (Gk (Nat.lt_of_le_of_lt (Nat.le_add_right _ _) hu)))
end
section
variable {K:W.Frag} {H:Hp} {Q:VK}
theorem La {a b:Addr} {xs:List V} (ha:H a=some (.lst xs)) (hb:H b=some (.lst xs)) (f:∀ v∈xs,gD v=true\/∃ r,v= .ref r) (h:Q (.bl false) H):K9 K (.ref a) (.ref b) H Q:=.inr (.inl ⟨a,b,xs,rfl,rfl,SqL.of ha,SqL.of hb,f,h⟩)
end
def yx (w:World):List DictEntry->List (Str×Str)->Prop
 | [],[]=>True
 | e :: es,kv :: kvs=>e.hash=PyData.keyHash w.params kv.1/\(∃ t,e.key= .str kv.1 t)/\(∃ t,e.val= .str kv.2 t)/\yx w es kvs
 | _,_=>False
structure DKc (w:World) (K:W.Frag) (a:Addr) (kvs:List (Str×Str)):Prop where
 at_:∃ es n,K.lookup a=some {cls:=.type "dict",data:=.dict es n}/\yx w es.toList kvs
 ns:(a == sysModules)=false
 nd:(kvs.map (·.1)).Nodup
def MP (w:World) (K:W.Frag) (mg:Str->Option Value) (x:Str) (kvs:List (Str×Str)):Prop:=mg x=some (.ref (fB mg x))/\DKc w K (fB mg x) kvs
theorem um {P:Program} {w:World}:∀ {es:List DictEntry} {kvs:List (Str×Str)},yx w es kvs->∃ vs:List (Key×Value),Pairs (aR P w) es vs/\vs.map (·.1)=kvs.map (fun kv=>Sum.inr kv.1)/\(∀ e∈es,∃ k,(aR P w).is k e.key=true/\e.hash=(aR P w).hash k)/\∀ k:Str,RelO ((kvs.lookup k).map V.str) (valueAt vs (Sum.inr k))
 | [],[],_=>⟨[],.nil,rfl,(fun e h=>by cases h),fun k=>(show True from trivial)⟩
 | e :: es,kv :: kvs,h=>by
  obtain ⟨h1,⟨t,h2⟩,⟨u,h3⟩,h4⟩:=h
  obtain ⟨vs,p1,p2,p3,p4⟩:=um h4
  have his:(aR P w).is (Sum.inr kv.1) e.key=true:=by rw [h2];exact tM kv.1 t
  refine ⟨(Sum.inr kv.1,e.val) :: vs,.cons his rfl p1,by rw [List.map_cons,List.map_cons,p2],fun f hf=>?_,fun k=>?_⟩
  ·rcases List.mem_cons.mp hf with rfl | hf
   ·exact ⟨Sum.inr kv.1,his,h1⟩
   ·exact p3 f hf
  ·unfold valueAt
   rw [List.find?_cons]
   by_cases hk:k=kv.1
   ·subst hk
    rw [show decide ((Sum.inr kv.1:Key)=Sum.inr kv.1)=true from decide_eq_true rfl]
    rw [show ((kv :: kvs).lookup kv.1)=some kv.2 by cases kv;simp [List.lookup]]
    rw [h3]
    exact ⟨u,rfl⟩
   ·rw [show decide ((Sum.inr kv.1:Key)=Sum.inr k)=false from decide_eq_false fun q=>hk (Sum.inr.inj q).symm]
    rw [show ((kv :: kvs).lookup k)=kvs.lookup k by cases kv;simp only [List.lookup];rw [show (k == _)=false from beq_eq_false_iff_ne.mpr hk]]
    exact p4 k
section
variable {X:Cx} {pins:List (Addr×Obj)} {U:St} {H:Hp} {s:Shared} {a:Addr} {kvs:List (Str×Str)}
theorem DKc.of (I:Inv X pins U H s) (d:DKc X.w X.K a kvs):∃ vs,s.heap.DictOf (aR X.prog X.w) a vs/\∀ k:Str,RelO ((kvs.lookup k).map V.str) (valueAt vs (Sum.inr k)):=by
 obtain ⟨⟨es,n,hl,he⟩,_,nd⟩:=d
 obtain ⟨vs,p1,p2,p3,p4⟩:=um (P:=X.prog) he
 refine ⟨vs,⟨_,es,n,I.kIn a _ hl,⟨rfl,rfl,rfl⟩,rfl,(fun e h=>p3 e (by simpa using h)),p1,?_⟩,p4⟩
 rw [p2,show (kvs.map fun kv=>(Sum.inr kv.1:Key))=(kvs.map (·.1)).map Sum.inr by rw [List.map_map];rfl]
 exact List.Pairwise.map Sum.inr (fun a b h q=>h (Sum.inr.inj q)) nd
end
def CG (kvs:List (Str×Str)) (tb tc:TE):TE:=fun U H Q=>tb U H fun y H1=>tc U H1 fun z H2=>∃ k,y= .str k/\Q (((kvs.lookup k).map V.str).getD z) H2
section
variable {X:Cx} {K:W.Frag} {x:Str} {b e f:Expr} {tb tc:TE} {p pos apos cpos:Pos} {kvs:List (Str×Str)} {U:St} {H:Hp} {Q:VK}
theorem Gm (D:MP X.w X.K X.mg x kvs) (hg:Gl X x) (he:JE X e tb) (hf:JE X f tc) (hd:(x == ("__debug__":Str))=false) (hline:autoParam ((apos.endLine == cpos.line)=true) L2.auto4._auto_1) (h:autoParam (notStar e=true) L2.auto4._auto_1) (h2:autoParam (notStar f=true) L2.auto4._auto_1):JE X (.Call (.Attribute (.Name x p) "get" apos) [e,f] [] cpos) (CG kvs tb tc):=⟨by
 intro pins s U H Q I h0
 have m:M2 X (.Name x p) "get" apos e f cpos:=⟨rfl,by rw [cC h,cC h2];rfl,hline,by rw [cC h,cC h2];rfl⟩
 refine wpAny_Call_method m.base m.few m.line PySem.F.plainAttrs_dict PySem.F.slot_dict_get PySem.F.type_dict_get (dB ((uB hg D.1 (show RelV (.ref (fB X.mg x)) (Value.ref (fB X.mg x)) from rfl) hd) pins s U H (fun v H1=>v= .ref (fB X.mg x)/\tb U H1 fun y H2=>tc U H2 fun z H3=>∃ k,y= .str k/\Q (((kvs.lookup k).map V.str).getD z) H3) I ⟨rfl,h0⟩) fun u s1 qq0=>?_)
 obtain ⟨v0,H1,I1,rx,ev,q1⟩:=qq0
 subst ev
 obtain rfl:u=Value.ref (fB X.mg x):=rx
 obtain ⟨vs,dd,rel⟩:=D.2.of I1
 refine ⟨dd.typeIs,fun b q=>?_,?_⟩
 ·cases q
  obtain ⟨ob,_,_,h1,h2,_⟩:=dd
  exact ⟨ob,h1,h2.2.1⟩
 rw [m.trees]
 refine Calls.callWith_builtin rfl (Calls.evalArgs_plain (Calls.spliced_cons (dB (he.run pins s1 U H1 _ I1 q1) fun iv s2 ⟨y,H2,I2,ry,q2⟩=>
  Calls.spliced_cons (dB (hf.run pins s2 U H2 _ I2 q2) fun fv s3 ⟨z,H3,I3,rz,k,ey,q3⟩=>Calls.spliced_nil ?_))))
 subst ey
 obtain ⟨vs,dd,rel⟩:=D.2.of I3
 exact call_meetsIn PySem.F.slot_dict_get dd.typeIs PySem.F.entry_dict_get (PySem.F.args_dict_get_3 _ _ _) (meets_dict_get_default (aR X.prog X.w) _ (rm (k:=Sum.inr k) ry) D.2.ns fv) ⟨_,dd.mapOf,_,H3,I3.tok _,(rel k).getD rz,q3⟩⟩
theorem eV (h:tb U H fun y H1=>tc U H1 fun z H2=>∃ k,y= .str k/\Q (((kvs.lookup k).map V.str).getD z) H2):CG kvs tb tc U H Q:=h
end
theorem HY {w:World} {K:W.Frag} {mg:Str->Option Value} {h:Heap} (X:K.In h) (G:h.Ns mainGlobals mg) {x:Str} {C:Addr} {kvs:List (Str×Str)} {es:Array DictEntry} {n:Nat} (a:PySem.W.nsIn K mainGlobals x=some (some (.ref C)))
  (l:K.lookup C=some {cls:=.type "dict",data:=.dict es n}) (e:yx w es.toList kvs) (s:(C == sysModules)=false) (d:(kvs.map (·.1)).Nodup):MP w K mg x kvs:=by
 have e0:=PySem.W.mg_of X G a
 have ec:=nM e0
 exact ⟨by rw [ec];exact e0,by rw [ec];exact ⟨⟨es,n,l,e⟩,s,d⟩⟩
def CJ:List V->Hp->VK->Prop:=fun xs H Q=>((∃ i,xs=[.int i]/\Q (.int i) H)\/∃ k,xs=[.bl k]/\Q (.int (if k then 1 else 0)) H)\/∃ x n,xs=[.str x]/\intText? x=some n/\x.length<=640/\Q (.int n) H
theorem jD {X:Cx}:CallR X (.type "int") CJ:=by
 intro pins s U H xs us Q I r h
 rcases h with h | ⟨x,n,rfl,hn,hl,q⟩
 ·exact yU pins s U H xs us Q I r h
 ·obtain ⟨u,rfl,t,rfl⟩:=vals1 r
  exact PySem.W.KIN.call_text hn hl ⟨.int n,H,I.tok _,⟨_,rfl⟩,q⟩
theorem Lb {H:Hp} {Q:VK} {x:Str} {n:Int} (hn:intText? x=some n) (hl:x.length<=640) (h:Q (.int n) H):CJ [.str x] H Q:=.inr ⟨x,n,rfl,hn,hl,h⟩
def Ld (K:W.Frag):V->List V->Hp->VK->Prop:=fun x xs H Q=>∃ (sep:Str) (p:Addr) (ys:List Str),x= .str sep/\xs=[.ref p]/\SqT K H p (ys.map V.str)/\(ys.map (·.length)).sum+ys.length*sep.length<=16777216/\Q (.str (Txt.join sep ys)) H
def CK (K:W.Frag):V->List V->Hp->VK->Prop:=fun x xs H Q=>rJoin x xs H Q\/Ld K x xs H Q
theorem lC {X:Cx} {K:W.Frag} (hK:X.K=K):Hy X "str.join" (CK K):=by
 subst hK
 intro pins s U H x xs v us Q I rx r h
 rcases h with h | ⟨sep,p,ys,rfl,rfl,hp,hz,q⟩
 ·exact Ey pins s U H x xs v us Q I rx r h
 ·obtain ⟨u,rfl,ru⟩:=vals1 r
  cases ru
  obtain ⟨t,rfl⟩:=rx
  obtain ⟨its,rv,e,_⟩:=I.tuple hp
  exact join_tuple (items:=its.toArray) e (by simpa using mF rv) hz fun t' k=>⟨.str _,H,I.tok _,⟨_,rfl⟩,q⟩
section
variable {K:W.Frag} {H:Hp} {Q:VK}
theorem nU {sep:Str} {p:Addr} {ys:List Str} (hp:H p=some (.lst (ys.map V.str))) (hz:(ys.map (·.length)).sum+ys.length*sep.length<=16777216) (h:Q (.str (Txt.join sep ys)) H):CK K (.str sep) [.ref p] H Q:=.inl (Kr hp hz h)
end
end L2
namespace L2
open PySem PySem.Spec PyProof.Rows
open PySem.Sem (wp)
open AutoSeq1 (wpAny_loadPart')
theorem Le:isSubtype (.type "dict") (.type "str")=pure false:=by rw [isSubtype_type];kernel_rfl
theorem CN:isSubtype (.type "str") (.type "dict")=pure false:=by rw [isSubtype_type];kernel_rfl
theorem lD (l:Addr) (x:Str) (t:Tok) (items:Array DictEntry) (ep:Nat) (dd:Option Addr) (sl:Array (Option Value)):
  Meets (Builtin.«dict.__eq__» ⟨[.ref l,.str x t],[]⟩) (fun _ R s=>s.heap.get? l=some {cls:=.type "dict",dict:=dd,data:=.dict items ep,slots:=sl}/\R (.ok (.ret .notImplemented)) s):=
 .of_wp fun prog w A R s h=>by obtain ⟨hp,g,d,tk,os⟩:=s;obtain ⟨hl,h⟩:=h;have f1:=CN;wp_walk using wpAny_loadPart' hl;exact ⟨_,rfl,h⟩
theorem lE (l:Addr) (x:Str) (t:Tok) (items:Array DictEntry) (ep:Nat) (dd:Option Addr) (sl:Array (Option Value)):
  Meets (Builtin.«str.__eq__» ⟨[.str x t,.ref l],[]⟩) (fun _ R s=>s.heap.get? l=some {cls:=.type "dict",dict:=dd,data:=.dict items ep,slots:=sl}/\R (.ok (.ret .notImplemented)) s):=
 .of_wp fun prog w A R s h=>by obtain ⟨hp,g,d,tk,os⟩:=s;obtain ⟨hl,h⟩:=h;have f1:=Le;wp_walk using wpAny_loadPart' hl;exact ⟨_,rfl,h⟩
theorem dict_str {prog:Program} {w:World} {A:Around} {E:Value->Shared->Prop} {s:Shared} {Q:Value->Shared->Prop} {a:Addr} {x:Str} {t:Tok} {o:Obj} {items:Array DictEntry} {ep:Nat} (ho:s.heap.get? a=some o) (hc:o.cls= .type "dict") (hd:o.data= .dict items ep)
  (hu:A.units < cLine) (h:Q (.bool false) s):wpAny (model prog w) A (compareOp .Eq (.ref a) (.str x t)) Q E s:=by
 show wpAny _ _ (richCompare .Eq (.ref a) (.str x t)) _ _ _
 obtain ⟨cls,dd,data,sl⟩:=o
 simp only at hc hd
 subst hc hd
 exact (SeqAt.rc_eq_decline_or (k:=false) ⟨_,ho,rfl⟩ rfl (by decide) CN F.slot_dict_eq F.slot_str_eq_refl
  (fun _ hq=>PySem.call_meets F.slot_dict_eq ⟨_,ho,rfl⟩ F.entry_dict_eq (F.args_dict_eq_2 _ _) (lD a x t items ep dd sl) ⟨ho,hq⟩)
  (fun _ hq=>PySem.call_meets F.slot_str_eq_refl rfl F.entry_str_eq (F.args_str_eq_2 _ _) (lE a x t items ep dd sl) ⟨ho,hq⟩)
  (fun _ hq=>PySem.wpAny_isSame_plain rfl hq) (.inr hu) h)
section
variable {X:Cx}
def Ia:R2:=fun x y H Q=>∃ a kvs z,x= .ref a/\y= .str z/\H a=some (.dK kvs)/\Q (.bl false) H
theorem Gn (hu:X.A.units < cLine):OpR X (compareOp .Eq) Ia:=by
 intro pins s U H x y v u Q I rx ry h
 obtain ⟨a,kvs,z,rfl,rfl,ha,q⟩:=h
 cases rx
 obtain ⟨t,rfl⟩:=ry
 obtain ⟨_,hsm,vs,kv,o,es,ep,h1,h2,h3,h4,h5,h6⟩:=(show ObjOk X.prog X.w H s.heap a (.dK kvs) from I.hok a _ ha)
 exact dict_str h1 h2.1 h3 hu ⟨.bl false,H,I,rfl,q⟩
def Lf (K:W.Frag):R2:=fun x y H Q=>FT K x y H Q\/Ia x y H Q
theorem CP {K:W.Frag} (hK:X.K=K) (hu:X.A.units+64 < cLine):OpR X (compareOp .Eq) (Lf K):=by
 subst hK
 exact (aN rfl hu).or (Gn (Nat.lt_of_le_of_lt (Nat.le_add_right _ _) hu))
end
section
variable {H:Hp} {Q:VK} {K:W.Frag}
theorem CQ {i j:Str} (h:Q (.bl (decide (V.str i=V.str j))) H):Lf K (.str i) (.str j) H Q:=.inl (gn h)
end
end L2
namespace My
open PySem L2
local macro_rules | `(tactic| walk_at "p") => `(tactic| first | exact aC _ | with_unfolding_all rfl)
local macro_rules | `(tactic| walk_at "0") => `(tactic| (first | refine qi ?_ | refine p6 ?_ | refine pZ ?_ | refine kj ?_ | refine km ?_ | (refine' j5 ?hz0 ?_; (case hz0 => with_unfolding_all rfl)) | refine z6 ?_ | refine qt ?_ | refine il ?_ | refine gU ?_ | refine j6 ?_ | refine jV ?_ | refine gO ?_ | refine jX ?_ | refine gM ?_ | refine qd ?_ | refine gQ ?_ | refine qu ?_ | refine ql ?_ | refine gW ?_ | refine qe ?_ | refine jY ?_ | refine jZ ?_ | refine qg ?_ | refine gR ?_ | refine j0 ?_ | refine j4 ?_ | refine jW ?_ | refine gP ?_ | refine qj ?_ | refine qm ?_ | refine qp ?_ | refine j7 ?_ | refine gY ?_ | refine gZ ?_ | refine ie ?_ | refine ig ?_ | refine ik ?_ | refine j8 ?_ | refine z8 ?_ | refine eG ?_ | refine eQ ?_ | refine eO ?_ | refine iC ?_ | refine iD ?_ | refine gk ?_ | refine gm ?_ | refine iG ?_ | refine gn ?_ | refine kh ?_ | refine qw ?_ | refine gf ?_ | refine gj ?_ | refine iz ?_ | refine iB ?_ | refine ji ?_ | refine cY ?_ | refine iu ?_ | (refine' z7 ?hz0 ?_; (case hz0 => with_unfolding_all first | assumption | omega | (dsimp only <;> omega) | exact ⟨by omega, by omega⟩ | exact .inl ⟨by omega, by omega⟩ | exact .inr ⟨by omega, by omega⟩ | exact ⟨by decide, by decide, by decide⟩)) | (refine' ir ?hz0 ?_; (case hz0 => with_unfolding_all first | assumption | omega | (dsimp only <;> omega) | exact ⟨by omega, by omega⟩ | exact .inl ⟨by omega, by omega⟩ | exact .inr ⟨by omega, by omega⟩ | exact ⟨by decide, by decide, by decide⟩)) | (refine' bH (SqL.of ?hz0) ?hz1 ?_; (case hz0 => first | assumption | exact au); (case hz1 => with_unfolding_all rfl)) | (refine' j9 (SqT.of ?hz0) ?hz1 ?_; (case hz0 => first | assumption | exact au); (case hz1 => with_unfolding_all rfl)) | (refine' fZ ?hz0 ?hz1 ?_; (case hz0 => first | assumption | exact au); (case hz1 => with_unfolding_all rfl)) | refine eV ?_ | refine jt ?_ | refine iH ?_ | refine cG ?_))
local macro_rules | `(tactic| walk_at "1") => `(tactic| (first | refine qi ?_ | refine p6 ?_ | refine pZ ?_ | refine kj ?_ | refine km ?_ | (refine' j5 ?hz0 ?_; (case hz0 => with_unfolding_all rfl)) | refine z6 ?_ | refine qt ?_ | refine il ?_ | refine gU ?_ | refine j6 ?_ | refine jV ?_ | refine gO ?_ | refine jX ?_ | refine gM ?_ | refine qd ?_ | refine gQ ?_ | refine qu ?_ | refine ql ?_ | refine gW ?_ | refine qe ?_ | refine jY ?_ | refine jZ ?_ | refine qg ?_ | refine gR ?_ | refine j0 ?_ | refine j4 ?_ | refine jW ?_ | refine gP ?_ | refine qj ?_ | refine jw ?_ | refine ju ?_ | refine qm ?_ | refine qp ?_ | refine j7 ?_ | refine gY ?_ | refine gZ ?_ | refine ie ?_ | refine ig ?_ | refine ik ?_ | refine j8 ?_ | refine z8 ?_ | refine eG ?_ | refine eQ ?_ | refine eO ?_ | refine iC ?_ | refine iD ?_ | refine gk ?_ | refine gm ?_ | refine iG ?_ | refine gn ?_ | refine kh ?_ | refine qw ?_ | refine gf ?_ | refine gj ?_ | refine iz ?_ | refine iB ?_ | refine ji ?_ | refine cY ?_ | refine iu ?_ | (refine' z7 ?hz0 ?_; (case hz0 => with_unfolding_all first | assumption | omega | (dsimp only <;> omega) | exact ⟨by omega, by omega⟩ | exact .inl ⟨by omega, by omega⟩ | exact .inr ⟨by omega, by omega⟩ | exact ⟨by decide, by decide, by decide⟩)) | (refine' ir ?hz0 ?_; (case hz0 => with_unfolding_all first | assumption | omega | (dsimp only <;> omega) | exact ⟨by omega, by omega⟩ | exact .inl ⟨by omega, by omega⟩ | exact .inr ⟨by omega, by omega⟩ | exact ⟨by decide, by decide, by decide⟩)) | (refine' bH (SqL.of ?hz0) ?hz1 ?_; (case hz0 => first | assumption | exact au); (case hz1 => with_unfolding_all rfl)) | (refine' j9 (SqT.of ?hz0) ?hz1 ?_; (case hz0 => first | assumption | exact au); (case hz1 => with_unfolding_all rfl)) | (refine' fZ ?hz0 ?hz1 ?_; (case hz0 => first | assumption | exact au); (case hz1 => with_unfolding_all rfl)) | refine eV ?_ | refine iH ?_ | refine cG ?_))
local macro_rules | `(tactic| walk_at "2") => `(tactic| (first | refine qi ?_ | refine p6 ?_ | refine pZ ?_ | refine kj ?_ | refine km ?_ | (refine' j5 ?hz0 ?_; (case hz0 => with_unfolding_all rfl)) | refine z6 ?_ | refine qt ?_ | refine il ?_ | refine gU ?_ | refine j6 ?_ | refine jV ?_ | refine gO ?_ | refine jX ?_ | refine gM ?_ | refine qd ?_ | refine gQ ?_ | refine qu ?_ | refine ql ?_ | refine gW ?_ | refine qe ?_ | refine jY ?_ | refine jZ ?_ | refine qg ?_ | refine gR ?_ | refine j0 ?_ | refine j4 ?_ | refine jW ?_ | refine gP ?_ | refine qj ?_ | refine jw ?_ | refine ju ?_ | refine qm ?_ | refine qp ?_ | refine j7 ?_ | refine gY ?_ | refine gZ ?_ | refine ie ?_ | refine ig ?_ | refine ik ?_ | refine j8 ?_ | refine z8 ?_ | refine eG ?_ | refine eQ ?_ | refine eO ?_ | refine iC ?_ | refine iD ?_ | refine gk ?_ | refine gm ?_ | refine iG ?_ | refine gn ?_ | refine kh ?_ | refine qw ?_ | refine gf ?_ | refine gj ?_ | refine iz ?_ | refine iB ?_ | refine ji ?_ | refine cY ?_ | refine iu ?_ | (refine' z7 ?hz0 ?_; (case hz0 => with_unfolding_all first | assumption | omega | (dsimp only <;> omega) | exact ⟨by omega, by omega⟩ | exact .inl ⟨by omega, by omega⟩ | exact .inr ⟨by omega, by omega⟩ | exact ⟨by decide, by decide, by decide⟩)) | (refine' ir ?hz0 ?_; (case hz0 => with_unfolding_all first | assumption | omega | (dsimp only <;> omega) | exact ⟨by omega, by omega⟩ | exact .inl ⟨by omega, by omega⟩ | exact .inr ⟨by omega, by omega⟩ | exact ⟨by decide, by decide, by decide⟩)) | (refine' bH (SqL.of ?hz0) ?hz1 ?_; (case hz0 => first | assumption | exact au); (case hz1 => with_unfolding_all rfl)) | (refine' j9 (SqT.of ?hz0) ?hz1 ?_; (case hz0 => first | assumption | exact au); (case hz1 => with_unfolding_all rfl)) | (refine' fZ ?hz0 ?hz1 ?_; (case hz0 => first | assumption | exact au); (case hz1 => with_unfolding_all rfl)) | refine eV ?_ | refine jt ?_ | refine iH ?_ | refine cG ?_))
local macro_rules | `(tactic| walk_at "3") => `(tactic| (first | refine qi ?_ | refine p6 ?_ | refine pZ ?_ | refine kj ?_ | refine km ?_ | (refine' j5 ?hz0 ?_; (case hz0 => with_unfolding_all rfl)) | refine z6 ?_ | refine qt ?_ | refine il ?_ | refine gU ?_ | refine j6 ?_ | refine jV ?_ | refine gO ?_ | refine jX ?_ | refine gM ?_ | refine qd ?_ | refine gQ ?_ | refine qu ?_ | refine ql ?_ | refine gW ?_ | refine qe ?_ | refine jY ?_ | refine jZ ?_ | refine qg ?_ | refine gR ?_ | refine j0 ?_ | refine j4 ?_ | refine jW ?_ | refine gP ?_ | refine qj ?_ | refine jw ?_ | refine ju ?_ | refine qm ?_ | refine qp ?_ | refine j7 ?_ | refine gY ?_ | refine gZ ?_ | refine ie ?_ | refine ig ?_ | refine ik ?_ | refine j8 ?_ | refine z8 ?_ | refine eG ?_ | refine eQ ?_ | refine eO ?_ | refine iC ?_ | refine iD ?_ | refine gk ?_ | refine gm ?_ | refine iG ?_ | refine gn ?_ | refine kh ?_ | refine qw ?_ | refine gf ?_ | refine gj ?_ | refine iz ?_ | refine iB ?_ | refine ji ?_ | refine cY ?_ | refine iu ?_ | (refine' z7 ?hz0 ?_; (case hz0 => with_unfolding_all first | assumption | omega | (dsimp only <;> omega) | exact ⟨by omega, by omega⟩ | exact .inl ⟨by omega, by omega⟩ | exact .inr ⟨by omega, by omega⟩ | exact ⟨by decide, by decide, by decide⟩)) | (refine' ir ?hz0 ?_; (case hz0 => with_unfolding_all first | assumption | omega | (dsimp only <;> omega) | exact ⟨by omega, by omega⟩ | exact .inl ⟨by omega, by omega⟩ | exact .inr ⟨by omega, by omega⟩ | exact ⟨by decide, by decide, by decide⟩)) | (refine' bH (SqL.of ?hz0) ?hz1 ?_; (case hz0 => first | assumption | exact au); (case hz1 => with_unfolding_all rfl)) | (refine' j9 (SqT.of ?hz0) ?hz1 ?_; (case hz0 => first | assumption | exact au); (case hz1 => with_unfolding_all rfl)) | (refine' fZ ?hz0 ?hz1 ?_; (case hz0 => first | assumption | exact au); (case hz1 => with_unfolding_all rfl)) | refine eV ?_ | refine CQ ?_ | refine jt ?_ | refine iH ?_ | refine cG ?_))
abbrev cF (d:Stmt) (x:Str):Prop:=(ak d).names.lookup x=some NameKind.local
abbrev KCc (d:Stmt) (x:Str):Prop:=(ak d).names.lookup x=some NameKind.cell
abbrev bU (d:Stmt) (x:Str):Prop:=(ak d).names.lookup x=some NameKind.globalImplicit
def top (i:Nat):Stmt:=PySem.Challenge.pw_panethread_k84_words_spoilt.main.body.getD i (.Pass ⟨0,0,0,0⟩)
abbrev di:Stmt:=top 9
abbrev dZ:Stmt:=top 11
abbrev gq:Stmt:=top 12
abbrev bB:Stmt:=top 19
abbrev bN:Stmt:=top 20
abbrev c7:Stmt:=top 21
abbrev wg:Stmt:=top 28
abbrev iZ:Stmt:=top 29
abbrev my:Stmt:=top 30
abbrev dI:Stmt:=top 31
abbrev fK:Stmt:=top 32
abbrev bC:Stmt:=top 33
abbrev bT:Stmt:=top 34
abbrev dJ:Stmt:=top 35
abbrev fM:Stmt:=top 36
abbrev fG:Stmt:=top 37
abbrev bO:Stmt:=top 38
abbrev bz:Stmt:=top 39
abbrev bQ:Stmt:=top 40
abbrev bJ:Stmt:=top 41
abbrev bR:Stmt:=top 42
abbrev cU:Stmt:=top 43
abbrev bK:Stmt:=top 44
abbrev gr:Stmt:=top 46
abbrev bF:Stmt:=top 47
abbrev bY:Stmt:=top 48
abbrev b8:Stmt:=top 49
abbrev cM:Stmt:=top 50
abbrev dM:Stmt:=top 51
abbrev dN:Stmt:=top 52
abbrev cN:Stmt:=top 53
abbrev cz:Stmt:=top 54
abbrev bD:Stmt:=top 55
abbrev cA:Stmt:=top 56
abbrev du:Stmt:=top 57
abbrev bh:Stmt:=top 58
abbrev dO:Stmt:=top 59
abbrev nY:Stmt:=initOf (top 2)
abbrev gH:Stmt:=initOf (top 3)
abbrev jE:Stmt:=initOf (top 4)
local macro_rules | `(tactic| walk_at "s") => `(tactic| (with_reducible repeat (first | refine ue ?_ | walk_at "0")))
local macro_rules | `(tactic| walk_at "n") => `(tactic| (with_reducible repeat (walk_at "0")))
structure Txt (w:World) (K:W.Frag) (mg:Str->Option Value):Prop where
 b_all:mg "all"=none
 b_int:mg "int"=none
 b_isinstance:mg "isinstance"=none
 b_len:mg "len"=none
 b_list:mg "list"=none
 b_max:mg "max"=none
 b_min:mg "min"=none
 b_range:mg "range"=none
 b_str:mg "str"=none
 b_tuple:mg "tuple"=none
 c_CHANGE:∃ t,mg "CHANGE"=some (.str "change" t)
 c_FIGURES:∃ t,mg "FIGURES"=some (.str "0123456789" t)
 c_IN:∃ t,mg "IN"=some (.str "in" t)
 c_KEEP:∃ t,mg "KEEP"=some (.str "keep" t)
 c_LETTERS:∃ t,mg "LETTERS"=some (.str "abcdefghijklmnopqrstuvwxyz" t)
 c_MOST_CHANGES:∃ t,mg "MOST_CHANGES"=some (.int 48 t)
 c_MOST_FIGURES:∃ t,mg "MOST_FIGURES"=some (.int 4 t)
 c_MOST_SIGNS:∃ t,mg "MOST_SIGNS"=some (.int 48 t)
 c_NOTHING:∃ t,mg "NOTHING"=some (.str "-" t)
 c_OUT:∃ t,mg "OUT"=some (.str "out" t)
 c_POINT:∃ t,mg "POINT"=some (.str "." t)
 e_MARKED:MP w K mg "MARKED" [("=","keep"),("!","change"),("<","out"),(">","in")]
 e_MARKS:MP w K mg "MARKS" [("keep","="),("change","!"),("out","<"),("in",">")]
 d_is_letter:dj K mg "is_letter" di
 d_is_row:dj K mg "is_row" dZ
 d_need_row:dj K mg "need_row" gq
 d_is_change:dj K mg "is_change" bB
 d_is_changes:dj K mg "is_changes" bN
 d_need_changes:dj K mg "need_changes" c7
 d_listed:dj K mg "listed" wg
 d_row_word:dj K mg "row_word" iZ
 d_change_word:dj K mg "change_word" my
 d_changes_word:dj K mg "changes_word" dI
 d_need_word:dj K mg "need_word" fK
 d_is_number_word:dj K mg "is_number_word" bC
 d_is_pair_word:dj K mg "is_pair_word" bT
 d_parts_of:dj K mg "parts_of" dJ
 d_pair_read:dj K mg "pair_read" fM
 d_read_row:dj K mg "read_row" fG
 d_read_number:dj K mg "read_number" bO
 d_read_numbers:dj K mg "read_numbers" bz
 d_read_pairs:dj K mg "read_pairs" bQ
 d_heaps_parted:dj K mg "heaps_parted" bJ
 d_read_heaps:dj K mg "read_heaps" bR
 d_change_read:dj K mg "change_read" cU
 d_read_changes:dj K mg "read_changes" bK
 d_law_cell:dj K mg "_law_cell" gr
 d_law_numbers:dj K mg "_law_numbers" bF
 d_law_text:dj K mg "_law_text" bY
 d_law_thing:dj K mg "_law_thing" b8
 d_law_number:dj K mg "_law_number" cM
 d_law_parts:dj K mg "_law_parts" dM
 d_law_pair:dj K mg "_law_pair" dN
 d_law_change:dj K mg "_law_change" cN
 d_law_each:dj K mg "_law_each" cz
 d_law_due:dj K mg "_law_due" bD
 d_law_read:dj K mg "_law_read" cA
 d_law_told:dj K mg "_law_told" du
 d_law_unwritten:dj K mg "_law_unwritten" bh
 d_law:dj K mg "law" dO
 x_NoRow:v6 K mg "NoRow" ["found"] "NoRow.__init__" nY
 x_NoChanges:v6 K mg "NoChanges" ["found"] "NoChanges.__init__" gH
 x_NoWords:v6 K mg "NoWords" ["found"] "NoWords.__init__" jE
 u_NoRow_NoRow:Sub K mg "NoRow" "NoRow" true
 u_NoRow_NoChanges:Sub K mg "NoRow" "NoChanges" false
 u_NoRow_NoWords:Sub K mg "NoRow" "NoWords" false
 u_NoChanges_NoRow:Sub K mg "NoChanges" "NoRow" false
 u_NoChanges_NoChanges:Sub K mg "NoChanges" "NoChanges" true
 u_NoChanges_NoWords:Sub K mg "NoChanges" "NoWords" false
 u_NoWords_NoRow:Sub K mg "NoWords" "NoRow" false
 u_NoWords_NoChanges:Sub K mg "NoWords" "NoChanges" false
 u_NoWords_NoWords:Sub K mg "NoWords" "NoWords" true
def glue (c:Nat):List (List Nat)->List Nat
 | []=>[]
 | q :: r=>q ++ c :: glue c r
theorem yz {c:Nat}:∀ {q q' r r':List Nat},c ∉ q->c ∉ q'->q ++ c :: r=q' ++ c :: r'->q=q'/\r=r'
 | [],[],_,_,_,_,h=>⟨rfl,by simpa using h⟩
 | [],x :: q',_,_,_,h2,h=>by
  have:c=x:=by simpa using congrArg List.head? h
  exact absurd (by rw [this];simp) h2
 | x :: q,[],_,_,h1,_,h=>by
  have:x=c:=by simpa using congrArg List.head? h
  exact absurd (by rw [this];simp) h1
 | x :: q,y :: q',_,_,h1,h2,h=>by
  simp only [List.cons_append,List.cons.injEq] at h
  obtain ⟨a,b⟩:=yz (fun z=>h1 (List.mem_cons_of_mem _ z)) (fun z=>h2 (List.mem_cons_of_mem _ z)) h.2
  exact ⟨by rw [h.1,a],b⟩
theorem wj {c:Nat}:∀ {a b:List (List Nat)},(∀ q∈a,c ∉ q)->(∀ q∈b,c ∉ q)->glue c a=glue c b->a=b
 | [],[],_,_,_=>rfl
 | [],q :: r,_,_,h=>by simp [glue] at h
 | q :: r,[],_,_,h=>by simp [glue] at h
 | q :: r,q' :: r',h1,h2,h=>by
  obtain ⟨a,b⟩:=yz (h1 q (by simp)) (h2 q' (by simp)) (show q ++ c :: glue c r=q' ++ c :: glue c r' from h)
  rw [a,wj (fun x hx=>h1 x (List.mem_cons_of_mem _ hx)) (fun x hx=>h2 x (List.mem_cons_of_mem _ hx)) b]
theorem uo (c:Nat):∀ (ps:List Str),ps≠[]->(Str.join ⟨#[c]⟩ ps).cps.toList ++ [c]=glue c (ps.map fun p=>p.cps.toList)
 | [],h=>absurd rfl h
 | [p],_=>rfl
 | p :: q :: r,_=>by
  have ih:=uo c (q :: r) (by simp)
  show ((p ++ ⟨#[c]⟩) ++ Str.join ⟨#[c]⟩ (q :: r)).cps.toList ++ [c]=p.cps.toList ++ c :: glue c ((q :: r).map fun p=>p.cps.toList)
  rw [← ih,cps_append,cps_append]
  simp
theorem CT (z:Str) (c:Nat):Txt.split z ⟨#[c]⟩≠[]:=by
 unfold Txt.split
 split
 ·simp
 ·split
  ·simp
  ·intro h
   have:=congrArg List.length h
   simp [Builtin.Str.partsBetween] at this
theorem Gp {a b:List Str} (h:(a.map fun p=>p.cps.toList)=b.map fun p=>p.cps.toList):a=b:=by
 have hi:Function.Injective (fun p:Str=>p.cps.toList):=fun x y e=>by
  cases x;cases y;congr;exact Array.ext' e
 exact List.map_inj_right (fun x y e=>hi e) |>.mp h
local macro_rules | `(tactic| walk_at "s") => `(tactic| (with_reducible repeat (first | refine ue ?_ | walk_at "1")))
local macro_rules | `(tactic| walk_at "n") => `(tactic| (with_reducible repeat (walk_at "1")))
section
variable {P:Program} {w:World} {K:W.Frag} {mg:Str->Option Value} {base:Heap}
def nW (n:Nat):Str:=Str.ofString (toString (n:Int))
def Lg (m:Nat):List Nat:=(Nat.toDigits 10 m).map Char.toNat
theorem Lh (m:Nat):(nW m).cps.toList=Lg m:=PySem.W.KIN.signs_num m
theorem uq {m:Nat} (h:m < 10):Lg m=[48+m]:=by
 have key:∀ k∈List.range 10,Lg k=[48+k]:=by trivial
 exact key m (List.mem_range.mpr h)
theorem Gq {m:Nat} (h:10<=m):Lg m=Lg (m / 10) ++ [48+m % 10]:=by
 have t:Nat.toDigits 10 (m / 10) ++ Nat.toDigits 10 (m % 10)=Nat.toDigits 10 (10*(m / 10)+m % 10):=Nat.toDigits_append_toDigits (by decide) (by omega) (by omega)
 rw [Nat.div_add_mod] at t
 unfold Lg
 rw [← t,List.map_append]
 congr 1
 exact uq (by omega)
theorem Li {n:Nat} (h:n < 10000):intText? (nW n)=some (n:Int):=PySem.W.KIN.num_reads (by omega) (by omega)
theorem Gr {a b:Str} (h:a.cps.toList=b.cps.toList):a=b:=by
 cases a;cases b;congr 1;exact Array.toList_inj.mp h
def lF (l:List Nat):Nat:=l.foldl (fun a c=>10*a+(c - 48)) 0
theorem pq (l:List Nat) (c:Nat):lF (l ++ [c])=10*lF l+(c - 48):=by unfold lF;rw [List.foldl_append];rfl
theorem Gs:∀ (k:Nat) (l:List Nat),l.length=k+1->(∀ c∈l,48<=c/\c < 58)->(l.length=1\/l.head?≠some 48)->Lg (lF l)=l/\lF l < 10 ^ (k+1)/\(l.head?≠some 48->1<=lF l):=by
 intro k
 induction k with
 | zero=>
  intro l hl hc h0
  match l,hl with
  | [c],_=>
   have:=hc c (by simp)
   have e:lF [c]=c - 48:=by unfold lF;simp
   rw [e]
   refine ⟨?_,by omega,fun h=>?_⟩
   ·rw [uq (by omega)];congr 1;omega
   ·have:c≠48:=fun z=>h (by rw [z];rfl)
    omega
 | succ k ih=>
  intro l hl hc h0
  obtain ⟨m,c,rfl⟩:∃ m c,l=m ++ [c]:=⟨l.dropLast,l.getLast (by intro z;rw [z] at hl;simp at hl),(List.dropLast_concat_getLast _).symm⟩
  have hm:m.length=k+1:=by rw [List.length_append] at hl;simpa using hl
  have hh:(m ++ [c]).head?=m.head?:=by
   cases m with
   | nil=>simp at hm
   | cons a m=>rfl
  have h1:m.head?≠some 48:=by
   rcases h0 with h0 | h0
   ·rw [hl] at h0;omega
   ·rw [hh] at h0;exact h0
  obtain ⟨i1,i2,i3⟩:=ih m hm (fun x hx=>hc x (List.mem_append.mpr (.inl hx))) (.inr h1)
  have i4:=i3 h1
  have hcc:=hc c (by simp)
  rw [pq]
  refine ⟨?_,by rw [Nat.pow_succ];omega,fun _=>by omega⟩
  rw [Gq (by omega),show (10*lF m+(c - 48)) / 10=lF m by omega,i1,show 48+(10*lF m+(c - 48)) % 10=c by omega]
def zN (z:Str):Bool:=z.cps.toList.all fun c=>decide (48<=c/\c < 58)
def gJ (z:Str):Bool:=(decide (1<=z.length/\z.length<=4) && zN z) && (decide (z.length=1) || decide (z.cps.toList.head?≠some 48))
def nO (z:Str):Option Nat:=if gJ z=true then some (lF z.cps.toList) else none
theorem dR (z:Str):z.cps.toList.length=z.length:=by simp [Str.length]
theorem Gu {z:Str} {n:Nat} (h:nO z=some n):z=nW n/\n < 10000:=by
 unfold nO at h
 split at h
 ·rename_i hb
  cases h
  unfold gJ zN at hb
  simp only [Bool.and_eq_true,Bool.or_eq_true,decide_eq_true_eq,List.all_eq_true] at hb
  obtain ⟨⟨⟨h1,h4⟩,hd⟩,h0⟩:=hb
  have hl:=dR z
  obtain ⟨k,hk⟩:∃ k,z.length=k+1:=⟨z.length - 1,by omega⟩
  obtain ⟨a,b,_⟩:=Gs k z.cps.toList (by omega) hd (by rw [hl];exact h0)
  refine ⟨Gr (by rw [Lh,a]),Nat.lt_of_lt_of_le b ?_⟩
  exact Nat.pow_le_pow_right (n:=10) (by omega) (show k+1<=4 by omega)
 ·cases h
theorem pR (c:Nat) (a b:List (List Nat)):glue c (a ++ b)=glue c a ++ glue c b:=by
 induction a with
 | nil=>rfl
 | cons q r ih=>show q ++ c :: glue c (r ++ b)=(q ++ c :: glue c r) ++ glue c b;rw [ih];simp
theorem rR (z:Str) (c:Nat):glue c ((Txt.split z ⟨#[c]⟩).map fun p=>p.cps.toList)=z.cps.toList ++ [c]:=by
 rw [← uo c _ (CT _ c),StrLaws.join_split]
theorem CV {z:Str} {c:Nat} {ys:List Str} (hg:glue c (ys.map fun p=>p.cps.toList)=z.cps.toList ++ [c]) (hf:∀ y∈ys,c ∉ y.cps.toList):Txt.split z ⟨#[c]⟩=ys:=by
 refine Gp (wj (c:=c) ?_ ?_ ?_)
 ·intro q hq
  obtain ⟨p,hp,rfl⟩:=List.mem_map.mp hq
  exact StrLaws.split_free _ c p hp
 ·intro q hq
  obtain ⟨p,hp,rfl⟩:=List.mem_map.mp hq
  exact hf p hp
 ·rw [rR,hg]
theorem zO (c:Nat) (l:List (List Nat)):l.length<=(glue c l).length/\∀ q∈l,q.length+1<=(glue c l).length:=by
 induction l with
 | nil=>exact ⟨Nat.le_refl _,fun q h=>by cases h⟩
 | cons q r ih=>
  have e:(glue c (q :: r)).length=q.length+1+(glue c r).length:=by show (q ++ c :: glue c r).length=_;rw [List.length_append,List.length_cons];omega
  rw [e]
  refine ⟨by rw [List.length_cons];omega,fun p hp=>?_⟩
  rcases List.mem_cons.mp hp with rfl | hp
  ·omega
  ·have:=ih.2 p hp;omega
theorem dw (z:Str) (c:Nat):(Txt.split z ⟨#[c]⟩).length<=z.length+1/\∀ y∈Txt.split z ⟨#[c]⟩,y.length<=z.length:=by
 have h:=zO c ((Txt.split z ⟨#[c]⟩).map fun p=>p.cps.toList)
 have hl:=dR z
 rw [rR,List.length_map,List.length_append,List.length_singleton,hl] at h
 refine ⟨h.1,fun y hy=>?_⟩
 have:=h.2 y.cps.toList (List.mem_map.mpr ⟨y,hy,rfl⟩)
 rw [dR] at this
 omega
def pO (z:Str):Option (Nat×Nat):=match Txt.split z ⟨#[58]⟩ with
 | [a,b]=>(match nO a,nO b with | some x,some y=>some (x,y) | _,_=>none)
 | _=>none
def jh (c:Nat):Bool:=decide (97<=c/\c < 123)
def isC (k:Str) (ls:List Nat):Bool:=ls.all jh && (match ls with
 | [_]=>decide (k=Str.ofString "keep"\/k=Str.ofString "out"\/k=Str.ofString "in")
 | [a,b]=>decide (k=Str.ofString "change") && decide (a≠b)
 | _=>false)
def Lj:List (Str×Str):=[("=","keep"),("!","change"),("<","out"),(">","in")]
def kO (z:Str):Str:=(Lj.lookup (Txt.slice z none (some 1))).getD (Str.ofString "")
def lO (z:Str):List Nat:=z.cps.toList.drop 1
def vq (k:Str) (ls:List Nat):List V:=.str k :: ls.map fun x=>.str ⟨#[x]⟩
def pD (p:Nat×Nat):PyData:=.tuple [.int (p.1:Int),.int (p.2:Int)]
def cD (k:Str) (ls:List Nat):PyData:=.tuple (.str k :: ls.map fun x=>.str ⟨#[x]⟩)
def cO (z:Str):Option PyData:=if isC (kO z) (lO z)=true then some (cD (kO z) (lO z)) else none
def lG (f:Str->Option PyData) (ys:List Str):Option PyData:=if ys.all (fun y=>(f y).isSome)=true then some (.list (ys.map fun y=>(f y).getD .none)) else none
def eN (y:Str):Option PyData:=(nO y).map fun n:Nat=>PyData.int (n:Int)
def eP (y:Str):Option PyData:=(pO y).map pD
def eH (y:Str):Option PyData:=lG eP (Txt.split y ⟨#[44]⟩)
def lists (c:Nat) (f:Str->Option PyData) (z:Str):Option PyData:=if z=Str.ofString "-" then some (.list []) else lG f (Txt.split z ⟨#[c]⟩)
def GOOD:List Nat:=(Str.ofString "abcdefghijklmnopqrstuvwxyz" ++ Str.ofString ".").cps.toList
def mJ (z:Str):Bool:=decide (z.length<=48) && z.cps.toList.all fun c=>decide (c∈GOOD)
def out (k:Int) (z:Str):Option PyData:=
 if k=0 then (if z=Str.ofString "-" then some (.str (Str.ofString "")) else if mJ z=true/\z≠Str.ofString "" then some (.str z) else none)
 else if k=1 then eN z
 else if k=2 then lists 44 eN z
 else if k=3 then lists 44 eP z
 else if k=4 then lists 47 eH z
 else if z≠Str.ofString "-"/\48 < (Txt.split z ⟨#[44]⟩).length then none else lists 44 cO z
end
local macro_rules | `(tactic| walk_at "s") => `(tactic| (with_reducible repeat (first | refine ue ?_ | walk_at "2")))
local macro_rules | `(tactic| walk_at "n") => `(tactic| (with_reducible repeat (walk_at "2")))
section
variable {P:Program} {w:World} {K:W.Frag} {mg:Str->Option Value} {base:Heap}
theorem wk:(["sign"]:List Str).Nodup:=by trivial
theorem Lk:cF di "thing":=by trivial
theorem kz01:bU di "LETTERS":=by trivial
theorem kz02:bU di "len":=by trivial
theorem kz03:bU di "isinstance":=by trivial
theorem kz04:bU di "str":=by trivial
theorem kz05:bU dZ "all":=by trivial
theorem Ln:cF dZ "thing":=by trivial
theorem kz07:bU dZ "len":=by trivial
theorem kz08:bU dZ "MOST_SIGNS":=by trivial
theorem kz09:bU dZ "isinstance":=by trivial
theorem kz0a:bU dZ "str":=by trivial
theorem kz0b:bU gq "is_row":=by trivial
theorem Pb:cF gq "thing":=by trivial
theorem kz0d:bU gq "NoRow":=by trivial
theorem kz0e:bU iZ "need_row":=by trivial
theorem kz0f:cF iZ "row":=by trivial
theorem sV:cF nY "self":=by trivial
theorem rT:cF nY "found":=by trivial
theorem nZ:cF gH "self":=by trivial
theorem mK:cF gH "found":=by trivial
theorem qy:cF jE "self":=by trivial
theorem pA:cF jE "found":=by trivial
theorem zP:aK ["self","found"] ["self","found"] (ak nY):=⟨rfl,rfl,rfl,by trivial,rfl,by trivial,by trivial⟩
theorem CW (T:Txt w K mg):KJ P w K mg base 1 "NoRow" (fB mg "NoRow") ["found"]:=mkX T.x_NoRow zP (fun _ _ _ _ _ _ us hl=>L2.oU (fun _ _=>rfl) us hl) rfl fun f cdv A outer s H vs Q E hr h=>⟨_,(aA (uW (K:=K) rfl (ao 0 sV) (ao 1 rT))),rd1 T.x_NoRow.c.cl.cls (T.x_NoRow.na _ (by simp)) h⟩
theorem sW:aK ["self","found"] ["self","found"] (ak gH):=⟨rfl,rfl,rfl,by trivial,rfl,by trivial,by trivial⟩
theorem u0 (T:Txt w K mg):KJ P w K mg base 1 "NoChanges" (fB mg "NoChanges") ["found"]:=mkX T.x_NoChanges sW (fun _ _ _ _ _ _ us hl=>L2.oU (fun _ _=>rfl) us hl) rfl fun f cdv A outer s H vs Q E hr h=>⟨_,(aA (uW (K:=K) rfl (ao 0 nZ) (ao 1 mK))),rd1 T.x_NoChanges.c.cl.cls (T.x_NoChanges.na _ (by simp)) h⟩
theorem wu:aK ["self","found"] ["self","found"] (ak jE):=⟨rfl,rfl,rfl,by trivial,rfl,by trivial,by trivial⟩
theorem xO (T:Txt w K mg):KJ P w K mg base 1 "NoWords" (fB mg "NoWords") ["found"]:=mkX T.x_NoWords wu (fun _ _ _ _ _ _ us hl=>L2.oU (fun _ _=>rfl) us hl) rfl fun f cdv A outer s H vs Q E hr h=>⟨_,(aA (uW (K:=K) rfl (ao 0 qy) (ao 1 pA))),rd1 T.x_NoWords.c.cl.cls (T.x_NoWords.na _ (by simp)) h⟩
def NotS (K:W.Frag) (H:Hp) (v:V):Prop:=∃ T,TyOf K H v (.type T)/\PySem.W.kitOne K (.type T) (.type "str")=some false
theorem NotS.same {H H':Hp} {v:V} (h:NotS K H v) (s:Same H H'):NotS K H' v:=by
 obtain ⟨T,a,c⟩:=h
 exact ⟨T,a.mono fun b o e _=>s b o e,c⟩
theorem NotS.no {H:Hp} {v:V} (h:NotS K H v):∀ z,v≠.str z:=fun z e=>by
 subst e
 obtain ⟨T,a,c⟩:=h
 cases a
 have:PySem.W.kitOne K (.type "str") (.type "str")=some true:=rfl
 rw [this] at c;cases c
def Lp:Sp:=fun vs H Q _=>∃ c:Nat,vs=[.str ⟨#[c]⟩]/\Q (.bl (jh c)) H
theorem CZ:∀ c,(c∈(Str.ofString "abcdefghijklmnopqrstuvwxyz").cps.toList)↔97<=c/\c < 123:=fun c=>by
 have e:(Str.ofString "abcdefghijklmnopqrstuvwxyz").cps.toList=(List.range 26).map fun k=>97+k:=by trivial
 rw [e,List.mem_map]
 constructor
 ·rintro ⟨k,hk,rfl⟩;have:=List.mem_range.mp hk;omega
 ·intro h;exact ⟨c - 97,List.mem_range.mpr (by omega),by omega⟩
theorem Dc (c:Nat):(!(Builtin.Str.occurrences (Str.ofString "abcdefghijklmnopqrstuvwxyz") ⟨#[c]⟩ 0 (Str.ofString "abcdefghijklmnopqrstuvwxyz").length 1).isEmpty)=jh c:=by
 rw [StrLaws.found_one]
 unfold jh
 exact decide_eq_decide.mpr (CZ c)
theorem u5:aK ["thing"] ["thing"] (ak di):=⟨rfl,rfl,rfl,by trivial,rfl,by trivial,by trivial⟩
theorem lH (T:Txt w K mg):p8 P w K mg base 1 "is_letter" ["thing"] Lp:=by
 refine jB T.d_is_letter u5 (fun _ _ _ _ _ _ us hl=>L2.iJ (fun _=>rfl) us hl) ?_ fun f cdv A outer s H vs Q E hr h=>?_
 ·rintro vs H Q E ⟨c,rfl,_⟩;rfl
 obtain ⟨c,rfl,q⟩:=h
 have hu:=hr.units0
 have hu64:=hr.units
 refine ⟨_,(aA (aF (pM (aM (fJ (K:=K) rfl) (bG kz03) T.b_isinstance b7 (aa (ao 0 Lk) (aa (vV (bG kz04) T.b_str jr (by trivial) (by trivial)) aj)) (by trivial) (by trivial)) (pM (fX (aN (K:=K) rfl hu64) (aM (aQ (K:=K) rfl) (bG kz02) T.b_len cu (aa (ao 0 Lk) aj) (by trivial) (by trivial)) az (by walk_at "p")) (nG (fX (uY (K:=K) rfl hu64) (ao 0 Lk) (iw (bG kz01) T.c_LETTERS (by trivial)) (by walk_at "p"))))))),?_⟩
 walk_at "s"
 refine iT (.str _) rfl ?_
 walk_at "s"
 refine f9 (by rw [vU];decide) ?_
 walk_at "s"
 rw [vU,decide_eq_true (show V.int ((1:Nat):Int)=V.int 1 from rfl)]
 show if true=true then _ else _
 walk_at "s"
 rw [Dc]
 exact q
theorem ww {g:Nat->Bool} (z:Str):(List.map g (z.cps.toList.take z.cps.size)).all id=z.cps.toList.all g:=by
 rw [List.take_of_length_le (by simp),List.all_map];rfl
def Gv (K:W.Frag):Sp:=fun vs H Q _=>∃ (v:V) (b:Bool),vs=[v]/\((∃ z,v= .str z/\z.length<=1000/\mJ z=b)\/(b=false/\NotS K H v))/\∀ H',Same H H'->Q (.bl b) H'
theorem zQ:aK ["thing"] ["thing"] (ak dZ):=⟨rfl,rfl,rfl,by trivial,rfl,by trivial,by trivial⟩
theorem jF (T:Txt w K mg):p8 P w K mg base 1 "is_row" ["thing"] (Gv K):=by
 refine jB T.d_is_row zQ (fun _ _ _ _ _ _ us hl=>L2.iJ (fun _=>rfl) us hl) ?_ fun f cdv A outer s H vs Q E hr h=>?_
 ·rintro vs H Q E ⟨v,b,rfl,_⟩;rfl
 obtain ⟨v,b,rfl,hv,q⟩:=h
 have hu:=hr.units0
 have hu64:=hr.units
 refine ⟨_,(aq (aX (fY (lq (gb (iy (aM (fJ (K:=K) rfl) (bG kz09) T.b_isinstance b7 (aa (ao 0 Ln) (aa (vV (bG kz0a) T.b_str jr (by trivial) (by trivial)) aj)) (by trivial) (by trivial)))) (jM (aH tQ (aM (aQ (K:=K) rfl) (bG kz07) T.b_len cu (aa (ao 0 Ln) aj) (by trivial) (by trivial)) (xu (bG kz08) T.c_MOST_SIGNS (by trivial)) (by walk_at "p"))))) (aA (aF iU)) aP) (aA (aF (aM (fV rfl) (bG kz05) T.b_all jL (aa (dF (sub:=[none]) (aY (N:=["thing"]) (sc:=ak dZ) (N':=["sign"]) (by trivial)) rfl rfl rfl (bM (K:=K) rfl (ao 0 Ln)) (fun C s₀ H₀ ex=>(iW 0 (by trivial) wk)) (fun C s₀ H₀ ex=>bL) (fun C s₀ H₀ ex=>(fX (uY (K:=K) rfl hu64) (dh 0 (by trivial)) (aZ aV (iw (sI (by trivial)) T.c_LETTERS (by trivial)) (iw (sI (by trivial)) T.c_POINT (by trivial))) (by walk_at "p")))) aj) (by trivial) (by trivial))))),?_⟩
 walk_at "s"
 have hz:20000<=sizeLine:=by decide
 rcases hv with ⟨z,rfl,hl,rfl⟩ | ⟨rfl,ty,hty,hk⟩
 ·refine iT (.str z) rfl ?_
  walk_at "s"
  refine f9 (by omega) ?_
  walk_at "s"
  by_cases h48:z.length<=48
  ·rw [decide_eq_false (show ¬ (48:Int) < (z.length:Int) by omega)]
   walk_at "s"
   refine .inr (.inr ⟨z,rfl,?_⟩)
   refine o9 (fun i zs G=>G=H/\zs=((z.cps.toList.take i).map fun c=>decide (c∈GOOD)).map V.bl) (show z.length<=sizeLine by omega) ⟨rfl,rfl⟩ ?_ ?_ ?_
   ·rintro i zs G ⟨_,rfl⟩
    rw [List.length_map,List.length_map,List.length_take];omega
   ·rintro i zs G c hc ⟨rfl,rfl⟩
    walk_at "s"
    refine ⟨KeepSt.set rfl,?_⟩
    walk_at "s"
    refine eZ (Nat.le_trans (show (Str.ofString "abcdefghijklmnopqrstuvwxyz").length+(Str.ofString ".").length<=1000 by trivial) (by decide)) ?_
    walk_at "s"
    refine ⟨rfl,?_⟩
    rw [StrLaws.found_one,List.take_add_one,hc,List.map_append,List.map_append]
    rfl
   ·rintro zs G D H2 ⟨rfl,rfl⟩ nD S2 hD
    try walk_at "s"
    refine ⟨D,_,rfl,hD,?_⟩
    rw [ww]
    have:=q H2 S2
    unfold mJ at this
    rw [decide_eq_true h48,Bool.true_and] at this
    exact this
  ·rw [decide_eq_true (show (48:Int) < (z.length:Int) by omega)]
   walk_at "s"
   rw [show mJ z=false by unfold mJ;rw [decide_eq_false h48,Bool.false_and]] at q
   exact q H (Same.refl H)
 ·refine iT hty hk ?_
  walk_at "s"
  exact q H (Same.refl H)
def wy (K:W.Frag) (mg:Str->Option Value):Sp:=fun vs H Q E=>∃ (v:V),vs=[v]/\((∃ z,v= .str z/\z.length<=1000/\mJ z=false)\/NotS K H v)/\∀ e H',Same H H'->HJ H' e (fB mg "NoRow") [("found",v)]->E (.ref (fB mg "NoRow")) (some e) H'
theorem wz:aK ["thing"] ["thing"] (ak gq):=⟨rfl,rfl,rfl,by trivial,rfl,by trivial,by trivial⟩
theorem mL (T:Txt w K mg):lA P w K mg base 3 "need_row" ["thing"] (wy K mg):=by
 have jF:=jF (P:=P) (w:=w) (base:=base) T
 refine jm T.d_need_row wz (fun _ _ _ _ _ _ us hl=>L2.iJ (fun _=>rfl) us hl) ?_ fun f cdv A outer s H vs Q E hr h=>?_
 ·rintro vs H Q E ⟨v,rfl,_⟩;rfl
 obtain ⟨v,rfl,hv,q⟩:=h
 have hu:=hr.units0
 have hu64:=hr.units
 refine ⟨_,(aA (aX (gb (iy (bj jF (hr.mono (by decide)) (bG kz0b) (aa (ao 0 Pb) aj) (by trivial)))) (aA (rM (CW (P:=P) (w:=w) (base:=base) T) (hr.mono (by decide)) rfl (bG kz0d) bc (aa (ao 0 Pb) aj) (by trivial))) aP)),?_⟩
 walk_at "s"
 refine ⟨v,false,rfl,(by rcases hv with h | h;exact .inl h;exact .inr ⟨rfl,h⟩),fun H1 S1=>?_⟩
 walk_at "s"
 exact ⟨rfl,(show 1<=sizeLine by decide),fun x H2 S2 X2=>q x H2 (S1.trans S2) X2⟩
theorem wA:aK ["row"] ["row"] (ak iZ):=⟨rfl,rfl,rfl,by trivial,rfl,by trivial,by trivial⟩
theorem mO (T:Txt w K mg):lA P w K mg base 4 "row_word" ["row"] (wy K mg):=by
 have mL:=mL (P:=P) (w:=w) (base:=base) T
 refine jm T.d_row_word wA (fun _ _ _ _ _ _ us hl=>L2.iJ (fun _=>rfl) us hl) ?_ fun f cdv A outer s H vs Q E hr h=>?_
 ·rintro vs H Q E ⟨v,rfl,_⟩;rfl
 obtain ⟨v,rfl,hv,q⟩:=h
 have hu:=hr.units0
 have hu64:=hr.units
 refine ⟨_,(aq (cX (bI mL (hr.mono (by decide)) (bG kz0e) bc (aa (ao 0 kz0f) aj) (by trivial))) (aA vW)),?_⟩
 walk_at "s"
 exact ⟨v,rfl,hv,q⟩
theorem rW:(["letter"]:List Str).Nodup:=by trivial
theorem qz:(["change"]:List Str).Nodup:=by trivial
theorem wB:cF bB "thing":=by trivial
theorem kz0h:bU bB "CHANGE":=by trivial
theorem Pg:bU bB "len":=by trivial
theorem kz0j:bU bB "IN":=by trivial
theorem kz0k:bU bB "OUT":=by trivial
theorem kz0l:bU bB "KEEP":=by trivial
theorem kz0m:bU bB "all":=by trivial
theorem kz0n:bU bB "isinstance":=by trivial
theorem kz0o:bU bB "tuple":=by trivial
theorem kz0p:bU bN "all":=by trivial
theorem Lq:cF bN "thing":=by trivial
theorem kz0r:bU bN "len":=by trivial
theorem kz0s:bU bN "MOST_CHANGES":=by trivial
theorem kz0t:bU bN "isinstance":=by trivial
theorem kz0u:bU bN "list":=by trivial
theorem kz0v:bU c7 "is_changes":=by trivial
theorem Ph:cF c7 "thing":=by trivial
theorem kz0x:bU c7 "NoChanges":=by trivial
theorem kz0y:bU dI "need_changes":=by trivial
theorem kz0z:cF dI "changes":=by trivial
def NotT (K:W.Frag) (ty:String) (H:Hp) (v:V):Prop:=∃ T,TyOf K H v (.type T)/\PySem.W.kitOne K (.type T) (.type ty)=some false
theorem NotT.same {ty:String} {H H':Hp} {v:V} (h:NotT K ty H v) (s:Same H H'):NotT K ty H' v:=by
 obtain ⟨T,a,c⟩:=h
 exact ⟨T,a.mono fun b o e _=>s b o e,c⟩
def CI (K:W.Frag) (H:Hp) (v:V) (b:Bool):Prop:=(∃ t k ls,v= .ref t/\H t=some (.tup (vq k ls))/\ls.length<=1000/\isC k ls=b)\/(b=false/\NotT K "tuple" H v)
theorem CI.same {H H':Hp} {v:V} {b:Bool} (h:CI K H v b) (s:Same H H'):CI K H' v b:=by
 rcases h with ⟨t,k,ls,e,ht,hl,hc⟩ | ⟨e,h⟩
 ·exact .inl ⟨t,k,ls,e,s _ _ ht,hl,hc⟩
 ·exact .inr ⟨e,h.same s⟩
theorem rY (a b:Nat):decide (V.str ⟨#[a]⟩=V.str ⟨#[b]⟩)=decide (a=b):=by
 refine decide_eq_decide.mpr ⟨fun h=>?_,fun h=>by rw [h]⟩
 have:=Str.mk.inj (V.str.inj h)
 simpa using this
theorem cQ (x y:Str):decide (V.str x=V.str y)=decide (x=y):=decide_eq_decide.mpr ⟨fun h=>V.str.inj h,fun h=>by rw [h]⟩
theorem qN (k:Str) (a:Nat):isC k [a]=(jh a && decide (k=Str.ofString "keep"\/k=Str.ofString "out"\/k=Str.ofString "in")):=by unfold isC;simp
theorem n6 (k:Str) (a b:Nat):isC k [a,b]=((jh a && jh b) && (decide (k=Str.ofString "change") && decide (a≠b))):=by unfold isC;simp
theorem yC {k:Str} {ls:List Nat} (h:ls.all jh=false):isC k ls=false:=by unfold isC;rw [h,Bool.false_and]
theorem n8 {k:Str} {ls:List Nat} (h:ls.length≠1) (h2:ls.length≠2):isC k ls=false:=by
 unfold isC
 match ls,h,h2 with
 | [],_,_=>simp
 | [_],h,_=>exact absurd rfl h
 | [_,_],_,h=>exact absurd rfl h
 | _ :: _ :: _ :: _,_,_=>simp
theorem Gw (x:Str) (ys:List Str):inV (.str x) (ys.map V.str)=decide (x∈ys):=by
 unfold inV
 induction ys with
 | nil=>simp
 | cons y r ih=>
  rw [List.map_cons,List.any_cons,ih]
  show ((y == x) || decide (x∈r))=_
  by_cases h:y=x
  ·subst h;simp
  ·have:(y == x)=false:=by simpa using h
   rw [this,Bool.false_or]
   rw [decide_eq_decide,List.mem_cons]
   exact ⟨.inr,fun k=>k.resolve_left fun e=>h e.symm⟩
theorem Dd (k:Str):inV (.str k) [.str (Str.ofString "keep"),.str (Str.ofString "out"),.str (Str.ofString "in")]=decide (k=Str.ofString "keep"\/k=Str.ofString "out"\/k=Str.ofString "in"):=by
 rw [show [V.str (Str.ofString "keep"),.str (Str.ofString "out"),.str (Str.ofString "in")]=[Str.ofString "keep",Str.ofString "out",Str.ofString "in"].map V.str from rfl,Gw]
 exact decide_eq_decide.mpr (by simp)
def Lr (K:W.Frag):Sp:=fun vs H Q _=>∃ (v:V) (b:Bool),vs=[v]/\CI K H v b/\∀ H',Same H H'->Q (.bl b) H'
theorem u6:aK ["thing"] ["thing"] (ak bB):=⟨rfl,rfl,rfl,by trivial,rfl,by trivial,by trivial⟩
theorem lJ (T:Txt w K mg):p8 P w K mg base 2 "is_change" ["thing"] (Lr K):=by
 have lH:=lH (P:=P) (w:=w) (base:=base) T
 refine jB T.d_is_change u6 (fun _ _ _ _ _ _ us hl=>L2.iJ (fun _=>rfl) us hl) ?_ fun f cdv A outer s H vs Q E hr h=>?_
 ·rintro vs H Q E ⟨v,b,rfl,_⟩;rfl
 obtain ⟨v,b,rfl,hv,q⟩:=h
 have hu:=hr.units0
 have hu64:=hr.units
 refine ⟨_,(aq (aX (fY (lq (gb (iy (aM (fJ (K:=K) rfl) (bG kz0n) T.b_isinstance b7 (aa (ao 0 wB) (aa (vV (bG kz0o) T.b_tuple vR (by trivial) (by trivial)) aj)) (by trivial) (by trivial)))) (jM (gb (vY xY xY az (aM (aQ (K:=K) rfl) (bG Pg) T.b_len cu (aa (ao 0 wB) aj) (by trivial) (by trivial)) az))))) (aA (aF iU)) aP) (aq (aX (gb (iy (aM (fV rfl) (bG kz0m) T.b_all jL (aa (dF (sub:=[none]) (aY (N:=["thing"]) (sc:=ak bB) (N':=["letter"]) (by trivial)) rfl rfl rfl (bM (K:=K) rfl (d9 (eU (K:=K) rfl) (ao 0 wB) (cW az) jk)) (fun C s₀ H₀ ex=>(iW 0 (by trivial) rW)) (fun C s₀ H₀ ex=>bL) (fun C s₀ H₀ ex=>(bj lH (hr.mono (by decide)) (sI (by trivial)) (aa (dh 0 (by trivial)) aj) (by trivial)))) aj) (by trivial) (by trivial)))) (aA (aF iU)) aP) (aq (aX (aH (aN (K:=K) rfl hu64) (aM (aQ (K:=K) rfl) (bG Pg) T.b_len cu (aa (ao 0 wB) aj) (by trivial) (by trivial)) az (by walk_at "p")) (aA (aF (fX (uY (K:=K) rfl hu64) (cJ (K:=K) rfl (ao 0 wB) az) (gG (aa (iw (bG kz0l) T.c_KEEP (by trivial)) (aa (iw (bG kz0k) T.c_OUT (by trivial)) (aa (iw (bG kz0j) T.c_IN (by trivial)) aj)))) (by walk_at "p")))) aP) (aA (aF (pM (fX (aN (K:=K) rfl hu64) (cJ (K:=K) rfl (ao 0 wB) az) (iw (bG kz0h) T.c_CHANGE (by trivial)) (by walk_at "p")) (nG (fX (lz (K:=K) rfl hu64) (cJ (K:=K) rfl (ao 0 wB) az) (cJ (K:=K) rfl (ao 0 wB) az) (by walk_at "p"))))))))),?_⟩
 walk_at "s"
 have hz:20000<=sizeLine:=by decide
 rcases hv with ⟨t,k,ls,rfl,ht,hl,hb⟩ | ⟨rfl,ty,hty,hk⟩
 rotate_left
 ·refine iT hty hk ?_
  walk_at "s"
  exact q H (Same.refl H)
 have hln:(vq k ls).length=ls.length+1:=by unfold vq;rw [List.length_cons,List.length_map]
 refine iT (.tup ht) rfl ?_
 walk_at "s"
 refine Bx (SqT.of ht) ?_
 walk_at "s"
 rw [hln]
 by_cases h1:ls.length=0
 ·rw [decide_eq_false (show ¬ (2:Int)<=((ls.length+1:Nat):Int) by omega)]
  walk_at "s"
  rw [n8 (by omega) (by omega)] at hb
  subst hb
  exact q H (Same.refl H)
 rw [decide_eq_true (show (2:Int)<=((ls.length+1:Nat):Int) by omega)]
 walk_at "s"
 by_cases h2:2 < ls.length
 ·rw [decide_eq_false (show ¬ ((ls.length+1:Nat):Int)<=3 by omega)]
  walk_at "s"
  rw [n8 (by omega) (by omega)] at hb
  subst hb
  exact q H (Same.refl H)
 rw [decide_eq_true (show ((ls.length+1:Nat):Int)<=3 by omega)]
 walk_at "s"
 refine K8 ht fun t2 H1 S1 h1'=>?_
 walk_at "s"
 replace h1':H1 t2=some (.tup (ls.map fun x=>V.str ⟨#[x]⟩)):=by
  rw [h1',show (some (1:Int))=some ((1:Nat):Int) from rfl,rQ];rfl
 refine .inr (.inl ⟨t2,rfl,⟨_,SqT.of h1'⟩,?_⟩)
 refine zM (xs:=ls.map fun x=>V.str ⟨#[x]⟩) (fun i zs G=>G=H1/\zs=((ls.take i).map jh).map V.bl) (by rw [List.length_map];omega) ⟨rfl,rfl⟩ ?_ ?_ ?_ ?_
 ·rintro i zs G ⟨_,rfl⟩
  rw [List.length_map,List.length_map,List.length_take];omega
 ·rintro i zs G ⟨rfl,_⟩
  exact SqT.of h1'
 ·rintro i zs G v hv ⟨rfl,rfl⟩
  rw [List.getElem?_map] at hv
  obtain ⟨x,ex,rfl⟩:=Option.map_eq_some_iff.mp hv
  walk_at "s"
  refine ⟨KeepSt.set rfl,?_⟩
  walk_at "s"
  refine ⟨x,rfl,?_⟩
  walk_at "s"
  refine ⟨rfl,?_⟩
  rw [List.take_add_one,ex,List.map_append,List.map_append]
  rfl
 rintro zs G D H2 ⟨rfl,rfl⟩ nD S2 hD
 rw [List.length_map,List.take_length] at hD
 try walk_at "s"
 refine ⟨D,_,rfl,hD,?_⟩
 rw [List.all_map,show (id ∘ jh)=jh from rfl]
 have U2:=S1.trans S2
 have ht2:=U2 _ _ ht
 cases ha:ls.all jh with
 | false=>
  walk_at "s"
  rw [yC ha] at hb
  subst hb
  exact q H2 U2
 | true=>
  walk_at "s"
  refine Bx (SqT.of ht2) ?_
  walk_at "s"
  rw [hln]
  match ls,h1,h2 with
  | [],h,_=>exact absurd rfl h
  | [a],_,_=>
   rw [decide_eq_true (show V.int ((([a]:List Nat).length+1:Nat):Int)=V.int 2 from rfl)]
   walk_at "s"
   refine aJ rfl fun w H3 nw S3 hw=>?_
   walk_at "s"
   refine .inl (.inr ⟨w,_,rfl,.inr (SqT.of hw),rfl,rfl,?_⟩)
   have e:(if false=true then !inV (.str k) [.str (Str.ofString "keep"),.str (Str.ofString "out"),.str (Str.ofString "in")] else inV (.str k) [.str (Str.ofString "keep"),.str (Str.ofString "out"),.str (Str.ofString "in")])=b:=by
    rw [if_neg (by decide),Dd,← hb,qN]
    have:jh a=true:=by simpa using ha
    rw [this,Bool.true_and]
   rw [e]
   exact q H3 (U2.trans S3)
  | [a,a'],_,_=>
   rw [decide_eq_false (show ¬ V.int ((([a,a']:List Nat).length+1:Nat):Int)=V.int 2 from fun z=>by have:=V.int.inj z;simp at this)]
   have ht3:H2 t=some (.tup [.str k,.str ⟨#[a]⟩,.str ⟨#[a']⟩]):=ht2
   have hab:jh a=true/\jh a'=true:=by simpa using ha
   rw [n6,hab.1,hab.2,Bool.true_and,Bool.true_and] at hb
   walk_at "s"
   rw [cQ]
   by_cases hk:k=Str.ofString "change"
   ·rw [decide_eq_true hk]
    rw [decide_eq_true hk,Bool.true_and] at hb
    show if true=true then _ else _
    walk_at "s"
    rw [rY,← decide_not,hb]
    exact q H2 U2
   ·rw [decide_eq_false hk]
    rw [decide_eq_false hk,Bool.false_and] at hb
    subst hb
    show if false=true then _ else _
    walk_at "s"
    exact q H2 U2
  | _ :: _ :: _ :: _,_,h=>exact absurd (by simp) h
def CIs (K:W.Frag) (H:Hp) (us:List V) (bs:List Bool):Prop:=us.length=bs.length/\∀ (i:Nat) (v:V) (b:Bool),us[i]?=some v->bs[i]?=some b->CI K H v b
theorem CIs.same {H H':Hp} {us:List V} {bs:List Bool} (h:CIs K H us bs) (s:Same H H'):CIs K H' us bs:=⟨h.1,fun i v b e1 e2=>(h.2 i v b e1 e2).same s⟩
def Pj (K:W.Frag) (H:Hp) (v:V) (b:Bool):Prop:=(∃ p us bs,v= .ref p/\H p=some (.lst us)/\us.length<=2000/\CIs K H us bs/\b=(decide (us.length<=48) && bs.all id))\/(b=false/\NotT K "list" H v)
def Gx (K:W.Frag):Sp:=fun vs H Q _=>∃ (v:V) (b:Bool),vs=[v]/\Pj K H v b/\∀ H',Same H H'->Q (.bl b) H'
theorem sX:aK ["thing"] ["thing"] (ak bN):=⟨rfl,rfl,rfl,by trivial,rfl,by trivial,by trivial⟩
theorem dW (T:Txt w K mg):p8 P w K mg base 3 "is_changes" ["thing"] (Gx K):=by
 have lJ:=lJ (P:=P) (w:=w) (base:=base) T
 refine jB T.d_is_changes sX (fun _ _ _ _ _ _ us hl=>L2.iJ (fun _=>rfl) us hl) ?_ fun f cdv A outer s H vs Q E hr h=>?_
 ·rintro vs H Q E ⟨v,b,rfl,_⟩;rfl
 obtain ⟨v,b,rfl,hv,q⟩:=h
 have hu:=hr.units0
 have hu64:=hr.units
 refine ⟨_,(aq (aX (fY (lq (gb (iy (aM (fJ (K:=K) rfl) (bG kz0t) T.b_isinstance b7 (aa (ao 0 Lq) (aa (vV (bG kz0u) T.b_list ym (by trivial) (by trivial)) aj)) (by trivial) (by trivial)))) (jM (aH tQ (aM (aQ (K:=K) rfl) (bG kz0r) T.b_len cu (aa (ao 0 Lq) aj) (by trivial) (by trivial)) (xu (bG kz0s) T.c_MOST_CHANGES (by trivial)) (by walk_at "p"))))) (aA (aF iU)) aP) (aA (aF (aM (fV rfl) (bG kz0p) T.b_all jL (aa (dF (sub:=[none]) (aY (N:=["thing"]) (sc:=ak bN) (N':=["change"]) (by trivial)) rfl rfl rfl (bM (K:=K) rfl (ao 0 Lq)) (fun C s₀ H₀ ex=>(iW 0 (by trivial) qz)) (fun C s₀ H₀ ex=>bL) (fun C s₀ H₀ ex=>(bj lJ (hr.mono (by decide)) (sI (by trivial)) (aa (dh 0 (by trivial)) aj) (by trivial)))) aj) (by trivial) (by trivial))))),?_⟩
 walk_at "s"
 have hz:20000<=sizeLine:=by decide
 rcases hv with ⟨p,us,bs,rfl,hp,hl,hC,hb⟩ | ⟨rfl,ty,hty,hk⟩
 rotate_left
 ·refine iT hty hk ?_
  walk_at "s"
  exact q H (Same.refl H)
 have hul:=hC.1
 refine iT (.lst hp) rfl ?_
 walk_at "s"
 refine lg (SqL.of hp) ?_
 walk_at "s"
 by_cases h48:us.length<=48
 rotate_left
 ·rw [decide_eq_true (show (48:Int) < (us.length:Int) by omega)]
  walk_at "s"
  rw [decide_eq_false h48,Bool.false_and] at hb
  subst hb
  exact q H (Same.refl H)
 rw [decide_eq_false (show ¬ (48:Int) < (us.length:Int) by omega)]
 rw [decide_eq_true h48,Bool.true_and] at hb
 walk_at "s"
 refine .inl ⟨p,rfl,⟨_,SqL.of hp⟩,?_⟩
 refine aU (xs:=us) (fun i zs G=>Same H G/\zs=(bs.take i).map V.bl) (by omega) ⟨Same.refl H,rfl⟩ ?_ ?_ ?_ ?_
 ·rintro i zs G ⟨_,rfl⟩
  rw [List.length_map,List.length_take];omega
 ·rintro i zs G ⟨s,_⟩
  exact SqL.of (s _ _ hp)
 ·rintro i zs G v hv ⟨s,rfl⟩
  have hi:i < bs.length:=by rw [← hul];exact (List.getElem?_eq_some_iff.mp hv).1
  obtain ⟨c,ec⟩:∃ c,bs[i]?=some c:=⟨_,List.getElem?_eq_getElem hi⟩
  have hc:=(hC.same s).2 i v c hv ec
  walk_at "s"
  refine ⟨KeepSt.set rfl,?_⟩
  walk_at "s"
  refine ⟨v,c,rfl,hc,fun G2 S2=>?_⟩
  walk_at "s"
  refine ⟨s.trans S2,?_⟩
  rw [List.take_add_one,ec,List.map_append]
  rfl
 rintro zs G D H2 ⟨s,rfl⟩ nD S2 hD
 rw [hul,List.take_length] at hD
 try walk_at "s"
 refine ⟨D,_,rfl,hD,?_⟩
 rw [← hb]
 exact q H2 (s.trans S2)
def wC (K:W.Frag) (mg:Str->Option Value):Sp:=fun vs H Q E=>∃ (v:V),vs=[v]/\Pj K H v false/\∀ e H',Same H H'->HJ H' e (fB mg "NoChanges") [("found",v)]->E (.ref (fB mg "NoChanges")) (some e) H'
theorem qC:aK ["thing"] ["thing"] (ak c7):=⟨rfl,rfl,rfl,by trivial,rfl,by trivial,by trivial⟩
theorem jb (T:Txt w K mg):lA P w K mg base 4 "need_changes" ["thing"] (wC K mg):=by
 have dW:=dW (P:=P) (w:=w) (base:=base) T
 refine jm T.d_need_changes qC (fun _ _ _ _ _ _ us hl=>L2.iJ (fun _=>rfl) us hl) ?_ fun f cdv A outer s H vs Q E hr h=>?_
 ·rintro vs H Q E ⟨v,rfl,_⟩;rfl
 obtain ⟨v,rfl,hv,q⟩:=h
 have hu:=hr.units0
 have hu64:=hr.units
 refine ⟨_,(aA (aX (gb (iy (bj dW (hr.mono (by decide)) (bG kz0v) (aa (ao 0 Ph) aj) (by trivial)))) (aA (rM (u0 (P:=P) (w:=w) (base:=base) T) (hr.mono (by decide)) rfl (bG kz0x) bc (aa (ao 0 Ph) aj) (by trivial))) aP)),?_⟩
 walk_at "s"
 refine ⟨v,false,rfl,hv,fun H1 S1=>?_⟩
 walk_at "s"
 exact ⟨rfl,(show 1<=sizeLine by decide),fun x H2 S2 X2=>q x H2 (S1.trans S2) X2⟩
theorem qD:aK ["changes"] ["changes"] (ak dI):=⟨rfl,rfl,rfl,by trivial,rfl,by trivial,by trivial⟩
theorem jc (T:Txt w K mg):lA P w K mg base 5 "changes_word" ["changes"] (wC K mg):=by
 have jb:=jb (P:=P) (w:=w) (base:=base) T
 refine jm T.d_changes_word qD (fun _ _ _ _ _ _ us hl=>L2.iJ (fun _=>rfl) us hl) ?_ fun f cdv A outer s H vs Q E hr h=>?_
 ·rintro vs H Q E ⟨v,rfl,_⟩;rfl
 obtain ⟨v,rfl,hv,q⟩:=h
 have hu:=hr.units0
 have hu64:=hr.units
 refine ⟨_,(aq (cX (bI jb (hr.mono (by decide)) (bG kz0y) bc (aa (ao 0 kz0z) aj) (by trivial))) (aA vW)),?_⟩
 walk_at "s"
 exact ⟨v,rfl,hv,q⟩
theorem lX:(["sign"]:List Str).Nodup:=by trivial
theorem oh:(["number"]:List Str).Nodup:=by trivial
theorem kz10:cF fK "right":=by trivial
theorem kz11:bU fK "NoWords":=by trivial
theorem kz12:cF fK "word":=by trivial
theorem Gy:cF bC "word":=by trivial
theorem Pk:bU bC "len":=by trivial
theorem kz15:bU bC "all":=by trivial
theorem kz16:bU bC "MOST_FIGURES":=by trivial
theorem kz17:bU bT "all":=by trivial
theorem Ls:cF bT "numbers":=by trivial
theorem kz19:bU bT "len":=by trivial
theorem kz1a:cF bT "word":=by trivial
theorem comma:Str.ofString ","=⟨#[44]⟩:=by trivial
theorem colon:Str.ofString ":"=⟨#[58]⟩:=by trivial
theorem slash:Str.ofString "/"=⟨#[47]⟩:=by trivial
theorem Same.put {H H':Hp} {p:Addr} {o:HO} (s:Same H H') (hn:H p=none):Same H (upd H' p o):=fun b u e=>by
 rw [aG (fun z=>by rw [z,hn] at e;cases e)]
 exact s b u e
theorem Same.back {H H':Hp} {p:Addr} (s:Same H H') (h:H' p=none):H p=none:=by
 cases e:H p with
 | none=>rfl
 | some o=>rw [s _ _ e] at h;cases h
def QH (K:W.Frag) (H:Hp) (v:V):Prop:=∀ H',Same H H'->∀ Q:VK,Q (.bl false) H'->Lf K v (.str (Str.ofString "-")) H' Q
def TH (K:W.Frag) (H:Hp) (v:V):Prop:=(∃ z,v= .str z/\z.length<=1000)\/(NotS K H v/\QH K H v)
theorem TH.same {H H':Hp} {v:V} (h:TH K H v) (s:Same H H'):TH K H' v:=by
 rcases h with h | ⟨h1,h2⟩
 ·exact .inl h
 ·exact .inr ⟨h1.same s,fun G s2=>h2 G (s.trans s2)⟩
def Exc (mg:Str->Option Value) (H:Hp) (v:V) (E:XK):Prop:=∀ e H',Same H H'->HJ H' e (fB mg "NoWords") [("found",v)]->E (.ref (fB mg "NoWords")) (some e) H'
theorem Exc.same {H H':Hp} {v:V} {E:XK} (h:Exc mg H v E) (s:Same H H'):Exc mg H' v E:=fun e H2 s2=>h e H2 (s.trans s2)
def Pn (mg:Str->Option Value):Sp:=fun vs H Q E=>∃ (b:Bool) (v:V),vs=[.bl b,v]/\(b=true->Q .non H)/\(b=false->Exc mg H v E)
theorem u9:aK ["right","word"] ["right","word"] (ak fK):=⟨rfl,rfl,rfl,by trivial,rfl,by trivial,by trivial⟩
theorem aL (T:Txt w K mg):lA P w K mg base 3 "need_word" ["right","word"] (Pn mg):=by
 refine jm T.d_need_word u9 (fun _ _ _ _ _ _ us hl=>L2.oU (fun _ _=>rfl) us hl) ?_ fun f cdv A outer s H vs Q E hr h=>?_
 ·rintro vs H Q E ⟨b,v,rfl,_⟩;rfl
 obtain ⟨b,v,rfl,q1,q2⟩:=h
 have hu:=hr.units0
 have hu64:=hr.units
 refine ⟨_,(aA (aX (gb (iy (ao 0 kz10))) (aA (rM (xO (P:=P) (w:=w) (base:=base) T) (hr.mono (by decide)) rfl (bG kz11) bc (aa (ao 1 kz12) aj) (by trivial))) aP)),?_⟩
 walk_at "s"
 cases b with
 | true=>
  walk_at "s"
  exact q1 rfl
 | false=>
  walk_at "s"
  exact ⟨rfl,(show 1<=sizeLine by decide),fun x H2 S2 X2=>q2 rfl x H2 S2 X2⟩
theorem De (c:Nat):(!(Builtin.Str.occurrences (Str.ofString "0123456789") ⟨#[c]⟩ 0 (Str.ofString "0123456789").length 1).isEmpty)=decide (48<=c/\c < 58):=by
 rw [StrLaws.found_one]
 refine decide_eq_decide.mpr ?_
 have e:(Str.ofString "0123456789").cps.toList=(List.range 10).map fun k=>48+k:=by trivial
 rw [e,List.mem_map]
 constructor
 ·rintro ⟨k,hk,rfl⟩;have:=List.mem_range.mp hk;omega
 ·intro h;exact ⟨c - 48,List.mem_range.mpr (by omega),by omega⟩
def Pq (K:W.Frag):Sp:=fun vs H Q _=>∃ z:Str,vs=[.str z]/\z.length<=1000/\∀ H',Same H H'->Q (.bl (gJ z)) H'
theorem ou:aK ["word"] ["word"] (ak bC):=⟨rfl,rfl,rfl,by trivial,rfl,by trivial,by trivial⟩
theorem bu (T:Txt w K mg):p8 P w K mg base 1 "is_number_word" ["word"] (Pq K):=by
 refine jB T.d_is_number_word ou (fun _ _ _ _ _ _ us hl=>L2.iJ (fun _=>rfl) us hl) ?_ fun f cdv A outer s H vs Q E hr h=>?_
 ·rintro vs H Q E ⟨z,rfl,_⟩;rfl
 obtain ⟨z,rfl,hl,q⟩:=h
 have hu:=hr.units0
 have hu64:=hr.units
 refine ⟨_,(aq (aX (fY (lq (gb (vY xY xY az (aM (aQ (K:=K) rfl) (bG Pk) T.b_len cu (aa (ao 0 Gy) aj) (by trivial) (by trivial)) (xu (bG kz16) T.c_MOST_FIGURES (by trivial)))) (jM (gb (iy (aM (fV rfl) (bG kz15) T.b_all jL (aa (dF (sub:=[none]) (aY (N:=["word"]) (sc:=ak bC) (N':=["sign"]) (by trivial)) rfl rfl rfl (bM (K:=K) rfl (ao 0 Gy)) (fun C s₀ H₀ ex=>(iW 0 (by trivial) lX)) (fun C s₀ H₀ ex=>bL) (fun C s₀ H₀ ex=>(fX (uY (K:=K) rfl hu64) (dh 0 (by trivial)) (iw (sI (by trivial)) T.c_FIGURES (by trivial)) (by walk_at "p")))) aj) (by trivial) (by trivial))))))) (aA (aF iU)) aP) (aA (aF (Oi (fX (aN (K:=K) rfl hu64) (aM (aQ (K:=K) rfl) (bG Pk) T.b_len cu (aa (ao 0 Gy) aj) (by trivial) (by trivial)) az (by walk_at "p")) (nG (fX (lz (K:=K) rfl hu64) (cJ (K:=K) rfl (ao 0 Gy) az) aD (by walk_at "p"))))))),?_⟩
 walk_at "s"
 have hz:20000<=sizeLine:=by decide
 have hcl:=dR z
 refine f9 (by omega) ?_
 walk_at "s"
 by_cases h1:1<=z.length
 rotate_left
 ·rw [decide_eq_false (show ¬ (1:Int)<=(z.length:Int) by omega)]
  walk_at "s"
  have:=q H (Same.refl H)
  unfold gJ at this
  rw [decide_eq_false (show ¬ (1<=z.length/\z.length<=4) by omega),Bool.false_and,Bool.false_and] at this
  exact this
 rw [decide_eq_true (show (1:Int)<=(z.length:Int) by omega)]
 walk_at "s"
 by_cases h4:z.length<=4
 rotate_left
 ·rw [decide_eq_false (show ¬ (z.length:Int)<=4 by omega)]
  walk_at "s"
  have:=q H (Same.refl H)
  unfold gJ at this
  rw [decide_eq_false (show ¬ (1<=z.length/\z.length<=4) by omega),Bool.false_and,Bool.false_and] at this
  exact this
 rw [decide_eq_true (show (z.length:Int)<=4 by omega)]
 walk_at "s"
 refine .inr (.inr ⟨z,rfl,?_⟩)
 refine o9 (fun i zs G=>G=H/\zs=((z.cps.toList.take i).map fun c=>decide (48<=c/\c < 58)).map V.bl) (show z.length<=sizeLine by omega) ⟨rfl,rfl⟩ ?_ ?_ ?_
 ·rintro i zs G ⟨_,rfl⟩
  rw [List.length_map,List.length_map,List.length_take];omega
 ·rintro i zs G c hc ⟨rfl,rfl⟩
  walk_at "s"
  refine ⟨KeepSt.set rfl,?_⟩
  walk_at "s"
  rw [De]
  refine ⟨rfl,?_⟩
  rw [List.take_add_one,hc,List.map_append,List.map_append]
  rfl
 rintro zs G D H2 ⟨rfl,rfl⟩ nD S2 hD
 try walk_at "s"
 refine ⟨D,_,rfl,hD,?_⟩
 rw [ww]
 have hq:=q H2 S2
 unfold gJ at hq
 rw [decide_eq_true (show (1<=z.length/\z.length<=4) from ⟨h1,h4⟩),Bool.true_and] at hq
 cases hd:zN z with
 | false=>
  rw [hd,Bool.false_and] at hq
  rw [show z.cps.toList.all (fun c=>decide (48<=c/\c < 58))=false from hd]
  walk_at "s"
  exact hq
 | true=>
  rw [hd,Bool.true_and] at hq
  rw [show z.cps.toList.all (fun c=>decide (48<=c/\c < 58))=true from hd]
  walk_at "s"
  refine f9 (by omega) ?_
  walk_at "s"
  by_cases e1:z.length=1
  ·rw [decide_eq_true (show V.int (z.length:Int)=V.int 1 by rw [e1];rfl)]
   show if true=true then _ else _
   rw [decide_eq_true e1,Bool.true_or] at hq
   walk_at "s"
   exact hq
  ·rw [decide_eq_false (show ¬ V.int (z.length:Int)=V.int 1 from fun e=>e1 (by have:=V.int.inj e;omega))]
   show if false=true then _ else _
   rw [decide_eq_false e1,Bool.false_or] at hq
   walk_at "s"
   obtain ⟨c,hc⟩:∃ c,z.cps.toList[0]?=some c:=⟨_,List.getElem?_eq_getElem (by omega)⟩
   refine nF (x:=z) (by omega) (fQ (j:=0) hc) ?_
   walk_at "s"
   rw [show Str.ofString "0"=⟨#[48]⟩ by trivial,rY,← decide_not]
   rw [show decide (z.cps.toList.head?≠some 48)=decide (¬ c=48) from decide_eq_decide.mpr (by rw [List.head?_eq_getElem?,hc];simp)] at hq
   exact hq
theorem fO (z:Str):(nO z).isSome=gJ z:=by
 unfold nO
 cases h:gJ z <;> rfl
theorem ur (z:Str):(pO z).isSome=(decide ((Txt.split z ⟨#[58]⟩).length=2) && (Txt.split z ⟨#[58]⟩).all gJ):=by
 unfold pO
 match Txt.split z ⟨#[58]⟩ with
 | []=>rfl
 | [a]=>rfl
 | [a,b]=>
  show (match nO a,nO b with | some x,some y=>some (x,y) | _,_=>none).isSome=_
  rw [List.all_cons,List.all_cons,List.all_nil,← fO,← fO]
  cases nO a <;> cases nO b <;> rfl
 | _ :: _ :: _ :: _=>simp
def Pr (K:W.Frag):Sp:=fun vs H Q _=>∃ z:Str,vs=[.str z]/\z.length<=1000/\∀ H',Same H H'->Q (.bl (pO z).isSome) H'
theorem kE:aK ["word","numbers"] ["word"] (ak bT):=⟨rfl,rfl,rfl,by trivial,rfl,by trivial,by trivial⟩
theorem dg (T:Txt w K mg):p8 P w K mg base 2 "is_pair_word" ["word"] (Pr K):=by
 have bu:=bu (P:=P) (w:=w) (base:=base) T
 refine jB T.d_is_pair_word kE (fun _ _ _ _ _ _ us hl=>L2.iJ (fun _=>rfl) us hl) ?_ fun f cdv A outer s H vs Q E hr h=>?_
 ·rintro vs H Q E ⟨z,rfl,_⟩;rfl
 obtain ⟨z,rfl,hl,q⟩:=h
 have hu:=hr.units0
 have hu64:=hr.units
 refine ⟨_,(aq (bw (i:=1) kE.nd rfl (Or.inl Ls) (fc (K:=K) rfl PySem.F.plainAttrs_str PySem.F.slot_str_split PySem.F.type_str_split lB (ao 0 kz1a) (aa aD aj)) rfl) (aA (aF (pM (fX (aN (K:=K) rfl hu64) (aM (aQ (K:=K) rfl) (bG kz19) T.b_len cu (aa (ao 1 Ls) aj) (by trivial) (by trivial)) az (by walk_at "p")) (nG (aM (fV rfl) (bG kz17) T.b_all jL (aa (dF (sub:=[none]) (aY (N:=["word","numbers"]) (sc:=ak bT) (N':=["number"]) (by trivial)) rfl rfl rfl (bM (K:=K) rfl (ao 1 Ls)) (fun C s₀ H₀ ex=>(iW 0 (by trivial) oh)) (fun C s₀ H₀ ex=>bL) (fun C s₀ H₀ ex=>(bj bu (hr.mono (by decide)) (sI (by trivial)) (aa (dh 0 (by trivial)) aj) (by trivial)))) aj) (by trivial) (by trivial))))))),?_⟩
 walk_at "s"
 have hz:20000<=sizeLine:=by decide
 obtain ⟨hm1,hm2⟩:=dw z 58
 refine ⟨rfl,?_⟩
 walk_at "s"
 refine nR (by trivial) (by omega) fun a na=>?_
 walk_at "s"
 rw [colon]
 have S1:=(Same.refl H).upd (o:=.lst ((Txt.split z ⟨#[58]⟩).map V.str)) na
 have hp:upd H a (.lst ((Txt.split z ⟨#[58]⟩).map V.str)) a=_:=au
 revert S1 hp
 generalize upd H a (.lst ((Txt.split z ⟨#[58]⟩).map V.str))=H1
 intro S1 hp
 rw [ur] at q
 generalize Txt.split z ⟨#[58]⟩=ys at*
 refine lg (SqL.of hp) ?_
 walk_at "s"
 rw [List.length_map]
 by_cases h2:ys.length=2
 rotate_left
 ·rw [decide_eq_false (show ¬ V.int (ys.length:Int)=V.int 2 from fun e=>h2 (by have:=V.int.inj e;omega))]
  show if false=true then _ else _
  rw [decide_eq_false h2,Bool.false_and] at q
  walk_at "s"
  exact q H1 S1
 rw [decide_eq_true (show V.int (ys.length:Int)=V.int 2 by rw [h2];rfl)]
 rw [decide_eq_true h2,Bool.true_and] at q
 show if true=true then _ else _
 walk_at "s"
 refine .inl ⟨a,rfl,⟨_,SqL.of hp⟩,?_⟩
 refine aU (xs:=ys.map V.str) (fun i zs G=>Same H1 G/\zs=((ys.take i).map gJ).map V.bl) (by rw [List.length_map];omega) ⟨Same.refl H1,rfl⟩ ?_ ?_ ?_ ?_
 ·rintro i zs G ⟨_,rfl⟩
  rw [List.length_map,List.length_map,List.length_take];omega
 ·rintro i zs G ⟨s,_⟩
  exact SqL.of (s _ _ hp)
 ·rintro i zs G v hv ⟨s,rfl⟩
  rw [List.getElem?_map] at hv
  obtain ⟨y,ey,rfl⟩:=Option.map_eq_some_iff.mp hv
  have:=hm2 y (List.mem_of_getElem? ey)
  walk_at "s"
  refine ⟨KeepSt.set rfl,?_⟩
  walk_at "s"
  refine ⟨y,rfl,by omega,fun G2 S2=>?_⟩
  walk_at "s"
  refine ⟨s.trans S2,?_⟩
  rw [List.take_add_one,ey,List.map_append,List.map_append]
  rfl
 rintro zs G D H2 ⟨s,rfl⟩ nD S2 hD
 rw [List.length_map,List.take_length] at hD
 try walk_at "s"
 refine ⟨D,_,rfl,hD,?_⟩
 rw [List.all_map,show (id ∘ gJ)=gJ from rfl]
 exact q H2 (S1.trans (s.trans S2))
theorem oA:(["part"]:List Str).Nodup:=by trivial
theorem oE:(["part"]:List Str).Nodup:=by trivial
theorem Gz:cF dJ "word":=by trivial
theorem kz1c:bU dJ "NOTHING":=by trivial
theorem kz1d:bU dJ "need_word":=by trivial
theorem kz1e:bU dJ "isinstance":=by trivial
theorem kz1f:bU dJ "str":=by trivial
theorem Pu:bU fM "int":=by trivial
theorem Lw:cF fM "numbers":=by trivial
theorem kz1i:cF fM "word":=by trivial
theorem kz1j:bU bO "int":=by trivial
theorem GC:cF bO "word":=by trivial
theorem kz1l:bU bO "need_word":=by trivial
theorem kz1m:bU bO "is_number_word":=by trivial
theorem kz1n:bU bO "isinstance":=by trivial
theorem kz1o:bU bO "str":=by trivial
theorem Lx:cF bz "parts":=by trivial
theorem kz1q:bU bz "need_word":=by trivial
theorem Px:cF bz "word":=by trivial
theorem kz1s:bU bz "all":=by trivial
theorem kz1t:bU bz "parts_of":=by trivial
def sJ (c:Nat) (z:Str):List Str:=if z=Str.ofString "-" then [] else Txt.split z ⟨#[c]⟩
theorem gK (c:Nat) (f:Str->Option PyData) (z:Str):lists c f z=lG f (sJ c z):=by
 unfold lists sJ
 split
 ·rfl
 ·rfl
theorem GD {f:Str->Option PyData} {ys:List Str} {d:PyData} (h:lG f ys=some d):ys.all (fun y=>(f y).isSome)=true/\d= .list (ys.map fun y=>(f y).getD .none):=by
 unfold lG at h
 split at h
 ·rename_i e;cases h;exact ⟨e,rfl⟩
 ·cases h
theorem jn {f:Str->Option PyData} {ys:List Str} (h:ys.all (fun y=>(f y).isSome)=false):lG f ys=none:=by
 unfold lG
 rw [h];rfl
theorem fW {f:Str->Option PyData} {ys:List Str} (h:ys.all (fun y=>(f y).isSome)=true):lG f ys=some (.list (ys.map fun y=>(f y).getD .none)):=by
 unfold lG
 rw [h];rfl
theorem oF (c:Nat) (z:Str):(sJ c z).length<=z.length+1/\∀ y∈sJ c z,y.length<=z.length:=by
 unfold sJ
 split
 ·exact ⟨Nat.zero_le _,fun y h=>by cases h⟩
 ·exact dw z c
def GF (K:W.Frag) (mg:Str->Option Value):Sp:=fun vs H Q E=>∃ v,vs=[v]/\TH K H v/\(∀ z,v= .str z->∀ q H',H q=none->Same H H'->H' q=some (.lst ((sJ 44 z).map V.str))->Q (.ref q) H')/\((∀ z,v≠.str z)->Exc mg H v E)
theorem wD:aK ["word"] ["word"] (ak dJ):=⟨rfl,rfl,rfl,by trivial,rfl,by trivial,by trivial⟩
theorem dz (T:Txt w K mg):lA P w K mg base 4 "parts_of" ["word"] (GF K mg):=by
 have aL:=aL (P:=P) (w:=w) (base:=base) T
 refine jm T.d_parts_of wD (fun _ _ _ _ _ _ us hl=>L2.iJ (fun _=>rfl) us hl) ?_ fun f cdv A outer s H vs Q E hr h=>?_
 ·rintro vs H Q E ⟨v,rfl,_⟩;rfl
 obtain ⟨v,rfl,hT,q,qx⟩:=h
 have hu:=hr.units0
 have hu64:=hr.units
 refine ⟨_,(aq (cX (bI aL (hr.mono (by decide)) (bG kz1d) bc (aa (aM (fJ (K:=K) rfl) (bG kz1e) T.b_isinstance b7 (aa (ao 0 Gz) (aa (vV (bG kz1f) T.b_str jr (by trivial) (by trivial)) aj)) (by trivial) (by trivial)) (aa (ao 0 Gz) aj)) (by trivial))) (aA (aF (Ks (aH (aN (K:=K) rfl hu64) (ao 0 Gz) (iw (bG kz1c) T.c_NOTHING (by trivial)) (by walk_at "p")) (bA aj) (fc (K:=K) rfl PySem.F.plainAttrs_str PySem.F.slot_str_split PySem.F.type_str_split lB (ao 0 Gz) (aa aD aj)))))),?_⟩
 walk_at "s"
 have hz:20000<=sizeLine:=by decide
 rcases hT with ⟨z,rfl,hl⟩ | ⟨hN,_⟩
 rotate_left
 ·have hN':=hN
  obtain ⟨ty,hty,hk⟩:=hN'
  refine iT hty hk ?_
  walk_at "s"
  refine ⟨false,v,rfl,(fun h=>by cases h),fun _=>qx hN.no⟩
 refine iT (.str _) rfl ?_
 walk_at "s"
 refine ⟨true,_,rfl,(fun _=>?_),fun h=>by cases h⟩
 have q':=q z rfl
 unfold sJ at q'
 try walk_at "s"
 rw [cQ]
 by_cases h:z=Str.ofString "-"
 ·rw [decide_eq_true h]
  simp only [if_pos h] at q'
  walk_at "s"
  refine aJ rfl fun p H1 np S1 hp=>?_
  walk_at "s"
  exact q' p H1 np S1 hp
 ·rw [decide_eq_false h]
  simp only [if_neg h] at q'
  walk_at "s"
  refine ⟨rfl,?_⟩
  walk_at "s"
  refine nR (by trivial) (by omega) fun p np=>?_
  walk_at "s"
  rw [comma]
  exact q' p _ np ((Same.refl H).upd np) au
def Py (K:W.Frag):Sp:=fun vs H Q _=>∃ (z:Str) (p:Nat×Nat),vs=[.str z]/\z.length<=1000/\pO z=some p/\∀ t H',Same H H'->H' t=some (.tup [.int (p.1:Int),.int (p.2:Int)])->Q (.ref t) H'
theorem GJ {z:Str} {p:Nat×Nat} (h:pO z=some p):∃ a b,Txt.split z ⟨#[58]⟩=[a,b]/\nO a=some p.1/\nO b=some p.2:=by
 unfold pO at h
 match e:Txt.split z ⟨#[58]⟩,h with
 | [a,b],h=>
  refine ⟨a,b,rfl,?_⟩
  replace h:(match nO a,nO b with | some x,some y=>some (x,y) | _,_=>none)=some p:=h
  cases ha:nO a with
  | none=>rw [ha] at h;cases h
  | some x=>
   cases hb:nO b with
   | none=>rw [ha,hb] at h;cases h
   | some y=>rw [ha,hb] at h;cases h;exact ⟨rfl,rfl⟩
theorem vd {H:Hp} {Q:VK} {z:Str} {n:Nat} (hz:z.length<=1000) (h:nO z=some n) (q:Q (.int (n:Int)) H):CJ [.str z] H Q:=by
 have hl:z.length<=4:=by
  have:gJ z=true:=by rw [← fO,h];rfl
  unfold gJ at this
  simp only [Bool.and_eq_true,decide_eq_true_eq] at this
  exact this.1.1.2
 obtain ⟨e,hn⟩:=Gu h
 exact Lb (by rw [e];exact Li hn) (by omega) q
theorem oG:aK ["word","numbers"] ["word"] (ak fM):=⟨rfl,rfl,rfl,by trivial,rfl,by trivial,by trivial⟩
theorem fP (T:Txt w K mg):p8 P w K mg base 1 "pair_read" ["word"] (Py K):=by
 refine jB T.d_pair_read oG (fun _ _ _ _ _ _ us hl=>L2.iJ (fun _=>rfl) us hl) ?_ fun f cdv A outer s H vs Q E hr h=>?_
 ·rintro vs H Q E ⟨z,p,rfl,_⟩;rfl
 obtain ⟨z,p,rfl,hl,hp,q⟩:=h
 have hu:=hr.units0
 have hu64:=hr.units
 refine ⟨_,(aq (bw (i:=1) oG.nd rfl (Or.inl Lw) (fc (K:=K) rfl PySem.F.plainAttrs_str PySem.F.slot_str_split PySem.F.type_str_split lB (ao 0 kz1i) (aa aD aj)) rfl) (aA (aF (gG (aa (dD jD (bG Pu) T.b_int rD (aa (cJ (K:=K) rfl (ao 1 Lw) az) aj) (by trivial) (by trivial)) (aa (dD jD (bG Pu) T.b_int rD (aa (cJ (K:=K) rfl (ao 1 Lw) az) aj) (by trivial) (by trivial)) aj)))))),?_⟩
 walk_at "s"
 have hz:20000<=sizeLine:=by decide
 obtain ⟨x,y,es,hx,hy⟩:=GJ hp
 have hm:=(dw z 58).2
 rw [es] at hm
 have lx:=hm x (by simp)
 have ly:=hm y (by simp)
 refine ⟨rfl,?_⟩
 walk_at "s"
 refine nR (by trivial) (by omega) fun a na=>?_
 walk_at "s"
 rw [colon,es]
 walk_at "s"
 refine vd (by omega) hx ?_
 walk_at "s"
 refine vd (by omega) hy ?_
 walk_at "s"
 refine aJ rfl fun t H1 nt S1 ht=>?_
 walk_at "s"
 exact q t H1 (((Same.refl H).upd na).trans S1) ht
def zR (K:W.Frag) (mg:Str->Option Value) (o:Str->Option PyData):Sp:=fun vs H Q E=>∃ v,vs=[v]/\TH K H v/\(∀ z d,v= .str z->o z=some d->∀ u H',Same H H'->DR H' d u->Q u H')/\((∀ z,v= .str z->o z=none)->Exc mg H v E)
theorem rZ:aK ["word"] ["word"] (ak bO):=⟨rfl,rfl,rfl,by trivial,rfl,by trivial,by trivial⟩
theorem jx (T:Txt w K mg):lA P w K mg base 4 "read_number" ["word"] (zR K mg eN):=by
 have aL:=aL (P:=P) (w:=w) (base:=base) T
 have bu:=bu (P:=P) (w:=w) (base:=base) T
 refine jm T.d_read_number rZ (fun _ _ _ _ _ _ us hl=>L2.iJ (fun _=>rfl) us hl) ?_ fun f cdv A outer s H vs Q E hr h=>?_
 ·rintro vs H Q E ⟨v,rfl,_⟩;rfl
 obtain ⟨v,rfl,hT,q,qx⟩:=h
 have hu:=hr.units0
 have hu64:=hr.units
 refine ⟨_,(aq (cX (bI aL (hr.mono (by decide)) (bG kz1l) bc (aa (pM (aM (fJ (K:=K) rfl) (bG kz1n) T.b_isinstance b7 (aa (ao 0 GC) (aa (vV (bG kz1o) T.b_str jr (by trivial) (by trivial)) aj)) (by trivial) (by trivial)) (nG (bj bu (hr.mono (by decide)) (bG kz1m) (aa (ao 0 GC) aj) (by trivial)))) (aa (ao 0 GC) aj)) (by trivial))) (aA (aF (dD jD (bG kz1j) T.b_int rD (aa (ao 0 GC) aj) (by trivial) (by trivial))))),?_⟩
 walk_at "s"
 rcases hT with ⟨z,rfl,hl⟩ | ⟨hN,_⟩
 rotate_left
 ·have hN':=hN
  obtain ⟨ty,hty,hk⟩:=hN'
  refine iT hty hk ?_
  walk_at "s"
  refine ⟨false,v,rfl,(fun h=>by cases h),fun _=>qx fun z e=>absurd e (hN.no z)⟩
 refine iT (.str _) rfl ?_
 walk_at "s"
 refine ⟨z,rfl,hl,fun H1 S1=>?_⟩
 walk_at "s"
 refine ⟨_,_,rfl,fun h=>?_,fun h=>Exc.same (qx fun z' e=>?_) S1⟩
 ·have:(nO z).isSome=true:=by rw [fO];exact h
  obtain ⟨n,hn⟩:=Option.isSome_iff_exists.mp this
  try walk_at "s"
  refine vd hl hn ?_
  walk_at "s"
  exact q z _ rfl (show eN z=some (.int (n:Int)) by unfold eN;rw [hn];rfl) _ H1 S1 (mH.mpr rfl)
 ·cases e
  have:(nO z).isSome=false:=by rw [fO];exact h
  unfold eN
  cases hn:nO z with
  | none=>rfl
  | some n=>rw [hn] at this;cases this
theorem ut (z:Str):(eN z).isSome=gJ z:=by unfold eN;rw [Option.isSome_map,fO]
theorem jG (z:Str):(eP z).isSome=(pO z).isSome:=by unfold eP;rw [Option.isSome_map]
theorem kI:aK ["word","parts"] ["word"] (ak bz):=⟨rfl,rfl,rfl,by trivial,rfl,by trivial,by trivial⟩
theorem jd (T:Txt w K mg):lA P w K mg base 5 "read_numbers" ["word"] (zR K mg (lists 44 eN)):=by
 have dz:=dz (P:=P) (w:=w) (base:=base) T
 have aL:=aL (P:=P) (w:=w) (base:=base) T
 have bu:=bu (P:=P) (w:=w) (base:=base) T
 refine jm T.d_read_numbers kI (fun _ _ _ _ _ _ us hl=>L2.iJ (fun _=>rfl) us hl) ?_ fun f cdv A outer s H vs Q E hr h=>?_
 ·rintro vs H Q E ⟨v,rfl,_⟩;rfl
 obtain ⟨v,rfl,hT,q,qx⟩:=h
 have hu:=hr.units0
 have hu64:=hr.units
 refine ⟨_,(aq (bw (i:=1) kI.nd rfl (Or.inl Lx) (bI dz (hr.mono (by decide)) (bG kz1t) bc (aa (ao 0 Px) aj) (by trivial)) rfl) (aq (cX (bI aL (hr.mono (by decide)) (bG kz1q) bc (aa (aM (fV rfl) (bG kz1s) T.b_all jL (aa (dF (sub:=[none]) (aY (N:=["word","parts"]) (sc:=ak bz) (N':=["part"]) (by trivial)) rfl rfl rfl (bM (K:=K) rfl (ao 1 Lx)) (fun C s₀ H₀ ex=>(iW 0 (by trivial) oE)) (fun C s₀ H₀ ex=>bL) (fun C s₀ H₀ ex=>(bj bu (hr.mono (by decide)) (sI (by trivial)) (aa (dh 0 (by trivial)) aj) (by trivial)))) aj) (by trivial) (by trivial)) (aa (ao 0 Px) aj)) (by trivial))) (aA (aF (dF (sub:=[none]) (aY (N:=["word","parts"]) (sc:=ak bz) (N':=["part"]) (by trivial)) rfl rfl rfl (bM (K:=K) rfl (ao 1 Lx)) (fun C s₀ H₀ ex=>(iW 0 (by trivial) oA)) (fun C s₀ H₀ ex=>bL) (fun C s₀ H₀ ex=>(dD jD (sI (by trivial)) T.b_int rD (aa (dh 0 (by trivial)) aj) (by trivial) (by trivial)))))))),?_⟩
 walk_at "s"
 have hz:20000<=sizeLine:=by decide
 refine ⟨v,rfl,hT,fun z ez p H1 np S1 hp=>?_,fun h=>qx fun z e=>absurd e (h z)⟩
 subst ez
 have hl:z.length<=1000:=by
  rcases hT with ⟨z',e,h⟩ | ⟨h,_⟩
  ·cases e;exact h
  ·exact absurd rfl (h.no z)
 obtain ⟨hm1,hm2⟩:=oF 44 z
 have q':=q z
 rw [gK] at q'
 have qx':lG eN (sJ 44 z)=none->Exc mg H (.str z) E:=fun h=>qx fun z' e=>by cases e;rw [gK];exact h
 generalize sJ 44 z=ys at*
 try walk_at "s"
 refine .inl ⟨p,rfl,⟨_,SqL.of hp⟩,?_⟩
 refine aU (xs:=ys.map V.str) (fun i zs G=>Same H1 G/\zs=((ys.take i).map fun y=>(eN y).isSome).map V.bl) (by rw [List.length_map];omega) ⟨Same.refl H1,rfl⟩ ?_ ?_ ?_ ?_
 ·rintro i zs G ⟨_,rfl⟩
  rw [List.length_map,List.length_map,List.length_take];omega
 ·rintro i zs G ⟨s,_⟩
  exact SqL.of (s _ _ hp)
 ·rintro i zs G v hv ⟨s,rfl⟩
  rw [List.getElem?_map] at hv
  obtain ⟨y,ey,rfl⟩:=Option.map_eq_some_iff.mp hv
  have:=hm2 y (List.mem_of_getElem? ey)
  walk_at "s"
  refine ⟨KeepSt.set rfl,?_⟩
  walk_at "s"
  refine ⟨y,rfl,by omega,fun G2 S2=>?_⟩
  walk_at "s"
  refine ⟨s.trans S2,?_⟩
  rw [List.take_add_one,ey,List.map_append,List.map_append,← ut]
  rfl
 rintro zs G D H2 ⟨s,rfl⟩ nD S2 hD
 rw [List.length_map,List.take_length] at hD
 have U2:=S1.trans (s.trans S2)
 have hp2:=(s.trans S2) _ _ hp
 try walk_at "s"
 refine ⟨D,_,rfl,hD,?_⟩
 rw [List.all_map,show (id ∘ fun y=>(eN y).isSome)=(fun y=>(eN y).isSome) from rfl]
 try walk_at "s"
 refine ⟨_,_,rfl,fun h=>?_,fun h=>Exc.same (qx' (jn h)) U2⟩
 try walk_at "s"
 refine .inl ⟨p,rfl,⟨_,SqL.of hp2⟩,?_⟩
 refine aU (xs:=ys.map V.str) (fun i zs G=>G=H2/\zs.length<=i/\DRs G ((ys.take i).map fun y=>(eN y).getD .none) zs) (by rw [List.length_map];omega) ⟨rfl,Nat.le_refl _,dq.mpr rfl⟩ ?_ ?_ ?_ ?_
 ·rintro i zs G ⟨_,h,_⟩
  exact h
 ·rintro i zs G ⟨rfl,_⟩
  exact SqL.of hp2
 ·rintro i zs G v hv ⟨rfl,hzl,hd⟩
  rw [List.getElem?_map] at hv
  obtain ⟨y,ey,rfl⟩:=Option.map_eq_some_iff.mp hv
  have hym:=List.mem_of_getElem? ey
  have hy1:=hm2 y hym
  have hy2:=List.all_eq_true.mp h y hym
  unfold eN at hy2
  rw [Option.isSome_map] at hy2
  obtain ⟨n,hn⟩:=Option.isSome_iff_exists.mp hy2
  walk_at "s"
  refine ⟨KeepSt.set rfl,?_⟩
  walk_at "s"
  refine vd (by omega) hn ?_
  walk_at "s"
  refine ⟨rfl,by rw [List.length_append];simp;omega,?_⟩
  rw [List.take_add_one,ey,List.map_append]
  refine fj hd (cL ?_)
  show DR G ((eN y).getD .none) _
  unfold eN
  rw [hn]
  exact mH.mpr rfl
 ·rintro zs G D2 H3 ⟨rfl,_,hd⟩ nD2 S3 hD2
  rw [List.length_map,List.take_length] at hd
  exact q' _ rfl (fW h) _ H3 (U2.trans S3) (bV.mpr ⟨D2,zs,rfl,hD2,DRs.same S3 _ _ hd⟩)
theorem qF:(["part"]:List Str).Nodup:=by trivial
theorem qG:(["part"]:List Str).Nodup:=by trivial
theorem Ly:cF bQ "parts":=by trivial
theorem kz1v:bU bQ "need_word":=by trivial
theorem Pz:cF bQ "word":=by trivial
theorem kz1x:bU bQ "all":=by trivial
theorem kz1y:bU bQ "parts_of":=by trivial
theorem Df {H:Hp} {p:Nat×Nat} {t:Addr} (ht:H t=some (.tup [.int (p.1:Int),.int (p.2:Int)])):DR H (pD p) (.ref t):=
 lu.mpr ⟨t,_,rfl,ht,cZ.mpr ⟨_,_,rfl,mH.mpr rfl,cL (mH.mpr rfl)⟩⟩
theorem mz:aK ["word","parts"] ["word"] (ak bQ):=⟨rfl,rfl,rfl,by trivial,rfl,by trivial,by trivial⟩
theorem jO (T:Txt w K mg):lA P w K mg base 5 "read_pairs" ["word"] (zR K mg (lists 44 eP)):=by
 have dz:=dz (P:=P) (w:=w) (base:=base) T
 have aL:=aL (P:=P) (w:=w) (base:=base) T
 have dg:=dg (P:=P) (w:=w) (base:=base) T
 have fP:=fP (P:=P) (w:=w) (base:=base) T
 refine jm T.d_read_pairs mz (fun _ _ _ _ _ _ us hl=>L2.iJ (fun _=>rfl) us hl) ?_ fun f cdv A outer s H vs Q E hr h=>?_
 ·rintro vs H Q E ⟨v,rfl,_⟩;rfl
 obtain ⟨v,rfl,hT,q,qx⟩:=h
 have hu:=hr.units0
 have hu64:=hr.units
 refine ⟨_,(aq (bw (i:=1) mz.nd rfl (Or.inl Ly) (bI dz (hr.mono (by decide)) (bG kz1y) bc (aa (ao 0 Pz) aj) (by trivial)) rfl) (aq (cX (bI aL (hr.mono (by decide)) (bG kz1v) bc (aa (aM (fV rfl) (bG kz1x) T.b_all jL (aa (dF (sub:=[none]) (aY (N:=["word","parts"]) (sc:=ak bQ) (N':=["part"]) (by trivial)) rfl rfl rfl (bM (K:=K) rfl (ao 1 Ly)) (fun C s₀ H₀ ex=>(iW 0 (by trivial) qG)) (fun C s₀ H₀ ex=>bL) (fun C s₀ H₀ ex=>(bj dg (hr.mono (by decide)) (sI (by trivial)) (aa (dh 0 (by trivial)) aj) (by trivial)))) aj) (by trivial) (by trivial)) (aa (ao 0 Pz) aj)) (by trivial))) (aA (aF (dF (sub:=[none]) (aY (N:=["word","parts"]) (sc:=ak bQ) (N':=["part"]) (by trivial)) rfl rfl rfl (bM (K:=K) rfl (ao 1 Ly)) (fun C s₀ H₀ ex=>(iW 0 (by trivial) qF)) (fun C s₀ H₀ ex=>bL) (fun C s₀ H₀ ex=>(bj fP (hr.mono (by decide)) (sI (by trivial)) (aa (dh 0 (by trivial)) aj) (by trivial)))))))),?_⟩
 walk_at "s"
 have hz:20000<=sizeLine:=by decide
 refine ⟨v,rfl,hT,fun z ez p H1 np S1 hp=>?_,fun h=>qx fun z e=>absurd e (h z)⟩
 subst ez
 have hl:z.length<=1000:=by
  rcases hT with ⟨z',e,h⟩ | ⟨h,_⟩
  ·cases e;exact h
  ·exact absurd rfl (h.no z)
 obtain ⟨hm1,hm2⟩:=oF 44 z
 have q':=q z
 rw [gK] at q'
 have qx':lG eP (sJ 44 z)=none->Exc mg H (.str z) E:=fun h=>qx fun z' e=>by cases e;rw [gK];exact h
 generalize sJ 44 z=ys at*
 try walk_at "s"
 refine .inl ⟨p,rfl,⟨_,SqL.of hp⟩,?_⟩
 refine aU (xs:=ys.map V.str) (fun i zs G=>Same H1 G/\zs=((ys.take i).map fun y=>(eP y).isSome).map V.bl) (by rw [List.length_map];omega) ⟨Same.refl H1,rfl⟩ ?_ ?_ ?_ ?_
 ·rintro i zs G ⟨_,rfl⟩
  rw [List.length_map,List.length_map,List.length_take];omega
 ·rintro i zs G ⟨s,_⟩
  exact SqL.of (s _ _ hp)
 ·rintro i zs G v hv ⟨s,rfl⟩
  rw [List.getElem?_map] at hv
  obtain ⟨y,ey,rfl⟩:=Option.map_eq_some_iff.mp hv
  have:=hm2 y (List.mem_of_getElem? ey)
  walk_at "s"
  refine ⟨KeepSt.set rfl,?_⟩
  walk_at "s"
  refine ⟨y,rfl,by omega,fun G2 S2=>?_⟩
  walk_at "s"
  refine ⟨s.trans S2,?_⟩
  rw [List.take_add_one,ey,List.map_append,List.map_append,← jG]
  rfl
 rintro zs G D H2 ⟨s,rfl⟩ nD S2 hD
 rw [List.length_map,List.take_length] at hD
 have U2:=S1.trans (s.trans S2)
 have hp2:=(s.trans S2) _ _ hp
 try walk_at "s"
 refine ⟨D,_,rfl,hD,?_⟩
 rw [List.all_map,show (id ∘ fun y=>(eP y).isSome)=(fun y=>(eP y).isSome) from rfl]
 try walk_at "s"
 refine ⟨_,_,rfl,fun h=>?_,fun h=>Exc.same (qx' (jn h)) U2⟩
 try walk_at "s"
 refine .inl ⟨p,rfl,⟨_,SqL.of hp2⟩,?_⟩
 refine aU (xs:=ys.map V.str) (fun i zs G=>Same H2 G/\zs.length<=i/\DRs G ((ys.take i).map fun y=>(eP y).getD .none) zs) (by rw [List.length_map];omega) ⟨Same.refl H2,Nat.le_refl _,dq.mpr rfl⟩ ?_ ?_ ?_ ?_
 ·rintro i zs G ⟨_,h,_⟩
  exact h
 ·rintro i zs G ⟨s,_⟩
  exact SqL.of (s _ _ hp2)
 ·rintro i zs G v hv ⟨s,hzl,hd⟩
  rw [List.getElem?_map] at hv
  obtain ⟨y,ey,rfl⟩:=Option.map_eq_some_iff.mp hv
  have hym:=List.mem_of_getElem? ey
  have hy1:=hm2 y hym
  have hy2:=List.all_eq_true.mp h y hym
  rw [jG] at hy2
  obtain ⟨n,hn⟩:=Option.isSome_iff_exists.mp hy2
  walk_at "s"
  refine ⟨KeepSt.set rfl,?_⟩
  walk_at "s"
  refine ⟨y,n,rfl,by omega,hn,fun t G2 S2 ht=>?_⟩
  walk_at "s"
  refine ⟨s.trans S2,by rw [List.length_append];simp;omega,?_⟩
  rw [List.take_add_one,ey,List.map_append]
  refine fj (DRs.same S2 _ _ hd) (cL ?_)
  show DR G2 ((eP y).getD .none) _
  unfold eP
  rw [hn]
  exact Df ht
 ·rintro zs G D2 H3 ⟨s3,_,hd⟩ nD2 S3 hD2
  rw [List.length_map,List.take_length] at hd
  exact q' _ rfl (fW h) _ H3 (U2.trans (s3.trans S3)) (bV.mpr ⟨D2,zs,rfl,hD2,DRs.same S3 _ _ hd⟩)
end
local macro_rules | `(tactic| walk_at "s") => `(tactic| (with_reducible repeat (first | refine ue ?_ | walk_at "3")))
local macro_rules | `(tactic| walk_at "n") => `(tactic| (with_reducible repeat (walk_at "3")))
section
variable {P:Program} {w:World} {K:W.Frag} {mg:Str->Option Value} {base:Heap}
theorem zU:cF fG "word":=by trivial
theorem PB:bU fG "NOTHING":=by trivial
theorem kz21:bU fG "need_word":=by trivial
theorem kz22:bU fG "is_row":=by trivial
theorem wF:aK ["word"] ["word"] (ak fG):=⟨rfl,rfl,rfl,by trivial,rfl,by trivial,by trivial⟩
theorem mQ (T:Txt w K mg):lA P w K mg base 4 "read_row" ["word"] (zR K mg (out 0)):=by
 have aL:=aL (P:=P) (w:=w) (base:=base) T
 have jF:=jF (P:=P) (w:=w) (base:=base) T
 refine jm T.d_read_row wF (fun _ _ _ _ _ _ us hl=>L2.iJ (fun _=>rfl) us hl) ?_ fun f cdv A outer s H vs Q E hr h=>?_
 ·rintro vs H Q E ⟨v,rfl,_⟩;rfl
 obtain ⟨v,rfl,hT,q,qx⟩:=h
 have hu:=hr.units0
 have hu64:=hr.units
 refine ⟨_,(aq (cX (bI aL (hr.mono (by decide)) (bG kz21) bc (aa (Oi (fX (CP (K:=K) rfl hu64) (ao 0 zU) (iw (bG PB) T.c_NOTHING (by trivial)) (by walk_at "p")) (nG (pM (bj jF (hr.mono (by decide)) (bG kz22) (aa (ao 0 zU) aj) (by trivial)) (nG (fX (lz (K:=K) rfl hu64) (ao 0 zU) aD (by walk_at "p")))))) (aa (ao 0 zU) aj)) (by trivial))) (aA (aF (Ks (aH (CP (K:=K) rfl hu64) (ao 0 zU) (iw (bG PB) T.c_NOTHING (by trivial)) (by walk_at "p")) aD (ao 0 zU))))),?_⟩
 walk_at "s"
 have hz:20000<=sizeLine:=by decide
 rcases hT with ⟨z,rfl,hl⟩ | ⟨hN,hE⟩
 rotate_left
 ·refine hE H (Same.refl H) _ ?_
  walk_at "s"
  refine ⟨v,false,rfl,.inr ⟨rfl,hN⟩,fun H1 S1=>?_⟩
  walk_at "s"
  refine ⟨false,v,rfl,(fun h=>by cases h),fun _=>Exc.same (qx fun z e=>absurd e (hN.no z)) S1⟩
 have q':=q z
 have qx':out 0 z=none->Exc mg H (.str z) E:=fun h=>qx fun z' e=>by cases e;exact h
 unfold out at q' qx'
 rw [if_pos rfl] at q' qx'
 walk_at "s"
 rw [cQ]
 by_cases h:z=Str.ofString "-"
 ·rw [if_pos h] at q'
  rw [decide_eq_true h]
  show if true=true then _ else _
  walk_at "s"
  refine ⟨true,_,rfl,(fun _=>?_),fun h=>by cases h⟩
  try walk_at "s"
  rw [cQ,decide_eq_true h]
  walk_at "s"
  exact q' _ rfl rfl _ H (Same.refl H) (dm.mpr rfl)
 ·rw [if_neg h] at q' qx'
  rw [decide_eq_false h]
  show if false=true then _ else _
  walk_at "s"
  refine ⟨_,_,rfl,.inl ⟨z,rfl,hl,rfl⟩,fun H1 S1=>?_⟩
  walk_at "s"
  cases hb:mJ z with
  | false=>
   rw [hb] at q' qx'
   show if false=true then _ else _
   walk_at "s"
   refine ⟨false,_,rfl,(fun h=>by cases h),fun _=>Exc.same (qx' (if_neg (fun h=>by cases h.1))) S1⟩
  | true=>
   rw [hb] at q' qx'
   show if true=true then _ else _
   walk_at "s"
   rw [cQ]
   by_cases h0:z=Str.ofString ""
   ·rw [decide_eq_true h0]
    refine ⟨false,_,rfl,(fun h=>by cases h),fun _=>Exc.same (qx' (if_neg (fun h=>h.2 h0))) S1⟩
   ·rw [decide_eq_false h0]
    refine ⟨true,_,rfl,(fun _=>?_),fun h=>by cases h⟩
    try walk_at "s"
    rw [cQ,decide_eq_false h]
    walk_at "s"
    exact q' _ rfl (if_pos ⟨rfl,h0⟩) _ H1 S1 (dm.mpr rfl)
end
local macro_rules | `(tactic| walk_at "s") => `(tactic| (with_reducible repeat (first | refine ue ?_ | walk_at "2")))
local macro_rules | `(tactic| walk_at "n") => `(tactic| (with_reducible repeat (walk_at "2")))
section
variable {P:Program} {w:World} {K:W.Frag} {mg:Str->Option Value} {base:Heap}
theorem oH:(["heap"]:List Str).Nodup:=by trivial
theorem qH:(["heap"]:List Str).Nodup:=by trivial
theorem qI:(["part"]:List Str).Nodup:=by trivial
theorem qJ:(["heap"]:List Str).Nodup:=by trivial
theorem qK:(["part"]:List Str).Nodup:=by trivial
theorem GK:cF bJ "word":=by trivial
theorem kz24:bU bJ "NOTHING":=by trivial
theorem kz25:bU bJ "need_word":=by trivial
theorem kz26:bU bJ "isinstance":=by trivial
theorem kz27:bU bJ "str":=by trivial
theorem Lz:cF bR "heaps":=by trivial
theorem kz29:bU bR "need_word":=by trivial
theorem PJ:cF bR "word":=by trivial
theorem kz2b:bU bR "all":=by trivial
theorem kz2c:bU bR "heaps_parted":=by trivial
theorem yD {α:Type} {R:V->α->Prop} {zs:List V} {xs:List α} {v:V} {x:α} (h:zs.length=xs.length/\∀ (i:Nat) (v:V) (p:α),zs[i]?=some v->xs[i]?=some p->R v p) (hx:R v x):
  (zs ++ [v]).length=(xs ++ [x]).length/\∀ (i:Nat) (w:V) (p:α),(zs ++ [v])[i]?=some w->(xs ++ [x])[i]?=some p->R w p:=by
 obtain ⟨h1,h2⟩:=h
 refine ⟨by rw [List.length_append,List.length_append,h1];rfl,fun j w p e1 e2=>?_⟩
 by_cases hj:j < zs.length
 ·rw [List.getElem?_append_left hj] at e1
  rw [List.getElem?_append_left (by omega)] at e2
  exact h2 j w p e1 e2
 ·have hj2:j=zs.length:=by
   have:=(List.getElem?_eq_some_iff.mp e1).1
   rw [List.length_append] at this
   simp at this;omega
  subst hj2
  rw [List.getElem?_append_right (Nat.le_refl _),Nat.sub_self] at e1
  rw [List.getElem?_append_right (by omega),h1,Nat.sub_self] at e2
  cases e1;cases e2
  exact hx
def RS (H:Hp) (vs:List V) (ys:List Str):Prop:=vs.length=ys.length/\∀ (i:Nat) (v:V) (y:Str),vs[i]?=some v->ys[i]?=some y->∃ q,v= .ref q/\H q=some (.lst ((Txt.split y ⟨#[44]⟩).map V.str))
theorem RS.same {H H':Hp} {vs:List V} {ys:List Str} (h:RS H vs ys) (s:Same H H'):RS H' vs ys:=⟨h.1,fun i v p e1 e2=>let ⟨q,a,b⟩:=h.2 i v p e1 e2;⟨q,a,s _ _ b⟩⟩
def PK (K:W.Frag) (mg:Str->Option Value):Sp:=fun vs H Q E=>∃ v,vs=[v]/\TH K H v/\(∀ z,v= .str z->∀ q us H',Same H H'->H' q=some (.lst us)->RS H' us (sJ 47 z)->Q (.ref q) H')/\((∀ z,v≠.str z)->Exc mg H v E)
theorem qL:aK ["word"] ["word"] (ak bJ):=⟨rfl,rfl,rfl,by trivial,rfl,by trivial,by trivial⟩
theorem je (T:Txt w K mg):lA P w K mg base 4 "heaps_parted" ["word"] (PK K mg):=by
 have aL:=aL (P:=P) (w:=w) (base:=base) T
 refine jm T.d_heaps_parted qL (fun _ _ _ _ _ _ us hl=>L2.iJ (fun _=>rfl) us hl) ?_ fun f cdv A outer s H vs Q E hr h=>?_
 ·rintro vs H Q E ⟨v,rfl,_⟩;rfl
 obtain ⟨v,rfl,hT,q,qx⟩:=h
 have hu:=hr.units0
 have hu64:=hr.units
 refine ⟨_,(aq (cX (bI aL (hr.mono (by decide)) (bG kz25) bc (aa (aM (fJ (K:=K) rfl) (bG kz26) T.b_isinstance b7 (aa (ao 0 GK) (aa (vV (bG kz27) T.b_str jr (by trivial) (by trivial)) aj)) (by trivial) (by trivial)) (aa (ao 0 GK) aj)) (by trivial))) (aA (aF (Ks (aH (aN (K:=K) rfl hu64) (ao 0 GK) (iw (bG kz24) T.c_NOTHING (by trivial)) (by walk_at "p")) (bA aj) (dF (sub:=[none]) (aY (N:=["word"]) (sc:=ak bJ) (N':=["heap"]) (by trivial)) rfl rfl rfl (bM (K:=K) rfl (fc (K:=K) rfl PySem.F.plainAttrs_str PySem.F.slot_str_split PySem.F.type_str_split lB (ao 0 GK) (aa aD aj))) (fun C s₀ H₀ ex=>(iW 0 (by trivial) oH)) (fun C s₀ H₀ ex=>bL) (fun C s₀ H₀ ex=>(fc (K:=K) rfl PySem.F.plainAttrs_str PySem.F.slot_str_split PySem.F.type_str_split lB (dh 0 (by trivial)) (aa aD aj)))))))),?_⟩
 walk_at "s"
 have hz:20000<=sizeLine:=by decide
 rcases hT with ⟨z,rfl,hl⟩ | ⟨hN,_⟩
 rotate_left
 ·have hN':=hN
  obtain ⟨ty,hty,hk⟩:=hN'
  refine iT hty hk ?_
  walk_at "s"
  refine ⟨false,v,rfl,(fun h=>by cases h),fun _=>qx hN.no⟩
 refine iT (.str _) rfl ?_
 walk_at "s"
 refine ⟨true,_,rfl,(fun _=>?_),fun h=>by cases h⟩
 have q':=q z rfl
 unfold sJ at q'
 try walk_at "s"
 rw [cQ]
 by_cases h:z=Str.ofString "-"
 ·rw [decide_eq_true h]
  simp only [if_pos h] at q'
  walk_at "s"
  refine aJ rfl fun p H1 np S1 hp=>?_
  walk_at "s"
  exact q' p [] H1 S1 hp ⟨rfl,fun i v p e=>by cases e⟩
 ·rw [decide_eq_false h]
  simp only [if_neg h] at q'
  obtain ⟨hm1,hm2⟩:=dw z 47
  walk_at "s"
  refine ⟨rfl,?_⟩
  walk_at "s"
  refine nR (by trivial) (by omega) fun p np=>?_
  walk_at "s"
  rw [slash]
  generalize Txt.split z ⟨#[47]⟩=ys at*
  have S1:=(Same.refl H).upd (o:=.lst (ys.map V.str)) np
  have hp:upd H p (.lst (ys.map V.str)) p=_:=au
  revert S1 hp
  generalize upd H p (.lst (ys.map V.str))=H1
  intro S1 hp
  try walk_at "s"
  refine .inl ⟨p,rfl,⟨_,SqL.of hp⟩,?_⟩
  refine aU (xs:=ys.map V.str) (fun i zs G=>Same H1 G/\i<=ys.length/\RS G zs (ys.take i)) (by rw [List.length_map];omega) ⟨Same.refl H1,Nat.zero_le _,rfl,fun i v p e=>by cases e⟩ ?_ ?_ ?_ ?_
  ·rintro i zs G ⟨_,hi,r⟩
   rw [r.1,List.length_take];omega
  ·rintro i zs G ⟨s,_⟩
   exact SqL.of (s _ _ hp)
  ·rintro i zs G v hv ⟨s,hi,r⟩
   rw [List.getElem?_map] at hv
   obtain ⟨y,ey,rfl⟩:=Option.map_eq_some_iff.mp hv
   have hlt:=(List.getElem?_eq_some_iff.mp ey).1
   have hy:=hm2 y (List.mem_of_getElem? ey)
   walk_at "s"
   refine ⟨KeepSt.set rfl,?_⟩
   walk_at "s"
   refine ⟨rfl,?_⟩
   walk_at "s"
   refine nR (by trivial) (by omega) fun t nt=>?_
   walk_at "s"
   rw [comma]
   have S2:=(Same.refl G).upd (o:=.lst ((Txt.split y ⟨#[44]⟩).map V.str)) nt
   refine ⟨s.trans S2,hlt,?_⟩
   rw [List.take_add_one,ey]
   exact yD (r.same S2) ⟨t,rfl,au⟩
  ·rintro zs G D2 H3 ⟨s3,hi,r⟩ nD2 S3 hD2
   rw [List.length_map,List.take_length] at r
   exact q' D2 zs H3 ((S1.trans s3).trans S3) hD2 (r.same S3)
theorem uv (y:Str):(eH y).isSome=(Txt.split y ⟨#[44]⟩).all fun x=>(eP x).isSome:=by
 unfold eH
 cases h:(Txt.split y ⟨#[44]⟩).all fun x=>(eP x).isSome with
 | true=>rw [fW h];rfl
 | false=>rw [jn h];rfl
theorem mC:aK ["word","heaps"] ["word"] (ak bR):=⟨rfl,rfl,rfl,by trivial,rfl,by trivial,by trivial⟩
theorem jP (T:Txt w K mg):lA P w K mg base 5 "read_heaps" ["word"] (zR K mg (lists 47 eH)):=by
 have je:=je (P:=P) (w:=w) (base:=base) T
 have aL:=aL (P:=P) (w:=w) (base:=base) T
 have dg:=dg (P:=P) (w:=w) (base:=base) T
 have fP:=fP (P:=P) (w:=w) (base:=base) T
 refine jm T.d_read_heaps mC (fun _ _ _ _ _ _ us hl=>L2.iJ (fun _=>rfl) us hl) ?_ fun f cdv A outer s H vs Q E hr h=>?_
 ·rintro vs H Q E ⟨v,rfl,_⟩;rfl
 obtain ⟨v,rfl,hT,q,qx⟩:=h
 have hu:=hr.units0
 have hu64:=hr.units
 refine ⟨_,(aq (bw (i:=1) mC.nd rfl (Or.inl Lz) (bI je (hr.mono (by decide)) (bG kz2c) bc (aa (ao 0 PJ) aj) (by trivial)) rfl) (aq (cX (bI aL (hr.mono (by decide)) (bG kz29) bc (aa (aM (fV rfl) (bG kz2b) T.b_all jL (aa (dF (sub:=[none]) (aY (N:=["word","heaps"]) (sc:=ak bR) (N':=["heap"]) (by trivial)) rfl rfl rfl (bM (K:=K) rfl (ao 1 Lz)) (fun C s₀ H₀ ex=>(iW 0 (by trivial) qJ)) (fun C s₀ H₀ ex=>bL) (fun C s₀ H₀ ex=>(aM (fV rfl) (sI (by trivial)) T.b_all jL (aa (dF (sub:=[none]) (Cy (aY (N:=["heap"]) (N':=["part"]) (by trivial))) rfl rfl rfl (bM (K:=K) rfl (dh 0 (by trivial))) (fun C s₀ H₀ ex=>(iW 0 (by trivial) qK)) (fun C s₀ H₀ ex=>bL) (fun C s₀ H₀ ex=>(bj dg (hr.mono (by decide)) (sI (by trivial)) (aa (dh 0 (by trivial)) aj) (by trivial)))) aj) (by trivial) (by trivial)))) aj) (by trivial) (by trivial)) (aa (ao 0 PJ) aj)) (by trivial))) (aA (aF (dF (sub:=[none]) (aY (N:=["word","heaps"]) (sc:=ak bR) (N':=["heap"]) (by trivial)) rfl rfl rfl (bM (K:=K) rfl (ao 1 Lz)) (fun C s₀ H₀ ex=>(iW 0 (by trivial) qH)) (fun C s₀ H₀ ex=>bL) (fun C s₀ H₀ ex=>(dF (sub:=[none]) (Cy (aY (N:=["heap"]) (N':=["part"]) (by trivial))) rfl rfl rfl (bM (K:=K) rfl (dh 0 (by trivial))) (fun C s₀ H₀ ex=>(iW 0 (by trivial) qI)) (fun C s₀ H₀ ex=>bL) (fun C s₀ H₀ ex=>(bj fP (hr.mono (by decide)) (sI (by trivial)) (aa (dh 0 (by trivial)) aj) (by trivial)))))))))),?_⟩
 walk_at "s"
 have hz:20000<=sizeLine:=by decide
 refine ⟨v,rfl,hT,fun z ez p us H1 S1 hp r=>?_,fun h=>qx fun z e=>absurd e (h z)⟩
 subst ez
 have hl:z.length<=1000:=by
  rcases hT with ⟨z',e,h⟩ | ⟨h,_⟩
  ·cases e;exact h
  ·exact absurd rfl (h.no z)
 obtain ⟨hm1,hm2⟩:=oF 47 z
 have q':=q z
 rw [gK] at q'
 have qx':lG eH (sJ 47 z)=none->Exc mg H (.str z) E:=fun h=>qx fun z' e=>by cases e;rw [gK];exact h
 generalize sJ 47 z=ys at*
 have hul:=r.1
 try walk_at "s"
 refine .inl ⟨p,rfl,⟨_,SqL.of hp⟩,?_⟩
 refine aU (xs:=us) (fun i zs G=>Same H1 G/\zs=((ys.take i).map fun y=>(eH y).isSome).map V.bl) (by omega) ⟨Same.refl H1,rfl⟩ ?_ ?_ ?_ ?_
 ·rintro i zs G ⟨_,rfl⟩
  rw [List.length_map,List.length_map,List.length_take];omega
 ·rintro i zs G ⟨s,_⟩
  exact SqL.of (s _ _ hp)
 ·rintro i zs G v hv ⟨s,rfl⟩
  have hi:i < ys.length:=by rw [← hul];exact (List.getElem?_eq_some_iff.mp hv).1
  obtain ⟨y,ey⟩:∃ y,ys[i]?=some y:=⟨_,List.getElem?_eq_getElem hi⟩
  obtain ⟨a,rfl,ha⟩:=(r.same s).2 i v y hv ey
  have hy:=hm2 y (List.mem_of_getElem? ey)
  obtain ⟨hk1,hk2⟩:=dw y 44
  have e0:((ys.take (i+1)).map fun y=>(eH y).isSome)=((ys.take i).map fun y=>(eH y).isSome) ++ [(Txt.split y ⟨#[44]⟩).all fun x=>(eP x).isSome]:=by rw [List.take_add_one,ey,List.map_append,← uv];rfl
  rw [e0]
  generalize Txt.split y ⟨#[44]⟩=xs at*
  walk_at "s"
  refine ⟨KeepSt.set rfl,?_⟩
  walk_at "s"
  refine .inl ⟨a,rfl,⟨_,SqL.of ha⟩,?_⟩
  refine aU (xs:=xs.map V.str) (fun i zs G'=>Same G G'/\zs=((xs.take i).map fun x=>(eP x).isSome).map V.bl) (by rw [List.length_map];omega) ⟨Same.refl G,rfl⟩ ?_ ?_ ?_ ?_
  ·rintro i zs G' ⟨_,rfl⟩
   rw [List.length_map,List.length_map,List.length_take];omega
  ·rintro i zs G' ⟨s,_⟩
   exact SqL.of (s _ _ ha)
  ·rintro i zs G' v hv ⟨s,rfl⟩
   rw [List.getElem?_map] at hv
   obtain ⟨x,ex,rfl⟩:=Option.map_eq_some_iff.mp hv
   have:=hk2 x (List.mem_of_getElem? ex)
   walk_at "s"
   refine ⟨KeepSt.set rfl,?_⟩
   walk_at "s"
   refine ⟨x,rfl,by omega,fun G2 S2=>?_⟩
   walk_at "s"
   refine ⟨s.trans S2,?_⟩
   rw [List.take_add_one,ex,List.map_append,List.map_append,← jG]
   rfl
  rintro zs G' D H2 ⟨s2,rfl⟩ nD S2 hD
  rw [List.length_map,List.take_length] at hD
  try walk_at "s"
  refine ⟨D,_,rfl,hD,?_⟩
  rw [List.all_map]
  refine ⟨s.trans (s2.trans S2),?_⟩
  rw [List.map_append]
  rfl
 rintro zs G D H2 ⟨s,rfl⟩ nD S2 hD
 rw [hul,List.take_length] at hD
 have U2:=S1.trans (s.trans S2)
 have hp2:=(s.trans S2) _ _ hp
 have r2:=r.same (s.trans S2)
 try walk_at "s"
 refine ⟨D,_,rfl,hD,?_⟩
 rw [List.all_map,show (id ∘ fun y=>(eH y).isSome)=(fun y=>(eH y).isSome) from rfl]
 try walk_at "s"
 refine ⟨_,_,rfl,fun h=>?_,fun h=>Exc.same (qx' (jn h)) U2⟩
 try walk_at "s"
 refine .inl ⟨p,rfl,⟨_,SqL.of hp2⟩,?_⟩
 refine aU (xs:=us) (fun i zs G=>Same H2 G/\zs.length<=i/\DRs G ((ys.take i).map fun y=>(eH y).getD .none) zs) (by omega) ⟨Same.refl H2,Nat.le_refl _,dq.mpr rfl⟩ ?_ ?_ ?_ ?_
 ·rintro i zs G ⟨_,h,_⟩
  exact h
 ·rintro i zs G ⟨s,_⟩
  exact SqL.of (s _ _ hp2)
 ·rintro i zs G v hv ⟨s,hzl,hd⟩
  have hi:i < ys.length:=by rw [← hul];exact (List.getElem?_eq_some_iff.mp hv).1
  obtain ⟨y,ey⟩:∃ y,ys[i]?=some y:=⟨_,List.getElem?_eq_getElem hi⟩
  obtain ⟨a,rfl,ha⟩:=(r2.same s).2 i v y hv ey
  have hym:=List.mem_of_getElem? ey
  have hy:=hm2 y hym
  have hs:=List.all_eq_true.mp h y hym
  rw [uv] at hs
  obtain ⟨hk1,hk2⟩:=dw y 44
  have e0:(eH y).getD .none= .list ((Txt.split y ⟨#[44]⟩).map fun x=>(eP x).getD .none):=by unfold eH;rw [fW hs];rfl
  have e1:((ys.take (i+1)).map fun y=>(eH y).getD .none)=((ys.take i).map fun y=>(eH y).getD .none) ++ [.list ((Txt.split y ⟨#[44]⟩).map fun x=>(eP x).getD .none)]:=by rw [List.take_add_one,ey,List.map_append,← e0];rfl
  rw [e1]
  clear e0 e1
  generalize Txt.split y ⟨#[44]⟩=xs at*
  walk_at "s"
  refine ⟨KeepSt.set rfl,?_⟩
  walk_at "s"
  refine .inl ⟨a,rfl,⟨_,SqL.of ha⟩,?_⟩
  refine aU (xs:=xs.map V.str) (fun i zs G'=>Same G G'/\zs.length<=i/\DRs G' ((xs.take i).map fun x=>(eP x).getD .none) zs) (by rw [List.length_map];omega) ⟨Same.refl G,Nat.le_refl _,dq.mpr rfl⟩ ?_ ?_ ?_ ?_
  ·rintro i zs G' ⟨_,h,_⟩
   exact h
  ·rintro i zs G' ⟨s,_⟩
   exact SqL.of (s _ _ ha)
  ·rintro i zs G' v hv ⟨s,hzl,hd⟩
   rw [List.getElem?_map] at hv
   obtain ⟨x,ex,rfl⟩:=Option.map_eq_some_iff.mp hv
   have hxm:=List.mem_of_getElem? ex
   have hx1:=hk2 x hxm
   have hx2:=List.all_eq_true.mp hs x hxm
   rw [jG] at hx2
   obtain ⟨n,hn⟩:=Option.isSome_iff_exists.mp hx2
   walk_at "s"
   refine ⟨KeepSt.set rfl,?_⟩
   walk_at "s"
   refine ⟨x,n,rfl,by omega,hn,fun t G2 S2 ht=>?_⟩
   walk_at "s"
   refine ⟨s.trans S2,by rw [List.length_append];simp;omega,?_⟩
   rw [List.take_add_one,ex,List.map_append]
   refine fj (DRs.same S2 _ _ hd) (cL ?_)
   show DR G2 ((eP x).getD .none) _
   unfold eP
   rw [hn]
   exact Df ht
  ·rintro zz G' D2 H3 ⟨s3,_,hd3⟩ nD2 S3 hD2
   rw [List.length_map,List.take_length] at hd3
   refine ⟨s.trans (s3.trans S3),by rw [List.length_append];simp;omega,?_⟩
   exact fj (DRs.same (s3.trans S3) _ _ hd) (cL (bV.mpr ⟨D2,zz,rfl,hD2,DRs.same S3 _ _ hd3⟩))
 ·rintro zs G D2 H3 ⟨s3,_,hd⟩ nD2 S3 hD2
  rw [hul,List.take_length] at hd
  exact q' _ rfl (fW h) _ H3 (U2.trans (s3.trans S3)) (bV.mpr ⟨D2,zs,rfl,hD2,DRs.same S3 _ _ hd⟩)
theorem oJ:(["part"]:List Str).Nodup:=by trivial
theorem kz2d:bU cU "tuple":=by trivial
theorem kz2e:bU cU "MARKED":=by trivial
theorem PL:cF cU "part":=by trivial
theorem kz2g:bU cU "list":=by trivial
theorem LC:cF bK "changes":=by trivial
theorem kz2i:bU bK "need_word":=by trivial
theorem PN:cF bK "word":=by trivial
theorem kz2k:bU bK "is_changes":=by trivial
theorem kz2l:bU bK "parts_of":=by trivial
theorem kz2m:bU cA "read_changes":=by trivial
theorem zV:cF cA "_law_thing_here":=by trivial
theorem Dg:cF cA "_law_kind":=by trivial
theorem kz2p:bU cA "read_heaps":=by trivial
theorem kz2q:bU cA "read_pairs":=by trivial
theorem kz2r:bU cA "read_numbers":=by trivial
theorem kz2s:bU cA "read_number":=by trivial
theorem kz2t:bU cA "read_row":=by trivial
theorem LK (z:Str):sgn (Txt.slice z (some 1) none)=(lO z).map fun x=>.str ⟨#[x]⟩:=by
 unfold sgn lO
 rw [show (some (1:Int))=some ((1:Nat):Int) from rfl,rN]
theorem Dh (z:Str):(lO z).length<=z.length:=by unfold lO;rw [List.length_drop,dR];omega
theorem uw (z:Str):(Txt.slice z (some 1) none).length<=z.length:=Txt.slice_le z _ _
def PP (K:W.Frag):Sp:=fun vs H Q _=>∃ z:Str,vs=[.str z]/\z.length<=1000/\∀ t H',Same H H'->H' t=some (.tup (vq (kO z) (lO z)))->Q (.ref t) H'
theorem sr:aK ["part"] ["part"] (ak cU):=⟨rfl,rfl,rfl,by trivial,rfl,by trivial,by trivial⟩
theorem jy (T:Txt w K mg):p8 P w K mg base 1 "change_read" ["part"] (PP K):=by
 refine jB T.d_change_read sr (fun _ _ _ _ _ _ us hl=>L2.iJ (fun _=>rfl) us hl) ?_ fun f cdv A outer s H vs Q E hr h=>?_
 ·rintro vs H Q E ⟨z,rfl,_⟩;rfl
 obtain ⟨z,rfl,hl,q⟩:=h
 have hu:=hr.units0
 have hu64:=hr.units
 refine ⟨_,(aA (aF (dD (vQ (K:=K) rfl rfl) (bG kz2d) T.b_tuple vR (aa (aZ aV (bA (aa (Gm T.e_MARKED (bG kz2e) (d9 (eU (K:=K) rfl) (ao 0 PL) jk (cW az)) aD (by trivial)) aj)) (dD (xn (K:=K) rfl rfl) (bG kz2g) T.b_list ym (aa (d9 (eU (K:=K) rfl) (ao 0 PL) (cW az) jk) aj) (by trivial) (by trivial))) aj) (by trivial) (by trivial)))),?_⟩
 walk_at "s"
 have hz:20000<=sizeLine:=by decide
 have l1:=uw z
 have l2:=Dh z
 refine ph (by omega) ?_
 walk_at "s"
 refine ⟨_,rfl,?_⟩
 walk_at "s"
 have ek:((([("=","keep"),("!","change"),("<","out"),(">","in")]:List (Str×Str)).lookup (Txt.slice z none (some 1))).map V.str).getD (V.str (Str.ofString ""))= .str (kO z):=by
  show ((Lj.lookup (Txt.slice z none (some 1))).map V.str).getD (V.str (Str.ofString ""))=_
  unfold kO
  cases Lj.lookup (Txt.slice z none (some 1)) <;> rfl
 rw [ek]
 refine aJ rfl fun p H1 np S1 hp=>?_
 walk_at "s"
 refine ph (by omega) ?_
 walk_at "s"
 refine Ff (by omega) fun l nl=>?_
 walk_at "s"
 rw [LK]
 refine Bw (yp nl hp) au (by simp;omega) fun m nm=>?_
 walk_at "s"
 refine .inl ⟨m,_,rfl,.inl ⟨SqL.of au,fun t nt=>?_⟩⟩
 walk_at "s"
 exact q t _ (((S1.upd nl).upd nm).upd nt) au
theorem ux (y:Str):(cO y).isSome=isC (kO y) (lO y):=by unfold cO;cases isC (kO y) (lO y) <;> rfl
theorem yE (z:Str):out 5 z=if 48 < (sJ 44 z).length then none else lG cO (sJ 44 z):=by
 unfold out
 rw [if_neg (by decide),if_neg (by decide),if_neg (by decide),if_neg (by decide),if_neg (by decide),gK]
 unfold sJ
 by_cases h:z=Str.ofString "-"
 ·rw [if_pos h,if_neg (fun x=>x.1 h),if_neg (by simp)]
 ·rw [if_neg h]
  by_cases h2:48 < (Txt.split z ⟨#[44]⟩).length
  ·rw [if_pos ⟨h,h2⟩,if_pos h2]
  ·rw [if_neg (fun x=>h2 x.2),if_neg h2]
theorem su {H:Hp} {k:Str} {ls:List Nat} {t:Addr} (ht:H t=some (.tup (vq k ls))):DR H (cD k ls) (.ref t):=by
 refine lu.mpr ⟨t,_,rfl,ht,cZ.mpr ⟨_,_,rfl,dm.mpr rfl,?_⟩⟩
 clear ht
 induction ls with
 | nil=>exact dq.mpr rfl
 | cons x ls ih=>exact cZ.mpr ⟨_,_,rfl,dm.mpr rfl,ih⟩
def RC (H:Hp) (vs:List V) (ys:List Str):Prop:=vs.length=ys.length/\∀ (i:Nat) (v:V) (y:Str),vs[i]?=some v->ys[i]?=some y->∃ t,v= .ref t/\H t=some (.tup (vq (kO y) (lO y)))
theorem RC.same {H H':Hp} {vs:List V} {ys:List Str} (h:RC H vs ys) (s:Same H H'):RC H' vs ys:=⟨h.1,fun i v p e1 e2=>let ⟨q,a,b⟩:=h.2 i v p e1 e2;⟨q,a,s _ _ b⟩⟩
theorem RC.cis {H:Hp} {vs:List V} {ys:List Str} (h:RC H vs ys) (hl:∀ y∈ys,y.length<=1000):CIs K H vs (ys.map fun y=>(cO y).isSome):=⟨by rw [List.length_map,h.1],fun i v b e1 e2=>by
 rw [List.getElem?_map] at e2
 obtain ⟨y,ey,rfl⟩:=Option.map_eq_some_iff.mp e2
 obtain ⟨t,e,ht⟩:=h.2 i v y e1 ey
 have:=Dh y
 have:=hl y (List.mem_of_getElem? ey)
 exact .inl ⟨t,_,_,e,ht,by omega,(ux y).symm⟩⟩
theorem yF {H:Hp}:∀ (ds:List PyData) (vs:List V),ds.length=vs.length->(∀ (k:Nat) (d:PyData) (v:V),ds[k]?=some d->vs[k]?=some v->DR H d v)->DRs H ds vs
 | [],[],_,_=>dq.mpr rfl
 | [],_ :: _,h,_=>by simp at h
 | _ :: _,[],h,_=>by simp at h
 | d :: ds,v :: vs,h,g=>cZ.mpr ⟨v,vs,rfl,g 0 d v rfl rfl,yF ds vs (by simpa using h) fun k d' v' e1 e2=>g (k+1) d' v' e1 e2⟩
theorem RC.dr {H:Hp} {vs:List V} {ys:List Str} (h:RC H vs ys) (ha:ys.all (fun y=>(cO y).isSome)=true):DRs H (ys.map fun y=>(cO y).getD .none) vs:=
 yF _ _ (by rw [List.length_map,h.1]) fun k d v e1 e2=>by
  rw [List.getElem?_map] at e1
  obtain ⟨y,ey,rfl⟩:=Option.map_eq_some_iff.mp e1
  obtain ⟨t,e,ht⟩:=h.2 k v y e2 ey
  have:=List.all_eq_true.mp ha y (List.mem_of_getElem? ey)
  rw [ux] at this
  have e3:(cO y).getD .none=cD (kO y) (lO y):=by unfold cO;rw [if_pos this];rfl
  rw [e3,e]
  exact su ht
theorem kJ:aK ["word","changes"] ["word"] (ak bK):=⟨rfl,rfl,rfl,by trivial,rfl,by trivial,by trivial⟩
theorem jf (T:Txt w K mg):lA P w K mg base 5 "read_changes" ["word"] (zR K mg (out 5)):=by
 have jy:=jy (P:=P) (w:=w) (base:=base) T
 have dz:=dz (P:=P) (w:=w) (base:=base) T
 have aL:=aL (P:=P) (w:=w) (base:=base) T
 have dW:=dW (P:=P) (w:=w) (base:=base) T
 refine jm T.d_read_changes kJ (fun _ _ _ _ _ _ us hl=>L2.iJ (fun _=>rfl) us hl) ?_ fun f cdv A outer s H vs Q E hr h=>?_
 ·rintro vs H Q E ⟨v,rfl,_⟩;rfl
 obtain ⟨v,rfl,hT,q,qx⟩:=h
 have hu:=hr.units0
 have hu64:=hr.units
 refine ⟨_,(aq (lN (i:=1) kJ.nd rfl (Or.inl LC) (sub:=[none]) (aY (N:=["word","changes"]) (sc:=ak bK) (N':=["part"]) (by trivial)) rfl rfl rfl (bM (K:=K) rfl (bI dz (hr.mono (by decide)) (bG kz2l) bc (aa (ao 0 PN) aj) (by trivial))) (fun C s₀ H₀ ex=>(iW 0 (by trivial) oJ)) (fun C s₀ H₀ ex=>bL) (fun C s₀ H₀ ex=>(bj jy (hr.mono (by decide)) (sI (by trivial)) (aa (dh 0 (by trivial)) aj) (by trivial))) rfl) (aq (cX (bI aL (hr.mono (by decide)) (bG kz2i) bc (aa (bj dW (hr.mono (by decide)) (bG kz2k) (aa (ao 1 LC) aj) (by trivial)) (aa (ao 0 PN) aj)) (by trivial))) (aA (aF (ao 1 LC))))),?_⟩
 walk_at "s"
 have hz:20000<=sizeLine:=by decide
 refine ⟨v,rfl,hT,fun z ez p H1 np S1 hp=>?_,fun h=>qx fun z e=>absurd e (h z)⟩
 walk_at "s"
 subst ez
 have hl:z.length<=1000:=by
  rcases hT with ⟨z',e,h⟩ | ⟨h,_⟩
  ·cases e;exact h
  ·exact absurd rfl (h.no z)
 obtain ⟨hm1,hm2⟩:=oF 44 z
 have q':=q z
 rw [yE] at q'
 have qx':(if 48 < (sJ 44 z).length then none else lG cO (sJ 44 z))=none->Exc mg H (.str z) E:=fun h=>qx fun z' e=>by cases e;rw [yE];exact h
 generalize sJ 44 z=ys at*
 try walk_at "s"
 refine .inl ⟨p,rfl,⟨_,SqL.of hp⟩,?_⟩
 refine aU (xs:=ys.map V.str) (fun i zs G=>Same H1 G/\i<=ys.length/\RC G zs (ys.take i)) (by rw [List.length_map];omega) ⟨Same.refl H1,Nat.zero_le _,rfl,fun i v p e=>by cases e⟩ ?_ ?_ ?_ ?_
 ·rintro i zs G ⟨_,hi,r⟩
  rw [r.1,List.length_take];omega
 ·rintro i zs G ⟨s,_⟩
  exact SqL.of (s _ _ hp)
 ·rintro i zs G v hv ⟨s,hi,r⟩
  rw [List.getElem?_map] at hv
  obtain ⟨y,ey,rfl⟩:=Option.map_eq_some_iff.mp hv
  have hlt:=(List.getElem?_eq_some_iff.mp ey).1
  have hy:=hm2 y (List.mem_of_getElem? ey)
  walk_at "s"
  refine ⟨KeepSt.set rfl,?_⟩
  walk_at "s"
  refine ⟨y,rfl,by omega,fun t G2 S2 ht=>?_⟩
  walk_at "s"
  refine ⟨s.trans S2,hlt,?_⟩
  rw [List.take_add_one,ey]
  exact yD (r.same S2) ⟨t,rfl,ht⟩
 rintro zs G D H2 ⟨s,hi,r⟩ nD S2 hD
 rw [List.length_map,List.take_length] at r
 have U2:=S1.trans (s.trans S2)
 have r2:=r.same S2
 have hul:=r.1
 try walk_at "s"
 refine ⟨_,_,rfl,.inl ⟨D,zs,_,rfl,hD,by omega,r2.cis (fun y hy=>by have:=hm2 y hy;omega),rfl⟩,fun H3 S3=>?_⟩
 walk_at "s"
 rw [List.all_map,show (id ∘ fun y=>(cO y).isSome)=(fun y=>(cO y).isSome) from rfl,hul]
 try walk_at "s"
 refine ⟨_,_,rfl,fun h=>?_,fun h=>Exc.same (qx' ?_) (U2.trans S3)⟩
 ·simp only [Bool.and_eq_true,decide_eq_true_eq] at h
  rw [if_neg (by omega)] at q'
  try walk_at "s"
  exact q' _ rfl (fW h.2) _ H3 (U2.trans S3) (bV.mpr ⟨D,zs,rfl,S3 _ _ hD,DRs.same S3 _ _ (r2.dr h.2)⟩)
 ·by_cases h48:48 < ys.length
  ·rw [if_pos h48]
  ·rw [if_neg h48]
   rw [decide_eq_true (by omega),Bool.true_and] at h
   exact jn h
def spLR (K:W.Frag) (mg:Str->Option Value):Sp:=fun vs H Q E=>∃ (k:Int) (v:V),vs=[.int k,v]/\0<=k/\k < 6/\TH K H v/\(∀ z d,v= .str z->out k z=some d->∀ u H',Same H H'->DR H' d u->Q u H')/\((∀ z,v= .str z->out k z=none)->Exc mg H v E)
theorem wG:aK ["_law_kind","_law_thing_here"] ["_law_kind","_law_thing_here"] (ak cA):=⟨rfl,rfl,rfl,by trivial,rfl,by trivial,by trivial⟩
theorem mR (T:Txt w K mg):lA P w K mg base 6 "_law_read" ["_law_kind","_law_thing_here"] (spLR K mg):=by
 have mQ:=mQ (P:=P) (w:=w) (base:=base) T
 have jx:=jx (P:=P) (w:=w) (base:=base) T
 have jd:=jd (P:=P) (w:=w) (base:=base) T
 have jO:=jO (P:=P) (w:=w) (base:=base) T
 have jP:=jP (P:=P) (w:=w) (base:=base) T
 have jf:=jf (P:=P) (w:=w) (base:=base) T
 refine jm T.d_law_read wG (fun _ _ _ _ _ _ us hl=>L2.oU (fun _ _=>rfl) us hl) ?_ fun f cdv A outer s H vs Q E hr h=>?_
 ·rintro vs H Q E ⟨k,v,rfl,_⟩;rfl
 obtain ⟨k,v,rfl,hk0,hk1,hT,q,qx⟩:=h
 have hu:=hr.units0
 have hu64:=hr.units
 refine ⟨_,(aq (aX (aH (aN (K:=K) rfl hu64) (ao 0 Dg) az (by walk_at "p")) (aA (aF (bI mQ (hr.mono (by decide)) (bG kz2t) bc (aa (ao 1 zV) aj) (by trivial)))) aP) (aq (aX (aH (aN (K:=K) rfl hu64) (ao 0 Dg) az (by walk_at "p")) (aA (aF (bI jx (hr.mono (by decide)) (bG kz2s) bc (aa (ao 1 zV) aj) (by trivial)))) aP) (aq (aX (aH (aN (K:=K) rfl hu64) (ao 0 Dg) az (by walk_at "p")) (aA (aF (bI jd (hr.mono (by decide)) (bG kz2r) bc (aa (ao 1 zV) aj) (by trivial)))) aP) (aq (aX (aH (aN (K:=K) rfl hu64) (ao 0 Dg) az (by walk_at "p")) (aA (aF (bI jO (hr.mono (by decide)) (bG kz2q) bc (aa (ao 1 zV) aj) (by trivial)))) aP) (aq (aX (aH (aN (K:=K) rfl hu64) (ao 0 Dg) az (by walk_at "p")) (aA (aF (bI jP (hr.mono (by decide)) (bG kz2p) bc (aa (ao 1 zV) aj) (by trivial)))) aP) (aA (aF (bI jf (hr.mono (by decide)) (bG kz2m) bc (aa (ao 1 zV) aj) (by trivial))))))))),?_⟩
 walk_at "s"
 obtain rfl | rfl | rfl | rfl | rfl | rfl:k=0\/k=1\/k=2\/k=3\/k=4\/k=5:=by omega
 ·rw [decide_eq_true (rfl:V.int 0=V.int 0)]
  walk_at "s"
  exact ⟨v,rfl,hT,q,qx⟩
 ·rw [decide_eq_false (show ¬ V.int 1=V.int 0 by decide)]
  walk_at "s"
  rw [decide_eq_true (rfl:V.int 1=V.int 1)]
  walk_at "s"
  exact ⟨v,rfl,hT,q,qx⟩
 ·rw [decide_eq_false (show ¬ V.int 2=V.int 0 by decide)]
  walk_at "s"
  rw [decide_eq_false (show ¬ V.int 2=V.int 1 by decide)]
  walk_at "s"
  rw [decide_eq_true (rfl:V.int 2=V.int 2)]
  walk_at "s"
  exact ⟨v,rfl,hT,q,qx⟩
 ·rw [decide_eq_false (show ¬ V.int 3=V.int 0 by decide)]
  walk_at "s"
  rw [decide_eq_false (show ¬ V.int 3=V.int 1 by decide)]
  walk_at "s"
  rw [decide_eq_false (show ¬ V.int 3=V.int 2 by decide)]
  walk_at "s"
  rw [decide_eq_true (rfl:V.int 3=V.int 3)]
  walk_at "s"
  exact ⟨v,rfl,hT,q,qx⟩
 ·rw [decide_eq_false (show ¬ V.int 4=V.int 0 by decide)]
  walk_at "s"
  rw [decide_eq_false (show ¬ V.int 4=V.int 1 by decide)]
  walk_at "s"
  rw [decide_eq_false (show ¬ V.int 4=V.int 2 by decide)]
  walk_at "s"
  rw [decide_eq_false (show ¬ V.int 4=V.int 3 by decide)]
  walk_at "s"
  rw [decide_eq_true (rfl:V.int 4=V.int 4)]
  walk_at "s"
  exact ⟨v,rfl,hT,q,qx⟩
 ·rw [decide_eq_false (show ¬ V.int 5=V.int 0 by decide)]
  walk_at "s"
  rw [decide_eq_false (show ¬ V.int 5=V.int 1 by decide)]
  walk_at "s"
  rw [decide_eq_false (show ¬ V.int 5=V.int 2 by decide)]
  walk_at "s"
  rw [decide_eq_false (show ¬ V.int 5=V.int 3 by decide)]
  walk_at "s"
  rw [decide_eq_false (show ¬ V.int 5=V.int 4 by decide)]
  walk_at "s"
  exact ⟨v,rfl,hT,q,qx⟩
theorem LQ:cF gr "_law_script":=by trivial
theorem kz2v:cF gr "_law_k":=by trivial
theorem PQ:bU gr "len":=by trivial
theorem GP:cF bF "_law_found":=by trivial
theorem kz2y:cF bF "_law_bases":=by trivial
theorem GQ:cF bF "_law_base":=by trivial
theorem PX:cF bF "_law_great":=by trivial
theorem Di:cF bF "_law_cell_here":=by trivial
theorem Dj:cF bF "_law_number_here":=by trivial
theorem LR:cF bF "_law_prime":=by trivial
theorem Dk:cF dM "_law_parts_here":=by trivial
theorem kz35:cF dM "_law_text_here":=by trivial
theorem Ma:cF dM "_law_sign":=by trivial
theorem kz37:cF dM "_law_mark":=by trivial
theorem GR:cF cM "_law_found":=by trivial
theorem Dl:cF cM "_law_text_here":=by trivial
theorem P0:cF cM "_law_sign":=by trivial
theorem Mf:cF cM "_law_at":=by trivial
theorem Mg:bU cM "len":=by trivial
def Qa (K:W.Frag):Sp:=fun vs H Q _=>∃ (a:Addr) (ns:List Int) (k:Nat),vs=[.ref a,.int k]/\SqL K H a (ns.map V.int)/\∀ n,Q (.int n) H
theorem wH:aK ["_law_script","_law_k"] ["_law_script","_law_k"] (ak gr):=⟨rfl,rfl,rfl,by trivial,rfl,by trivial,by trivial⟩
theorem mU (T:Txt w K mg):p8 P w K mg base 1 "_law_cell" ["_law_script","_law_k"] (Qa K):=by
 refine jB T.d_law_cell wH (fun _ _ _ _ _ _ us hl=>L2.oU (fun _ _=>rfl) us hl) ?_ fun f cdv A outer s H vs Q E hr h=>?_
 ·rintro vs H Q E ⟨a,ns,k,rfl,_⟩;rfl
 obtain ⟨a,ns,k,rfl,hS,q⟩:=h
 have hu:=hr.units0
 have hu64:=hr.units
 refine ⟨_,(aq (aX (aH (aN (K:=K) rfl hu64) (aM (aQ (K:=K) rfl) (bG PQ) T.b_len cu (aa (ao 0 LQ) aj) (by trivial) (by trivial)) az (by walk_at "p")) (aA (aF az)) aP) (aA (aF (cJ (K:=K) rfl (ao 0 LQ) (aZ bW (ao 1 kz2v) (aM (aQ (K:=K) rfl) (bG PQ) T.b_len cu (aa (ao 0 LQ) aj) (by trivial) (by trivial))))))),?_⟩
 walk_at "s"
 refine lg hS ?_
 walk_at "s"
 rw [List.length_map]
 refine o6 (fun h=>?_) (fun h=>?_)
 ·walk_at "s"
  exact q _
 ·have hl:0 < ns.length:=by
   have:¬ (ns.length:Int)=0:=fun z=>h (by rw [z])
   omega
  walk_at "s"
  refine lg hS ?_
  walk_at "s"
  rw [List.length_map]
  refine ⟨_,_,rfl,rfl,(show (0:Int) < (ns.length:Int) by omega),?_⟩
  walk_at "s"
  obtain ⟨v,hv,e⟩:=uf (vs:=ns.map V.int) (d:=(k:Int) % (ns.length:Int)) (Int.emod_nonneg _ (by omega)) (by rw [List.length_map];exact Int.emod_lt_of_pos _ (by omega))
  obtain ⟨n,_,rfl⟩:=List.mem_map.mp hv
  refine bH hS e ?_
  walk_at "s"
  exact q _
def Fits (ms bs:List Int):Prop:=ms.length=bs.length/\∀ (i:Nat) (m b:Int),ms[i]?=some m->bs[i]?=some b->0<=m/\m < b
theorem Fits.push {ms bs:List Int} {k:Nat} {m b:Int} (h:Fits ms (bs.take k)) (hb:bs[k]?=some b) (h0:0<=m) (h1:m < b):Fits (ms ++ [m]) (bs.take (k+1)):=by
 have hk:k < bs.length:=(List.getElem?_eq_some_iff.mp hb).1
 have hl:ms.length=k:=by rw [h.1,List.length_take];omega
 refine ⟨by simp;omega,fun i m' b' e1 e2=>?_⟩
 by_cases hi:i < k
 ·rw [List.getElem?_append_left (by omega)] at e1
  rw [List.getElem?_take_of_lt (by omega)] at e2
  exact h.2 i m' b' e1 (by rw [List.getElem?_take_of_lt hi];exact e2)
 ·have hi2:i < k+1:=by have:=(List.getElem?_eq_some_iff.mp e1).1;simp at this;omega
  obtain rfl:i=k:=by omega
  rw [List.getElem?_append_right (by omega),hl,Nat.sub_self] at e1
  rw [List.getElem?_take_of_lt (by omega),hb] at e2
  cases e1;cases e2
  exact ⟨h0,h1⟩
def Mh:Sp:=fun vs H Q _=>∃ (n:Int) (b:Addr) (bs:List Int) (pr:Int),vs=[.int n,.ref b,.int pr]/\H b=some (.lst (bs.map V.int))/\bs.length<=1000/\(∀ x∈bs,0 < x/\x < 1073741824)/\2147000000 < pr/\pr < 2147490000/\
 ∀ (q:Addr) (ms:List Int) (H':Hp),H q=none->Same H H'->H' q=some (.lst (ms.map V.int))->Fits ms bs->Q (.ref q) H'
theorem cB:aK ["_law_cell_here","_law_bases","_law_prime","_law_great","_law_number_here","_law_found","_law_base"] ["_law_cell_here","_law_bases","_law_prime"] (ak bF):=⟨rfl,rfl,rfl,by trivial,rfl,by trivial,by trivial⟩
theorem jz (T:Txt w K mg):p8 P w K mg base 1 "_law_numbers" ["_law_cell_here","_law_bases","_law_prime"] Mh:=by
 refine jB T.d_law_numbers cB (fun _ _ _ _ _ _ us hl=>L2.usN3 (fun _ _ _=>rfl) us hl) ?_ fun f cdv A outer s H vs Q E hr h=>?_
 ·rintro vs H Q E ⟨n,b,bs,pr,rfl,_⟩;rfl
 obtain ⟨n,b,bs,pr,rfl,hb,hlen,hbs,hp0,hp1,q⟩:=h
 have hu:=hr.units0
 have hu64:=hr.units
 refine ⟨_,(aq (bw (i:=3) cB.nd rfl (Or.inl PX) (fX Nj (ao 0 Di) (aZ Jp az az) (by walk_at "p")) rfl) (aq (bw (i:=4) cB.nd rfl (Or.inl Dj) (aZ aV (aZ bW (aZ gB (aZ bW (ao 0 Di) (ao 2 LR)) az) (ao 2 LR)) az) rfl) (aq (bw (i:=5) cB.nd rfl (Or.inl GP) (bA aj) rfl) (aq (rE PassesOwn.never rfl (bM (K:=K) rfl (ao 1 kz2y)) (nJ (i:=6) cB.nd rfl (Or.inl GQ) rfl) (aq (bw (i:=4) cB.nd rfl (Or.inl Dj) (aZ bW (aZ aV (aZ gB (ao 4 Dj) az) az) (ao 2 LR)) rfl) (aA (aX (iy (ao 3 PX)) (aq (cX (fc (K:=K) rfl PySem.F.plainAttrs_list PySem.F.slot_list_append PySem.F.type_list_append oZ (ao 5 GP) (aa (aZ bW (ao 0 Di) (ao 6 GQ)) aj))) (aA (bw (i:=0) cB.nd rfl (Or.inl Di) (aZ mZ (ao 0 Di) (ao 6 GQ)) rfl))) (aA (cX (fc (K:=K) rfl PySem.F.plainAttrs_list PySem.F.slot_list_append PySem.F.type_list_append oZ (ao 5 GP) (aa (aZ bW (aZ bW (aZ gB (ao 4 Dj) (aZ aV (aZ mZ (ao 4 Dj) az) az)) az) (ao 6 GQ)) aj)))))))) (aA (aF (ao 5 GP))))))),?_⟩
 walk_at "s"
 have hs:20000<=sizeLine:=by decide
 refine O3 rfl fun f nf=>?_
 walk_at "s"
 have hb1:upd H f (.lst []) b=some (.lst (bs.map V.int)):=yp nf hb
 have bf:b≠f:=fun e=>by rw [e,nf] at hb;cases hb
 refine .inl ⟨b,rfl,⟨_,SqL.of hb1⟩,?_⟩
 generalize hg:decide ((10:Int) ^ (18:Int).toNat<=n)=g
 have hm0:=Int.emod_nonneg (n % pr*48271) (show pr≠0 by omega)
 have hm1:=Int.emod_lt_of_pos (n % pr*48271) (show 0 < pr by omega)
 refine Aj (xs:=bs.map V.int) (fun k U H'=>∃ (n' N:Int) (ms:List Int) (x6:Option V),U=[some (.int n'),some (.ref b),some (.int pr),some (.bl g),some (.int N),some (.ref f),x6]/\0<=N/\N < 2147500000/\Same H H'/\H' f=some (.lst (ms.map V.int))/\Fits ms (bs.take k))
  ⟨n,_,[],none,rfl,by omega,by omega,(Same.refl H).upd nf,au,rfl,fun i m b e=>by simp at e⟩ (fun i U H' _ h=>?_) ?_ ?_
 ·obtain ⟨_,_,_,_,_,_,_,s,_⟩:=h
  exact SqL.of (s _ _ hb)
 ·rintro k v U H' hk ⟨n',N,ms,x6,rfl,hN0,hN1,s,hf,hF⟩
  rw [List.getElem?_map] at hk
  obtain ⟨bb,hbb,rfl⟩:∃ y,bs[k]?=some y/\v=V.int y:=by
   cases e:bs[k]? with
   | none=>rw [e] at hk;cases hk
   | some y=>rw [e] at hk;exact ⟨y,rfl,(Option.some.inj hk).symm⟩
  obtain ⟨p0,p1⟩:=hbs bb (List.mem_of_getElem? hbb)
  have hml:ms.length<=1000:=by rw [hF.1,List.length_take];omega
  walk_at "s"
  obtain ⟨M,eM⟩:∃ M,(N*69621+4099) % pr=M:=⟨_,rfl⟩
  have hM0:0<=M:=by rw [← eM];exact Int.emod_nonneg _ (by omega)
  have hM1:M < pr:=by rw [← eM];exact Int.emod_lt_of_pos _ (by omega)
  rw [eM]
  cases g with
  | true=>
   walk_at "s"
   refine ⟨.inl ⟨rfl,_,SqL.of hf⟩,?_⟩
   walk_at "s"
   refine rF hf (by simp;omega) ?_
   walk_at "s"
   refine ⟨_,M,ms ++ [n' % bb],_,rfl,hM0,by omega,Same.put s nf,?_,hF.push hbb (Int.emod_nonneg _ (by omega)) (Int.emod_lt_of_pos _ p0)⟩
   rw [List.map_append];exact au
  | false=>
   walk_at "s"
   refine ⟨.inl ⟨rfl,_,SqL.of hf⟩,?_⟩
   walk_at "s"
   refine rF hf (by simp;omega) ?_
   walk_at "s"
   refine ⟨_,M,ms ++ [M*(M / 977+3) % 2147483629 % bb],_,rfl,hM0,by omega,Same.put s nf,?_,hF.push hbb (Int.emod_nonneg _ (by omega)) (Int.emod_lt_of_pos _ p0)⟩
   rw [List.map_append];exact au
 ·rintro U H' ⟨n',N,ms,x6,rfl,_,_,s,hf,hF⟩
  walk_at "s"
  refine q f ms H' nf s hf ?_
  rw [List.length_map,List.take_length] at hF
  exact hF
theorem Dm (c:Nat):Txt.find (Str.ofString "0123456789") ⟨#[c]⟩=if 48<=c/\c < 58 then ((c - 48:Nat):Int) else -1:=by
 by_cases h:48<=c/\c < 58
 ·rw [if_pos h]
  have:∀ k∈List.range 10,Txt.find (Str.ofString "0123456789") ⟨#[48+k]⟩=((k:Nat):Int):=by trivial
  have:=this (c - 48) (List.mem_range.mpr (by omega))
  rw [show 48+(c - 48)=c by omega] at this
  exact this
 ·rw [if_neg h]
  have:=De c
  rw [decide_eq_false h] at this
  unfold Txt.find
  cases e:Builtin.Str.occurrences (Str.ofString "0123456789") ⟨#[c]⟩ 0 (Str.ofString "0123456789").length 1 with
  | nil=>rfl
  | cons a b=>rw [e] at this;cases this
def nV:Option Nat->V
 | some n=>.int (n:Int)
 | none=>.non
def Mi (K:W.Frag):Sp:=fun vs H Q _=>∃ z:Str,vs=[.str z]/\z.length<=1000/\Q (nV (nO z)) H
theorem yG {z:Str} (h:gJ z=false):nV (nO z)= .non:=by unfold nO;rw [h];rfl
theorem GX:∀ (l:List Nat),(∀ c∈l,c < 58)->lF l < 10 ^ l.length:=by
 have key:∀ (n:Nat) (l:List Nat),l.length=n->(∀ c∈l,c < 58)->lF l < 10 ^ n:=by
  intro n
  induction n with
  | zero=>intro l hl _;rw [List.eq_nil_of_length_eq_zero hl];decide
  | succ n ih=>
   intro l hl hc
   obtain ⟨m,c,rfl⟩:∃ m c,l=m ++ [c]:=⟨l.dropLast,l.getLast (by intro z;rw [z] at hl;simp at hl),(List.dropLast_concat_getLast _).symm⟩
   have hm:m.length=n:=by rw [List.length_append] at hl;simpa using hl
   have:=ih m hm fun x hx=>hc x (List.mem_append.mpr (.inl hx))
   have:=hc c (by simp)
   rw [pq,Nat.pow_succ]
   omega
 exact fun l h=>key _ l rfl h
theorem d8:aK ["_law_text_here","_law_found","_law_sign","_law_at"] ["_law_text_here"] (ak cM):=⟨rfl,rfl,rfl,by trivial,rfl,by trivial,by trivial⟩
theorem bZ (T:Txt w K mg):p8 P w K mg base 1 "_law_number" ["_law_text_here"] (Mi K):=by
 refine jB T.d_law_number d8 (fun _ _ _ _ _ _ us hl=>L2.iJ (fun _=>rfl) us hl) ?_ fun f cdv A outer s H vs Q E hr h=>?_
 ·rintro vs H Q E ⟨z,rfl,_⟩;rfl
 obtain ⟨z,rfl,hl,q⟩:=h
 have hu:=hr.units0
 have hu64:=hr.units
 refine ⟨_,(aq (aX (fY (lq (aH Am (aM (aQ (K:=K) rfl) (bG Mg) T.b_len cu (aa (ao 0 Dl) aj) (by trivial) (by trivial)) az (by walk_at "p")) (lq (aH tQ (aM (aQ (K:=K) rfl) (bG Mg) T.b_len cu (aa (ao 0 Dl) aj) (by trivial) (by trivial)) az (by walk_at "p")) (jM (fY (iV (aH tQ (aM (aQ (K:=K) rfl) (bG Mg) T.b_len cu (aa (ao 0 Dl) aj) (by trivial) (by trivial)) az (by walk_at "p")) (iK (aH (aN (K:=K) rfl hu64) (cJ (K:=K) rfl (ao 0 Dl) az) aD (by walk_at "p"))))))))) (aA (aF jj)) aP) (aq (bw (i:=1) d8.nd rfl (Or.inl GR) az rfl) (aq (rE PassesOwn.never rfl (bM (K:=K) rfl (ao 0 Dl)) (nJ (i:=2) d8.nd rfl (Or.inl P0) rfl) (aq (bw (i:=3) d8.nd rfl (Or.inl Mf) (fc (K:=K) rfl PySem.F.plainAttrs_str PySem.F.slot_str_find PySem.F.type_str_find Cw aD (aa (ao 2 P0) aj)) rfl) (aq (aX (aH Am (ao 3 Mf) az (by walk_at "p")) (aA (aF jj)) aP) (aA (bw (i:=1) d8.nd rfl (Or.inl GR) (aZ aV (aZ gB az (ao 1 GR)) (ao 3 Mf)) rfl))))) (aA (aF (ao 1 GR)))))),?_⟩
 walk_at "n"
 have hz:20000<=sizeLine:=by decide
 have hcl:=dR z
 with_reducible refine v8 (fun U G=>G=H/\U=[some (.str z),none,none,none]/\1<=z.length/\z.length<=4/\(decide (z.length=1) || decide (z.cps.toList.head?≠some 48))=true) ?_ ?_
 rotate_left
 ·intro N hN
  walk_at "s"
  refine f9 (by omega) ?_
  walk_at "s"
  by_cases h1:1<=z.length
  rotate_left
  ·rw [decide_eq_true (show (z.length:Int) < 1 by omega)]
   show if true=true then _ else _
   walk_at "s"
   rw [yG (by unfold gJ;rw [decide_eq_false (show ¬ (1<=z.length/\z.length<=4) by omega)];rfl)] at q
   exact q
  rw [decide_eq_false (show ¬ (z.length:Int) < 1 by omega)]
  show if false=true then _ else _
  walk_at "s"
  refine f9 (by omega) ?_
  walk_at "s"
  by_cases h4:z.length<=4
  rotate_left
  ·rw [decide_eq_true (show (4:Int) < (z.length:Int) by omega)]
   show if true=true then _ else _
   walk_at "s"
   rw [yG (by unfold gJ;rw [decide_eq_false (show ¬ (1<=z.length/\z.length<=4) by omega)];rfl)] at q
   exact q
  rw [decide_eq_false (show ¬ (4:Int) < (z.length:Int) by omega)]
  show if false=true then _ else _
  walk_at "s"
  refine f9 (by omega) ?_
  walk_at "s"
  obtain ⟨c,hc⟩:∃ c,z.cps.toList[0]?=some c:=⟨_,List.getElem?_eq_getElem (by omega)⟩
  by_cases h2:z.length=1
  ·rw [decide_eq_false (show ¬ (1:Int) < (z.length:Int) by omega)]
   walk_at "s"
   exact hN _ _ ⟨rfl,rfl,h1,h4,by rw [decide_eq_true h2];rfl⟩
  rw [decide_eq_true (show (1:Int) < (z.length:Int) by omega)]
  walk_at "s"
  refine nF (x:=z) (by omega) (fQ (j:=0) hc) ?_
  walk_at "s"
  rw [show Str.ofString "0"=⟨#[48]⟩ by trivial,rY]
  have eh:z.cps.toList.head?=some c:=by rw [List.head?_eq_getElem?,hc]
  by_cases h48:c=48
  ·rw [decide_eq_true h48]
   walk_at "s"
   rw [yG (by unfold gJ;rw [eh,decide_eq_false h2,h48];simp)] at q
   exact q
  ·rw [decide_eq_false h48]
   walk_at "s"
   exact hN _ _ ⟨rfl,rfl,h1,h4,by rw [eh,decide_eq_true (show some c≠some 48 from fun e=>h48 (Option.some.inj e)),Bool.or_true]⟩
 rintro U G ⟨rfl,rfl,h1,h4,hh⟩
 walk_at "s"
 refine .inr (.inr ⟨z,rfl,?_⟩)
 refine uQ (fun i U G'=>G'=G/\(∀ c∈z.cps.toList.take i,48<=c/\c < 58)/\∃ x2 x3,U=[some (.str z),some (.int ((lF (z.cps.toList.take i):Nat):Int)),x2,x3]) ⟨rfl,(fun c h=>by simp at h),_,_,rfl⟩ ?_ ?_
 ·rintro i U G' c hc ⟨rfl,hd,x2,x3,rfl⟩
  have hil:=(List.getElem?_eq_some_iff.mp hc).1
  have hvl:=GX (z.cps.toList.take i) fun c h=>(hd c h).2
  have hp:10 ^ (z.cps.toList.take i).length<=10 ^ 4:=Nat.pow_le_pow_right (by omega) (by rw [List.length_take];omega)
  walk_at "s"
  refine ⟨rfl,?_⟩
  walk_at "s"
  refine ⟨_,_,rfl,rfl,?_⟩
  rw [Dm]
  by_cases h:48<=c/\c < 58
  ·rw [if_pos h]
   walk_at "s"
   rw [decide_eq_false (show ¬ ((c - 48:Nat):Int) < 0 by omega)]
   walk_at "s"
   refine ⟨rfl,fun x hx=>?_,some (.str ⟨#[c]⟩),some (.int ((c - 48:Nat):Int)),?_⟩
   ·rw [List.take_add_one,hc] at hx
    rcases List.mem_append.mp hx with e | e
    ·exact hd x e
    ·rw [List.mem_singleton.mp e];exact h
   ·rw [List.take_add_one,hc,show (some c).toList=[c] from rfl,pq,show (10*(lF (z.cps.toList.take i):Int)+((c - 48:Nat):Int))=((10*lF (z.cps.toList.take i)+(c - 48):Nat):Int) by omega]
    rfl
  ·rw [if_neg h]
   walk_at "s"
   rw [decide_eq_true (show (-1:Int) < 0 by decide)]
   walk_at "s"
   rw [yG (by
    have:zN z=false:=by
     unfold zN
     rw [← Bool.not_eq_true,List.all_eq_true]
     intro hx
     exact h (of_decide_eq_true (hx c (List.mem_of_getElem? hc)))
    unfold gJ;rw [this];simp)] at q
   exact q
 ·rintro U G' ⟨rfl,hd,x2,x3,rfl⟩
  rw [← hcl,List.take_length] at hd ⊢
  walk_at "s"
  have:gJ z=true:=by
   unfold gJ zN
   rw [hh,decide_eq_true (show 1<=z.length/\z.length<=4 from ⟨h1,h4⟩),List.all_eq_true.mpr fun c hc=>decide_eq_true (hd c hc)];rfl
  unfold nO at q
  rw [if_pos this] at q
  exact q
def Mj (K:W.Frag):Sp:=fun vs H Q _=>∃ (z:Str) (c:Nat),vs=[.str z,.str ⟨#[c]⟩]/\z.length<=1000/\∀ q H',H q=none->Same H H'->H' q=some (.lst ((Txt.split z ⟨#[c]⟩).map V.str))->Q (.ref q) H'
theorem aO (a b:Str):(a ++ b).length=a.length+b.length:=by
 show (_ ++ _:Array Nat).size=_;simp [Str.length]
theorem Dn {α:Type} (l:List α) (x y:α):(l ++ [x]).set l.length y=l ++ [y]:=by simp
theorem jQ:aK ["_law_text_here","_law_mark","_law_parts_here","_law_sign"] ["_law_text_here","_law_mark"] (ak dM):=⟨rfl,rfl,rfl,by trivial,rfl,by trivial,by trivial⟩
theorem cR (T:Txt w K mg):p8 P w K mg base 1 "_law_parts" ["_law_text_here","_law_mark"] (Mj K):=by
 refine jB T.d_law_parts jQ (fun _ _ _ _ _ _ us hl=>L2.oU (fun _ _=>rfl) us hl) ?_ fun f cdv A outer s H vs Q E hr h=>?_
 ·rintro vs H Q E ⟨z,c,rfl,_⟩;rfl
 obtain ⟨z,c,rfl,hl,q⟩:=h
 have hu:=hr.units0
 have hu64:=hr.units
 refine ⟨_,(aq (bw (i:=2) jQ.nd rfl (Or.inl Dk) (bA (aa aD aj)) rfl) (aq (rE PassesOwn.never rfl (bM (K:=K) rfl (ao 0 kz35)) (nJ (i:=3) jQ.nd rfl (Or.inl Ma) rfl) (aA (aX (aH (aN (K:=K) rfl hu64) (ao 3 Ma) (ao 1 kz37) (by walk_at "p")) (aA (cX (fc (K:=K) rfl PySem.F.plainAttrs_list PySem.F.slot_list_append PySem.F.type_list_append oZ (ao 2 Dk) (aa aD aj)))) (aA (Fl (ts:=Cv) (aZ aV (cJ (K:=K) rfl (ao 2 Dk) (Oh Ak az)) (ao 3 Ma)) (Ku (ao 2 Dk) (Oh Ak az) (Gb hu64))))))) (aA (aF (ao 2 Dk))))),?_⟩
 walk_at "s"
 have hz:20000<=sizeLine:=by decide
 have hcl:=dR z
 refine aJ rfl fun p H1 np S1 hp=>?_
 walk_at "s"
 refine .inr (.inr ⟨z,rfl,?_⟩)
 refine uQ (fun i U G=>Same H G/\(∃ (ys:List Str) (y:Str),G p=some (.lst ((ys ++ [y]).map V.str))/\glue c ((ys ++ [y]).map fun p=>p.cps.toList)=z.cps.toList.take i ++ [c]/\(∀ x∈ys ++ [y],c ∉ x.cps.toList)/\ys.length<=i/\y.length<=i)/\∃ x3,U=[some (.str z),some (.str ⟨#[c]⟩),some (.ref p),x3])
  ⟨S1,⟨[],Str.ofString "",hp,rfl,(fun x hx=>by rw [List.mem_singleton.mp hx];exact fun z=>by rw [show (Str.ofString "").cps.toList=[] by trivial] at z;cases z),Nat.le_refl _,by trivial⟩,_,rfl⟩ ?_ ?_
 ·rintro i U G s hs ⟨sG,⟨ys,y,hpG,hg,hf,hyl,hy2⟩,x3,rfl⟩
  have hil:=(List.getElem?_eq_some_iff.mp hs).1
  walk_at "s"
  rw [rY]
  by_cases h:s=c
  ·rw [decide_eq_true h]
   walk_at "s"
   refine ⟨.inl ⟨rfl,_,SqL.of hpG⟩,?_⟩
   walk_at "s"
   refine rF hpG (by rw [List.length_map,List.length_append];simp;omega) ?_
   walk_at "s"
   refine ⟨Same.put sG np,⟨ys ++ [y],Str.ofString "",?_,?_,fun x hx=>?_,by rw [List.length_append];simp;omega,by rw [show (Str.ofString "").length=0 by trivial];omega⟩,_,rfl⟩
   ·rw [List.map_append (l₁:=ys ++ [y])];exact au
   ·rw [List.map_append (l₁:=ys ++ [y]),pR,hg,List.take_add_one,hs,h];rfl
   ·rcases List.mem_append.mp hx with e | e
    ·exact hf x e
    ·rw [List.mem_singleton.mp e];exact fun z=>by rw [show (Str.ofString "").cps.toList=[] by trivial] at z;cases z
  ·rw [decide_eq_false h]
   have hlast:uD ((ys ++ [y]).map V.str) (-1)=some (.str y):=atM1 (n:=ys.length) (by rw [List.length_map,List.length_append];rfl) (by rw [List.getElem?_map,List.getElem?_append_right (Nat.le_refl _),Nat.sub_self];rfl)
   walk_at "s"
   refine bH (SqL.of hpG) hlast ?_
   walk_at "s"
   refine eZ (by rw [vU];omega) ?_
   walk_at "s"
   refine Gd hpG (n:=ys.length) (by rw [List.length_map,List.length_append];unfold Ax;simp;omega) ?_
   walk_at "s"
   refine ⟨Same.put sG np,⟨ys,y ++ ⟨#[s]⟩,?_,?_,fun x hx=>?_,by omega,by rw [aO,vU];omega⟩,_,rfl⟩
   ·rw [List.map_append,List.map_append]
    have:=Dn (ys.map V.str) (.str y) (.str (y ++ ⟨#[s]⟩))
    rw [List.length_map] at this
    show upd G p (.lst ((ys.map V.str ++ [V.str y]).set ys.length (V.str (y ++ (⟨#[s]⟩:Str))))) p=some (HO.lst (ys.map V.str ++ [V.str (y ++ (⟨#[s]⟩:Str))]))
    rw [this]
    exact au
   ·rw [List.map_append,pR] at hg ⊢
    have e1:glue c (ys.map fun p=>p.cps.toList) ++ y.cps.toList ++ [c]=z.cps.toList.take i ++ [c]:=by rw [← hg,List.append_assoc];rfl
    have e2:=List.append_cancel_right e1
    rw [List.take_add_one,hs,← e2]
    show glue c (ys.map fun p=>p.cps.toList) ++ ((y ++ ⟨#[s]⟩:Str).cps.toList ++ [c])=_
    rw [cps_append]
    simp
   ·rcases List.mem_append.mp hx with e | e
    ·exact hf x (List.mem_append.mpr (.inl e))
    ·rw [List.mem_singleton.mp e,cps_append]
     intro z
     rcases List.mem_append.mp z with z | z
     ·exact hf y (by simp) z
     ·exact h (List.mem_singleton.mp z).symm
 ·rintro U G ⟨sG,⟨ys,y,hpG,hg,hf,hyl,hy2⟩,x3,rfl⟩
  rw [← hcl,List.take_length] at hg
  walk_at "s"
  rw [← CV hg hf] at hpG
  exact q p G np sG hpG
theorem sY:(["_law_part"]:List Str).Nodup:=by trivial
theorem Do:cF dN "_law_numbers_here":=by trivial
theorem kz3e:bU dN "len":=by trivial
theorem kz3f:bU dN "_law_parts":=by trivial
theorem kz3g:cF dN "_law_text_here":=by trivial
theorem oK:(PyData.none).canLay0=true/\(PyData.none).depth<=0:=by simp [PyData.canLay0,PyData.depth]
theorem yH:∀ {ds:List PyData},(∀ d∈ds,d.canLay0=true)->PyData.canLayAll0 ds=true
 | [],_=>rfl
 | d :: ds,h=>by rw [PyData.canLayAll0,yH fun x hx=>h x (List.mem_cons_of_mem _ hx),h d (by simp)];rfl
theorem sy {H:Hp} {Q:VK} {ds:List PyData} {vs:List V} {q:Addr} (hq:H q=some (.lst vs)) (hd:DRs H ds vs) (hl:∀ d∈ds,d.canLay0=true) (h:Q (.bl (ds.any fun e=>e.eqv .none)) H):O8 K .non (.ref q) H Q:=
 .inr ⟨.none,ds,jl.mpr rfl,bV.mpr ⟨q,vs,rfl,hq,hd⟩,by trivial,yH hl,by decide,h⟩
theorem sE {f:Str->Option PyData} (hf:∀ y d,f y=some d->d.eqv .none=false) (ys:List Str):((ys.map fun y=>(f y).getD .none).any fun e=>e.eqv .none)=!(ys.all fun y=>(f y).isSome):=by
 induction ys with
 | nil=>rfl
 | cons y ys ih=>
  rw [List.map_cons,List.any_cons,List.all_cons,ih,Bool.not_and]
  congr 1
  cases h:f y with
  | none=>rfl
  | some d=>exact hf y d h
theorem Ib:∀ y d,eN y=some d->d.eqv .none=false:=fun y d h=>by
 unfold eN at h
 obtain ⟨n,_,rfl⟩:=Option.map_eq_some_iff.mp h
 rfl
theorem Ie:∀ y d,eP y=some d->d.eqv .none=false:=fun y d h=>by
 unfold eP at h
 obtain ⟨n,_,rfl⟩:=Option.map_eq_some_iff.mp h
 rfl
theorem Qc:∀ y d,eH y=some d->d.eqv .none=false:=fun y d h=>by
 obtain ⟨_,rfl⟩:=GD h
 rfl
theorem Qd:∀ y d,cO y=some d->d.eqv .none=false:=fun y d h=>by
 unfold cO at h
 split at h
 ·cases h;rfl
 ·cases h
theorem vf (y:Str):((eN y).getD .none).canLay0=true/\((eN y).getD .none).depth<=0:=by
 unfold eN
 cases nO y with
 | none=>exact oK
 | some n=>exact uX _
theorem gw {d:PyData} {n m:Nat} (h:d.canLay0=true/\d.depth<=n) (hm:n<=m):d.canLay0=true/\d.depth<=m:=⟨h.1,Nat.le_trans h.2 hm⟩
theorem vg (y:Str):((eP y).getD .none).canLay0=true/\((eP y).getD .none).depth<=1:=by
 unfold eP
 cases pO y with
 | none=>exact gw oK (by omega)
 | some p=>
  refine uh (n:=0) fun d hd=>?_
  rcases List.mem_cons.mp hd with rfl | hd
  ·exact uX _
  ·rw [List.mem_singleton.mp hd];exact uX _
theorem wI {f:Str->Option PyData} {n:Nat} (hf:∀ y,((f y).getD .none).canLay0=true/\((f y).getD .none).depth<=n) (ys:List Str):((lG f ys).getD .none).canLay0=true/\((lG f ys).getD .none).depth<=n+1:=by
 cases h:ys.all fun y=>(f y).isSome with
 | false=>rw [jn h];exact gw oK (by omega)
 | true=>
  rw [fW h]
  refine v7 fun d hd=>?_
  obtain ⟨y,_,rfl⟩:=List.mem_map.mp hd
  exact hf y
theorem Dp (y:Str):((eH y).getD .none).canLay0=true/\((eH y).getD .none).depth<=2:=wI vg _
theorem Dq (z:Str):kO z∈[Str.ofString "keep",Str.ofString "change",Str.ofString "out",Str.ofString "in",Str.ofString ""]:=by
 unfold kO Lj
 generalize Txt.slice z none (some 1)=m
 simp only [List.lookup]
 split
 ·simp
 ·split
  ·simp
  ·split
   ·simp
   ·split
    ·simp
    ·simp
theorem GZ {x:Nat} (h:jh x=true):PyData.strOk ⟨#[x]⟩=true:=by
 have h:=of_decide_eq_true h
 have:∀ k∈List.range 26,PyData.strOk ⟨#[97+k]⟩=true:=by trivial
 have:=this (x - 97) (List.mem_range.mpr (by omega))
 rw [show 97+(x - 97)=x by omega] at this
 exact this
theorem Qe (z:Str):PyData.strOk (kO z)=true:=by
 have:=Dq z
 simp only [List.mem_cons,List.mem_nil_iff,or_false] at this
 rcases this with h | h | h | h | h <;> rw [h] <;> trivial
theorem Dr (y:Str):((cO y).getD .none).canLay0=true/\((cO y).getD .none).depth<=1:=by
 unfold cO
 split
 ·rename_i h
  refine uh (n:=0) fun d hd=>?_
  rcases List.mem_cons.mp hd with rfl | hd
  ·exact nQ (Qe y)
  ·obtain ⟨x,hx,rfl⟩:=List.mem_map.mp hd
   unfold isC at h
   rw [Bool.and_eq_true] at h
   exact nQ (GZ (List.all_eq_true.mp h.1 x hx))
 ·exact gw oK (by omega)
theorem Ig {H:Hp} (y:Str):DR H ((eN y).getD .none) (nV (nO y)):=by
 unfold eN
 cases nO y with
 | none=>exact jl.mpr rfl
 | some n=>exact mH.mpr rfl
def Qf (K:W.Frag) (f:Str->Option PyData):Sp:=fun vs H Q _=>∃ (z:Str),vs=[.str z]/\z.length<=1000/\∀ u H',Same H H'->DR H' ((f z).getD .none) u->Q u H'
theorem pU:aK ["_law_text_here","_law_numbers_here"] ["_law_text_here"] (ak dN):=⟨rfl,rfl,rfl,by trivial,rfl,by trivial,by trivial⟩
theorem jR (T:Txt w K mg):p8 P w K mg base 2 "_law_pair" ["_law_text_here"] (Qf K eP):=by
 have bZ:=bZ (P:=P) (w:=w) (base:=base) T
 have cR:=cR (P:=P) (w:=w) (base:=base) T
 refine jB T.d_law_pair pU (fun _ _ _ _ _ _ us hl=>L2.iJ (fun _=>rfl) us hl) ?_ fun f cdv A outer s H vs Q E hr h=>?_
 ·rintro vs H Q E ⟨z,rfl,_⟩;rfl
 obtain ⟨z,rfl,hl,q⟩:=h
 have hu:=hr.units0
 have hu64:=hr.units
 refine ⟨_,(aq (lN (i:=1) pU.nd rfl (Or.inl Do) (sub:=[none]) (aY (N:=["_law_text_here","_law_numbers_here"]) (sc:=ak dN) (N':=["_law_part"]) (by trivial)) rfl rfl rfl (bM (K:=K) rfl (bj cR (hr.mono (by decide)) (bG kz3f) (aa (ao 0 kz3g) (aa aD aj)) (by trivial))) (fun C s₀ H₀ ex=>(iW 0 (by trivial) sY)) (fun C s₀ H₀ ex=>bL) (fun C s₀ H₀ ex=>(bj bZ (hr.mono (by decide)) (sI (by trivial)) (aa (dh 0 (by trivial)) aj) (by trivial))) rfl) (aq (aX (fY (lq (aH (lz (K:=K) rfl hu64) (aM (aQ (K:=K) rfl) (bG kz3e) T.b_len cu (aa (ao 1 Do) aj) (by trivial) (by trivial)) az (by walk_at "p")) (jM (aH (uZ (K:=K) rfl hu64) jj (ao 1 Do) (by walk_at "p"))))) (aA (aF jj)) aP) (aA (aF (gG (aa (cJ (K:=K) rfl (ao 1 Do) az) (aa (cJ (K:=K) rfl (ao 1 Do) az) aj))))))),?_⟩
 walk_at "s"
 have hz:20000<=sizeLine:=by decide
 obtain ⟨hm1,hm2⟩:=dw z 58
 refine ⟨z,58,by rw [colon],hl,fun p H1 np S1 hp=>?_⟩
 walk_at "s"
 have eS:=jG z
 rw [ur] at eS
 have e2:∀ a b,Txt.split z ⟨#[58]⟩=[a,b]->∀ n m,nO a=some n->nO b=some m->eP z=some (pD (n,m)):=fun a b h n m hn hm=>by
  unfold eP pO
  rw [h]
  show ((match nO a,nO b with | some x,some y=>some (x,y) | _,_=>none).map pD)=_
  rw [hn,hm];rfl
 generalize Txt.split z ⟨#[58]⟩=ys at*
 refine .inl ⟨p,rfl,⟨_,SqL.of hp⟩,?_⟩
 refine aU (xs:=ys.map V.str) (fun i zs G=>G=H1/\zs=(ys.take i).map fun y=>nV (nO y)) (by rw [List.length_map];omega) ⟨rfl,rfl⟩ ?_ ?_ ?_ ?_
 ·rintro i zs G ⟨_,rfl⟩
  rw [List.length_map,List.length_take];omega
 ·rintro i zs G ⟨rfl,_⟩
  exact SqL.of hp
 ·rintro i zs G v hv ⟨rfl,rfl⟩
  rw [List.getElem?_map] at hv
  obtain ⟨y,ey,rfl⟩:=Option.map_eq_some_iff.mp hv
  have:=hm2 y (List.mem_of_getElem? ey)
  walk_at "s"
  refine ⟨KeepSt.set rfl,?_⟩
  walk_at "s"
  refine ⟨y,rfl,by omega,?_⟩
  walk_at "s"
  refine ⟨rfl,?_⟩
  rw [List.take_add_one,ey,List.map_append]
  rfl
 rintro zs G D H2 ⟨rfl,rfl⟩ nD S2 hD
 rw [List.length_map,List.take_length] at hD
 have U2:=S1.trans S2
 have hdd:DRs H2 (ys.map fun y=>(eN y).getD .none) (ys.map fun y=>nV (nO y)):=by
  clear hD hm2 eS e2 hp hm1
  induction ys with
  | nil=>exact dq.mpr rfl
  | cons y ys ih=>exact cZ.mpr ⟨_,_,rfl,Ig y,ih⟩
 have no:(eP z).isSome=false->DR H2 ((eP z).getD .none) .non:=fun h=>by
  cases e:eP z with
  | none=>exact jl.mpr rfl
  | some d=>rw [e] at h;cases h
 try walk_at "s"
 refine lg (SqL.of hD) ?_
 walk_at "s"
 rw [List.length_map]
 by_cases h2:ys.length=2
 rotate_left
 ·rw [decide_eq_false (show ¬ V.int (ys.length:Int)=V.int 2 from fun e=>h2 (by have:=V.int.inj e;omega))]
  show if true=true then _ else _
  walk_at "s"
  exact q _ H2 U2 (no (by rw [eS,decide_eq_false h2];rfl))
 rw [decide_eq_true (show V.int (ys.length:Int)=V.int 2 by rw [h2];rfl)]
 show if false=true then _ else _
 walk_at "s"
 refine sy hD hdd (fun d hd=>by obtain ⟨y,_,rfl⟩:=List.mem_map.mp hd;exact (vf y).1) ?_
 walk_at "s"
 rw [sE Ib]
 have eA:(ys.all fun y=>(eN y).isSome)=ys.all gJ:=by congr 1;funext y;exact ut y
 rw [eA]
 cases ha:ys.all gJ with
 | false=>
  show if true=true then _ else _
  walk_at "s"
  exact q _ H2 U2 (no (by rw [eS,ha,Bool.and_false]))
 | true=>
  show if false=true then _ else _
  walk_at "s"
  match ys,h2 with
  | [a,b],_=>
   have ha2:gJ a=true/\gJ b=true:=by simpa using ha
   obtain ⟨n,hn⟩:=Option.isSome_iff_exists.mp ((fO a).trans ha2.1)
   obtain ⟨m,hm⟩:=Option.isSome_iff_exists.mp ((fO b).trans ha2.2)
   replace hD:H2 D=some (.lst [.int (n:Int),.int (m:Int)]):=by rw [hD];show some (HO.lst [nV (nO a),nV (nO b)])=_;rw [hn,hm];rfl
   walk_at "s"
   refine aJ rfl fun t H3 nt S3 ht=>?_
   walk_at "s"
   refine q _ H3 (U2.trans S3) ?_
   rw [e2 a b rfl n m hn hm]
   exact Df ht
theorem Qg:bU cN "len":=by trivial
theorem vh:cF cN "_law_text_here":=by trivial
theorem zW:cF cN "_law_kind":=by trivial
theorem Qh:cF cN "_law_letter":=by trivial
theorem Qi:cF cN "_law_kinds":=by trivial
def Ih:List (Key×V):=[(Sum.inr (Str.ofString "="),.str (Str.ofString "keep")),(Sum.inr (Str.ofString "!"),.str (Str.ofString "change")),(Sum.inr (Str.ofString "<"),.str (Str.ofString "out")),(Sum.inr (Str.ofString ">"),.str (Str.ofString "in"))]
theorem zX:jq [] Ih=Ih:=by trivial
theorem Ha (s:Str):(o4 Ih (Sum.inr s)).getD (.str (Str.ofString ""))= .str ((Lj.lookup s).getD (Str.ofString "")):=by
 unfold o4 Ih Lj
 simp only [List.find?,List.lookup]
 by_cases h1:s=Str.ofString "="
 ·subst h1;rfl
 by_cases h2:s=Str.ofString "!"
 ·subst h2;rfl
 by_cases h3:s=Str.ofString "<"
 ·subst h3;rfl
 by_cases h4:s=Str.ofString ">"
 ·subst h4;rfl
 have n1:(s == Str.ofString "=")=false:=by simpa using h1
 have n2:(s == Str.ofString "!")=false:=by simpa using h2
 have n3:(s == Str.ofString "<")=false:=by simpa using h3
 have n4:(s == Str.ofString ">")=false:=by simpa using h4
 have m1:decide ((Sum.inr (Str.ofString "="):Key)=Sum.inr s)=false:=decide_eq_false fun e=>h1 (Sum.inr.inj e).symm
 have m2:decide ((Sum.inr (Str.ofString "!"):Key)=Sum.inr s)=false:=decide_eq_false fun e=>h2 (Sum.inr.inj e).symm
 have m3:decide ((Sum.inr (Str.ofString "<"):Key)=Sum.inr s)=false:=decide_eq_false fun e=>h3 (Sum.inr.inj e).symm
 have m4:decide ((Sum.inr (Str.ofString ">"):Key)=Sum.inr s)=false:=decide_eq_false fun e=>h4 (Sum.inr.inj e).symm
 simp only [m1,m2,m3,m4,n1,n2,n3,n4]
 rfl
theorem Ds {z:Str} (h:isC (kO z) (lO z)=true):(cO z).getD .none=cD (kO z) (lO z):=by unfold cO;rw [if_pos h];rfl
theorem Qj {z:Str} (h:isC (kO z) (lO z)=false):(cO z).getD .none= .none:=by unfold cO;rw [h];rfl
theorem gC:aK ["_law_text_here","_law_kinds","_law_kind","_law_letter"] ["_law_text_here"] (ak cN):=⟨rfl,rfl,rfl,by trivial,rfl,by trivial,by trivial⟩
theorem jT (T:Txt w K mg):p8 P w K mg base 1 "_law_change" ["_law_text_here"] (Qf K cO):=by
 refine jB T.d_law_change gC (fun _ _ _ _ _ _ us hl=>L2.iJ (fun _=>rfl) us hl) ?_ fun f cdv A outer s H vs Q E hr h=>?_
 ·rintro vs H Q E ⟨z,rfl,_⟩;rfl
 obtain ⟨z,rfl,hl,q⟩:=h
 have hu:=hr.units0
 have hu64:=hr.units
 refine ⟨_,(aq (bw (i:=1) gC.nd rfl (Or.inl Qi) (BP (nH aD aD (nH aD aD (nH aD aD (nH aD aD BL)))) rfl rfl (by simp) (by decide)) rfl) (aq (bw (i:=2) gC.nd rfl (Or.inl zW) (Gh hu64 (ao 1 Qi) (d9 (eU (K:=K) rfl) (ao 0 vh) jk (cW az)) aD) rfl) (aq (rE PassesOwn.never rfl (bM (K:=K) rfl (d9 (eU (K:=K) rfl) (ao 0 vh) (cW az) jk)) (nJ (i:=3) gC.nd rfl (Or.inl Qh) rfl) (aA (aX (aH (zL (K:=K) rfl hu64) (ao 3 Qh) aD (by walk_at "p")) (aA (aF jj)) aP))) (aq (aX (fY (iV (aH (aN (K:=K) rfl hu64) (ao 2 zW) aD (by walk_at "p")) (iV (aH (aN (K:=K) rfl hu64) (aM (aQ (K:=K) rfl) (bG Qg) T.b_len cu (aa (ao 0 vh) aj) (by trivial) (by trivial)) az (by walk_at "p")) (iK (aH (lz (K:=K) rfl hu64) (cJ (K:=K) rfl (ao 0 vh) az) (cJ (K:=K) rfl (ao 0 vh) az) (by walk_at "p")))))) (aA (aF (gG (aa (ao 2 zW) (aa (cJ (K:=K) rfl (ao 0 vh) az) (aa (cJ (K:=K) rfl (ao 0 vh) az) aj)))))) aP) (aq (aX (fY (iV (aH (lz (K:=K) rfl hu64) (ao 2 zW) aD (by walk_at "p")) (iV (aH (lz (K:=K) rfl hu64) (ao 2 zW) aD (by walk_at "p")) (iK (aH (aN (K:=K) rfl hu64) (aM (aQ (K:=K) rfl) (bG Qg) T.b_len cu (aa (ao 0 vh) aj) (by trivial) (by trivial)) az (by walk_at "p")))))) (aA (aF (gG (aa (ao 2 zW) (aa (cJ (K:=K) rfl (ao 0 vh) az) aj))))) aP) (aA (aF jj))))))),?_⟩
 walk_at "s"
 have hz:20000<=sizeLine:=by decide
 have hcl:=dR z
 have l1:=uw z
 refine By fun m nm=>?_
 refine ⟨au,Ih,rfl,by decide,?_⟩
 rw [zX]
 have S1:Same H (upd (upd H m (.dK [])) m (.dK Ih)):=Same.put ((Same.refl H).upd nm) nm
 have hm:=au (H:=upd H m (.dK [])) (a:=m) (o:=.dK Ih)
 generalize upd (upd H m (.dK [])) m (.dK Ih)=H1 at S1 hm ⊢
 walk_at "s"
 refine Gi ?_
 walk_at "s"
 refine ⟨m,rfl,.inl ⟨_,.inl hm⟩,?_⟩
 walk_at "s"
 refine ph (by omega) ?_
 walk_at "s"
 refine ⟨_,DGet.k (k:=Sum.inr (Txt.slice z none (some 1))) hm,?_⟩
 rw [Ha,show (Lj.lookup (Txt.slice z none (some 1))).getD (Str.ofString "")=kO z from rfl]
 walk_at "s"
 refine ph (by omega) ?_
 walk_at "s"
 refine .inr (.inr ⟨_,rfl,?_⟩)
 have esl:(Txt.slice z (some 1) none).cps.toList=lO z:=by rw [show (some (1:Int))=some ((1:Nat):Int) from rfl,rN];rfl
 have hll:(lO z).length=z.length - 1:=by unfold lO;rw [List.length_drop,hcl]
 have no:isC (kO z) (lO z)=false->Q .non H1:=fun h=>q _ H1 S1 (by rw [Qj h];exact jl.mpr rfl)
 refine uQ (fun i U G=>G=H1/\(∀ c∈(lO z).take i,jh c=true)/\∃ x3,U=[some (.str z),some (.ref m),some (.str (kO z)),x3]) ⟨rfl,(fun c h=>by simp at h),_,rfl⟩ ?_ ?_
 ·rintro i U G c hc ⟨rfl,hd,x3,rfl⟩
  rw [esl] at hc
  walk_at "s"
  rw [Dc]
  cases hb:jh c with
  | true=>
   walk_at "s"
   refine ⟨rfl,fun x hx=>?_,_,rfl⟩
   rw [List.take_add_one,hc] at hx
   rcases List.mem_append.mp hx with e | e
   ·exact hd x e
   ·rw [List.mem_singleton.mp e];exact hb
  | false=>
   walk_at "s"
   refine no (yC ?_)
   rw [← Bool.not_eq_true,List.all_eq_true]
   intro hx
   rw [hx c (List.mem_of_getElem? hc)] at hb
   cases hb
 rintro U G ⟨rfl,hd,x3,rfl⟩
 rw [show (Txt.slice z (some 1) none).length=(lO z).length by rw [← esl,dR],List.take_length] at hd
 have hal:(lO z).all jh=true:=List.all_eq_true.mpr hd
 have hkm:=Dq z
 simp only [List.mem_cons,List.mem_nil_iff,or_false] at hkm
 walk_at "s"
 rw [cQ]
 have zat:∀ i:Nat,z.cps.toList[i+1]?=(lO z)[i]?:=fun i=>by unfold lO;rw [List.getElem?_drop,Nat.add_comm]
 by_cases hch:kO z=Str.ofString "change"
 ·rw [decide_eq_true hch]
  have hne:kO z≠Str.ofString "":=fun e=>by rw [e] at hch;exact absurd hch (by trivial)
  walk_at "s"
  refine f9 (by omega) ?_
  walk_at "s"
  by_cases h3:z.length=3
  ·rw [decide_eq_true (show V.int (z.length:Int)=V.int 3 by rw [h3];rfl)]
   obtain ⟨a,b,hab⟩:∃ a b,lO z=[a,b]:=by
    match lO z,(show (lO z).length=2 by omega) with
    | [a,b],_=>exact ⟨a,b,rfl⟩
   have z1:=zat 0
   have z2:=zat 1
   rw [hab] at z1 z2
   walk_at "s"
   refine nF (x:=z) (by omega) (fQ (j:=1) z1) ?_
   walk_at "s"
   refine nF (x:=z) (by omega) (fQ (j:=2) z2) ?_
   walk_at "s"
   rw [rY]
   by_cases he:a=b
   ·rw [decide_eq_true he]
    walk_at "s"
    rw [cQ,decide_eq_false hne]
    walk_at "s"
    rw [cQ,decide_eq_true hch]
    walk_at "s"
    exact no (by rw [hab,n6,he];simp)
   ·rw [decide_eq_false he]
    walk_at "s"
    refine nF (x:=z) (by omega) (fQ (j:=1) z1) ?_
    walk_at "s"
    refine nF (x:=z) (by omega) (fQ (j:=2) z2) ?_
    walk_at "s"
    refine aJ rfl fun t H2 nt S2 ht=>?_
    walk_at "s"
    refine q _ H2 (S1.trans S2) ?_
    rw [Ds]
    ·rw [hab];exact su ht
    ·have:jh a=true/\jh b=true:=by rw [hab] at hal;simpa using hal
     rw [hab,n6,hch,this.1,this.2,decide_eq_true he];rfl
  ·rw [decide_eq_false (show ¬ V.int (z.length:Int)=V.int 3 from fun e=>h3 (by have:=V.int.inj e;omega))]
   walk_at "s"
   rw [cQ,decide_eq_false hne]
   walk_at "s"
   rw [cQ,decide_eq_true hch]
   walk_at "s"
   refine no ?_
   by_cases h2:(lO z).length=1
   ·match hh:lO z,h2 with
    | [a],_=>rw [qN,hch];have:decide (Str.ofString "change"=Str.ofString "keep"\/Str.ofString "change"=Str.ofString "out"\/Str.ofString "change"=Str.ofString "in")=false:=by trivial
             rw [this,Bool.and_false]
   ·exact n8 h2 (by omega)
 rw [decide_eq_false hch]
 walk_at "s"
 rw [cQ]
 by_cases h0:kO z=Str.ofString ""
 ·rw [decide_eq_true h0]
  walk_at "s"
  refine no ?_
  by_cases h2:(lO z).length=1
  ·match hh:lO z,h2 with
   | [a],_=>rw [qN,h0];have:decide (Str.ofString ""=Str.ofString "keep"\/Str.ofString ""=Str.ofString "out"\/Str.ofString ""=Str.ofString "in")=false:=by trivial
            rw [this,Bool.and_false]
  ·by_cases h3:(lO z).length=2
   ·match hh:lO z,h3 with
    | [a,b],_=>rw [n6,decide_eq_false hch];simp
   ·exact n8 h2 h3
 rw [decide_eq_false h0]
 walk_at "s"
 rw [cQ,decide_eq_false hch]
 walk_at "s"
 refine f9 (by omega) ?_
 walk_at "s"
 have hkk:kO z=Str.ofString "keep"\/kO z=Str.ofString "out"\/kO z=Str.ofString "in":=by
  rcases hkm with h | h | h | h | h
  ·exact .inl h
  ·exact absurd h hch
  ·exact .inr (.inl h)
  ·exact .inr (.inr h)
  ·exact absurd h h0
 by_cases h2:z.length=2
 ·rw [decide_eq_true (show V.int (z.length:Int)=V.int 2 by rw [h2];rfl)]
  obtain ⟨a,ha⟩:∃ a,lO z=[a]:=by
   match lO z,(show (lO z).length=1 by omega) with
   | [a],_=>exact ⟨a,rfl⟩
  have z1:=zat 0
  rw [ha] at z1
  walk_at "s"
  refine nF (x:=z) (by omega) (fQ (j:=1) z1) ?_
  walk_at "s"
  refine aJ rfl fun t H2 nt S2 ht=>?_
  walk_at "s"
  refine q _ H2 (S1.trans S2) ?_
  rw [Ds]
  ·rw [ha];exact su ht
  ·have:jh a=true:=by rw [ha] at hal;simpa using hal
   rw [ha,qN,this,decide_eq_true hkk];rfl
 ·rw [decide_eq_false (show ¬ V.int (z.length:Int)=V.int 2 from fun e=>h2 (by have:=V.int.inj e;omega))]
  walk_at "s"
  refine no ?_
  by_cases h3:(lO z).length=2
  ·match hh:lO z,h3 with
   | [a,b],_=>rw [n6,decide_eq_false hch];simp
  ·by_cases h4:(lO z).length=1
   ·omega
   ·exact n8 h4 h3
theorem sZ:(["_law_part"]:List Str).Nodup:=by trivial
theorem Ml:cF cz "_law_pairs":=by trivial
theorem kz3n:bU cz "_law_parts":=by trivial
theorem Hb:cF cz "_law_text_here":=by trivial
theorem Mm:cF cz "_law_kind":=by trivial
theorem kz3q:bU cz "_law_change":=by trivial
theorem kz3r:bU cz "_law_pair":=by trivial
theorem kz3s:bU cz "_law_number":=by trivial
theorem kz3t:bU du "NoWords":=by trivial
theorem Qk:cF du "e":=by trivial
theorem Ql:cF du "_law_told_here":=by trivial
theorem kz3w:bU du "_law_read":=by trivial
theorem kz3x:cF du "_law_thing_here":=by trivial
theorem kz3y:cF du "_law_kind":=by trivial
def eK (k:Int):Str->Option PyData:=if k=2 then eN else if k=3 then eP else if k=5 then cO else eH
def Mp (K:W.Frag):Sp:=fun vs H Q _=>∃ (k:Int) (z:Str),vs=[.int k,.str z]/\2<=k/\k < 6/\z.length<=1000/\∀ u H',Same H H'->DR H' ((eK k z).getD .none) u->Q u H'
theorem pW:aK ["_law_kind","_law_text_here","_law_pairs"] ["_law_kind","_law_text_here"] (ak cz):=⟨rfl,rfl,rfl,by trivial,rfl,by trivial,by trivial⟩
theorem mV (T:Txt w K mg):p8 P w K mg base 3 "_law_each" ["_law_kind","_law_text_here"] (Mp K):=by
 have bZ:=bZ (P:=P) (w:=w) (base:=base) T
 have jR:=jR (P:=P) (w:=w) (base:=base) T
 have jT:=jT (P:=P) (w:=w) (base:=base) T
 have cR:=cR (P:=P) (w:=w) (base:=base) T
 refine jB T.d_law_each pW (fun _ _ _ _ _ _ us hl=>L2.oU (fun _ _=>rfl) us hl) ?_ fun f cdv A outer s H vs Q E hr h=>?_
 ·rintro vs H Q E ⟨k,z,rfl,_⟩;rfl
 obtain ⟨k,z,rfl,hk0,hk1,hl,q⟩:=h
 have hu:=hr.units0
 have hu64:=hr.units
 refine ⟨_,(aq (aX (aH (aN (K:=K) rfl hu64) (ao 0 Mm) az (by walk_at "p")) (aA (aF (bj bZ (hr.mono (by decide)) (bG kz3s) (aa (ao 1 Hb) aj) (by trivial)))) aP) (aq (aX (aH (aN (K:=K) rfl hu64) (ao 0 Mm) az (by walk_at "p")) (aA (aF (bj jR (hr.mono (by decide)) (bG kz3r) (aa (ao 1 Hb) aj) (by trivial)))) aP) (aq (aX (aH (aN (K:=K) rfl hu64) (ao 0 Mm) az (by walk_at "p")) (aA (aF (bj jT (hr.mono (by decide)) (bG kz3q) (aa (ao 1 Hb) aj) (by trivial)))) aP) (aq (lN (i:=2) pW.nd rfl (Or.inl Ml) (sub:=[none]) (aY (N:=["_law_kind","_law_text_here","_law_pairs"]) (sc:=ak cz) (N':=["_law_part"]) (by trivial)) rfl rfl rfl (bM (K:=K) rfl (bj cR (hr.mono (by decide)) (bG kz3n) (aa (ao 1 Hb) (aa aD aj)) (by trivial))) (fun C s₀ H₀ ex=>(iW 0 (by trivial) sZ)) (fun C s₀ H₀ ex=>bL) (fun C s₀ H₀ ex=>(bj jR (hr.mono (by decide)) (sI (by trivial)) (aa (dh 0 (by trivial)) aj) (by trivial))) rfl) (aq (aX (aH (uZ (K:=K) rfl hu64) jj (ao 2 Ml) (by walk_at "p")) (aA (aF jj)) aP) (aA (aF (ao 2 Ml)))))))),?_⟩
 walk_at "s"
 have hz:20000<=sizeLine:=by decide
 unfold eK at q
 by_cases h2:k=2
 ·subst h2
  rw [if_pos rfl] at q
  rw [decide_eq_true (rfl:V.int 2=V.int 2)]
  walk_at "s"
  exact ⟨z,rfl,hl,q _ H (Same.refl H) (Ig z)⟩
 rw [if_neg h2] at q
 rw [decide_eq_false (show ¬ V.int k=V.int 2 from fun e=>h2 (V.int.inj e))]
 walk_at "s"
 by_cases h3:k=3
 ·subst h3
  rw [if_pos rfl] at q
  rw [decide_eq_true (rfl:V.int 3=V.int 3)]
  walk_at "s"
  exact ⟨z,rfl,hl,q⟩
 rw [if_neg h3] at q
 rw [decide_eq_false (show ¬ V.int k=V.int 3 from fun e=>h3 (V.int.inj e))]
 walk_at "s"
 by_cases h5:k=5
 ·subst h5
  rw [if_pos rfl] at q
  rw [decide_eq_true (rfl:V.int 5=V.int 5)]
  walk_at "s"
  exact ⟨z,rfl,hl,q⟩
 rw [if_neg h5] at q
 rw [decide_eq_false (show ¬ V.int k=V.int 5 from fun e=>h5 (V.int.inj e))]
 walk_at "s"
 obtain ⟨hm1,hm2⟩:=dw z 44
 refine ⟨z,44,by rw [comma],hl,fun p H1 np S1 hp=>?_⟩
 walk_at "s"
 unfold eH at q
 generalize Txt.split z ⟨#[44]⟩=ys at*
 refine .inl ⟨p,rfl,⟨_,SqL.of hp⟩,?_⟩
 refine aU (xs:=ys.map V.str) (fun i zs G=>Same H1 G/\zs.length<=i/\DRs G ((ys.take i).map fun y=>(eP y).getD .none) zs) (by rw [List.length_map];omega) ⟨Same.refl H1,Nat.le_refl _,dq.mpr rfl⟩ ?_ ?_ ?_ ?_
 ·rintro i zs G ⟨_,h,_⟩
  exact h
 ·rintro i zs G ⟨s,_⟩
  exact SqL.of (s _ _ hp)
 ·rintro i zs G v hv ⟨s,hzl,hd⟩
  rw [List.getElem?_map] at hv
  obtain ⟨y,ey,rfl⟩:=Option.map_eq_some_iff.mp hv
  have:=hm2 y (List.mem_of_getElem? ey)
  walk_at "s"
  refine ⟨KeepSt.set rfl,?_⟩
  walk_at "s"
  refine ⟨y,rfl,by omega,fun u G2 S2 hu=>?_⟩
  walk_at "s"
  refine ⟨s.trans S2,by rw [List.length_append];simp;omega,?_⟩
  rw [List.take_add_one,ey,List.map_append]
  exact fj (DRs.same S2 _ _ hd) (cL hu)
 rintro zs G D H2 ⟨s,hzl,hd⟩ nD S2 hD
 rw [List.length_map,List.take_length] at hd
 have hd2:=DRs.same S2 _ _ hd
 have U2:=S1.trans (s.trans S2)
 try walk_at "s"
 refine sy hD hd2 (fun d hd=>by obtain ⟨y,_,rfl⟩:=List.mem_map.mp hd;exact (vg y).1) ?_
 walk_at "s"
 rw [sE Ie]
 cases ha:ys.all fun y=>(eP y).isSome with
 | false=>
  walk_at "s"
  exact q _ H2 U2 (by rw [jn ha];exact jl.mpr rfl)
 | true=>
  walk_at "s"
  exact q _ H2 U2 (by rw [fW ha];exact bV.mpr ⟨D,zs,rfl,hD,hd2⟩)
def OutR (H:Hp) (q:Addr) (v:V):Option PyData->Prop
 | none=>H q=some (.lst [.bl false,v])
 | some d=>∃ u,H q=some (.lst [.bl true,u])/\DR H d u
def oV (k:Int):V->Option PyData
 | .str z=>out k z
 | _=>none
theorem Mq {k:Int} {H:Hp} {v:V} (h:NotS K H v):oV k v=none:=by
 cases v with
 | str z=>exact absurd rfl (h.no z)
 | _=>rfl
def Dt (K:W.Frag):Sp:=fun vs H Q _=>∃ (k:Int) (v:V),vs=[.int k,v]/\0<=k/\k < 6/\TH K H v/\∀ q H',Same H H'->OutR H' q v (oV k v)->Q (.ref q) H'
theorem lK:aK ["_law_kind","_law_thing_here","_law_told_here","e"] ["_law_kind","_law_thing_here"] (ak du):=⟨rfl,rfl,rfl,by trivial,rfl,by trivial,by trivial⟩
theorem jU (T:Txt w K mg):p8 P w K mg base 7 "_law_told" ["_law_kind","_law_thing_here"] (Dt K):=by
 have mR:=mR (P:=P) (w:=w) (base:=base) T
 refine jB T.d_law_told lK (fun _ _ _ _ _ _ us hl=>L2.oU (fun _ _=>rfl) us hl) ?_ fun f cdv A outer s H vs Q E hr h=>?_
 ·rintro vs H Q E ⟨k,v,rfl,_⟩;rfl
 obtain ⟨k,v,rfl,hk0,hk1,hT,q⟩:=h
 have hu:=hr.units0
 have hu64:=hr.units
 refine ⟨_,(aA (yu rfl rfl (fun pins R=>(aA (bw (i:=2) lK.nd rfl (Or.inl Ql) (bI mR (hr.mono (by decide)) (bG kz3w) rK (aa (ao 0 kz3y) (aa (ao 1 kz3x) aj)) (by trivial)) rfl))) (Cm (K:=K) (i:=3) rfl T.x_NoWords.c (bG kz3t) (by trivial) lK.nd rfl Qk (fun x=>(aA (aF (bA (aa iU (aa (xJ (K:=K) rfl (ao 3 Qk)) aj)))))) Ck) (aA (aF (bA (aa iU (aa (ao 2 Ql) aj))))))),?_⟩
 walk_at "s"
 refine ⟨k,v,rfl,hk0,hk1,hT,fun z d ez ho u H1 S1 hu=>?_,fun hno e H1 S1 X1=>?_⟩
 ·subst ez
  walk_at "s"
  refine aJ rfl fun t H2 nt S2 ht=>?_
  walk_at "s"
  refine q t H2 (S1.trans S2) ?_
  rw [show oV k (.str z)=some d from ho]
  exact ⟨u,ht,DR.same S2 _ _ hu⟩
 ·have hv:oV k v=none:=by
   cases v with
   | str z=>exact hno z rfl
   | _=>rfl
  refine ⟨_,e,rfl,rfl,?_⟩
  refine Cp T.x_NoWords.c.cl.cls T.u_NoWords_NoWords.mro ?_
  walk_at "s"
  refine ⟨e,_,_,v,rfl,X1,T.x_NoWords.c.cl.cls,T.x_NoWords.na _ (by simp),rfl,?_⟩
  walk_at "s"
  refine aJ rfl fun t H2 nt S2 ht=>?_
  walk_at "s"
  refine q t H2 (S1.trans S2) ?_
  rw [hv]
  exact ht
theorem vm:(["_law_part","_law_kind"]:List Str).Nodup:=by trivial
theorem vo:(["_law_sign"]:List Str).Nodup:=by trivial
theorem Hc:cF bD "_law_found":=by trivial
theorem Hd:bU bD "len":=by trivial
theorem Hf:KCc bD "_law_kind":=by trivial
theorem oM:cF bD "_law_thing_here":=by trivial
theorem kz43:bU bD "_law_parts":=by trivial
theorem Qm:cF bD "_law_marks":=by trivial
theorem kz45:bU bD "int":=by trivial
theorem Mr:cF bD "_law_number_here":=by trivial
theorem kz47:bU bD "_law_number":=by trivial
theorem Qn:cF bD "_law_good":=by trivial
theorem kz49:bU bD "isinstance":=by trivial
theorem kz4a:bU bD "str":=by trivial
theorem Hg (c:Nat):(!(Builtin.Str.occurrences (Str.ofString "abcdefghijklmnopqrstuvwxyz.") ⟨#[c]⟩ 0 (Str.ofString "abcdefghijklmnopqrstuvwxyz.").length 1).isEmpty)=decide (c∈GOOD):=by
 rw [StrLaws.found_one,show (Str.ofString "abcdefghijklmnopqrstuvwxyz.").cps.toList=GOOD by trivial]
theorem Du (p:Nat->Bool) (l:List Nat):decide ((l.filter p).length < l.length)=!l.all p:=by
 induction l with
 | nil=>rfl
 | cons x l ih=>
  have hle:=List.length_filter_le p l
  rw [List.filter_cons,List.all_cons]
  cases hx:p x with
  | true=>
   rw [if_pos rfl,Bool.true_and,← ih]
   exact decide_eq_decide.mpr (by rw [List.length_cons,List.length_cons];omega)
  | false=>
   rw [if_neg (by decide),Bool.false_and]
   exact decide_eq_true (by rw [List.length_cons];omega)
theorem Qo {k:Int} (h0:k≠0) (h1:k≠1) (h6:k < 6) (h:0<=k) (z:Str) (hd:z≠Str.ofString "-"):out k z=if k=5/\48 < (Txt.split z ⟨#[if k=4 then 47 else 44]⟩).length then none else lG (eK k) (Txt.split z ⟨#[if k=4 then 47 else 44]⟩):=by
 unfold out eK lists
 rw [if_neg h0,if_neg h1]
 by_cases h2:k=2
 ·rw [if_pos h2,if_neg hd,if_pos h2,if_neg (show ¬ k=4 by omega),if_neg (fun x=>by omega)]
 rw [if_neg h2,if_neg h2]
 by_cases h3:k=3
 ·rw [if_pos h3,if_neg hd,if_pos h3,if_neg (show ¬ k=4 by omega),if_neg (fun x=>by omega)]
 rw [if_neg h3,if_neg h3]
 by_cases h4:k=4
 ·rw [if_pos h4,if_neg hd,if_pos h4,if_neg (show ¬ k=5 by omega),if_neg (fun x=>by omega)]
 have h5:k=5:=by omega
 rw [if_neg h4,if_neg hd,if_neg h4,if_pos h5]
 by_cases hl:48 < (Txt.split z ⟨#[44]⟩).length
 ·rw [if_pos ⟨hd,hl⟩,if_pos ⟨h5,hl⟩]
 ·rw [if_neg (fun x=>hl x.2),if_neg (fun x=>hl x.2)]
theorem Qp (k:Int):∀ y d,eK k y=some d->d.eqv .none=false:=fun y d h=>by
 unfold eK at h
 split at h
 ·exact Ib y d h
 ·split at h
  ·exact Ie y d h
  ·split at h
   ·exact Qd y d h
   ·exact Qc y d h
theorem Ms (k:Int) (y:Str):((eK k y).getD .none).canLay0=true/\((eK k y).getD .none).depth<=2:=by
 unfold eK
 split
 ·exact gw (vf y) (by omega)
 ·split
  ·exact gw (vg y) (by omega)
  ·split
   ·exact gw (Dr y) (by omega)
   ·exact Dp y
theorem jg:aK ["_law_kind","_law_thing_here","_law_good","_law_number_here","_law_marks","_law_found"] ["_law_kind","_law_thing_here"] (ak bD):=⟨rfl,rfl,rfl,by trivial,rfl,by trivial,by trivial⟩
theorem lR (T:Txt w K mg):p8 P w K mg base 4 "_law_due" ["_law_kind","_law_thing_here"] (Dt K):=by
 have bZ:=bZ (P:=P) (w:=w) (base:=base) T
 have mV:=mV (P:=P) (w:=w) (base:=base) T
 have cR:=cR (P:=P) (w:=w) (base:=base) T
 refine jB T.d_law_due jg (fun _ _ _ _ _ _ us hl=>L2.oU (fun _ _=>rfl) us hl) ?_ fun f cdv A outer s H vs Q E hr h=>?_
 ·rintro vs H Q E ⟨k,v,rfl,_⟩;rfl
 obtain ⟨k,v,rfl,hk0,hk1,hT,q⟩:=h
 have hu:=hr.units0
 have hu64:=hr.units
 refine ⟨_,(aq (aX (gb (iy (aM (fJ (K:=K) rfl) (bG kz49) T.b_isinstance b7 (aa (ao 1 oM) (aa (vV (bG kz4a) T.b_str jr (by trivial) (by trivial)) aj)) (by trivial) (by trivial)))) (aA (aF (bA (aa iU (aa (ao 1 oM) aj))))) aP) (aq (aX (aH (aN (K:=K) rfl hu64) (Fi 0 Hf) az (by walk_at "p")) (aq (aX (aH (aN (K:=K) rfl hu64) (ao 1 oM) aD (by walk_at "p")) (aA (aF (bA (aa iU (aa aD aj))))) aP) (aq (lN (i:=2) jg.nd rfl (Or.inl Qn) (sub:=[none]) (aY (N:=["_law_kind","_law_thing_here","_law_good","_law_number_here","_law_marks","_law_found"]) (sc:=ak bD) (N':=["_law_sign"]) (by trivial)) rfl rfl rfl (bM (K:=K) rfl (ao 1 oM)) (fun C s₀ H₀ ex=>(iW 0 (by trivial) vo)) (fun C s₀ H₀ ex=>(Fj (aH (uZ (K:=K) rfl hu64) (dh 0 (by trivial)) aD (by walk_at "p")))) (fun C s₀ H₀ ex=>(dh 0 (by trivial))) rfl) (aq (aX (fY (lq (aH (aN (K:=K) rfl hu64) (ao 1 oM) aD (by walk_at "p")) (lq (aH tQ (aM (aQ (K:=K) rfl) (bG Hd) T.b_len cu (aa (ao 1 oM) aj) (by trivial) (by trivial)) az (by walk_at "p")) (jM (aH Am (aM (aQ (K:=K) rfl) (bG Hd) T.b_len cu (aa (ao 2 Qn) aj) (by trivial) (by trivial)) (aM (aQ (K:=K) rfl) (bG Hd) T.b_len cu (aa (ao 1 oM) aj) (by trivial) (by trivial)) (by walk_at "p")))))) (aA (aF (bA (aa iU (aa (ao 1 oM) aj))))) aP) (aA (aF (bA (aa iU (aa (ao 1 oM) aj)))))))) aP) (aq (aX (aH (aN (K:=K) rfl hu64) (Fi 0 Hf) az (by walk_at "p")) (aq (bw (i:=3) jg.nd rfl (Or.inl Mr) (bj bZ (hr.mono (by decide)) (bG kz47) (aa (ao 1 oM) aj) (by trivial)) rfl) (aq (aX (aH K3 (ao 3 Mr) jj (by walk_at "p")) (aA (aF (bA (aa iU (aa (ao 1 oM) aj))))) aP) (aA (aF (bA (aa iU (aa (ao 3 Mr) aj))))))) aP) (aq (aX (aH (aN (K:=K) rfl hu64) (ao 1 oM) aD (by walk_at "p")) (aA (aF (bA (aa iU (aa (bA aj) aj))))) aP) (aq (bw (i:=4) jg.nd rfl (Or.inl Qm) (bA (aa aD (aa aD aj))) rfl) (aq (lN (i:=5) jg.nd rfl (Or.inl Hc) (sub:=[none,some 0]) (aY (N:=["_law_kind","_law_thing_here","_law_good","_law_number_here","_law_marks","_law_found"]) (sc:=ak bD) (N':=["_law_part","_law_kind"]) (by trivial)) rfl rfl rfl (bM (K:=K) rfl (bj cR (hr.mono (by decide)) (bG kz43) (aa (ao 1 oM) (aa (cJ (K:=K) rfl (ao 4 Qm) (dD jD (bG kz45) T.b_int rD (aa (fX (aN (K:=K) rfl hu64) (Fi 0 Hf) az (by walk_at "p")) aj) (by trivial) (by trivial))) aj)) (by trivial))) (fun C s₀ H₀ ex=>(iW 0 (by trivial) vm)) (fun C s₀ H₀ ex=>bL) (fun C s₀ H₀ ex=>(bj mV (hr.mono (by decide)) (sI (by trivial)) (aa (BK 1 (by trivial)) (aa (dh 0 (by trivial)) aj)) (by trivial))) rfl) (aq (aX (fY (lq (aH (uZ (K:=K) rfl hu64) jj (ao 5 Hc) (by walk_at "p")) (jM (fY (iV (aH (aN (K:=K) rfl hu64) (Fi 0 Hf) az (by walk_at "p")) (iK (aH tQ (aM (aQ (K:=K) rfl) (bG Hd) T.b_len cu (aa (ao 5 Hc) aj) (by trivial) (by trivial)) az (by walk_at "p")))))))) (aA (aF (bA (aa iU (aa (ao 1 oM) aj))))) aP) (aA (aF (bA (aa iU (aa (ao 5 Hc) aj)))))))))))),?_⟩
 walk_at "s"
 have hz:20000<=sizeLine:=by decide
 rcases hT with ⟨z,rfl,hl⟩ | ⟨hN,_⟩
 rotate_left
 ·have hN':=hN
  obtain ⟨ty,hty,hkk⟩:=hN'
  refine iT hty hkk ?_
  walk_at "s"
  refine aJ rfl fun t H1 nt S1 ht=>?_
  walk_at "s"
  exact q t H1 S1 (by rw [Mq hN];exact ht)
 have hcl:=dR z
 have q':∀ t H',Same H H'->OutR H' t (.str z) (out k z)->Q (.ref t) H':=q
 clear q
 refine iT (.str _) rfl ?_
 walk_at "s"
 by_cases h0:k=0
 ·subst h0
  rw [decide_eq_true (rfl:V.int 0=V.int 0)]
  walk_at "s"
  rw [cQ]
  unfold out at q'
  rw [if_pos rfl] at q'
  by_cases hd:z=Str.ofString "-"
  ·rw [decide_eq_true hd]
   rw [if_pos hd] at q'
   walk_at "s"
   refine aJ rfl fun t H1 nt S1 ht=>?_
   walk_at "s"
   exact q' t H1 S1 ⟨_,ht,dm.mpr rfl⟩
  rw [decide_eq_false hd]
  rw [if_neg hd] at q'
  walk_at "s"
  refine .inr (.inr ⟨z,rfl,?_⟩)
  refine o9 (fun i zs G=>G=H/\zs=((z.cps.toList.take i).filter fun c=>decide (c∈GOOD)).map fun c=>.str ⟨#[c]⟩) (show z.length<=sizeLine by omega) ⟨rfl,rfl⟩ ?_ ?_ ?_
  ·rintro i zs G ⟨_,rfl⟩
   rw [List.length_map]
   have:=List.length_filter_le (fun c=>decide (c∈GOOD)) (z.cps.toList.take i)
   rw [List.length_take] at this
   omega
  ·rintro i zs G c hc ⟨rfl,rfl⟩
   walk_at "s"
   refine ⟨KeepSt.set rfl,?_⟩
   walk_at "s"
   refine .inl (ji ?_)
   walk_at "s"
   rw [Hg]
   have e3:(z.cps.toList.take (i+1)).filter (fun c=>decide (c∈GOOD))=(z.cps.toList.take i).filter (fun c=>decide (c∈GOOD)) ++ (if decide (c∈GOOD)=true then [c] else []):=by
    rw [List.take_add_one,hc,List.filter_append]
    congr 1
    show List.filter _ [c]=_
    rw [List.filter_cons]
    rfl
   rw [e3]
   cases hb:decide (c∈GOOD) with
   | true=>
    walk_at "s"
    refine ⟨rfl,?_⟩
    rw [if_pos rfl,List.map_append]
    rfl
   | false=>
    walk_at "s"
    refine ⟨rfl,?_⟩
    rw [if_neg (by decide),List.append_nil]
  rintro zs G D H2 ⟨rfl,rfl⟩ nD S2 hD
  rw [List.take_of_length_le (by simp)] at hD
  have no:(¬ (mJ z=true/\z≠Str.ofString ""))->∀ t H',Same H2 H'->H' t=some (.lst [.bl false,.str z])->Q (.ref t) H':=fun h t H' S ht=>by
   rw [if_neg h] at q'
   exact q' t H' (S2.trans S) ht
  try walk_at "s"
  rw [cQ]
  by_cases he:z=Str.ofString ""
  ·rw [decide_eq_true he]
   show if true=true then _ else _
   walk_at "s"
   refine aJ rfl fun t H3 nt S3 ht=>?_
   walk_at "s"
   exact no (fun h=>h.2 he) t H3 S3 ht
  rw [decide_eq_false he]
  show if false=true then _ else _
  walk_at "s"
  refine f9 (by omega) ?_
  walk_at "s"
  by_cases h48:z.length<=48
  rotate_left
  ·rw [decide_eq_true (show (48:Int) < (z.length:Int) by omega)]
   show if true=true then _ else _
   walk_at "s"
   refine aJ rfl fun t H3 nt S3 ht=>?_
   walk_at "s"
   exact no (fun h=>by have:=h.1;unfold mJ at this;rw [decide_eq_false h48] at this;cases this) t H3 S3 ht
  rw [decide_eq_false (show ¬ (48:Int) < (z.length:Int) by omega)]
  show if false=true then _ else _
  walk_at "s"
  refine lg (SqL.of hD) ?_
  walk_at "s"
  refine f9 (by omega) ?_
  walk_at "s"
  rw [List.length_map,show decide ((((z.cps.toList.filter fun c=>decide (c∈GOOD)).length:Nat):Int) < (z.length:Int))=!(z.cps.toList.all fun c=>decide (c∈GOOD)) by rw [← Du,hcl];exact decide_eq_decide.mpr (by omega)]
  have erow:mJ z=z.cps.toList.all fun c=>decide (c∈GOOD):=by unfold mJ;rw [decide_eq_true h48,Bool.true_and]
  cases ha:z.cps.toList.all fun c=>decide (c∈GOOD) with
  | false=>
   walk_at "s"
   refine aJ rfl fun t H3 nt S3 ht=>?_
   walk_at "s"
   exact no (fun h=>by rw [erow,ha] at h;cases h.1) t H3 S3 ht
  | true=>
   rw [if_pos ⟨erow.trans ha,he⟩] at q'
   walk_at "s"
   refine aJ rfl fun t H3 nt S3 ht=>?_
   walk_at "s"
   exact q' t H3 (S2.trans S3) ⟨_,ht,dm.mpr rfl⟩
 rw [decide_eq_false (show ¬ V.int k=V.int 0 from fun e=>h0 (V.int.inj e))]
 walk_at "s"
 by_cases h1:k=1
 ·subst h1
  rw [decide_eq_true (rfl:V.int 1=V.int 1)]
  unfold out at q'
  rw [if_neg (by decide),if_pos rfl] at q'
  walk_at "s"
  refine ⟨z,rfl,hl,?_⟩
  walk_at "s"
  have hn:eN z=(nO z).map fun n:Nat=>PyData.int (n:Int):=rfl
  cases hnz:nO z with
  | none=>
   rw [hn,hnz] at q'
   walk_at "s"
   rw [decide_eq_true (show nV none=V.non from rfl)]
   walk_at "s"
   refine aJ rfl fun t H3 nt S3 ht=>?_
   walk_at "s"
   exact q' t H3 S3 ht
  | some n=>
   rw [hn,hnz] at q'
   walk_at "s"
   rw [decide_eq_false (show ¬ nV (some n)=V.non from fun e=>by cases e)]
   walk_at "s"
   refine aJ rfl fun t H3 nt S3 ht=>?_
   walk_at "s"
   exact q' t H3 S3 ⟨_,ht,mH.mpr rfl⟩
 rw [decide_eq_false (show ¬ V.int k=V.int 1 from fun e=>h1 (V.int.inj e))]
 walk_at "s"
 rw [cQ]
 by_cases hd:z=Str.ofString "-"
 ·rw [decide_eq_true hd]
  walk_at "s"
  refine aJ rfl fun e H1 ne S1 he=>?_
  walk_at "s"
  refine aJ rfl fun t H2 nt S2 ht=>?_
  walk_at "s"
  refine q' t H2 (S1.trans S2) ?_
  have:out k z=some (.list []):=by
   unfold out lists
   rw [if_neg h0,if_neg h1,if_pos hd]
   split
   ·rfl
   ·split
    ·rfl
    ·split
     ·rfl
     ·rw [if_neg (fun x=>x.1 hd)]
  rw [this]
  exact ⟨_,ht,bV.mpr ⟨e,[],rfl,S2 _ _ he,dq.mpr rfl⟩⟩
 rw [decide_eq_false hd]
 rw [Qo h0 h1 hk1 hk0 z hd] at q'
 walk_at "s"
 refine aJ rfl fun mk H1 nmk S1 hmk=>?_
 walk_at "s"
 refine .inl (.inr ⟨_,rfl,?_⟩)
 walk_at "s"
 obtain ⟨c,ec,hix⟩:∃ c:Nat,(if k=4 then 47 else 44)=c/\uD [V.str (Str.ofString ","),V.str (Str.ofString "/")] (if decide (V.int k=V.int 4)=true then 1 else 0)=some (.str ⟨#[c]⟩):=by
  by_cases h4:k=4
  ·subst h4
   exact ⟨47,rfl,by rw [← slash];rfl⟩
  ·refine ⟨44,if_neg h4,?_⟩
   rw [decide_eq_false (show ¬ V.int k=V.int 4 from fun e=>h4 (V.int.inj e)),← comma];rfl
 rw [ec] at q'
 refine bH (SqL.of hmk) hix ?_
 walk_at "s"
 obtain ⟨hm1,hm2⟩:=dw z c
 refine ⟨z,c,rfl,hl,fun p H2 np S2 hp=>?_⟩
 walk_at "s"
 generalize Txt.split z ⟨#[c]⟩=ys at*
 refine .inl ⟨p,rfl,⟨_,SqL.of hp⟩,?_⟩
 refine aU (xs:=ys.map V.str) (fun i zs G=>Same H2 G/\zs.length=i/\i<=ys.length/\DRs G ((ys.take i).map fun y=>(eK k y).getD .none) zs) (by rw [List.length_map];omega) ⟨Same.refl H2,rfl,Nat.zero_le _,dq.mpr rfl⟩ ?_ ?_ ?_ ?_
 ·rintro i zs G ⟨_,h,_⟩
  omega
 ·rintro i zs G ⟨s,_⟩
  exact SqL.of (s _ _ hp)
 ·rintro i zs G v hv ⟨s,hzl,hil,hdr⟩
  rw [List.getElem?_map] at hv
  obtain ⟨y,ey,rfl⟩:=Option.map_eq_some_iff.mp hv
  have hlt:=(List.getElem?_eq_some_iff.mp ey).1
  have:=hm2 y (List.mem_of_getElem? ey)
  walk_at "s"
  refine ⟨KeepSt.set rfl,?_⟩
  walk_at "s"
  refine ⟨k,y,rfl,by omega,hk1,by omega,fun u G2 S3 hu=>?_⟩
  walk_at "s"
  refine ⟨s.trans S3,by rw [List.length_append,hzl];rfl,hlt,?_⟩
  rw [List.take_add_one,ey,List.map_append]
  exact fj (DRs.same S3 _ _ hdr) (cL hu)
 rintro zs G D H3 ⟨s,hzl,_,hdr⟩ nD S3 hD
 rw [List.length_map] at hzl
 rw [List.length_map,List.take_length] at hdr
 have hd2:=DRs.same S3 _ _ hdr
 have U3:=S1.trans (S2.trans (s.trans S3))
 try walk_at "s"
 refine sy hD hd2 (fun d hd=>by obtain ⟨y,_,rfl⟩:=List.mem_map.mp hd;exact (Ms k y).1) ?_
 walk_at "s"
 rw [sE (Qp k)]
 cases ha:ys.all fun y=>(eK k y).isSome with
 | false=>
  show if true=true then _ else _
  walk_at "s"
  refine aJ rfl fun t H4 nt S4 ht=>?_
  walk_at "s"
  refine q' t H4 (U3.trans S4) ?_
  rw [jn ha]
  split
  ·exact ht
  ·exact ht
 | true=>
  rw [fW ha] at q'
  show if false=true then _ else _
  walk_at "s"
  by_cases h5:k=5
  ·rw [decide_eq_true (show V.int k=V.int 5 by rw [h5])]
   walk_at "s"
   refine lg (SqL.of hD) ?_
   walk_at "s"
   rw [hzl]
   by_cases h48:48 < ys.length
   ·rw [decide_eq_true (show (48:Int) < (ys.length:Int) by omega)]
    rw [if_pos ⟨h5,h48⟩] at q'
    walk_at "s"
    refine aJ rfl fun t H4 nt S4 ht=>?_
    walk_at "s"
    exact q' t H4 (U3.trans S4) ht
   ·rw [decide_eq_false (show ¬ (48:Int) < (ys.length:Int) by omega)]
    rw [if_neg (fun x=>h48 x.2)] at q'
    walk_at "s"
    refine aJ rfl fun t H4 nt S4 ht=>?_
    walk_at "s"
    exact q' t H4 (U3.trans S4) ⟨_,ht,bV.mpr ⟨D,zs,rfl,S4 _ _ hD,DRs.same S4 _ _ hd2⟩⟩
  ·rw [decide_eq_false (show ¬ V.int k=V.int 5 from fun e=>h5 (V.int.inj e))]
   rw [if_neg (fun x=>h5 x.1)] at q'
   walk_at "s"
   refine aJ rfl fun t H4 nt S4 ht=>?_
   walk_at "s"
   exact q' t H4 (U3.trans S4) ⟨_,ht,bV.mpr ⟨D,zs,rfl,S4 _ _ hD,DRs.same S4 _ _ hd2⟩⟩
theorem tD:(["_law_number_here"]:List Str).Nodup:=by trivial
theorem tE:(["_law_number_here"]:List Str).Nodup:=by trivial
theorem tG:(["_law_number_here"]:List Str).Nodup:=by trivial
theorem tH:(["_law_number_here","_law_signs"]:List Str).Nodup:=by trivial
theorem Dv:cF bY "_law_text_here":=by trivial
theorem tK:cF bY "_law_numbers_here":=by trivial
theorem Hh:cF bY "_law_kind":=by trivial
theorem Hi:cF bY "_law_pairs":=by trivial
theorem kz4f:KCc bY "_law_signs":=by trivial
theorem lU {n:Nat} (h:n < 100000):(n:Int).natAbs.log2 < 1920:=by
 rw [Int.natAbs_natCast]
 have:n.log2<=16:=by
  by_cases h0:n=0
  ·rw [h0];decide
  ·exact Nat.le_of_lt_succ ((Nat.log2_lt h0).mpr (by omega))
 omega
theorem vp {n:Nat} (h:n < 100000):(Str.ofString (toString (n:Int))).length<=6:=by
 have:=int_text_length_le10 (a:=(n:Int)) (k:=5) (by omega) (by rw [Int.natAbs_natCast];omega)
 rw [ofString_length];omega
theorem pB {ys:List Str} {m:Nat} (h:∀ y∈ys,y.length<=m):(ys.map (·.length)).sum<=ys.length*m:=by
 induction ys with
 | nil=>simp
 | cons y ys ih=>
  have h1:=h y (by simp)
  have h2:=ih fun z hz=>h z (List.mem_cons_of_mem _ hz)
  rw [List.map_cons,List.sum_cons,List.length_cons,Nat.succ_mul];omega
theorem oN {sep:Str} {ys:List Str} {m:Nat} (h:∀ y∈ys,y.length<=m):(Txt.join sep ys).length<=ys.length*m+ys.length*sep.length:=by
 rw [xr]
 have h1:=StrLaws.join_length_le sep ys
 have h2:=pB h
 omega
theorem Fits.at_ {ms bs:List Int} (h:Fits ms bs) {i:Nat} {b:Int} (hb:bs[i]?=some b):∃ m,ms[i]?=some m/\0<=m/\m < b:=by
 have hi:i < ms.length:=by rw [h.1];exact (List.getElem?_eq_some_iff.mp hb).1
 exact ⟨ms[i],List.getElem?_eq_getElem hi,h.2 i _ b (List.getElem?_eq_getElem hi) hb⟩
theorem dX {ms:List Int} {i:Nat} {m:Int} {j:Int} (h:ms[i]?=some m) (hj:j=(i:Int)):uD (ms.map V.int) j=some (.int m):=by
 subst hj
 refine fQ ?_
 rw [List.getElem?_map,h];rfl
def BS:List Int:=[9,11,997,4003,4003,4003,4003,4003,4003,4003,4003,4003]
theorem Dw {ms:List Int} (h:Fits ms BS):∀ x∈ms,0<=x/\x < 4003:=fun x hx=>by
 obtain ⟨i,hi⟩:=List.mem_iff_getElem?.mp hx
 have hl:i < BS.length:=by rw [← h.1];exact (List.getElem?_eq_some_iff.mp hi).1
 obtain ⟨b,hb⟩:∃ b,BS[i]?=some b:=⟨_,List.getElem?_eq_getElem hl⟩
 have:=h.2 i x b hi hb
 have:b<=4003:=by
  have:∀ b∈BS,b<=4003:=by decide
  exact this b (List.mem_of_getElem? hb)
 omega
theorem oO {ms:List Int} {a b:Nat}:∃ us:List Int,m6 (ms.map V.int) (some (a:Int)) (some (b:Int))=us.map V.int/\(∀ x∈us,x∈ms)/\us.length=min b ms.length - min a ms.length:=by
 unfold m6
 rw [HT.sIx_nat,HT.sIx_nat,List.length_map]
 refine ⟨(ms.drop (min a ms.length)).take (min b ms.length - min a ms.length),by rw [List.map_take,List.map_drop],fun x hx=>List.mem_of_mem_drop (List.mem_of_mem_take hx),?_⟩
 rw [List.length_take,List.length_drop];omega
theorem qO {ws:List Str} {w:Str} {i m:Nat} (h1:ws.length=i) (h2:∀ x∈ws,x.length<=m) (hw:w.length<=m):∃ ws':List Str,ws.map V.str ++ [V.str w]=ws'.map V.str/\ws'.length=i+1/\∀ x∈ws',x.length<=m:=
 ⟨ws ++ [w],by rw [List.map_append];rfl,by rw [List.length_append,h1];rfl,fun x hx=>by
  rcases List.mem_append.mp hx with h | h
  ·exact h2 x h
  ·rw [List.mem_singleton.mp h];exact hw⟩
theorem Ii {z:Str} {d:Int} (h0:0<=d) (h1:d < z.length):∃ c,uD z.cps.toList d=some c:=by
 have hl:d.toNat < z.cps.toList.length:=by rw [dR];omega
 exact ⟨z.cps.toList[d.toNat],yo h0 (List.getElem?_eq_getElem hl)⟩
theorem cj:(Str.ofString ",").length=1:=by trivial
theorem iQ:(Str.ofString ":").length=1:=by trivial
theorem pC:(Str.ofString "/").length=1:=by trivial
def SGS:List Str:=["ab.z-A1","0123459","0190,-","019:,","01:,/-","=!<>ab,b"]
def CHS:List Str:=["=a","!ab","<b",">z","!ba","=.","!cc",">A"]
def Mt (K:W.Frag):Sp:=fun vs H Q _=>∃ (k:Int) (p:Addr) (ms:List Int),vs=[.int k,.ref p]/\0<=k/\k < 6/\H p=some (.lst (ms.map V.int))/\Fits ms BS/\∀ z H',z.length<=300->Same H H'->Q (.str z) H'
theorem dU:aK ["_law_kind","_law_numbers_here","_law_signs","_law_text_here","_law_pairs"] ["_law_kind","_law_numbers_here"] (ak bY):=⟨rfl,rfl,rfl,by trivial,rfl,by trivial,by trivial⟩
theorem mW (T:Txt w K mg):p8 P w K mg base 1 "_law_text" ["_law_kind","_law_numbers_here"] (Mt K):=by
 refine jB T.d_law_text dU (fun _ _ _ _ _ _ us hl=>L2.oU (fun _ _=>rfl) us hl) ?_ fun f cdv A outer s H vs Q E hr h=>?_
 ·rintro vs H Q E ⟨k,p,ms,rfl,_⟩;rfl
 obtain ⟨k,p,ms,rfl,hk0,hk1,hp,hF,q⟩:=h
 have hu:=hr.units0
 have hu64:=hr.units
 refine ⟨_,(aq (bw (i:=2) dU.nd rfl (Or.inr kz4f) (cJ (K:=K) rfl (bA (aa aD (aa aD (aa aD (aa aD (aa aD (aa aD aj))))))) (ao 0 Hh)) rfl) (aq (bw (i:=3) dU.nd rfl (Or.inl Dv) (fc (K:=K) rfl PySem.F.plainAttrs_str PySem.F.slot_str_join PySem.F.type_str_join (lC (K:=K) rfl) aD (aa (dF (sub:=[none,some 2]) (aY (N:=["_law_kind","_law_numbers_here","_law_signs","_law_text_here","_law_pairs"]) (sc:=ak bY) (N':=["_law_number_here","_law_signs"]) (by trivial)) rfl rfl rfl (bM (K:=K) rfl (d9 (eU (K:=K) rfl) (ao 1 tK) (cW az) (cW (aZ aV az (cJ (K:=K) rfl (ao 1 tK) az))))) (fun C s₀ H₀ ex=>(iW 0 (by trivial) tH)) (fun C s₀ H₀ ex=>bL) (fun C s₀ H₀ ex=>(cJ (K:=K) rfl (BK 1 (by trivial)) (aZ bW (dh 0 (by trivial)) (aM (aQ (K:=K) rfl) (sI (by trivial)) T.b_len cu (aa (BK 1 (by trivial)) aj) (by trivial) (by trivial)))))) aj)) rfl) (aq (aX (fY (iV (aH (aN (K:=K) rfl hu64) (ao 0 Hh) az (by walk_at "p")) (iK (aH (aN (K:=K) rfl hu64) (aZ bW (cJ (K:=K) rfl (ao 1 tK) az) az) az (by walk_at "p"))))) (aA (bw (i:=3) dU.nd rfl (Or.inl Dv) (fc (K:=K) rfl PySem.F.plainAttrs_str PySem.F.slot_str_join PySem.F.type_str_join (lC (K:=K) rfl) aD (aa (dF (sub:=[none]) (aY (N:=["_law_kind","_law_numbers_here","_law_signs","_law_text_here","_law_pairs"]) (sc:=ak bY) (N':=["_law_number_here"]) (by trivial)) rfl rfl rfl (bM (K:=K) rfl (d9 (eU (K:=K) rfl) (ao 1 tK) (cW az) (cW (aZ aV az (cJ (K:=K) rfl (ao 1 tK) az))))) (fun C s₀ H₀ ex=>(iW 0 (by trivial) tG)) (fun C s₀ H₀ ex=>bL) (fun C s₀ H₀ ex=>(aZ aV (aZ aV (dD lQ (sI (by trivial)) T.b_str jr (aa (aZ bW (dh 0 (by trivial)) az) aj) (by trivial) (by trivial)) aD) (dD lQ (sI (by trivial)) T.b_str jr (aa (aZ bW (aZ mZ (dh 0 (by trivial)) az) az) aj) (by trivial) (by trivial))))) aj)) rfl)) aP) (aq (aX (fY (iV (aH (aN (K:=K) rfl hu64) (ao 0 Hh) az (by walk_at "p")) (iK (aH (aN (K:=K) rfl hu64) (aZ bW (cJ (K:=K) rfl (ao 1 tK) az) az) az (by walk_at "p"))))) (aq (lN (i:=4) dU.nd rfl (Or.inl Hi) (sub:=[none]) (aY (N:=["_law_kind","_law_numbers_here","_law_signs","_law_text_here","_law_pairs"]) (sc:=ak bY) (N':=["_law_number_here"]) (by trivial)) rfl rfl rfl (bM (K:=K) rfl (d9 (eU (K:=K) rfl) (ao 1 tK) (cW az) (cW (aZ aV az (cJ (K:=K) rfl (ao 1 tK) az))))) (fun C s₀ H₀ ex=>(iW 0 (by trivial) tE)) (fun C s₀ H₀ ex=>bL) (fun C s₀ H₀ ex=>(aZ aV (aZ aV (dD lQ (sI (by trivial)) T.b_str jr (aa (aZ bW (dh 0 (by trivial)) az) aj) (by trivial) (by trivial)) aD) (dD lQ (sI (by trivial)) T.b_str jr (aa (aZ bW (aZ mZ (dh 0 (by trivial)) az) az) aj) (by trivial) (by trivial)))) rfl) (aA (bw (i:=3) dU.nd rfl (Or.inl Dv) (aZ aV (aZ aV (aZ aV (aZ aV (cJ (K:=K) rfl (ao 4 Hi) az) aD) (cJ (K:=K) rfl (ao 4 Hi) az)) aD) (fc (K:=K) rfl PySem.F.plainAttrs_str PySem.F.slot_str_join PySem.F.type_str_join (lC (K:=K) rfl) aD (aa (d9 (eU (K:=K) rfl) (ao 4 Hi) (cW az) jk) aj))) rfl))) aP) (aq (aX (fY (iV (aH (aN (K:=K) rfl hu64) (ao 0 Hh) az (by walk_at "p")) (iK (aH (aN (K:=K) rfl hu64) (aZ bW (cJ (K:=K) rfl (ao 1 tK) az) az) az (by walk_at "p"))))) (aA (bw (i:=3) dU.nd rfl (Or.inl Dv) (fc (K:=K) rfl PySem.F.plainAttrs_str PySem.F.slot_str_join PySem.F.type_str_join (lC (K:=K) rfl) aD (aa (dF (sub:=[none]) (aY (N:=["_law_kind","_law_numbers_here","_law_signs","_law_text_here","_law_pairs"]) (sc:=ak bY) (N':=["_law_number_here"]) (by trivial)) rfl rfl rfl (bM (K:=K) rfl (d9 (eU (K:=K) rfl) (ao 1 tK) (cW az) (cW az))) (fun C s₀ H₀ ex=>(iW 0 (by trivial) tD)) (fun C s₀ H₀ ex=>bL) (fun C s₀ H₀ ex=>(cJ (K:=K) rfl (bA (aa aD (aa aD (aa aD (aa aD (aa aD (aa aD (aa aD (aa aD aj))))))))) (aZ bW (dh 0 (by trivial)) az)))) aj)) rfl)) aP) (aA (aF (ao 3 Dv)))))))),?_⟩
 walk_at "s"
 have hz:20000<=sizeLine:=by decide
 have hml:ms.length=12:=hF.1
 obtain ⟨m0,e0,m00,m01⟩:=hF.at_ (i:=0) rfl
 obtain ⟨m1,e1,m10,m11⟩:=hF.at_ (i:=1) rfl
 have hmm:=Dw hF
 refine aJ rfl fun l H1 nl S1 hl=>?_
 walk_at "s"
 obtain ⟨sg,esg,hs1,hs2⟩:∃ sg:Str,uD (SGS.map V.str) k=some (.str sg)/\0 < sg.length/\sg.length<=10:=by
  have:k=0\/k=1\/k=2\/k=3\/k=4\/k=5:=by omega
  rcases this with rfl | rfl | rfl | rfl | rfl | rfl
  ·exact ⟨_,rfl,by trivial,by trivial⟩
  ·exact ⟨_,rfl,by trivial,by trivial⟩
  ·exact ⟨_,rfl,by trivial,by trivial⟩
  ·exact ⟨_,rfl,by trivial,by trivial⟩
  ·exact ⟨_,rfl,by trivial,by trivial⟩
  ·exact ⟨_,rfl,by trivial,by trivial⟩
 refine bH (SqL.of hl) esg ?_
 walk_at "n"
 have hp1:=S1 _ _ hp
 clear hl nl esg
 obtain ⟨n0,rfl⟩:∃ n0:Nat,m0=(n0:Int):=⟨m0.toNat,by omega⟩
 with_reducible refine v8 (fun U G=>Same H1 G/\∃ z:Str,z.length<=300/\U=[some (.int k),some (.ref p),some (.str sg),some (.str z),none]) ?_ ?_
 rotate_left
 ·intro N hN
  walk_at "s"
  refine ⟨rfl,?_⟩
  walk_at "s"
  refine bH (SqL.of hp1) (dX e0 rfl) ?_
  walk_at "s"
  refine rP hp1 fun c H2 nc S2 hc=>?_
  walk_at "s"
  obtain ⟨us,eus,hus,hul⟩:=oO (ms:=ms) (a:=3) (b:=3+n0)
  rw [show (3:Int)+(n0:Int)=((3+n0:Nat):Int) by omega,show (some (3:Int))=some ((3:Nat):Int) from rfl,eus] at hc
  refine .inl ⟨c,rfl,⟨_,SqL.of hc⟩,?_⟩
  refine aU (xs:=us.map V.int) (fun i zs G=>G=H2/\∃ ws:List Str,zs=ws.map V.str/\ws.length=i/\∀ x∈ws,x.length<=1) (by rw [List.length_map];omega) ⟨rfl,[],rfl,rfl,fun x h=>by cases h⟩ ?_ ?_ ?_ ?_
  ·rintro i zs G ⟨_,ws,rfl,h,_⟩
   rw [List.length_map];omega
  ·rintro i zs G ⟨rfl,_⟩
   exact SqL.of hc
  ·rintro i zs G v hv ⟨rfl,ws,rfl,hwl,hws⟩
   rw [List.getElem?_map] at hv
   obtain ⟨x,ex,rfl⟩:=Option.map_eq_some_iff.mp hv
   have a1:=Int.emod_nonneg x (show (sg.length:Int)≠0 by omega)
   have a2:=Int.emod_lt_of_pos x (show (0:Int) < (sg.length:Int) by omega)
   obtain ⟨d,hd⟩:=Ii a1 a2
   walk_at "s"
   refine ⟨KeepSt.set rfl,?_⟩
   walk_at "s"
   refine f9 (by omega) ?_
   walk_at "s"
   refine nF (x:=sg) (by omega) hd ?_
   walk_at "s"
   exact ⟨rfl,qO hwl hws (Nat.le_of_eq (vU d))⟩
  ·rintro zs G D H3 ⟨rfl,ws,rfl,hwl,hws⟩ nD S3 hD
   rw [List.length_map] at hwl
   try walk_at "s"
   refine nU hD (by have:=pB hws;rw [show (Str.ofString "").length=0 by trivial];omega) ?_
   walk_at "s"
   have:=oN (sep:=Str.ofString "") hws
   rw [show (Str.ofString "").length=0 by trivial] at this
   exact hN _ _ ⟨S2.trans S3,_,by omega,rfl⟩
 rintro U G ⟨sG,z,hzl,rfl⟩
 have hpG:=sG _ _ hp1
 walk_at "n"
 with_reducible refine v8 (fun U G'=>Same H1 G'/\∃ (z:Str) (x4:Option V),z.length<=300/\U=[some (.int k),some (.ref p),some (.str sg),some (.str z),x4]) ?_ ?_
 rotate_left
 ·intro N hN
  walk_at "s"
  refine o6 (fun h=>?_) (fun h=>?_)
  rotate_left
  ·walk_at "s"
   exact hN _ _ ⟨sG,z,_,hzl,rfl⟩
  walk_at "s"
  refine bH (SqL.of hpG) (dX e1 rfl) ?_
  walk_at "s"
  refine o6 (fun h=>?_) (fun h=>?_)
  rotate_left
  ·walk_at "s"
   exact hN _ _ ⟨sG,z,_,hzl,rfl⟩
  walk_at "s"
  refine ⟨rfl,?_⟩
  walk_at "s"
  refine bH (SqL.of hpG) (dX e0 rfl) ?_
  walk_at "s"
  refine rP hpG fun c H2 nc S2 hc=>?_
  walk_at "s"
  obtain ⟨us,eus,hus,hul⟩:=oO (ms:=ms) (a:=3) (b:=4+n0)
  rw [show (4:Int)+(n0:Int)=((4+n0:Nat):Int) by omega,show (some (3:Int))=some ((3:Nat):Int) from rfl,eus] at hc
  refine .inl ⟨c,rfl,⟨_,SqL.of hc⟩,?_⟩
  refine aU (xs:=us.map V.int) (fun i zs G=>G=H2/\∃ ws:List Str,zs=ws.map V.str/\ws.length=i/\∀ x∈ws,x.length<=13) (by rw [List.length_map];omega) ⟨rfl,[],rfl,rfl,fun x h=>by cases h⟩ ?_ ?_ ?_ ?_
  ·rintro i zs G ⟨_,ws,rfl,h,_⟩
   rw [List.length_map];omega
  ·rintro i zs G ⟨rfl,_⟩
   exact SqL.of hc
  ·rintro i zs G v hv ⟨rfl,ws,rfl,hwl,hws⟩
   rw [List.getElem?_map] at hv
   obtain ⟨x,ex,rfl⟩:=Option.map_eq_some_iff.mp hv
   obtain ⟨a,ea,ha⟩:∃ a:Nat,x % 20=(a:Int)/\a < 20:=⟨(x % 20).toNat,by omega,by omega⟩
   obtain ⟨b,eb,hb⟩:∃ b:Nat,x / 20 % 11000=(b:Int)/\b < 11000:=⟨(x / 20 % 11000).toNat,by omega,by omega⟩
   have la:=vp (n:=a) (by omega)
   have lb:=vp (n:=b) (by omega)
   walk_at "s"
   refine ⟨KeepSt.set rfl,?_⟩
   walk_at "s"
   rw [ea]
   refine ⟨a,rfl,lU (by omega),?_⟩
   walk_at "s"
   refine eZ (by rw [iQ];omega) ?_
   walk_at "s"
   rw [eb]
   refine ⟨b,rfl,lU (by omega),?_⟩
   walk_at "s"
   refine eZ (by rw [aO,iQ];omega) ?_
   walk_at "s"
   exact ⟨rfl,qO hwl hws (by rw [aO,aO,iQ];omega)⟩
  ·rintro zs G2 D H3 ⟨rfl,ws,rfl,hwl,hws⟩ nD S3 hD
   rw [List.length_map] at hwl
   try walk_at "s"
   refine nU hD (by have:=pB hws;rw [cj];omega) ?_
   walk_at "s"
   have:=oN (sep:=Str.ofString ",") hws
   rw [cj] at this
   exact hN _ _ ⟨sG.trans (S2.trans S3),_,_,by omega,rfl⟩
 clear hzl sG hpG
 rintro U G ⟨sG,z,x4,hzl,rfl⟩
 have hpG:=sG _ _ hp1
 walk_at "n"
 with_reducible refine v8 (fun U G'=>Same H1 G'/\∃ (z:Str) (x4:Option V),z.length<=300/\U=[some (.int k),some (.ref p),some (.str sg),some (.str z),x4]) ?_ ?_
 rotate_left
 ·intro N hN
  walk_at "s"
  refine o6 (fun h=>?_) (fun h=>?_)
  rotate_left
  ·walk_at "s"
   exact hN _ _ ⟨sG,z,_,hzl,rfl⟩
  walk_at "s"
  refine bH (SqL.of hpG) (dX e1 rfl) ?_
  walk_at "s"
  refine o6 (fun h=>?_) (fun h=>?_)
  rotate_left
  ·walk_at "s"
   exact hN _ _ ⟨sG,z,_,hzl,rfl⟩
  walk_at "s"
  refine bH (SqL.of hpG) (dX e0 rfl) ?_
  walk_at "s"
  refine rP hpG fun c H2 nc S2 hc=>?_
  walk_at "s"
  obtain ⟨us,eus,hus,hul⟩:=oO (ms:=ms) (a:=3) (b:=6+n0)
  rw [show (6:Int)+(n0:Int)=((6+n0:Nat):Int) by omega,show (some (3:Int))=some ((3:Nat):Int) from rfl,eus] at hc
  refine .inl ⟨c,rfl,⟨_,SqL.of hc⟩,?_⟩
  refine aU (xs:=us.map V.int) (fun i zs G=>G=H2/\∃ ws:List Str,zs=ws.map V.str/\ws.length=i/\∀ x∈ws,x.length<=13) (by rw [List.length_map];omega) ⟨rfl,[],rfl,rfl,fun x h=>by cases h⟩ ?_ ?_ ?_ ?_
  ·rintro i zs G ⟨_,ws,rfl,h,_⟩
   rw [List.length_map];omega
  ·rintro i zs G ⟨rfl,_⟩
   exact SqL.of hc
  ·rintro i zs G v hv ⟨rfl,ws,rfl,hwl,hws⟩
   rw [List.getElem?_map] at hv
   obtain ⟨x,ex,rfl⟩:=Option.map_eq_some_iff.mp hv
   obtain ⟨a,ea,ha⟩:∃ a:Nat,x % 20=(a:Int)/\a < 20:=⟨(x % 20).toNat,by omega,by omega⟩
   obtain ⟨b,eb,hb⟩:∃ b:Nat,x / 20 % 30=(b:Int)/\b < 11000:=⟨(x / 20 % 30).toNat,by omega,by omega⟩
   have la:=vp (n:=a) (by omega)
   have lb:=vp (n:=b) (by omega)
   walk_at "s"
   refine ⟨KeepSt.set rfl,?_⟩
   walk_at "s"
   rw [ea]
   refine ⟨a,rfl,lU (by omega),?_⟩
   walk_at "s"
   refine eZ (by rw [iQ];omega) ?_
   walk_at "s"
   rw [eb]
   refine ⟨b,rfl,lU (by omega),?_⟩
   walk_at "s"
   refine eZ (by rw [aO,iQ];omega) ?_
   walk_at "s"
   exact ⟨rfl,qO hwl hws (by rw [aO,aO,iQ];omega)⟩
  ·rintro zs G2 D H3 ⟨rfl,ws,rfl,hwl,hws⟩ nD S3 hD
   rw [List.length_map] at hwl
   obtain ⟨w0,w1,wr,rfl⟩:∃ w0 w1 wr,ws=w0 :: w1 :: wr:=by
    match ws,(show 2<=ws.length by omega) with
    | w0 :: w1 :: wr,_=>exact ⟨w0,w1,wr,rfl⟩
   have l0:=hws w0 (by simp)
   have l1:=hws w1 (by simp)
   have lr:∀ x∈wr,x.length<=13:=fun x hx=>hws x (by simp [hx])
   rw [List.length_cons,List.length_cons] at hwl
   try walk_at "s"
   refine bH (SqL.of hD) (fQ (j:=0) rfl) ?_
   walk_at "s"
   refine eZ (by rw [cj];omega) ?_
   walk_at "s"
   refine bH (SqL.of hD) (fQ (j:=1) rfl) ?_
   walk_at "s"
   refine eZ (by rw [aO,cj];omega) ?_
   walk_at "s"
   refine eZ (by rw [aO,aO,cj,pC];omega) ?_
   walk_at "s"
   refine ⟨rfl,?_⟩
   walk_at "s"
   refine rP hD fun e H4 ne S4 he=>?_
   walk_at "s"
   replace he:H4 e=some (.lst (wr.map V.str)):=by
    rw [he,show (some (2:Int))=some ((2:Nat):Int) from rfl,rQ];rfl
   refine nU he (by have:=pB lr;rw [cj];omega) ?_
   walk_at "s"
   have:=oN (sep:=Str.ofString ",") lr
   rw [cj] at this
   refine eZ (by rw [aO,aO,aO,cj,pC];omega) ?_
   walk_at "s"
   exact hN _ _ ⟨sG.trans (S2.trans (S3.trans S4)),_,_,by rw [aO,aO,aO,aO,cj,pC];omega,rfl⟩
 clear hzl sG hpG x4
 rintro U G ⟨sG,z,x4,hzl,rfl⟩
 have hpG:=sG _ _ hp1
 walk_at "n"
 with_reducible refine v8 (fun U G'=>Same H1 G'/\∃ (z:Str) (x4:Option V),z.length<=300/\U=[some (.int k),some (.ref p),some (.str sg),some (.str z),x4]) ?_ ?_
 rotate_left
 ·intro N hN
  walk_at "s"
  refine o6 (fun h=>?_) (fun h=>?_)
  rotate_left
  ·walk_at "s"
   exact hN _ _ ⟨sG,z,_,hzl,rfl⟩
  walk_at "s"
  refine bH (SqL.of hpG) (dX e1 rfl) ?_
  walk_at "s"
  refine o6 (fun h=>?_) (fun h=>?_)
  rotate_left
  ·walk_at "s"
   exact hN _ _ ⟨sG,z,_,hzl,rfl⟩
  walk_at "s"
  refine ⟨rfl,?_⟩
  walk_at "s"
  refine rP hpG fun c H2 nc S2 hc=>?_
  walk_at "s"
  obtain ⟨us,eus,hus,hul⟩:=oO (ms:=ms) (a:=3) (b:=6)
  rw [show (some (6:Int))=some ((6:Nat):Int) from rfl,show (some (3:Int))=some ((3:Nat):Int) from rfl,eus] at hc
  refine .inl ⟨c,rfl,⟨_,SqL.of hc⟩,?_⟩
  refine aU (xs:=us.map V.int) (fun i zs G=>Same H2 G/\∃ ws:List Str,zs=ws.map V.str/\ws.length=i/\∀ x∈ws,x.length<=3) (by rw [List.length_map];omega) ⟨Same.refl H2,[],rfl,rfl,fun x h=>by cases h⟩ ?_ ?_ ?_ ?_
  ·rintro i zs G ⟨_,ws,rfl,h,_⟩
   rw [List.length_map];omega
  ·rintro i zs G ⟨s,_⟩
   exact SqL.of (s _ _ hc)
  ·rintro i zs G v hv ⟨s,ws,rfl,hwl,hws⟩
   rw [List.getElem?_map] at hv
   obtain ⟨x,ex,rfl⟩:=Option.map_eq_some_iff.mp hv
   obtain ⟨v,hv,e⟩:=uf (vs:=CHS.map V.str) (d:=x % 8) (by omega) (by show x % 8 < 8;omega)
   obtain ⟨w,hw,rfl⟩:=List.mem_map.mp hv
   have lw:w.length<=3:=by
    have:∀ w∈CHS,w.length<=3:=by trivial
    exact this w hw
   walk_at "s"
   refine ⟨KeepSt.set rfl,?_⟩
   walk_at "s"
   refine aJ rfl fun l G2 nl S3 hl=>?_
   walk_at "s"
   refine bH (SqL.of hl) e ?_
   walk_at "s"
   exact ⟨s.trans S3,qO hwl hws lw⟩
  ·rintro zs G2 D H3 ⟨s,ws,rfl,hwl,hws⟩ nD S3 hD
   rw [List.length_map] at hwl
   try walk_at "s"
   refine nU hD (by have:=pB hws;rw [cj];omega) ?_
   walk_at "s"
   have:=oN (sep:=Str.ofString ",") hws
   rw [cj] at this
   exact hN _ _ ⟨sG.trans (S2.trans (s.trans S3)),_,_,by omega,rfl⟩
 clear hzl sG hpG x4
 rintro U G ⟨sG,z,x4,hzl,rfl⟩
 walk_at "s"
 exact q z G hzl (S1.trans sG)
theorem wJ:cF b8 "_law_text_here":=by trivial
theorem wK:cF b8 "_law_spoilt":=by trivial
theorem wL:cF b8 "_law_numbers_here":=by trivial
theorem Mu:cF b8 "_law_kind":=by trivial
theorem Mv:cF b8 "_law_place":=by trivial
theorem kz4l:bU b8 "len":=by trivial
theorem kz4m:bU b8 "_law_text":=by trivial
theorem xP {x:Str} {n:Nat} (h:x.length<=3) (hn:n<=1000):MulOk x (n:Int):=by
 have h1:x.length*n<=3*1000:=Nat.mul_le_mul h hn
 refine ⟨?_,fun a b=>?_,fun a b=>?_⟩
 ·simp;omega
 ·have:((x.length:Int))<=(2 ^ 63 - 1) / (n:Int):=by
   rw [Int.le_ediv_iff_mul_le (by omega)]
   have:((x.length*n:Nat):Int)<=10000:=by omega
   push_cast at this
   omega
  omega
 ·have e:Int.toNat (n:Int)=n:=by omega
  rw [e]
  have hs2:sizeLine=16777216:=sizeLine_eq
  unfold Builtin.Str.tooLong
  rw [hs2]
  simp
  omega
theorem Hj:PyData.strOk (Str.ofString "-")=true:=by trivial
theorem oR {H:Hp} {v:V} (h:Jq v (.str (Str.ofString "-"))=true) (hn:v≠.str (Str.ofString "-")):QH K H v:=fun H' s Q q=>.inl (.inl (.inl (.inl (.inl ⟨h,by rw [decide_eq_false hn];exact q⟩))))
theorem sH {H:Hp} {v:V} {d:PyData} (h:DR H d v) (hs:PySem.SeqAt.shaped d=true) (he:PyData.eqv d (.str (Str.ofString "-"))=false):QH K H v:=fun H' s Q q=>.inl (.inl (.inl (BX (DR.same s _ _ h) (dm.mpr rfl) hs (rO (n:=0) (nQ Hj) (by omega)) (by rw [he];exact q))))
theorem wM {H:Hp} {a:Addr} {kvs:List (Key×V)} (h:H a=some (.dK kvs)):QH K H (.ref a):=fun H' s Q q=>.inr ⟨a,kvs,_,rfl,rfl,s _ _ h,q⟩
def FV (v:V):Prop:=gD v=true\/∃ r,v= .ref r
def TLS:List Str:=["",",",":","/","0","-","9"," "]
def Hk (K:W.Frag):Sp:=fun vs H Q _=>∃ (k:Int) (p:Addr) (ms:List Int),vs=[.int k,.ref p]/\0<=k/\k < 6/\H p=some (.lst (ms.map V.int))/\Fits ms BS/\∀ v H',Same H H'->TH K H' v/\FV v->Q v H'
theorem iM:aK ["_law_kind","_law_numbers_here","_law_text_here","_law_place","_law_spoilt"] ["_law_kind","_law_numbers_here"] (ak b8):=⟨rfl,rfl,rfl,by trivial,rfl,by trivial,by trivial⟩
theorem lL (T:Txt w K mg):p8 P w K mg base 2 "_law_thing" ["_law_kind","_law_numbers_here"] (Hk K):=by
 have mW:=mW (P:=P) (w:=w) (base:=base) T
 refine jB T.d_law_thing iM (fun _ _ _ _ _ _ us hl=>L2.oU (fun _ _=>rfl) us hl) ?_ fun f cdv A outer s H vs Q E hr h=>?_
 ·rintro vs H Q E ⟨k,p,ms,rfl,_⟩;rfl
 obtain ⟨k,p,ms,rfl,hk0,hk1,hp,hF,q⟩:=h
 have hu:=hr.units0
 have hu64:=hr.units
 refine ⟨_,(aq (bw (i:=2) iM.nd rfl (Or.inl wJ) (bj mW (hr.mono (by decide)) (bG kz4m) (aa (ao 0 Mu) (aa (ao 1 wL) aj)) (by trivial)) rfl) (aq (bw (i:=3) iM.nd rfl (Or.inl Mv) (aZ bW (cJ (K:=K) rfl (ao 1 wL) az) (aZ aV (aM (aQ (K:=K) rfl) (bG kz4l) T.b_len cu (aa (ao 2 wJ) aj) (by trivial) (by trivial)) az)) rfl) (aq (bw (i:=4) iM.nd rfl (Or.inl wK) (cJ (K:=K) rfl (ao 1 wL) az) rfl) (aq (aX (aH (aN (K:=K) rfl hu64) (ao 4 wK) az (by walk_at "p")) (aA (aF (aZ aV (aZ aV (d9 (eU (K:=K) rfl) (ao 2 wJ) jk (cW (ao 3 Mv))) (cJ (K:=K) rfl aD (aZ bW (cJ (K:=K) rfl (ao 1 wL) az) az))) (d9 (eU (K:=K) rfl) (ao 2 wJ) (cW (ao 3 Mv)) jk)))) aP) (aq (aX (aH (aN (K:=K) rfl hu64) (ao 4 wK) az (by walk_at "p")) (aA (aF (aZ aV (ao 2 wJ) (ao 2 wJ)))) aP) (aq (aX (fY (iV (aH (aN (K:=K) rfl hu64) (ao 4 wK) az (by walk_at "p")) (iK (aH (aN (K:=K) rfl hu64) (ao 0 Mu) az (by walk_at "p"))))) (aA (aF (aZ aV (aZ gB aD az) (aZ gB aD (aZ aV az (aZ bW (cJ (K:=K) rfl (ao 1 wL) az) az)))))) aP) (aq (aX (fY (iV (aH (aN (K:=K) rfl hu64) (ao 4 wK) az (by walk_at "p")) (iK (aH (aN (K:=K) rfl hu64) (ao 0 Mu) az (by walk_at "p"))))) (aA (aF (fc (K:=K) rfl PySem.F.plainAttrs_str PySem.F.slot_str_join PySem.F.type_str_join (lC (K:=K) rfl) aD (aa (aZ gB (bA (aa aD aj)) (aZ aV az (aZ bW (cJ (K:=K) rfl (ao 1 wL) az) az))) aj)))) aP) (aq (aX (aH (aN (K:=K) rfl hu64) (ao 4 wK) az (by walk_at "p")) (aA (aF (aZ aV (ao 2 wJ) (cJ (K:=K) rfl (bA (aa aD (aa aD (aa aD (aa aD (aa aD (aa aD (aa aD (aa aD aj))))))))) (aZ bW (cJ (K:=K) rfl (ao 1 wL) az) az))))) aP) (aq (aX (aH (aN (K:=K) rfl hu64) (ao 4 wK) az (by walk_at "p")) (aA (aF (cJ (K:=K) rfl (bA (aa jj (aa az (aa (bA (aa aD aj)) (aa (gG (aa aD aj)) (aa FJ (aa iU (aa (bA aj) (aa az (aa (BP (nH aD az BL) rfl rfl (by simp) (by decide)) aj)))))))))) (aZ bW (cJ (K:=K) rfl (ao 1 wL) az) az)))) aP) (aq (aX (aH (aN (K:=K) rfl hu64) (ao 4 wK) az (by walk_at "p")) (aA (aF aD)) aP) (aA (aF (ao 2 wJ))))))))))))),?_⟩
 walk_at "s"
 have hz:20000<=sizeLine:=by decide
 obtain ⟨m1,e1,m10,m11⟩:=hF.at_ (i:=1) rfl
 obtain ⟨m2,e2,m20,m21⟩:=hF.at_ (i:=2) rfl
 refine ⟨k,p,ms,rfl,hk0,hk1,hp,hF,fun z H1 hzl S1=>?_⟩
 walk_at "s"
 have hp1:=S1 _ _ hp
 refine bH (SqL.of hp1) (dX e2 rfl) ?_
 walk_at "s"
 refine f9 (by omega) ?_
 walk_at "s"
 obtain ⟨pl,ek⟩:∃ k:Nat,m2 % ((z.length:Int)+1)=k:=⟨_,(Int.toNat_of_nonneg (Int.emod_nonneg _ (by omega))).symm⟩
 rw [ek]
 refine bH (SqL.of hp1) (dX e1 rfl) ?_
 walk_at "s"
 have txt:∀ (x:Str) H',x.length<=1000->Same H1 H'->Q (.str x) H':=fun x H' hx S=>q _ H' (S1.trans S) ⟨.inl ⟨x,rfl,hx⟩,.inl rfl⟩
 have lsl:=fun lo hi=>Txt.slice_le z lo hi
 refine o6 (fun h4=>?_) (fun h4=>?_)
 ·walk_at "s"
  have l1:=lsl none (some (pl:Int))
  have l2:=lsl (some (pl:Int)) none
  refine ph (by omega) ?_
  walk_at "s"
  refine bH (SqL.of hp1) (dX e2 rfl) ?_
  walk_at "s"
  obtain ⟨c,hc⟩:=Ii (z:=Str.ofString "+ \nx_,,::") (d:=m2 % 9) (by omega) (by rw [show (Str.ofString "+ \nx_,,::").length=9 by trivial];omega)
  refine nF (x:=Str.ofString "+ \nx_,,::") (Nat.le_trans (show (Str.ofString "+ \nx_,,::").length<=100 by trivial) (by omega)) hc ?_
  walk_at "s"
  refine eZ (by rw [vU];omega) ?_
  walk_at "s"
  refine ph (by omega) ?_
  walk_at "s"
  refine eZ (by rw [aO,vU];omega) ?_
  walk_at "s"
  exact txt _ H1 (by rw [aO,aO,vU];omega) (Same.refl H1)
 walk_at "s"
 refine o6 (fun h5=>?_) (fun h5=>?_)
 ·walk_at "s"
  refine eZ (by omega) ?_
  walk_at "s"
  exact txt _ H1 (by rw [aO];omega) (Same.refl H1)
 walk_at "s"
 by_cases h7:m1=7
 ·subst h7
  rw [decide_eq_true (rfl:V.int 7=V.int 7)]
  walk_at "s"
  refine o6 (fun hk=>?_) (fun hk=>?_)
  ·walk_at "s"
   refine xq (xP (n:=15) (by trivial) (by omega)) ?_
   walk_at "s"
   refine bH (SqL.of hp1) (dX e2 rfl) ?_
   walk_at "s"
   obtain ⟨a,ea,ha⟩:∃ a:Nat,1+m2 % 5=(a:Int)/\a<=5:=⟨(1+m2 % 5).toNat,by omega,by omega⟩
   rw [ea]
   refine xq (xP (n:=a) (by trivial) (by omega)) ?_
   walk_at "s"
   have la:(Txt.mul (Str.ofString "z") (a:Int)).length<=5:=by
    have:=Fe (x:=Str.ofString "z") (n:=(a:Int)) (by omega)
    rw [show (Str.ofString "z").length=1 by trivial] at this
    omega
   have lb:(Txt.mul (Str.ofString "ab.") 15).length=45:=by trivial
   refine eZ (by rw [lb];omega) ?_
   walk_at "s"
   exact txt _ H1 (by rw [aO,lb];omega) (Same.refl H1)
  walk_at "s"
  rw [decide_eq_true (rfl:V.int 7=V.int 7)]
  walk_at "s"
  refine o6 (fun hk=>?_) (fun hk=>?_)
  ·walk_at "s"
   refine ⟨rfl,?_⟩
   walk_at "s"
   refine aJ rfl fun l H2 nl S2 hl=>?_
   walk_at "s"
   refine bH (SqL.of (S2 _ _ hp1)) (dX e2 rfl) ?_
   walk_at "s"
   obtain ⟨a,ea,ha⟩:∃ a:Nat,45+m2 % 8=(a:Int)/\a<=52:=⟨(45+m2 % 8).toNat,by omega,by omega⟩
   rw [ea]
   refine xx hl (by omega) (by omega) (by simp;omega) fun b nb=>?_
   walk_at "s"
   rw [show ((a:Int)).toNat=a by omega,show (List.replicate a [V.str (Str.ofString "=a")]).flatten=(List.replicate a (Str.ofString "=a")).map V.str by
    clear ea ha
    induction a with
    | zero=>rfl
    | succ a ih=>rw [List.replicate_succ,List.flatten_cons,ih];rfl]
   have hws:∀ x∈List.replicate a (Str.ofString "=a"),x.length<=2:=fun x hx=>by rw [(List.mem_replicate.mp hx).2];trivial
   have h1:=pB hws
   have h2:=oN (sep:=Str.ofString ",") hws
   rw [List.length_replicate] at h1 h2
   rw [cj] at h2
   refine nU (ys:=List.replicate a (Str.ofString "=a")) au (by rw [cj,List.length_replicate];omega) ?_
   walk_at "s"
   exact txt _ _ (by omega) (S2.upd nb)
  walk_at "s"
  rw [decide_eq_true (rfl:V.int 7=V.int 7)]
  walk_at "s"
  refine aJ rfl fun l H2 nl S2 hl=>?_
  walk_at "s"
  refine bH (SqL.of (S2 _ _ hp1)) (dX e2 rfl) ?_
  walk_at "s"
  obtain ⟨v,hv,e⟩:=uf (vs:=TLS.map V.str) (d:=m2 % 8) (by omega) (by show m2 % 8 < 8;omega)
  obtain ⟨w,hw,rfl⟩:=List.mem_map.mp hv
  have lw:w.length<=1:=by
   have:∀ w∈TLS,w.length<=1:=by trivial
   exact this w hw
  refine bH (SqL.of hl) e ?_
  walk_at "s"
  refine eZ (by omega) ?_
  walk_at "s"
  exact txt _ _ (by rw [aO];omega) S2
 have d7:decide (V.int m1=V.int 7)=false:=decide_eq_false fun e=>h7 (V.int.inj e)
 rw [d7]
 walk_at "s"
 rw [d7]
 walk_at "s"
 rw [d7]
 walk_at "s"
 refine o6 (fun h8=>?_) (fun h8=>?_)
 ·walk_at "s"
  refine aJ rfl fun p1 H2 n1 S2 a1=>?_
  walk_at "s"
  refine aJ rfl fun p2 H3 n2 S3 a2=>?_
  walk_at "s"
  intro p3 n3
  have S4:=(Same.refl H3).upd n3 (o:=.dK [])
  have a3:=au (H:=H3) (a:=p3) (o:=.dK [])
  generalize upd H3 p3 (.dK [])=H4 at S4 a3 ⊢
  walk_at "s"
  refine aJ rfl fun p5 H5 n5 S5 a5=>?_
  walk_at "s"
  refine By fun p4 n4=>?_
  refine ⟨au,[(Sum.inr (Str.ofString "-"),.int 1)],rfl,by decide,?_⟩
  have S6:Same H5 (upd (upd H5 p4 (.dK [])) p4 (.dK (jq [] [(Sum.inr (Str.ofString "-"),.int 1)]))):=Same.put ((Same.refl H5).upd n4) n4
  have a4:=au (H:=upd H5 p4 (.dK [])) (a:=p4) (o:=.dK (jq [] [(Sum.inr (Str.ofString "-"),.int 1)]))
  generalize upd (upd H5 p4 (.dK [])) p4 (.dK (jq [] [(Sum.inr (Str.ofString "-"),.int 1)]))=H6 at S6 a4 ⊢
  walk_at "s"
  refine aJ rfl fun B H7 nB S7 aB=>?_
  walk_at "s"
  have U5:=S6.trans S7
  have U4:=S5.trans U5
  have U3:=S4.trans U4
  have U2:=S3.trans U3
  have U1:=S2.trans U2
  replace a1:=U2 _ _ a1
  replace a2:=U3 _ _ a2
  replace a3:=U4 _ _ a3
  replace a5:=U5 _ _ a5
  replace a4:=S7 _ _ a4
  refine bH (SqL.of (U1 _ _ hp1)) (dX e2 rfl) ?_
  walk_at "s"
  obtain ⟨v,hv,ev⟩:=uf (vs:=[V.non,.int 5,.ref p1,.ref p2,.ref p3,.bl true,.ref p5,.int 0,.ref p4]) (d:=m2 % 9) (by omega) (by show m2 % 9 < 9;omega)
  refine bH (SqL.of aB) ev ?_
  walk_at "s"
  refine q _ _ (S1.trans U1) ?_
  simp only [List.mem_cons,List.mem_nil_iff,or_false] at hv
  rcases hv with rfl | rfl | rfl | rfl | rfl | rfl | rfl | rfl | rfl
  ·exact ⟨.inr ⟨⟨"NoneType",.non,rfl⟩,oR rfl (fun e=>by cases e)⟩,.inl rfl⟩
  ·exact ⟨.inr ⟨⟨"int",.int _,rfl⟩,oR rfl (fun e=>by cases e)⟩,.inl rfl⟩
  ·exact ⟨.inr ⟨⟨"list",.lst a1,rfl⟩,sH (d:=.list [.str (Str.ofString "0")]) (bV.mpr ⟨p1,_,rfl,a1,cL (dm.mpr rfl)⟩) (by trivial) rfl⟩,.inr ⟨_,rfl⟩⟩
  ·exact ⟨.inr ⟨⟨"tuple",.tup a2,rfl⟩,sH (d:=.tuple [.str (Str.ofString "-")]) (lu.mpr ⟨p2,_,rfl,a2,cL (dm.mpr rfl)⟩) (by trivial) rfl⟩,.inr ⟨_,rfl⟩⟩
  ·exact ⟨.inr ⟨⟨"dict",.dK a3,rfl⟩,wM a3⟩,.inr ⟨_,rfl⟩⟩
  ·exact ⟨.inr ⟨⟨"bool",.bl _,rfl⟩,oR rfl (fun e=>by cases e)⟩,.inl rfl⟩
  ·exact ⟨.inr ⟨⟨"list",.lst a5,rfl⟩,sH (d:=.list []) (bV.mpr ⟨p5,_,rfl,a5,dq.mpr rfl⟩) (by trivial) rfl⟩,.inr ⟨_,rfl⟩⟩
  ·exact ⟨.inr ⟨⟨"int",.int _,rfl⟩,oR rfl (fun e=>by cases e)⟩,.inl rfl⟩
  ·exact ⟨.inr ⟨⟨"dict",.dK a4,rfl⟩,wM a4⟩,.inr ⟨_,rfl⟩⟩
 walk_at "s"
 refine o6 (fun h10=>?_) (fun h10=>?_)
 ·walk_at "s"
  exact txt _ H1 (by trivial) (Same.refl H1)
 walk_at "s"
 exact txt _ H1 (by omega) (Same.refl H1)
theorem kz4n:bU bh "NoChanges":=by trivial
theorem Hl:cF bh "e":=by trivial
theorem Hm:cF bh "_law_thing_here":=by trivial
theorem Mw:cF bh "_law_which":=by trivial
theorem kz4r:bU bh "NoRow":=by trivial
theorem kz4s:bU bh "row_word":=by trivial
theorem kz4t:bU bh "changes_word":=by trivial
def Qq (K:W.Frag):Sp:=fun vs H Q _=>∃ (n:Int) (v:V) (d:PyData),vs=[.int n,v]/\DR H d v/\PySem.SeqAt.shaped d=true/\((n=0/\((∃ z,v= .str z/\z.length<=1000/\mJ z=false)\/NotS K H v))\/(n=1/\Pj K H v false))/\∀ H',Same H H'->Q (.bl true) H'
theorem gA:aK ["_law_which","_law_thing_here","e"] ["_law_which","_law_thing_here"] (ak bh):=⟨rfl,rfl,rfl,by trivial,rfl,by trivial,by trivial⟩
theorem eY (T:Txt w K mg):p8 P w K mg base 6 "_law_unwritten" ["_law_which","_law_thing_here"] (Qq K):=by
 have mO:=mO (P:=P) (w:=w) (base:=base) T
 have jc:=jc (P:=P) (w:=w) (base:=base) T
 refine jB T.d_law_unwritten gA (fun _ _ _ _ _ _ us hl=>L2.oU (fun _ _=>rfl) us hl) ?_ fun f cdv A outer s H vs Q E hr h=>?_
 ·rintro vs H Q E ⟨n,v,d,rfl,_⟩;rfl
 obtain ⟨n,v,d,rfl,hd,hs,hv,q⟩:=h
 have hu:=hr.units0
 have hu64:=hr.units
 refine ⟨_,(aA (yu rfl rfl (fun pins R=>(aA (aX (aH (aN (K:=K) rfl hu64) (ao 0 Mw) az (by walk_at "p")) (aA (cX (bI mO (hr.mono (by decide)) (bG kz4s) rK (aa (ao 1 Hm) aj) (by trivial)))) (aA (cX (bI jc (hr.mono (by decide)) (bG kz4t) rK (aa (ao 1 Hm) aj) (by trivial))))))) (Cm (K:=K) (i:=2) rfl T.x_NoRow.c (bG kz4r) (by trivial) gA.nd rfl Hl (fun x=>(aA (aF (pM (fX (aN (K:=K) rfl hu64) (ao 0 Mw) az (by walk_at "p")) (nG (fX (aN (K:=K) rfl hu64) (xJ (K:=K) rfl (ao 2 Hl)) (ao 1 Hm) (by walk_at "p"))))))) (Cm (K:=K) (i:=2) rfl T.x_NoChanges.c (bG kz4n) (by trivial) gA.nd rfl Hl (fun x=>(aA (aF (pM (fX (aN (K:=K) rfl hu64) (ao 0 Mw) az (by walk_at "p")) (nG (fX (aN (K:=K) rfl hu64) (xJ (K:=K) rfl (ao 2 Hl)) (ao 1 Hm) (by walk_at "p"))))))) Ck)) (aA (aF iU)))),?_⟩
 walk_at "s"
 rcases hv with ⟨rfl,hv⟩ | ⟨rfl,hv⟩
 ·rw [decide_eq_true (rfl:V.int 0=V.int 0)]
  walk_at "s"
  refine ⟨v,rfl,hv,fun e H1 S1 X1=>⟨_,e,rfl,rfl,?_⟩⟩
  refine Cp T.x_NoRow.c.cl.cls T.u_NoRow_NoRow.mro ?_
  walk_at "s"
  rw [decide_eq_true (rfl:V.int 0=V.int 0)]
  show if true=true then _ else _
  walk_at "s"
  refine ⟨e,_,_,v,rfl,X1,T.x_NoRow.c.cl.cls,T.x_NoRow.na _ (by simp),rfl,?_⟩
  walk_at "s"
  refine .inl (.inl (vX (DR.same S1 _ _ hd) (DR.same S1 _ _ hd) hs ?_))
  walk_at "s"
  exact q H1 S1
 ·rw [decide_eq_false (show ¬ V.int 1=V.int 0 by decide)]
  walk_at "s"
  refine ⟨v,rfl,hv,fun e H1 S1 X1=>⟨_,e,rfl,rfl,?_⟩⟩
  refine OJ T.x_NoChanges.c.cl.cls T.u_NoChanges_NoRow.mro ?_
  refine Cp T.x_NoChanges.c.cl.cls T.u_NoChanges_NoChanges.mro ?_
  walk_at "s"
  rw [decide_eq_true (rfl:V.int 1=V.int 1)]
  show if true=true then _ else _
  walk_at "s"
  refine ⟨e,_,_,v,rfl,X1,T.x_NoChanges.c.cl.cls,T.x_NoChanges.na _ (by simp),rfl,?_⟩
  walk_at "s"
  refine .inl (.inl (vX (DR.same S1 _ _ hd) (DR.same S1 _ _ hd) hs ?_))
  walk_at "s"
  exact q H1 S1
end
local macro_rules | `(tactic| walk_at "s") => `(tactic| (with_reducible repeat (first | refine ue ?_ | walk_at "2")))
local macro_rules | `(tactic| walk_at "n") => `(tactic| (with_reducible repeat (walk_at "2")))
section
variable {P:Program} {w:World} {K:W.Frag} {mg:Str->Option Value} {base:Heap}
theorem aS:Str.ofString "a"=⟨#[97]⟩:=by trivial
theorem bS:Str.ofString "b"=⟨#[98]⟩:=by trivial
theorem AS:Str.ofString "A"=⟨#[65]⟩:=by trivial
theorem pS:Str.ofString "."=⟨#[46]⟩:=by trivial
theorem yI {H:Hp} {v:V} {b:Bool} (h:CI K H v b):CIs K H [v] [b]:=⟨rfl,fun i w c e1 e2=>by
 match i,e1,e2 with
 | 0,e1,e2=>cases e1;cases e2;exact h
 | i+1,e1,_=>cases e1⟩
theorem Hn {H:Hp} {v u:V} {b d:Bool} (h:CI K H v b) (h2:CI K H u d):CIs K H [v,u] [b,d]:=⟨rfl,fun i w c e1 e2=>by
 match i,e1,e2 with
 | 0,e1,e2=>cases e1;cases e2;exact h
 | 1,e1,e2=>cases e1;cases e2;exact h2
 | i+2,e1,_=>cases e1⟩
theorem Ho {H:Hp} {v:V} (n:Nat) (h:CI K H v true):CIs K H (List.replicate n v) (List.replicate n true):=⟨by simp,fun i w c e1 e2=>by
 rw [(List.mem_replicate.mp (List.mem_of_getElem? e1)).2,(List.mem_replicate.mp (List.mem_of_getElem? e2)).2];exact h⟩
theorem yJ {H:Hp} {v:V} {d:PyData} (h:DR H d v):∀ n:Nat,DRs H (List.replicate n d) (List.replicate n v)
 | 0=>dq.mpr rfl
 | n+1=>by rw [List.replicate_succ,List.replicate_succ];exact cZ.mpr ⟨_,_,rfl,h,yJ h n⟩
theorem xQ {H:Hp} {t:Addr} {k:Str} {ls:List Nat} (ht:H t=some (.tup (vq k ls))) (hl:ls.length<=1000):CI K H (.ref t) (isC k ls):=.inl ⟨t,k,ls,rfl,ht,hl,rfl⟩
theorem pG {H:Hp} {p t:Addr} {k:Str} {ls:List Nat} (hp:H p=some (.lst [.ref t])) (ht:H t=some (.tup (vq k ls))) (hl:ls.length<=1000) (hb:isC k ls=false):Pj K H (.ref p) false:=
 .inl ⟨p,_,_,rfl,hp,by simp,yI (hb ▸ xQ ht hl),rfl⟩
theorem pH {H:Hp} {p t:Addr} {k:Str} {ls:List Nat} (hp:H p=some (.lst [.ref t])) (ht:H t=some (.tup (vq k ls))):DR H (.list [cD k ls]) (.ref p):=bV.mpr ⟨p,_,rfl,hp,cL (su ht)⟩
structure Bad (H:Hp) (q1 q2 q3 q4 q5 q6 q7 q8 q9 q11 q13 q14 q15 q16 q17 q18 q19 q20 q21 q22:Addr):Prop where
 h1:H q1=some (.tup [])
 h2:H q2=some (.tup (vq (Str.ofString "keep") [97]))
 h3:H q3=some (.tup (vq (Str.ofString "keep") []))
 h4:H q4=some (.lst [.ref q3])
 h5:H q5=some (.lst [.str (Str.ofString "in"),.str (Str.ofString "a")])
 h6:H q6=some (.lst [.ref q5])
 h7:H q7=some (.tup (vq (Str.ofString "change") [97,97]))
 h8:H q8=some (.lst [.ref q7])
 h9:H q9=some (.tup (vq (Str.ofString "in") [97]))
 h11:H q11=some (.lst (List.replicate 49 (.ref q9)))
 h13:H q13=some (.tup (vq (Str.ofString "out") [65]))
 h14:H q14=some (.lst [.ref q13])
 h15:H q15=some (.tup (vq (Str.ofString "keep") [97]))
 h16:H q16=some (.lst [.ref q15,.non])
 h17:H q17=some (.tup (vq (Str.ofString "in") [97,98]))
 h18:H q18=some (.lst [.ref q17])
 h19:H q19=some (.tup (vq (Str.ofString "swap") [97]))
 h20:H q20=some (.lst [.ref q19])
 h21:H q21=some (.tup (vq (Str.ofString "out") [46]))
 h22:H q22=some (.lst [.ref q21])
theorem Hq {H:Hp} {q1 q2 q3 q4 q5 q6 q7 q8 q9 q11 q13 q14 q15 q16 q17 q18 q19 q20 q21 q22:Addr} {v:V} (B:Bad H q1 q2 q3 q4 q5 q6 q7 q8 q9 q11 q13 q14 q15 q16 q17 q18 q19 q20 q21 q22)
  (hv:v∈[V.non,.ref q1,.ref q2,.ref q4,.ref q6,.ref q8,.ref q11,.ref q14,.ref q16,.str (Str.ofString "=a"),.ref q18,.ref q20,.ref q22]):∃ d,DR H d v/\PySem.SeqAt.shaped d=true/\Pj K H v false:=by
 simp only [List.mem_cons,List.mem_nil_iff,or_false] at hv
 rcases hv with rfl | rfl | rfl | rfl | rfl | rfl | rfl | rfl | rfl | rfl | rfl | rfl | rfl
 ·exact ⟨.none,jl.mpr rfl,by trivial,.inr ⟨rfl,"NoneType",.non,rfl⟩⟩
 ·exact ⟨.tuple [],lu.mpr ⟨_,_,rfl,B.h1,dq.mpr rfl⟩,by trivial,.inr ⟨rfl,"tuple",.tup B.h1,rfl⟩⟩
 ·exact ⟨_,su B.h2,by trivial,.inr ⟨rfl,"tuple",.tup B.h2,rfl⟩⟩
 ·exact ⟨_,pH B.h4 B.h3,by trivial,pG B.h4 B.h3 (by decide) (by trivial)⟩
 ·exact ⟨.list [.list [.str (Str.ofString "in"),.str (Str.ofString "a")]],bV.mpr ⟨_,_,rfl,B.h6,cL (bV.mpr ⟨_,_,rfl,B.h5,cZ.mpr ⟨_,_,rfl,dm.mpr rfl,cL (dm.mpr rfl)⟩⟩)⟩,by trivial,.inl ⟨_,_,_,rfl,B.h6,by simp,yI (.inr ⟨rfl,"list",.lst B.h5,rfl⟩),rfl⟩⟩
 ·exact ⟨_,pH B.h8 B.h7,by trivial,pG B.h8 B.h7 (by decide) (by trivial)⟩
 ·refine ⟨.list (List.replicate 49 (cD (Str.ofString "in") [97])),bV.mpr ⟨_,_,rfl,B.h11,yJ (su B.h9) 49⟩,by trivial,.inl ⟨_,_,_,rfl,B.h11,by simp,Ho 49 ?_,by simp⟩⟩
  have:=xQ (K:=K) B.h9 (by decide)
  rw [show isC (Str.ofString "in") [97]=true by trivial] at this
  exact this
 ·exact ⟨_,pH B.h14 B.h13,by trivial,pG B.h14 B.h13 (by decide) (by trivial)⟩
 ·refine ⟨.list [cD (Str.ofString "keep") [97],.none],bV.mpr ⟨_,_,rfl,B.h16,cZ.mpr ⟨_,_,rfl,su B.h15,cL (jl.mpr rfl)⟩⟩,by trivial,.inl ⟨_,_,_,rfl,B.h16,by simp,Hn (xQ B.h15 (by decide)) (.inr ⟨rfl,"NoneType",.non,rfl⟩),?_⟩⟩
  simp
 ·exact ⟨.str (Str.ofString "=a"),dm.mpr rfl,by trivial,.inr ⟨rfl,"str",.str _,rfl⟩⟩
 ·exact ⟨_,pH B.h18 B.h17,by trivial,pG B.h18 B.h17 (by decide) (by trivial)⟩
 ·exact ⟨_,pH B.h20 B.h19,by trivial,pG B.h20 B.h19 (by decide) (by trivial)⟩
 ·exact ⟨_,pH B.h22 B.h21,by trivial,pG B.h22 B.h21 (by decide) (by trivial)⟩
theorem kz4u:bU dO "range":=by trivial
theorem kz4v:bU dO "min":=by trivial
theorem kz4w:bU dO "max":=by trivial
theorem kz4x:bU dO "len":=by trivial
theorem Qs:cF dO "_law_script":=by trivial
theorem Hr:cF dO "_law_k":=by trivial
theorem Qt:bU dO "_law_unwritten":=by trivial
theorem Mx:cF dO "_law_bad":=by trivial
theorem Dy:cF dO "_law_numbers_here":=by trivial
theorem Qu:cF dO "_law_rows":=by trivial
theorem Qv:bU dO "_law_told":=by trivial
theorem Dz:cF dO "_law_thing_here":=by trivial
theorem zY:cF dO "_law_kind":=by trivial
theorem Qw:bU dO "_law_due":=by trivial
theorem kz58:bU dO "_law_thing":=by trivial
theorem kz59:bU dO "_law_numbers":=by trivial
theorem Mz:cF dO "_law_cell_here":=by trivial
theorem kz5b:bU dO "_law_cell":=by trivial
theorem MF {z:Str} (h:mJ z=true):PyData.strOk z=true:=by
 unfold PyData.strOk
 rw [← Array.all_toList,List.all_eq_true]
 intro c hc
 unfold mJ at h
 rw [Bool.and_eq_true] at h
 have hg:=of_decide_eq_true (List.all_eq_true.mp h.2 c hc)
 have:∀ c∈GOOD,c < 128:=by trivial
 have:=this c hg
 exact decide_eq_true (by omega)
theorem lV {f:Str->Option PyData} {n c:Nat} {z:Str} {d:PyData} (hf:∀ y,((f y).getD .none).canLay0=true/\((f y).getD .none).depth<=n) (h:lists c f z=some d):d.canLay0=true/\d.depth<=n+1:=by
 rw [gK] at h
 have:=wI hf (sJ c z)
 rw [h] at this
 exact this
theorem Hs {k:Int} {z:Str} {d:PyData} (h:out k z=some d):d.canLay0=true/\d.depth<=3:=by
 unfold out at h
 split at h
 ·split at h
  ·cases h;exact gw (nQ (by trivial)) (by omega)
  ·split at h
   ·rename_i hr
    cases h;exact gw (nQ (MF hr.1)) (by omega)
   ·cases h
 ·split at h
  ·have:=vf z
   rw [h] at this
   exact gw this (by omega)
  ·split at h
   ·exact gw (lV vf h) (by omega)
   ·split at h
    ·exact gw (lV vg h) (by omega)
    ·split at h
     ·exact lV Dp h
     ·split at h
      ·cases h
      ·exact gw (lV Dr h) (by omega)
theorem MJ {k:Int} {v:V} {d:PyData} (h:oV k v=some d):d.canLay0=true/\d.depth<=3:=by
 cases v with
 | str z=>exact Hs h
 | _=>cases h
theorem DG {H:Hp} {Q:VK} {p q:Addr} {v:V} {o:Option PyData} (hv:FV v) (ho:∀ d,o=some d->d.canLay0=true/\d.depth<=3) (h1:OutR H p v o) (h2:OutR H q v o) (h:Q (.bl false) H):K9 K (.ref p) (.ref q) H Q:=by
 cases o with
 | none=>
  exact La h1 h2 (fun x hx=>by
   rcases List.mem_cons.mp hx with rfl | hx
   ·exact .inl rfl
   ·rw [List.mem_singleton.mp hx];exact hv) h
 | some d=>
  obtain ⟨u1,a1,d1⟩:=h1
  obtain ⟨u2,a2,d2⟩:=h2
  refine .inl (.inl (.inl (BW (d:=.list [.bool true,d]) (bV.mpr ⟨p,_,rfl,a1,cZ.mpr ⟨_,_,rfl,uR.mpr rfl,cL d1⟩⟩) (bV.mpr ⟨q,_,rfl,a2,cZ.mpr ⟨_,_,rfl,uR.mpr rfl,cL d2⟩⟩) (rO (n:=4) (v7 (n:=3) fun e he=>?_) (by omega)) h)))
  rcases List.mem_cons.mp he with rfl | he
  ·exact gw (n:=0) ⟨rfl,by decide⟩ (by omega)
  ·rw [List.mem_singleton.mp he];exact ho d rfl
theorem OutR.same {H H':Hp} {p:Addr} {v:V} {o:Option PyData} (h:OutR H p v o) (s:Same H H'):OutR H' p v o:=by
 cases o with
 | none=>exact s _ _ h
 | some d=>obtain ⟨u,a,b⟩:=h;exact ⟨u,s _ _ a,DR.same s _ _ b⟩
theorem Ht {H H':Hp} {a:Addr} {xs:List V} (h:SqL K H a xs) (s:Same H H'):SqL K H' a xs:=by
 rcases h with (h | ⟨o,h⟩) | h
 ·exact .inl (.inl (s _ _ h))
 ·exact .inl (.inr ⟨o,s _ _ h⟩)
 ·exact .inr h
theorem mm30 (n:Nat):∃ j:Nat,(if (if (n:Int) > 6 then (n:Int) else 6) < 30 then (if (n:Int) > 6 then (n:Int) else 6) else 30)=(j:Int)/\j<=30:=by
 by_cases h:(n:Int) > 6
 ·rw [if_pos h]
  by_cases h2:(n:Int) < 30
  ·rw [if_pos h2];exact ⟨n,rfl,by omega⟩
  ·rw [if_neg h2];exact ⟨30,rfl,by omega⟩
 ·rw [if_neg h,if_pos (by decide)];exact ⟨6,rfl,by omega⟩
theorem Hu {H:Hp} {o1 o2:Addr} {v:V} (h1:H o1=some (.lst [.str (Str.ofString "a")])) (h2:H o2=some (.tup [.str (Str.ofString "a")])) (hv:v∈[V.str (Str.ofString "A"),.str (Str.ofString "a b"),.non,.str (Txt.mul (Str.ofString "a") 49),.ref o1,.int 7,.str (Str.ofString "a,b"),.str (Str.ofString "-"),.bl true,.ref o2]):
  ∃ d,DR H d v/\PySem.SeqAt.shaped d=true/\((∃ z,v= .str z/\z.length<=1000/\mJ z=false)\/NotS K H v):=by
 simp only [List.mem_cons,List.mem_nil_iff,or_false] at hv
 rcases hv with rfl | rfl | rfl | rfl | rfl | rfl | rfl | rfl | rfl | rfl
 ·exact ⟨.str (Str.ofString "A"),dm.mpr rfl,by trivial,.inl ⟨_,rfl,by trivial,by trivial⟩⟩
 ·exact ⟨.str (Str.ofString "a b"),dm.mpr rfl,by trivial,.inl ⟨_,rfl,by trivial,by trivial⟩⟩
 ·exact ⟨.none,jl.mpr rfl,by trivial,.inr ⟨"NoneType",.non,rfl⟩⟩
 ·exact ⟨.str (Txt.mul (Str.ofString "a") 49),dm.mpr rfl,by trivial,.inl ⟨_,rfl,by trivial,by trivial⟩⟩
 ·exact ⟨.list [.str (Str.ofString "a")],bV.mpr ⟨_,_,rfl,h1,cL (dm.mpr rfl)⟩,by trivial,.inr ⟨"list",.lst h1,rfl⟩⟩
 ·exact ⟨.int 7,mH.mpr rfl,by trivial,.inr ⟨"int",.int _,rfl⟩⟩
 ·exact ⟨.str (Str.ofString "a,b"),dm.mpr rfl,by trivial,.inl ⟨_,rfl,by trivial,by trivial⟩⟩
 ·exact ⟨.str (Str.ofString "-"),dm.mpr rfl,by trivial,.inl ⟨_,rfl,by trivial,by trivial⟩⟩
 ·exact ⟨.bool true,uR.mpr rfl,by trivial,.inr ⟨"bool",.bl _,rfl⟩⟩
 ·exact ⟨.tuple [.str (Str.ofString "a")],lu.mpr ⟨_,_,rfl,h2,cL (dm.mpr rfl)⟩,by trivial,.inr ⟨"tuple",.tup h2,rfl⟩⟩
def Ij (K:W.Frag):Sp:=fun vs H Q _=>∃ (a:Addr) (ns:List Int),vs=[.ref a]/\SqL K H a (ns.map V.int)/\ns.length<=63/\∀ H',Q (.bl true) H'
theorem lM:aK ["_law_script","_law_k","_law_cell_here","_law_kind","_law_numbers_here","_law_thing_here","_law_rows","_law_bad"] ["_law_script"] (ak dO):=⟨rfl,rfl,rfl,by trivial,rfl,by trivial,by trivial⟩
theorem MK (T:Txt w K mg) {f0:Addr} {fd0:FuncData} (F0:Fun K "law" "law" dO f0 fd0):oX P w K mg base zj 8 f0 fd0 ["_law_script"] (Ij K):=by
 have mU:=mU (P:=P) (w:=w) (base:=base) T
 have jz:=jz (P:=P) (w:=w) (base:=base) T
 have lL:=lL (P:=P) (w:=w) (base:=base) T
 have eY:=eY (P:=P) (w:=w) (base:=base) T
 have jU:=jU (P:=P) (w:=w) (base:=base) T
 have lR:=lR (P:=P) (w:=w) (base:=base) T
 refine okJ F0 lM ?_ fun f cdv A outer s H vs Q E hr h=>?_
 ·rintro vs H Q E ⟨a,ns,rfl,_⟩;rfl
 obtain ⟨a,ns,rfl,hS,hlen,q⟩:=h
 have hu:=hr.units0
 have hu64:=hr.units
 refine ⟨_,(aq (rE PassesOwn.never rfl (zA (bG kz4u) T.b_range (aa (aM (yS rfl) (bG kz4v) T.b_min Kq (aa az (aa (aM (yR rfl) (bG kz4w) T.b_max Kp (aa az (aa (aM (aQ (K:=K) rfl) (bG kz4x) T.b_len cu (aa (ao 0 Qs) aj) (by trivial) (by trivial)) aj)) (by trivial) (by trivial)) aj)) (by trivial) (by trivial)) aj)) (nJ (i:=1) lM.nd rfl (Or.inl Hr) rfl) (aq (bw (i:=2) lM.nd rfl (Or.inl Mz) (bj mU (hr.mono (by decide)) (bG kz5b) (aa (ao 0 Qs) (aa (ao 1 Hr) aj)) (by trivial)) rfl) (aq (bw (i:=3) lM.nd rfl (Or.inl zY) (aZ bW (aZ aV (ao 2 Mz) (ao 1 Hr)) az) rfl) (aq (bw (i:=4) lM.nd rfl (Or.inl Dy) (bj jz (hr.mono (by decide)) (bG kz59) (aa (aZ aV (aZ mZ (ao 2 Mz) az) (ao 1 Hr)) (aa (aZ aV (bA (aa az (aa az (aa az aj)))) (aZ gB (bA (aa az aj)) az)) (aa az aj))) (by trivial)) rfl) (aq (bw (i:=5) lM.nd rfl (Or.inl Dz) (bj lL (hr.mono (by decide)) (bG kz58) (aa (ao 3 zY) (aa (ao 4 Dy) aj)) (by trivial)) rfl) (aq (aX (fY (lq (aH (Cz (K:=K) rfl hu64) (bj jU (hr.mono (by decide)) (bG Qv) (aa (ao 3 zY) (aa (ao 5 Dz) aj)) (by trivial)) (bj lR (hr.mono (by decide)) (bG Qw) (aa (ao 3 zY) (aa (ao 5 Dz) aj)) (by trivial)) (by walk_at "p")) (jM (aH (Cz (K:=K) rfl hu64) (bj jU (hr.mono (by decide)) (bG Qv) (aa (ao 3 zY) (aa (ao 5 Dz) aj)) (by trivial)) (bj lR (hr.mono (by decide)) (bG Qw) (aa (ao 3 zY) (aa (ao 5 Dz) aj)) (by trivial)) (by walk_at "p"))))) (aA (aF iU)) aP) (aq (bw (i:=6) lM.nd rfl (Or.inl Qu) (bA (aa aD (aa aD (aa jj (aa (aZ gB aD az) (aa (bA (aa aD aj)) (aa az (aa aD (aa aD (aa iU (aa (gG (aa aD aj)) aj))))))))))) rfl) (aq (aX (gb (iy (bj eY (hr.mono (by decide)) (bG Qt) (aa az (aa (cJ (K:=K) rfl (ao 6 Qu) (aZ bW (cJ (K:=K) rfl (ao 4 Dy) az) az)) aj)) (by trivial)))) (aA (aF iU)) aP) (aq (bw (i:=7) lM.nd rfl (Or.inl Mx) (bA (aa jj (aa (gG aj) (aa (gG (aa aD (aa aD aj))) (aa (bA (aa (gG (aa aD aj)) aj)) (aa (bA (aa (bA (aa aD (aa aD aj))) aj)) (aa (bA (aa (gG (aa aD (aa aD (aa aD aj)))) aj)) (aa (aZ gB (bA (aa (gG (aa aD (aa aD aj))) aj)) az) aj)))))))) rfl) (aq (cX (fc (K:=K) rfl PySem.F.plainAttrs_list PySem.F.slot_list_extend PySem.F.type_list_extend zc (ao 7 Mx) (aa (bA (aa (bA (aa (gG (aa aD (aa aD aj))) aj)) (aa (bA (aa (gG (aa aD (aa aD aj))) (aa jj aj))) (aa aD (aa (bA (aa (gG (aa aD (aa aD (aa aD aj)))) aj)) (aa (bA (aa (gG (aa aD (aa aD aj))) aj)) (aa (bA (aa (gG (aa aD (aa aD aj))) aj)) aj))))))) aj))) (aA (aX (gb (iy (bj eY (hr.mono (by decide)) (bG Qt) (aa az (aa (cJ (K:=K) rfl (ao 7 Mx) (aZ bW (aZ aV (cJ (K:=K) rfl (ao 4 Dy) az) (cJ (K:=K) rfl (ao 4 Dy) az)) az)) aj)) (by trivial)))) (aA (aF iU)) aP)))))))))))) (aA (aF iU))),?_⟩
 walk_at "s"
 have hz:20000<=sizeLine:=by decide
 refine lg hS ?_
 walk_at "s"
 rw [List.length_map]
 obtain ⟨j,ej,hj⟩:=mm30 ns.length
 rw [ej]
 refine ⟨_,rfl,by omega,by omega,?_⟩
 rw [show ((j:Int)).toNat=j by omega]
 refine yP (n:=j) (fun _ U G=>Same H G/\∃ (x1 x2 x3 x4 x5 x6 x7:Option V),U=[some (.ref a),x1,x2,x3,x4,x5,x6,x7]) ⟨Same.refl H,_,_,_,_,_,_,_,rfl⟩ ?_ ?_
 ·rintro i U G hi ⟨s,x1,x2,x3,x4,x5,x6,x7,rfl⟩
  rw [Int.zero_add]
  walk_at "s"
  refine ⟨a,ns,i,rfl,Ht hS s,fun c=>?_⟩
  walk_at "s"
  obtain ⟨k,ek⟩:∃ k,(c+(i:Int)) % 6=k:=⟨_,rfl⟩
  rw [ek]
  have hk0:0<=k/\k < 6:=by omega
  clear ek
  try walk_at "s"
  refine aJ rfl fun b1 G1 n1 S1 hb1=>?_
  walk_at "s"
  refine aJ rfl fun b2 G2 n2 S2 hb2=>?_
  walk_at "s"
  refine xx hb2 (by omega) (by omega) (by show 1*9<=sizeLine;omega) fun b3 n3=>?_
  walk_at "s"
  have S3:=(Same.refl G2).upd n3 (o:=.lst (List.replicate (9:Int).toNat [V.int 4003]).flatten)
  have hb3:=au (H:=G2) (a:=b3) (o:=.lst (List.replicate (9:Int).toNat [V.int 4003]).flatten)
  generalize upd G2 b3 (.lst (List.replicate (9:Int).toNat [V.int 4003]).flatten)=G3 at S3 hb3 ⊢
  walk_at "s"
  refine Bw (S3 _ _ (S2 _ _ hb1)) hb3 (by show 3+9<=sizeLine;omega) fun b4 n4=>?_
  walk_at "s"
  have S4:=(Same.refl G3).upd n4 (o:=.lst (BS.map V.int))
  have hb4:upd G3 b4 (.lst (BS.map V.int)) b4=some (.lst (BS.map V.int)):=au
  have hG:upd G3 b4 (.lst ([V.int 9,V.int 11,V.int 997] ++ (List.replicate (9:Int).toNat [V.int 4003]).flatten))=upd G3 b4 (.lst (BS.map V.int)):=rfl
  rw [hG]
  generalize upd G3 b4 (.lst (BS.map V.int))=G4 at S4 hb4 ⊢
  walk_at "s"
  refine ⟨_,b4,BS,2147483587,rfl,hb4,by decide,by decide,by decide,by decide,fun nm ms G5 nnm S5 hnm hF=>?_⟩
  walk_at "s"
  refine ⟨k,nm,ms,rfl,hk0.1,hk0.2,hnm,hF,fun v G6 S6 ⟨hT,hfv⟩=>?_⟩
  walk_at "s"
  have U6:=s.trans (S1.trans (S2.trans (S3.trans (S4.trans (S5.trans S6)))))
  have hnm6:=S6 _ _ hnm
  have hlo:∀ d,oV k v=some d->d.canLay0=true/\d.depth<=3:=fun d h=>MJ h
  clear S1 S2 S3 S4 S5 S6 hb1 hb2 hb3 hb4 hG n1 n2 n3 n4 nnm hnm s
  refine ⟨k,v,rfl,hk0.1,hk0.2,hT,fun t1 G7 S7 ho1=>?_⟩
  walk_at "s"
  refine ⟨k,v,rfl,hk0.1,hk0.2,hT.same S7,fun t2 G8 S8 ho2=>?_⟩
  walk_at "s"
  refine DG hfv hlo (ho1.same S8) ho2 ?_
  walk_at "s"
  have U8:=S7.trans S8
  refine ⟨k,v,rfl,hk0.1,hk0.2,hT.same U8,fun t3 G9 S9 ho3=>?_⟩
  walk_at "s"
  refine ⟨k,v,rfl,hk0.1,hk0.2,hT.same (U8.trans S9),fun t4 GA SA ho4=>?_⟩
  walk_at "s"
  refine DG hfv hlo (ho3.same SA) ho4 ?_
  walk_at "s"
  have UA:=U6.trans (U8.trans (S9.trans SA))
  have hnmA:=(U8.trans (S9.trans SA)) _ _ hnm6
  obtain ⟨m1,e1,m10,m11⟩:=hF.at_ (i:=1) rfl
  obtain ⟨m2,e2,m20,m21⟩:=hF.at_ (i:=2) rfl
  clear hlo ho1 ho2 ho3 ho4 S7 S8 S9 SA U8 U6 hT hfv
  refine xq (xP (n:=49) (by trivial) (by omega)) ?_
  walk_at "s"
  refine aJ rfl fun o1 J1 no1 SJ1 fo1=>?_
  walk_at "s"
  refine aJ rfl fun o2 J2 no2 SJ2 fo2=>?_
  walk_at "s"
  refine aJ rfl fun o3 J3 no3 SJ3 fo3=>?_
  walk_at "s"
  have UR:Same GA J3:=SJ1.trans (SJ2.trans SJ3)
  replace fo1:=(SJ2.trans SJ3) _ _ fo1
  replace fo2:=SJ3 _ _ fo2
  refine bH (SqL.of (UR _ _ hnmA)) (dX e2 rfl) ?_
  walk_at "s"
  obtain ⟨rv,hrv,erv⟩:=uf (vs:=[V.str (Str.ofString "A"),.str (Str.ofString "a b"),.non,.str (Txt.mul (Str.ofString "a") 49),.ref o1,.int 7,.str (Str.ofString "a,b"),.str (Str.ofString "-"),.bl true,.ref o2]) (d:=m2 % 10) (by omega) (by show m2 % 10 < 10;omega)
  refine bH (SqL.of fo3) erv ?_
  walk_at "s"
  obtain ⟨rd,hrd,hrs,hrb⟩:=Hu (K:=K) fo1 fo2 hrv
  refine ⟨0,rv,rd,rfl,hrd,hrs,.inl ⟨rfl,hrb⟩,fun JB SB=>?_⟩
  walk_at "s"
  clear fo1 fo2 fo3 erv hrv hrd hrs hrb
  refine aJ rfl fun q1 J1 nq1 SJ1 g1=>?_
  walk_at "s"
  refine aJ rfl fun q2 J2 nq2 SJ2 g2=>?_
  walk_at "s"
  refine aJ rfl fun q3 J3 nq3 SJ3 g3=>?_
  walk_at "s"
  refine aJ rfl fun q4 J4 nq4 SJ4 g4=>?_
  walk_at "s"
  refine aJ rfl fun q5 J5 nq5 SJ5 g5=>?_
  walk_at "s"
  refine aJ rfl fun q6 J6 nq6 SJ6 g6=>?_
  walk_at "s"
  refine aJ rfl fun q7 J7 nq7 SJ7 g7=>?_
  walk_at "s"
  refine aJ rfl fun q8 J8 nq8 SJ8 g8=>?_
  walk_at "s"
  refine aJ rfl fun q9 J9 nq9 SJ9 g9=>?_
  walk_at "s"
  refine aJ rfl fun q10 J10 nq10 SJ10 g10=>?_
  walk_at "s"
  refine xx g10 (by omega) (by omega) (by show 1*49<=sizeLine;omega) fun q11 nq11=>?_
  walk_at "s"
  have SJ11:=(Same.refl J10).upd nq11 (o:=.lst (List.replicate 49 (V.ref q9)))
  have g11:upd J10 q11 (.lst (List.replicate 49 (V.ref q9))) q11=some (.lst (List.replicate 49 (V.ref q9))):=au
  have hG:upd J10 q11 (.lst (List.replicate (49:Int).toNat [V.ref q9]).flatten)=upd J10 q11 (.lst (List.replicate 49 (V.ref q9))):=rfl
  rw [hG]
  clear hG
  generalize upd J10 q11 (.lst (List.replicate 49 (V.ref q9)))=J11 at SJ11 g11 ⊢
  walk_at "s"
  refine aJ rfl fun q12 J12 nq12 SJ12 g12=>?_
  walk_at "s"
  refine ⟨.inl ⟨rfl,_,SqL.of g12⟩,?_⟩
  walk_at "s"
  refine aJ rfl fun q13 J13 nq13 SJ13 g13=>?_
  walk_at "s"
  refine aJ rfl fun q14 J14 nq14 SJ14 g14=>?_
  walk_at "s"
  refine aJ rfl fun q15 J15 nq15 SJ15 g15=>?_
  walk_at "s"
  refine aJ rfl fun q16 J16 nq16 SJ16 g16=>?_
  walk_at "s"
  refine aJ rfl fun q17 J17 nq17 SJ17 g17=>?_
  walk_at "s"
  refine aJ rfl fun q18 J18 nq18 SJ18 g18=>?_
  walk_at "s"
  refine aJ rfl fun q19 J19 nq19 SJ19 g19=>?_
  walk_at "s"
  refine aJ rfl fun q20 J20 nq20 SJ20 g20=>?_
  walk_at "s"
  refine aJ rfl fun q21 J21 nq21 SJ21 g21=>?_
  walk_at "s"
  refine aJ rfl fun q22 J22 nq22 SJ22 g22=>?_
  walk_at "s"
  refine aJ rfl fun q23 J23 nq23 SJ23 g23=>?_
  walk_at "s"
  have V23:=Same.refl J23
  have V22:=SJ23.trans V23
  have V21:=SJ22.trans V22
  have V20:=SJ21.trans V21
  have V19:=SJ20.trans V20
  have V18:=SJ19.trans V19
  have V17:=SJ18.trans V18
  have V16:=SJ17.trans V17
  have V15:=SJ16.trans V16
  have V14:=SJ15.trans V15
  have V13:=SJ14.trans V14
  have V12:=SJ13.trans V13
  have V11:=SJ12.trans V12
  have V10:=SJ11.trans V11
  have V9:=SJ10.trans V10
  have V8:=SJ9.trans V9
  have V7:=SJ8.trans V8
  have V6:=SJ7.trans V7
  have V5:=SJ6.trans V6
  have V4:=SJ5.trans V5
  have V3:=SJ4.trans V4
  have V2:=SJ3.trans V3
  have V1:=SJ2.trans V2
  replace g1:=V1 _ _ g1
  replace g2:=V2 _ _ g2
  replace g3:=V3 _ _ g3
  replace g4:=V4 _ _ g4
  replace g5:=V5 _ _ g5
  replace g6:=V6 _ _ g6
  replace g7:=V7 _ _ g7
  replace g8:=V8 _ _ g8
  replace g9:=V9 _ _ g9
  replace g10:=V10 _ _ g10
  replace g11:=V11 _ _ g11
  replace g12:=V12 _ _ g12
  replace g13:=V13 _ _ g13
  replace g14:=V14 _ _ g14
  replace g15:=V15 _ _ g15
  replace g16:=V16 _ _ g16
  replace g17:=V17 _ _ g17
  replace g18:=V18 _ _ g18
  replace g19:=V19 _ _ g19
  replace g20:=V20 _ _ g20
  replace g21:=V21 _ _ g21
  replace g22:=V22 _ _ g22
  replace g23:=V23 _ _ g23
  have VB:Same JB J23:=SJ1.trans V1
  have nb12:JB q12=none:=Same.back (SJ1.trans (SJ2.trans (SJ3.trans (SJ4.trans (SJ5.trans (SJ6.trans (SJ7.trans (SJ8.trans (SJ9.trans (SJ10.trans SJ11)))))))))) nq12
  clear SJ1 SJ2 SJ3 SJ4 SJ5 SJ6 SJ7 SJ8 SJ9 SJ10 SJ11 SJ12 SJ13 SJ14 SJ15 SJ16 SJ17 SJ18 SJ19 SJ20 SJ21 SJ22 SJ23 V1 V2 V3 V4 V5 V6 V7 V8 V9 V10 V11 V12 V13 V14 V15 V16 V17 V18 V19 V20 V21 V22 V23 nq1 nq2 nq3 nq4 nq5 nq6 nq7 nq8 nq9 nq10 nq11 nq12 nq13 nq14 nq15 nq16 nq17 nq18 nq19 nq20 nq21 nq22 nq23
  refine ⟨q12,q23,_,_,rfl,rfl,g12,g23,(by show 7+6<=sizeLine;omega),?_⟩
  walk_at "s"
  have B:Bad (upd J23 q12 (.lst ([V.non,.ref q1,.ref q2,.ref q4,.ref q6,.ref q8,.ref q11] ++ [V.ref q14,.ref q16,.str (Str.ofString "=a"),.ref q18,.ref q20,.ref q22]))) q1 q2 q3 q4 q5 q6 q7 q8 q9 q11 q13 q14 q15 q16 q17 q18 q19 q20 q21 q22:=by
   rw [aS] at g2 g7 g9 g15 g17 g19
   rw [AS] at g13
   rw [bS] at g17
   rw [pS] at g21
   exact ⟨by rw [aG (fun z=>by rw [z,g12] at g1;cases g1)];exact g1,by rw [aG (fun z=>by rw [z,g12] at g2;cases g2)];exact g2,by rw [aG (fun z=>by rw [z,g12] at g3;cases g3)];exact g3,by rw [aG (fun z=>by rw [z,g12] at g4;cases g4)];exact g4,by rw [aG (fun z=>by rw [z,g12] at g5;cases g5)];exact g5,by rw [aG (fun z=>by rw [z,g12] at g6;cases g6)];exact g6,by rw [aG (fun z=>by rw [z,g12] at g7;cases g7)];exact g7,by rw [aG (fun z=>by rw [z,g12] at g8;cases g8)];exact g8,by rw [aG (fun z=>by rw [z,g12] at g9;cases g9)];exact g9,by rw [aG (fun z=>by rw [z,g12] at g11;cases g11)];exact g11,by rw [aG (fun z=>by rw [z,g12] at g13;cases g13)];exact g13,by rw [aG (fun z=>by rw [z,g12] at g14;cases g14)];exact g14,by rw [aG (fun z=>by rw [z,g12] at g15;cases g15)];exact g15,by rw [aG (fun z=>by rw [z,g12] at g16;cases g16)];exact g16,by rw [aG (fun z=>by rw [z,g12] at g17;cases g17)];exact g17,by rw [aG (fun z=>by rw [z,g12] at g18;cases g18)];exact g18,by rw [aG (fun z=>by rw [z,g12] at g19;cases g19)];exact g19,by rw [aG (fun z=>by rw [z,g12] at g20;cases g20)];exact g20,by rw [aG (fun z=>by rw [z,g12] at g21;cases g21)];exact g21,by rw [aG (fun z=>by rw [z,g12] at g22;cases g22)];exact g22⟩
  have VF:Same JB (upd J23 q12 (.lst ([V.non,.ref q1,.ref q2,.ref q4,.ref q6,.ref q8,.ref q11] ++ [V.ref q14,.ref q16,.str (Str.ofString "=a"),.ref q18,.ref q20,.ref q22]))):=Same.put VB nb12
  have gF:=au (H:=J23) (a:=q12) (o:=.lst ([V.non,.ref q1,.ref q2,.ref q4,.ref q6,.ref q8,.ref q11] ++ [V.ref q14,.ref q16,.str (Str.ofString "=a"),.ref q18,.ref q20,.ref q22]))
  generalize upd J23 q12 (.lst ([V.non,.ref q1,.ref q2,.ref q4,.ref q6,.ref q8,.ref q11] ++ [V.ref q14,.ref q16,.str (Str.ofString "=a"),.ref q18,.ref q20,.ref q22]))=JF at B VF gF ⊢
  have hnmF:=VF _ _ (SB _ _ (UR _ _ hnmA))
  clear g1 g2 g3 g4 g5 g6 g7 g8 g9 g10 g11 g12 g13 g14 g15 g16 g17 g18 g19 g20 g21 g22 g23 VB nb12
  walk_at "s"
  refine bH (SqL.of hnmF) (dX e1 rfl) ?_
  walk_at "s"
  refine bH (SqL.of hnmF) (dX e2 rfl) ?_
  walk_at "s"
  obtain ⟨bv,hbv,ebv⟩:=uf (vs:=[V.non,.ref q1,.ref q2,.ref q4,.ref q6,.ref q8,.ref q11,.ref q14,.ref q16,.str (Str.ofString "=a"),.ref q18,.ref q20,.ref q22]) (d:=(m1+m2) % 13) (by omega) (by show (m1+m2) % 13 < 13;omega)
  refine bH (SqL.of gF) ebv ?_
  walk_at "s"
  obtain ⟨bd,hbd,hbs,hbc⟩:=Hq (K:=K) B hbv
  refine ⟨1,bv,bd,rfl,hbd,hbs,.inr ⟨rfl,hbc⟩,fun JG SG=>?_⟩
  walk_at "s"
  exact ⟨UA.trans (UR.trans (SB.trans (VF.trans SG))),_,_,_,_,_,_,_,rfl⟩
 ·rintro U G ⟨s,x1,x2,x3,x4,x5,x6,x7,rfl⟩
  walk_at "s"
  exact q G
end
end My
namespace PySem.W.Fast
def tw4745900538361762789:=0
def tw11628922720190648943:=0
def tw10001756802559058915:=0
def tw7727811703116008956:=0
def tw1025195141386618120:=0
def tw155444890977983245:=0
def tw10496763337516068608:=0
def tw15625699440990309681:=0
def tw10812582538047893320:=0
def tw11444737141249372480:=0
def tw482908073641032355:=0
def tw17747570279993292300:=0
def tw9644060165532841715:=0
def tw9121991035463310006:=0
def tw577944518135924646:=0
def tw7480431151722117817:=0
def tw10631491365481955709:=0
def tw15448727308599667746:=0
def tw15163157311452957276:=0
def tw14141218013844611439:=0
def tw12999360867699759564:=0
def tw6660342218887050986:=0
def tw9572847248471104842:=0
def tw3343701110694739757:=0
def tw6531657882926364650:=0
def tw14387878616743555187:=0
def tw16990321213672704576:=0
def tw16798948754806745654:=0
def tw3838424343203441846:=0
def tw11080117672019495098:=0
def tw8096704337070653312:=0
def tw14323874899965103393:=0
def tw15354805821554748540:=0
def tw11424659634389811773:=0
def tw7425248072830179911:=0
def tw16403303951034977826:=0
def tw14966073173605829705:=0
def tw4793600314564469179:=0
def tw8710440039747236809:=0
def tw11164231915126297594:=0
def tw10975212936106159058:=0
def tw3472493712281100942:=0
def tw1664765871067339045:=0
def tw10448414356071333280:=0
def tw10421693650985162652:=0
def tw8983209077459916186:=0
def tw3049505218283636305:=0
def tw13075481033624433627:=0
def tw12321151319687385484:=0
def tw16153107883045972417:=0
def tw12435234450889062931:=0
def tw7815098676230250957:=0
def tw9335375368083093289:=0
def tw4903856595383063080:=0
def tw4237880704554906109:=0
def tw482183834979777720:=0
def tw220548111617445732:=0
def tw17146836075459896045:=0
def tw13496192573180997729:=0
def tw10222986518788739415:=0
def tw8734358998532657001:=0
def tw11851816967742977994:=0
def tw3119774042411456194:=0
def tw9938370590317859770:=0
def tw9324703774259962230:=0
def tw8169143195097727153:=0
def tw3560598829908351721:=0
def tw15750201215826344584:=0
def tw5192648248571695074:=0
def tw12602336678689018225:=0
def tw8918843700212280988:=0
def tw9427917758130631709:=0
def tw8430290860123335337:=0
def tw3689808973440417271:=0
def tw11702753395655072943:=0
def tw12147322272072307726:=0
def tw14566745600996143605:=0
def tw9621925621874170758:=0
def tw16314806891243511871:=0
def tw14905001764630504850:=0
def tw17165992128740630360:=0
def tw11424382583326620661:=0
def tw572018299019390829:=0
def tw13880989879262659431:=0
def tw14138068659892193895:=0
def tw12819863859711195126:=0
def tw11605533149209071950:=0
def tw17938882955425154861:=0
def tw13190434615744457622:=0
def tw7235795707226297466:=0
def tw7126924364311907858:=0
def tw15723667929704669870:=0
def tw3597686769030545648:=0
def tw6864145228310036963:=0
def tw12519598078787401069:=0
def tw12326486607769845254:=0
def tw16839770190931412665:=0
def tw11393669148020548693:=0
def tw5291671759646390403:=0
def tw15130287262352047230:=0
def tw17028639911499161065:=0
def tw10534920069624227343:=0
def tw2637471870611336231:=0
def tw9891373545969561593:=0
def tw15854337834798141928:=0
def tw16002087103655724039:=0
def tw5063842740244248376:=0
def tw11630543904486757466:=0
def tw2633386883225655240:=0
def tw6305831202694505596:=0
def tw13564365230946367613:=0
def tw15494813482512562289:=0
def tw2218584877509943493:=0
def tw3358774342277576643:=0
def tw15915562815417563995:=0
def tw3021467106763413052:=0
def tw8614444864280191185:=0
def tw2740406450568786327:=0
def tw9140458433627863956:=0
def tw7389868904472584619:=0
def tw1836535864280634646:=0
def tw13467651577699994776:=0
def tw2863982025896715842:=0
def tw17945043754257517947:=0
def tw12783289123191343187:=0
def tw2475149804530226045:=0
def tw8921224799937074502:=0
def tw9748416859393862667:=0
def tw16891398390952338264:=0
def tw18273042182710714492:=0
def tw8757430924113597905:=0
def tw7562762176464453921:=0
def tw6802071333781935305:=0
def tw6362432206304286353:=0
def tw9881754848453287705:=0
def tw2676275932797256460:=0
def tw7067268530490689468:=0
def tw16259117560339158453:=0
def tw14888891243023467995:=0
def tw14256916577865392753:=0
def tw12342830195011039087:=0
def tw7071937878161011895:=0
def tw12300117472887259644:=0
def tw7752950471758938774:=0
def tw1473871706677855711:=0
def tw13176105472507293433:=0
def tw1192558707414285436:=0
def tw10572940059612044879:=0
def tw11212416611496717595:=0
def tw8084449523124518030:=0
def tw15921740029442823059:=0
def tw13748678874364524339:=0
def tw4856903687904319521:=0
def tw1896460072554638811:=0
def tw11273814485741677904:=0
def tw2083303675717203631:=0
def tw3201226289842491482:=0
def tw4363205878518450928:=0
def tw10563637336293188541:=0
def tw15013673257890309384:=0
def tw17705054273537967614:=0
def tw10627243839868495259:=0
def tw1320396463972454941:=0
def tw2505000352862199961:=0
def tw520238949278045476:=0
def tw17180130578248433904:=0
def tw7595996349161626171:=0
def tw6238331250166778048:=0
def tw16247469576900733430:=0
def tw9676242714277642905:=0
def tw377727645044870910:=0
def tw16193266903567116430:=0
def tw13257416288953846940:=0
def tw293338322309340647:=0
def tw4912919136437137214:=0
def tw8314627489117874931:=0
def tw17995521723148031955:=0
def tw6547673779106565215:=0
def tw12182405728458410863:=0
def tw9494900353034048002:=0
def tw2943414987662831116:=0
def tw9167140207748176297:=0
def tw2610161690368934549:=0
def tw17247085482116171582:=0
def tw15405021183391875649:=0
def tw7244854276719760642:=0
def tw15564453212086009776:=0
def tw14437575028660539016:=0
def tw712818118193789290:=0
def tw9174640052823001657:=0
def tw11463796152506148328:=0
def tw11714946013263557106:=0
def tw4604320942268470830:=0
def tw3603693062117979149:=0
def tw1316317513198357302:=0
def tw1919040472125477518:=0
def tw3692680057639723607:=0
def tw14659855200939768139:=0
def tw1550173362960735739:=0
def tw17316608697065014553:=0
def tw5290765499231925931:=0
def tw10797187421580742207:=0
def tw13828652154028476394:=0
def tw3279509862556172870:=0
def tw9165713015133386304:=0
def tw932425855527895954:=0
def tw4962433635466866278:=0
def tw9427351220869624680:=0
def tw5361021310089485512:=0
def tw12410923855356818424:=0
def tw853319941539071095:=0
def tw13564135208979011176:=0
def tw1236058080528966602:=0
def tw16945380241807953785:=0
def tw7180952768103316421:=0
def tw4152238850462400596:=0
def tw17378388352090058364:=0
def tw14056344314609569557:=0
def tw9660473546051329570:=0
def tw11089841415749882357:=0
def tw12358632577161401178:=0
def tw8317910168293117619:=0
def tw8157600382772446030:=0
def tw1080654573725910885:=0
def tw15336595286765060770:=0
def tw306183711361594596:=0
def tw7088001629081794187:=0
def tw3185459830508703258:=0
def tw6029988370948066296:=0
def tw15087105548084168876:=0
def tw11900201843410783393:=0
def tw7381356485168448506:=0
def tw17730505255306658177:=0
def tw16886844013080837022:=0
def tw11457308970995358573:=0
def tw4062710813701084513:=0
def tw149473064127980794:=0
def tw1866947236635476125:=0
def tw3600979418898022923:=0
def tw14692048461045964835:=0
def tw10359850081288045499:=0
def tw129851529030543740:=0
def tw278291244714526175:=0
def tw9140628709271103643:=0
def tw1753887991605722594:=0
def tw9466414379949287:=0
def tw14414949448506840955:=0
def tw3315677026121880019:=0
def tw3754978364034607012:=0
def tw13321171755071257984:=0
def tw4662394624304641105:=0
def tw4709058914600021783:=0
def tw788975602601790330:=0
def tw2605419709735834120:=0
def tw6179170611943450601:=0
def tw18312218683913958063:=0
def tw3019374208753054525:=0
def tw6324662506416713527:=0
def tw12145967972641681768:=0
def tw11914255777107636080:=0
def tw9651908235447707417:=0
def tw129352781629440059:=0
def tw18186455382944780728:=0
def tw6318859353041758429:=0
def tw7081095219046845872:=0
def tw13247875942672105521:=0
def tw11934582841136360736:=0
def tw9487138254348832747:=0
def tw16325300288866648224:=0
def tw1086028632270706294:=0
def tw903413590058231706:=0
def tw3321131488344256604:=0
def tw14098608295604486141:=0
def tw5279408458453009334:=0
def tw3764449100343150608:=0
def tw3751496373807775488:=0
def tw6268511609958768102:=0
def tw17961925809727116597:=0
def tw3206709609109264019:=0
def tw7910296429881889653:=0
def tw16485841361691347062:=0
def tw6051768486182231908:=0
def tw15953728150730986729:=0
def tw12617214291034654710:=0
def tw16575824376838147277:=0
def tw5191440236870929000:=0
def tw17728752000694981197:=0
def tw15427027225803433695:=0
def tw1091271804937439286:=0
def tw6799309233559651889:=0
def tw2657388421097055661:=0
def tw3918073708016403087:=0
def tw1712725700892314971:=0
def tw18111592142109911982:=0
def tw758366330089665025:=0
end PySem.W.Fast
open PySem PySem.W PyProof.Rows
set_option maxRecDepth 100000 in
set_option maxHeartbeats 0 in
theorem PySem.Challenge.cw_panethread_k84_words_spoilt_holds : PySem.Challenge.rw_panethread_k84_words_spoilt.Holds := by
 w_on;o_law;k_head;(case hw=>w_witness2)
 k_fill
 refine L2.Oj (l:=PySem.Challenge.rw_panethread_k84_words_spoilt) (st:=My.dO) (k:=8) (x:="_law_script") (sp:=My.Ij) rfl rfl rfl ⟨rfl,by decide,by decide,rfl⟩ (fun w h Y=>PySem.W.kIn_of Y) (fun _ _ _ _ _ _ us hl=>L2.iJ (fun _=>rfl) us hl) ?F (fun K H a ns hl hS=>⟨a,ns,rfl,hS,hl,fun _=>rfl⟩)
 case F=>
  intro w mg h KX G
  have b_all:mg "all"=none:=by
   refine' PySem.W.mg_none_of KX G ?a
   (case a=>k_is)
  have b_int:mg "int"=none:=by
   refine' PySem.W.mg_none_of KX G ?a
   (case a=>k_is)
  have b_isinstance:mg "isinstance"=none:=by
   refine' PySem.W.mg_none_of KX G ?a
   (case a=>k_is)
  have b_len:mg "len"=none:=by
   refine' PySem.W.mg_none_of KX G ?a
   (case a=>k_is)
  have b_list:mg "list"=none:=by
   refine' PySem.W.mg_none_of KX G ?a
   (case a=>k_is)
  have b_max:mg "max"=none:=by
   refine' PySem.W.mg_none_of KX G ?a
   (case a=>k_is)
  have b_min:mg "min"=none:=by
   refine' PySem.W.mg_none_of KX G ?a
   (case a=>k_is)
  have b_range:mg "range"=none:=by
   refine' PySem.W.mg_none_of KX G ?a
   (case a=>k_is)
  have b_str:mg "str"=none:=by
   refine' PySem.W.mg_none_of KX G ?a
   (case a=>k_is)
  have b_tuple:mg "tuple"=none:=by
   refine' PySem.W.mg_none_of KX G ?a
   (case a=>k_is)
  have c_CHANGE:∃ t,mg "CHANGE"=some (.str "change" t):=by
   refine' L2.dG KX G ?a ?h
   (case a=>k_is);(case h=>exact ⟨_,by with_unfolding_all rfl⟩)
  have c_FIGURES:∃ t,mg "FIGURES"=some (.str "0123456789" t):=by
   refine' L2.dG KX G ?a ?h
   (case a=>k_is);(case h=>exact ⟨_,by with_unfolding_all rfl⟩)
  have c_IN:∃ t,mg "IN"=some (.str "in" t):=by
   refine' L2.dG KX G ?a ?h
   (case a=>k_is);(case h=>exact ⟨_,by with_unfolding_all rfl⟩)
  have c_KEEP:∃ t,mg "KEEP"=some (.str "keep" t):=by
   refine' L2.dG KX G ?a ?h
   (case a=>k_is);(case h=>exact ⟨_,by with_unfolding_all rfl⟩)
  have c_LETTERS:∃ t,mg "LETTERS"=some (.str "abcdefghijklmnopqrstuvwxyz" t):=by
   refine' L2.dG KX G ?a ?h
   (case a=>k_is);(case h=>exact ⟨_,by with_unfolding_all rfl⟩)
  have c_MOST_CHANGES:∃ t,mg "MOST_CHANGES"=some (.int 48 t):=by
   refine' L2.dG KX G ?a ?h
   (case a=>k_is);(case h=>exact ⟨_,by with_unfolding_all rfl⟩)
  have c_MOST_FIGURES:∃ t,mg "MOST_FIGURES"=some (.int 4 t):=by
   refine' L2.dG KX G ?a ?h
   (case a=>k_is);(case h=>exact ⟨_,by with_unfolding_all rfl⟩)
  have c_MOST_SIGNS:∃ t,mg "MOST_SIGNS"=some (.int 48 t):=by
   refine' L2.dG KX G ?a ?h
   (case a=>k_is);(case h=>exact ⟨_,by with_unfolding_all rfl⟩)
  have c_NOTHING:∃ t,mg "NOTHING"=some (.str "-" t):=by
   refine' L2.dG KX G ?a ?h
   (case a=>k_is);(case h=>exact ⟨_,by with_unfolding_all rfl⟩)
  have c_OUT:∃ t,mg "OUT"=some (.str "out" t):=by
   refine' L2.dG KX G ?a ?h
   (case a=>k_is);(case h=>exact ⟨_,by with_unfolding_all rfl⟩)
  have c_POINT:∃ t,mg "POINT"=some (.str "." t):=by
   refine' L2.dG KX G ?a ?h
   (case a=>k_is);(case h=>exact ⟨_,by with_unfolding_all rfl⟩)
  have e_MARKED:L2.MP w (L2.KOf KX) mg "MARKED" [("=","keep"),("!","change"),("<","out"),(">","in")]:=by
   dsimp only [L2.KOf]
   refine' L2.HY KX G ?a ?l ?e ?s ?d
   (case a=>k_is);(case l=>with_unfolding_all rfl);(case e=>exact ⟨rfl,⟨_,rfl⟩,⟨_,rfl⟩,rfl,⟨_,rfl⟩,⟨_,rfl⟩,rfl,⟨_,rfl⟩,⟨_,rfl⟩,rfl,⟨_,rfl⟩,⟨_,rfl⟩,trivial⟩);(case s=>decide);(case d=>trivial)
  have e_MARKS:L2.MP w (L2.KOf KX) mg "MARKS" [("keep","="),("change","!"),("out","<"),("in",">")]:=by
   dsimp only [L2.KOf]
   refine' L2.HY KX G ?a ?l ?e ?s ?d
   (case a=>k_is);(case l=>with_unfolding_all rfl);(case e=>exact ⟨rfl,⟨_,rfl⟩,⟨_,rfl⟩,rfl,⟨_,rfl⟩,⟨_,rfl⟩,rfl,⟨_,rfl⟩,⟨_,rfl⟩,rfl,⟨_,rfl⟩,⟨_,rfl⟩,trivial⟩);(case s=>decide);(case d=>trivial)
  have d_is_letter:L2.dj (L2.KOf KX) mg "is_letter" My.di:=by
   dsimp only [L2.KOf]
   refine' L2.aW KX G ?a ?l ?c ?k
   (case a=>k_is);(case l=>k_is);(case c=>k_is);(case k=>k_is)
  have d_is_row:L2.dj (L2.KOf KX) mg "is_row" My.dZ:=by
   dsimp only [L2.KOf]
   refine' L2.aW KX G ?a ?l ?c ?k
   (case a=>k_is);(case l=>k_is);(case c=>k_is);(case k=>k_is)
  have d_need_row:L2.dj (L2.KOf KX) mg "need_row" My.gq:=by
   dsimp only [L2.KOf]
   refine' L2.aW KX G ?a ?l ?c ?k
   (case a=>k_is);(case l=>k_is);(case c=>k_is);(case k=>k_is)
  have d_is_change:L2.dj (L2.KOf KX) mg "is_change" My.bB:=by
   dsimp only [L2.KOf]
   refine' L2.aW KX G ?a ?l ?c ?k
   (case a=>k_is);(case l=>k_is);(case c=>k_is);(case k=>k_is)
  have d_is_changes:L2.dj (L2.KOf KX) mg "is_changes" My.bN:=by
   dsimp only [L2.KOf]
   refine' L2.aW KX G ?a ?l ?c ?k
   (case a=>k_is);(case l=>k_is);(case c=>k_is);(case k=>k_is)
  have d_need_changes:L2.dj (L2.KOf KX) mg "need_changes" My.c7:=by
   dsimp only [L2.KOf]
   refine' L2.aW KX G ?a ?l ?c ?k
   (case a=>k_is);(case l=>k_is);(case c=>k_is);(case k=>k_is)
  have d_listed:L2.dj (L2.KOf KX) mg "listed" My.wg:=by
   dsimp only [L2.KOf]
   refine' L2.aW KX G ?a ?l ?c ?k
   (case a=>k_is);(case l=>k_is);(case c=>k_is);(case k=>k_is)
  have d_row_word:L2.dj (L2.KOf KX) mg "row_word" My.iZ:=by
   dsimp only [L2.KOf]
   refine' L2.aW KX G ?a ?l ?c ?k
   (case a=>k_is);(case l=>k_is);(case c=>k_is);(case k=>k_is)
  have d_change_word:L2.dj (L2.KOf KX) mg "change_word" My.my:=by
   dsimp only [L2.KOf]
   refine' L2.aW KX G ?a ?l ?c ?k
   (case a=>k_is);(case l=>k_is);(case c=>k_is);(case k=>k_is)
  have d_changes_word:L2.dj (L2.KOf KX) mg "changes_word" My.dI:=by
   dsimp only [L2.KOf]
   refine' L2.aW KX G ?a ?l ?c ?k
   (case a=>k_is);(case l=>k_is);(case c=>k_is);(case k=>k_is)
  have d_need_word:L2.dj (L2.KOf KX) mg "need_word" My.fK:=by
   dsimp only [L2.KOf]
   refine' L2.aW KX G ?a ?l ?c ?k
   (case a=>k_is);(case l=>k_is);(case c=>k_is);(case k=>k_is)
  have d_is_number_word:L2.dj (L2.KOf KX) mg "is_number_word" My.bC:=by
   dsimp only [L2.KOf]
   refine' L2.aW KX G ?a ?l ?c ?k
   (case a=>k_is);(case l=>k_is);(case c=>k_is);(case k=>k_is)
  have d_is_pair_word:L2.dj (L2.KOf KX) mg "is_pair_word" My.bT:=by
   dsimp only [L2.KOf]
   refine' L2.aW KX G ?a ?l ?c ?k
   (case a=>k_is);(case l=>k_is);(case c=>k_is);(case k=>k_is)
  have d_parts_of:L2.dj (L2.KOf KX) mg "parts_of" My.dJ:=by
   dsimp only [L2.KOf]
   refine' L2.aW KX G ?a ?l ?c ?k
   (case a=>k_is);(case l=>k_is);(case c=>k_is);(case k=>k_is)
  have d_pair_read:L2.dj (L2.KOf KX) mg "pair_read" My.fM:=by
   dsimp only [L2.KOf]
   refine' L2.aW KX G ?a ?l ?c ?k
   (case a=>k_is);(case l=>k_is);(case c=>k_is);(case k=>k_is)
  have d_read_row:L2.dj (L2.KOf KX) mg "read_row" My.fG:=by
   dsimp only [L2.KOf]
   refine' L2.aW KX G ?a ?l ?c ?k
   (case a=>k_is);(case l=>k_is);(case c=>k_is);(case k=>k_is)
  have d_read_number:L2.dj (L2.KOf KX) mg "read_number" My.bO:=by
   dsimp only [L2.KOf]
   refine' L2.aW KX G ?a ?l ?c ?k
   (case a=>k_is);(case l=>k_is);(case c=>k_is);(case k=>k_is)
  have d_read_numbers:L2.dj (L2.KOf KX) mg "read_numbers" My.bz:=by
   dsimp only [L2.KOf]
   refine' L2.aW KX G ?a ?l ?c ?k
   (case a=>k_is);(case l=>k_is);(case c=>k_is);(case k=>k_is)
  have d_read_pairs:L2.dj (L2.KOf KX) mg "read_pairs" My.bQ:=by
   dsimp only [L2.KOf]
   refine' L2.aW KX G ?a ?l ?c ?k
   (case a=>k_is);(case l=>k_is);(case c=>k_is);(case k=>k_is)
  have d_heaps_parted:L2.dj (L2.KOf KX) mg "heaps_parted" My.bJ:=by
   dsimp only [L2.KOf]
   refine' L2.aW KX G ?a ?l ?c ?k
   (case a=>k_is);(case l=>k_is);(case c=>k_is);(case k=>k_is)
  have d_read_heaps:L2.dj (L2.KOf KX) mg "read_heaps" My.bR:=by
   dsimp only [L2.KOf]
   refine' L2.aW KX G ?a ?l ?c ?k
   (case a=>k_is);(case l=>k_is);(case c=>k_is);(case k=>k_is)
  have d_change_read:L2.dj (L2.KOf KX) mg "change_read" My.cU:=by
   dsimp only [L2.KOf]
   refine' L2.aW KX G ?a ?l ?c ?k
   (case a=>k_is);(case l=>k_is);(case c=>k_is);(case k=>k_is)
  have d_read_changes:L2.dj (L2.KOf KX) mg "read_changes" My.bK:=by
   dsimp only [L2.KOf]
   refine' L2.aW KX G ?a ?l ?c ?k
   (case a=>k_is);(case l=>k_is);(case c=>k_is);(case k=>k_is)
  have d_law_cell:L2.dj (L2.KOf KX) mg "_law_cell" My.gr:=by
   dsimp only [L2.KOf]
   refine' L2.aW KX G ?a ?l ?c ?k
   (case a=>k_is);(case l=>k_is);(case c=>k_is);(case k=>k_is)
  have d_law_numbers:L2.dj (L2.KOf KX) mg "_law_numbers" My.bF:=by
   dsimp only [L2.KOf]
   refine' L2.aW KX G ?a ?l ?c ?k
   (case a=>k_is);(case l=>k_is);(case c=>k_is);(case k=>k_is)
  have d_law_text:L2.dj (L2.KOf KX) mg "_law_text" My.bY:=by
   dsimp only [L2.KOf]
   refine' L2.aW KX G ?a ?l ?c ?k
   (case a=>k_is);(case l=>k_is);(case c=>k_is);(case k=>k_is)
  have d_law_thing:L2.dj (L2.KOf KX) mg "_law_thing" My.b8:=by
   dsimp only [L2.KOf]
   refine' L2.aW KX G ?a ?l ?c ?k
   (case a=>k_is);(case l=>k_is);(case c=>k_is);(case k=>k_is)
  have d_law_number:L2.dj (L2.KOf KX) mg "_law_number" My.cM:=by
   dsimp only [L2.KOf]
   refine' L2.aW KX G ?a ?l ?c ?k
   (case a=>k_is);(case l=>k_is);(case c=>k_is);(case k=>k_is)
  have d_law_parts:L2.dj (L2.KOf KX) mg "_law_parts" My.dM:=by
   dsimp only [L2.KOf]
   refine' L2.aW KX G ?a ?l ?c ?k
   (case a=>k_is);(case l=>k_is);(case c=>k_is);(case k=>k_is)
  have d_law_pair:L2.dj (L2.KOf KX) mg "_law_pair" My.dN:=by
   dsimp only [L2.KOf]
   refine' L2.aW KX G ?a ?l ?c ?k
   (case a=>k_is);(case l=>k_is);(case c=>k_is);(case k=>k_is)
  have d_law_change:L2.dj (L2.KOf KX) mg "_law_change" My.cN:=by
   dsimp only [L2.KOf]
   refine' L2.aW KX G ?a ?l ?c ?k
   (case a=>k_is);(case l=>k_is);(case c=>k_is);(case k=>k_is)
  have d_law_each:L2.dj (L2.KOf KX) mg "_law_each" My.cz:=by
   dsimp only [L2.KOf]
   refine' L2.aW KX G ?a ?l ?c ?k
   (case a=>k_is);(case l=>k_is);(case c=>k_is);(case k=>k_is)
  have d_law_due:L2.dj (L2.KOf KX) mg "_law_due" My.bD:=by
   dsimp only [L2.KOf]
   refine' L2.aW KX G ?a ?l ?c ?k
   (case a=>k_is);(case l=>k_is);(case c=>k_is);(case k=>k_is)
  have d_law_read:L2.dj (L2.KOf KX) mg "_law_read" My.cA:=by
   dsimp only [L2.KOf]
   refine' L2.aW KX G ?a ?l ?c ?k
   (case a=>k_is);(case l=>k_is);(case c=>k_is);(case k=>k_is)
  have d_law_told:L2.dj (L2.KOf KX) mg "_law_told" My.du:=by
   dsimp only [L2.KOf]
   refine' L2.aW KX G ?a ?l ?c ?k
   (case a=>k_is);(case l=>k_is);(case c=>k_is);(case k=>k_is)
  have d_law_unwritten:L2.dj (L2.KOf KX) mg "_law_unwritten" My.bh:=by
   dsimp only [L2.KOf]
   refine' L2.aW KX G ?a ?l ?c ?k
   (case a=>k_is);(case l=>k_is);(case c=>k_is);(case k=>k_is)
  have d_law:L2.dj (L2.KOf KX) mg "law" My.dO:=by
   dsimp only [L2.KOf]
   refine' L2.aW KX G ?a ?l ?c ?k
   (case a=>k_is);(case l=>k_is);(case c=>k_is);(case k=>k_is)
  have x_NoRow:L2.v6 (L2.KOf KX) mg "NoRow" ["found"] "NoRow.__init__" My.nY:=by
   dsimp only [L2.KOf]
   refine' L2.Cj KX G ?a ?b ?kp ?na ?i ?t ?l ?c ?k
   (case a=>k_is);(case b=>kernel_rfl);(case kp=>k_is);(case na=>kernel_rfl);(case i=>k_is);(case t=>k_is);(case l=>k_is);(case c=>k_is);(case k=>k_is)
  have x_NoChanges:L2.v6 (L2.KOf KX) mg "NoChanges" ["found"] "NoChanges.__init__" My.gH:=by
   dsimp only [L2.KOf]
   refine' L2.Cj KX G ?a ?b ?kp ?na ?i ?t ?l ?c ?k
   (case a=>k_is);(case b=>kernel_rfl);(case kp=>k_is);(case na=>kernel_rfl);(case i=>k_is);(case t=>k_is);(case l=>k_is);(case c=>k_is);(case k=>k_is)
  have x_NoWords:L2.v6 (L2.KOf KX) mg "NoWords" ["found"] "NoWords.__init__" My.jE:=by
   dsimp only [L2.KOf]
   refine' L2.Cj KX G ?a ?b ?kp ?na ?i ?t ?l ?c ?k
   (case a=>k_is);(case b=>kernel_rfl);(case kp=>k_is);(case na=>kernel_rfl);(case i=>k_is);(case t=>k_is);(case l=>k_is);(case c=>k_is);(case k=>k_is)
  have u_NoRow_NoRow:L2.Sub (L2.KOf KX) mg "NoRow" "NoRow" true:=by
   dsimp only [L2.KOf]
   refine' L2.jN KX G ?a ?b ?m ?o
   (case a=>k_is);(case b=>k_is);(case m=>k_is);(case o=>kernel_rfl)
  have u_NoRow_NoChanges:L2.Sub (L2.KOf KX) mg "NoRow" "NoChanges" false:=by
   dsimp only [L2.KOf]
   refine' L2.jN KX G ?a ?b ?m ?o
   (case a=>k_is);(case b=>k_is);(case m=>k_is);(case o=>kernel_rfl)
  have u_NoRow_NoWords:L2.Sub (L2.KOf KX) mg "NoRow" "NoWords" false:=by
   dsimp only [L2.KOf]
   refine' L2.jN KX G ?a ?b ?m ?o
   (case a=>k_is);(case b=>k_is);(case m=>k_is);(case o=>kernel_rfl)
  have u_NoChanges_NoRow:L2.Sub (L2.KOf KX) mg "NoChanges" "NoRow" false:=by
   dsimp only [L2.KOf]
   refine' L2.jN KX G ?a ?b ?m ?o
   (case a=>k_is);(case b=>k_is);(case m=>k_is);(case o=>kernel_rfl)
  have u_NoChanges_NoChanges:L2.Sub (L2.KOf KX) mg "NoChanges" "NoChanges" true:=by
   dsimp only [L2.KOf]
   refine' L2.jN KX G ?a ?b ?m ?o
   (case a=>k_is);(case b=>k_is);(case m=>k_is);(case o=>kernel_rfl)
  have u_NoChanges_NoWords:L2.Sub (L2.KOf KX) mg "NoChanges" "NoWords" false:=by
   dsimp only [L2.KOf]
   refine' L2.jN KX G ?a ?b ?m ?o
   (case a=>k_is);(case b=>k_is);(case m=>k_is);(case o=>kernel_rfl)
  have u_NoWords_NoRow:L2.Sub (L2.KOf KX) mg "NoWords" "NoRow" false:=by
   dsimp only [L2.KOf]
   refine' L2.jN KX G ?a ?b ?m ?o
   (case a=>k_is);(case b=>k_is);(case m=>k_is);(case o=>kernel_rfl)
  have u_NoWords_NoChanges:L2.Sub (L2.KOf KX) mg "NoWords" "NoChanges" false:=by
   dsimp only [L2.KOf]
   refine' L2.jN KX G ?a ?b ?m ?o
   (case a=>k_is);(case b=>k_is);(case m=>k_is);(case o=>kernel_rfl)
  have u_NoWords_NoWords:L2.Sub (L2.KOf KX) mg "NoWords" "NoWords" true:=by
   dsimp only [L2.KOf]
   refine' L2.jN KX G ?a ?b ?m ?o
   (case a=>k_is);(case b=>k_is);(case m=>k_is);(case o=>kernel_rfl)
  exact ⟨d_law,fun base f fd F=>My.MK ⟨b_all,b_int,b_isinstance,b_len,b_list,b_max,b_min,b_range,b_str,b_tuple,c_CHANGE,c_FIGURES,c_IN,c_KEEP,c_LETTERS,c_MOST_CHANGES,c_MOST_FIGURES,c_MOST_SIGNS,c_NOTHING,c_OUT,c_POINT,e_MARKED,e_MARKS,d_is_letter,d_is_row,d_need_row,d_is_change,d_is_changes,d_need_changes,d_listed,d_row_word,d_change_word,d_changes_word,d_need_word,d_is_number_word,d_is_pair_word,d_parts_of,d_pair_read,d_read_row,d_read_number,d_read_numbers,d_read_pairs,d_heaps_parted,d_read_heaps,d_change_read,d_read_changes,d_law_cell,d_law_numbers,d_law_text,d_law_thing,d_law_number,d_law_parts,d_law_pair,d_law_change,d_law_each,d_law_due,d_law_read,d_law_told,d_law_unwritten,d_law,x_NoRow,x_NoChanges,x_NoWords,u_NoRow_NoRow,u_NoRow_NoChanges,u_NoRow_NoWords,u_NoChanges_NoRow,u_NoChanges_NoChanges,u_NoChanges_NoWords,u_NoWords_NoRow,u_NoWords_NoChanges,u_NoWords_NoWords⟩ F⟩
