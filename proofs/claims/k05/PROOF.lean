import PyProof.Rows.All
import Wide.All
import OpenK.AllK
import Wide.FinOn
import Lean
import PyProof.EqAt
import PyProof.EqKinds
import PyProof.TupleCall
import PyProof.FactsAll.set_1
import PyProof.FactsAll.set_2
import PyProof.Rows.Range3
import PyProof.AttrMissSeq
import KE.KDictOf
import PyProof.CompUse
import PyProof.Rows.RegReprOcc
import PyProof.FactsAll.list_4
import KE.KItemsList
import KE.KEqDict
import PyProof.Rows.SortRunsK
import PyProof.Rows.SortStr
import PyProof.Draws
import PyProof.EnumMake
import PyProof.SliceStr2
import PyProof.SliceList
import PyProof.DictWalks
import PyProof.SumWalkG
import PyProof.SeqI3
import PyProof.ExcInit
import PyProof.ExcClass3
import PyProof.ExcAttrAll.ValueError
import PyProof.ExcBaseAll.ValueError
import PyProof.InstStoreFacts
import OpenK.KOwn
import PyProof.StationsW
import KE.KTryMore
import PyProof.NsDelKeeps
import PyProof.RulesAs
import PySem.Challenge.RW_fillsay_k05_no_saying
set_option Elab.async false
set_option linter.all false
set_option maxRecDepth 100000
namespace L2
open PySem PySem.Spec PyProof.Rows
abbrev Key:=Sum Int Str
def keyIs:Key -> Value -> Bool
 | .inl k,v=>Value.isInt k v
 | .inr x,v=>Value.isStrOf x v
def keyH (w:World):Key -> Int
 | .inl k=>hashInt k
 | .inr x=>hashStr w x
theorem keyIs_shape:∀ {k:Key} {v:Value},keyIs k v = true -> (∃ i t,k = Sum.inl i /\ v = Value.int i t) ∨ (∃ x t,k = Sum.inr x /\ v = Value.str x t)
 | .inl i,v,h=>by
  obtain ⟨t,e⟩:=Value.isInt_shape (k:=i) (v:=v) h
  exact .inl ⟨i,t,rfl,e⟩
 | .inr x,v,h=>by
  obtain ⟨t,e⟩:=Value.isStrOf_shape (x:=x) (v:=v) h
  exact .inr ⟨x,t,rfl,e⟩
theorem key_ll (a b:Int):decide ((Sum.inl a:Key) = Sum.inl b) = (a == b):=by
 by_cases e:a = b
 ·subst e; simp
 ·have h:¬ (Sum.inl a:Key) = Sum.inl b:=λ q=>e (Sum.inl.inj q)
  rw [decide_eq_false h]
  exact (beq_eq_false_iff_ne.mpr e).symm
theorem key_rr (a b:Str):decide ((Sum.inr a:Key) = Sum.inr b) = decide (a = b):=by
 by_cases e:a = b
 ·subst e; simp
 ·have h:¬ (Sum.inr a:Key) = Sum.inr b:=λ q=>e (Sum.inr.inj q)
  rw [decide_eq_false h,decide_eq_false e]
theorem key_lr (a:Int) (b:Str):decide ((Sum.inl a:Key) = Sum.inr b) = false:=decide_eq_false (λ q=>nomatch q)
theorem key_rl (a:Str) (b:Int):decide ((Sum.inr a:Key) = Sum.inl b) = false:=decide_eq_false (λ q=>nomatch q)
def mixKind (prog:Program) (w:World):PySem.KeyKind prog w Key where
 is:=keyIs
 hash:=keyH w
 inj:=λ v a b ha hb=>by
  rcases keyIs_shape ha with ⟨i,t,rfl,rfl⟩ | ⟨x,t,rfl,rfl⟩
  ·rcases keyIs_shape hb with ⟨j,u,rfl,e⟩ | ⟨y,u,rfl,e⟩
   ·injection e with e1 _; rw [e1]
   ·exact nomatch e
  ·rcases keyIs_shape hb with ⟨j,u,rfl,e⟩ | ⟨y,u,rfl,e⟩
   ·exact nomatch e
   ·injection e with e1 _; rw [e1]
 byValue:=λ k v h=>by
  rcases keyIs_shape h with ⟨i,t,rfl,rfl⟩ | ⟨x,t,rfl,rfl⟩ <;> rfl
 pyHash:=λ hv h=>by
  rcases keyIs_shape hv with ⟨i,t,rfl,rfl⟩ | ⟨x,t,rfl,rfl⟩
  ·exact wpAny_pyHash_int h
  ·exact wpAny_pyHash_str h
 eqBool:=λ hu hv h=>by
  rcases keyIs_shape hu with ⟨i,t,rfl,rfl⟩ | ⟨x,t,rfl,rfl⟩
  ·rcases keyIs_shape hv with ⟨j,u,rfl,rfl⟩ | ⟨y,u,rfl,rfl⟩
   ·rw [key_ll] at h; exact wpAny_eqBool_int h
   ·rw [key_lr] at h; exact SeqAt.EqAt.int_str i t y u _ _ _ _ h
  ·rcases keyIs_shape hv with ⟨j,u,rfl,rfl⟩ | ⟨y,u,rfl,rfl⟩
   ·rw [key_rl] at h; exact SeqAt.EqAt.str_int x t j u _ _ _ _ h
   ·rw [key_rr] at h; exact wpAny_eqBool_str h
 «strs»:=λ k x t v h=>by
  rcases keyIs_shape h with ⟨i,u,rfl,e⟩ | ⟨y,u,rfl,e⟩
  ·exact nomatch e
  ·injection e with e1 _
   subst e1
   cases v <;> rfl
end L2
namespace L2
open PySem PySem.Spec PyProof.Rows
inductive V where
 | non | bl (b:Bool) | int (i:Int) | str (x:Str) | byt (b:Array UInt8) | flt (b:UInt64) | ref (a:Addr) | ty (n:String)
 deriving DecidableEq
def RelV:V -> Value -> Prop
 | .non,u=>u = Value.none
 | .bl b,u=>u = Value.bool b
 | .int i,u=>∃ t,u = Value.int i t
 | .str x,u=>∃ t,u = Value.str x t
 | .byt b,u=>∃ t,u = Value.bytes b t
 | .flt b,u=>∃ t,u = Value.float b t
 | .ref a,u=>u = Value.ref a
 | .ty n,u=>u = Value.type n
abbrev Vals:List V -> List Value -> Prop:=Paired RelV
theorem Vals.length {xs:List V} {us:List Value} (r:Vals xs us):xs.length = us.length:=Paired.length r
theorem Vals.get:∀ {xs:List V} {us:List Value} {i:Nat} {x:V},Vals xs us -> xs[i]? = some x -> ∃ u,us[i]? = some u /\ RelV x u
 | _,_,_,_,.nil,e=>by simp at e
 | _,_,0,_,.cons r _,e=>by simp at e; subst e; exact ⟨_,rfl,r⟩
 | _,_,i + 1,x,.cons _ t,e=>by
  obtain ⟨u,h1,h2⟩:=Vals.get (i:=i) (x:=x) t (by simpa using e)
  exact ⟨u,by simpa using h1,h2⟩
theorem Vals.set {x:V} {u:Value} (r:RelV x u):∀ {xs:List V} {us:List Value} (i:Nat),Vals xs us -> Vals (xs.set i x) (us.set i u)
 | _,_,_,.nil=>.nil
 | _,_,0,.cons _ t=>.cons r t
 | _,_,i + 1,.cons q t=>.cons q (Vals.set r i t)
theorem Vals.append:∀ {xs ys:List V} {us ws:List Value},Vals xs us -> Vals ys ws -> Vals (xs ++ ys) (us ++ ws)
 | _,_,_,_,.nil,s=>s
 | _,_,_,_,.cons r t,s=>.cons r (Vals.append t s)
def RelO:Option V -> Option Value -> Prop
 | some v,some u=>RelV v u
 | none,none=>True
 | _,_=>False
def KV {κ:Type}:List (κ × V) -> List (κ × Value) -> Prop:=Paired λ (p:κ × V) (q:κ × Value)=>p.1 = q.1 /\ RelV p.2 q.2
def kV:Key -> V
 | .inl i=>.int i
 | .inr x=>.str x
inductive HO where
 /-- a list -/
 | lst (xs:List V)
 /-- a tuple (never changes) -/
 | tup (xs:List V)
 /-- a dict whose keys are ints and texts; one whose keys are tuples of ints and texts (the empty one is both) -/
 | dK (kvs:List (Key × V)) | dT (kvs:List (List Key × V))
 /-- a set of ints: its members,its size -/
 | set (S:Int -> Bool) (n:Nat)
 /-- an instance of the class at C,its dict at dx,its attributes -/
 | ins (C dx:Addr) (fs:List (Str × V))
 /-- the dict of the instance at x -/
 | own (x:Addr)
 /-- the dict of an exception -/
 | xd (fs:List (Str × V))
 /-- a bound method,f of x -/
 | met (f x:Addr)
 /-- a range object lo,lo + 1,.. below hi -/
 | rng (lo hi:Int)
 /-- a thing that is known to the object (the script; a dict while a loop walks it): read,never written while it is so -/
 | frz (o:Obj) (u:HO)
 /-- a code object's table -/
 | tbl (ps:Array Value)
 /-- any other thing,by what is true of its one object (a def of one's own: SetO a S n:=HO.ext λ h=>..) -/
 | ext (φ:Heap -> Prop)
abbrev Hp:=Addr -> Option HO
def upd (H:Hp) (a:Addr) (o:HO):Hp:=λ b=>if b = a then some o else H b
theorem upd_same {H:Hp} {a:Addr} {o:HO}:upd H a o a = some o:=by unfold upd; rw [if_pos rfl]
theorem upd_ne {H:Hp} {a b:Addr} {o:HO} (h:b ≠ a):upd H a o b = H b:=by unfold upd; rw [if_neg h]
theorem ne_of {H:Hp} {a b:Addr} {o u:HO} (h:H a = some o) (h':H b = some u) (d:o ≠ u):a ≠ b:=by
 intro e; subst e; rw [h] at h'; exact d (Option.some.inj h')
theorem ne_of_none {H:Hp} {a b:Addr} {o:HO} (h:H a = some o) (h':H b = none):a ≠ b:=by
 intro e; subst e; rw [h] at h'; cases h'
section
variable (P:Program) (w:World)
def ObjOk (H:Hp) (h:Heap) (a:Addr):HO -> Prop
 | .lst xs=>xs.length <= sizeLine /\ ∃ (its:List Value) (n:Nat),Vals xs its /\ h.get? a = some { cls:=.type "list",data:=.seq its.toArray n }
 | .tup xs=>xs.length <= sizeLine /\ ∃ its:List Value,Vals xs its /\ IsTup h a its.toArray
 | .dK kvs=>kvs.length <= sizeLine /\ (a == sysModules) = false /\ ∃ vs,KV kvs vs /\ h.DictOf (mixKind P w) a vs
 | .dT kvs=>kvs.length <= sizeLine /\ (a == sysModules) = false /\ ∃ xs:List (List Key × Addr × Value),
   Paired (λ (p:List Key × V) (q:List Key × Addr × Value)=>p.1 = q.1 /\ H q.2.1 = some (.tup (p.1.map kV)) /\ RelV p.2 q.2.2) kvs xs /\
   ∃ o es ep,h.get? a = some o /\ o.ExactDict /\ o.data = .dict es ep /\ es.toList = xs.map (entryOfKey (tupleKind (mixKind P w))) /\ (xs.map (·.1)).Nodup
 | .set S n=>h.SetOf (intKind P w) a S n
 | .ins C dx fs=>H dx = some (.own a) /\ fs.length <= 1000 /\ dx ≠ a /\ h.get? a = some (PySem.W.instObj C dx) /\
   ∃ mA,h.Ns1 dx mA /\ (∀ f,RelO (fs.lookup f) (mA f)) /\ PySem.Within mA (fs.map (·.1))
 | .own _=>∃ o,h.get? a = some o
 | .xd fs=>∃ mA,h.Ns1 a mA /\ ∀ f,RelO (fs.lookup f) (mA f)
 | .rng lo hi=>∃ t u v,h.get? a = some { cls:=.type "range",data:=.fields #[.int lo t,.int hi u,.int 1 v] }
 | .frz o u=>h.get? a = some o /\ ObjOk H h a u
 | .tbl ps=>h.get? a = some { cls:=.none,data:=.fields ps }
 | .met f x=>h.get? a = some (PySem.W.methodObj (.ref f) (.ref x))
 | .ext φ=>φ h /\ (∃ o,h.get? a = some o) /\ ∀ h1 h2:Heap,φ h1 -> (∀ o,h1.get? a = some o -> h2.get? a = some o) -> φ h2
def HOk (H:Hp) (h:Heap):Prop:=∀ a o,H a = some o -> ObjOk P w H h a o
end
section
variable {P:Program} {w:World} {H H':Hp} {h h':Heap} {a:Addr} {o:HO}
theorem ObjOk.lt (x:ObjOk P w H h a o):a < h.objs.size:=by
 cases o with
 | lst xs=>obtain ⟨_,_,_,_,e⟩:=x; exact Heap.lt_size e
 | tup xs=>obtain ⟨_,_,_,p⟩:=x; exact p.lt
 | dK kvs=>obtain ⟨_,_,_,_,o,_,_,e,_⟩:=x; exact Heap.lt_size e
 | dT kvs=>obtain ⟨_,_,_,_,o,_,_,e,_⟩:=x; exact Heap.lt_size e
 | set S n=>obtain ⟨o,_,_,_,e,_⟩:=x; exact Heap.lt_size e
 | ins C dx fs=>obtain ⟨_,_,_,e,_⟩:=x; exact Heap.lt_size e
 | own y=>obtain ⟨_,e⟩:=x; exact Heap.lt_size e
 | xd fs=>obtain ⟨_,⟨_,_,_,e,_⟩,_⟩:=x; exact Heap.lt_size e
 | rng lo hi=>obtain ⟨_,_,_,e⟩:=x; exact Heap.lt_size e
 | frz ob u=>obtain ⟨e,_⟩:=x; exact Heap.lt_size e
 | tbl ps=>exact Heap.lt_size (show h.get? a = some _ from x)
 | met f y=>exact Heap.lt_size (show h.get? a = some _ from x)
 | ext φ=>obtain ⟨_,⟨_,e⟩,_⟩:=x; exact Heap.lt_size e
theorem Paired.mapP {α β:Type} {F G:α -> β -> Prop}:∀ {l₁:List α} {l₂:List β},Paired F l₁ l₂ -> (∀ a b,F a b -> G a b) -> Paired G l₁ l₂
 | _,_,.nil,_=>.nil
 | _,_,.cons r t,f=>.cons (f _ _ r) (Paired.mapP t f)
theorem ObjOk.stay (x:ObjOk P w H h a o) (k:∀ b u,(b = a ∨ H b = some (.own a)) -> h.get? b = some u -> h'.get? b = some u)
  (ho:∀ b,H b = some (.own a) -> H' b = some (.own a)) (ht:∀ b xs,H b = some (.tup xs) -> H' b = some (.tup xs)):ObjOk P w H' h' a o:=by
 induction o with
 | lst xs=>obtain ⟨z,its,n,r,e⟩:=x; exact ⟨z,its,n,r,k _ _ (.inl rfl) e⟩
 | tup xs=>obtain ⟨z,its,r,ob,e,c⟩:=x; exact ⟨z,its,r,ob,k _ _ (.inl rfl) e,c⟩
 | dK kvs=>obtain ⟨z,y,vs,r,ob,es,ep,e,c⟩:=x; exact ⟨z,y,vs,r,ob,es,ep,k _ _ (.inl rfl) e,c⟩
 | dT kvs =>
  obtain ⟨z,y,xs,r,ob,es,ep,e,c⟩:=x
  exact ⟨z,y,xs,Paired.mapP r λ p q z=>⟨z.1,ht _ _ z.2.1,z.2.2⟩,ob,es,ep,k _ _ (.inl rfl) e,c⟩
 | set S n=>obtain ⟨ob,es,ep,t,e,c⟩:=x; exact ⟨ob,es,ep,t,k _ _ (.inl rfl) e,c⟩
 | ins C dx fs =>
  obtain ⟨d,z,ne,e,mA,⟨od,es,ep,e2,c⟩,r⟩:=x
  exact ⟨ho _ d,z,ne,k _ _ (.inl rfl) e,mA,⟨od,es,ep,k _ _ (.inr d) e2,c⟩,r⟩
 | own y=>obtain ⟨ob,e⟩:=x; exact ⟨ob,k _ _ (.inl rfl) e⟩
 | xd fs=>obtain ⟨mA,⟨od,es,ep,e,c⟩,r⟩:=x; exact ⟨mA,⟨od,es,ep,k _ _ (.inl rfl) e,c⟩,r⟩
 | rng lo hi=>obtain ⟨t,u,v,e⟩:=x; exact ⟨t,u,v,k _ _ (.inl rfl) e⟩
 | frz ob u ih=>obtain ⟨e,q⟩:=x; exact ⟨k _ _ (.inl rfl) e,ih q⟩
 | tbl ps =>
  have e:h.get? a = some { cls:=.none,data:=.fields ps }:=x
  show h'.get? a = some { cls:=.none,data:=.fields ps }
  exact k a _ (.inl rfl) e
 | met f y =>
  have e:h.get? a = some (PySem.W.methodObj (.ref f) (.ref y)):=x
  show h'.get? a = some (PySem.W.methodObj (.ref f) (.ref y))
  exact k a _ (.inl rfl) e
 | ext φ=>obtain ⟨p,⟨o,e⟩,st⟩:=x; exact ⟨st _ _ p λ o q=>k _ _ (.inl rfl) q,⟨o,k _ _ (.inl rfl) e⟩,st⟩
theorem HOk.lt (x:HOk P w H h) (e:H a = some o):a < h.objs.size:=(x a o e).lt
theorem HOk.fresh (x:HOk P w H h) (e:h.objs.size <= a):H a = none:=by
 cases q:H a with
 | none=>rfl
 | some u=>exact absurd (Nat.lt_of_lt_of_le (x.lt q) e) (Nat.lt_irrefl _)
theorem HOk.kept (x:HOk P w H h) (k:∀ b u,h.get? b = some u -> h'.get? b = some u):HOk P w H h':=λ a o e =>
 (x a o e).stay (λ b u _ q=>k b u q) (λ _ q=>q) λ _ _ q=>q
theorem HOk.laid (x:HOk P w H h) (k:∀ b u,h.get? b = some u -> h'.get? b = some u) (hp:h.objs.size <= a) (new:ObjOk P w (upd H a o) h' a o):HOk P w (upd H a o) h':=λ b u e=>by
 have hn:=x.fresh hp
 by_cases hb:b = a
 ·subst hb; rw [upd_same] at e; cases e; exact new
 ·rw [upd_ne hb] at e
  exact (x b u e).stay (λ c v _ q=>k c v q) (λ c q=>by rw [upd_ne (ne_of_none q hn)]; exact q) λ c xs q=>by rw [upd_ne (ne_of_none q hn)]; exact q
end
def Rd (H:Hp) (a:Addr) (u:HO):Prop:=H a = some u ∨ ∃ o,H a = some (.frz o u)
theorem Rd.ok {P:Program} {w:World} {H:Hp} {h:Heap} {a:Addr} {u:HO} (r:Rd H a u) (x:HOk P w H h):ObjOk P w H h a u:=by
 rcases r with r | ⟨o,r⟩
 ·exact x a u r
 ·obtain ⟨_,q⟩:=x a _ r
  exact q
def Mut:Option HO -> Prop
 | some (.lst _)=>True
 | some (.dK _)=>True
 | some (.dT _)=>True
 | some (.set _ _)=>True
 | some (.ins _ _ _)=>True
 | some (.ext _)=>True
 | _=>False
section
variable {P:Program} {w:World} {H:Hp} {h h':Heap} {x e:Addr} {o':HO}
theorem HOk.write (ok:HOk P w H h) (mu:Mut (H x)) (he:e = x ∨ H e = some (.own x)) (k:∀ b u,b ≠ e -> h.get? b = some u -> h'.get? b = some u) (heo:∃ u,h'.get? e = some u)
  (new:ObjOk P w (upd H x o') h' x o'):HOk P w (upd H x o') h':=λ b u q=>by
 have nown:∀ c y,H c = some (.own y) -> c ≠ x:=λ c y r z=>by subst z; rw [r] at mu; exact mu
 have ntup:∀ c xs,H c = some (.tup xs) -> c ≠ x:=λ c xs r z=>by subst z; rw [r] at mu; exact mu
 by_cases hb:b = x
 ·subst hb; rw [upd_same] at q; cases q; exact new
 ·rw [upd_ne hb] at q
  by_cases hbe:b = e
  ·have q':H b = some (.own x):=by
    rcases he with z | z
    ·exact absurd (hbe.trans z) hb
    ·rw [hbe]; exact z
   rw [q] at q'; cases q'
   obtain ⟨v,hv⟩:=heo
   exact ⟨v,by rw [hbe]; exact hv⟩
  ·refine (ok b u q).stay (λ c v hc r=>k c v ?_ r) (λ c r=>by rw [upd_ne (nown c b r)]; exact r) λ c xs r=>by rw [upd_ne (ntup c xs r)]; exact r
   rcases hc with rfl | hc
   ·exact hbe
   ·rintro rfl
    rcases he with z | z
    ·exact nown c b hc z
    ·rw [hc] at z; cases z; exact hb rfl
end
structure Un (fs ex:List Addr) (H H':Hp) (h h':Heap):Prop where
 keep:∀ b o,h.get? b = some o -> H b = none -> b ∉ fs -> b ∉ ex -> h'.get? b = some o
 slot:∀ b o,h.get? b = some o -> H b = none -> b ∈ fs -> b ∉ ex -> ∃ sl,h'.get? b = some { o with slots:=sl }
 free:∀ b o,h.get? b = some o -> H b = none -> b ∉ ex -> H' b = none
 there:∀ b o,h.get? b = some o -> b ∉ ex -> ∃ o',h'.get? b = some o'
 tups:∀ b xs,H b = some (.tup xs) -> H' b = some (.tup xs)
 frzs:∀ b o u,H b = some (.frz o u) -> H' b = some (.frz o u)
 tbls:∀ b ps,H b = some (.tbl ps) -> ∃ more,H' b = some (.tbl (ps ++ more))
section
variable {fs fs' ex ex':List Addr} {H H1 H2:Hp} {h h1 h2 h':Heap} {a x e:Addr} {o:HO}
theorem Un.any (u:Un fs ex H H1 h h1) {b:Addr} {ob:Obj} (q:h.get? b = some ob) (n:H b = none) (hx:b ∉ ex):∃ sl,h1.get? b = some { ob with slots:=sl }:=by
 by_cases hb:b ∈ fs
 ·exact u.slot b ob q n hb hx
 ·exact ⟨ob.slots,u.keep b ob q n hb hx⟩
theorem Un.kept (k:∀ b u,h.get? b = some u -> h'.get? b = some u):Un fs ex H H h h' :=
 ⟨λ b ob q _ _ _=>k b ob q,λ b ob q _ _ _=>⟨ob.slots,k b ob q⟩,λ _ _ _ n _=>n,λ b ob q _=>⟨ob,k b ob q⟩,λ _ _ q=>q,λ _ _ _ q=>q,λ _ ps q=>⟨#[],by rw [q]; simp⟩⟩
theorem Un.refl:Un fs ex H H h h:=Un.kept λ _ _ q=>q
theorem Un.laid (k:∀ b u,h.get? b = some u -> h'.get? b = some u) (hp:h.objs.size <= a) (hn:H a = none):Un fs ex H (upd H a o) h h' where
 keep:=λ b u q _ _ _=>k b u q
 slot:=λ b u q _ _ _=>⟨u.slots,k b u q⟩
 free:=λ b u q n _=>by rw [upd_ne (Nat.ne_of_lt (Nat.lt_of_lt_of_le (Heap.lt_size q) hp))]; exact n
 there:=λ b u q _=>⟨u,k b u q⟩
 tups:=λ b xs q=>by rw [upd_ne (ne_of_none q hn)]; exact q
 frzs:=λ b u xs q=>by rw [upd_ne (ne_of_none q hn)]; exact q
 tbls:=λ b ps q=>⟨#[],by rw [upd_ne (ne_of_none q hn),q]; simp⟩
theorem Un.write (mu:Mut (H x)) (he:e = x ∨ H e = some (.own x)) (k:∀ b u,b ≠ e -> h.get? b = some u -> h'.get? b = some u) (heo:∃ u,h'.get? e = some u):Un fs ex H (upd H x o) h h':=by
 have hx:∀ b,H b = none -> b ≠ x:=λ b n z=>by subst z; rw [n] at mu; exact mu
 have hb:∀ b,H b = none -> b ≠ e:=λ b n z=>by
  subst z
  rcases he with r | r
  ·exact hx b n r
  ·rw [n] at r; cases r
 have hm:∀ b u,H b = some u -> ¬ Mut (some u) -> b ≠ x:=λ b u q nm z=>by subst z; rw [q] at mu; exact nm mu
 refine ⟨λ b u q n _ _=>k b u (hb b n) q,λ b u q n _ _=>⟨u.slots,k b u (hb b n) q⟩,λ b u q n _=>by rw [upd_ne (hx b n)]; exact n,λ b u q _=>?_,
  λ b xs q=>by rw [upd_ne (hm b _ q λ z=>z)]; exact q,λ b u xs q=>by rw [upd_ne (hm b _ q λ z=>z)]; exact q,λ b ps q=>⟨#[],by rw [upd_ne (hm b _ q λ z=>z),q]; simp⟩⟩
 by_cases hbe:b = e
 ·subst hbe; exact heo
 ·exact ⟨u,k b u hbe q⟩
end
def trk (h:Heap) (H:Hp):List Addr:=(List.range h.objs.size).filter λ a=>(H a).isSome
def hidT (h:Heap) (H:Hp):Heap:=PySem.W.hideAll h (trk h H)
theorem hidT_size (h:Heap) (H:Hp):(hidT h H).objs.size = h.objs.size:=PySem.W.hideAll_size _ _
theorem hidT_get {h:Heap} {H:Hp} {b:Addr} {o:Obj} (e:h.get? b = some o) (n:H b = none):(hidT h H).get? b = some o :=
 PySem.W.hideAll_get _ e λ hm=>by
  have q:(H b).isSome = true:=(List.mem_filter.mp hm).2
  rw [n] at q; simp at q
theorem of_hidT {h:Heap} {H:Hp} {b:Addr} {o:Obj} (e:(hidT h H).get? b = some o):h.get? b = some o /\ H b = none:=by
 have e':h.get? b = some o:=PySem.W.of_hideAll (trk h H) e
 refine ⟨e',?_⟩
 cases q:H b with
 | none=>rfl
 | some x =>
  have hm:b ∈ trk h H:=List.mem_filter.mpr ⟨List.mem_range.mpr (Heap.lt_size e'),by simp [q]⟩
  have z:(hidT h H).get? b = none:=PySem.W.hideAll_none (trk h H) hm
  rw [z] at e; cases e
def allNews (g h:Heap) (L:Addr):List (Addr × Obj):=(List.range h.objs.size).filterMap λ a=>if a = L ∨ (g.get? a).isSome = true then none else (h.get? a).map λ o=>(a,o)
def rest (g h:Heap) (L d:Addr):List (Addr × Obj):=(allNews g h L).filter λ p=>decide (p.1 ≠ d)
end L2
namespace L2
open PySem PySem.Spec PyProof.Rows
structure Mod (K:PySem.W.Frag) (mg:Str -> Option Value) (base:Heap):Prop where
 kin:K.In base
 glob:base.Ns mainGlobals mg
 blt:∃ mb,base.Ns builtinsNs mb /\ ∀ x:Str,x ≠ "__name__" -> mb x = bootBuiltins x
 nolimit:base.NoLimit
structure Cx where
 prog:Program
 w:World
 K:PySem.W.Frag
 mg:Str -> Option Value
 base:Heap
 A:Around
 N:List Str
 s₀:Shared
 H₀:Hp
 env:Env
 outer:List Env
 stack:List Env
 ex:List Addr
 fn:Str -> Bool
 calm:Bool
 pn:List (Addr × Obj)
 xe:Value -> Shared -> Prop
def frs (l:List Env):List Addr:=l.filterMap (·.frame)
abbrev Cx.fs (X:Cx):List Addr:=frs X.outer
def Vis (sc:Scope) (x:Str):Prop:=sc.names.lookup x = some .local ∨ sc.names.lookup x = some .cell ∨ sc.names.lookup x = some .free
def Loc (sc:Scope) (x:Str):Prop:=sc.names.lookup x = some .local ∨ sc.names.lookup x = some .cell
def Look (env:Env) (h:Heap) (m:Str -> Option Value) (x:Str) (u:Value):Prop :=
 (env.kindOf x = some .local /\ m x = some u) ∨ ((env.kindOf x = some .cell ∨ env.kindOf x = some .free) /\ ∃ c,env.cells.lookup x = some c /\ h.IsCell c (some u))
structure Cx.Ok (X:Cx):Prop where
 mod:Mod X.K X.mg X.base
 kind:X.env.scope.kind = .function
 glob:X.env.globals = mainGlobals
 blt:X.env.builtins = builtinsNs
 above:X.s₀.heap.objs.size <= X.env.locals
 inj:∀ x y c,X.env.cells.lookup x = some c -> X.env.cells.lookup y = some c -> x = y
 has:∀ x,(X.env.kindOf x = some .cell ∨ X.env.kindOf x = some .free) -> ∃ c,X.env.cells.lookup x = some c
 cab:∀ x c,X.fn x = true -> X.env.cells.lookup x = some c -> X.s₀.heap.objs.size <= c
 hd:X.calm = true -> X.A.handled = none
 frames:X.A.frames = some X.stack
 stk:X.stack = X.outer ∨ (X.stack = X.env :: X.outer /\ X.env.frame = some X.env.locals)
 exf:∀ b ∈ X.ex,b ≠ X.env.locals /\ ∀ x c,X.env.cells.lookup x = some c -> c ≠ b
 bs:∀ b o,X.base.get? b = some o -> X.s₀.heap.get? b = some o /\ X.H₀ b = none
 bsz:X.base.objs.size <= X.s₀.heap.objs.size
 noex:∀ b o,X.base.get? b = some o -> b ∉ X.ex
 exfs:∀ b ∈ X.ex,b ∉ X.fs
 funs:X.s₀.heap.FunFrames X.base X.outer
 frf:∀ b ∈ X.fs,X.H₀ b = none
structure Inv (X:Cx) (pins:List (Addr × Obj)) (σ:List (Option V)) (H:Hp) (s:Shared):Prop where
 ok:X.Ok
 os:s.os = X.s₀.os
 bare:AllBare s.gens
 base:Un X.fs X.ex X.H₀ H X.s₀.heap s.heap
 loc:∃ m,s.heap.Ns X.env.locals m /\ ∀ (i:Nat) (x:Str) (v:V),X.N[i]? = some x -> σ[i]? = some (some v) -> Vis X.env.scope x -> ∃ u,RelV v u /\ Look X.env s.heap m x u
 cell:∀ x c,X.env.cells.lookup x = some c -> ∃ v,s.heap.IsCell c v
 free:H X.env.locals = none
 freeC:∀ x c,X.env.cells.lookup x = some c -> H c = none
 pin:∀ p ∈ X.pn ++ pins,s.heap.get? p.1 = some p.2 /\ H p.1 = none /\ p.1 ≠ X.env.locals /\ p.1 ∉ X.fs /\ ∀ v,p.2.data ≠ .cell v
 hok:HOk X.prog X.w H s.heap
 len:σ.length = X.N.length
section
variable {X:Cx} {pins:List (Addr × Obj)} {σ:List (Option V)} {H H':Hp} {s:Shared} {h':Heap}
theorem Cx.Ok.nofr (ok:X.Ok) {b:Addr} {o:Obj} (e:X.base.get? b = some o):b ∉ X.fs:=λ hb=>by
 have:=(ok.funs.mem hb).1
 rw [e] at this; cases this
theorem Inv.bs (I:Inv X pins σ H s):∀ b o,X.base.get? b = some o -> s.heap.get? b = some o /\ H b = none:=λ b o e =>
 ⟨I.base.keep b o (I.ok.bs b o e).1 (I.ok.bs b o e).2 (I.ok.nofr e) (I.ok.noex b o e),I.base.free b o (I.ok.bs b o e).1 (I.ok.bs b o e).2 (I.ok.noex b o e)⟩
theorem Inv.bk (I:Inv X pins σ H s):∀ b o,X.base.get? b = some o -> s.heap.get? b = some o:=λ b o e=>(I.bs b o e).1
theorem Inv.mod (I:Inv X pins σ H s):Mod X.K X.mg X.base:=I.ok.mod
theorem Inv.kIn (I:Inv X pins σ H s):X.K.In s.heap:=I.ok.mod.kin.keeps I.bk
theorem Inv.fr (I:Inv X pins σ H s):∃ m,Fr X.base X.env.locals s.heap m :=
 let ⟨m,hn,_⟩:=I.loc
 ⟨m,hn,I.bk,Nat.le_trans I.ok.bsz I.ok.above⟩
theorem Inv.lt (I:Inv X pins σ H s):X.env.locals < s.heap.objs.size:=let ⟨_,hn,_⟩:=I.loc; hn.lt
theorem Inv.sz (I:Inv X pins σ H s):X.s₀.heap.objs.size <= s.heap.objs.size:=Nat.le_trans I.ok.above (Nat.le_of_lt I.lt)
theorem Inv.nofs (I:Inv X pins σ H s) {a:Addr} (h:s.heap.objs.size <= a):a ∉ X.fs:=λ hb=>by
 obtain ⟨_,o,ho,_⟩:=I.ok.funs.mem hb
 exact absurd (Nat.lt_of_lt_of_le (Heap.lt_size ho) (Nat.le_trans I.sz h)) (Nat.lt_irrefl _)
theorem Inv.cne (I:Inv X pins σ H s):∀ x c,X.env.cells.lookup x = some c -> c ≠ X.env.locals:=λ x c e z=>by
 obtain ⟨v,o,ho,hd⟩:=I.cell x c e
 obtain ⟨m,⟨o',es,ep,ho',hd',_⟩,_⟩:=I.loc
 rw [z,ho'] at ho; cases ho; rw [hd'] at hd; cases hd
theorem Inv.funs (I:Inv X pins σ H s):s.heap.FunFrames X.base X.outer:=by
 have all:∀ (l:List Env),(∀ b ∈ frs l,b ∈ X.fs) -> X.s₀.heap.FunFrames X.base l -> s.heap.FunFrames X.base l:=by
  intro l
  induction l with
  | nil=>intro _ _; trivial
  | cons env r ih =>
   intro hs hl
   obtain ⟨hk,⟨L,o,hf,hn,ho,hd⟩,hr⟩:=hl
   have hL:L ∈ X.fs:=hs L (by unfold frs; rw [List.filterMap_cons,hf]; exact List.mem_cons_self)
   obtain ⟨sl,e⟩:=I.base.slot L o ho (I.ok.frf L hL) hL λ z=>I.ok.exfs L z hL
   exact ⟨hk,⟨L,_,hf,hn,e,hd⟩,ih (λ b hb=>hs b (by unfold frs; rw [List.filterMap_cons,hf]; exact List.mem_cons_of_mem _ hb)) hr⟩
 exact all X.outer (λ _ hb=>hb) I.ok.funs
theorem Inv.stack (I:Inv X pins σ H s):s.heap.FunFrames X.base X.stack:=by
 rcases I.ok.stk with e | ⟨e,hf⟩
 ·rw [e]; exact I.funs
 ·rw [e]
  obtain ⟨m,hn,_⟩:=I.loc
  refine .cons (by rw [I.ok.kind]; decide) hf hn ?_ I.funs
  exact Heap.get?_none_of_le (Nat.le_trans I.ok.bsz I.ok.above)
theorem Inv.stkSub (I:Inv X pins σ H s):∀ b ∈ frs X.stack,b ∈ X.env.locals :: X.fs:=λ b hb=>by
 rcases I.ok.stk with e | ⟨e,hf⟩
 ·rw [e] at hb; exact List.mem_cons_of_mem _ hb
 ·rw [e] at hb
  unfold frs at hb
  rw [List.filterMap_cons,hf] at hb
  exact hb
theorem Inv.stkFree (I:Inv X pins σ H s):∀ b ∈ frs X.stack,H b = none:=λ b hb=>by
 rcases List.mem_cons.mp (I.stkSub b hb) with e | hb
 ·rw [e]; exact I.free
 ·obtain ⟨_,o,ho,_⟩:=I.ok.funs.mem hb
  exact I.base.free b o ho (I.ok.frf b hb) λ z=>I.ok.exfs b z hb
theorem Inv.step {g':Array GenState} {t':Nat} {d':Drawn} {ch:List Addr} (I:Inv X pins σ H s)
  (hch:∀ b ∈ ch,(b ∈ X.ex ∨ X.s₀.heap.objs.size <= b) /\ b ≠ X.env.locals /\ (∀ x c,X.env.cells.lookup x = some c -> c ≠ b) /\ ∀ p ∈ X.pn ++ pins,p.1 ≠ b)
  (keep:∀ b o,b ≠ X.env.locals -> b ∉ X.fs -> b ∉ ch -> s.heap.get? b = some o -> H b = none -> h'.get? b = some o)
  (slot:∀ b o,b ≠ X.env.locals -> b ∈ X.fs -> b ∉ ch -> s.heap.get? b = some o -> H b = none -> ∃ sl,h'.get? b = some { o with slots:=sl }) (free:∀ b o,b ∉ ch -> s.heap.get? b = some o -> H b = none -> H' b = none)
  (there:∀ b o,b ∉ ch -> s.heap.get? b = some o -> ∃ o',h'.get? b = some o')
  (tups:∀ b xs,H b = some (.tup xs) -> H' b = some (.tup xs)) (frzs:∀ b o u,H b = some (.frz o u) -> H' b = some (.frz o u)) (tbls:∀ b ps,H b = some (.tbl ps) -> ∃ more,H' b = some (.tbl (ps ++ more)))
  (ns:∀ m,s.heap.Ns X.env.locals m -> h'.Ns X.env.locals m) (hok:HOk X.prog X.w H' h') (hg:AllBare g') :
  Inv X pins σ H' { s with heap:=h',gens:=g',drawn:=d',toks:=t' }:=by
 have neL:∀ b o,X.s₀.heap.get? b = some o -> b ≠ X.env.locals:=λ b o e=>Nat.ne_of_lt (Nat.lt_of_lt_of_le (Heap.lt_size e) I.ok.above)
 have neC:∀ b o,X.s₀.heap.get? b = some o -> b ∉ X.ex -> b ∉ ch:=λ b o e hx hb=>by
  rcases (hch b hb).1 with z | z
  ·exact hx z
  ·exact absurd (Nat.lt_of_lt_of_le (Heap.lt_size e) z) (Nat.lt_irrefl _)
 have cellK:∀ x c,X.env.cells.lookup x = some c -> ∀ v,s.heap.IsCell c v -> h'.IsCell c v:=λ x c e v ⟨o,ho,hd⟩=>by
  have nch:c ∉ ch:=λ z=>(hch c z).2.2.1 x c e rfl
  by_cases hc:c ∈ X.fs
  ·obtain ⟨sl,q⟩:=slot c o (I.cne x c e) hc nch ho (I.freeC x c e)
   exact ⟨_,q,hd⟩
  ·exact ⟨o,keep c o (I.cne x c e) hc nch ho (I.freeC x c e),hd⟩
 refine ⟨I.ok,I.os,hg,⟨λ b o e n hb hx=>?_,λ b o e n hb hx=>?_,λ b o e n hx=>?_,λ b o e hx=>?_,λ b xs e=>tups b xs (I.base.tups b xs e),λ b o xs e=>frzs b o xs (I.base.frzs b o xs e),λ b ps e=>?_⟩,?_,λ x c e=>?_,?_,λ x c e=>?_,λ p hp=>?_,hok,I.len⟩
 ·exact keep b o (neL b o e) hb (neC b o e hx) (I.base.keep b o e n hb hx) (I.base.free b o e n hx)
 ·obtain ⟨sl,e1⟩:=I.base.slot b o e n hb hx
  obtain ⟨sl',e2⟩:=slot b _ (neL b o e) hb (neC b o e hx) e1 (I.base.free b o e n hx)
  exact ⟨sl',e2⟩
 ·obtain ⟨o',e1⟩:=I.base.there b o e hx
  exact free b o' (neC b o e hx) e1 (I.base.free b o e n hx)
 ·obtain ⟨o',e1⟩:=I.base.there b o e hx
  exact there b o' (neC b o e hx) e1
 ·obtain ⟨m1,e1⟩:=I.base.tbls b ps e
  obtain ⟨m2,e2⟩:=tbls b _ e1
  exact ⟨m1 ++ m2,by rw [e2,Array.append_assoc]⟩
 ·obtain ⟨m,hn,hl⟩:=I.loc
  refine ⟨m,ns m hn,λ i x v e1 e2 e3=>?_⟩
  obtain ⟨u,r,l⟩:=hl i x v e1 e2 e3
  refine ⟨u,r,?_⟩
  rcases l with l | ⟨k,c,e,z⟩
  ·exact .inl l
  ·exact .inr ⟨k,c,e,cellK x c e _ z⟩
 ·obtain ⟨v,z⟩:=I.cell x c e
  exact ⟨v,cellK x c e v z⟩
 ·obtain ⟨m,⟨o,_,_,ho,_⟩,_⟩:=I.loc
  exact free _ o (λ z=>(hch _ z).2.1 rfl) ho I.free
 ·obtain ⟨v,o,ho,hd⟩:=I.cell x c e
  exact free c o (λ z=>(hch c z).2.2.1 x c e rfl) ho (I.freeC x c e)
 ·obtain ⟨e,n,ne,nf,d⟩:=I.pin p hp
  have nch:p.1 ∉ ch:=λ z=>(hch p.1 z).2.2.2 p hp rfl
  exact ⟨keep p.1 p.2 ne nf nch e n,free p.1 p.2 nch e n,ne,nf,d⟩
theorem Inv.un {t':Nat} (I:Inv X pins σ H s) (u:Un X.fs [] H H' s.heap h') (hok:HOk X.prog X.w H' h'):Inv X pins σ H' { s with heap:=h',toks:=t' }:=by
 obtain ⟨m,⟨o,es,ep,ho,r⟩,_⟩:=id I.loc
 obtain ⟨sl,hL⟩:=u.any ho I.free (by simp)
 exact I.step (g':=s.gens) (d':=s.drawn) (ch:=[]) (λ _ z=>nomatch z) (λ b o _ hb _ e n=>u.keep b o e n hb (by simp)) (λ b o _ hb _ e n=>u.slot b o e n hb (by simp)) (λ b o _ e n=>u.free b o e n (by simp)) (λ b o _ e=>u.there b o e (by simp)) u.tups u.frzs u.tbls (λ m' hm=>by
  obtain ⟨o',es',ep',ho',r'⟩:=hm
  rw [ho] at ho'; cases ho'
  exact ⟨_,es',ep',hL,r'⟩) hok I.bare
theorem Inv.call {g':Array GenState} {t':Nat} {d':Drawn} {ch:List Addr} (I:Inv X pins σ H s) (u:Un (frs X.stack) ch H H' s.heap h') (hok:HOk X.prog X.w H' h') (hg:AllBare g')
  (hch:∀ b ∈ ch,(b ∈ X.ex ∨ X.s₀.heap.objs.size <= b) /\ b ≠ X.env.locals /\ (∀ x c,X.env.cells.lookup x = some c -> c ≠ b) /\ ∀ p ∈ X.pn ++ pins,p.1 ≠ b) :
  Inv X pins σ H' { s with heap:=h',gens:=g',drawn:=d',toks:=t' }:=by
 obtain ⟨m,⟨o,es,ep,ho,r⟩,_⟩:=id I.loc
 obtain ⟨sl,hL⟩:=u.any ho I.free λ z=>(hch _ z).2.1 rfl
 exact I.step (ch:=ch) hch (λ b o hL hb hc e n=>u.keep b o e n (λ z=>(List.mem_cons.mp (I.stkSub b z)).elim hL hb) hc) (λ b o _ _ hc e n=>u.any e n hc) (λ b o hc e n=>u.free b o e n hc) (λ b o hc e=>u.there b o e hc) u.tups u.frzs u.tbls (λ m' hm=>by
  obtain ⟨o',es',ep',ho',r'⟩:=hm
  rw [ho] at ho'; cases ho'
  exact ⟨_,es',ep',hL,r'⟩) hok hg
theorem Inv.turned {t':Nat} {it:Addr} (I:Inv X pins σ H s) (k:∀ b o,b ≠ it -> s.heap.get? b = some o -> h'.get? b = some o) (hn:H it = none) (hL:it ≠ X.env.locals)
  (h1:it ∈ X.ex ∨ X.s₀.heap.objs.size <= it) (h2:∀ x c,X.env.cells.lookup x = some c -> c ≠ it) (h3:∀ p ∈ X.pn ++ pins,p.1 ≠ it):Inv X pins σ H { s with heap:=h',toks:=t' }:=by
 have nit:∀ b u,H b = some u -> b ≠ it:=λ b u e z=>by rw [z,hn] at e; cases e
 refine I.step (g':=s.gens) (d':=s.drawn) (ch:=[it]) (λ b hb=>?_) (λ b o _ _ hc e _=>k b o (λ z=>hc (by simp [z])) e) (λ b o _ _ hc e _=>⟨o.slots,k b o (λ z=>hc (by simp [z])) e⟩) (λ _ _ _ _ n=>n)
  (λ b o hc e=>⟨o,k b o (λ z=>hc (by simp [z])) e⟩) (λ _ _ e=>e) (λ _ _ _ e=>e) (λ b ps e=>⟨#[],by rw [e]; simp⟩) (λ m hm=>?_) (λ b u e=>?_) I.bare
 ·have e:b = it:=by simpa using hb
  subst e
  exact ⟨h1,hL,h2,h3⟩
 ·obtain ⟨o,es,ep,ho,r⟩:=hm
  exact ⟨o,es,ep,k _ o (Ne.symm hL) ho,r⟩
 ·refine (I.hok b u e).stay (λ c v hc q=>k c v ?_ q) (λ _ q=>q) λ _ _ q=>q
  rcases hc with z | z
  ·rw [z]; exact nit b u e
  ·exact nit c _ z
theorem Inv.tok (I:Inv X pins σ H s) (t:Nat):Inv X pins σ H { s with toks:=t }:=I.un (h':=s.heap) (t':=t) Un.refl I.hok
theorem Inv.kept {t':Nat} (I:Inv X pins σ H s) (k:∀ b u,s.heap.get? b = some u -> h'.get? b = some u):Inv X pins σ H { s with heap:=h',toks:=t' }:=I.un (Un.kept k) (I.hok.kept k)
theorem Inv.laid {a:Addr} {o:HO} {t':Nat} (I:Inv X pins σ H s) (k:∀ b u,s.heap.get? b = some u -> h'.get? b = some u) (hp:s.heap.objs.size <= a) (new:ObjOk X.prog X.w (upd H a o) h' a o) :
  Inv X pins σ (upd H a o) { s with heap:=h',toks:=t' }:=I.un (Un.laid k hp (I.hok.fresh hp)) (I.hok.laid k hp new)
theorem Inv.write {x e:Addr} {o:HO} {t':Nat} (I:Inv X pins σ H s) (mu:Mut (H x)) (he:e = x ∨ H e = some (.own x)) (k:∀ b u,b ≠ e -> s.heap.get? b = some u -> h'.get? b = some u) (heo:∃ u,h'.get? e = some u)
  (new:ObjOk X.prog X.w (upd H x o) h' x o):Inv X pins σ (upd H x o) { s with heap:=h',toks:=t' }:=I.un (Un.write mu he k heo) (I.hok.write mu he k heo new)
theorem Inv.weak {σ':List (Option V)} (I:Inv X pins σ H s) (hl:σ'.length = σ.length) (w:∀ (i:Nat) v,σ'[i]? = some (some v) -> σ[i]? = some (some v)):Inv X pins σ' H s :=
 ⟨I.ok,I.os,I.bare,I.base,let ⟨m,hn,hl'⟩:=I.loc; ⟨m,hn,λ i x v e1 e2 e3=>hl' i x v e1 (w i v e2) e3⟩,I.cell,I.free,I.freeC,I.pin,I.hok,hl.trans I.len⟩
theorem Inv.pins_of {pins':List (Addr × Obj)} (I:Inv X pins σ H s) (h:∀ p ∈ pins',s.heap.get? p.1 = some p.2 /\ H p.1 = none /\ p.1 ≠ X.env.locals /\ p.1 ∉ X.fs /\ ∀ v,p.2.data ≠ .cell v):Inv X pins' σ H s :=
 ⟨I.ok,I.os,I.bare,I.base,I.loc,I.cell,I.free,I.freeC,λ p hp=>(List.mem_append.mp hp).elim (λ z=>I.pin p (List.mem_append_left _ z)) (h p),I.hok,I.len⟩
theorem nodup_ix {N:List Str} (hN:N.Nodup) {i j:Nat} {x:Str} (a:N[i]? = some x) (b:N[j]? = some x):i = j:=by
 obtain ⟨h1,e1⟩:=List.getElem?_eq_some_iff.mp a
 obtain ⟨h2,e2⟩:=List.getElem?_eq_some_iff.mp b
 exact (List.getElem_inj hN).mp (e1.trans e2.symm)
theorem store_ok2 {M:Model} {A:Around} {E:Value -> Shared -> Prop} {i:Nat} {x:Str} {v:V} {u:Value} {Q:Unit -> Shared -> Prop} (I:Inv X pins σ H s) (hN:X.N.Nodup) (hi:X.N[i]? = some x) (hx:Loc X.env.scope x) (r:RelV v u)
  (h:∀ s',Inv X pins (σ.set i (some v)) H s' -> (∃ a,Heap.SameBut a s.heap s'.heap /\ (a = X.env.locals ∨ X.env.cells.lookup x = some a)) -> Q () s') (hf:X.fn x = true ∨ X.env.scope.names.lookup x = some .local:=by first | exact .inl rfl | exact .inr rfl | assumption):wpAny M A (storeName X.env x u) Q E s:=by
 obtain ⟨m,hn,hl⟩:=id I.loc
 have hcls:(X.env.scope.kind == .class || (X.env.scope.kind == .module && X.env.locals != X.env.globals)) = false:=by rw [I.ok.kind]; rfl
 have hiσ:i < σ.length:=by rw [I.len]; exact (List.getElem?_eq_some_iff.mp hi).1
 have cne:=I.cne
 have tracked:∀ {a:Addr} {h':Heap},(∃ o,s.heap.get? a = some o /\ H a = none) -> Heap.SameBut a s.heap h' -> HOk X.prog X.w H h':=λ {a h'} ha hs b ob e=>by
  obtain ⟨_,_,hfree⟩:=ha
  refine (I.hok b ob e).stay (λ c w' hc q=>(hs.2 c ?_).trans q) (λ _ q=>q) λ _ _ q=>q
  rintro rfl
  rcases hc with rfl | hc
  ·rw [hfree] at e; cases e
  ·rw [hfree] at hc; cases hc
 rcases hx with hk | hk
 ·refine wpAny_storeName_local hk hn (λ h' hn' hs=>?_) hcls
  obtain ⟨oL,_,_,hoL,_⟩:=id hn
  refine h _ ⟨I.ok,I.os,I.bare,⟨λ b o e n hb hx=>?_,λ b o e n hb hx=>?_,I.base.free,λ b o e hx=>?_,I.base.tups,I.base.frzs,I.base.tbls⟩,⟨_,hn',λ j y v' e1 e2 e3=>?_⟩,λ y c e=>?_,I.free,I.freeC,λ p hp=>?_,tracked ⟨oL,hoL,I.free⟩ hs,by simpa using I.len⟩ ⟨_,hs,.inl rfl⟩
  ·exact (hs.2 b (Nat.ne_of_lt (Nat.lt_of_lt_of_le (Heap.lt_size e) I.ok.above))).trans (I.base.keep b o e n hb hx)
  ·obtain ⟨sl,e1⟩:=I.base.slot b o e n hb hx
   exact ⟨sl,(hs.2 b (Nat.ne_of_lt (Nat.lt_of_lt_of_le (Heap.lt_size e) I.ok.above))).trans e1⟩
  ·obtain ⟨o',e1⟩:=I.base.there b o e hx
   exact ⟨o',(hs.2 b (Nat.ne_of_lt (Nat.lt_of_lt_of_le (Heap.lt_size e) I.ok.above))).trans e1⟩
  ·by_cases hj:j = i
   ·subst hj
    rw [hi] at e1; cases e1
    rw [List.getElem?_set_self hiσ] at e2
    cases e2
    exact ⟨u,r,.inl ⟨hk,by simp⟩⟩
   ·rw [List.getElem?_set_ne (Ne.symm hj)] at e2
    obtain ⟨u',r',q⟩:=hl j y v' e1 e2 e3
    refine ⟨u',r',?_⟩
    rcases q with ⟨k,e⟩ | ⟨k,c,e,z⟩
    ·refine .inl ⟨k,?_⟩
     have:y ≠ x:=λ e=>hj (nodup_ix hN e1 (e ▸ hi))
     simp [this,e]
    ·exact .inr ⟨k,c,e,z.sameBut hs (cne y c e)⟩
  ·obtain ⟨w',z⟩:=I.cell y c e
   exact ⟨w',z.sameBut hs (cne y c e)⟩
  ·obtain ⟨e,n,ne,nf,d⟩:=I.pin p hp
   exact ⟨(hs.2 p.1 ne).trans e,n,ne,nf,d⟩
 ·have hfn:X.fn x = true:=by
   rcases hf with z | z
   ·exact z
   ·rw [z] at hk; cases hk
  obtain ⟨c,hc⟩:=I.ok.has x (.inl hk)
  obtain ⟨w',z⟩:=I.cell x c hc
  refine wpAny_storeName_cell I.ok.kind hk hc z (λ h' hc' hs=>?_)
  obtain ⟨oc,hoc,hocd⟩:=id z
  refine h { s with heap:=h' } ⟨I.ok,I.os,I.bare,⟨λ b o e n hb hx=>?_,λ b o e n hb hx=>?_,I.base.free,λ b o e hx=>?_,I.base.tups,I.base.frzs,I.base.tbls⟩,⟨m,hn.sameBut hs (Ne.symm (cne x c hc)),λ j y v' e1 e2 e3=>?_⟩,λ y c' e=>?_,I.free,I.freeC,λ p hp=>?_,tracked ⟨oc,hoc,I.freeC x c hc⟩ hs,by simpa using I.len⟩ ⟨c,hs,.inr hc⟩
  ·exact (hs.2 b (Nat.ne_of_lt (Nat.lt_of_lt_of_le (Heap.lt_size e) (I.ok.cab x c hfn hc)))).trans (I.base.keep b o e n hb hx)
  ·obtain ⟨sl,e1⟩:=I.base.slot b o e n hb hx
   exact ⟨sl,(hs.2 b (Nat.ne_of_lt (Nat.lt_of_lt_of_le (Heap.lt_size e) (I.ok.cab x c hfn hc)))).trans e1⟩
  ·obtain ⟨o',e1⟩:=I.base.there b o e hx
   exact ⟨o',(hs.2 b (Nat.ne_of_lt (Nat.lt_of_lt_of_le (Heap.lt_size e) (I.ok.cab x c hfn hc)))).trans e1⟩
  ·by_cases hj:j = i
   ·subst hj
    rw [hi] at e1; cases e1
    rw [List.getElem?_set_self hiσ] at e2
    cases e2
    exact ⟨u,r,.inr ⟨.inl hk,c,hc,hc'⟩⟩
   ·rw [List.getElem?_set_ne (Ne.symm hj)] at e2
    obtain ⟨u',r',q⟩:=hl j y v' e1 e2 e3
    refine ⟨u',r',?_⟩
    rcases q with q | ⟨k,c',e,z'⟩
    ·exact .inl q
    ·refine .inr ⟨k,c',e,z'.sameBut hs ?_⟩
     rintro rfl
     exact hj (nodup_ix hN e1 (I.ok.inj _ _ _ e hc ▸ hi))
  ·by_cases hcc:c' = c
   ·subst hcc; exact ⟨_,hc'⟩
   ·obtain ⟨w2,z2⟩:=I.cell y c' e
    exact ⟨w2,z2.sameBut hs hcc⟩
  ·obtain ⟨e,n,ne,nf,d⟩:=I.pin p hp
   refine ⟨(hs.2 p.1 ?_).trans e,n,ne,nf,d⟩
   intro q
   rw [q,hoc] at e
   have q':oc = p.2:=Option.some.inj e
   exact d w' (by rw [<- q']; exact hocd)
theorem store_ok {M:Model} {A:Around} {E:Value -> Shared -> Prop} {i:Nat} {x:Str} {v:V} {u:Value} {Q:Unit -> Shared -> Prop} (I:Inv X pins σ H s) (hN:X.N.Nodup) (hi:X.N[i]? = some x) (hx:Loc X.env.scope x) (r:RelV v u)
  (h:∀ s',Inv X pins (σ.set i (some v)) H s' -> Q () s') (hf:X.fn x = true ∨ X.env.scope.names.lookup x = some .local:=by first | exact .inl rfl | exact .inr rfl | assumption):wpAny M A (storeName X.env x u) Q E s :=
 store_ok2 I hN hi hx r (λ s' I' _=>h s' I') hf
theorem Inv.call' {s':Shared} {ch:List Addr} (I:Inv X pins σ H s) (ho:s'.os = s.os) (u:Un (frs X.stack) ch H H' s.heap s'.heap) (hok:HOk X.prog X.w H' s'.heap) (hg:AllBare s'.gens)
  (hch:∀ b ∈ ch,(b ∈ X.ex ∨ X.s₀.heap.objs.size <= b) /\ b ≠ X.env.locals /\ (∀ x c,X.env.cells.lookup x = some c -> c ≠ b) /\ ∀ p ∈ X.pn ++ pins,p.1 ≠ b):Inv X pins σ H' s':=by
 obtain ⟨h',g',d',t',o'⟩:=s'
 have e:o' = s.os:=ho
 subst e
 exact I.call (g':=g') (t':=t') (d':=d') u hok hg hch
end
abbrev XK:=Value -> Option Addr -> Hp -> Prop
abbrev St:=List (Option V)
abbrev VK:=V -> Hp -> Prop
abbrev TE:=St -> Hp -> VK -> Prop
abbrev TT:=St -> Hp -> (Bool -> Hp -> Prop) -> Prop
abbrev TA:=St -> Hp -> (List V -> Hp -> Prop) -> Prop
structure Ends where
 nx:St -> Hp -> Prop
 rt:VK
 bk:St -> Hp -> Prop:=λ _ _=>False
 ct:St -> Hp -> Prop:=λ _ _=>False
abbrev TS:=Ends -> St -> Hp -> Prop
def EP (X:Cx) (pins:List (Addr × Obj)) (σ:St) (Q:VK) (u:Value) (s':Shared):Prop:=∃ v H',Inv X pins σ H' s' /\ RelV v u /\ Q v H'
def TP (X:Cx) (pins:List (Addr × Obj)) (σ:St) (Q:Bool -> Hp -> Prop) (b:Bool) (s':Shared):Prop:=∃ H',Inv X pins σ H' s' /\ Q b H'
def AP (X:Cx) (pins:List (Addr × Obj)) (σ:St) (Q:List V -> Hp -> Prop) (us:List Value) (s':Shared):Prop:=∃ vs H',Inv X pins σ H' s' /\ Vals vs us /\ Q vs H'
def SP (X:Cx) (pins:List (Addr × Obj)) (D:Ends) (f:Flow) (s':Shared):Prop :=
 match f with
 | .next=>∃ σ' H',Inv X pins σ' H' s' /\ D.nx σ' H'
 | .brk=>∃ σ' H',Inv X pins σ' H' s' /\ D.bk σ' H'
 | .cont=>∃ σ' H',Inv X pins σ' H' s' /\ D.ct σ' H'
 | .ret u=>∃ v σ' H',Inv X pins σ' H' s' /\ RelV v u /\ D.rt v H'
def PE (X:Cx) (e:Expr) (t:TE):Prop :=
 ∀ (pins:List (Addr × Obj)) (s:Shared) (σ:St) (H:Hp) (Q:VK),Inv X pins σ H s -> t σ H Q -> wpAny (model X.prog X.w) X.A (eval e X.env) (EP X pins σ Q) X.xe s
def PT (X:Cx) (e:Expr) (t:TT):Prop :=
 ∀ (pins:List (Addr × Obj)) (s:Shared) (σ:St) (H:Hp) (Q:Bool -> Hp -> Prop),Inv X pins σ H s -> t σ H Q -> wpAny (model X.prog X.w) X.A (isTrue e X.env (eval e X.env)) (TP X pins σ Q) X.xe s
def PW (X:Cx) (e:Expr) (t:TT):Prop :=
 ∀ (whole:Sem Value) (pins:List (Addr × Obj)) (s:Shared) (σ:St) (H:Hp) (Q:Bool -> Hp -> Prop),Inv X pins σ H s -> t σ H Q -> wpAny (model X.prog X.w) X.A (isTrue e X.env whole) (TP X pins σ Q) X.xe s
theorem PW.pt {X:Cx} {e:Expr} {t:TT} (h:PW X e t):PT X e t:=h _
def PA (X:Cx) (es:List Expr) (t:TA):Prop :=
 ∀ (pos:Pos) (pins:List (Addr × Obj)) (s:Shared) (σ:St) (H:Hp) (Q:List V -> Hp -> Prop),Inv X pins σ H s -> t σ H Q -> wpAny (model X.prog X.w) X.A (spliced (backTo pos (starEach es X.env))) (AP X pins σ Q) X.xe s
def PS (X:Cx) (st:Stmt) (t:TS):Prop :=
 ∀ (pins:List (Addr × Obj)) (s:Shared) (σ:St) (H:Hp) (D:Ends),Inv X pins σ H s -> t D σ H -> wpAny (model X.prog X.w) X.A (exec st X.env) (SP X pins D) X.xe s
def PSs (X:Cx) (st:List Stmt) (t:TS):Prop :=
 ∀ (pins:List (Addr × Obj)) (s:Shared) (σ:St) (H:Hp) (D:Ends),Inv X pins σ H s -> t D σ H -> wpAny (model X.prog X.w) X.A (execs st X.env) (SP X pins D) X.xe s
theorem thn {α:Type} {t:Sem α} {Q Q':α -> Shared -> Prop} {M:Model} {A:Around} {E:Value -> Shared -> Prop} {s:Shared} (h:wpAny M A t Q E s) (hQ:∀ a s,Q a s -> Q' a s):wpAny M A t Q' E s:=wpAny_mono h hQ λ _ _ x=>x
end L2
namespace L2
open PySem PySem.Spec PyProof.Rows
section
variable {X:Cx}
theorem bin {a b:Expr} {ta tb:TE} (ha:PE X a ta) (hb:PE X b tb) {pins:List (Addr × Obj)} {s:Shared} {σ:St} {H:Hp} {R:V -> V -> Hp -> Prop} (I:Inv X pins σ H s) (h:ta σ H λ x H1=>tb σ H1 λ y H2=>R x y H2)
  {α:Type} {Q:α -> Shared -> Prop} {f:Value -> Value -> Sem α}
  (hf:∀ v u s2 x y H2,Inv X pins σ H2 s2 -> RelV x v -> RelV y u -> R x y H2 -> wpAny (model X.prog X.w) X.A (f v u) Q X.xe s2) :
  wpAny (model X.prog X.w) X.A (eval a X.env) (λ v s₁=>wpAny (model X.prog X.w) X.A (eval b X.env) (λ u s₂=>wpAny (model X.prog X.w) X.A (f v u) Q X.xe s₂) X.xe s₁) X.xe s:=by
 refine thn (ha pins s σ H _ I h) λ v s1 ⟨x,H1,I1,r1,q1⟩=>?_
 refine thn (hb pins s1 σ H1 _ I1 q1) λ u s2 ⟨y,H2,I2,r2,q2⟩=>?_
 exact hf v u s2 x y H2 I2 r1 r2 q2
def tVar (i:Nat):TE:=λ σ H Q=>∃ v,σ[i]? = some (some v) /\ Q v H
def tC (v:V):TE:=λ _ H Q=>Q v H
theorem pe_var {i:Nat} {x:Str} {pos:Pos} (hN:X.N[i]? = some x) (hv:Vis X.env.scope x) (hd:(x == ("__debug__":Str)) = false:=by decide) (hcd:(x == ("__classdict__":Str)) = false:=by decide):PE X (.Name x pos) (tVar i):=by
 intro pins s σ H Q I h
 obtain ⟨v,e,h⟩:=h
 obtain ⟨m,hn,hl⟩:=I.loc
 obtain ⟨u,r,l⟩:=hl i x v hN e hv
 have fin:EP X pins σ Q u s:=⟨v,H,I,r,h⟩
 rcases l with ⟨hk,hm⟩ | ⟨hk,c,hc,hcell⟩
 ·exact wpAny_Name (wpAny_loadName_local I.ok.kind hk hn hm fin) hd
 ·rcases hk with hk | hk
  ·exact wpAny_Name (wpAny_loadName_cell I.ok.kind hk hc hcell fin) hd
  ·exact wpAny_Name (wpAny_loadName_free I.ok.kind hk hc hcell fin hcd) hd
theorem pe_int {i j pos}:PE X (.Constant (.int i) j pos) (tC (.int i)):=λ _ _ _ H _ I h=>wpAny_Constant_int ⟨.int i,H,I.tok _,⟨_,rfl⟩,h⟩
theorem pe_bl {b j pos}:PE X (.Constant (.bool b) j pos) (tC (.bl b)):=λ _ _ _ H _ I h=>Constant_bool ⟨.bl b,H,I,rfl,h⟩
theorem pe_non {j pos}:PE X (.Constant .none j pos) (tC .non):=λ _ _ _ H _ I h=>Constant_none ⟨.non,H,I,rfl,h⟩
theorem pe_str {x j pos}:PE X (.Constant (.str x) j pos) (tC (.str x)):=λ _ _ _ H _ I h=>Calls.Constant_str ⟨.str x,H,I.tok _,⟨_,rfl⟩,h⟩
def Gl (X:Cx) (x:Str):Prop:=X.env.kindOf x = some .globalImplicit
theorem ld_glob {E:Value -> Shared -> Prop} {pins:List (Addr × Obj)} {s:Shared} {σ:St} {H:Hp} {x:Str} {u:Value} {pos:Pos} {Q:Value -> Shared -> Prop} (I:Inv X pins σ H s) (hg:Gl X x) (hm:X.mg x = some u) (h:Q u s)
  (hd:(x == ("__debug__":Str)) = false:=by decide):wpAny (model X.prog X.w) X.A (eval (.Name x pos) X.env) Q E s :=
 Calls.Name_function_global I.ok.kind hg (Calls.loadGlobal_global (by rw [I.ok.glob]; exact I.mod.glob.keeps I.bk) hm h) hd
theorem ld_blt {E:Value -> Shared -> Prop} {pins:List (Addr × Obj)} {s:Shared} {σ:St} {H:Hp} {x:Str} {u:Value} {pos:Pos} {Q:Value -> Shared -> Prop} (I:Inv X pins σ H s) (hg:Gl X x) (hm:X.mg x = none) (hv:bootBuiltins x = some u) (h:Q u s)
  (hn:x ≠ "__name__":=by decide) (hd:(x == ("__debug__":Str)) = false:=by decide):wpAny (model X.prog X.w) X.A (eval (.Name x pos) X.env) Q E s:=by
 obtain ⟨mb,h1,h2⟩:=I.mod.blt
 exact Calls.Name_function_global I.ok.kind hg (Calls.loadGlobal_builtin (by rw [I.ok.glob]; exact I.mod.glob.keeps I.bk) hm (by rw [I.ok.blt]; exact h1.keeps I.bk) ((h2 x hn).trans hv) h) hd
theorem pe_glob {x:Str} {v:V} {u:Value} {pos:Pos} (hg:Gl X x) (hm:X.mg x = some u) (r:RelV v u) (hd:(x == ("__debug__":Str)) = false:=by decide):PE X (.Name x pos) (tC v) :=
 λ _ _ _ H _ I h=>ld_glob I hg hm ⟨v,H,I,r,h⟩ hd
theorem pe_bltn {x:Str} {v:V} {u:Value} {pos:Pos} (hg:Gl X x) (hm:X.mg x = none) (hv:bootBuiltins x = some u) (r:RelV v u) (hn:x ≠ "__name__":=by decide) (hd:(x == ("__debug__":Str)) = false:=by decide):PE X (.Name x pos) (tC v) :=
 λ _ _ _ H _ I h=>ld_blt I hg hm hv ⟨v,H,I,r,h⟩ hn hd
variable {a b:Expr} {ta tb:TE} {pos:Pos}
variable {tA tB':TT} {rest:List Expr}
def tAnd (t u:TT):TT:=λ σ H Q=>t σ H λ c H1=>if c = true then u σ H1 Q else Q false H1
def tOr (t u:TT):TT:=λ σ H Q=>t σ H λ c H1=>if c = true then Q true H1 else u σ H1 Q
theorem pw_and1 (ha:PT X a tA):PW X (.BoolOp .And [a] pos) tA:=by
 intro wh pins s σ H Q I h
 refine isTrue_and (thn (ha pins s σ H Q I h) λ c s1 e=>?_)
 cases c with
 | true=>exact isTrue_and_nil e
 | false=>exact e
theorem pw_or1 (ha:PT X a tA):PW X (.BoolOp .Or [a] pos) tA:=by
 intro wh pins s σ H Q I h
 refine isTrue_or (thn (ha pins s σ H Q I h) λ c s1 e=>?_)
 cases c with
 | false=>exact isTrue_or_nil e
 | true=>exact e
theorem pw_and (ha:PT X a tA) (hb:PW X (.BoolOp .And (b :: rest) pos) tB'):PW X (.BoolOp .And (a :: b :: rest) pos) (tAnd tA tB'):=by
 intro wh pins s σ H Q I h
 refine isTrue_and (thn (ha pins s σ H _ I h) λ c s1 ⟨H1,I1,q1⟩=>?_)
 cases c with
 | true=>exact hb wh pins s1 σ H1 Q I1 q1
 | false=>exact ⟨H1,I1,q1⟩
theorem pw_or (ha:PT X a tA) (hb:PW X (.BoolOp .Or (b :: rest) pos) tB'):PW X (.BoolOp .Or (a :: b :: rest) pos) (tOr tA tB'):=by
 intro wh pins s σ H Q I h
 refine isTrue_or (thn (ha pins s σ H _ I h) λ c s1 ⟨H1,I1,q1⟩=>?_)
 cases c with
 | true=>exact ⟨H1,I1,q1⟩
 | false=>exact hb wh pins s1 σ H1 Q I1 q1
def tAndV (ta tb:TE):TE:=λ σ H Q=>ta σ H λ x H1=>∃ c,x = .bl c /\ if c = true then tb σ H1 Q else Q (.bl false) H1
def tNotV (ta:TE):TE:=λ σ H Q=>ta σ H λ x H1=>∃ c,x = .bl c /\ Q (.bl (!c)) H1
theorem pe_one {op} {t:TE} (h:PE X a t):PE X (.BoolOp op [a] pos) t:=λ pins s σ H Q I hw=>BoolOp_one (h pins s σ H Q I hw)
theorem pe_and (ha:PE X a ta) (hb:PE X (.BoolOp .And (b :: rest) pos) tb):PE X (.BoolOp .And (a :: b :: rest) pos) (tAndV ta tb):=by
 intro pins s σ H Q I h
 refine BoolOp_and (thn (ha pins s σ H _ I h) λ v s1 ⟨x,H1,I1,r1,q1⟩=>?_)
 obtain ⟨c,rfl,q1⟩:=q1
 cases r1
 refine wpAny_truthy_bool ?_
 cases c with
 | true=>exact hb pins s1 σ H1 Q I1 q1
 | false=>exact ⟨.bl false,H1,I1,rfl,q1⟩
theorem pe_not (ha:PE X a ta):PE X (.UnaryOp .Not a pos) (tNotV ta):=by
 intro pins s σ H Q I h
 refine UnaryOp_ (thn (ha pins s σ H _ I h) λ v s1 ⟨x,H1,I1,r1,q1⟩=>?_)
 obtain ⟨c,rfl,q1⟩:=q1
 cases r1
 exact not_of (wpAny_truthy_bool ⟨.bl (!c),H1,I1,rfl,q1⟩)
def tIf (t:TT) (ta tb:TE):TE:=λ σ H Q=>t σ H λ c H1=>if c = true then ta σ H1 Q else tb σ H1 Q
theorem pe_ifExp {c:Expr} (hc:PT X c tA) (ha:PE X a ta) (hb:PE X b tb):PE X (.IfExp c a b pos) (tIf tA ta tb):=by
 intro pins s σ H Q I h
 refine wpAny_IfExp (thn (hc pins s σ H _ I h) λ d s1 ⟨H1,I1,q1⟩=>?_)
 cases d with
 | true=>exact ha pins s1 σ H1 Q I1 q1
 | false=>exact hb pins s1 σ H1 Q I1 q1
end
end L2
namespace L2
open PySem PySem.Spec PyProof.Rows
def SqL (K:PySem.W.Frag) (H:Hp) (a:Addr) (xs:List V):Prop :=
 Rd H a (.lst xs) ∨
  ∃ (o:Obj) (its:Array Value) (n:Nat),K.lookup a = some o /\ o.cls = .type "list" /\ o.dict = none /\ o.data = .seq its n /\ its.size <= sizeLine /\ Vals xs its.toList
def SqT (K:PySem.W.Frag) (H:Hp) (a:Addr) (xs:List V):Prop :=
 Rd H a (.tup xs) ∨
  ∃ (o:Obj) (its:Array Value) (n:Nat),K.lookup a = some o /\ o.cls = .type "tuple" /\ o.data = .seq its n /\ its.size <= sizeLine /\ Vals xs its.toList
section
variable {X:Cx} {pins:List (Addr × Obj)} {σ:St} {H:Hp} {s:Shared} {a:Addr} {xs ys:List V}
theorem SqL.of {K:PySem.W.Frag} (h:H a = some (.lst xs)):SqL K H a xs:=.inl (.inl h)
theorem SqT.of {K:PySem.W.Frag} (h:H a = some (.tup xs)):SqT K H a xs:=.inl (.inl h)
theorem Inv.list (I:Inv X pins σ H s) (h:SqL X.K H a xs):∃ its:List Value,Vals xs its /\ PlainL s.heap a its.toArray /\ xs.length <= sizeLine:=by
 rcases h with h | ⟨o,its,n,hk,hc,hd,hs,hz,r⟩
 ·obtain ⟨z,its,n,r,e⟩:=h.ok I.hok
  exact ⟨its,r,⟨_,n,e,rfl,rfl,rfl⟩,z⟩
 ·refine ⟨its.toList,r,⟨o,n,I.kIn a o hk,hc,hd,by simpa using hs⟩,?_⟩
  have e:=r.length
  simp only [Array.length_toList] at e
  omega
theorem Inv.tuple (I:Inv X pins σ H s) (h:SqT X.K H a xs):∃ its:List Value,Vals xs its /\ IsTup s.heap a its.toArray /\ xs.length <= sizeLine:=by
 rcases h with h | ⟨o,its,n,hk,hc,hs,hz,r⟩
 ·obtain ⟨z,its,r,p⟩:=h.ok I.hok
  exact ⟨its,r,p,z⟩
 ·refine ⟨its.toList,r,⟨o,I.kIn a o hk,hc,n,by simpa using hs⟩,?_⟩
  have e:=r.length
  simp only [Array.length_toList] at e
  omega
end
abbrev Cx.wish (X:Cx) (E:Value -> Shared -> Prop):Cx:={ X with xe:=E }
abbrev Cx.nox (X:Cx):Cx:=X.wish λ _ _=>False
theorem Cx.Ok.wish {X:Cx} (ok:X.Ok) (E:Value -> Shared -> Prop):(X.wish E).Ok :=
 ⟨ok.mod,ok.kind,ok.glob,ok.blt,ok.above,ok.inj,ok.has,ok.cab,ok.hd,ok.frames,ok.stk,ok.exf,ok.bs,ok.bsz,ok.noex,ok.exfs,ok.funs,ok.frf⟩
theorem Cx.Ok.unwish {X:Cx} {E:Value -> Shared -> Prop} (ok:(X.wish E).Ok):X.Ok :=
 ⟨ok.mod,ok.kind,ok.glob,ok.blt,ok.above,ok.inj,ok.has,ok.cab,ok.hd,ok.frames,ok.stk,ok.exf,ok.bs,ok.bsz,ok.noex,ok.exfs,ok.funs,ok.frf⟩
section
variable {X:Cx} {pins:List (Addr × Obj)} {σ:St} {H:Hp} {s:Shared} {E:Value -> Shared -> Prop}
theorem Inv.wish (I:Inv X pins σ H s) (E:Value -> Shared -> Prop):Inv (X.wish E) pins σ H s:=⟨I.ok.wish E,I.os,I.bare,I.base,I.loc,I.cell,I.free,I.freeC,I.pin,I.hok,I.len⟩
theorem Inv.unwish (I:Inv (X.wish E) pins σ H s):Inv X pins σ H s:=⟨I.ok.unwish,I.os,I.bare,I.base,I.loc,I.cell,I.free,I.freeC,I.pin,I.hok,I.len⟩
theorem SP.unwish {D:Ends} {f:Flow} {s':Shared} (h:SP (X.wish E) pins D f s'):SP X pins D f s':=by
 cases f with
 | next=>obtain ⟨σ',H',I,q⟩:=h; exact ⟨σ',H',I.unwish,q⟩
 | brk=>obtain ⟨σ',H',I,q⟩:=h; exact ⟨σ',H',I.unwish,q⟩
 | cont=>obtain ⟨σ',H',I,q⟩:=h; exact ⟨σ',H',I.unwish,q⟩
 | ret u=>obtain ⟨v,σ',H',I,r,q⟩:=h; exact ⟨v,σ',H',I.unwish,r,q⟩
theorem PSs.nox {st:List Stmt} {t:TS} (h:PSs X.nox st t):PSs X st t:=λ pins s σ H D I hw =>
 wpAny_mono (h pins s σ H D (I.wish _) hw) (λ _ _ q=>q.unwish) λ _ _ z=>False.elim z
end
section
variable {X:Cx} {st:Stmt} {rest:List Stmt} {t u:TS} {e:Expr} {te:TE} {pos:Pos}
def tNext:TS:=λ D σ H=>D.nx σ H
def tSeq (t u:TS):TS:=λ D σ H=>t { D with nx:=u D } σ H
theorem pss_nil:PSs X [] tNext:=λ _ _ σ H _ I h=>wpAny_execs_nil ⟨σ,H,I,h⟩
theorem pss_cons (h1:PS X st t) (h2:PSs X rest u):PSs X (st :: rest) (tSeq t u):=by
 intro pins s σ H D I h
 refine wpAny_execs_cons (thn (h1 pins s σ H { D with nx:=u D } I h) λ f s1 q=>?_)
 cases f with
 | next =>
  obtain ⟨σ',H',I',q⟩:=q
  exact h2 pins s1 σ' H' D I' q
 | ret v=>exact q
 | brk=>exact q
 | cont=>exact q
theorem pss_one (h1:PS X st t):PSs X [st] t:=by
 intro pins s σ H D I h
 refine wpAny_execs_cons (thn (h1 pins s σ H D I h) λ f s1 q=>?_)
 cases f with
 | next=>exact wpAny_execs_nil q
 | ret v=>exact q
 | brk=>exact q
 | cont=>exact q
theorem Inv.quiet {pins:List (Addr × Obj)} {σ:St} {H:Hp} {s:Shared} (I:Inv X pins σ H s):interactive X.env = false:=by simp [interactive,I.ok.kind]
def tDrop (te:TE):TS:=λ D σ H=>te σ H λ _ H1=>D.nx σ H1
theorem ps_expr (he:PE X e te) (hs:swapsWith e none pos.line X.env = pure false:=by rfl):PS X (.Expr e pos) (tDrop te):=by
 intro pins s σ H D I h
 exact wpAny_Expr_any (thn (he pins s σ H _ I h) λ v s1 ⟨x,H1,I1,r1,q1⟩=>⟨σ,H1,I1,q1⟩) I.quiet hs
def tRet (te:TE):TS:=λ D σ H=>te σ H D.rt
theorem ps_ret (he:PE X e te):PS X (.Return (some e) pos) (tRet te):=by
 intro pins s σ H D I h
 exact wpAny_Return_some (thn (he pins s σ H _ I h) λ v s1 ⟨x,H1,I1,r1,q1⟩=>⟨x,σ,H1,I1,r1,q1⟩)
def tIfS (c:TT) (t u:TS):TS:=λ D σ H=>c σ H λ b H1=>if b = true then t D σ H1 else u D σ H1
theorem ps_if {c:Expr} {a b:List Stmt} {tc:TT} (hc:PT X c tc) (ha:PSs X a t) (hb:PSs X b u):PS X (.If c a b pos) (tIfS tc t u):=by
 intro pins s σ H D I h
 refine wpAny_If (thn (hc pins s σ H _ I h) λ d s1 ⟨H1,I1,q1⟩=>?_)
 cases d with
 | true=>exact ha pins s1 σ H1 D I1 q1
 | false=>exact hb pins s1 σ H1 D I1 q1
end
abbrev TG:=V -> St -> Hp -> (St -> Hp -> Prop) -> Prop
abbrev TGs:=List V -> St -> Hp -> (St -> Hp -> Prop) -> Prop
def PG (X:Cx) (target:Expr) (t:TG):Prop :=
 ∀ (pins:List (Addr × Obj)) (s:Shared) (σ:St) (H:Hp) (v:V) (u:Value) (Q:St -> Hp -> Prop),Inv X pins σ H s -> RelV v u -> t v σ H Q ->
  wpAny (model X.prog X.w) X.A (assign target X.env u) (λ _ s'=>∃ σ' H',Inv X pins σ' H' s' /\ Q σ' H') X.xe s
def PGs (X:Cx) (ts:List Expr) (t:TGs):Prop :=
 ∀ (pins:List (Addr × Obj)) (s:Shared) (σ:St) (H:Hp) (vs:List V) (us:List Value) (Q:St -> Hp -> Prop),Inv X pins σ H s -> Vals vs us -> t vs σ H Q ->
  wpAny (model X.prog X.w) X.A (assignInOrder ((assignEach ts X.env).map (·.2)) us) (λ _ s'=>∃ σ' H',Inv X pins σ' H' s' /\ Q σ' H') X.xe s
abbrev TSet:=V -> V -> V -> Hp -> (Hp -> Prop) -> Prop
def PSet (X:Cx) (t:TSet):Prop :=
 ∀ (pins:List (Addr × Obj)) (s:Shared) (σ:St) (H:Hp) (o i v:V) (ov iv u:Value) (Q:Hp -> Prop),Inv X pins σ H s -> RelV o ov -> RelV i iv -> RelV v u -> t o i v H Q ->
  wpAny (model X.prog X.w) X.A (setItem ov iv u) (λ _ s'=>∃ H',Inv X pins σ H' s' /\ Q H') X.xe s
section
variable {X:Cx} {pos:Pos}
def gName (i:Nat):TG:=λ v σ H Q=>Q (σ.set i (some v)) H
theorem pg_name {i:Nat} {x:Str} (hN:X.N.Nodup) (hi:X.N[i]? = some x) (hx:Loc X.env.scope x) (hf:X.fn x = true ∨ X.env.scope.names.lookup x = some .local:=by first | exact .inl rfl | exact .inr rfl | assumption):PG X (.Name x pos) (gName i):=by
 intro pins s σ H v u Q I r h
 exact wpAny_assign_Name (store_ok I hN hi hx r (λ s' I'=>⟨_,H,I',h⟩) hf)
def gNil:TGs:=λ vs σ H Q=>vs = [] /\ Q σ H
def gCons (t:TG) (u:TGs):TGs:=λ vs σ H Q=>∃ v r,vs = v :: r /\ t v σ H λ σ' H'=>u r σ' H' Q
theorem pgs_nil:PGs X [] gNil:=by
 intro pins s σ H vs us Q I r h
 obtain ⟨e,h⟩:=h
 subst e
 cases r
 exact assignInOrder_nil ⟨σ,H,I,h⟩
theorem pgs_cons {e:Expr} {es:List Expr} {t:TG} {u:TGs} (h1:PG X e t) (h2:PGs X es u)
  (hs:(assignEach (e :: es) X.env).map (·.2) = assign e X.env :: (assignEach es X.env).map (·.2):=by rfl):PGs X (e :: es) (gCons t u):=by
 intro pins s σ H vs us Q I r h
 obtain ⟨v,vr,e1,h⟩:=h
 subst e1
 cases r with
 | cons r rr =>
  rw [hs]
  refine assignInOrder_cons (thn (h1 pins s σ H _ _ _ I r h) λ _ s1 ⟨σ1,H1,I1,q1⟩=>?_)
  exact h2 pins s1 σ1 H1 _ _ Q I1 rr q1
def gSub (to ti:TE) (t:TSet):TG:=λ v σ H Q=>to σ H λ o H1=>ti σ H1 λ i H2=>t o i v H2 λ H3=>Q σ H3
theorem pg_sub {o i:Expr} {to ti:TE} {t:TSet} (ho:PE X o to) (hi:PE X i ti) (hs:PSet X t)
  (ha:∀ v,assign (.Subscript o i pos) X.env v = (do
   let ov <- holding [v] (eval o X.env)
   let iv <- holding [v,ov] (eval i X.env)
   standAt pos
   holding [v,ov,iv] (setItem ov iv v)
   release [v,ov,iv] []):=by intro _; rfl):PG X (.Subscript o i pos) (gSub to ti t):=by
 intro pins s σ H v u Q I r h
 rw [ha]
 refine wpAny_bind (wpAny_holding (thn (ho pins s σ H _ I h) λ ov s1 ⟨x,H1,I1,r1,q1⟩=>?_))
 refine wpAny_bind (wpAny_holding (thn (hi pins s1 σ H1 _ I1 q1) λ iv s2 ⟨y,H2,I2,r2,q2⟩=>?_))
 refine wpAny_bind (wpAny_standAt (wpAny_bind (wpAny_holding (thn (hs pins s2 σ H2 x y v ov iv u _ I2 r1 r2 r q2) λ _ s3 ⟨H3,I3,q3⟩=>?_))))
 exact wpAny_release ⟨σ,H3,I3,q3⟩
def tAsg (te:TE) (g:TG):TS:=λ D σ H=>te σ H λ x H1=>g x σ H1 D.nx
theorem ps_asg {tg e:Expr} {te:TE} {g:TG} (he:PE X e te) (hg:PG X tg g) (hs:swapsWithSole [tg] e pos.line X.env = pure false:=by rfl) (hw:swappedStores [tg] e X.env = pure none:=by rfl)
  (h1:(assignEach [tg] X.env).map (·.2) = [assign tg X.env]:=by rfl):PS X (.Assign [tg] e pos) (tAsg te g):=by
 intro pins s σ H D I h
 refine wpAny_Assign_stores (thn (he pins s σ H _ I h) λ v s1 ⟨x,H1,I1,r1,q1⟩=>?_) hs hw
 rw [h1]
 exact thn (hg pins s1 σ H1 x v _ I1 r1 q1) λ _ s2 q=>q
theorem ps_set {i:Nat} {x:Str} {e:Expr} {te:TE} {pos':Pos} (hN:X.N.Nodup) (hi:X.N[i]? = some x) (hx:Loc X.env.scope x) (he:PE X e te) (hs:swapsWith e (some (.Name x pos')) pos.line X.env = pure false:=by rfl) (hf:X.fn x = true ∨ X.env.scope.names.lookup x = some .local:=by first | exact .inl rfl | exact .inr rfl | assumption) :
  PS X (.Assign [.Name x pos'] e pos) (tAsg te (gName i)):=by
 intro pins s σ H D I h
 refine wpAny_Assign_Name (thn (he pins s σ H _ I h) λ v s1 ⟨y,H1,I1,r1,q1⟩=>?_) hs
 exact store_ok I1 hN hi hx r1 (λ s2 I2=>⟨_,H1,I2,q1⟩) hf
end
section
variable {X:Cx} {pos:Pos}
def tWhile (c:TT) (tb:TS):TS:=λ D σ H=>∃ W:Nat -> St -> Hp -> Prop,(∃ m,W m σ H) /\ ∀ m σ H,W m σ H ->
 c σ H λ b H1=>if b = true then ∃ N:St -> Hp -> Prop,(∀ σ' H',N σ' H' -> ∃ m',m' < m /\ W m' σ' H') /\ tb { D with nx:=N,ct:=N,bk:=D.nx } σ H1 else D.nx σ H1
theorem ps_while {c:Expr} {body:List Stmt} {tc:TT} {tb:TS} (hp:PassesOwn (model X.prog X.w) X.A X.env X.xe) (hc:PT X c tc) (hb:PSs X body tb):PS X (.While c body [] pos) (tWhile tc tb):=by
 intro pins s σ H D I h
 obtain ⟨W,⟨m0,w0⟩,turn⟩:=h
 refine wpAny_While (codeAny_whileLoop (λ n s'=>∃ σ' H',Inv X pins σ' H' s' /\ W n σ' H') ?_ m0 ⟨σ,H,I,w0⟩)
 rintro n s1 ⟨σ1,H1,I1,w1⟩
 refine wpAny_passesOwn hp (thn (hc pins s1 σ1 H1 _ I1 (turn n σ1 H1 w1)) λ b s2 ⟨H2,I2,q2⟩=>?_)
 cases b with
 | true =>
  obtain ⟨N,hN,q2⟩:=q2
  rw [if_pos rfl]
  refine wpAny_passesOwn hp (thn (hb pins s2 σ1 H2 _ I2 q2) λ f s3 q3=>?_)
  cases f with
  | next =>
   obtain ⟨σ3,H3,I3,n3⟩:=q3
   obtain ⟨m',hm,w3⟩:=hN σ3 H3 n3
   exact ⟨m',hm,σ3,H3,I3,w3⟩
  | cont =>
   obtain ⟨σ3,H3,I3,n3⟩:=q3
   obtain ⟨m',hm,w3⟩:=hN σ3 H3 n3
   exact ⟨m',hm,σ3,H3,I3,w3⟩
  | brk=>exact q3
  | ret v=>exact q3
 | false =>
  rw [if_neg Bool.false_ne_true]
  exact wpAny_execs_nil ⟨σ1,H2,I2,q2⟩
end
structure It where
 go:Nat -> Hp -> Prop
 yld:Nat -> Hp -> V -> Hp -> Prop
 stop:Nat -> Hp -> Prop
def FpOk (X:Cx) (pins:List (Addr × Obj)) (H:Hp) (b:Addr):Prop :=
 H b = none /\ b ≠ X.env.locals /\ b ∉ X.fs /\ (b ∈ X.ex ∨ X.s₀.heap.objs.size <= b) /\ (∀ x c,X.env.cells.lookup x = some c -> c ≠ b) /\ ∀ p ∈ X.pn ++ pins,p.1 ≠ b
theorem Inv.fpOk {X:Cx} {pins:List (Addr × Obj)} {σ:St} {H H':Hp} {s:Shared} {b:Addr} (I:Inv X pins σ H s) (hb:s.heap.objs.size <= b) (hn:H' b = none):FpOk X pins H' b:=by
 refine ⟨hn,Nat.ne_of_gt (Nat.lt_of_lt_of_le I.lt hb),I.nofs hb,.inr (Nat.le_trans I.sz hb),λ x c e z=>?_,λ p hp z=>?_⟩
 ·obtain ⟨v,q⟩:=I.cell x c e
  exact absurd (Nat.lt_of_lt_of_le q.lt (by rw [z]; exact hb)) (Nat.lt_irrefl _)
 ·exact absurd (Nat.lt_of_lt_of_le (Heap.lt_size (I.pin p hp).1) (by rw [z]; exact hb)) (Nat.lt_irrefl _)
structure Turn (P:Program) (w:World) (K:PySem.W.Frag) (tg:Expr) (J:It) (fp:List Addr) (it:Addr) (tn:Nat -> Heap -> Prop):Prop where
 mem:it ∈ fp
 obj:∀ i h,tn i h -> ∀ b ∈ fp,∃ o,h.get? b = some o /\ ∀ v,o.data ≠ .cell v
 keep:∀ i h h',tn i h -> (∀ b ∈ fp,∀ o,h.get? b = some o -> h'.get? b = some o) -> tn i h'
 item:∀ (X:Cx),X.prog = P -> X.w = w -> X.K = K -> X.calm = true -> ∀ (i:Nat) (pins:List (Addr × Obj)) (s:Shared) (σ:St) (H:Hp) (E:Value -> Shared -> Prop),Inv X pins σ H s -> (∀ b ∈ fp,FpOk X pins H b) -> tn i s.heap -> J.go i H ->
  wpAny (model P w) X.A (pyNext (.ref it)) (λ r s1=>∃ u,r = some u /\
   wpAny (model P w) X.A (letOwnedTupleGo tg (.ref it) u) (λ _ s2=>∃ x H',Inv X pins σ H' s2 /\ RelV x u /\ J.yld i H x H' /\ tn (i + 1) s2.heap /\ ∀ b ∈ fp,H' b = none) E s1) E s
 done:∀ (X:Cx),X.prog = P -> X.w = w -> X.K = K -> X.calm = true -> ∀ (i:Nat) (pins:List (Addr × Obj)) (s:Shared) (σ:St) (H:Hp) (E:Value -> Shared -> Prop),Inv X pins σ H s -> (∀ b ∈ fp,FpOk X pins H b) -> tn i s.heap -> J.stop i H ->
  wpAny (model P w) X.A (pyNext (.ref it)) (λ r s1=>r = none /\ Inv X pins σ H s1) E s
 self:∀ (A:Around) (i:Nat) (s:Shared) (Q:Value -> Shared -> Prop) (E:Value -> Shared -> Prop),tn i s.heap -> Q (.ref it) s -> wpAny (model P w) A (pyIter (.ref it)) Q E s
abbrev TI:=St -> Hp -> (It -> Hp -> Prop) -> Prop
def PIE (X:Cx) (pins:List (Addr × Obj)) (σ:St) (tg:Expr) (R:It -> Hp -> Prop) (itv:Value) (s2:Shared):Prop :=
 ∃ (it:Addr) (fp:List Addr) (tn:Nat -> Heap -> Prop) (J:It) (H':Hp),itv = .ref it /\ Inv X pins σ H' s2 /\ Turn X.prog X.w X.K tg J fp it tn /\ tn 0 s2.heap /\ (∀ b ∈ fp,FpOk X pins H' b) /\ R J H'
def PI (X:Cx) (tg iter:Expr) (wi:TI):Prop :=
 ∀ (pins:List (Addr × Obj)) (s:Shared) (σ:St) (H:Hp) (R:It -> Hp -> Prop),Inv X pins σ H s -> wi σ H R ->
  wpAny (model X.prog X.w) X.A (eval iter X.env) (λ v s1=>wpAny (model X.prog X.w) X.A (pyIter v) (PIE X pins σ tg R) X.xe s1) X.xe s
theorem go_of {M:Model} {A:Around} {E:Value -> Shared -> Prop} {s:Shared} {tg:Expr} {it:Addr} {u:Value} {o:Obj} {n:String} {vs:Array Value} {Q:Unit -> Shared -> Prop} (ho:s.heap.get? it = some o) (hc:o.cls = .type n) (hd:o.data = .fields vs)
  (hn:["enumerate","zip","dict_itemiterator","dict_reverseitemiterator","odict_iterator","itertools.zip_longest","itertools.pairwise"].contains n = false) (hQ:Q () s):wpAny M A (letOwnedTupleGo tg (.ref it) u) Q E s:=by
 unfold letOwnedTupleGo
 cases tg <;> first
  | exact wpAny_pure hQ
  | (cases u <;> first
    | exact wpAny_pure hQ
    | (refine wpAny_bind (wpAny_load ho ?_)
       rw [hc,hd]
       show wpAny M A (if (["enumerate","zip","dict_itemiterator","dict_reverseitemiterator","odict_iterator","itertools.zip_longest","itertools.pairwise"].contains n && vs[0]? == some (rawInt _)) = true then _ else _) Q E s
       rw [if_neg (by intro h; rw [hn,Bool.false_and] at h; cases h)]
       exact wpAny_pure hQ))
def Itr (lo:Int) (n:Nat):It:=⟨λ i _=>i < n,λ i H x H'=>H' = H /\ x = .int (lo + i),λ i _=>n <= i⟩
theorem turn_range {P:Program} {w:World} {K:PySem.W.Frag} {tg:Expr} (it:Addr) (lo:Int) (n:Nat):Turn P w K tg (Itr lo n) [it] it (λ i h=>IsRangeIter h it (lo + (i:Nat) * 1) ((n:Int) - (i:Nat)) 1) where
 mem:=by simp
 obj:=λ i h st b hb=>by
  have e:b = it:=by simpa using hb
  subst e
  exact ⟨_,st,λ v z=>by
   have z':Data.fields _ = Data.cell v:=z
   cases z'⟩
 keep:=λ i h h' st k=>k it (by simp) _ st
 item:=by
  intro X hP hw hK hc i pins s σ H E I hf st hg
  subst hP hw hK
  obtain ⟨f0,f1,f2,f3,f4,f5⟩:=hf it (by simp)
  have W:=Walks.range (prog:=X.prog) (w:=X.w) (I.ok.hd hc) it lo 1 n
  refine W.item i s _ _ hg st λ v h' tk hv st' kk=>?_
  obtain ⟨t,rfl⟩:=hv
  have I1:Inv X pins σ H { s with heap:=h',toks:=tk }:=I.turned (λ b o hb e=>kk b o (by simpa using hb) e) f0 f1 f3 f4 f5
  refine ⟨_,rfl,go_of (s:={ s with heap:=h',toks:=tk }) (n:="range_iterator") st' rfl rfl (by decide) ⟨.int (lo + i),H,I1,⟨t,?_⟩,⟨rfl,rfl⟩,st',λ b hb=>(hf b hb).1⟩⟩
  rw [Int.mul_one]
 done:=by
  intro X hP hw hK hc i pins s σ H E I hf st hg
  subst hP hw hK
  obtain ⟨f0,f1,f2,f3,f4,f5⟩:=hf it (by simp)
  exact wpAny_pyNext_range_end (I.ok.hd hc) st (by have:n <= i:=hg; omega) λ h' eb=>⟨rfl,I.turned (t':=s.toks) (λ b o hb e=>eb b o hb e) f0 f1 f3 f4 f5⟩
 self:=λ _ _ _ _ _ st h=>wpAny_pyIter_rangeiter st h
end L2
namespace L2
open PySem PySem.Spec PyProof.Rows
section
variable {X:Cx} {tg:Expr}
theorem range_it {pins:List (Addr × Obj)} {σ:St} {H:Hp} {s:Shared} {R:It -> Hp -> Prop} {E:Value -> Shared -> Prop} {lo hi:Int} {t u v:Tok} {tk:Nat} (I:Inv X pins σ H s) (h1:-(2 ^ 62) <= lo) (h2:lo < 2 ^ 62) (h3:-(2 ^ 62) <= hi) (h4:hi < 2 ^ 62)
  (q:R (Itr lo (hi - lo).toNat) H):wpAny (model X.prog X.w) X.A (pyIter (.ref s.heap.objs.size)) (PIE X pins σ tg R) E { s with heap:=s.heap.push { cls:=.type "range",data:=.fields #[.int lo t,.int hi u,.int 1 v] },toks:=tk }:=by
 refine wpAny_pyIter_range (IsRange.new ..) (small_one h1 h2 h3 h4) ?_
 have I1:Inv X pins σ H { s with heap:=s.heap.push { cls:=.type "range",data:=.fields #[.int lo t,.int hi u,.int 1 v] },toks:=tk }:=I.kept λ b o e=>Heap.get?_push_of_some _ e
 refine ⟨(s.heap.push { cls:=.type "range",data:=.fields #[.int lo t,.int hi u,.int 1 v] }).objs.size,[(s.heap.push { cls:=.type "range",data:=.fields #[.int lo t,.int hi u,.int 1 v] }).objs.size],_,_,H,rfl,
  I1.kept (t':=tk) λ b o e=>Heap.get?_push_of_some _ e,turn_range _ lo (hi - lo).toNat,?_,λ b hb=>?_,q⟩
 ·have e1:lo + ((0:Nat):Int) * 1 = lo:=by simp
  have e2:(((hi - lo).toNat:Nat):Int) - ((0:Nat):Int) = Builtin.Range.rangeSize lo hi 1:=by rw [rangeSize_one]; split <;> omega
  show IsRangeIter _ _ (lo + ((0:Nat):Int) * 1) ((((hi - lo).toNat:Nat):Int) - ((0:Nat):Int)) 1
  rw [e1,e2]
  exact Heap.get?_push_size _ rfl
 ·have e:b = (s.heap.push { cls:=.type "range",data:=.fields #[.int lo t,.int hi u,.int 1 v] }).objs.size:=by simpa using hb
  subst e
  exact I1.fpOk (Nat.le_refl _) (I1.hok.fresh (Nat.le_refl _))
def iRng1 (ta:TA):TI:=λ σ H R=>ta σ H λ vs H1=>∃ j:Int,vs = [.int j] /\ -(2 ^ 62) <= j /\ j < 2 ^ 62 /\ R (Itr 0 j.toNat) H1
theorem pi_range1 {a:Expr} {ta:TA} {p pos:Pos} (hg:Gl X "range") (hm:X.mg "range" = none) (ha:PA X [a] ta) (hs:starEach [a] X.env = [(false,eval a X.env)]:=by rfl):PI X tg (.Call (.Name "range" p) [a] [] pos) (iRng1 ta):=by
 intro pins s σ H R I h
 refine Call_ (ld_blt I hg hm boot_range (PyProof.Rows.callWith_type1 (thn (ha pos pins s σ H _ I h) λ us s1 ⟨vs,H1,I1,r1,q1⟩=>?_) hs rfl))
 obtain ⟨j,e,q1,q2,q⟩:=q1
 subst e
 cases r1 with
 | cons r rr =>
  cases rr
  obtain ⟨t,rfl⟩:=r
  exact call_range_1 (range_it I1 (by omega) (by omega) q1 q2 (by simpa using q))
def tFor (wi:TI) (g:TG) (tb:TS):TS:=λ D σ H=>wi σ H λ J H1=>∃ W:Nat -> Nat -> St -> Hp -> Prop,(∃ m,W 0 m σ H1) /\ ∀ i m σ H,W i m σ H ->
 (J.stop i H /\ D.nx σ H) ∨ (J.go i H /\ ∃ N:St -> Hp -> Prop,(∀ σ' H',N σ' H' -> ∃ m',m' < m /\ W (i + 1) m' σ' H') /\ ∀ x H',J.yld i H x H' -> g x σ H' λ σ2 H2=>tb { D with nx:=N,ct:=N,bk:=D.nx } σ2 H2)
def pinsAt (fp:List Addr) (h:Heap):List (Addr × Obj):=fp.filterMap λ b=>(h.get? b).map λ o=>(b,o)
theorem mem_pinsAt {fp:List Addr} {h:Heap} {b:Addr} {o:Obj} (hb:b ∈ fp) (e:h.get? b = some o):(b,o) ∈ pinsAt fp h:=List.mem_filterMap.mpr ⟨b,hb,by rw [e]; rfl⟩
theorem of_pinsAt {fp:List Addr} {h:Heap} {p:Addr × Obj} (hp:p ∈ pinsAt fp h):p.1 ∈ fp /\ h.get? p.1 = some p.2:=by
 obtain ⟨b,hb,e⟩:=List.mem_filterMap.mp hp
 cases q:h.get? b with
 | none=>rw [q] at e; cases e
 | some o =>
  rw [q] at e
  have e':(b,o) = p:=Option.some.inj e
  subst e'
  exact ⟨hb,q⟩
theorem Inv.pinned {pins:List (Addr × Obj)} {σ:St} {H:Hp} {s:Shared} {fp:List Addr} (I:Inv X pins σ H s) (hf:∀ b ∈ fp,FpOk X pins H b) (ho:∀ b ∈ fp,∃ o,s.heap.get? b = some o /\ ∀ v,o.data ≠ .cell v):Inv X (pins ++ pinsAt fp s.heap) σ H s :=
 I.pins_of λ p hp=>(List.mem_append.mp hp).elim (λ z=>I.pin p (List.mem_append_right _ z)) λ z=>by
  obtain ⟨hb,e⟩:=of_pinsAt z
  obtain ⟨f0,f1,f2,_⟩:=hf p.1 hb
  obtain ⟨o,e',d⟩:=ho p.1 hb
  rw [e] at e'; cases e'
  exact ⟨e,f0,f1,f2,d⟩
theorem Inv.unpinned {pins pl:List (Addr × Obj)} {σ:St} {H:Hp} {s:Shared} (I:Inv X (pins ++ pl) σ H s):Inv X pins σ H s:=I.pins_of λ p hp=>I.pin p (List.mem_append_right _ (List.mem_append_left _ hp))
theorem ps_for {iter:Expr} {body:List Stmt} {wi:TI} {g:TG} {tb:TS} {pos:Pos} (hp:PassesOwn (model X.prog X.w) X.A X.env X.xe) (hc:X.calm = true) (hi:PI X tg iter wi) (hg:PG X tg g) (hb:PSs X body tb)
  (hs:∀ x,foldedSetIterable iter X.env x = pure x:=by intro _; rfl):PS X (.For tg iter body [] pos) (tFor wi g tb):=by
 intro pins s σ H D I h
 refine wpAny_For (thn (hi pins s σ H _ I h) λ v s1 h1=>thn h1 λ itv s2 h2=>?_) hs
 obtain ⟨it,fp,tn,J,H2,e,I2,T,st2,f2,W,⟨m0,w0⟩,turn⟩:=h2
 subst e
 have stat:∀ {H':Hp},(∀ b ∈ fp,H' b = none) -> ∀ b ∈ fp,FpOk X pins H' b:=λ hn b hb=>⟨hn b hb,(f2 b hb).2⟩
 refine codeAny_forLoop_any (λ n s'=>∃ i σ' H',Inv X pins σ' H' s' /\ tn i s'.heap /\ (∀ b ∈ fp,H' b = none) /\ W i n σ' H') ?_ m0 ⟨0,σ,H2,I2,st2,λ b hb=>(f2 b hb).1,w0⟩
 rintro n s3 ⟨i,σ3,H3,I3,st3,fr3,w3⟩
 rcases turn i n σ3 H3 w3 with ⟨stop,qn⟩ | ⟨go,N,hN,step⟩
 ·refine wpAny_passesOwn hp (thn (T.done X rfl rfl rfl hc i pins s3 σ3 H3 X.xe I3 (stat fr3) st3 stop) λ r s4 ⟨hr,I4⟩=>?_)
  subst hr
  exact wpAny_execs_nil ⟨σ3,H3,I4,qn⟩
 ·refine wpAny_passesOwn hp (thn (T.item X rfl rfl rfl hc i pins s3 σ3 H3 X.xe I3 (stat fr3) st3 go) λ r s4 ⟨u,hr,h4⟩=>?_)
  subst hr
  refine wpAny_passesOwn hp (thn h4 λ _ s5 ⟨x,H5,I5,r5,y5,st5,fr5⟩=>?_)
  have I5':=I5.pinned (stat fr5) (T.obj _ _ st5)
  refine wpAny_passesOwn hp (thn (hg _ s5 σ3 H5 x u _ I5' r5 (step x H5 y5)) λ _ s6 ⟨σ6,H6,I6,q6⟩=>?_)
  refine wpAny_passesOwn hp (thn (hb _ s6 σ6 H6 _ I6 q6) λ f s7 q7=>?_)
  have again:∀ {σ7:St} {H7:Hp},Inv X (pins ++ pinsAt fp s5.heap) σ7 H7 s7 -> N σ7 H7 -> ∃ m,m < n /\ ∃ i σ' H',Inv X pins σ' H' s7 /\ tn i s7.heap /\ (∀ b ∈ fp,H' b = none) /\ W i m σ' H':=λ {σ7 H7} I7 n7=>by
   obtain ⟨m',hm,w7⟩:=hN σ7 H7 n7
   refine ⟨m',hm,i + 1,σ7,H7,I7.unpinned,T.keep _ _ _ st5 λ b hb o e=>(I7.pin (b,o) (List.mem_append_right _ (List.mem_append_right _ (mem_pinsAt hb e)))).1,λ b hb=>?_,w7⟩
   obtain ⟨o,e,d⟩:=T.obj _ _ st5 b hb
   exact (I7.pin (b,o) (List.mem_append_right _ (List.mem_append_right _ (mem_pinsAt hb e)))).2.1
  cases f with
  | next=>obtain ⟨σ7,H7,I7,n7⟩:=q7; exact again I7 n7
  | cont=>obtain ⟨σ7,H7,I7,n7⟩:=q7; exact again I7 n7
  | brk=>obtain ⟨σ7,H7,I7,q7⟩:=q7; exact ⟨σ7,H7,I7.unpinned,q7⟩
  | ret v=>obtain ⟨x7,σ7,H7,I7,r7,q7⟩:=q7; exact ⟨x7,σ7,H7,I7.unpinned,r7,q7⟩
end
theorem for_range {lo:Int} {n:Nat} {g:TG} {tb:TS} {D:Ends} {σ:St} {H:Hp} (Pv:Nat -> St -> Hp -> Prop) (h0:Pv 0 σ H)
  (hs:∀ i σ H,i < n -> Pv i σ H -> g (.int (lo + i)) σ H λ σ2 H2=>tb { D with nx:=Pv (i + 1),ct:=Pv (i + 1),bk:=D.nx } σ2 H2) (hd:∀ σ H,Pv n σ H -> D.nx σ H) :
  ∃ W:Nat -> Nat -> St -> Hp -> Prop,(∃ m,W 0 m σ H) /\ ∀ i m σ H,W i m σ H ->
   ((Itr lo n).stop i H /\ D.nx σ H) ∨ ((Itr lo n).go i H /\ ∃ N:St -> Hp -> Prop,(∀ σ' H',N σ' H' -> ∃ m',m' < m /\ W (i + 1) m' σ' H') /\ ∀ x H',(Itr lo n).yld i H x H' -> g x σ H' λ σ2 H2=>tb { D with nx:=N,ct:=N,bk:=D.nx } σ2 H2):=by
 refine ⟨λ i m σ H=>m = n - i /\ i <= n /\ Pv i σ H,⟨n,by simp,Nat.zero_le _,h0⟩,?_⟩
 rintro i m σ H ⟨rfl,hi,p⟩
 by_cases hlt:i < n
 ·refine .inr ⟨hlt,Pv (i + 1),λ σ' H' p'=>⟨n - (i + 1),by omega,rfl,hlt,p'⟩,λ x H' y=>?_⟩
  obtain ⟨e,y⟩:=y
  subst e y
  exact hs i σ _ hlt p
 ·have e:i = n:=by omega
  subst e
  exact .inl ⟨Nat.le_refl _,hd σ H p⟩
end L2
namespace L2
open PySem PySem.Spec PyProof.Rows
abbrev R2:=V -> V -> Hp -> VK -> Prop
def OpR (X:Cx) (f:Value -> Value -> Sem Value) (r:R2):Prop :=
 ∀ (pins:List (Addr × Obj)) (s:Shared) (σ:St) (H:Hp) (x y:V) (v u:Value) (Q:VK),Inv X pins σ H s -> RelV x v -> RelV y u -> r x y H Q ->
  wpAny (model X.prog X.w) X.A (f v u) (EP X pins σ Q) X.xe s
def UnR (X:Cx) (f:Value -> Sem Value) (r:V -> Hp -> VK -> Prop):Prop :=
 ∀ (pins:List (Addr × Obj)) (s:Shared) (σ:St) (H:Hp) (x:V) (v:Value) (Q:VK),Inv X pins σ H s -> RelV x v -> r x H Q ->
  wpAny (model X.prog X.w) X.A (f v) (EP X pins σ Q) X.xe s
def CallR (X:Cx) (f:Value) (r:List V -> Hp -> VK -> Prop):Prop :=
 ∀ (pins:List (Addr × Obj)) (s:Shared) (σ:St) (H:Hp) (xs:List V) (us:List Value) (Q:VK),Inv X pins σ H s -> Vals xs us -> r xs H Q ->
  wpAny (model X.prog X.w) X.A (call f us) (EP X pins σ Q) X.xe s
def tOp (r:R2) (ta tb:TE):TE:=λ σ H Q=>ta σ H λ x H1=>tb σ H1 λ y H2=>r x y H2 Q
def tUn (r:V -> Hp -> VK -> Prop) (ta:TE):TE:=λ σ H Q=>ta σ H λ x H1=>r x H1 Q
def rI (C:Int -> Int -> Prop) (g:Int -> Int -> V):R2:=λ x y H Q=>∃ i j,x = .int i /\ y = .int j /\ C i j /\ Q (g i j) H
def rI0 (g:Int -> Int -> V):R2:=λ x y H Q=>∃ i j,x = .int i /\ y = .int j /\ Q (g i j) H
def rU (g:Int -> V):V -> Hp -> VK -> Prop:=λ x H Q=>∃ i,x = .int i /\ Q (g i) H
section
variable {X:Cx} {a b c:Expr} {ta tb tc:TE} {pos:Pos}
theorem binT (ha:PE X a ta) (hb:PE X b tb) {pins:List (Addr × Obj)} {s:Shared} {σ:St} {H:Hp} {R:V -> V -> Hp -> Prop} (I:Inv X pins σ H s)
  (h:ta σ H λ x H1=>tb σ H1 λ y H2=>R x y H2) {Q:Value -> Shared -> Prop} {f:Value -> Value -> Sem Value}
  (hf:∀ v u s2 x y H2,Inv X pins σ H2 s2 -> RelV x v -> RelV y u -> R x y H2 -> wpAny (model X.prog X.w) X.A (f v u) Q X.xe s2) :
  wpAny (model X.prog X.w) X.A (eval a X.env) (λ v s₁=>wpAny (model X.prog X.w) X.A (eval b X.env) (λ u s₂=>wpAny (model X.prog X.w) X.A (f v u) Q X.xe s₂) X.xe s₁) X.xe s:=by
 refine thn (ha pins s σ H _ I h) λ v s1 ⟨x,H1,I1,r1,q1⟩=>?_
 refine thn (hb pins s1 σ H1 _ I1 q1) λ u s2 ⟨y,H2,I2,r2,q2⟩=>?_
 exact hf v u s2 x y H2 I2 r1 r2 q2
theorem pe_op {op:Operator} {r:R2} (ho:OpR X (binaryOp op) r) (ha:PE X a ta) (hb:PE X b tb):PE X (.BinOp a op b pos) (tOp r ta tb):=by
 intro pins s σ H Q I h
 exact wpAny_BinOp (binT ha hb I h λ v u s2 x y H2 I2 rx ry q=>ho pins s2 σ H2 x y v u Q I2 rx ry q)
theorem pe_un {op:UnaryOp} {r:V -> Hp -> VK -> Prop} (ho:UnR X (unaryOp op) r) (ha:PE X a ta):PE X (.UnaryOp op a pos) (tUn r ta):=by
 intro pins s σ H Q I h
 exact UnaryOp_ (thn (ha pins s σ H _ I h) λ v s1 ⟨x,H1,I1,r1,q1⟩=>ho pins s1 σ H1 x v Q I1 r1 q1)
theorem opI {f:Value -> Value -> Sem Value} {C:Int -> Int -> Prop} {g:Int -> Int -> Int}
  (rule:∀ (i j:Int) (t u:Tok) (s:Shared) (Q:Value -> Shared -> Prop) (E:Value -> Shared -> Prop),C i j -> Q (.int (g i j) s.toks) { s with toks:=s.toks + 1 } -> wpAny (model X.prog X.w) X.A (f (.int i t) (.int j u)) Q E s) :
  OpR X f (rI C λ i j=>.int (g i j)):=by
 intro pins s σ H x y v u Q I rx ry h
 obtain ⟨i,j,rfl,rfl,hc,q⟩:=h
 obtain ⟨t,rfl⟩:=rx
 obtain ⟨t',rfl⟩:=ry
 exact rule i j t t' s _ _ hc ⟨.int (g i j),H,I.tok _,⟨_,rfl⟩,q⟩
theorem opI0 {f:Value -> Value -> Sem Value} {g:Int -> Int -> Int}
  (rule:∀ (i j:Int) (t u:Tok) (s:Shared) (Q:Value -> Shared -> Prop) (E:Value -> Shared -> Prop),Q (.int (g i j) s.toks) { s with toks:=s.toks + 1 } -> wpAny (model X.prog X.w) X.A (f (.int i t) (.int j u)) Q E s) :
  OpR X f (rI0 λ i j=>.int (g i j)):=by
 intro pins s σ H x y v u Q I rx ry h
 obtain ⟨i,j,rfl,rfl,q⟩:=h
 obtain ⟨t,rfl⟩:=rx
 obtain ⟨t',rfl⟩:=ry
 exact rule i j t t' s _ _ ⟨.int (g i j),H,I.tok _,⟨_,rfl⟩,q⟩
theorem opB0 {f:Value -> Value -> Sem Value} {g:Int -> Int -> Bool}
  (rule:∀ (i j:Int) (t u:Tok) (s:Shared) (Q:Value -> Shared -> Prop) (E:Value -> Shared -> Prop),Q (.bool (g i j)) s -> wpAny (model X.prog X.w) X.A (f (.int i t) (.int j u)) Q E s) :
  OpR X f (rI0 λ i j=>.bl (g i j)):=by
 intro pins s σ H x y v u Q I rx ry h
 obtain ⟨i,j,rfl,rfl,q⟩:=h
 obtain ⟨t,rfl⟩:=rx
 obtain ⟨t',rfl⟩:=ry
 exact rule i j t t' s _ _ ⟨.bl (g i j),H,I,rfl,q⟩
def CDiv (i j:Int):Prop:=0 < j /\ j < 1073741824
def CMul (i j:Int):Prop:=(-(2 ^ 64) < i /\ i < 2 ^ 64) ∨ (-(2 ^ 64) < j /\ j < 2 ^ 64)
theorem CMul.ok {i j:Int} (h:CMul i j):IntMulOk i j:=by
 rcases h with ⟨h1,h2⟩ | ⟨h1,h2⟩
 ·exact .of_left (intBits_le_64 h1 h2)
 ·exact .of_right (intBits_le_64 h1 h2)
theorem op_add:OpR X (binaryOp .Add) (rI0 λ i j=>.int (i + j)):=opI0 λ _ _ _ _ _ _ _ q=>add_int q
theorem op_mul:OpR X (binaryOp .Mult) (rI CMul λ i j=>.int (i * j)):=opI λ _ _ _ _ _ _ _ hc q=>mul_int q hc.ok
theorem op_fdiv:OpR X (binaryOp .FloorDiv) (rI CDiv λ i j=>.int (i / j)):=opI λ i j _ _ _ _ _ hc q=>by
 have h1:(0:Int) < j:=hc.1
 have h2:j < 1073741824:=hc.2
 exact floordiv_int (by omega) (by rw [Int.fdiv_eq_ediv_of_nonneg i (by omega)]; exact q) (.inl (PyProof.noPylong_small (by omega)))
theorem op_mod:OpR X (binaryOp .Mod) (rI (λ _ j=>0 < j) λ i j=>.int (i % j)):=opI λ i j _ _ _ _ _ hc q=>by
 have h1:(0:Int) < j:=hc
 exact mod_int' (by omega) (by rw [Int.fmod_eq_emod_of_nonneg i (by omega)]; exact q)
theorem unI {f:Value -> Sem Value} {g:Int -> Int}
  (rule:∀ (i:Int) (t:Tok) (s:Shared) (Q:Value -> Shared -> Prop) (E:Value -> Shared -> Prop),Q (.int (g i) s.toks) { s with toks:=s.toks + 1 } -> wpAny (model X.prog X.w) X.A (f (.int i t)) Q E s) :
  UnR X f (rU λ i=>.int (g i)):=by
 intro pins s σ H x v Q I rx h
 obtain ⟨i,rfl,q⟩:=h
 obtain ⟨t,rfl⟩:=rx
 exact rule i t s _ _ ⟨.int (g i),H,I.tok _,⟨_,rfl⟩,q⟩
theorem un_neg:UnR X (unaryOp .USub) (rU λ i=>.int (-i)):=unI λ _ _ _ _ _ q=>neg_int q
end
def scal:V -> V -> Bool
 | .non,.non=>true | .non,.int _=>true | .int _,.non=>true | .non,.bl _=>true | .bl _,.non=>true | .non,.str _=>true | .str _,.non=>true
 | .int _,.int _=>true | .bl _,.bl _=>true | .str _,.str _=>true | .byt _,.byt _=>true
 | .int _,.str _=>true | .str _,.int _=>true | .bl _,.str _=>true | .str _,.bl _=>true
 | _,_=>false
def rEq:R2:=λ x y H Q=>scal x y = true /\ Q (.bl (decide (x = y))) H
def rNe:R2:=λ x y H Q=>scal x y = true /\ Q (.bl (!decide (x = y))) H
theorem dec_int {i j:Int}:decide (V.int i = V.int j) = (i == j):=by
 rw [Bool.eq_iff_iff]
 simp
theorem dec_bl {i j:Bool}:decide (V.bl i = V.bl j) = (i == j):=by
 rw [Bool.eq_iff_iff]
 simp
theorem dec_str {i j:Str}:decide (V.str i = V.str j) = (i == j):=by
 rw [Bool.eq_iff_iff]
 simp
theorem dec_byt {i j:Array UInt8}:decide (V.byt i = V.byt j) = (i.toList == j.toList):=by
 rw [Bool.eq_iff_iff]
 cases i
 cases j
 simp
section
variable {X:Cx} {a b c:Expr} {ta tb tc:TE} {pos:Pos}
theorem fin_bl {pins:List (Addr × Obj)} {σ:St} {H:Hp} {s:Shared} {Q:VK} {k k':Bool} (I:Inv X pins σ H s) (q:Q (.bl k) H) (e:k = k'):EP X pins σ Q (.bool k') s:=by
 subst e
 exact ⟨.bl k,H,I,rfl,q⟩
theorem op_eq:OpR X (compareOp .Eq) rEq:=by
 intro pins s σ H x y v u Q I rx ry h
 obtain ⟨hs,q⟩:=h
 cases x with
 | non =>
  cases rx
  cases y with
  | non=>cases ry; exact PySem.EqNone.eq_none_none (fin_bl I q (by simp))
  | bl j=>cases ry; exact PySem.EqNone.eq_none_bool (fin_bl I q (by simp))
  | int j=>obtain ⟨t',rfl⟩:=ry; exact PySem.EqNone.eq_none_int (fin_bl I q (by simp))
  | str j=>obtain ⟨t',rfl⟩:=ry; exact PySem.EqNone.eq_none_str (fin_bl I q (by simp))
  | _=>exact absurd (show false = true from hs) Bool.false_ne_true
 | bl i =>
  cases rx
  cases y with
  | non=>cases ry; exact PySem.EqNone.eq_bool_none (fin_bl I q (by simp))
  | bl j=>cases ry; exact eq_bool (fin_bl I q dec_bl)
  | str j=>obtain ⟨t',rfl⟩:=ry; exact PySem.EqMixed.eq_bool_str (fin_bl I q (by simp))
  | _=>exact absurd (show false = true from hs) Bool.false_ne_true
 | int i =>
  obtain ⟨t,rfl⟩:=rx
  cases y with
  | non=>cases ry; exact PySem.EqNone.eq_int_none (fin_bl I q (by simp))
  | int j=>obtain ⟨t',rfl⟩:=ry; exact eq_int (fin_bl I q dec_int)
  | str j=>obtain ⟨t',rfl⟩:=ry; exact PySem.EqMixed.eq_int_str (fin_bl I q (by simp))
  | _=>exact absurd (show false = true from hs) Bool.false_ne_true
 | str i =>
  obtain ⟨t,rfl⟩:=rx
  cases y with
  | non=>cases ry; exact PySem.EqNone.eq_str_none (fin_bl I q (by simp))
  | bl j=>cases ry; exact PySem.EqMixed.eq_str_bool (fin_bl I q (by simp))
  | int j=>obtain ⟨t',rfl⟩:=ry; exact PySem.EqMixed.eq_str_int (fin_bl I q (by simp))
  | str j=>obtain ⟨t',rfl⟩:=ry; exact eq_str (fin_bl I q dec_str)
  | _=>exact absurd (show false = true from hs) Bool.false_ne_true
 | byt i =>
  obtain ⟨t,rfl⟩:=rx
  cases y with
  | byt j=>obtain ⟨t',rfl⟩:=ry; exact PySem.W.eq_bytes (fin_bl I q dec_byt)
  | _=>exact absurd (show false = true from hs) Bool.false_ne_true
 | _=>cases y <;> exact absurd (show false = true from hs) Bool.false_ne_true
theorem op_ne:OpR X (compareOp .NotEq) rNe:=by
 intro pins s σ H x y v u Q I rx ry h
 obtain ⟨hs,q⟩:=h
 cases x with
 | non =>
  cases rx
  cases y with
  | non=>cases ry; exact PySem.EqNone.ne_none_none (fin_bl I q (by simp))
  | bl j=>cases ry; exact PySem.EqNone.ne_none_bool (fin_bl I q (by simp))
  | int j=>obtain ⟨t',rfl⟩:=ry; exact PySem.EqNone.ne_none_int (fin_bl I q (by simp))
  | str j=>obtain ⟨t',rfl⟩:=ry; exact PySem.EqNone.ne_none_str (fin_bl I q (by simp))
  | _=>exact absurd (show false = true from hs) Bool.false_ne_true
 | bl i =>
  cases rx
  cases y with
  | non=>cases ry; exact PySem.EqNone.ne_bool_none (fin_bl I q (by simp))
  | bl j=>cases ry; exact ne_bool (fin_bl I q (congrArg not dec_bl))
  | str j=>obtain ⟨t',rfl⟩:=ry; exact PySem.EqMixed.ne_bool_str (fin_bl I q (by simp))
  | _=>exact absurd (show false = true from hs) Bool.false_ne_true
 | int i =>
  obtain ⟨t,rfl⟩:=rx
  cases y with
  | non=>cases ry; exact PySem.EqNone.ne_int_none (fin_bl I q (by simp))
  | int j=>obtain ⟨t',rfl⟩:=ry; exact ne_int (fin_bl I q (congrArg not dec_int))
  | str j=>obtain ⟨t',rfl⟩:=ry; exact PySem.EqMixed.ne_int_str (fin_bl I q (by simp))
  | _=>exact absurd (show false = true from hs) Bool.false_ne_true
 | str i =>
  obtain ⟨t,rfl⟩:=rx
  cases y with
  | non=>cases ry; exact PySem.EqNone.ne_str_none (fin_bl I q (by simp))
  | bl j=>cases ry; exact PySem.EqMixed.ne_str_bool (fin_bl I q (by simp))
  | int j=>obtain ⟨t',rfl⟩:=ry; exact PySem.EqMixed.ne_str_int (fin_bl I q (by simp))
  | str j=>obtain ⟨t',rfl⟩:=ry; exact ne_str (fin_bl I q (congrArg not dec_str))
  | _=>exact absurd (show false = true from hs) Bool.false_ne_true
 | byt i =>
  obtain ⟨t,rfl⟩:=rx
  cases y with
  | byt j=>obtain ⟨t',rfl⟩:=ry; exact PySem.W.ne_bytes (fin_bl I q (congrArg not dec_byt))
  | _=>exact absurd (show false = true from hs) Bool.false_ne_true
 | _=>cases y <;> exact absurd (show false = true from hs) Bool.false_ne_true
theorem op_lt:OpR X (compareOp .Lt) (rI0 λ i j=>.bl (decide (i < j))):=opB0 λ _ _ _ _ _ _ _ q=>lt_int q
theorem op_gt:OpR X (compareOp .Gt) (rI0 λ i j=>.bl (decide (j < i))):=opB0 λ _ _ _ _ _ _ _ q=>gt_int q
theorem op_in_str:OpR X (compareOp .In) (λ x y H Q=>∃ i j,x = .str i /\ y = .str j /\ Q (.bl (!(Builtin.Str.occurrences j i 0 j.length 1).isEmpty)) H):=by
 intro pins s σ H x y v u Q I rx ry h
 obtain ⟨i,j,rfl,rfl,q⟩:=h
 obtain ⟨t,rfl⟩:=rx
 obtain ⟨t',rfl⟩:=ry
 exact in_str (fin_bl I q rfl)
theorem op_isN:OpR X (compareOp .Is) (λ x y H Q=>y = .non /\ Q (.bl (decide (x = .non))) H):=by
 intro pins s σ H x y v u Q I rx ry h
 obtain ⟨rfl,q⟩:=h
 cases ry
 refine is_none_gen (fin_bl I q ?_)
 cases x <;> first
  | (cases rx; rfl)
  | (obtain ⟨t,rfl⟩:=rx; rfl)
theorem nomark (b:Expr) {op:CmpOp} (h:op ≠ .In:=by decide) (h2:op ≠ .NotIn:=by decide):behindInMarks op b = false:=by
 have e1:(op == CmpOp.In) = false:=by cases op <;> first | rfl | exact absurd rfl h
 have e2:(op == CmpOp.NotIn) = false:=by cases op <;> first | rfl | exact absurd rfl h2
 cases b <;> simp [behindInMarks,e1,e2]
theorem pe_cmpR {op:CmpOp} {r:R2} (ho:OpR X (compareOp op) r) (ha:PE X a ta) (hb:PE X b tb) (hm:behindInMarks op b = false):PE X (.Compare a [op] [b] pos) (tOp r ta tb):=by
 intro pins s σ H Q I h
 exact wpAny_Compare1 (binT ha hb I h λ v u s2 x y H2 I2 rx ry q=>ho pins s2 σ H2 x y v u Q I2 rx ry q) hm
def tTest (t:TE):TT:=λ σ H Q=>t σ H λ x H'=>∃ k,x = .bl k /\ Q k H'
theorem pt_cmpR {op:CmpOp} {r:R2} (ho:OpR X (compareOp op) r) (ha:PE X a ta) (hb:PE X b tb) (hm:behindInMarks op b = false):PT X (.Compare a [op] [b] pos) (tTest (tOp r ta tb)):=by
 intro pins s σ H Q I h
 refine wpAny_isTrue_Compare1 (thn (ha pins s σ H _ I h) λ v s1 ⟨x,H1,I1,r1,q1⟩=>thn (hb pins s1 σ H1 _ I1 q1) λ u s2 ⟨y,H2,I2,r2,q2⟩ =>
  thn (ho pins s2 σ H2 x y v u _ I2 r1 r2 q2) λ c s3 ⟨z,H3,I3,r3,k,e,q3⟩=>?_) hm
 subst e
 cases r3
 exact wpAny_truthy_bool ⟨H3,I3,q3⟩
theorem line63:(sizeLine:Nat) < 2 ^ 63:=by rw [sizeLine_eq]; decide
theorem op_add_str:OpR X (binaryOp .Add) (λ x y H Q=>∃ i j,x = .str i /\ y = .str j /\ i.length + j.length <= sizeLine /\ Q (.str (i ++ j)) H):=by
 intro pins s σ H x y v u Q I rx ry h
 obtain ⟨i,j,rfl,rfl,hz,q⟩:=h
 obtain ⟨t,rfl⟩:=rx
 obtain ⟨t',rfl⟩:=ry
 exact add_str (λ t' tk=>⟨.str (i ++ j),H,I.tok _,⟨_,rfl⟩,q⟩) hz
theorem vals1 {x:V} {us:List Value} (r:Vals [x] us):∃ u,us = [u] /\ RelV x u:=by
 cases r with
 | cons r1 r2=>cases r2; exact ⟨_,rfl,r1⟩
theorem vals2 {x y:V} {us:List Value} (r:Vals [x,y] us):∃ u w',us = [u,w'] /\ RelV x u /\ RelV y w':=by
 cases r with
 | cons r1 r2 =>
  cases r2 with
  | cons r3 r4=>cases r4; exact ⟨_,_,rfl,r1,r3⟩
theorem call_max2 (hc:X.calm = true):CallR X (.builtin "max") (λ xs H Q=>∃ i j,xs = [.int i,.int j] /\ Q (.int (if j > i then j else i)) H):=by
 intro pins s σ H xs us Q I r h
 obtain ⟨i,j,rfl,q⟩:=h
 obtain ⟨u,w',rfl,⟨t,rfl⟩,⟨t',rfl⟩⟩:=vals2 r
 refine max_two_ints (I.ok.hd hc) λ h' tk k=>⟨_,H,I.kept k,?_,q⟩
 by_cases hj:j > i
 ·rw [if_pos hj,if_pos hj]; exact ⟨_,rfl⟩
 ·rw [if_neg hj,if_neg hj]; exact ⟨_,rfl⟩
theorem call_min2 (hc:X.calm = true):CallR X (.builtin "min") (λ xs H Q=>∃ i j,xs = [.int i,.int j] /\ Q (.int (if j < i then j else i)) H):=by
 intro pins s σ H xs us Q I r h
 obtain ⟨i,j,rfl,q⟩:=h
 obtain ⟨u,w',rfl,⟨t,rfl⟩,⟨t',rfl⟩⟩:=vals2 r
 refine min_two_ints (I.ok.hd hc) λ h' tk k=>⟨_,H,I.kept k,?_,q⟩
 by_cases hj:j < i
 ·rw [if_pos hj,if_pos hj]; exact ⟨_,rfl⟩
 ·rw [if_neg hj,if_neg hj]; exact ⟨_,rfl⟩
end
end L2
namespace L2
open PySem PySem.Spec PyProof.Rows
structure ObjM (h:Heap) (x dx C:Addr) (mA:Str -> Option Value):Prop where
 obj:h.get? x = some (PySem.W.instObj C dx)
 ns:h.Ns1 dx mA
 ne:dx ≠ x
theorem lookIn_ns {h:Heap} {dx:Addr} {mA:Str -> Option Value} (n:h.Ns1 dx mA):∃ od,h.get? dx = some od /\ ∀ name,PySem.W.lookIn name od = some (mA name):=by
 obtain ⟨o,es,ep,ho,hd,hk,_,hm⟩:=n
 refine ⟨o,ho,λ name=>?_⟩
 have e:=hm name
 unfold nsFind findBy at e
 rw [<- Array.find?_toList] at e
 unfold PySem.W.lookIn
 rw [hd]
 dsimp only
 split
 ·rename_i y q
  rw [q] at e
  exact congrArg some e
 ·rename_i q
  rw [q] at e
  have a:es.toList.any (·.refKey) = false:=by
   rw [List.any_eq_false]
   intro y hy
   obtain ⟨z,t,hkey⟩:=hk y (Array.mem_toList_iff.mp hy)
   simp [DictEntry.refKey,hkey]
  have a':¬ es.toList.any (·.refKey) = true:=by rw [a]; exact Bool.false_ne_true
  rw [if_neg a']
  exact congrArg some e
theorem ObjM.look {h:Heap} {x dx C:Addr} {mA:Str -> Option Value} (I:ObjM h x dx C mA):∃ od,PySem.W.InstAt h x (PySem.W.instObj C dx) C (some od) /\ ∀ name,PySem.W.lookIn name od = some (mA name) :=
 let ⟨od,ho,hl⟩:=lookIn_ns I.ns
 ⟨od,⟨I.obj,rfl,rfl,ho⟩,hl⟩
section
variable {prog:Program} {w:World} {A:Around} {E:Value -> Shared -> Prop} {s:Shared} {K:PySem.W.Frag} {x dx C f:Addr} {mA:Str -> Option Value} {name:Str} {v:Value}
theorem get_map {expr:Bool} {Q:Value -> Shared -> Prop} (X:K.In s.heap) (I:ObjM s.heap x dx C mA) (hg:PySem.W.plainGet K C name = true) (hh:PySem.W.hasDictIn K C = true)
  (ha:PySem.W.findIn K (.ref C) name = some none) (hv:mA name = some v) (hv':PySem.W.handedIn v = true) (h:Q v { s with toks:=s.toks + 1 }) :
  wpAny (model prog w) A (getAttr (.ref x) name expr) Q E s:=by
 obtain ⟨od,J,hl⟩:=I.look
 exact PySem.W.get_value X J (PySem.W.plainGet_of hg).1 (PySem.W.findObj_own hh ha rfl (by rw [hl,hv])) hv' h
theorem get_meth {pl:Sem Bool} {Q:Value × List Value -> Shared -> Prop} (X:K.In s.heap) (I:ObjM s.heap x dx C mA) (hg:PySem.W.plainGet K C name = true)
  (hf:PySem.W.findIn K (.ref C) name = some (some (.ref f))) (ht:PySem.W.isFn K (.ref f) = true) (hv:mA name = none) (h:Q (.ref f,[.ref x]) s) :
  wpAny (model prog w) A (getMethod (.ref x) name pl) Q E s:=by
 obtain ⟨od,J,hl⟩:=I.look
 exact PySem.W.method_fn X J (PySem.W.plainGet_of hg).1 (PySem.W.plainGet_of hg).2 hf (beq_iff_eq.mp ht) (by show (PySem.W.lookIn name od).map (·.isSome) = some false; rw [hl,hv]; rfl) h
theorem set_map {ns:List Str} {Q:Unit -> Shared -> Prop} (X:K.In s.heap) (I:ObjM s.heap x dx C mA)
  (hs:PySem.W.findIn K (.ref C) "__setattr__" = some (some (.builtin "object.__setattr__"))) (hp:PySem.W.plainOver K C = true) (ht:PySem.W.takerIn K C name = some none) (hh:PySem.W.hasDictIn K C = true)
  (hw:PySem.Within mA ns) (hsz:ns.length <= sizeLine)
  (h:∀ h',ObjM h' x dx C (λ y=>if y = name then some v else mA y) -> Heap.SameBut dx s.heap h' -> Q () { s with heap:=h',toks:=s.toks + 2 }) :
  wpAny (model prog w) A (setAttr (.ref x) name v) Q E s:=by
 obtain ⟨od,J,hl⟩:=I.look
 refine PySem.W.set_plain X J hs (PySem.W.osa_open (s:={ s with toks:=s.toks + 1 }) (r:=none) X J hp ht λ b=>?_)
 obtain ⟨cd,hc,hd'⟩:=PySem.W.any_some hh
 have hx:s.heap.get? x = some ⟨.ref C,some dx,.plain,#[]⟩:=I.obj
 refine wpAny_bind (wpAny_pure (wpAny_bind (wpAny_bind (wpAny_loadPart hx (wpAny_bind (PySem.W.Looks.here (s:={ s with toks:=s.toks + 1 }) (PySem.W.looks_clsIn X hc) ?_))))))
 rw [hd']
 refine wpAny_pure (a:=some dx) (wpAny_bind (wpAny_pure (wpAny_bind ?_)))
 refine wpAny_nsSet1 (s:={ s with toks:=s.toks + 1 }) I.ns λ h' hn2 hs2=>?_
 obtain ⟨oD,esD,epD,hoD,hdD,hcD⟩:=hn2.count (PySem.Within.cons name v hw)
 refine wpAny_bind (wpAny_lookBehind hoD (by rw [hdD]; exact pastItsLine_dict (Nat.le_trans hcD (by rw [List.length_cons]; omega))) ?_)
 exact wpAny_pure (h _ ⟨(hs2.2 _ (Ne.symm I.ne)).trans I.obj,hn2,I.ne⟩ hs2)
theorem make_map {R:Result -> Shared -> Prop} {vs:List Value} {kw:List (Str × Value)} (X:K.In s.heap) (hm:PySem.W.makesIn K C = true)
  (hi:PySem.W.findIn K (.ref C) "__init__" = some (some (.ref f))) (hf:PySem.W.typeIn K (.ref f) = some (.type "function"))
  (h:codeAny (model prog w) (A.under (.builtin "type.__call__" ⟨.ref C :: vs,kw⟩)) (.call (.ref f) ⟨.ref (s.heap.objs.size + 1) :: vs,kw⟩) (PySem.W.InitBack (s.heap.objs.size + 1) R)
   { s with heap:=(s.heap.push PySem.W.emptyDict).push (PySem.W.instObj C s.heap.objs.size) }) :
  codeAny (model prog w) A (.call (.ref C) ⟨vs,kw⟩) R s:=by
 obtain ⟨hh,g,d,t,os⟩:=s
 exact PySem.W.make_core (PySem.W.makes_of X hm) (PySem.W.looks_findIn X hi) (λ self=>PySem.W.bind_fn X self hf) (.inl rfl) h
theorem make_map0 {R:Result -> Shared -> Prop} (X:K.In s.heap) (hm:PySem.W.makesIn K C = true)
  (hi:PySem.W.findIn K (.ref C) "__init__" = some (some (.builtin "object.__init__")))
  (hb:∀ self,PySem.W.Looks (model prog w) s.heap (bindSpecial (.builtin "object.__init__") self) (.builtin "object.__init__",[self]))
  (h:codeAny (model prog w) (A.under (.builtin "type.__call__" ⟨[.ref C],[]⟩)) (.call (.builtin "object.__init__") ⟨[.ref (s.heap.objs.size + 1)],[]⟩) (PySem.W.InitBack (s.heap.objs.size + 1) R)
   { s with heap:=(s.heap.push PySem.W.emptyDict).push (PySem.W.instObj C s.heap.objs.size) }) :
  codeAny (model prog w) A (.call (.ref C) ⟨[],[]⟩) R s:=by
 obtain ⟨hh,g,d,t,os⟩:=s
 exact PySem.W.make_core (PySem.W.makes_of X hm) (PySem.W.looks_findIn X hi) hb (.inr ⟨rfl,rfl⟩) h
end
def putF (f:Str) (v:V):List (Str × V) -> List (Str × V)
 | []=>[(f,v)]
 | (g,x) :: r=>if g = f then (g,v) :: r else (g,x) :: putF f v r
theorem lookup_putF (f g:Str) (v:V):∀ fs:List (Str × V),(putF f v fs).lookup g = if g = f then some v else fs.lookup g
 | []=>by
  show List.lookup g [(f,v)] = _
  by_cases h:g = f
  ·have hb:(g == f) = true:=beq_iff_eq.mpr h
   simp only [List.lookup,hb,if_pos h]
  ·have hb:(g == f) = false:=beq_eq_false_iff_ne.mpr h
   simp only [List.lookup,hb,if_neg h]
 | (k,x) :: r=>by
  have ih:=lookup_putF f g v r
  rw [show putF f v ((k,x) :: r) = (if k = f then (k,v) :: r else (k,x) :: putF f v r) from rfl]
  by_cases hk:k = f
  ·rw [if_pos hk]
   by_cases h:g = k
   ·have hb:(g == k) = true:=beq_iff_eq.mpr h
    simp only [List.lookup,hb,if_pos (h.trans hk)]
   ·have hb:(g == k) = false:=beq_eq_false_iff_ne.mpr h
    simp only [List.lookup,hb,if_neg (λ e:g = f=>h (e.trans hk.symm))]
  ·rw [if_neg hk]
   by_cases h:g = k
   ·have hb:(g == k) = true:=beq_iff_eq.mpr h
    simp only [List.lookup,hb,if_neg (λ e:g = f=>hk (h.symm.trans e))]
   ·have hb:(g == k) = false:=beq_eq_false_iff_ne.mpr h
    simp only [List.lookup,hb]
    exact ih
theorem keys_putF (f:Str) (v:V):∀ fs:List (Str × V),f ∈ (putF f v fs).map (·.1) /\ ∀ g,g ∈ fs.map (·.1) -> g ∈ (putF f v fs).map (·.1)
 | []=>⟨by simp [putF],λ g h=>by simp at h⟩
 | (k,x) :: r=>by
  obtain ⟨i1,i2⟩:=keys_putF f v r
  rw [show putF f v ((k,x) :: r) = (if k = f then (k,v) :: r else (k,x) :: putF f v r) from rfl]
  by_cases hk:k = f
  ·rw [if_pos hk]
   subst hk
   exact ⟨by simp,λ g h=>by simpa using h⟩
  ·rw [if_neg hk]
   refine ⟨?_,λ g h=>?_⟩
   ·rw [List.map_cons]
    exact List.mem_cons_of_mem _ i1
   ·rw [List.map_cons] at h ⊢
    rcases List.mem_cons.mp h with e | e
    ·exact List.mem_cons.mpr (.inl e)
    ·exact List.mem_cons_of_mem _ (i2 g e)
theorem length_putF (f:Str) (v:V):∀ fs:List (Str × V),(putF f v fs).length <= fs.length + 1
 | []=>by simp [putF]
 | (k,x) :: r=>by
  have ih:=length_putF f v r
  rw [show putF f v ((k,x) :: r) = (if k = f then (k,v) :: r else (k,x) :: putF f v r) from rfl]
  by_cases hk:k = f
  ·rw [if_pos hk,List.length_cons,List.length_cons]; omega
  ·rw [if_neg hk,List.length_cons,List.length_cons]; omega
theorem RelO.some_of {v:V} {o:Option Value} (r:RelO (some v) o):∃ u,o = some u /\ RelV v u:=by
 cases o with
 | none=>exact (show False from r).elim
 | some u=>exact ⟨u,rfl,r⟩
theorem RelO.none_of {o:Option Value} (r:RelO none o):o = none:=by
 cases o with
 | none=>rfl
 | some u=>exact (show False from r).elim
theorem handed_of {v:V} {u:Value} (r:RelV v u):PySem.W.handedIn u = true:=by
 cases v with
 | non=>cases (show u = Value.none from r); rfl
 | bl b=>cases (show u = Value.bool b from r); rfl
 | int i=>obtain ⟨t,e⟩:=(show ∃ t,u = Value.int i t from r); cases e; rfl
 | str x=>obtain ⟨t,e⟩:=(show ∃ t,u = Value.str x t from r); cases e; rfl
 | byt b=>obtain ⟨t,e⟩:=(show ∃ t,u = Value.bytes b t from r); cases e; rfl
 | flt b=>obtain ⟨t,e⟩:=(show ∃ t,u = Value.float b t from r); cases e; rfl
 | ref a=>cases (show u = Value.ref a from r); rfl
 | ty n=>cases (show u = Value.type n from r); rfl
section
variable {P:Program} {w:World} {H H':Hp} {h h':Heap} {a C dx:Addr} {fs fs':List (Str × V)}
theorem ins_get (hok:HOk P w H h) (e:H a = some (.ins C dx fs)):∃ mA,ObjM h a dx C mA /\ (∀ f,RelO (fs.lookup f) (mA f)) /\ PySem.Within mA (fs.map (·.1)) /\ fs.length <= 1000 /\ H dx = some (.own a):=by
 obtain ⟨d,z,ne,ob,mA,n,r,q⟩:=(show ObjOk P w H h a (.ins C dx fs) from hok a _ e)
 exact ⟨mA,⟨ob,n,ne⟩,r,q,z,d⟩
end
structure Cls (K:PySem.W.Frag) (C:Addr):Prop where
 pg:PySem.W.plainGet K C Str.empty = true
 hd:PySem.W.hasDictIn K C = true
 po:PySem.W.plainOver K C = true
 sa:PySem.W.findIn K (.ref C) "__setattr__" = some (some (.builtin "object.__setattr__"))
theorem Cls.get {K:PySem.W.Frag} {C:Addr} (c:Cls K C) (f:Str):PySem.W.plainGet K C f = true:=c.pg
def NoAttr (K:PySem.W.Frag) (C:Addr) (f:Str):Prop:=PySem.W.findIn K (.ref C) f = some none
theorem NoAttr.taker {K:PySem.W.Frag} {C:Addr} {f:Str} (n:NoAttr K C f):PySem.W.takerIn K C f = some none:=by
 unfold PySem.W.takerIn
 rw [show PySem.W.findIn K (.ref C) f = some none from n]
 rfl
structure Meth (K:PySem.W.Frag) (C:Addr) (m:Str) (f:Addr):Prop where
 at_:PySem.W.findIn K (.ref C) m = some (some (.ref f))
 fn:PySem.W.isFn K (.ref f) = true
 kp:PySem.W.keepIn K (.ref f) = true
section
variable {X:Cx} {pins:List (Addr × Obj)} {σ:St} {H:Hp} {s:Shared} {a C dx:Addr} {fs:List (Str × V)} {f:Str} {v:V} {A:Around} {E:Value -> Shared -> Prop}
theorem getattr_ok {b:Bool} {Q:Value -> Shared -> Prop} (I:Inv X pins σ H s) (e:H a = some (.ins C dx fs)) (c:Cls X.K C) (n:NoAttr X.K C f) (l:fs.lookup f = some v)
  (h:∀ u s',Inv X pins σ H s' -> RelV v u -> Q u s'):wpAny (model X.prog X.w) A (getAttr (.ref a) f b) Q E s:=by
 obtain ⟨mA,O,r,_,_,_⟩:=ins_get I.hok e
 obtain ⟨u,hu,ru⟩:=RelO.some_of (v:=v) (o:=mA f) (by rw [<- l]; exact r f)
 exact get_map I.kIn O (c.get f) c.hd n hu (handed_of ru) (h u _ (I.tok _) ru)
theorem getmeth_ok {m:Str} {g:Addr} {pl:Sem Bool} {Q:Value × List Value -> Shared -> Prop} (I:Inv X pins σ H s) (e:H a = some (.ins C dx fs)) (c:Cls X.K C) (k:Meth X.K C m g) (l:fs.lookup m = none)
  (h:Q (.ref g,[.ref a]) s):wpAny (model X.prog X.w) A (getMethod (.ref a) m pl) Q E s:=by
 obtain ⟨mA,O,r,_,_,_⟩:=ins_get I.hok e
 have hn:mA m = none:=RelO.none_of (by rw [<- l]; exact r m)
 exact get_meth I.kIn O (c.get m) k.at_ k.fn hn h
theorem setattr_ok {y:V} {u:Value} {Q:Unit -> Shared -> Prop} (I:Inv X pins σ H s) (e:H a = some (.ins C dx fs)) (c:Cls X.K C) (n:NoAttr X.K C f) (hl:fs.length < 1000) (ry:RelV y u)
  (h:∀ s',Inv X pins σ (upd H a (.ins C dx (putF f y fs))) s' -> Q () s'):wpAny (model X.prog X.w) A (setAttr (.ref a) f u) Q E s:=by
 obtain ⟨mA,O,r,wi,_,ho⟩:=ins_get I.hok e
 have hz:(fs.map (·.1)).length <= sizeLine:=by rw [List.length_map,sizeLine_eq]; omega
 refine set_map I.kIn O c.sa c.po n.taker c.hd wi hz λ h' O' sb=>h _ ?_
 have hd:∃ o,h'.get? dx = some o:=let ⟨o,_,_,e',_⟩:=O'.ns; ⟨o,e'⟩
 refine I.write (x:=a) (e:=dx) (by rw [e]; exact True.intro) (.inr ho) (λ b q hb z=>(sb.2 b hb).trans z) hd ?_
 refine ⟨by rw [upd_ne O.ne]; exact ho,?_,O.ne,O'.obj,_,O'.ns,λ g=>?_,λ g hg=>?_⟩
 ·have:=length_putF f y fs; omega
 ·show RelO ((putF f y fs).lookup g) (if g = f then some u else mA g)
  rw [lookup_putF]
  by_cases q:g = f
  ·rw [if_pos q,if_pos q]; exact ry
  ·rw [if_neg q,if_neg q]; exact r g
 ·by_cases q:g = f
  ·rw [q]; exact (keys_putF f y fs).1
  ·refine (keys_putF f y fs).2 g (wi g λ z=>hg ?_)
   show (if g = f then some u else mA g) = none
   rw [if_neg q]; exact z
theorem Inv.made (I:Inv X pins σ H s):Inv X pins σ (upd (upd H s.heap.objs.size (.own (s.heap.objs.size + 1))) (s.heap.objs.size + 1) (.ins C s.heap.objs.size []))
  { s with heap:=(s.heap.push PySem.W.emptyDict).push (PySem.W.instObj C s.heap.objs.size) }:=by
 have e1:(s.heap.push PySem.W.emptyDict).get? s.heap.objs.size = some PySem.W.emptyDict:=Heap.get?_push_size s.heap rfl
 have e2:((s.heap.push PySem.W.emptyDict).push (PySem.W.instObj C s.heap.objs.size)).get? (s.heap.objs.size + 1) = some (PySem.W.instObj C s.heap.objs.size):=by
  have:=Heap.get?_push_size (s.heap.push PySem.W.emptyDict) (o:=PySem.W.instObj C s.heap.objs.size) rfl
  rwa [Heap.size_push] at this
 have e3:(s.heap.push PySem.W.emptyDict).Ns s.heap.objs.size (λ _=>none):=⟨PySem.W.emptyDict,#[],_,e1,rfl,(λ e he=>absurd he (by simp)),λ _=>rfl⟩
 have I1:=I.laid (a:=s.heap.objs.size) (o:=.own (s.heap.objs.size + 1)) (h':=s.heap.push PySem.W.emptyDict) (t':=s.toks) (λ b u q=>Heap.get?_push_of_some _ q) (Nat.le_refl _) ⟨_,e1⟩
 refine I1.laid (a:=s.heap.objs.size + 1) (o:=.ins C s.heap.objs.size []) (t':=s.toks) (λ b u q=>Heap.get?_push_of_some _ q) (Nat.le_of_eq (Heap.size_push _ _)) ?_
 have ne:s.heap.objs.size ≠ s.heap.objs.size + 1:=Nat.ne_of_lt (Nat.lt_succ_self _)
 refine ⟨by rw [upd_ne ne,upd_same],Nat.zero_le _,ne,e2,λ _=>none,(Heap.Ns1.of_empty e3).at λ o q=>Heap.get?_push_of_some _ q,λ _=>True.intro,λ y hy=>absurd rfl hy⟩
theorem attr_of {prog:Program} {w:World} {env:Env} {e:Expr} {f:Str} {pos:Pos} {s:Shared} {Q:Value -> Shared -> Prop} (hb:attributeBase e f env (eval e env) = eval e env)
  (h:wpAny (model prog w) A (eval e env) (λ o s₁=>wpAny (model prog w) A (getAttr o f true) Q E s₁) E s):wpAny (model prog w) A (eval (.Attribute e f pos) env) Q E s :=
 Attribute_any_ h (by rw [arm_eval_Attribute,hb])
end
def tFld (K:PySem.W.Frag) (ta:TE) (f:Str):TE:=λ σ H Q=>ta σ H λ x H1=>∃ a C dx fs v,x = .ref a /\ H1 a = some (.ins C dx fs) /\ Cls K C /\ NoAttr K C f /\ fs.lookup f = some v /\ Q v H1
def sFld (K:PySem.W.Frag) (ta tv:TE) (f:Str):TS:=λ D σ H=>tv σ H λ y H1=>ta σ H1 λ x H2=>∃ a C dx fs,x = .ref a /\ H2 a = some (.ins C dx fs) /\ Cls K C /\ NoAttr K C f /\ fs.length < 1000 /\
 D.nx σ (upd H2 a (.ins C dx (putF f y fs)))
section
variable {X:Cx} {o e value:Expr} {f:Str} {pos pos' tpos:Pos} {ta tv:TE}
theorem pe_fld (he:PE X e ta) (hb:attributeBase e f X.env (eval e X.env) = eval e X.env):PE X (.Attribute e f pos) (tFld X.K ta f):=by
 intro pins s σ H Q I h
 refine attr_of hb (thn (he pins s σ H _ I h) λ u s1 ⟨x,H1,I1,rx,a,C,dx,fs,v,ex,ea,c,n,l,q⟩=>?_)
 subst ex
 obtain rfl:u = Value.ref a:=rx
 exact getattr_ok I1 ea c n l λ u' s2 I2 ru=>⟨v,H1,I2,ru,q⟩
theorem ps_fld (ha:PE X o ta) (hv:PE X value tv) (hs:swapsWith value (some (.Attribute o f pos')) pos.line X.env = pure false):PS X (.Assign [.Attribute o f pos'] value pos) (sFld X.K ta tv f):=by
 intro pins s σ H D I h
 refine plainObj_wpAny_Assign_Attribute (thn (hv pins s σ H _ I h) λ u s1 ⟨y,H1,I1,ry,q⟩=>thn (ha pins s1 σ H1 _ I1 q) λ ov s2 ⟨x,H2,I2,rx,a,C,dx,fs,ex,ea,c,n,l,q2⟩=>?_) hs
 subst ex
 obtain rfl:ov = Value.ref a:=rx
 exact setattr_ok I2 ea c n l ry λ s3 I3=>⟨σ,_,I3,q2⟩
end
section
variable {X:Cx} {pins:List (Addr × Obj)} {σ:St} {H:Hp} {s:Shared} {A:Around} {E:Value -> Shared -> Prop} {Q:Value -> Shared -> Prop} {c:Value} {b:Bool}
inductive TyOf (K:PySem.W.Frag) (H:Hp):V -> Value -> Prop where
 | non:TyOf K H .non (.type "NoneType")
 | bl (x:Bool):TyOf K H (.bl x) (.type "bool")
 | int (i:Int):TyOf K H (.int i) (.type "int")
 | str (x:Str):TyOf K H (.str x) (.type "str")
 | flt (x:UInt64):TyOf K H (.flt x) (.type "float")
 | lst {a:Addr} {xs:List V} (e:H a = some (.lst xs)):TyOf K H (.ref a) (.type "list")
 | frz {a:Addr} {o:Obj} {xs:List V} (e:H a = some (.frz o (.lst xs))):TyOf K H (.ref a) (.type "list")
 | tup {a:Addr} {xs:List V} (e:H a = some (.tup xs)):TyOf K H (.ref a) (.type "tuple")
 | dK {a:Addr} {kvs:List (Key × V)} (e:H a = some (.dK kvs)):TyOf K H (.ref a) (.type "dict")
 | dT {a:Addr} {kvs:List (List Key × V)} (e:H a = some (.dT kvs)):TyOf K H (.ref a) (.type "dict")
 | ins {a C dx:Addr} {fs:List (Str × V)} (e:H a = some (.ins C dx fs)) (cl:Cls K C) (ha:PySem.W.findIn K (.ref C) "__class__" = some (some (.builtin "object.__class__")))
   (hn:PySem.W.specialIn K (.builtin "object.__class__") "__get__" = some (some (.builtin "getset_descriptor.__get__"))) (htk:PySem.W.takesIn K (.builtin "object.__class__") = some true)
   (hm:PySem.W.mroIn K C (.type "object") = some true):TyOf K H (.ref a) (.ref C)
theorem isinst_ok {x:V} {u t:Value} (I:Inv X pins σ H s) (rx:RelV x u) (ty:TyOf X.K H x t) (e:PySem.W.kitOne X.K t c = some b) (h:∀ tk,Q (.bool b) { s with toks:=tk }) :
  wpAny (model X.prog X.w) A (call (.builtin "isinstance") [u,c]) Q E s:=by
 cases ty with
 | non=>cases (show u = Value.none from rx); exact PySem.W.kia_one PySem.W.kitx_none I.kIn True.intro e (λ z=>nomatch z) h
 | bl y=>cases (show u = Value.bool y from rx); exact PySem.W.kia_one PySem.W.kitx_bool I.kIn True.intro e (λ z=>nomatch z) h
 | int i=>obtain ⟨t,q⟩:=(show ∃ t,u = Value.int i t from rx); cases q; exact PySem.W.kia_one PySem.W.kitx_int I.kIn True.intro e (λ z=>nomatch z) h
 | str y=>obtain ⟨t,q⟩:=(show ∃ t,u = Value.str y t from rx); cases q; exact PySem.W.kia_one PySem.W.kitx_str I.kIn True.intro e (λ z=>nomatch z) h
 | flt y=>obtain ⟨t,q⟩:=(show ∃ t,u = Value.float y t from rx); cases q; exact PySem.W.kia_one PySem.W.kitx_float I.kIn True.intro e (λ z=>nomatch z) h
 | @lst a xs ea =>
  cases (show u = Value.ref a from rx)
  obtain ⟨_,_,n,_,h1⟩:=(show ObjOk X.prog X.w H s.heap a (.lst xs) from I.hok a _ ea)
  exact PySem.W.kia_one PySem.W.kitx_list I.kIn ⟨_,h1,rfl⟩ e (λ z=>nomatch z) h
 | @frz a ob xs ea =>
  cases (show u = Value.ref a from rx)
  obtain ⟨_,_,_,n,_,h1⟩:=(show ObjOk X.prog X.w H s.heap a (.frz ob (.lst xs)) from I.hok a _ ea)
  exact PySem.W.kia_one PySem.W.kitx_list I.kIn ⟨_,h1,rfl⟩ e (λ z=>nomatch z) h
 | @tup a xs ea =>
  cases (show u = Value.ref a from rx)
  obtain ⟨_,_,_,p⟩:=(show ObjOk X.prog X.w H s.heap a (.tup xs) from I.hok a _ ea)
  obtain ⟨o,h1,h2,_⟩:=p
  exact PySem.W.kia_one PySem.W.kitx_tuple I.kIn ⟨o,h1,h2⟩ e (λ z=>nomatch z) h
 | @dK a kvs ea =>
  cases (show u = Value.ref a from rx)
  obtain ⟨_,_,vs,_,p⟩:=(show ObjOk X.prog X.w H s.heap a (.dK kvs) from I.hok a _ ea)
  obtain ⟨o,es,ep,h1,h2,_⟩:=p
  exact PySem.W.kia_one PySem.W.kitx_dict I.kIn ⟨o,h1,h2.1⟩ e (λ z=>nomatch z) h
 | @dT a kvs ea =>
  cases (show u = Value.ref a from rx)
  obtain ⟨_,_,xs,_,o,es,ep,h1,h2,_⟩:=(show ObjOk X.prog X.w H s.heap a (.dT kvs) from I.hok a _ ea)
  exact PySem.W.kia_one PySem.W.kitx_dict I.kIn ⟨o,h1,h2.1⟩ e (λ z=>nomatch z) h
 | @ins a C dx fs ea cl ha hn htk hm =>
  cases (show u = Value.ref a from rx)
  obtain ⟨mA,O,_⟩:=ins_get I.hok ea
  obtain ⟨od,J,_⟩:=O.look
  exact PySem.W.kia_one (PySem.W.kitx_own (cl.get _) cl.hd ha hn htk hm) I.kIn J e (λ z=>nomatch z) h
end
end L2
namespace L2
open PySem PySem.Spec PyProof.Rows
structure Room (k:Nat) (A:Around):Prop where
 hd:A.handled = none
 dp:A.depth + 3 * k + 5 < recursionLimit
 un:A.units + 16 * k + 200 < cLine
theorem Room.mono {j k:Nat} {A:Around} (r:Room k A) (h:j <= k):Room j A:=⟨r.hd,by have:=r.dp; omega,by have:=r.un; omega⟩
theorem Room.deeper {k:Nat} {A:Around} (r:Room (k + 1) A) (env:Env):Room k (A.deeper env) :=
 ⟨r.hd,by have:=r.dp; show A.depth + 1 + 3 * k + 5 < _; omega,by have:=r.un; show A.units + 3 + 16 * k + 200 < _; omega⟩
theorem make_depth {A:Around} {C:Addr} {us:List Value} {kw:List (Str × Value)}:(A.under (.builtin "type.__call__" ⟨.ref C :: us,kw⟩)).depth = A.depth + 1:=by
 first | rfl | simp [Around.under,Code.weight,Code.isCreation,Code.isGuard,Code.isCaller,Code.frames,Code.isFrame,guardIds]
theorem make_units {A:Around} {C:Addr} {us:List Value} {kw:List (Str × Value)}:(A.under (.builtin "type.__call__" ⟨.ref C :: us,kw⟩)).units = A.units + 1:=by
 first | rfl | simp [Around.under,Code.cUnits,Code.frames,Code.isFrame]
theorem Room.make {k:Nat} {A:Around} (r:Room (k + 1) A) (C:Addr) (us:List Value) (kw:List (Str × Value)):Room k (A.under (.builtin "type.__call__" ⟨.ref C :: us,kw⟩)) :=
 ⟨r.hd,by have:=r.dp; rw [make_depth]; omega,by have:=r.un; rw [make_units]; omega⟩
theorem Room.depth {k:Nat} {A:Around} (r:Room k A):A.depth < recursionLimit:=by have:=r.dp; omega
theorem Room.units {k:Nat} {A:Around} (r:Room k A):A.units + 64 < cLine:=by have:=r.un; omega
def tNil:TA:=λ _ H Q=>Q [] H
def tCons (ta:TE) (tr:TA):TA:=λ σ H Q=>ta σ H λ x H1=>tr σ H1 λ xs H2=>Q (x :: xs) H2
section
variable {X:Cx} {e:Expr} {es:List Expr} {te:TE} {t:TA} {pos:Pos}
theorem pa_nil:PA X [] tNil:=λ _ _ _ _ H Q I h=>Calls.spliced_nil ⟨[],H,I,.nil,h⟩
theorem pa_cons (ha:PE X e te) (hr:PA X es t) (hs:starEach (e :: es) X.env = (false,eval e X.env) :: starEach es X.env:=by rfl):PA X (e :: es) (tCons te t):=by
 intro pos pins s σ H Q I h
 rw [hs]
 show wpAny _ _ (spliced ((false,eval e X.env) :: backTo pos (starEach es X.env))) _ _ s
 refine Calls.spliced_cons (thn (ha pins s σ H _ I h) λ u s1 ⟨x,H1,I1,r1,q1⟩=>?_)
 exact thn (hr pos pins s1 σ H1 _ I1 q1) λ us s2 ⟨xs,H2,I2,r2,q2⟩=>⟨x :: xs,H2,I2,.cons r1 r2,q2⟩
def tTup (t:TA):TE:=λ σ H Q=>t σ H λ xs H1=>xs.length <= sizeLine /\ ∀ p,H1 p = none -> Q (.ref p) (upd H1 p (.tup xs))
def tLst (t:TA):TE:=λ σ H Q=>t σ H λ xs H1=>xs.length <= sizeLine /\ ∀ p,H1 p = none -> Q (.ref p) (upd H1 p (.lst xs))
theorem pe_tup {x1} (h:PA X es t):PE X (.Tuple es x1 pos) (tTup t):=by
 intro pins s σ H Q I hq
 refine wpAny_Tuple_spliced (thn (h pos pins s σ H _ I hq) λ us s1 ⟨xs,H1,I1,r,z,q⟩=>⟨by rw [<- r.length]; exact z,?_⟩)
 have hf:H1 s1.heap.objs.size = none:=I1.hok.fresh (Nat.le_refl _)
 refine ⟨.ref s1.heap.objs.size,upd H1 s1.heap.objs.size (.tup xs),I1.laid (t':=s1.toks) (λ b u e=>Heap.get?_push_of_some _ e) (Nat.le_refl _) ?_,rfl,q _ hf⟩
 exact ⟨z,us,r,⟨_,Heap.get?_push_size _ rfl,rfl,_,rfl⟩⟩
theorem pe_lst (h:PA X es t):PE X (.List es pos) (tLst t):=by
 intro pins s σ H Q I hq
 refine wpAny_List_spliced (thn (h pos pins s σ H _ I hq) λ us s1 ⟨xs,H1,I1,r,z,q⟩=>⟨by rw [<- r.length]; exact z,?_⟩)
 have hf:H1 s1.heap.objs.size = none:=I1.hok.fresh (Nat.le_refl _)
 refine ⟨.ref s1.heap.objs.size,upd H1 s1.heap.objs.size (.lst xs),I1.laid (t':=s1.toks) (λ b u e=>Heap.get?_push_of_some _ e) (Nat.le_refl _) ?_,rfl,q _ hf⟩
 exact ⟨z,us,0,r,Heap.get?_push_size _ rfl⟩
end
abbrev Sp:=List V -> Hp -> VK -> XK -> Prop
abbrev CXT:=List Env -> Hp -> Shared -> XK -> Value -> Shared -> Prop
structure Env0 (P:Program) (w:World) (K:PySem.W.Frag) (mg:Str -> Option Value) (base:Heap) (A:Around) (outer:List Env) (s:Shared) (H:Hp):Prop where
 frames:A.frames = some outer
 mod:Mod K mg base
 bs:∀ b o,base.get? b = some o -> s.heap.get? b = some o /\ H b = none
 bsz:base.objs.size <= s.heap.objs.size
 funs:s.heap.FunFrames base outer
 frf:∀ b ∈ frs outer,H b = none
 hok:HOk P w H s.heap
 bare:AllBare s.gens
def CE (outer:List Env) (P:Program) (w:World) (H:Hp) (s:Shared) (Q:VK) (u:Value) (s':Shared):Prop :=
 ∃ v H',s'.os = s.os /\ AllBare s'.gens /\ Un (frs outer) [] H H' s.heap s'.heap /\ HOk P w H' s'.heap /\ RelV v u /\ Q v H'
def CR (CX:CXT) (outer:List Env) (P:Program) (w:World) (H:Hp) (s:Shared) (Q:VK) (E:XK) (r:Result) (s':Shared):Prop :=
 match r with
 | .ok (.ret u)=>CE outer P w H s Q u s'
 | .ok _=>False
 | .error e=>CX outer H s E e s'
structure FnOk (P:Program) (w:World) (K:PySem.W.Frag) (mg:Str -> Option Value) (base:Heap) (CX:CXT) (k:Nat) (f:Addr) (fd:FuncData) (ps:List Str) (sp:Sp):Prop where
 len:∀ vs H Q E,sp vs H Q E -> vs.length = ps.length
 run:∀ (A:Around) (outer:List Env) (s:Shared) (H:Hp) (args:Args) (us:List Value) (vs:List V) (Q:VK) (E:XK),Room k A -> Env0 P w K mg base A outer s H -> BindsTo s fd args (ps.zip us) -> Vals vs us -> sp vs H Q E ->
  codeAny (model P w) A (.call (.ref f) args) (CR CX outer P w H s Q E) s
theorem Env0.make {P:Program} {w:World} {K:PySem.W.Frag} {mg:Str -> Option Value} {base:Heap} {A:Around} {outer:List Env} {s:Shared} {H:Hp} (e:Env0 P w K mg base A outer s H) (C:Addr) (us:List Value) (kw:List (Str × Value)) :
  Env0 P w K mg base (A.under (.builtin "type.__call__" ⟨.ref C :: us,kw⟩)) outer s H:=⟨by first | exact e.frames | (simpa [Around.under,Code.envs,Code.isFrame,pushEnvs] using e.frames),e.mod,e.bs,e.bsz,e.funs,e.frf,e.hok,e.bare⟩
section
variable {X:Cx} {pins:List (Addr × Obj)} {σ:St} {H:Hp} {s s':Shared}
theorem Inv.env0 (I:Inv X pins σ H s):Env0 X.prog X.w X.K X.mg X.base X.A X.stack s H :=
 ⟨I.ok.frames,I.ok.mod,I.bs,Nat.le_trans I.ok.bsz I.sz,I.stack,I.stkFree,I.hok,I.bare⟩
theorem Inv.after {Q:VK} {u:Value} (I:Inv X pins σ H s) (h:CE X.stack X.prog X.w H s Q u s'):EP X pins σ Q u s':=by
 obtain ⟨v,H',os,bare,un,hok,r,q⟩:=h
 obtain ⟨hh,g,d,t,os'⟩:=s'
 obtain rfl:os' = s.os:=os
 exact ⟨v,H',I.call (h':=hh) (g':=g) (d':=d) (t':=t) (ch:=[]) un hok bare (λ b z=>absurd z (by simp)),r,q⟩
end
def tCall (sp:Sp) (dvs:List V) (E:XK) (t:TA):TE:=λ σ H Q=>t σ H λ vs H1=>sp (vs ++ dvs) H1 Q E
def tMeth (C:Addr) (m:Str) (sp:Sp) (dvs:List V) (E:XK) (ta:TE) (t:TA):TE:=λ σ H Q=>ta σ H λ x H1=>∃ a dx fs,x = .ref a /\ H1 a = some (.ins C dx fs) /\ fs.lookup m = none /\
 t σ H1 λ vs H2=>sp (x :: (vs ++ dvs)) H2 Q E
def tMake (C:Addr) (sp:Sp) (dvs:List V) (E:XK) (t:TA):TE:=λ σ H Q=>t σ H λ vs H1=>∀ x dx,H1 x = none -> H1 dx = none -> dx ≠ x ->
 sp (.ref x :: (vs ++ dvs)) (upd (upd H1 dx (.own x)) x (.ins C dx [])) (λ v H2=>v = .non /\ Q (.ref x) H2) E
def Binds (K:PySem.W.Frag) (fd:FuncData) (ps:List Str) (ds:List Value):Prop :=
 ∀ (s:Shared) (us:List Value),K.In s.heap -> (us ++ ds).length = ps.length -> BindsTo s fd ⟨us,[]⟩ (ps.zip (us ++ ds))
theorem Binds.all {K:PySem.W.Frag} {fd:FuncData} {ps:List Str} (h:∀ us:List Value,us.length = ps.length -> bindArgs fd ⟨us,[]⟩ = pure (ps.zip us)):Binds K fd ps []:=λ s us _ hl=>by
 rw [List.append_nil] at hl ⊢
 exact .of_eq (h us hl)
def Passes (CX:CXT) (X:Cx) (E:XK):Prop:=∀ (pins:List (Addr × Obj)) (σ:St) (H:Hp) (s:Shared) (e:Value) (s':Shared),Inv X pins σ H s -> CX X.stack H s E e s' -> X.xe e s'
section
variable {X:Cx} {CX:CXT} {k:Nat} {f C:Addr} {fd:FuncData} {ps:List Str} {sp:Sp} {dvs:List V} {ds:List Value} {E:XK} {x m:Str} {p pos apos:Pos} {e o:Expr} {es:List Expr} {ta:TE} {t:TA}
theorem run_fn {pins:List (Addr × Obj)} {σ:St} {H:Hp} {s:Shared} {Q:VK} {us:List Value} {vs:List V} (F:FnOk X.prog X.w X.K X.mg X.base CX k f fd ps sp) (hr:Room k X.A) (hb:Binds X.K fd ps ds) (hd:Vals dvs ds) (hx:Passes CX X E)
  (I:Inv X pins σ H s) (r:Vals vs us) (h:sp (vs ++ dvs) H Q E):wpAny (model X.prog X.w) X.A (call (.ref f) us) (EP X pins σ Q) X.xe s:=by
 have r2:Vals (vs ++ dvs) (us ++ ds):=r.append hd
 have hl:(us ++ ds).length = ps.length:=by rw [<- r2.length]; exact F.len _ _ _ _ h
 refine wpAny_call (codeAny_mono (F.run X.A X.stack s H ⟨us,[]⟩ (us ++ ds) (vs ++ dvs) Q E hr I.env0 (hb s us I.kIn hl) r2 h) λ r s' hq=>?_)
 cases r with
 | error e=>exact hx pins σ H s e s' I hq
 | ok fl =>
  cases fl with
  | ret u=>exact I.after hq
  | next=>exact False.elim hq
  | brk=>exact False.elim hq
  | cont=>exact False.elim hq
theorem pe_call (F:FnOk X.prog X.w X.K X.mg X.base CX k f fd ps sp) (hr:Room k X.A) (hg:Gl X x) (hm:X.mg x = some (.ref f)) (hk:PySem.W.keepIn X.K (.ref f) = true) (hb:Binds X.K fd ps ds) (hd:Vals dvs ds) (hx:Passes CX X E)
  (ha:PA X (e :: es) t) (hdb:(x == ("__debug__":Str)) = false:=by decide) (he:starEach (e :: es) X.env = (false,eval e X.env) :: starEach es X.env:=by rfl) (hpl:(backTo pos (starEach es X.env)).any (·.1) = false:=by rfl) :
  PE X (.Call (.Name x p) (e :: es) [] pos) (tCall sp dvs E t):=by
 intro pins s σ H Q I h
 refine wpAny_Call_Name_kw (ld_glob I hg hm ?_ hdb)
 refine PySem.W.callWith_K (h₀:=X.base) I.ok.mod.kin hk (thn (ha pos pins s σ H _ I h) λ us s1 ⟨vs,H1,I1,r,q⟩=>⟨I1.kIn,?_⟩) he hpl
 exact run_fn F hr hb hd hx I1 r q
theorem pe_meth0 {pl:Sem Bool} (he:PE X o ta) (c:Cls X.K C) (hm:Meth X.K C m f) (F:FnOk X.prog X.w X.K X.mg X.base CX k f fd ps sp) (hr:Room k X.A) (hb:Binds X.K fd ps ds) (hd:Vals dvs ds) (hx:Passes CX X E)
  (ht:eval (.Call (.Attribute o m apos) [] [] pos) X.env = (do
   let ov <- eval o X.env
   standAt apos.atName
   let (f,first) <- holding [ov] (getMethod ov m pl)
   callWith pos f first (backTo pos (starEach [] X.env)) (backToKw pos (keywordEach [] X.env))):=by rfl) :
  PE X (.Call (.Attribute o m apos) [] [] pos) (tMeth C m sp dvs E ta tNil):=by
 intro pins s σ H Q I h
 refine PySem.W.methodCall_KW (pl:=pl) (thn (he pins s σ H _ I h) λ u s1 ⟨x,H1,I1,rx,a,dx,fs,ex,ea,l,q⟩=>?_) ht
 subst ex
 obtain rfl:u = Value.ref a:=rx
 refine getmeth_ok I1 ea c hm l ?_
 exact PySem.W.callWith_K0 (first:=[.ref a]) I1.kIn hm.kp (run_fn (us:=[.ref a]) (vs:=[.ref a]) F hr hb hd hx I1 (.cons rfl .nil) q)
structure Mk (K:PySem.W.Frag) (C f:Addr):Prop where
 makes:PySem.W.makesIn K C = true
 init:PySem.W.findIn K (.ref C) "__init__" = some (some (.ref f))
 fn:PySem.W.isFn K (.ref f) = true
 kp:PySem.W.keepIn K (.ref C) = true
theorem run_make {pins:List (Addr × Obj)} {σ:St} {H:Hp} {s:Shared} {Q:VK} {us:List Value} {vs:List V} (M:Mk X.K C f) (F:FnOk X.prog X.w X.K X.mg X.base CX k f fd ps sp) (hr:Room (k + 1) X.A) (hb:Binds X.K fd ps ds) (hd:Vals dvs ds)
  (hx:Passes CX X E) (I:Inv X pins σ H s) (r:Vals vs us)
  (h:∀ x dx,H x = none -> H dx = none -> dx ≠ x -> sp (.ref x :: (vs ++ dvs)) (upd (upd H dx (.own x)) x (.ins C dx [])) (λ v H2=>v = .non /\ Q (.ref x) H2) E) :
  wpAny (model X.prog X.w) X.A (call (.ref C) us) (EP X pins σ Q) X.xe s:=by
 have hq:=h (s.heap.objs.size + 1) s.heap.objs.size (I.hok.fresh (Nat.le_succ _)) (I.hok.fresh (Nat.le_refl _)) (Nat.ne_of_lt (Nat.lt_succ_self _))
 have I2:=Inv.made (C:=C) I
 have r2:Vals (V.ref (s.heap.objs.size + 1) :: (vs ++ dvs)) (Value.ref (s.heap.objs.size + 1) :: (us ++ ds)):=.cons rfl (r.append hd)
 have hl:(Value.ref (s.heap.objs.size + 1) :: us ++ ds).length = ps.length:=by
  have e:=r2.length
  rw [F.len _ _ _ _ hq] at e
  exact e.symm
 refine wpAny_call (make_map (f:=f) I.kIn M.makes M.init (beq_iff_eq.mp M.fn) (codeAny_mono (F.run _ X.stack _ _ ⟨Value.ref (s.heap.objs.size + 1) :: us,[]⟩ (Value.ref (s.heap.objs.size + 1) :: (us ++ ds)) _ _ E (hr.make C us [])
  (I2.env0.make C us []) (hb _ (Value.ref (s.heap.objs.size + 1) :: us) I2.kIn hl) r2 hq) λ r s' hq'=>?_))
 cases r with
 | error e=>exact hx pins σ _ _ e s' I2 hq'
 | ok fl =>
  cases fl with
  | ret u =>
   obtain ⟨v,H',I3,rv,ev,q3⟩:=I2.after hq'
   subst ev
   exact ⟨rv,⟨V.ref (s.heap.objs.size + 1),H',I3,rfl,q3⟩⟩
  | next=>exact False.elim hq'
  | brk=>exact False.elim hq'
  | cont=>exact False.elim hq'
theorem pe_make (M:Mk X.K C f) (F:FnOk X.prog X.w X.K X.mg X.base CX k f fd ps sp) (hr:Room (k + 1) X.A) (hg:Gl X x) (hm:X.mg x = some (.ref C)) (hb:Binds X.K fd ps ds) (hd:Vals dvs ds) (hx:Passes CX X E)
  (ha:PA X (e :: es) t) (hdb:(x == ("__debug__":Str)) = false:=by decide) (he:starEach (e :: es) X.env = (false,eval e X.env) :: starEach es X.env:=by rfl) (hpl:(backTo pos (starEach es X.env)).any (·.1) = false:=by rfl) :
  PE X (.Call (.Name x p) (e :: es) [] pos) (tMake C sp dvs E t):=by
 intro pins s σ H Q I h
 refine wpAny_Call_Name_kw (ld_glob I hg hm ?_ hdb)
 refine PySem.W.callWith_K (h₀:=X.base) I.ok.mod.kin M.kp (thn (ha pos pins s σ H _ I h) λ us s1 ⟨vs,H1,I1,r,q⟩=>⟨I1.kIn,?_⟩) he hpl
 exact run_make M F hr hb hd hx I1 r q
end
structure FnScope (N P:List Str) (sc:Scope):Prop where
 kind:sc.kind = .function
 co:sc.isCoroutine = false
 gen:sc.isGenerator = false
 nd:N.Nodup
 pre:N.take P.length = P
 par:∀ x ∈ P,sc.names.lookup x = some .local ∨ sc.names.lookup x = some .cell
 nofree:∀ y ∈ sc.names,y.2 ≠ .free
theorem bindL_out {kindOf:Str -> Option NameKind} {x:Str}:∀ {binds:List (Str × Value)} {m:Str -> Option Value},(∀ v,(x,v) ∉ binds) -> bindL kindOf binds m x = m x
 | [],_,_=>rfl
 | (n,v) :: r,m,h=>by
  unfold bindL
  rw [bindL_out λ w hw=>h w (List.mem_cons_of_mem _ hw)]
  split
  ·have:x ≠ n:=by rintro rfl; exact h v List.mem_cons_self
   simp [this]
  ·rfl
theorem bindC_out {kindOf:Str -> Option NameKind} {x:Str}:∀ {binds:List (Str × Value)} {m:Str -> Option Value},(∀ v,(x,v) ∉ binds) -> bindC kindOf binds m x = m x
 | [],_,_=>rfl
 | (n,v) :: r,m,h=>by
  unfold bindC
  rw [bindC_out λ w hw=>h w (List.mem_cons_of_mem _ hw)]
  split
  ·rfl
  ·have:x ≠ n:=by rintro rfl; exact h v List.mem_cons_self
   simp [this]
theorem bindL_get {kindOf:Str -> Option NameKind} {x:Str} {v:Value}:∀ {P:List Str} {vs:List Value} {i:Nat} {m:Str -> Option Value},P.Nodup -> P[i]? = some x -> vs[i]? = some v -> kindOf x = some .local ->
  bindL kindOf (P.zip vs) m x = some v
 | [],_,_,_,_,h,_,_=>by simp at h
 | _ :: _,[],_,_,_,_,h,_=>by simp at h
 | p :: P,w :: vs,0,m,nd,h1,h2,hk=>by
  simp at h1 h2; subst h1; subst h2
  show bindL kindOf ((p,w) :: P.zip vs) m p = _
  unfold bindL
  rw [bindL_out λ v hv=>(List.nodup_cons.mp nd).1 (List.of_mem_zip hv).1,if_pos hk]
  simp
 | p :: P,w :: vs,i + 1,m,nd,h1,h2,hk=>by
  show bindL kindOf ((p,w) :: P.zip vs) m x = _
  unfold bindL
  exact bindL_get (i:=i) (List.nodup_cons.mp nd).2 (by simpa using h1) (by simpa using h2) hk
theorem bindC_get {kindOf:Str -> Option NameKind} {x:Str} {v:Value}:∀ {P:List Str} {vs:List Value} {i:Nat} {m:Str -> Option Value},P.Nodup -> P[i]? = some x -> vs[i]? = some v -> kindOf x ≠ some .local ->
  bindC kindOf (P.zip vs) m x = some v
 | [],_,_,_,_,h,_,_=>by simp at h
 | _ :: _,[],_,_,_,_,h,_=>by simp at h
 | p :: P,w :: vs,0,m,nd,h1,h2,hk=>by
  simp at h1 h2; subst h1; subst h2
  show bindC kindOf ((p,w) :: P.zip vs) m p = _
  unfold bindC
  rw [bindC_out λ v hv=>(List.nodup_cons.mp nd).1 (List.of_mem_zip hv).1,if_neg hk]
  simp
 | p :: P,w :: vs,i + 1,m,nd,h1,h2,hk=>by
  show bindC kindOf ((p,w) :: P.zip vs) m x = _
  unfold bindC
  exact bindC_get (i:=i) (List.nodup_cons.mp nd).2 (by simpa using h1) (by simpa using h2) hk
def start (N:List Str) (vs:List V):St:=vs.map some ++ List.replicate (N.length - vs.length) none
def cxOf (CX:CXT) (P:Program) (w:World) (K:PySem.W.Frag) (mg:Str -> Option Value) (base:Heap) (N:List Str) (qual:Str) (scope:Scope) (f:Addr) (cd:Value) (A:Around) (outer:List Env) (s:Shared) (H:Hp) (E:XK):Cx where
 prog:=P
 w:=w
 K:=K
 mg:=mg
 base:=base
 A:=A.deeper (envOfC qual scope s.heap.objs.size f cd)
 N:=N
 s₀:=s
 H₀:=H
 env:=envOfC qual scope s.heap.objs.size f cd
 outer:=outer
 stack:=envOfC qual scope s.heap.objs.size f cd :: outer
 ex:=[]
 calm:=true
 fn:=λ _=>true
 pn:=[]
 xe:=λ e s'=>wpAny (model P w) (A.deeper (envOfC qual scope s.heap.objs.size f cd)) (leaving (envOfC qual scope s.heap.objs.size f cd) e) (λ _ s''=>CX outer H s E e s'') (λ e' s''=>CX outer H s E e' s'') s'
theorem cell_has {sc:Scope} {n:Nat} {x:Str} (h:sc.names.lookup x = some .cell):∃ c,(cellsFrom n sc.names []).lookup x = some c:=by
 have q:=PySem.W.cellsFrom_some sc.names n [] (.inl h)
 exact Option.isSome_iff_exists.mp q
theorem inv_start {CX:CXT} {P:Program} {w:World} {K:PySem.W.Frag} {mg:Str -> Option Value} {base:Heap} {N ps:List Str} {qual:Str} {scope:Scope} {f:Addr} {cd:Value} {A:Around} {outer:List Env} {s s1:Shared} {H:Hp} {E:XK} {us:List Value} {vs:List V}
  (S:FnScope N ps scope) (hd:A.handled = none) (e0:Env0 P w K mg base A outer s H) (hl:vs.length = ps.length) (r:Vals vs us)
  (x:InCallC s s.heap.objs.size (bindL (envOfC qual scope s.heap.objs.size f cd).kindOf (ps.zip us) λ _=>none) (cellsFrom (s.heap.objs.size + 1) scope.names []) (bindC (envOfC qual scope s.heap.objs.size f cd).kindOf (ps.zip us) λ _=>none) s1) :
  Inv (cxOf CX P w K mg base N qual scope f cd A outer s H E) [] (start N vs) H s1:=by
 have hpl:ps.length <= N.length:=by have:=congrArg List.length S.pre; rw [List.length_take] at this; omega
 obtain ⟨h1,tk,rfl,hk⟩:=x.done
 have noA:∀ b:Addr,b ∉ (cxOf CX P w K mg base N qual scope f cd A outer s H E).ex:=λ b z=>absurd (show b ∈ ([]:List Addr) from z) (by simp)
 refine ⟨⟨e0.mod,S.kind,rfl,rfl,Nat.le_refl _,λ y z c h1 h2=>?_,λ y hy=>?_,λ y c _ h=>?_,λ _=>hd,Around.frames_deeper e0.frames,.inr ⟨rfl,rfl⟩,λ b z=>absurd z (noA b),e0.bs,e0.bsz,λ b _ _=>noA b,λ b z=>absurd z (noA b),e0.funs,e0.frf⟩,
  rfl,e0.bare,Un.kept hk,⟨_,x.toInCall.ns,λ i y v h1 h2 h3=>?_⟩,λ y c h=>⟨_,x.cell y c h⟩,e0.hok.fresh (Nat.le_refl _),λ y c h=>?_,λ p hp=>absurd (show p ∈ ([]:List (Addr × Obj)) from hp) (by simp),e0.hok.kept hk,?_⟩
 ·exact name_of_addr x.apart (PySem.mem_of_lookup h1) (PySem.mem_of_lookup h2)
 ·have hy:scope.names.lookup y = some .cell ∨ scope.names.lookup y = some .free:=hy
  rcases hy with hy | hy
  ·exact cell_has hy
  ·exact absurd rfl (S.nofree _ (PySem.mem_of_lookup hy))
 ·exact Nat.le_of_lt (x.above y c (PySem.mem_of_lookup h))
 ·have hi:i < vs.length:=by
   unfold start at h2
   by_cases hi:i < vs.length
   ·exact hi
   ·rw [List.getElem?_append_right (by simpa using hi)] at h2
    rw [List.getElem?_replicate] at h2
    split at h2 <;> cases h2
  have ha:vs[i]? = some v:=by
   unfold start at h2
   rw [List.getElem?_append_left (by simpa using hi),List.getElem?_map] at h2
   cases e:vs[i]? with
   | none=>rw [e] at h2; cases h2
   | some a=>rw [e] at h2; cases h2; rfl
  obtain ⟨u,hu,rv⟩:=r.get ha
  have hp:ps[i]? = some y:=by
   rw [<- S.pre,List.getElem?_take_of_lt (by omega)]; exact h1
  have ndP:ps.Nodup:=by rw [<- S.pre]; exact S.nd.sublist (List.take_sublist _ _)
  refine ⟨u,rv,?_⟩
  rcases S.par y (List.mem_of_getElem? hp) with k | k
  ·exact .inl ⟨k,bindL_get ndP hp hu k⟩
  ·obtain ⟨c,e⟩:=cell_has (n:=s.heap.objs.size + 1) k
   refine .inr ⟨.inl k,c,e,?_⟩
   have q:=x.cell y c e
   rw [bindC_get ndP hp hu (by show scope.names.lookup y ≠ _; rw [k]; decide)] at q
   exact q
 ·exact e0.hok.fresh (Nat.le_of_lt (x.above y c (PySem.mem_of_lookup h)))
 ·unfold start
  show _ = N.length
  rw [List.length_append,List.length_map,List.length_replicate]
  omega
theorem fn_of {CX:CXT} {P:Program} {w:World} {K:PySem.W.Frag} {mg:Str -> Option Value} {base:Heap} {k:Nat} {f:Addr} {name qual:Str} {params:Arguments} {body:List Stmt} {scope:Scope} {dV kV doc pm cdv ct oc:Value} {an od:Option Addr}
  {osl:Array (Option Value)} {N ps:List Str} {sp:Sp} (lk:K.lookup f = some ⟨oc,od,.func (PySem.W.fnOf name qual params body scope dV kV doc pm an cdv ct),osl⟩) (hcd:PySem.W.codeIn K cdv qual = true) (S:FnScope N ps scope)
  (len:∀ vs H Q E,sp vs H Q E -> vs.length = ps.length)
  (hbody:∀ (A:Around) (outer:List Env) (s:Shared) (H:Hp) (vs:List V) (Q:VK) (E:XK),Room k (A.deeper (envOfC qual scope s.heap.objs.size f cdv)) -> sp vs H Q E ->
   ∃ t,PSs (cxOf CX P w K mg base N qual scope f cdv A outer s H E) body t /\ t { nx:=λ _ H'=>Q .non H',rt:=Q } (start N vs) H) :
  FnOk P w K mg base CX (k + 1) f (PySem.W.fnOf name qual params body scope dV kV doc pm an cdv ct) ps sp:=by
 refine ⟨len,λ A outer s H args us vs Q E hr e0 hb r hsp=>?_⟩
 have hl:=len _ _ _ _ hsp
 have KX:K.In s.heap:=e0.mod.kin.keeps λ b o e=>(e0.bs b o e).1
 have lim:s.heap.NoLimit:=e0.mod.nolimit.keeps λ b o e=>(e0.bs b o e).1
 have hkind:∀ y ∈ ps.zip us,scope.names.lookup y.1 = some .local ∨ (scope.names.lookup y.1 = some .cell /\ ((cellsFrom (s.heap.objs.size + 1) scope.names []).lookup y.1).isSome = true):=λ ⟨n,v⟩ hy=>by
  rcases S.par n (List.of_mem_zip hy).1 with q | q
  ·exact .inl q
  ·exact .inr ⟨q,PySem.W.cellsFrom_some _ _ _ (.inl q)⟩
 refine codeAny_call_function hr.depth (KX _ _ lk) rfl S.co S.gen rfl (PySem.W.codeRec_of KX hcd) (hb _ _ _ _ ?_)
 refine wpAny_newFunctionEnv_cells S.kind hkind λ env he s1 x=>?_
 subst he
 refine ⟨lim.keeps x.toInCall.keep,codeAny_func ?_⟩
 obtain ⟨t,ht,hq⟩:=hbody A outer s H vs Q E (hr.deeper _) hsp
 have I:Inv (cxOf CX P w K mg base N qual scope f cdv A outer s H E) [] (start N vs) H s1:=inv_start S hr.hd e0 hl r x
 refine wpAny_mono (ht [] s1 (start N vs) H _ I hq) (λ fl s' hs=>?_) λ e s' hs=>hs
 have fin:∀ {σ':St} {H':Hp} {v:V} {u:Value},Inv (cxOf CX P w K mg base N qual scope f cdv A outer s H E) [] σ' H' s' -> RelV v u -> Q v H' -> CE outer P w H s Q u s' :=
  λ {σ' H' v u} J rv q=>⟨v,H',J.os,J.bare,J.base,J.hok,rv,q⟩
 cases fl with
 | ret u =>
  obtain ⟨v,σ',H',J,rv,q⟩:=hs
  exact fin J rv q
 | next =>
  obtain ⟨σ',H',J,q⟩:=hs
  exact fin (v:=V.non) (u:=Value.none) J rfl q
 | brk =>
  obtain ⟨_,_,_,q⟩:=hs
  exact False.elim q
 | cont =>
  obtain ⟨_,_,_,q⟩:=hs
  exact False.elim q
end L2
namespace L2
open PySem PySem.Spec PyProof.Rows
section
variable {X:Cx} {x:Str} {p pos:Pos} {e:Expr} {es:List Expr} {t:TA} {id T:String} {r:List V -> Hp -> VK -> Prop}
def tCB (r:List V -> Hp -> VK -> Prop) (t:TA):TE:=λ σ H Q=>t σ H λ vs H1=>r vs H1 Q
theorem pe_callB (hc:CallR X (.builtin id) r) (hg:Gl X x) (hm:X.mg x = none) (hv:bootBuiltins x = some (.builtin id)) (ha:PA X (e :: es) t) (hn:x ≠ "__name__":=by decide) (hdb:(x == ("__debug__":Str)) = false:=by decide)
  (he:starEach (e :: es) X.env = (false,eval e X.env) :: starEach es X.env:=by rfl) (hpl:(backTo pos (starEach es X.env)).any (·.1) = false:=by rfl):PE X (.Call (.Name x p) (e :: es) [] pos) (tCB r t):=by
 intro pins s σ H Q I h
 refine wpAny_Call_Name_kw (ld_blt I hg hm hv ?_ hn hdb)
 exact PyProof.Rows.callWith_builtin1 (thn (ha pos pins s σ H _ I h) λ us s1 ⟨vs,H1,I1,r1,q1⟩=>hc pins s1 σ H1 vs us Q I1 r1 q1) he hpl
end
end L2
namespace L2
open PySem PySem.Spec PyProof.Rows
end L2
namespace HT
open PySem PyProof.Rows
end HT
namespace L2
open PySem PySem.Spec PyProof.Rows
abbrev TO:=St -> Hp -> (Option Int -> Hp -> Prop) -> Prop
def PO (X:Cx) (e:Option Expr) (t:TO):Prop :=
 ∀ (pins:List (Addr × Obj)) (s:Shared) (σ:St) (H:Hp) (Q:Option Int -> Hp -> Prop),Inv X pins σ H s -> t σ H Q ->
  wpAny (model X.prog X.w) X.A (evalPart e X.env) (λ u s'=>∃ o H',Inv X pins σ H' s' /\ IsPart u o /\ Q o H') X.xe s
def tNoPart:TO:=λ _ H Q=>Q none H
def tPart (t:TE):TO:=λ σ H Q=>t σ H λ x H1=>∃ i,x = .int i /\ Q (some i) H1
section
variable {X:Cx} {e:Expr} {te:TE} {lo hi:Option Expr} {tl th:TO} {pos p2:Pos}
theorem po_none:PO X none tNoPart:=by
 intro pins s σ H Q I h
 rw [evalPart_none]
 exact wpAny_pure ⟨none,H,I,.none,h⟩
theorem po_some (h:PE X e te):PO X (some e) (tPart te):=by
 intro pins s σ H Q I hw
 rw [evalPart_some]
 refine thn (h pins s σ H _ I hw) λ u s1 ⟨x,H1,I1,r1,q1⟩=>?_
 obtain ⟨i,rfl,q⟩:=q1
 obtain ⟨t,rfl⟩:=r1
 exact ⟨some i,H1,I1,.int i t,q⟩
def SlR (X:Cx) (r:V -> Option Int -> Option Int -> Hp -> VK -> Prop):Prop :=
 ∀ (pins:List (Addr × Obj)) (s:Shared) (σ:St) (H:Hp) (x:V) (v vl vu:Value) (lo hi:Option Int) (sl:Addr) (Q:VK),Inv X pins σ H s -> RelV x v -> s.heap.IsSliceOf sl vl vu .none -> IsPart vl lo -> IsPart vu hi -> r x lo hi H Q ->
  ∃ T id,typeLookup (.type T) "__getitem__" = pure (some (.builtin id)) /\ s.TypeIs v T /\ wpAny (model X.prog X.w) X.A (getItem v (.ref sl)) (EP X pins σ Q) X.xe s
def tSl (r:V -> Option Int -> Option Int -> Hp -> VK -> Prop) (te:TE) (tl th:TO):TE:=λ σ H Q=>te σ H λ x H1=>tl σ H1 λ l H2=>th σ H2 λ u H3=>r x l u H3 Q
theorem pe_slice {r:V -> Option Int -> Option Int -> Hp -> VK -> Prop} (hr:SlR X r) (he:PE X e te) (hl:PO X lo tl) (hu:PO X hi th):PE X (.Subscript e (.Slice lo hi none p2) pos) (tSl r te tl th):=by
 intro pins s σ H Q I h
 refine Subscript_ (thn (he pins s σ H _ I h) λ v s1 ⟨x,H1,I1,r1,q1⟩=>?_)
 refine wpAny_Slice (thn (hl pins s1 σ H1 _ I1 q1) λ vl s2 ⟨l,H2,I2,pl,q2⟩=>thn (hu pins s2 σ H2 _ I2 q2) λ vu s3 ⟨u,H3,I3,pu,q3⟩=>?_)
 rw [evalPart_none]
 refine wpAny_pure ?_
 have I4:Inv X pins σ H3 { s3 with heap:=s3.heap.push { cls:=.type "slice",data:=.fields #[vl,vu,.none] } }:=I3.kept (t':=s3.toks) λ b ob q=>Heap.get?_push_of_some _ q
 obtain ⟨T,id,hT,ht,hg⟩:=hr pins { s3 with heap:=s3.heap.push { cls:=.type "slice",data:=.fields #[vl,vu,.none] } } σ H3 x v vl vu l u s3.heap.objs.size Q I4 r1 (Heap.IsSliceOf.new ..) pl pu q3
 show wpAny (model X.prog X.w) X.A (subscriptTail e (.Slice lo hi none p2) v (.ref s3.heap.objs.size)) (EP X pins σ Q) X.xe { s3 with heap:=s3.heap.push { cls:=.type "slice",data:=.fields #[vl,vu,.none] } }
 exact tail_any (ops:=[.ref s3.heap.objs.size,v]) ht hT hg (by with_unfolding_all rfl)
end
end L2
namespace L2
open PySem PySem.Spec PyProof.Rows
def ixN (n:Nat) (i:Int):Option Nat:=if 0 <= i then (if i < n then some i.toNat else none) else if -(n:Int) <= i then some (i + n).toNat else none
def atI {α:Type} (xs:List α) (i:Int):Option α:=(ixN xs.length i).bind λ j=>xs[j]?
theorem ixN_seq {n:Nat} {i:Int} {j:Nat} (h:ixN n i = some j):seqIndex? i n = some j /\ j < n /\ -(n:Int) <= i /\ i < n:=by
 unfold ixN at h
 by_cases h0:0 <= i
 ·rw [if_pos h0] at h
  by_cases h1:i < n
  ·rw [if_pos h1] at h
   have e:i.toNat = j:=Option.some.inj h
   exact ⟨by rw [seqIndex_of h0 h1,e],by omega,by omega,h1⟩
  ·rw [if_neg h1] at h; cases h
 ·rw [if_neg h0] at h
  by_cases h1:-(n:Int) <= i
  ·rw [if_pos h1] at h
   have e:(i + n).toNat = j:=Option.some.inj h
   exact ⟨by rw [seqIndex_neg (by omega) h1,e],by omega,h1,by omega⟩
  ·rw [if_neg h1] at h; cases h
theorem atI_get {α:Type} {xs:List α} {i:Int} {v:α} (h:atI xs i = some v):∃ j,seqIndex? i xs.length = some j /\ xs[j]? = some v /\ j < xs.length /\ -(xs.length:Int) <= i /\ i < xs.length:=by
 unfold atI at h
 cases e:ixN xs.length i with
 | none=>rw [e] at h; cases h
 | some j =>
  rw [e] at h
  obtain ⟨h1,h2,h3,h4⟩:=ixN_seq e
  exact ⟨j,h1,h,h2,h3,h4⟩
theorem atI_nat {α:Type} {xs:List α} {j:Nat} {v:α} (h:xs[j]? = some v):atI xs (j:Int) = some v:=by
 have hj:j < xs.length:=(List.getElem?_eq_some_iff.mp h).1
 have e:ixN xs.length (j:Int) = some j:=by
  unfold ixN
  rw [if_pos (by omega),if_pos (by omega)]; simp
 unfold atI; rw [e]; exact h
theorem atI_last {α:Type} (xs:List α) (v:α):atI (xs ++ [v]) (-1) = some v:=by
 have hl:(xs ++ [v]).length = xs.length + 1:=by simp
 have e:ixN (xs ++ [v]).length (-1) = some xs.length:=by
  unfold ixN
  rw [hl,if_neg (by decide),if_pos (by omega)]
  congr 1
  omega
 unfold atI
 rw [e]
 show (xs ++ [v])[xs.length]? = some v
 simp
def PlainIx (b:Expr):Prop:=∀ o i,subscripted b false o i = operate [o,i] (getItem o i)
def IxR (X:Cx) (r:R2):Prop :=
 ∀ (value slice:Expr) (pins:List (Addr × Obj)) (s:Shared) (σ:St) (H:Hp) (x y:V) (v u:Value) (Q:VK),Inv X pins σ H s -> RelV x v -> RelV y u -> r x y H Q ->
  subscripted slice false v u = operate [v,u] (getItem v u) -> wpAny (model X.prog X.w) X.A (subscriptTail value slice v u) (EP X pins σ Q) X.xe s
def MtR (X:Cx) (id:String) (r:V -> List V -> Hp -> VK -> Prop):Prop :=
 ∀ (pins:List (Addr × Obj)) (s:Shared) (σ:St) (H:Hp) (x:V) (xs:List V) (v:Value) (us:List Value) (Q:VK),Inv X pins σ H s -> RelV x v -> Vals xs us -> r x xs H Q ->
  wpAny (model X.prog X.w) X.A (call (.builtin id) (v :: us)) (EP X pins σ Q) X.xe s
section
variable {X:Cx} {a b:Expr} {ta tb:TE} {pos:Pos}
theorem pe_ix {r:R2} (hr:IxR X r) (ha:PE X a ta) (hb:PE X b tb) (hs:PlainIx b):PE X (.Subscript a b pos) (tOp r ta tb):=by
 intro pins s σ H Q I h
 exact Subscript_ (binT ha hb I h λ v u s2 x y H2 I2 rx ry q=>hr a b pins s2 σ H2 x y v u Q I2 rx ry q (hs _ _))
def rIxL (K:PySem.W.Frag):R2:=λ x y H Q=>∃ p xs i v,x = .ref p /\ y = .int i /\ SqL K H p xs /\ atI xs i = some v /\ Q v H
def rIxT (K:PySem.W.Frag):R2:=λ x y H Q=>∃ p xs i v,x = .ref p /\ y = .int i /\ SqT K H p xs /\ atI xs i = some v /\ Q v H
def rIxS:R2:=λ x y H Q=>∃ z i c,x = .str z /\ y = .int i /\ z.length <= sizeLine /\ atI z.cps.toList i = some c /\ Q (.str ⟨#[c]⟩) H
theorem ix_list:IxR X (rIxL X.K):=by
 intro value slice pins s σ H x y v u Q I rx ry h hs
 obtain ⟨p,xs,i,z,rfl,rfl,hq,he,q⟩:=h
 cases rx
 obtain ⟨t,rfl⟩:=ry
 obtain ⟨its,r,pl,hz⟩:=I.list hq
 obtain ⟨j,h1,h2,h3,h4,h5⟩:=atI_get he
 obtain ⟨w,ew,rw'⟩:=r.get h2
 have hl:=r.length
 have hn:=line63
 have fin:EP X pins σ Q w s:=⟨z,H,I,rw',q⟩
 by_cases h0:0 <= i
 ·have hj:i.toNat = j:=by
   rw [seqIndex_of h0 h5] at h1
   exact Option.some.inj h1
  exact item_listR pl.isList h0 (by omega) (by rw [hj]; simpa using ew) fin hs
 ·have hj:(i + (its.toArray.size:Int)).toNat = j:=by
   rw [seqIndex_neg (by omega) h4] at h1
   rw [List.size_toArray,<- hl]
   exact Option.some.inj h1
  exact subscriptTail_builtinR (x:=w) pl.isList.typeIs slot_list_getitem.lookup
   (wpAny_getItem_list_neg (Q:=λ r s'=>r = w /\ EP X pins σ Q r s') pl.isList (by omega) (by rw [List.size_toArray] <;> omega) (by omega) (by rw [hj]; simpa using ew) ⟨rfl,fin⟩) hs
theorem ix_tup:IxR X (rIxT X.K):=by
 intro value slice pins s σ H x y v u Q I rx ry h hs
 obtain ⟨p,xs,i,z,rfl,rfl,hq,he,q⟩:=h
 cases rx
 obtain ⟨t,rfl⟩:=ry
 obtain ⟨its,r,pl,hz⟩:=I.tuple hq
 obtain ⟨j,h1,h2,h3,h4,h5⟩:=atI_get he
 obtain ⟨w,ew,rw'⟩:=r.get h2
 have hl:=r.length
 have hn:=line63
 have fin:EP X pins σ Q w s:=⟨z,H,I,rw',q⟩
 exact subscriptTail_builtinR (x:=w) pl.typeIs slot_tuple_getitem.lookup
  (getItem_tuple (j:=j) (Q:=λ r s'=>r = w /\ EP X pins σ Q r s') pl (by omega) (by omega) (by rw [List.size_toArray,<- hl]; exact h1) (by simpa using ew) ⟨rfl,fin⟩) hs
theorem ix_str:IxR X rIxS:=by
 intro value slice pins s σ H x y v u Q I rx ry h hs
 obtain ⟨z,i,c,rfl,rfl,hz,he,q⟩:=h
 obtain ⟨t,rfl⟩:=rx
 obtain ⟨t',rfl⟩:=ry
 obtain ⟨j,h1,h2,h3,h4,h5⟩:=atI_get he
 have hl:z.cps.toList.length = z.length:=by simp [Str.length]
 rw [hl] at h1 h4 h5
 have hn:=line63
 exact tail_any (typeIs_str s z t) slot_str_getitem.lookup (getItem_str (c:=c) (by
  have e1:decide (i < -(2 ^ 63:Int)) = false:=decide_eq_false (by omega)
  have e2:decide (i ≥ 2 ^ 63) = false:=decide_eq_false (by omega)
  rw [e1,e2,Bool.or_false]) (by rw [h1]; simpa using h2) ⟨.str ⟨#[c]⟩,H,I.tok _,⟨_,rfl⟩,q⟩) hs
theorem mapSeq_set (its:List Value) (n j:Nat) (u:Value):Obj.mapSeq (·.setIfInBounds j u) { cls:=.type "list",data:=.seq its.toArray n } = { cls:=.type "list",data:=.seq (its.set j u).toArray n }:=by
 simp [Obj.mapSeq]
theorem Inv.lst {pins:List (Addr × Obj)} {σ:St} {H:Hp} {s:Shared} {p:Addr} {xs:List V} (I:Inv X pins σ H s) (h:H p = some (.lst xs)) :
  ∃ (its:List Value) (n:Nat),Vals xs its /\ s.heap.get? p = some { cls:=.type "list",data:=.seq its.toArray n } /\ xs.length <= sizeLine:=by
 obtain ⟨z,its,n,r,e⟩:=I.hok p _ h
 exact ⟨its,n,r,e,z⟩
theorem Inv.lstUpd {pins:List (Addr × Obj)} {σ:St} {H:Hp} {s:Shared} {p:Addr} {xs ys:List V} {its its':List Value} {n n':Nat} {f:Obj -> Obj} (I:Inv X pins σ H s) (h:H p = some (.lst xs))
  (ho:s.heap.get? p = some { cls:=.type "list",data:=.seq its.toArray n }) (hf:f { cls:=.type "list",data:=.seq its.toArray n } = { cls:=.type "list",data:=.seq its'.toArray n' }) (r:Vals ys its') (hz:ys.length <= sizeLine) (t:Nat) :
  Inv X pins σ (upd H p (.lst ys)) { s with heap:=s.heap.update p f,toks:=t }:=by
 have e:(s.heap.update p f).get? p = some { cls:=.type "list",data:=.seq its'.toArray n' }:=by
  rw [Heap.get?_update_self f ho (by rw [hf] <;> rfl),hf]
 refine I.write (x:=p) (e:=p) (by rw [h]; trivial) (.inl rfl) (λ b u hb q=>(Heap.get?_update_other _ _ (Ne.symm hb)).trans q) ⟨_,e⟩ ?_
 exact ⟨hz,its',n',r,e⟩
def rSetL:V -> V -> V -> Hp -> (Hp -> Prop) -> Prop:=λ o i v H Q=>∃ p xs k j,o = .ref p /\ i = .int k /\ H p = some (.lst xs) /\ ixN xs.length k = some j /\ Q (upd H p (.lst (xs.set j v)))
theorem set_list:PSet X rSetL:=by
 intro pins s σ H o i v ov iv u Q I ro ri rv h
 obtain ⟨p,xs,k,j,rfl,rfl,hp,hj,q⟩:=h
 cases ro
 obtain ⟨t,rfl⟩:=ri
 obtain ⟨its,n,r,ho,hz⟩:=I.lst hp
 obtain ⟨h1,h2,h3,h4⟩:=ixN_seq hj
 have hl:=r.length
 have hn:=line63
 have I':Inv X pins σ (upd H p (.lst (xs.set j v))) { s with heap:=s.heap.update p (Obj.mapSeq (·.setIfInBounds j u)) } :=
  I.lstUpd hp ho (mapSeq_set its n j u) (r.set rv j) (by rw [List.length_set]; exact hz) s.toks
 by_cases h0:0 <= k
 ·have hk:k.toNat = j:=by
   rw [seqIndex_of h0 h4] at h1
   exact Option.some.inj h1
  exact PySem.W.ki_setAt ho h0 (by omega) (by rw [List.size_toArray,<- hl]; exact h4) (by rw [hk]; exact ⟨_,I',q⟩)
 ·have hk:(k + (its.toArray.size:Int)).toNat = j:=by
   rw [seqIndex_neg (by omega) h3] at h1
   rw [List.size_toArray,<- hl]
   exact Option.some.inj h1
  exact PySem.W.ki_setBack ho (by omega) (by rw [List.size_toArray,<- hl]; exact h3) (by omega) (by rw [hk]; exact ⟨_,I',q⟩)
theorem op_notIn_str:OpR X (compareOp .NotIn) (λ x y H Q=>∃ i j,x = .str i /\ y = .str j /\ Q (.bl (!(!(Builtin.Str.occurrences j i 0 j.length 1).isEmpty))) H):=by
 intro pins s σ H x y v u Q I rx ry h
 obtain ⟨i,j,rfl,rfl,q⟩:=h
 obtain ⟨t,rfl⟩:=rx
 obtain ⟨t',rfl⟩:=ry
 exact notIn_str ⟨.bl _,H,I,rfl,q⟩
theorem call_len_seq:CallR X (.builtin "len") (λ xs H Q=>∃ p ys,xs = [.ref p] /\ (SqL X.K H p ys ∨ SqT X.K H p ys) /\ Q (.int ys.length) H):=by
 intro pins s σ H xs us Q I r h
 obtain ⟨p,ys,rfl,hq,q⟩:=h
 obtain ⟨u,rfl,rx⟩:=vals1 r
 cases rx
 have hn:=line63
 rcases hq with hq | hq
 ·obtain ⟨its,r',pl,hz⟩:=I.list hq
  have hlen:=r'.length
  exact Calls.call_len_list pl.isList (by simp only [List.size_toArray] <;> omega) ⟨.int ys.length,H,I.tok _,⟨s.toks + 1,by rw [List.size_toArray,hlen]⟩,q⟩
 ·obtain ⟨its,r',pl,hz⟩:=I.tuple hq
  have hlen:=r'.length
  exact len_tuple pl (by simp only [List.size_toArray] <;> omega) ⟨.int ys.length,H,I.tok _,⟨s.toks + 1,by rw [List.size_toArray,hlen]⟩,q⟩
theorem call_len_str:CallR X (.builtin "len") (λ xs H Q=>∃ z,xs = [.str z] /\ z.length <= sizeLine /\ Q (.int z.length) H):=by
 intro pins s σ H xs us Q I r h
 obtain ⟨z,rfl,hz,q⟩:=h
 obtain ⟨u,rfl,t,rfl⟩:=vals1 r
 have hn:=line63
 exact len_str (by omega) ⟨.int z.length,H,I.tok _,⟨_,rfl⟩,q⟩
def tyV (K:PySem.W.Frag) (T:String) (x:V) (H:Hp):Prop:=match x with
 | .str _=>T = "str"
 | .int _=>T = "int"
 | .ref p=>(T = "list" /\ ∃ xs,SqL K H p xs) ∨ (T = "tuple" /\ ∃ o,K.lookup p = some o /\ o.cls = .type "tuple" /\ o.dict = none) ∨
   (T = "dict" /\ ((∃ kvs,H p = some (.dK kvs)) ∨ ∃ kvs,H p = some (.dT kvs))) ∨ (T = "set" /\ ∃ S n,H p = some (.set S n))
 | _=>False
theorem tyV_is {pins:List (Addr × Obj)} {σ:St} {H:Hp} {s:Shared} {T:String} {x:V} {v:Value} (I:Inv X pins σ H s) (r:RelV x v) (ty:tyV X.K T x H) :
  s.TypeIs v T /\ ∀ a,v = .ref a -> ∃ ob,s.heap.get? a = some ob /\ ob.dict = none:=by
 cases x with
 | str z =>
  obtain ⟨t,rfl⟩:=r
  cases (show T = "str" from ty)
  exact ⟨typeIs_str s z t,λ _ e=>nomatch e⟩
 | int i =>
  obtain ⟨t,rfl⟩:=r
  cases (show T = "int" from ty)
  exact ⟨typeIs_int s i t,λ _ e=>nomatch e⟩
 | ref p =>
  cases r
  rcases ty with ⟨rfl,xs,hq⟩ | ⟨rfl,o,hk,hc,hd⟩ | ⟨rfl,hk⟩ | ⟨rfl,S,n,hk⟩
  ·obtain ⟨its,_,pl,_⟩:=I.list hq
   refine ⟨pl.isList.typeIs,λ a e=>?_⟩
   cases e
   obtain ⟨o,n,e,c,hd,_⟩:=pl
   exact ⟨o,e,hd⟩
  ·refine ⟨⟨o,I.kIn p o hk,hc⟩,λ a e=>?_⟩
   cases e
   exact ⟨o,I.kIn _ o hk,hd⟩
  ·have z:∃ o,s.heap.get? p = some o /\ o.ExactDict:=by
    rcases hk with ⟨kvs,hk⟩ | ⟨kvs,hk⟩
    ·obtain ⟨_,_,_,_,o,_,_,e,ex,_⟩:=I.hok p _ hk
     exact ⟨o,e,ex⟩
    ·obtain ⟨_,_,_,_,o,_,_,e,ex,_⟩:=I.hok p _ hk
     exact ⟨o,e,ex⟩
   obtain ⟨o,e,ex⟩:=z
   refine ⟨⟨o,e,ex.1⟩,λ a e2=>?_⟩
   cases e2
   exact ⟨o,e,ex.2.1⟩
  ·obtain ⟨o,_,_,_,e,ex,_⟩:=I.hok p _ hk
   refine ⟨⟨o,e,ex.1⟩,λ a e2=>?_⟩
   cases e2
   exact ⟨o,e,ex.2.1⟩
 | _=>exact False.elim ty
def tBM0 (K:PySem.W.Frag) (T:String) (r:V -> List V -> Hp -> VK -> Prop) (to:TE):TE:=λ σ H Q=>to σ H λ x H1=>tyV K T x H1 /\ r x [] H1 Q
def tBM (K:PySem.W.Frag) (T:String) (r:V -> List V -> Hp -> VK -> Prop) (to:TE) (t:TA):TE:=λ σ H Q=>to σ H λ x H1=>tyV K T x H1 /\ t σ H1 λ xs H2=>r x xs H2 Q
variable {o e:Expr} {es:List Expr} {to:TE} {t:TA} {name:Str} {apos cpos:Pos} {T id:String} {r:V -> List V -> Hp -> VK -> Prop}
theorem pe_bm0 (pa:PlainAttrs T) (slot:Slot T name id) (hty:typeOf (.builtin id) = pure (.type "method_descriptor")) (hm:MtR X id r) (ho:PE X o to)
  (hbase:attributeBase o name X.env (eval o X.env) = eval o X.env:=by rfl) (hline:(apos.endLine == cpos.line) = true:=by rfl):PE X (.Call (.Attribute o name apos) [] [] cpos) (tBM0 X.K T r to):=by
 intro pins s σ H Q I h
 refine wpAny_Call_method0_late hbase hline (thn (ho pins s σ H _ I h) λ v s1 ⟨x,H1,I1,r1,ty,q1⟩=>?_)
 obtain ⟨h1,h2⟩:=tyV_is I1 r1 ty
 exact ⟨T,id,pa,slot,hty,h1,h2,Calls.callWith_builtin rfl (PySem.evalArgs_none (hm pins s1 σ H1 x [] v [] Q I1 r1 .nil q1))⟩
theorem pe_bm (pa:PlainAttrs T) (slot:Slot T name id) (hty:typeOf (.builtin id) = pure (.type "method_descriptor")) (hm:MtR X id r) (ho:PE X o to) (ha:PA X (e :: es) t)
  (hbase:attributeBase o name X.env (eval o X.env) = eval o X.env:=by rfl)
  (hfew:((backTo cpos (starEach (e :: es) X.env)).all (λ x=>!x.1) && (backToKw cpos (keywordEach [] X.env)).all (λ x=>x.1.isSome)
   && decide ((e :: es).length + ([]:List Keyword).length + (if ([]:List Keyword).isEmpty then 0 else 1) < 30)) = true:=by rfl)
  (hline:(apos.endLine == cpos.line) = true:=by rfl) (hs:starEach (e :: es) X.env = (false,eval e X.env) :: starEach es X.env:=by rfl) (hplain:(backTo cpos (starEach es X.env)).any (·.1) = false:=by rfl) :
  PE X (.Call (.Attribute o name apos) (e :: es) [] cpos) (tBM X.K T r to t):=by
 intro pins s σ H Q I h
 refine wpAny_Call_method_late hbase hfew hline rfl (thn (ho pins s σ H _ I h) λ v s1 ⟨x,H1,I1,r1,ty,q1⟩=>?_)
 obtain ⟨h1,h2⟩:=tyV_is I1 r1 ty
 refine ⟨T,id,pa,slot,hty,h1,h2,?_⟩
 have hA:=ha cpos pins s1 σ H1 _ I1 q1
 rw [hs] at hA ⊢
 refine Calls.callWith_builtin (by show (false || (backTo cpos (starEach es X.env)).any (·.1)) = false; rw [hplain] <;> rfl) (Calls.evalArgs_plain ?_)
 exact thn hA λ us s2 ⟨vs,H2,I2,r2,q2⟩=>hm pins s2 σ H2 x vs v us Q I2 r1 r2 q2
end
end L2
namespace L2
open PySem PySem.Spec PyProof.Rows
def MtM (X:Cx) (id:String) (r:V -> List V -> Hp -> VK -> Prop):Prop :=
 ∀ (pins:List (Addr × Obj)) (s:Shared) (σ:St) (H:Hp) (x:V) (xs:List V) (v:Value) (us:List Value) (Q:VK),Inv X pins σ H s -> RelV x v -> Vals xs us -> r x xs H Q ->
  wpAny (model X.prog X.w) X.A (call (.builtin id) (v :: us)) (EP X pins σ Q) X.xe s
theorem Vals.one:∀ {x:V} {us:List Value},Vals [x] us -> ∃ u,us = [u] /\ RelV x u
 | _,_,.cons r .nil=>⟨_,rfl,r⟩
theorem Vals.zero:∀ {us:List Value},Vals [] us -> us = []
 | _,.nil=>rfl
theorem Vals.dropLast {xs:List V} {us:List Value} (h:Vals xs us):Vals xs.dropLast us.dropLast:=by
 induction h with
 | nil=>exact .nil
 | cons r t ih =>
  cases t with
  | nil=>exact .nil
  | cons q t'=>exact .cons r ih
theorem Vals.rep {xs:List V} {us:List Value} (h:Vals xs us):∀ k:Nat,Vals (List.replicate k xs).flatten (List.replicate k us).flatten
 | 0=>.nil
 | k + 1=>by
  rw [List.replicate_succ,List.replicate_succ,List.flatten_cons,List.flatten_cons]
  exact Vals.append h (Vals.rep h k)
theorem erase_last {α:Type} (l:List α):l.eraseIdx (l.length - 1) = l.dropLast:=by
 induction l with
 | nil=>rfl
 | cons a r ih =>
  cases r with
  | nil=>rfl
  | cons b r =>
   have e:(a :: b :: r).length - 1 = ((b :: r).length - 1) + 1:=by
    have h1:(a :: b :: r).length = r.length + 2:=rfl
    have h2:(b :: r).length = r.length + 1:=rfl
    omega
   rw [e,List.eraseIdx_cons_succ,ih]
   all_goals rfl
theorem foldl_rep (its:List Value):∀ (k:Nat) (acc:List Value),
  List.foldl (λ x1 x2=>x1 ++ x2) acc.toArray (List.replicate k its.toArray) = (acc ++ (List.replicate k its).flatten).toArray
 | 0,acc=>by simp
 | k + 1,acc=>by
  have e:acc.toArray ++ its.toArray = (acc ++ its).toArray:=by simp
  have e2:(acc ++ its) ++ (List.replicate k its).flatten = acc ++ (List.replicate (k + 1) its).flatten:=by
   rw [List.replicate_succ,List.flatten_cons,List.append_assoc]
  rw [<- e2,<- foldl_rep its k (acc ++ its),<- e,List.replicate_succ,List.foldl_cons]
section
variable {X:Cx} {pins:List (Addr × Obj)} {σ:St} {H:Hp} {s:Shared} {l b:Addr} {xs ys zs:List V}
theorem Inv.lset {its its':List Value} {n:Nat} {f:Array Value -> Array Value} {t':Nat} (I:Inv X pins σ H s) (hH:H l = some (.lst xs))
  (e:s.heap.get? l = some { cls:=.type "list",data:=.seq its.toArray n }) (hf:f its.toArray = its'.toArray) (hv:Vals ys its') (hz:ys.length <= sizeLine) :
  Inv X pins σ (upd H l (.lst ys)) { s with heap:=s.heap.update l (Obj.mapSeq f),toks:=t' }:=by
 have q:=PySem.IsL.update e f
 rw [hf] at q
 refine I.write (x:=l) (e:=l) (by rw [hH]; exact trivial) (.inl rfl) (λ b' u hb hu=>(Heap.get?_update_other s.heap (Obj.mapSeq f) (Ne.symm hb)).trans hu) ⟨_,q⟩ ?_
 exact ⟨hz,its',_,hv,q⟩
theorem Inv.lnew {its:List Value} {t':Nat} (I:Inv X pins σ H s) (hv:Vals ys its) (hz:ys.length <= sizeLine) :
  Inv X pins σ (upd H s.heap.objs.size (.lst ys)) { s with heap:=s.heap.push { cls:=.type "list",data:=.seq its.toArray },toks:=t' } :=
 I.laid (λ _ _ q=>Heap.get?_push_of_some _ q) (Nat.le_refl _) ⟨hz,its,0,hv,Heap.get?_push_size _ rfl⟩
theorem Inv.fresh (I:Inv X pins σ H s):H s.heap.objs.size = none:=I.hok.fresh (Nat.le_refl _)
theorem Inv.lstM (I:Inv X pins σ H s) (hH:H l = some (.lst xs)):xs.length <= sizeLine /\ ∃ (its:List Value) (n:Nat),Vals xs its /\ xs.length = its.length /\ s.heap.get? l = some { cls:=.type "list",data:=.seq its.toArray n }:=by
 obtain ⟨z,its,n,r,e⟩:=I.hok l _ hH
 exact ⟨z,its,n,r,r.length,e⟩
theorem notLongL {n:Nat} (h:n <= sizeLine):Builtin.List.listTooLong n = false:=by
 unfold Builtin.List.listTooLong
 exact decide_eq_false (by omega)
end
section
variable {X:Cx}
def rAppend:V -> List V -> Hp -> VK -> Prop:=λ x vs H Q=>∃ l xs y,x = .ref l /\ vs = [y] /\ H l = some (.lst xs) /\ xs.length < sizeLine /\ Q .non (upd H l (.lst (xs ++ [y])))
theorem mt_append:MtM X "list.append" rAppend:=by
 intro pins s σ H x vs v us Q I rx rv h
 obtain ⟨l,xs,y,rfl,rfl,hH,hz,q⟩:=h
 cases rx
 obtain ⟨u,rfl,ru⟩:=rv.one
 obtain ⟨z,its,n,r,hl,e⟩:=I.lstM hH
 refine call_meets F.slot_list_append ⟨_,e,rfl⟩ F.entry_list_append (F.args_list_append_2 _ _) (PySem.list_append l its.toArray n u (by rw [List.size_toArray]; omega)) ⟨e,?_⟩
 refine ⟨.non,_,I.lset (its':=its ++ [u]) hH e (by simp) (r.append (.cons ru .nil)) ?_,rfl,q⟩
 rw [List.length_append,List.length_singleton]
 omega
def rExtend:V -> List V -> Hp -> VK -> Prop:=λ x vs H Q=>∃ l b xs zs,x = .ref l /\ vs = [.ref b] /\ H l = some (.lst xs) /\ H b = some (.lst zs) /\ xs.length + zs.length <= sizeLine /\ Q .non (upd H l (.lst (xs ++ zs)))
theorem mt_extend:MtM X "list.extend" rExtend:=by
 intro pins s σ H x vs v us Q I rx rv h
 obtain ⟨l,b,xs,zs,rfl,rfl,hH,hB,hz,q⟩:=h
 cases rx
 obtain ⟨u,rfl,ru⟩:=rv.one
 cases ru
 obtain ⟨z,its,n,r,hl,e⟩:=I.lstM hH
 obtain ⟨z2,its2,n2,r2,hl2,e2⟩:=I.lstM hB
 have hsz:its.toArray.size + its2.toArray.size <= sizeLine:=by rw [List.size_toArray,List.size_toArray]; omega
 have hlong:¬ (!its.toArray.isEmpty && Builtin.List.listTooLong (its.toArray.size + its2.toArray.size)) = true:=by
  rw [notLongL hsz,Bool.and_false]
  exact Bool.false_ne_true
 refine call_meets F.slot_list_extend ⟨_,e,rfl⟩ F.entry_list_extend (F.args_list_extend_2 _ _)
  (AutoSeq1.list_extend_list_list_0 l its.toArray n b its2.toArray n2 hlong (by rw [List.size_toArray]; omega) (by omega)) ⟨e,e2,?_⟩
 refine ⟨.non,_,I.lset (its':=its ++ its2) hH e (by simp) (r.append r2) ?_,rfl,q⟩
 rw [List.length_append]
 omega
def rPop:V -> List V -> Hp -> VK -> Prop:=λ x vs H Q=>∃ l xs y,x = .ref l /\ vs = [] /\ H l = some (.lst xs) /\ xs[xs.length - 1]? = some y /\ Q y (upd H l (.lst xs.dropLast))
theorem mt_pop:MtM X "list.pop" rPop:=by
 intro pins s σ H x vs v us Q I rx rv h
 obtain ⟨l,xs,y,rfl,rfl,hH,hy,q⟩:=h
 cases rx
 have hus:=rv.zero
 subst hus
 obtain ⟨z,its,n,r,hl,e⟩:=I.lstM hH
 obtain ⟨u,hu,ru⟩:=r.get hy
 have hy':its.toArray[its.toArray.size - 1]? = some u:=by
  show its.toArray[its.length - 1]? = some u
  rw [<- Array.getElem?_toList,<- hl]
  exact hu
 refine call_meets F.slot_list_pop ⟨_,e,rfl⟩ F.entry_list_pop (F.args_list_pop_1 _) (MeetsSeq.list_pop_last l its.toArray n u hy' (by rw [List.size_toArray]; omega)) ⟨e,?_⟩
 refine ⟨y,_,I.lset (its':=its.dropLast) hH e ?_ r.dropLast ?_,ru,q⟩
 ·show its.toArray.eraseIdxIfInBounds (its.toArray.size - 1) = its.dropLast.toArray
  rw [List.size_toArray,List.eraseIdxIfInBounds_toArray,erase_last]
 ·rw [List.length_dropLast]
  omega
def rCat:R2:=λ x y H Q=>∃ l b xs zs,x = .ref l /\ y = .ref b /\ H l = some (.lst xs) /\ H b = some (.lst zs) /\ xs.length + zs.length <= sizeLine /\ ∀ p,H p = none -> Q (.ref p) (upd H p (.lst (xs ++ zs)))
theorem op_cat:OpR X (binaryOp .Add) rCat:=by
 intro pins s σ H x y v u Q I rx ry h
 obtain ⟨l,b,xs,zs,rfl,rfl,hH,hB,hz,q⟩:=h
 cases rx
 cases ry
 obtain ⟨z,its,n,r,hl,e⟩:=I.lstM hH
 obtain ⟨z2,its2,n2,r2,hl2,e2⟩:=I.lstM hB
 refine PySem.P.add_list e e2 ?_ (by rw [List.size_toArray,List.size_toArray]; omega)
 have ea:its.toArray ++ its2.toArray = (its ++ its2).toArray:=by simp
 rw [ea]
 exact ⟨.ref _,_,I.lnew (t':=s.toks) (r.append r2) (by rw [List.length_append]; omega),rfl,q _ I.fresh⟩
def rRep:R2:=λ x y H Q=>∃ l k xs,x = .ref l /\ y = .int k /\ H l = some (.lst xs) /\ -(2 ^ 63) <= k /\ k < 2 ^ 63 /\ xs.length * k.toNat <= sizeLine /\
 ∀ p,H p = none -> Q (.ref p) (upd H p (.lst (List.replicate k.toNat xs).flatten))
theorem len_rep {α:Type} (xs:List α) (k:Nat):(List.replicate k xs).flatten.length = k * xs.length:=by
 induction k with
 | zero=>simp
 | succ k ih=>rw [List.replicate_succ,List.flatten_cons,List.length_append,ih,Nat.succ_mul,Nat.add_comm]
theorem op_rep:OpR X (binaryOp .Mult) rRep:=by
 intro pins s σ H x y v u Q I rx ry h
 obtain ⟨l,k,xs,rfl,rfl,hH,h1,h2,hz,q⟩:=h
 cases rx
 obtain ⟨t,rfl⟩:=ry
 obtain ⟨z,its,n,r,hl,e⟩:=I.lstM hH
 have hlen:its.toArray.size * k.toNat <= sizeLine:=by rw [List.size_toArray,<- hl]; exact hz
 have hcap:¬ its.toArray.size * k.toNat > (2 ^ 63 - 1) / 8:=by
  have:(sizeLine:Nat) <= (2 ^ 63 - 1) / 8:=by decide
  omega
 have hfit:¬ (!Builtin.List.listFitsIndex k) = true:=by
  rw [fitsIndex_both h1 h2]
  exact Bool.false_ne_true
 have hlong:¬ Builtin.List.listTooLong (its.toArray.size * k.toNat) = true:=by
  rw [notLongL hlen]
  exact Bool.false_ne_true
 have hnew:List.foldl (λ x1 x2=>x1 ++ x2) #[] (List.replicate (if its.toArray.isEmpty = true then 0 else k.toNat) its.toArray) = (List.replicate k.toNat its).flatten.toArray:=by
  have f0:∀ m:Nat,List.foldl (λ x1 x2=>x1 ++ x2) #[] (List.replicate m its.toArray) = (List.replicate m its).flatten.toArray:=λ m=>by
   have:=foldl_rep its m []
   rw [List.nil_append] at this
   exact this
  rw [f0]
  cases its with
  | nil=>simp
  | cons a r'=>rw [if_neg (by simp)]
 refine wpAny_binaryOp_repeat_ref (T:="list") (U:="int") (by decide) ⟨_,e,rfl⟩ (λ s'=>typeIs_int s' k t) noFill_list_mul F.fills_int_mul F.slot_int_rmul repeat_list F.slot_int_index.lookup
  (call_meets F.slot_int_rmul (typeIs_int s k t) F.entry_int_rmul (F.args_int_rmul_2 _ _) (int___rmul___int_list k t l its.toArray n)
   ⟨e,rfl,⟨_,e,rfl⟩,call_meets F.slot_list_mul ⟨_,e,rfl⟩ F.entry_list_mul (F.args_list_mul_2 _ _) (AutoListH.list___mul___list_int_3 l its.toArray n k t hfit hcap hlong) ⟨e,?_⟩⟩)
 rw [hnew]
 exact ⟨.ref _,_,I.lnew (t':=s.toks) (r.rep k.toNat) (by rw [len_rep,Nat.mul_comm]; exact hz),rfl,q _ I.fresh⟩
end
end L2
namespace Att
open PySem PySem.W PySem.Calls PyProof.Rows
theorem ints_of_wellAll {P:Params} {h:Heap}:∀ (ns:List Int) (vs:List Value),WellAll P h vs (ns.map WData.int) -> IntsAre vs ns:=by
 intro ns
 induction ns with
 | nil =>
  intro vs w
  rw [List.map_nil] at w
  cases w
  exact .nil
 | cons n ns ih =>
  intro vs w
  rw [List.map_cons] at w
  cases w with
  | cons a b =>
   cases a
   exact .cons _ _ (ih _ b)
theorem script_of {l:OpenLaw} {n:Nat} (hn:l.most = some n) {P:Params} {h:Heap} {args:List WData} {vals:List Value}
  (hpre:l.row.toRowW.claim.pre args = true) (hwl:WellAll P h vals args) :
  ∃ a vs ns,vals = [Value.ref a] /\ args = [WData.list (ns.map WData.int)] /\ h.get? a = some { cls:=.type "list",data:=.seq vs.toArray } /\ IntsAre vs ns /\ ns.length <= n:=by
 have hsh:WShape.hasAll [] args [.list .int] = true:=(pre_splitW hpre).1
 have hc:l.pre.holds [] { args:=args } = true:=(pre_splitW hpre).2
 obtain ⟨d,r,rfl,h1,h2⟩:=hasAllW_cons hsh
 obtain rfl:=hasAllW_nil h2
 obtain ⟨xs,rfl,h3⟩:=hasW_list h1
 obtain ⟨ns,rfl⟩:=items_int h3
 have hlen:ns.length <= n:=by
  unfold OpenLaw.pre at hc
  have h4:(WTm.not (.lt (.lit (.int (n:Int))) (.len (.arg 0)))).holds [] { args:=[.list (ns.map .int)] } = true:=by
   have h4:=(holds_andW hc).1
   rw [hn] at h4
   exact h4
  have h5:=condW_of h4 (w_not (w_lt w_lit (w_len_list (w_arg rfl))))
  rw [List.length_map] at h5
  refine Nat.le_of_not_lt λ q=>?_
  have q':(n:Int) < ((ns.length:Nat):Int):=by omega
  first
   | (rw [decide_eq_true q'] at h5; exact absurd h5 (by decide))
   | (simp at h5; omega)
 cases hwl with
 | cons w1 w2 =>
  cases w2
  cases w1 with
  | list ho hall=>exact ⟨_,_,ns,rfl,rfl,ho,ints_of_wellAll ns _ hall,hlen⟩
theorem post_true (l:OpenLaw) (args:List WData):l.row.toRowW.claim.post args (.bool true) args = true :=
 postW_of (r:=l.row.toRowW) (X:=(true == true))
  (show WShape.has [] (.bool true) .bool = true by first | rfl | decide | simp [WShape.has,WShape.arms,WShape.armsAll])
  (show (WTm.eq .res (.lit (.bool true))).value [] { args:=args,res:=some (.bool true),after:=args } = some (.bool (true == true)) from w_eq_bool (w_res rfl) w_lit) rfl
theorem attach_call {l:OpenLaw} {n:Nat} {q:Program} {loose:List Str} {XP:(Str -> Option Value) -> Heap -> Prop} {YP:World -> Heap -> Prop} {d:DefRec}
  (hn:l.most = some n) (hdf:d.params.defaults = [])
  (call:∀ (w:World) (s₀ s₁:Shared) (mg mb:Str -> Option Value) (fa:Addr) (o:Obj) (pm cd doc:Value) (a:Addr) (vs:List Value) (ns:List Int),
   Ground q loose [] XP w s₀ mg mb s₁.heap -> YP w s₁.heap ->
   s₁.heap.get? fa = some o -> o.data = .func (docDef d.name d.params d.body d.scope pm cd doc) -> s₁.heap.CodeRec cd d.name -> mg d.name = some (.ref fa) ->
   s₁.heap.get? a = some { cls:=.type "list",data:=.seq vs.toArray } -> IntsAre vs ns -> ns.length <= n -> s₁.gens = #[] ->
   codeAny (model l.prog w) callerA (.call (.ref fa) ⟨[.ref a],[]⟩) (λ r s'=>r = .ok (.ret (.bool true)) /\ OldK s₁.heap s'.heap /\ s'.os = s₁.os /\ AllBare s'.gens) s₁) :
  WalkO q loose XP YP l.row.toRowW d [] (λ f vs=>PySem.call f vs):=by
 intro w s₀ s₁ mg mb G Y fa o pm cd doc dV kV ho hd hcd hD hmg hg args vals as hpre hlay hrd hwl hlo
 obtain rfl:dV = .none:=Dflts.none hD hdf
 obtain rfl:kV = .none:=Dflts.noKw hD
 obtain ⟨a,vs,ns,rfl,rfl,hobj,hints,hlen⟩:=script_of hn hpre hwl
 refine enter_call (codeAny_mono (call w s₀ s₁ mg mb fa o pm cd doc a vs ns G Y ho (fd_plain hd) hcd hmg hobj hints hlen hg) λ r s' hq=>?_)
 obtain ⟨rfl,h2,h3,h4⟩:=hq
 exact ⟨.inl ⟨.bool true,.bool true,[],rfl,λ _=>rfl,.bool true,post_true l _,λ _=>⟨List.Pairwise.nil,λ _ hm=>(nomatch hm)⟩⟩,h2,h3,h4⟩
end Att
namespace L2
open PySem PySem.Spec PyProof.Rows
theorem vals_ints:∀ {vs:List Value} {ns:List Int},IntsAre vs ns -> Vals (ns.map V.int) vs
 | _,_,.nil=>.nil
 | _,_,.cons n t h=>.cons ⟨t,rfl⟩ (vals_ints h)
def Only (H:Hp):Prop:=∀ b,H b = none ∨ ∃ o xs,H b = some (.frz o (.lst xs))
theorem law_call {P:Program} {w:World} {K:PySem.W.Frag} {mg mb:Str -> Option Value} {CX:CXT} {k:Nat} {fa a:Addr} {fd:FuncData} {x:Str} {sp:Sp} {s₁:Shared} {vs:List Value} {ns:List Int}
  (KX:K.In s₁.heap) (hns:s₁.heap.Ns mainGlobals mg) (hb:s₁.heap.Ns builtinsNs mb) (hbb:∀ x:Str,x ≠ "__name__" -> mb x = bootBuiltins x) (hlim:s₁.heap.NoLimit) (hg:s₁.gens = #[])
  (ha:s₁.heap.get? a = some { cls:=.type "list",data:=.seq vs.toArray }) (hi:IntsAre vs ns) (hl:ns.length <= sizeLine) (hr:Room k callerA)
  (F:∀ base:Heap,K.In base -> base.Ns mainGlobals mg -> FnOk P w K mg base CX k fa fd [x] sp) (hbind:∀ (s:Shared) (u:Value),BindsTo s fd ⟨[u],[]⟩ [(x,u)])
  (hsp:∀ H:Hp,Only H -> SqL K H a (ns.map V.int) -> sp [.ref a] H (λ v _=>v = .bl true) λ _ _ _=>False)
  (hCX:∀ H e s',CX [] H s₁ (λ _ _ _=>False) e s' -> False) :
  codeAny (model P w) callerA (.call (.ref fa) ⟨[.ref a],[]⟩) (λ r s'=>r = .ok (.ret (.bool true)) /\ OldK s₁.heap s'.heap /\ s'.os = s₁.os /\ AllBare s'.gens) s₁:=by
 have rv:=vals_ints hi
 have lenV:=hi.length
 have core:∀ H:Hp,Only H -> SqL K H a (ns.map V.int) -> HOk P w H s₁.heap -> (∀ b,H b ≠ none -> b = a) -> (H a ≠ none -> K.lookup a = none) ->
   codeAny (model P w) callerA (.call (.ref fa) ⟨[.ref a],[]⟩) (λ r s'=>r = .ok (.ret (.bool true)) /\ OldK s₁.heap s'.heap /\ s'.os = s₁.os /\ AllBare s'.gens) s₁:=by
  intro H hO hS hok hA hK
  have base_of:∀ {b:Addr} {o:Obj},s₁.heap.get? b = some o -> H b = none -> (hidT s₁.heap H).get? b = some o:=λ e n=>hidT_get e n
  have noA:∀ {b:Addr} {o:Obj} {es:Array DictEntry} {ep:Nat},s₁.heap.get? b = some o -> o.data = .dict es ep -> H b = none:=λ {b o es ep} e d=>by
   cases q:H b with
   | none=>rfl
   | some u =>
    have e':b = a:=hA b (by rw [q]; simp)
    subst e'
    rw [ha] at e; cases e
    have d':Data.seq vs.toArray _ = Data.dict es ep:=d
    cases d'
  have nsK:∀ {b:Addr} {m:Str -> Option Value},s₁.heap.Ns b m -> (hidT s₁.heap H).Ns b m:=λ {b m} ⟨o,es,ep,e,d,r⟩=>⟨o,es,ep,base_of e (noA e d),d,r⟩
  have hKb:K.In (hidT s₁.heap H):=λ b o e=>base_of (KX b o e) (by
   cases q:H b with
   | none=>rfl
   | some u =>
    have e':b = a:=hA b (by rw [q]; simp)
    subst e'
    rw [hK (by rw [q]; simp)] at e; cases e)
  have hM:Mod K mg (hidT s₁.heap H):=⟨hKb,nsK hns,⟨mb,nsK hb,hbb⟩,let ⟨mc,h1,h2⟩:=hlim; ⟨mc,nsK h1,h2⟩⟩
  have e0:Env0 P w K mg (hidT s₁.heap H) callerA [] s₁ H:=⟨rfl,hM,λ b o e=>of_hidT e,Nat.le_of_eq (hidT_size _ _),trivial,λ b hb=>absurd (show b ∈ ([]:List Addr) from hb) (by simp),hok,.of_eq hg⟩
  refine codeAny_mono ((F _ hKb (nsK hns)).run callerA [] s₁ H ⟨[.ref a],[]⟩ [.ref a] [.ref a] _ _ hr e0 (hbind s₁ (.ref a)) (.cons rfl .nil) (hsp H hO hS)) λ r s' h=>?_
  cases r with
  | error e=>exact (hCX H e s' h).elim
  | ok fl =>
   cases fl with
   | next=>exact False.elim h
   | brk=>exact False.elim h
   | cont=>exact False.elim h
   | ret u =>
    obtain ⟨v,H',os,bare,un,hok',r',q⟩:=h
    have q':v = .bl true:=q
    subst q'
    obtain rfl:u = Value.bool true:=r'
    refine ⟨rfl,OldK.of_keep λ b o e=>?_,os,bare⟩
    cases q:H b with
    | none=>exact un.keep b o e q (by intro z; exact absurd (show b ∈ ([]:List Addr) from z) (by simp)) (by simp)
    | some u =>
     rcases hO b with z | ⟨ob,xs,z⟩
     ·rw [q] at z; cases z
     ·have z2:=un.frzs b ob _ z
      obtain ⟨e1,_⟩:=hok b _ z
      obtain ⟨e2,_⟩:=hok' b _ z2
      rw [e] at e1; cases e1
      exact e2
 cases hk:K.lookup a with
 | some o =>
  have e:=KX a o hk
  rw [ha] at e
  cases e
  refine core (λ _=>none) (λ _=>.inl rfl) (.inr ⟨_,vs.toArray,_,hk,rfl,rfl,rfl,by rw [List.size_toArray,lenV]; exact hl,by simpa using rv⟩) (λ b u z=>by have z':(none:Option HO) = some u:=z; cases z') (λ b z=>absurd rfl z) λ z=>absurd rfl z
 | none =>
  refine core (λ b=>if b = a then some (.frz { cls:=.type "list",data:=.seq vs.toArray } (.lst (ns.map V.int))) else none) (λ b=>?_) (.inl (.inr ⟨{ cls:=.type "list",data:=.seq vs.toArray },if_pos rfl⟩)) (λ b u z=>?_) (λ b z=>?_) λ _=>hk
  ·by_cases hb:b = a
   ·exact .inr ⟨_,_,if_pos hb⟩
   ·exact .inl (if_neg hb)
  ·by_cases hb:b = a
   ·have z':=(if_pos hb).symm.trans z
    cases z'
    subst hb
    exact ⟨ha,by rw [List.length_map]; exact hl,vs,_,rv,ha⟩
   ·have z':=(if_neg hb).symm.trans z
    cases z'
  ·by_cases hb:b = a
   ·exact hb
   ·exact absurd (if_neg hb) z
end L2
namespace L2
open PySem PySem.Spec PyProof.Rows
theorem walk_of {l:PySem.W.OpenLaw} {n k:Nat} {q:Program} {loose:List Str} {XP:(Str -> Option Value) -> Heap -> Prop} {YP:World -> Heap -> Prop} {d:DefRec} {K:Params -> PySem.W.Frag} {CX:World -> CXT} {sp:World -> Sp} {x:Str}
  (hn:l.most = some n) (hn2:n <= sizeLine) (hdf:d.params.defaults = []) (hr:Room k callerA)
  (hY:∀ (w:World) (h:Heap),YP w h -> (K w.params).In h)
  (F:∀ (w:World) (mg:Str -> Option Value) (fa:Addr) (h:Heap),(K w.params).In h -> h.Ns mainGlobals mg -> mg d.name = some (.ref fa) ->
   ∃ fd:FuncData,(∀ (s:Shared) (u:Value),BindsTo s fd ⟨[u],[]⟩ [(x,u)]) /\
    ∀ base:Heap,(K w.params).In base -> base.Ns mainGlobals mg -> FnOk l.prog w (K w.params) mg base (CX w) k fa fd [x] (sp w))
  (hsp:∀ (w:World) (H:Hp) (a:Addr) (ns:List Int),ns.length <= n -> Only H -> SqL (K w.params) H a (ns.map V.int) -> sp w [.ref a] H (λ v _=>v = .bl true) λ _ _ _=>False)
  (hCX:∀ (w:World) (H:Hp) (s:Shared) (e:Value) (s':Shared),CX w [] H s (λ _ _ _=>False) e s' -> False) :
  PySem.W.WalkO q loose XP YP l.row.toRowW d [] (λ f vs=>PySem.call f vs):=by
 refine Att.attach_call hn hdf λ w s₀ s₁ mg mb fa o pm cd doc a vs ns G Y ho hd hcd hmg hobj hints hlen hg=>?_
 have KX:=hY w _ Y
 obtain ⟨fd,hb,hF⟩:=F w mg fa _ KX G.T.g hmg
 exact law_call KX G.T.g G.T.b G.T.builtins G.T.nolimit hg hobj hints (Nat.le_trans hlen hn2) hr hF hb (λ H hO hS=>hsp w H a ns hlen hO hS) λ H e s'=>hCX w H s₁ e s'
end L2
namespace L2
open PySem PySem.Spec PyProof.Rows
def inClass (s:Stmt) (j:Nat):Stmt:=match s with
 | .ClassDef _ _ _ body _ _ _ _ _ _ _=>body.getD j (.Pass ⟨0,0,0,0⟩)
 | _=>.Pass ⟨0,0,0,0⟩
def defArgs (s:Stmt):Arguments:=match s with
 | .FunctionDef _ a _ _ _ _ _ _ _ _=>a
 | _=>{ posonlyargs:=[],args:=[],vararg:=none,kwonlyargs:=[],kw_defaults:=[],kwarg:=none,defaults:=[] }
def defBody (s:Stmt):List Stmt:=match s with
 | .FunctionDef _ _ b _ _ _ _ _ _ _=>b
 | _=>[]
def defScope (s:Stmt):Scope:=match s with
 | .FunctionDef _ _ _ _ _ _ sc _ _ _=>sc
 | _=>{ kind:=.function,names:=[],isGenerator:=false,isCoroutine:=false }
abbrev CX0:CXT:=λ _ _ _ _ _ _=>False
abbrev E0:XK:=λ _ _ _=>False
theorem pass0 {X:Cx}:Passes CX0 X E0:=λ _ _ _ _ _ _ _ h=>h.elim
structure Fun (K:PySem.W.Frag) (x qual:Str) (st:Stmt) (f:Addr) (fd:FuncData):Prop where
 ex:∃ (oc:Value) (od:Option Addr) (kV doc pm:Value) (an:Option Addr) (cdv ct:Value) (osl:Array (Option Value)),
  fd = PySem.W.fnOf x qual (defArgs st) (defBody st) (defScope st) .none kV doc pm an cdv ct /\ K.lookup f = some ⟨oc,od,.func fd,osl⟩ /\ PySem.W.codeIn K cdv qual = true
 kp:PySem.W.keepIn K (.ref f) = true
section
variable {P:Program} {w:World} {K:PySem.W.Frag} {mg:Str -> Option Value} {base:Heap}
theorem Fun.ok {x qual:Str} {st:Stmt} {f:Addr} {fd:FuncData} {N ps:List Str} {k:Nat} {sp:Sp} (F:Fun K x qual st f fd) (S:FnScope N ps (defScope st)) (len:∀ vs H Q E,sp vs H Q E -> vs.length = ps.length)
  (hbody:∀ (cdv:Value) (A:Around) (outer:List Env) (s:Shared) (H:Hp) (vs:List V) (Q:VK) (E:XK),Room k (A.deeper (envOfC qual (defScope st) s.heap.objs.size f cdv)) -> sp vs H Q E ->
   ∃ t,PSs (cxOf CX0 P w K mg base N qual (defScope st) f cdv A outer s H E).nox (defBody st) t /\ t { nx:=λ _ H'=>Q .non H',rt:=Q } (start N vs) H):FnOk P w K mg base CX0 (k + 1) f fd ps sp:=by
 obtain ⟨oc,od,kV,doc,pm,an,cdv,ct,osl,rfl,lk,hcd⟩:=F.ex
 refine fn_of lk hcd S len λ A outer s H vs Q E hr hsp=>?_
 obtain ⟨t,h,q⟩:=hbody cdv A outer s H vs Q E hr hsp
 exact ⟨t,h.nox,q⟩
theorem Fun.binds {x qual:Str} {st:Stmt} {f:Addr} {fd:FuncData} {ps:List Str} (F:Fun K x qual st f fd)
  (h:∀ (kV doc pm:Value) (an:Option Addr) (cdv ct:Value) (us:List Value),us.length = ps.length -> bindArgs (PySem.W.fnOf x qual (defArgs st) (defBody st) (defScope st) .none kV doc pm an cdv ct) ⟨us,[]⟩ = pure (ps.zip us)):Binds K fd ps []:=by
 obtain ⟨oc,od,kV,doc,pm,an,cdv,ct,osl,rfl,lk,hcd⟩:=F.ex
 exact .all (h kV doc pm an cdv ct)
theorem fun_mk {x qual:Str} {st:Stmt} {f:Addr} {oc:Value} {od an:Option Addr} {osl:Array (Option Value)} {kV doc pm cdv ct:Value} (l:K.lookup f = some ⟨oc,od,.func (PySem.W.fnOf x qual (defArgs st) (defBody st) (defScope st) .none kV doc pm an cdv ct),osl⟩)
  (c:PySem.W.codeIn K cdv qual = true) (k:PySem.W.keepIn K (.ref f) = true):Fun K x qual st f (PySem.W.fnOf x qual (defArgs st) (defBody st) (defScope st) .none kV doc pm an cdv ct):=⟨⟨oc,od,kV,doc,pm,an,cdv,ct,osl,rfl,l,c⟩,k⟩
end
theorem hu_of {A:Around} {k:Nat} (hr:Room k A):A.units + 1 < cLine:=Nat.lt_of_le_of_lt (Nat.add_le_add_left (by decide:1 <= 64) _) hr.units
section
variable {X:Cx}
theorem pv (i:Nat) {x:Str} {pos:Pos} (hN:X.N[i]? = some x:=by rfl) (hv:Vis X.env.scope x:=by first | exact Or.inl rfl | exact Or.inr (Or.inl rfl) | exact Or.inr (Or.inr rfl)) (hd:(x == ("__debug__":Str)) = false:=by decide)
  (hcd:(x == ("__classdict__":Str)) = false:=by decide):PE X (.Name x pos) (tVar i):=pe_var hN hv hd hcd
end
theorem iteF {A B:Prop} (h:B):if false = true then A else B:=by
 rw [if_neg Bool.false_ne_true]
 exact h
theorem iteT {A B:Prop} (h:A):if true = true then A else B:=by
 rw [if_pos rfl]
 exact h
theorem ite2 {c A B:Prop} [Decidable c] (h1:c -> A) (h2:¬ c -> B):if c then A else B:=by
 by_cases h:c
 ·rw [if_pos h]
  exact h1 h
 ·rw [if_neg h]
  exact h2 h
def Same (H H':Hp):Prop:=∀ b o,H b = some o -> H' b = some o
theorem Same.refl (H:Hp):Same H H:=λ _ _ h=>h
theorem Same.trans {H H1 H2:Hp} (a:Same H H1) (b:Same H1 H2):Same H H2:=λ c o h=>b c o (a c o h)
theorem Same.free {H H':Hp} (e:Same H H') {l:Addr} (h:H' l = Option.none):H l = Option.none:=by
 cases q:H l with
 | none=>rfl
 | some o =>
  rw [e l o q] at h
  cases h
theorem Same.seq {K:PySem.W.Frag} {H H':Hp} {a:Addr} {xs:List V} (e:Same H H') (h:SqL K H a xs):SqL K H' a xs:=by
 rcases h with (h | ⟨o,h⟩) | h
 ·exact .inl (.inl (e _ _ h))
 ·exact .inl (.inr ⟨o,e _ _ h⟩)
 ·exact .inr h
end L2
set_option linter.all false
namespace Fs
abbrev Pr:=List Nat
def look (ρ:Nat -> Bool):List Nat -> List Bool -> Bool
 | [],t=>t.headD false
 | l :: ls,t=>if ρ l = true then look ρ ls (t.drop (2 ^ ls.length)) else look ρ ls (t.take (2 ^ ls.length))
def ins (a:Pr):List Pr -> List Pr
 | []=>[a]
 | b :: l=>if b < a then b :: ins a l else a :: b :: l
end Fs
set_option linter.all false
set_option Elab.async false
set_option linter.all false
set_option maxRecDepth 100000
namespace L2
open PySem PySem.Spec PyProof.Rows
def clos (env:Env):List (Str × NameKind) -> List (Str × Addr) -> List (Str × Addr)
 | [],acc=>acc
 | (n,k) :: r,acc=>clos env r (if (k == NameKind.free) = true then (n,(env.cells.lookup n).getD 0) :: acc else acc)
theorem clos_run (env:Env):∀ (l:List (Str × NameKind)) (acc:List (Str × Addr)),(∀ y ∈ l,y.2 = .free -> ∃ c,env.cells.lookup y.1 = some c) ->
  (forIn l acc λ (x:Str × NameKind) (cs:List (Str × Addr))=>match x with
   | (name,kind)=>if (kind == NameKind.free) = true then do let a <- cellOf env name; pure (ForInStep.yield ((name,a) :: cs)) else pure (ForInStep.yield cs):Sem (List (Str × Addr))) = pure (clos env l acc)
 | [],acc,_=>by rw [List.forIn_nil]; rfl
 | (n,k) :: r,acc,h=>by
  rw [List.forIn_cons]
  by_cases hk:(k == NameKind.free) = true
  ·obtain ⟨c,hc⟩:=h (n,k) List.mem_cons_self (by simpa using hk)
   have e:cellOf env n = pure c:=by unfold cellOf; rw [hc]
   simp only [hk,if_true,e,pure_bind]
   rw [clos_run env r _ λ y hy=>h y (List.mem_cons_of_mem _ hy)]
   rw [clos,if_pos hk,hc]
   rfl
  ·have hk':(k == NameKind.free) = false:=by simpa using hk
   simp only [hk',Bool.false_eq_true,if_false,pure_bind]
   rw [clos_run env r _ λ y hy=>h y (List.mem_cons_of_mem _ hy),clos,if_neg hk]
theorem closureFor_ok {scope:Scope} {env:Env} (h:∀ y ∈ scope.names,y.2 = .free -> ∃ c,env.cells.lookup y.1 = some c):closureFor scope env = pure (clos env scope.names []):=by
 unfold closureFor
 have:=clos_run env scope.names [] h
 simp only [bind_pure]
 exact this
theorem clos_sound (env:Env):∀ (l:List (Str × NameKind)) (acc:List (Str × Addr)),(∀ y ∈ l,y.2 = .free -> ∃ c,env.cells.lookup y.1 = some c) -> (∀ x c,acc.lookup x = some c -> env.cells.lookup x = some c) ->
  ∀ x c,(clos env l acc).lookup x = some c -> env.cells.lookup x = some c
 | [],acc,_,ha,x,c,e=>ha x c e
 | (n,k) :: r,acc,h,ha,x,c,e=>by
  rw [clos] at e
  refine clos_sound env r _ (λ y hy=>h y (List.mem_cons_of_mem _ hy)) ?_ x c e
  clear e
  intro x c e
  by_cases hk:(k == NameKind.free) = true
  ·rw [if_pos hk] at e
   obtain ⟨c',hc⟩:=h (n,k) List.mem_cons_self (by simpa using hk)
   rw [hc] at e
   rw [List.lookup_cons] at e
   by_cases hx:(x == n) = true
   ·rw [hx] at e
    have:x = n:=by simpa using hx
    subst this
    cases e
    exact hc
   ·rw [show (x == n) = false by simpa using hx] at e
    exact ha x c e
  ·rw [if_neg hk] at e
   exact ha x c e
theorem clos_acc (env:Env):∀ (l:List (Str × NameKind)) (acc:List (Str × Addr)) (x:Str),(acc.lookup x).isSome = true -> ((clos env l acc).lookup x).isSome = true
 | [],_,_,h=>h
 | (n,k) :: r,acc,x,h=>by
  rw [clos]
  refine clos_acc env r _ x ?_
  by_cases hk:(k == NameKind.free) = true
  ·rw [if_pos hk,List.lookup_cons]
   cases x == n with
   | true=>rfl
   | false=>exact h
  ·rw [if_neg hk]; exact h
theorem clos_has (env:Env):∀ (l:List (Str × NameKind)) (acc:List (Str × Addr)) (x:Str),(x,NameKind.free) ∈ l -> ((clos env l acc).lookup x).isSome = true
 | (n,k) :: r,acc,x,h=>by
  rw [clos]
  rcases List.mem_cons.mp h with e | e
  ·cases e
   refine clos_acc env r _ _ ?_
   rw [if_pos (by decide),List.lookup_cons]
   simp only [beq_self_eq_true,Option.isSome_some]
  ·exact clos_has env r _ x e
def cxComp (X:Cx) (NY:List Str) (scope:Scope) (C:Addr) (s:Shared) (H:Hp) (fp:List Addr) (pins:List (Addr × Obj)):Cx :=
 { X with N:=NY,s₀:=s,H₀:=H,env:=compEnvC scope (clos X.env scope.names []) C X.env,outer:=X.stack,ex:=fp,fn:=λ _=>false,pn:=X.pn ++ pins,xe:=λ _ _=>False }
structure CompScope (X:Cx) (NY:List Str) (o:Nat) (caps:List Nat) (scope:Scope):Prop where
 kind:scope.kind = .function
 nd:NY.Nodup
 nocell:∀ y ∈ scope.names,y.2 ≠ .cell
 frees:∀ y ∈ scope.names,y.2 = .free -> (X.env.kindOf y.1 = some .cell ∨ X.env.kindOf y.1 = some .free)
 locs:∀ y ∈ scope.names,y.2 = .local -> scope.names.lookup y.1 = some .local
 capOk:∀ (j:Nat) (i:Nat),caps[j]? = some i -> ∃ x,NY[o + j]? = some x /\ X.N[i]? = some x /\ scope.names.lookup x = some .free
 len:NY.length = o + caps.length
def stY (o:Nat) (caps:List Nat) (σ:St):St:=List.replicate o none ++ caps.map λ i=>(σ[i]?).getD none
theorem relabel_free {env:Env}:∀ {names:List (Str × NameKind)} {x:Str},names.lookup x = some .free ->
  (names.map λ (n,k)=>if (k == NameKind.free && env.scope.kind == .function && env.kindOf n == some .cell) then (n,NameKind.cell) else (n,k)).lookup x = some .cell ∨
  (names.map λ (n,k)=>if (k == NameKind.free && env.scope.kind == .function && env.kindOf n == some .cell) then (n,NameKind.cell) else (n,k)).lookup x = some .free
 | [],_,h=>by simp at h
 | (n,k) :: r,x,h=>by
  have ih:=@relabel_free env r x
  show List.lookup x ((if (k == NameKind.free && env.scope.kind == .function && env.kindOf n == some .cell) = true then (n,NameKind.cell) else (n,k)) :: _) = _ ∨ List.lookup x ((if (k == NameKind.free && env.scope.kind == .function && env.kindOf n == some .cell) = true then (n,NameKind.cell) else (n,k)) :: _) = _
  cases hx:x == n with
  | true =>
   simp only [List.lookup_cons,hx] at h
   cases h
   by_cases hc:(NameKind.free == NameKind.free && env.scope.kind == .function && env.kindOf n == some .cell) = true
   ·rw [if_pos hc]; left; simp only [List.lookup_cons,hx]
   ·rw [if_neg hc]; right; simp only [List.lookup_cons,hx]
  | false =>
   simp only [List.lookup_cons,hx] at h
   by_cases hc:(k == NameKind.free && env.scope.kind == .function && env.kindOf n == some .cell) = true
   ·rw [if_pos hc]; simp only [List.lookup_cons,hx]; exact ih h
   ·rw [if_neg hc]; simp only [List.lookup_cons,hx]; exact ih h
theorem of_relabel {env:Env}:∀ {names:List (Str × NameKind)} {x:Str} {k:NameKind},(∀ y ∈ names,y.2 ≠ .cell) ->
  (names.map λ (n,k)=>if (k == NameKind.free && env.scope.kind == .function && env.kindOf n == some .cell) then (n,NameKind.cell) else (n,k)).lookup x = some k -> (k = .cell ∨ k = .free) -> names.lookup x = some .free
 | [],_,_,_,h,_=>by simp at h
 | (n,k0) :: r,x,k,nc,h,hk=>by
  have ih:=@of_relabel env r x k (λ y hy=>nc y (List.mem_cons_of_mem _ hy))
  replace h:List.lookup x ((if (k0 == NameKind.free && env.scope.kind == .function && env.kindOf n == some .cell) = true then (n,NameKind.cell) else (n,k0)) :: (r.map λ (n,k)=>if (k == NameKind.free && env.scope.kind == .function && env.kindOf n == some .cell) then (n,NameKind.cell) else (n,k))) = some k:=h
  have n0:=nc (n,k0) List.mem_cons_self
  cases hx:x == n with
  | true =>
   by_cases hc:(k0 == NameKind.free && env.scope.kind == .function && env.kindOf n == some .cell) = true
   ·have:k0 = .free:=by
     simp only [Bool.and_eq_true] at hc
     simpa using hc.1.1
    simp only [List.lookup_cons,hx,this]
   ·rw [if_neg hc] at h
    simp only [List.lookup_cons,hx] at h ⊢
    cases h
    rcases hk with e | e
    ·exact absurd e n0
    ·rw [e]
  | false =>
   by_cases hc:(k0 == NameKind.free && env.scope.kind == .function && env.kindOf n == some .cell) = true
   ·rw [if_pos hc] at h; simp only [List.lookup_cons,hx] at h ⊢; exact ih h hk
   ·rw [if_neg hc] at h; simp only [List.lookup_cons,hx] at h ⊢; exact ih h hk
theorem Un.but {fs ex:List Addr} {H H':Hp} {h h1 h2:Heap} {C:Addr} (u:Un fs ex H H' h h1) (hs:Heap.SameBut C h1 h2) (hC:h.objs.size <= C):Un fs ex H H' h h2:=by
 have ne:∀ b o,h.get? b = some o -> b ≠ C:=λ b o e z=>by subst z; exact absurd (Nat.lt_of_lt_of_le (Heap.lt_size e) hC) (Nat.lt_irrefl _)
 refine ⟨λ b o e n hb hx=>(hs.2 b (ne b o e)).trans (u.keep b o e n hb hx),λ b o e n hb hx=>?_,u.free,λ b o e hx=>?_,u.tups,u.frzs,u.tbls⟩
 ·obtain ⟨sl,q⟩:=u.slot b o e n hb hx
  exact ⟨sl,(hs.2 b (ne b o e)).trans q⟩
 ·obtain ⟨o',q⟩:=u.there b o e hx
  exact ⟨o',(hs.2 b (ne b o e)).trans q⟩
theorem HOk.but {P:Program} {w:World} {H:Hp} {h h':Heap} {C:Addr} (ok:HOk P w H h) (hs:Heap.SameBut C h h') (hC:H C = none):HOk P w H h':=λ a o e=>by
 refine (ok a o e).stay (λ b u hb q=>(hs.2 b ?_).trans q) (λ _ q=>q) λ _ _ q=>q
 rcases hb with z | z
 ·rw [z]; exact λ y=>by rw [y,hC] at e; cases e
 ·exact λ y=>by rw [y,hC] at z; cases z
abbrev Adv:=Nat -> St -> Hp -> (St -> Hp -> Prop) -> Prop
structure Walk (Y:Cx) (tg:Expr) (fp:List Addr) (it:Addr) (tn:Nat -> Heap -> Prop) (adv:Adv) (stop:Nat -> Hp -> Prop):Prop where
 obj:∀ i h,tn i h -> ∀ b ∈ fp,∃ o,h.get? b = some o /\ ∀ v,o.data ≠ .cell v
 keep:∀ i h h',tn i h -> (∀ b ∈ fp,∀ o,h.get? b = some o -> h'.get? b = some o) -> tn i h'
 item:∀ (i:Nat) (pins:List (Addr × Obj)) (s:Shared) (σ:St) (H:Hp) (N:St -> Hp -> Prop),Inv Y pins σ H s -> (∀ b ∈ fp,FpOk Y pins H b) -> tn i s.heap -> adv i σ H N ->
  wpAny (model Y.prog Y.w) Y.A (pyNext (.ref it)) (λ r s1=>∃ u,r = some u /\ wpAny (model Y.prog Y.w) Y.A (letOwnedTupleGo tg (.ref it) u) (λ _ s2 =>
   wpAny (model Y.prog Y.w) Y.A (assign tg Y.env u) (λ _ s3=>∃ σ' H',Inv Y pins σ' H' s3 /\ N σ' H' /\ tn (i + 1) s3.heap /\ ∀ b ∈ fp,H' b = none) Y.xe s2) Y.xe s1) Y.xe s
 done:∀ (i:Nat) (pins:List (Addr × Obj)) (s:Shared) (σ:St) (H:Hp),Inv Y pins σ H s -> (∀ b ∈ fp,FpOk Y pins H b) -> tn i s.heap -> stop i H ->
  wpAny (model Y.prog Y.w) Y.A (pyNext (.ref it)) (λ r s1=>r = none /\ Inv Y pins σ H s1) Y.xe s
 self:∀ (A:Around) (i:Nat) (s:Shared) (Q:Value -> Shared -> Prop) (E:Value -> Shared -> Prop),tn i s.heap -> Q (.ref it) s -> wpAny (model Y.prog Y.w) A (pyIter (.ref it)) Q E s
theorem stores_keep {Y:Cx} {tg:Expr} {fp:List Addr} {tn:Nat -> Heap -> Prop} {pins:List (Addr × Obj)} {s5 s6:Shared} {σ6:St} {H6:Hp} {i:Nat}
  (obj:∀ b ∈ fp,∃ o,s5.heap.get? b = some o /\ ∀ v,o.data ≠ .cell v) (keep:∀ h',(∀ b ∈ fp,∀ o,s5.heap.get? b = some o -> h'.get? b = some o) -> tn i h')
  (I6:Inv Y (pins ++ pinsAt fp s5.heap) σ6 H6 s6):Inv Y pins σ6 H6 s6 /\ tn i s6.heap /\ ∀ b ∈ fp,H6 b = none:=by
 refine ⟨I6.unpinned,keep _ λ b hb o e=>(I6.pin (b,o) (List.mem_append_right _ (List.mem_append_right _ (mem_pinsAt hb e)))).1,λ b hb=>?_⟩
 obtain ⟨o,e,d⟩:=obj b hb
 exact (I6.pin (b,o) (List.mem_append_right _ (List.mem_append_right _ (mem_pinsAt hb e)))).2.1
def advOf (J:It) (g:TG):Adv:=λ i σ H N=>J.go i H /\ ∀ x H',J.yld i H x H' -> g x σ H' N
theorem Turn.walk {Y:Cx} {tg:Expr} {J:It} {fp:List Addr} {it:Addr} {tn:Nat -> Heap -> Prop} {g:TG} (hc:Y.calm = true) (T:Turn Y.prog Y.w Y.K tg J fp it tn) (hg:PG Y tg g):Walk Y tg fp it tn (advOf J g) J.stop where
 obj:=T.obj
 keep:=T.keep
 item:=by
  intro i pins s σ H N I hf st ⟨go,step⟩
  refine thn (T.item Y rfl rfl rfl hc i pins s σ H Y.xe I hf st go) λ r s4 ⟨u,hr,h4⟩=>⟨u,hr,?_⟩
  refine thn h4 λ _ s5 ⟨x,H5,I5,r5,y5,st5,fr5⟩=>?_
  have I5':=I5.pinned (λ b hb=>⟨fr5 b hb,(hf b hb).2⟩) (T.obj _ _ st5)
  refine thn (hg _ s5 σ H5 x u _ I5' r5 (step x H5 y5)) λ _ s6 ⟨σ6,H6,I6,q6⟩=>?_
  obtain ⟨J1,J2,J3⟩:=stores_keep (tg:=tg) (T.obj _ _ st5) (λ h' k=>T.keep _ _ _ st5 k) I6
  exact ⟨σ6,H6,J1,q6,J2,J3⟩
 done:=λ i pins s σ H I hf st hs=>T.done Y rfl rfl rfl hc i pins s σ H Y.xe I hf st hs
 self:=T.self
structure It2 where
 go:Nat -> Hp -> Prop
 yld:Nat -> Hp -> List V -> Hp -> Prop
 stop:Nat -> Hp -> Prop
structure Turn2 (P:Program) (w:World) (K:PySem.W.Frag) (tg:Expr) (J:It2) (fp:List Addr) (it:Addr) (tn:Nat -> Heap -> Prop):Prop where
 obj:∀ i h,tn i h -> ∀ b ∈ fp,∃ o,h.get? b = some o /\ ∀ v,o.data ≠ .cell v
 keep:∀ i h h',tn i h -> (∀ b ∈ fp,∀ o,h.get? b = some o -> h'.get? b = some o) -> tn i h'
 item:∀ (X:Cx),X.prog = P -> X.w = w -> X.K = K -> X.calm = true -> ∀ (i:Nat) (pins:List (Addr × Obj)) (s:Shared) (σ:St) (H:Hp) (E:Value -> Shared -> Prop),Inv X pins σ H s -> (∀ b ∈ fp,FpOk X pins H b) -> tn i s.heap -> J.go i H ->
  wpAny (model P w) X.A (pyNext (.ref it)) (λ r s1=>∃ p,r = some (.ref p) /\
   wpAny (model P w) X.A (letOwnedTupleGo tg (.ref it) (.ref p)) (λ _ s2=>∃ xs us H',Inv X pins σ H' s2 /\ IsTup s2.heap p us.toArray /\ Vals xs us /\ J.yld i H xs H' /\ tn (i + 1) s2.heap /\ ∀ b ∈ fp,H' b = none) E s1) E s
 done:∀ (X:Cx),X.prog = P -> X.w = w -> X.K = K -> X.calm = true -> ∀ (i:Nat) (pins:List (Addr × Obj)) (s:Shared) (σ:St) (H:Hp) (E:Value -> Shared -> Prop),Inv X pins σ H s -> (∀ b ∈ fp,FpOk X pins H b) -> tn i s.heap -> J.stop i H ->
  wpAny (model P w) X.A (pyNext (.ref it)) (λ r s1=>r = none /\ Inv X pins σ H s1) E s
 self:∀ (A:Around) (i:Nat) (s:Shared) (Q:Value -> Shared -> Prop) (E:Value -> Shared -> Prop),tn i s.heap -> Q (.ref it) s -> wpAny (model P w) A (pyIter (.ref it)) Q E s
abbrev TI2:=St -> Hp -> (It2 -> Hp -> Prop) -> Prop
def PI2 (X:Cx) (tg iter:Expr) (wi:TI2):Prop :=
 ∀ (pins:List (Addr × Obj)) (s:Shared) (σ:St) (H:Hp) (R:It2 -> Hp -> Prop),Inv X pins σ H s -> wi σ H R ->
  wpAny (model X.prog X.w) X.A (eval iter X.env) (λ v s1=>wpAny (model X.prog X.w) X.A (pyIter v) (λ itv s2 =>
   ∃ (it:Addr) (fp:List Addr) (tn:Nat -> Heap -> Prop) (J:It2) (H':Hp),itv = .ref it /\ Inv X pins σ H' s2 /\ Turn2 X.prog X.w X.K tg J fp it tn /\ tn 0 s2.heap /\ (∀ b ∈ fp,FpOk X pins H' b) /\ R J H') X.xe s1) X.xe s
def PTs (X:Cx) (ifs:List Expr) (tt:TT):Prop:=∀ (pins:List (Addr × Obj)) (s:Shared) (σ:St) (H:Hp) (Q:Bool -> Hp -> Prop),Inv X pins σ H s -> tt σ H Q ->
 wpAny (model X.prog X.w) X.A (forIn ifs true λ c r=>if r = true then do let ok <- isTrue c X.env (eval c X.env); pure (ForInStep.yield ok) else pure (ForInStep.yield r)) (TP X pins σ Q) X.xe s
def tYes:TT:=λ _ H Q=>Q true H
theorem pts_nil {X:Cx}:PTs X [] tYes:=λ _ _ _ H _ I h=>wpAny_tests_nil ⟨H,I,h⟩
section
variable {prog:Program} {w:World} {A:Around} {R:Result -> Shared -> Prop} {s:Shared}
theorem compLoop_own {elt target iter:Expr} {ifs:List Expr} {scope:Scope} {pos:Pos} {it acc:Value} {env:Env} (I:Nat -> Shared -> Prop)
  (turn:∀ n s,I n s -> wpAny (model prog w) A (pyNext it) (λ r s₁=>match r with
   | none=>R (.ok .next) s₁
   | some v=>wpAny (model prog w) A (letOwnedTupleGo target it v) (λ _ s₁'=>wpAny (model prog w) A (assign target env v) (λ _ s₂ =>
     wpAny (model prog w) A (forIn ifs true λ c r=>if r = true then do let ok <- isTrue c env (eval c env); pure (ForInStep.yield ok) else pure (ForInStep.yield r)) (λ ok s₃ =>
      if ok = true then wpAny (model prog w) A (eval elt env) (λ x s₄ =>
       wpAny (model prog w) A (call (.builtin "list.append") [acc,x]) (λ _ s₅=>∃ m,m < n /\ I m s₅) (λ _ _=>False) s₄) (λ _ _=>False) s₃
      else ∃ m,m < n /\ I m s₃) (λ _ _=>False) s₂) (λ _ _=>False) s₁') (λ _ _=>False) s₁) (λ _ _=>False) s)
  (n:Nat) (h:I n s) :
  codeAny (model prog w) A (.compLoop (.ListComp elt [⟨target,iter,ifs,0⟩] scope pos) 0 it acc env) R s:=by
 refine codeAny_loop rfl I (λ n s hI=>?_) n h
 refine wpAny_noted ?_
 rw [compTurn_list]
 have no:∀ {E:Value -> Shared -> Prop} (x:Value) (s':Shared),False -> E x s':=λ _ _ f=>f.elim
 refine wpAny_bind (wpAny_standAt (wpAny_bind (wpAny_mono (turn n s hI) (λ r s₁ h₁=>?_) no)))
 cases r with
 | none=>exact wpAny_pure h₁
 | some v =>
  refine wpAny_bind (wpAny_mono h₁ (λ _ s₁' h₁'=>?_) no)
  refine wpAny_bind (wpAny_mono h₁' (λ _ s₂ h₂=>wpAny_bind (wpAny_mono h₂ (λ ok s₃ h₃=>?_) no)) no)
  cases ok with
  | false=>exact wpAny_pure ⟨rfl,h₃⟩
  | true =>
   exact wpAny_bind (wpAny_bind (wpAny_mono h₃ (λ x s₄ h₄=>wpAny_bind (wpAny_mono h₄ (λ _ s₅ h₅=>wpAny_pure (wpAny_pure ⟨rfl,h₅⟩)) no)) no))
end
def Kp (o:Nat) (σ0 σ:St):Prop:=σ.drop o = σ0.drop o /\ σ.length = σ0.length
theorem Kp.get {o:Nat} {caps:List Nat} {σ σ2:St} (k:Kp o (stY o caps σ) σ2):∀ (j:Nat) (v:V),(stY o caps σ)[j]? = some (some v) -> σ2[j]? = some (some v):=by
 intro j v e
 by_cases hj:j < o
 ·unfold stY at e
  rw [List.getElem?_append_left (by simpa using hj),List.getElem?_replicate,if_pos hj] at e
  cases e
 ·have e1:(σ2.drop o)[j - o]? = ((stY o caps σ).drop o)[j - o]?:=by rw [k.1]
  rw [List.getElem?_drop,List.getElem?_drop,show o + (j - o) = j by omega] at e1
  rw [e1]; exact e
theorem stY_at {o:Nat} {caps:List Nat} {σ:St} {j:Nat} {v:V} (e:(stY o caps σ)[j]? = some (some v)):∃ j' i,j = o + j' /\ caps[j']? = some i /\ σ[i]? = some (some v):=by
 unfold stY at e
 by_cases hj:j < o
 ·rw [List.getElem?_append_left (by simpa using hj),List.getElem?_replicate,if_pos hj] at e
  cases e
 ·rw [List.getElem?_append_right (by simpa using hj),List.length_replicate,List.getElem?_map] at e
  cases q:caps[j - o]? with
  | none=>rw [q] at e; cases e
  | some i =>
   rw [q] at e
   refine ⟨j - o,i,by omega,q,?_⟩
   cases q2:σ[i]? with
   | none=>rw [Option.map_some,q2] at e; cases e
   | some z =>
    rw [Option.map_some,q2] at e
    have e':z = some v:=Option.some.inj e
    rw [e']
def tCompW (o:Nat) (caps:List Nat) (adv:Adv) (stop:Nat -> Hp -> Prop) (tt:TT) (te:TE) (σ:St) (H1:Hp) (Q:VK):Prop :=
 ∀ D,H1 D = none -> ∃ W:Nat -> Nat -> List V -> Hp -> Prop,(∃ m,W 0 m [] (upd H1 D (.lst []))) /\ ∀ i m ys H,W i m ys H ->
  (stop i H /\ Q (.ref D) H) ∨ adv i (stY o caps σ) H λ σ2 H2=>Kp o (stY o caps σ) σ2 /\ tt σ2 H2 λ b H3=>if b = true then te σ2 H3 λ y H4=>H4 D = some (.lst ys) /\ ys.length < sizeLine /\ ∃ m',m' < m /\ W (i + 1) m' (ys ++ [y]) (upd H4 D (.lst (ys ++ [y])))
   else ∃ m',m' < m /\ W (i + 1) m' ys H3
section
variable {X:Cx}
theorem comp_inv {pins:List (Addr × Obj)} {σ:St} {H2:Hp} {s2:Shared} {NY:List Str} {o:Nat} {caps:List Nat} {scope:Scope} {fp:List Addr} {h₁:Heap} (S:CompScope X NY o caps scope) (I2:Inv X pins σ H2 s2)
  (hfp:∀ b ∈ fp,FpOk X pins H2 b) (hob:∀ b ∈ fp,∃ ob,s2.heap.get? b = some ob)
  (hns:h₁.Ns (s2.heap.objs.size + 1) λ _=>none) (hkeep:∀ b ob,s2.heap.get? b = some ob -> h₁.get? b = some ob)
  (hD:∃ n,h₁.get? s2.heap.objs.size = some { cls:=.type "list",data:=.seq ([]:List Value).toArray n }) (t':Nat) :
  Inv (cxComp X NY scope (s2.heap.objs.size + 1) s2 H2 fp pins) [] (stY o caps σ) (upd H2 s2.heap.objs.size (.lst [])) { s2 with heap:=h₁,toks:=t' }:=by
 have frees:=λ y hy e=>I2.ok.has _ (S.frees y hy e)
 have sound:=clos_sound X.env scope.names [] frees (λ x c e=>by simp at e)
 have hfr:=I2.hok.fresh (Nat.le_refl _)
 have hfr1:=I2.hok.fresh (Nat.le_succ _)
 have ltC:∀ b ob,s2.heap.get? b = some ob -> b ≠ s2.heap.objs.size + 1:=λ b ob e=>Nat.ne_of_lt (Nat.lt_succ_of_lt (Heap.lt_size e))
 have ltD:∀ b ob,s2.heap.get? b = some ob -> b ≠ s2.heap.objs.size:=λ b ob e=>Nat.ne_of_lt (Heap.lt_size e)
 have hok1:HOk X.prog X.w (upd H2 s2.heap.objs.size (.lst [])) h₁:=by
  obtain ⟨n,hD⟩:=hD
  exact I2.hok.laid hkeep (Nat.le_refl _) ⟨Nat.zero_le _,[],n,.nil,hD⟩
 refine ⟨?_,rfl,I2.bare,?_,?_,?_,?_,?_,?_,hok1,?_⟩
 ·refine ⟨I2.ok.mod,S.kind,I2.ok.glob,I2.ok.blt,Nat.le_succ _,λ x y c h1 h2=>I2.ok.inj x y c (sound x c h1) (sound y c h2),λ x hx=>?_,λ x c e=>absurd e Bool.false_ne_true,I2.ok.hd,I2.ok.frames,.inl rfl,λ b hb=>?_,
   I2.bs,Nat.le_trans I2.ok.bsz I2.sz,λ b ob e hb=>?_,λ b hb z=>?_,I2.stack,I2.stkFree⟩
  ·have hx':scope.names.lookup x = some .free:=by
    rcases hx with q | q
    ·exact of_relabel S.nocell q (.inl rfl)
    ·exact of_relabel S.nocell q (.inr rfl)
   exact Option.isSome_iff_exists.mp (clos_has X.env scope.names [] x (PySem.mem_of_lookup hx'))
  ·obtain ⟨ob,e⟩:=hob b hb
   exact ⟨ltC b ob e,λ x c q=>(hfp b hb).2.2.2.2.1 x c (sound x c q)⟩
  ·rcases (hfp b hb).2.2.2.1 with q | q
   ·exact I2.ok.noex b ob e q
   ·exact absurd (Nat.lt_of_lt_of_le (Heap.lt_size e) (Nat.le_trans I2.ok.bsz q)) (Nat.lt_irrefl _)
  ·rcases List.mem_cons.mp (I2.stkSub b z) with q | q
   ·exact (hfp b hb).2.1 q
   ·exact (hfp b hb).2.2.1 q
 ·exact Un.laid hkeep (Nat.le_refl _) hfr
 ·refine ⟨_,hns,λ j x v e1 e2 e3=>?_⟩
  obtain ⟨j',i,ej,ec,es⟩:=stY_at e2
  obtain ⟨x',n1,n2,n3⟩:=S.capOk j' i ec
  rw [<- ej] at n1
  have ex:x = x':=Option.some.inj ((show NY[j]? = some x from e1).symm.trans n1)
  subst ex
  have hk:=S.frees (x,.free) (PySem.mem_of_lookup n3) rfl
  obtain ⟨m,_,hl⟩:=I2.loc
  have hv:Vis X.env.scope x:=hk.elim (λ q=>.inr (.inl q)) λ q=>.inr (.inr q)
  obtain ⟨u,ru,lk⟩:=hl i x v n2 es hv
  refine ⟨u,ru,.inr ⟨relabel_free (env:=X.env) n3,?_⟩⟩
  rcases lk with ⟨q,_⟩ | ⟨_,c,ec,cell⟩
  ·rcases hk with z | z
   ·rw [show X.env.kindOf x = some .cell from z] at q; cases q
   ·rw [show X.env.kindOf x = some .free from z] at q; cases q
  ·obtain ⟨c',hc'⟩:=Option.isSome_iff_exists.mp (clos_has X.env scope.names [] x (PySem.mem_of_lookup n3))
   have:=sound x c' hc'
   rw [ec] at this
   cases this
   obtain ⟨ob,e,d⟩:=cell
   exact ⟨c,hc',ob,hkeep c ob e,d⟩
 ·intro x c e
  obtain ⟨v,ob,q,d⟩:=I2.cell x c (sound x c e)
  exact ⟨v,ob,hkeep c ob q,d⟩
 ·show upd H2 s2.heap.objs.size (.lst []) (s2.heap.objs.size + 1) = none
  rw [upd_ne (Nat.succ_ne_self _)]; exact hfr1
 ·intro x c e
  obtain ⟨v,ob,q,d⟩:=I2.cell x c (sound x c e)
  rw [upd_ne (ltD c ob q)]
  exact I2.freeC x c (sound x c e)
 ·intro p hp
  have hp':p ∈ X.pn ++ pins:=by
   have:p ∈ (X.pn ++ pins) ++ []:=hp
   simpa using this
  obtain ⟨e,n,ne,nf,d⟩:=I2.pin p hp'
  refine ⟨hkeep _ _ e,by rw [upd_ne (ltD _ _ e)]; exact n,ltC _ _ e,λ z=>?_,d⟩
  rcases List.mem_cons.mp (I2.stkSub p.1 z) with q | q
  ·exact ne q
  ·exact nf q
 ·show (stY o caps σ).length = NY.length
  unfold stY
  rw [List.length_append,List.length_replicate,List.length_map,S.len]
def cxL (X:Cx) (NY:List Str) (L:List (Str × Addr)) (fn:Str -> Bool) (scope:Scope) (C:Addr) (s:Shared) (H:Hp) (fp:List Addr) (pins:List (Addr × Obj)):Cx :=
 { X with N:=NY,s₀:=s,H₀:=H,env:=compEnvC scope L C X.env,outer:=X.stack,ex:=fp,fn:=fn,pn:=X.pn ++ pins,xe:=λ _ _=>False }
theorem comp_core {pins:List (Addr × Obj)} {σ:St} {H2:Hp} {s2:Shared} {NY:List Str} {o:Nat} {caps:List Nat} {scope:Scope} {fp:List Addr} {it:Addr} {tn:Nat -> Heap -> Prop} {adv:Adv} {stop:Nat -> Hp -> Prop}
  {elt tg iter:Expr} {ifs:List Expr} {pos:Pos} {tt:TT} {te:TE} {Q:VK} {R:Result -> Shared -> Prop} {L:List (Str × Addr)} {fn:Str -> Bool} {h₁:Heap} {tk:Nat}
  (I2:Inv X pins σ H2 s2) (hfp:∀ b ∈ fp,FpOk X pins H2 b) (st2:tn 0 s2.heap) (hkeep:∀ b ob,s2.heap.get? b = some ob -> h₁.get? b = some ob)
  (Wk:Walk (cxL X NY L fn scope (s2.heap.objs.size + 1) s2 H2 fp pins) tg fp it tn adv stop) (ht:PTs (cxL X NY L fn scope (s2.heap.objs.size + 1) s2 H2 fp pins) ifs tt) (he:PE (cxL X NY L fn scope (s2.heap.objs.size + 1) s2 H2 fp pins) elt te)
  (h:tCompW o caps adv stop tt te σ H2 Q) (I4:Inv (cxL X NY L fn scope (s2.heap.objs.size + 1) s2 H2 fp pins) [] (stY o caps σ) (upd H2 s2.heap.objs.size (.lst [])) { s2 with heap:=h₁,toks:=tk })
  (fin:∀ (s4:Shared) (H3:Hp) (m:Str -> Option Value),s4.heap.Ns (s2.heap.objs.size + 1) m -> (∀ h',Heap.SameBut (s2.heap.objs.size + 1) s4.heap h' -> Inv X pins σ H3 { s4 with heap:=h' }) -> H3 (s2.heap.objs.size + 1) = none -> Q (.ref s2.heap.objs.size) H3 -> R (.ok .next) s4) :
  codeAny (model X.prog X.w) X.A (.compStart (.ListComp elt [⟨tg,iter,ifs,0⟩] scope pos) 0 (.ref it) (.ref s2.heap.objs.size) (compEnvC scope L (s2.heap.objs.size + 1) X.env)) R { s2 with heap:=h₁,toks:=tk }:=by
 have hfr:H2 s2.heap.objs.size = none:=I2.hok.fresh (Nat.le_refl _)
 obtain ⟨W,⟨m0,w0⟩,turn⟩:=h _ hfr
 have ob0:=Wk.obj 0 s2.heap st2
 have st4:tn 0 h₁:=Wk.keep _ _ _ st2 λ b _ ob e=>hkeep b ob e
 have fr4:∀ b ∈ fp,upd H2 s2.heap.objs.size (.lst []) b = none:=λ b hb=>by
  obtain ⟨ob,e,_⟩:=ob0 b hb
  rw [upd_ne (Nat.ne_of_lt (Heap.lt_size e))]
  exact (hfp b hb).1
 have loop:codeAny (model X.prog X.w) X.A (.compLoop (.ListComp elt [⟨tg,iter,ifs,0⟩] scope pos) 0 (.ref it) (.ref s2.heap.objs.size) (compEnvC scope L (s2.heap.objs.size + 1) X.env))
   R { s2 with heap:=h₁,toks:=tk }:=by
  generalize hY:cxL X NY L fn scope (s2.heap.objs.size + 1) s2 H2 fp pins = Y at Wk ht he I4
  have fpY:∀ {H':Hp},(∀ b ∈ fp,H' b = none) -> ∀ b ∈ fp,FpOk Y [] H' b:=λ {H'} hn b hb=>by
   subst hY
   obtain ⟨ob,e,_⟩:=ob0 b hb
   have k:=I4.ok.exf b hb
   refine ⟨hn b hb,k.1,I4.ok.exfs b hb,.inl hb,k.2,λ p hp=>?_⟩
   have hp':p ∈ X.pn ++ pins:=by
    have:p ∈ (X.pn ++ pins) ++ []:=hp
    simpa using this
   exact (hfp b hb).2.2.2.2.2 p hp'
  refine compLoop_own (λ n s'=>∃ i ys H',Inv Y [] (stY o caps σ) H' s' /\ tn i s'.heap /\ (∀ b ∈ fp,H' b = none) /\ W i n ys H') ?_ m0 ⟨0,[],_,I4,st4,fr4,w0⟩
  rintro n s3 ⟨i,ys,H3,I3,st3,fr3,w3⟩
  have eE:Y.xe = λ _ _=>False:=by subst hY; rfl
  have ePw:Y.prog = X.prog /\ Y.w = X.w /\ Y.A = X.A /\ Y.env = compEnvC scope L (s2.heap.objs.size + 1) X.env:=by subst hY; exact ⟨rfl,rfl,rfl,rfl⟩
  obtain ⟨eP,ew,eA,ee⟩:=ePw
  rw [<- eP,<- ew,<- eA,<- ee,<- eE]
  rcases turn i n ys H3 w3 with ⟨stp,qn⟩ | av
  ·refine thn (Wk.done i [] s3 _ H3 I3 (fpY fr3) st3 stp) λ r s4 ⟨hr,I5⟩=>?_
   subst hr
   obtain ⟨m,hn,_⟩:=id I5.loc
   have eC:Y.env.locals = s2.heap.objs.size + 1:=by rw [ee]; rfl
   rw [eC] at hn
   have u:=I5.base
   have hokY:=I5.hok
   have hfree:=I5.free
   rw [eC] at hfree
   have hbare:=I5.bare
   have hos:=I5.os
   subst hY
   refine fin s4 H3 m hn (λ h' hs=>?_) hfree qn
   have u2:Un (frs X.stack) fp H2 H3 s2.heap h':=Un.but u hs (Nat.le_succ _)
   have hok2:HOk X.prog X.w H3 h':=HOk.but hokY hs hfree
   obtain ⟨hh,g,d,t,os'⟩:=s4
   obtain rfl:os' = s2.os:=hos
   exact Inv.call (s:=s2) (h':=h') (g':=g) (d':=d) (t':=t) (ch:=fp) I2 u2 hok2 hbare λ b hb=>⟨(hfp b hb).2.2.2.1,(hfp b hb).2.1,(hfp b hb).2.2.2.2.1,(hfp b hb).2.2.2.2.2⟩
  ·refine thn (Wk.item i [] s3 _ H3 _ I3 (fpY fr3) st3 av) λ r s4 ⟨u,hr,h4⟩=>?_
   subst hr
   refine thn h4 λ _ s5 h5=>thn h5 λ _ s6 ⟨σ6,H6,I6,⟨kp,q6⟩,st6,fr6⟩=>?_
   have I6':=I6.pinned (fp:=fp) (fpY fr6) (Wk.obj _ _ st6)
   refine thn (ht _ s6 σ6 H6 _ I6' q6) λ b s7 ⟨H7,I7,q7⟩=>?_
   cases b with
   | false =>
    obtain ⟨m',hm,w7⟩:=q7
    obtain ⟨J1,J2,J3⟩:=stores_keep (tg:=tg) (tn:=tn) (i:=i + 1) (Wk.obj _ _ st6) (λ h' k=>Wk.keep _ _ _ st6 k) I7
    exact ⟨m',hm,i + 1,ys,H7,J1.weak kp.2.symm kp.get,J2,J3,w7⟩
   | true =>
    refine thn (he _ s7 σ6 H7 _ I7 q7) λ y s8 ⟨yv,H8,I8,r8,hD8,hz8,m',hm,w8⟩=>?_
    refine thn (mt_append (X:=Y) _ s8 σ6 H8 (.ref s2.heap.objs.size) [yv] _ _ (λ v H'=>v = .non /\ H' = upd H8 s2.heap.objs.size (.lst (ys ++ [yv]))) I8 rfl (.cons r8 .nil) ⟨_,ys,yv,rfl,rfl,hD8,hz8,rfl,rfl⟩) λ v s9 ⟨_,H9,I9,_,_,e9⟩=>?_
    subst e9
    obtain ⟨J1,J2,J3⟩:=stores_keep (tg:=tg) (tn:=tn) (i:=i + 1) (Wk.obj _ _ st6) (λ h' k=>Wk.keep _ _ _ st6 k) I9
    exact ⟨m',hm,i + 1,ys ++ [yv],_,J1.weak kp.2.symm kp.get,J2,J3,w8⟩
 exact codeAny_compStart_list loop (Wk.self _ 0 _ _ _ st4 loop)
theorem comp_blk {pins:List (Addr × Obj)} {σ:St} {H2:Hp} {s2:Shared} {NY:List Str} {o:Nat} {caps:List Nat} {scope:Scope} {fp:List Addr} {it:Addr} {tn:Nat -> Heap -> Prop} {adv:Adv} {stop:Nat -> Hp -> Prop}
  {elt tg iter:Expr} {ifs:List Expr} {pos:Pos} {tt:TT} {te:TE} {Q:VK} {R:Result -> Shared -> Prop}
  (S:CompScope X NY o caps scope) (I2:Inv X pins σ H2 s2) (hfp:∀ b ∈ fp,FpOk X pins H2 b) (st2:tn 0 s2.heap)
  (Wk:∀ C,Walk (cxComp X NY scope C s2 H2 fp pins) tg fp it tn adv stop) (ht:∀ C,PTs (cxComp X NY scope C s2 H2 fp pins) ifs tt) (he:∀ C,PE (cxComp X NY scope C s2 H2 fp pins) elt te)
  (h:tCompW o caps adv stop tt te σ H2 Q) (fin:∀ (s4:Shared) (H3:Hp) (m:Str -> Option Value),s4.heap.Ns (s2.heap.objs.size + 1) m -> (∀ h',Heap.SameBut (s2.heap.objs.size + 1) s4.heap h' -> Inv X pins σ H3 { s4 with heap:=h' }) -> H3 (s2.heap.objs.size + 1) = none -> Q (.ref s2.heap.objs.size) H3 -> R (.ok .next) s4) :
  wpAny (model X.prog X.w) X.A (newList []) (λ acc s₃=>wpAny (model X.prog X.w) X.A (newFunctionEnv scope X.env.globals (clos X.env scope.names []) [] X.env.qual none .none (some X.env)) (λ cenv s₄ =>
   acc = .ref s2.heap.objs.size /\ cenv.locals = s2.heap.objs.size + 1 /\ codeAny (model X.prog X.w) X.A (.compStart (.ListComp elt [⟨tg,iter,ifs,0⟩] scope pos) 0 (.ref it) acc { cenv with scope:=relabel scope X.env }) R s₄) X.xe s₃) X.xe s2:=by
 refine wpAny_newObj_type (wpAny_newFunctionEnv S.nocell (by intro y hy; simp at hy) (λ h₁ hns₁ hsb₁=>?_) S.kind)
 have hC:(s2.heap.push { cls:=.type "list",dict:=none,data:=.seq ([]:List Value).toArray }).objs.size = s2.heap.objs.size + 1:=Heap.size_push _ _
 rw [hC] at hns₁ hsb₁ ⊢
 have hkeep:∀ b ob,s2.heap.get? b = some ob -> h₁.get? b = some ob:=λ b ob e =>
  (hsb₁.2 b (Nat.ne_of_lt (Nat.lt_succ_of_lt (Heap.lt_size e)))).trans (Heap.get?_push_of_some _ (Heap.get?_push_of_some _ e))
 have hD:∃ n,h₁.get? s2.heap.objs.size = some { cls:=.type "list",data:=.seq ([]:List Value).toArray n } :=
  ⟨_,(hsb₁.2 _ (Nat.ne_of_lt (Nat.lt_succ_self _))).trans (Heap.get?_push_of_some _ (Heap.get?_push_size _ rfl))⟩
 have I4:=comp_inv S I2 hfp (λ b hb=>((Wk 0).obj 0 _ st2 b hb).imp λ _ q=>q.1) (hns:=hns₁) hkeep hD (s2.toks + ([]:List (Str × Value)).length)
 exact ⟨rfl,rfl,comp_core (L:=clos X.env scope.names []) (fn:=λ _=>false) I2 hfp st2 hkeep (Wk _) (ht _) (he _) h I4 fin⟩
theorem comp_block {pins:List (Addr × Obj)} {σ:St} {H2:Hp} {s2:Shared} {NY:List Str} {o:Nat} {caps:List Nat} {scope:Scope} {fp:List Addr} {it:Addr} {tn:Nat -> Heap -> Prop} {adv:Adv} {stop:Nat -> Hp -> Prop}
  {elt tg iter:Expr} {ifs:List Expr} {pos:Pos} {tt:TT} {te:TE} {Q:VK}
  (S:CompScope X NY o caps scope) (I2:Inv X pins σ H2 s2) (hfp:∀ b ∈ fp,FpOk X pins H2 b) (st2:tn 0 s2.heap)
  (Wk:∀ C,Walk (cxComp X NY scope C s2 H2 fp pins) tg fp it tn adv stop) (ht:∀ C,PTs (cxComp X NY scope C s2 H2 fp pins) ifs tt) (he:∀ C,PE (cxComp X NY scope C s2 H2 fp pins) elt te)
  (h:tCompW o caps adv stop tt te σ H2 Q) :
  wpAny (model X.prog X.w) X.A (newList []) (λ acc s₃=>wpAny (model X.prog X.w) X.A (newFunctionEnv scope X.env.globals (clos X.env scope.names []) [] X.env.qual none .none (some X.env)) (λ cenv s₄ =>
   codeAny (model X.prog X.w) X.A (.compStart (.ListComp elt [⟨tg,iter,ifs,0⟩] scope pos) 0 (.ref it) acc { cenv with scope:=relabel scope X.env }) (compPost (model X.prog X.w) X.A X.xe none (EP X pins σ Q) acc cenv.locals) s₄) X.xe s₃) X.xe s2:=by
 refine thn (comp_blk (iter:=iter) (pos:=pos) (R:=compPost (model X.prog X.w) X.A X.xe none (EP X pins σ Q) (.ref s2.heap.objs.size) (s2.heap.objs.size + 1)) S I2 hfp st2 Wk ht he h λ s4 H3 m hn inv _ q=>⟨m,hn,λ h' hs=>⟨.ref s2.heap.objs.size,H3,inv h' hs,rfl,q⟩⟩) λ acc s3 h3=>thn h3 λ cenv s4 h4=>?_
 obtain ⟨rfl,eC,h4⟩:=h4
 rw [eC] at h4 ⊢
 exact h4
def tComp (o:Nat) (caps:List Nat) (wi:TI) (g:TG) (tt:TT) (te:TE):TE:=λ σ H Q=>wi σ H λ J H1=>tCompW o caps (advOf J g) J.stop tt te σ H1 Q
theorem pe_comp {elt iter tg:Expr} {ifs:List Expr} {scope:Scope} {pos:Pos} {NY:List Str} {o:Nat} {caps:List Nat} {wi:TI} {g:TG} {tt:TT} {te:TE}
  (S:CompScope X NY o caps scope) (hc:X.calm = true) (hi:PI X tg iter wi)
  (hg:∀ C s H fp pins,PG (cxComp X NY scope C s H fp pins) tg g) (ht:∀ C s H fp pins,PTs (cxComp X NY scope C s H fp pins) ifs tt) (he:∀ C s H fp pins,PE (cxComp X NY scope C s H fp pins) elt te)
  (hs:∀ x,foldedSetIterable iter X.env x = pure x:=by intro _; rfl):PE X (.ListComp elt [⟨tg,iter,ifs,0⟩] scope pos) (tComp o caps wi g tt te):=by
 intro pins s σ H Q I h
 rw [eval_ListComp]
 refine wpAny_comprehension_free rfl hs (closureFor_ok λ y hy e=>I.ok.has _ (S.frees y hy e)) S.kind S.locs ?_
 refine thn (hi pins s σ H _ I h) λ v s1 h1=>thn h1 λ itv s2 h2=>?_
 obtain ⟨it,fp,tn,J,H2,e,I2,T,st2,f2,hr⟩:=h2
 subst e
 exact comp_block S I2 f2 st2 (λ C=>Turn.walk hc T (hg _ _ _ _ _)) (λ C=>ht _ _ _ _ _) (λ C=>he _ _ _ _ _) hr
end
end L2
set_option Elab.async false
set_option linter.all false
set_option maxRecDepth 100000
namespace L2
open PySem PySem.Spec PyProof.Rows
def ItV (n:Nat) (val:Nat -> V):It:=⟨λ i _=>i < n,λ i H x H'=>H' = H /\ x = val i,λ i _=>i = n⟩
theorem turn_walks {P:Program} {w:World} {K:PySem.W.Frag} {tg:Expr} {it:Addr} {n:Nat} {Pv:Nat -> Value -> Prop} {St:Nat -> Heap -> Prop} (val:Nat -> V)
  (W:∀ A:Around,A.handled = none -> Walks P w A it [it] [it] n Pv St) (hv:∀ i v,Pv i v -> RelV (val i) v)
  (ob:∀ i h,St i h -> ∃ o nm vs,h.get? it = some o /\ o.cls = .type nm /\ o.data = .fields vs /\ ["enumerate","zip","dict_itemiterator","dict_reverseitemiterator","odict_iterator","itertools.zip_longest","itertools.pairwise"].contains nm = false)
  (self:∀ (A:Around) (i:Nat) (s:Shared) (Q:Value -> Shared -> Prop) (E:Value -> Shared -> Prop),St i s.heap -> Q (.ref it) s -> wpAny (model P w) A (pyIter (.ref it)) Q E s) :
  Turn P w K tg (ItV n val) [it] it St where
 mem:=by simp
 obj:=λ i h st b hb=>by
  have e:b = it:=by simpa using hb
  subst e
  obtain ⟨o,nm,vs,e,_,d,_⟩:=ob i h st
  exact ⟨o,e,λ v z=>by rw [d] at z; cases z⟩
 keep:=λ i h h' st k=>by
  have ha:callerA.handled = none:=rfl
  exact (W callerA ha).frame i h h' st k
 item:=by
  intro X hP hw hK hc i pins s σ H E I hf st hg
  subst hP hw hK
  obtain ⟨f0,f1,f2,f3,f4,f5⟩:=hf it (by simp)
  refine (W X.A (I.ok.hd hc)).item i s _ _ hg st λ v h' tk hv' st' kk=>?_
  have I1:Inv X pins σ H { s with heap:=h',toks:=tk }:=I.turned (λ b o hb e=>kk b o (by simpa using hb) e) f0 f1 f3 f4 f5
  obtain ⟨o,nm,vs,e,c,d,nn⟩:=ob _ _ st'
  exact ⟨_,rfl,go_of (s:={ s with heap:=h',toks:=tk }) e c d nn ⟨val i,H,I1,hv i v hv',⟨rfl,rfl⟩,st',λ b hb=>(hf b hb).1⟩⟩
 done:=by
  intro X hP hw hK hc i pins s σ H E I hf st hg
  subst hP hw hK
  obtain ⟨f0,f1,f2,f3,f4,f5⟩:=hf it (by simp)
  have hg:i = n:=hg
  subst hg
  exact (W X.A (I.ok.hd hc)).done s _ _ st λ h' tk kk=>⟨rfl,I.turned (λ b o hb e=>kk b o (by simpa using hb) e) f0 f1 f3 f4 f5⟩
 self:=self
def sgn (z:Str) (i:Nat):V:=.str ⟨#[z.cps.getD i 0]⟩
theorem sgn_of {z:Str} {i:Nat} {v:Value} (h:SignAt z i v):RelV (sgn z i) v:=by
 obtain ⟨c,u,e,rfl⟩:=h
 refine ⟨u,?_⟩
 have:z.cps.getD i 0 = c:=by rw [Array.getD_eq_getD_getElem?,e]; rfl
 rw [this]
def iStr (te:TE):TI:=λ σ H R=>te σ H λ x H1=>∃ z,x = .str z /\ R (ItV z.cps.size (sgn z)) H1
theorem pi_str {X:Cx} {tg e:Expr} {te:TE} (he:PE X e te):PI X tg e (iStr te):=by
 intro pins s σ H R I h
 refine thn (he pins s σ H _ I h) λ v s1 ⟨x,H1,I1,r1,z,ez,q⟩=>?_
 subst ez
 obtain ⟨t,rfl⟩:=r1
 cases ha:z.cps.all (· < 128) with
 | false =>
  refine wpAny_pyIter_wide ha ⟨s1.heap.objs.size,[s1.heap.objs.size],_,_,H1,rfl,I1.kept (t':=s1.toks) λ b o e=>Heap.get?_push_of_some _ e,
   turn_walks (sgn z) (λ A hA=>Walks.strWide hA _ z t) (λ i v=>sgn_of) (λ i h st=>?_) (λ _ _ _ _ _ st h=>wpAny_pyIter_striter_wide st h),⟨_,Heap.get?_push_size _ rfl,rfl,rfl⟩,λ b hb=>?_,q⟩
  ·obtain ⟨o,e,c,d⟩:=st
   exact ⟨o,_,_,e,c,d,by decide⟩
  ·have e:b = s1.heap.objs.size:=by simpa using hb
   subst e
   exact I1.fpOk (Nat.le_refl _) (I1.hok.fresh (Nat.le_refl _))
 | true =>
  refine wpAny_pyIter_ascii ha ⟨s1.heap.objs.size,[s1.heap.objs.size],_,_,H1,rfl,I1.kept (t':=s1.toks) λ b o e=>Heap.get?_push_of_some _ e,
   turn_walks (sgn z) (λ A hA=>Walks.strAscii hA _ z t) (λ i v=>sgn_of) (λ i h st=>?_) (λ _ _ _ _ _ st h=>wpAny_pyIter_striter_ascii st h),⟨_,Heap.get?_push_size _ rfl,rfl,rfl⟩,λ b hb=>?_,q⟩
  ·obtain ⟨o,e,c,d⟩:=st
   exact ⟨o,_,_,e,c,d,by decide⟩
  ·have e:b = s1.heap.objs.size:=by simpa using hb
   subst e
   exact I1.fpOk (Nat.le_refl _) (I1.hok.fresh (Nat.le_refl _))
theorem call_ty1 {X:Cx} {T:String} {x:Str} {a:Expr} {ta:TA} {p pos:Pos} {pins:List (Addr × Obj)} {s:Shared} {σ:St} {H:Hp} {Q:Value -> Shared -> Prop} {R:List V -> Hp -> Prop} (hg:Gl X x) (hm:X.mg x = none) (hv:bootBuiltins x = some (.type T))
  (ha:PA X [a] ta) (I:Inv X pins σ H s) (h:ta σ H R) (hk:∀ us s1 vs H1,Inv X pins σ H1 s1 -> Vals vs us -> R vs H1 -> wpAny (model X.prog X.w) X.A (call (.type T) us) Q X.xe s1)
  (hn:x ≠ "__name__":=by decide) (hd:(x == ("__debug__":Str)) = false:=by decide) (hs:starEach [a] X.env = [(false,eval a X.env)]:=by rfl):wpAny (model X.prog X.w) X.A (eval (.Call (.Name x p) [a] [] pos) X.env) Q X.xe s:=by
 refine Call_ (ld_blt I hg hm hv (PyProof.Rows.callWith_type1 (thn (ha pos pins s σ H _ I h) λ us s1 ⟨vs,H1,I1,r1,q1⟩=>hk us s1 vs H1 I1 r1 q1) hs rfl) hn hd)
end L2
set_option Elab.async false
set_option linter.all false
set_option maxRecDepth 100000
namespace L2
open PySem PySem.Spec PyProof.Rows
abbrev cs (z:Str):List Nat:=z.cps.toList
def ofCs (l:List Nat):Str:=⟨l.toArray⟩
theorem of_cs (z:Str):ofCs (cs z) = z:=rfl
abbrev vS (l:List Nat):V:=.str (ofCs l)
theorem vS_inj {a b:List Nat} (h:vS a = vS b):a = b:=by
 injection h with h
 have:=congrArg cs h
 exact this
section
variable {X:Cx}
theorem same_upd {H:Hp} {p:Addr} (h:H p = none) (o:HO):Same H (upd H p o):=λ b u q=>by rw [upd_ne (ne_of_none q h)]; exact q
end
end L2
set_option Elab.async false
set_option linter.all false
set_option maxRecDepth 100000
namespace L2
open PySem PySem.Spec PyProof.Rows
end L2
set_option Elab.async false
set_option linter.all false
set_option maxRecDepth 100000
namespace L2
open PySem PySem.Spec PyProof.Rows
end L2
set_option Elab.async false
set_option linter.all false
set_option maxRecDepth 100000
namespace L2
open PySem PySem.Spec PyProof.Rows
end L2
set_option Elab.async false
set_option linter.all false
set_option maxRecDepth 100000
namespace L2
open PySem PySem.Spec PyProof.Rows
def lstep (mask i:Nat):Nat:=(i * 5 + 1) % (mask + 1)
def lit (mask:Nat):Nat -> Nat -> Nat
 | 0,i=>i
 | k + 1,i=>lit mask k (lstep mask i)
def pos (mask:Nat):Nat -> Nat -> Nat -> Nat
 | 0,i,_=>i
 | t + 1,i,p=>pos mask t (SetTable.leap mask i p).1 (SetTable.leap mask i p).2
end L2
set_option Elab.async false
set_option linter.all false
set_option maxRecDepth 100000
namespace L2
open PySem PySem.Spec PyProof.Rows
end L2
set_option Elab.async false
set_option linter.all false
set_option maxRecDepth 100000
namespace L2
open PySem PySem.Spec PyProof.Rows
end L2
set_option Elab.async false
set_option linter.all false
set_option maxRecDepth 100000
namespace L2
open PySem PySem.Spec PyProof.Rows
end L2
set_option Elab.async false
set_option linter.all false
set_option maxRecDepth 100000
namespace L2
open PySem PySem.Spec PyProof.Rows
end L2
set_option Elab.async false
set_option linter.all false
set_option maxRecDepth 100000
namespace L2
open PySem PySem.Spec PyProof.Rows
end L2
set_option Elab.async false
set_option linter.all false
set_option maxRecDepth 100000
namespace L2
open PySem PySem.Spec PyProof.Rows
end L2
set_option Elab.async false
set_option linter.all false
set_option maxRecDepth 100000
namespace L2
open PySem PySem.Spec PyProof.Rows
end L2
set_option Elab.async false
set_option linter.all false
set_option maxRecDepth 100000
namespace L2
open PySem PySem.Spec PyProof.Rows
end L2
set_option Elab.async false
set_option linter.all false
set_option maxRecDepth 100000
namespace L2
open PySem PySem.Spec PyProof.Rows
end L2
set_option Elab.async false
set_option linter.all false
set_option maxRecDepth 100000
namespace L2
open PySem PySem.Spec PyProof.Rows
theorem Same.seqT {K:PySem.W.Frag} {H H':Hp} {a:Addr} {xs:List V} (e:Same H H') (h:SqT K H a xs):SqT K H' a xs:=by
 rcases h with (h | ⟨o,h⟩) | h
 ·exact .inl (.inl (e _ _ h))
 ·exact .inl (.inr ⟨o,e _ _ h⟩)
 ·exact .inr h
theorem Same.up {H:Hp} {p:Addr} (h:H p = none) {o:HO}:Same H (upd H p o):=same_upd h o
theorem Same.to {H H1:Hp} {p:Addr} (s:Same H H1) (h:H1 p = none) {o:HO}:Same H (upd H1 p o):=s.trans (same_upd h o)
theorem Same.at {H H1:Hp} {p:Addr} (s:Same H H1) (h:H p = none) {o:HO}:Same H (upd H1 p o):=λ b u q=>by rw [upd_ne (ne_of_none q h)]; exact s b u q
theorem comp_scope {X:Cx} {NY:List Str} {o:Nat} {caps:List Nat} {scope:Scope} (frees:List Str) (k:scope.kind = .function) (nd:NY.Nodup) (nc:scope.names.all (λ y=>y.2 != .cell) = true)
  (lc:scope.names.all (λ y=>y.2 != .local || scope.names.lookup y.1 == some .local) = true) (fr:scope.names.all (λ y=>y.2 != .free || frees.contains y.1) = true)
  (fk:∀ x ∈ frees,X.env.kindOf x = some .cell ∨ X.env.kindOf x = some .free) (cap:∀ (j i:Nat),caps[j]? = some i -> ∃ x,NY[o + j]? = some x /\ X.N[i]? = some x /\ scope.names.lookup x = some .free) (len:NY.length = o + caps.length):CompScope X NY o caps scope where
 kind:=k
 nd:=nd
 nocell:=λ y hy e=>by have:=List.all_eq_true.mp nc y hy; rw [e] at this; cases this
 frees:=λ y hy e=>by
  have:=List.all_eq_true.mp fr y hy
  rw [e] at this
  exact fk _ (List.contains_iff_mem.mp this)
 locs:=λ y hy e=>by
  have:=List.all_eq_true.mp lc y hy
  rw [e] at this
  simpa using this
 capOk:=cap
 len:=len
theorem cap0 {X:Cx} {NY:List Str} {o:Nat} {scope:Scope}:∀ (j i:Nat),([]:List Nat)[j]? = some i -> ∃ x,NY[o + j]? = some x /\ X.N[i]? = some x /\ scope.names.lookup x = some .free:=λ j i h=>by simp at h
theorem comp_rel {o:Nat} {caps:List Nat} {adv:Adv} {stop:Nat -> Hp -> Prop} {tt:TT} {te:TE} {σ:St} {H1:Hp} {Q:VK} (n:Nat) (R:Nat -> List V -> Hp -> Prop) (h0:∀ D,H1 D = none -> R 0 [] (upd H1 D (.lst []))) (hlen:∀ i ys H,i < n -> R i ys H -> ys.length < sizeLine)
  (turn:∀ (i:Nat) (ys:List V) (H:Hp) (D:Addr) (Y:V -> Hp -> Prop) (Z:Hp -> Prop),i < n -> H1 D = none -> H D = some (.lst ys) -> Same H1 H -> R i ys H ->
   (∀ y H4,H4 D = some (.lst ys) -> Same H1 H4 -> R (i + 1) (ys ++ [y]) (upd H4 D (.lst (ys ++ [y]))) -> Y y H4) -> (∀ H3,H3 D = some (.lst ys) -> Same H1 H3 -> R (i + 1) ys H3 -> Z H3) ->
   adv i (stY o caps σ) H λ σ2 H2=>Kp o (stY o caps σ) σ2 /\ tt σ2 H2 λ b H3=>if b = true then te σ2 H3 Y else Z H3)
  (stp:∀ H,Same H1 H -> stop n H) (fin:∀ (D:Addr) (H:Hp) (ys:List V),H1 D = none -> Same H1 H -> H D = some (.lst ys) -> R n ys H -> Q (.ref D) H):tCompW o caps adv stop tt te σ H1 Q:=by
 intro D hD
 refine ⟨λ i m ys H=>m = n - i /\ i <= n /\ H D = some (.lst ys) /\ Same H1 H /\ R i ys H,⟨n,by simp,Nat.zero_le _,upd_same,Same.up hD,h0 D hD⟩,?_⟩
 rintro i m ys H ⟨rfl,hi,hH,sm,r⟩
 by_cases hlt:i < n
 ·refine .inr (turn i ys H D _ _ hlt hD hH sm r (λ y H4 e1 e2 e3=>⟨e1,hlen i ys H hlt r,n - (i + 1),by omega,rfl,hlt,upd_same,e2.at hD,e3⟩) (λ H3 e1 e2 e3=>⟨n - (i + 1),by omega,rfl,hlt,e1,e2,e3⟩))
 ·have e:i = n:=by omega
  subst e
  exact .inl ⟨stp H sm,fin D H ys hD sm hH r⟩
theorem small {n:Nat} (h:n <= 100000):n < sizeLine:=Nat.lt_of_le_of_lt h (by decide)
theorem smallE {n:Nat} (h:n <= 100000):n <= sizeLine:=Nat.le_of_lt (small h)
theorem vk {Q:VK} {x y:V} {H:Hp} (e:x = y) (h:Q y H):Q x H:=e ▸ h
theorem of_append (a b:List Nat):ofCs a ++ ofCs b = ofCs (a ++ b):=by
 show (⟨a.toArray ++ b.toArray⟩:Str) = ⟨(a ++ b).toArray⟩
 rw [List.append_toArray]
theorem ofCs_len (a:List Nat):(ofCs a).length = a.length:=by
 show a.toArray.size = a.length
 simp
end L2
set_option Elab.async false
set_option linter.all false
set_option maxRecDepth 100000
namespace L2
open PySem PySem.Spec PyProof.Rows
section
variable {X:Cx}
theorem op_in_one:OpR X (compareOp .In) (λ x y H Q=>∃ (c:Nat) (p:List Nat),x = vS [c] /\ y = vS p /\ Q (.bl (decide (c ∈ p))) H):=by
 intro pins s σ H x y v u Q I rx ry h
 obtain ⟨c,p,rfl,rfl,q⟩:=h
 refine op_in_str pins s σ H _ _ v u Q I rx ry ⟨_,_,rfl,rfl,?_⟩
 rw [show ofCs [c] = (⟨#[c]⟩:Str) from rfl,empty_one,Bool.not_not]
 exact q
theorem op_notIn_one:OpR X (compareOp .NotIn) (λ x y H Q=>∃ (c:Nat) (p:List Nat),x = vS [c] /\ y = vS p /\ Q (.bl (!decide (c ∈ p))) H):=by
 intro pins s σ H x y v u Q I rx ry h
 obtain ⟨c,p,rfl,rfl,q⟩:=h
 refine op_notIn_str pins s σ H _ _ v u Q I rx ry ⟨_,_,rfl,rfl,?_⟩
 rw [show ofCs [c] = (⟨#[c]⟩:Str) from rfl,empty_one,Bool.not_not]
 exact q
end
end L2
set_option Elab.async false
set_option linter.all false
set_option maxRecDepth 100000
namespace L2
open PySem PySem.Spec PyProof.Rows
end L2
set_option Elab.async false
set_option linter.all false
set_option maxRecDepth 100000
namespace L2
open PySem PySem.Spec PyProof.Rows
end L2
set_option Elab.async false
set_option linter.all false
set_option maxRecDepth 100000
set_option Elab.async false
set_option linter.all false
set_option maxRecDepth 100000
namespace L2
open PySem PySem.Spec PyProof.Rows
structure Mk0 (K:PySem.W.Frag) (C:Addr):Prop where
 makes:PySem.W.makesIn K C = true
 init:PySem.W.findIn K (.ref C) "__init__" = some (some (.builtin "object.__init__"))
 kp:PySem.W.keepIn K (.ref C) = true
def tMakeN (C:Addr):TE:=λ σ H Q=>∀ x dx,H x = none -> H dx = none -> dx ≠ x -> Q (.ref x) (upd (upd H dx (.own x)) x (.ins C dx []))
theorem pe_makeN {X:Cx} {C:Addr} {x:Str} {p pos:Pos} (M:Mk0 X.K C) (hg:Gl X x) (hm:X.mg x = some (.ref C)) (hdb:(x == ("__debug__":Str)) = false:=by decide):PE X (.Call (.Name x p) [] [] pos) (tMakeN C):=by
 intro pins s σ H Q I h
 refine wpAny_Call_Name_kw (ld_glob I hg hm ?_ hdb)
 refine PySem.W.callWith_K0 I.kIn M.kp (wpAny_call (make_map0 I.kIn M.makes M.init (λ self=>PySem.W.Looks.of_pure (PySem.W.oi_bind self)) ?_))
 have Y:=PySem.W.makes_of (M:=model X.prog X.w) I.kIn M.makes
 have hx:((s.heap.push PySem.W.emptyDict).push (PySem.W.instObj C s.heap.objs.size)).get? (s.heap.objs.size + 1) = some (PySem.W.instObj C s.heap.objs.size):=by
  rw [<- Heap.size_push s.heap PySem.W.emptyDict]
  exact Heap.get?_push_size _ rfl
 have t1:PySem.W.Looks (model X.prog X.w) ((s.heap.push PySem.W.emptyDict).push (PySem.W.instObj C s.heap.objs.size)) (typeOf (.ref (s.heap.objs.size + 1))) (.ref C):=(PySem.W.Looks.ld hx).andThen .now
 have t2:PySem.W.Looks (model X.prog X.w) ((s.heap.push PySem.W.emptyDict).push (PySem.W.instObj C s.heap.objs.size)) (isInstance (.ref (s.heap.objs.size + 1)) (.type "object")) true:=t1.andThen (Y.top.keeps λ b o e=>Heap.get?_push_of_some _ (Heap.get?_push_of_some _ e))
 refine codeAny_call_builtin PySem.W.oi_plain PySem.W.entry_oi (@PySem.W.check_slot (model X.prog X.w) _ _ _ "object.__init__" "object" "__init__" (.ref (s.heap.objs.size + 1)) [] [] _ PySem.W.oi_kind PySem.W.oi_split t2 (PySem.W.oi_args _) ?_)
 rw [PySem.W.oi_run]
 have hq:=h (s.heap.objs.size + 1) s.heap.objs.size (I.hok.fresh (Nat.le_succ _)) (I.hok.fresh (Nat.le_refl _)) (Nat.ne_of_lt (Nat.lt_succ_self _))
 exact wpAny_pure (And.intro rfl ⟨.ref (s.heap.objs.size + 1),_,Inv.made (C:=C) I,rfl,hq⟩)
theorem PE.or {X:Cx} {e:Expr} {t u:TE} (h:PE X e t) (h':PE X e u):PE X e (λ σ H Q=>t σ H Q ∨ u σ H Q):=λ pins s σ H Q I hw=>hw.elim (h pins s σ H Q I) (h' pins s σ H Q I)
end L2
set_option Elab.async false
set_option linter.all false
set_option maxRecDepth 100000
namespace L2
open PySem PySem.Spec PyProof.Rows
end L2
set_option Elab.async false
set_option linter.all false
set_option maxRecDepth 100000
namespace L2
open PySem PySem.Spec PyProof.Rows
end L2
set_option Elab.async false
set_option linter.all false
set_option maxRecDepth 100000
namespace L2
open PySem PySem.Spec PyProof.Rows
def tFor2 (wi:TI2) (n:Nat) (t:TGs) (tb:TS):TS:=λ D σ H=>wi σ H λ J H1=>∃ W:Nat -> Nat -> St -> Hp -> Prop,(∃ m,W 0 m σ H1) /\ ∀ i m σ H,W i m σ H ->
 (J.stop i H /\ D.nx σ H) ∨ (J.go i H /\ ∃ N:St -> Hp -> Prop,(∀ σ' H',N σ' H' -> ∃ m',m' < m /\ W (i + 1) m' σ' H') /\ ∀ xs H',J.yld i H xs H' -> xs.length = n /\ t xs σ H' λ σ2 H2=>tb { D with nx:=N,ct:=N,bk:=D.nx } σ2 H2)
theorem ps_for2 {X:Cx} {es:List Expr} {k n:Nat} {tpos:Pos} {iter:Expr} {body:List Stmt} {wi:TI2} {t:TGs} {tb:TS} {pos:Pos} (hp:PassesOwn (model X.prog X.w) X.A X.env X.xe) (hc:X.calm = true) (hi:PI2 X (.Tuple es k tpos) iter wi) (hg:PGs X es t) (hb:PSs X body tb)
  (hn:(assignEach es X.env).length = n:=by rfl) (hst:(assignEach es X.env).findIdx? (·.1) = none:=by rfl) (hs:∀ x,foldedSetIterable iter X.env x = pure x:=by intro _; rfl):PS X (.For (.Tuple es k tpos) iter body [] pos) (tFor2 wi n t tb):=by
 intro pins s σ H D I h
 refine wpAny_For (thn (hi pins s σ H _ I h) λ v s1 h1=>thn h1 λ itv s2 h2=>?_) hs
 obtain ⟨it,fp,tn,J,H2,e,I2,T,st2,f2,W,⟨m0,w0⟩,turn⟩:=h2
 subst e
 have stat:∀ {H':Hp},(∀ b ∈ fp,H' b = none) -> ∀ b ∈ fp,FpOk X pins H' b:=λ hn b hb=>⟨hn b hb,(f2 b hb).2⟩
 refine codeAny_forLoop_any (λ n s'=>∃ i σ' H',Inv X pins σ' H' s' /\ tn i s'.heap /\ (∀ b ∈ fp,H' b = none) /\ W i n σ' H') ?_ m0 ⟨0,σ,H2,I2,st2,λ b hb=>(f2 b hb).1,w0⟩
 rintro n' s3 ⟨i,σ3,H3,I3,st3,fr3,w3⟩
 rcases turn i n' σ3 H3 w3 with ⟨stop,qn⟩ | ⟨go,N,hN,step⟩
 ·refine wpAny_passesOwn hp (thn (T.done X rfl rfl rfl hc i pins s3 σ3 H3 X.xe I3 (stat fr3) st3 stop) λ r s4 ⟨hr,I4⟩=>?_)
  subst hr
  exact wpAny_execs_nil ⟨σ3,H3,I4,qn⟩
 ·refine wpAny_passesOwn hp (thn (T.item X rfl rfl rfl hc i pins s3 σ3 H3 X.xe I3 (stat fr3) st3 go) λ r s4 ⟨p,hr,h4⟩=>?_)
  subst hr
  refine wpAny_passesOwn hp (thn h4 λ _ s5 ⟨xs,us,H5,I5,ht,r5,y5,st5,fr5⟩=>?_)
  have I5':=I5.pinned (stat fr5) (T.obj _ _ st5)
  obtain ⟨hl,hw⟩:=step xs H5 y5
  refine wpAny_passesOwn hp (assign_Tuple_tuple (I5.ok.hd hc) ht (by simp [hn,<- hl,r5.length]) hst λ h' hx=>?_)
  have I6:Inv X (pins ++ pinsAt fp s5.heap) σ3 H5 { s5 with heap:=h' }:=I5'.kept (t':=s5.toks) λ b o e=>hx b o (Nat.ne_of_lt (Heap.lt_size e)) e
  refine thn (hg _ _ σ3 H5 xs _ _ I6 (by simpa using r5) hw) λ _ s6 ⟨σ6,H6,I7,q6⟩=>?_
  refine wpAny_passesOwn hp (thn (hb _ s6 σ6 H6 _ I7 q6) λ f s7 q7=>?_)
  have again:∀ {σ7:St} {H7:Hp},Inv X (pins ++ pinsAt fp s5.heap) σ7 H7 s7 -> N σ7 H7 -> ∃ m,m < n' /\ ∃ i σ' H',Inv X pins σ' H' s7 /\ tn i s7.heap /\ (∀ b ∈ fp,H' b = none) /\ W i m σ' H':=λ {σ7 H7} I7 n7=>by
   obtain ⟨m',hm,w7⟩:=hN σ7 H7 n7
   refine ⟨m',hm,i + 1,σ7,H7,I7.unpinned,T.keep _ _ _ st5 λ b hb o e=>(I7.pin (b,o) (List.mem_append_right _ (List.mem_append_right _ (mem_pinsAt hb e)))).1,λ b hb=>?_,w7⟩
   obtain ⟨o,e,d⟩:=T.obj _ _ st5 b hb
   exact (I7.pin (b,o) (List.mem_append_right _ (List.mem_append_right _ (mem_pinsAt hb e)))).2.1
  cases f with
  | next=>obtain ⟨σ7,H7,I7,n7⟩:=q7; exact again I7 n7
  | cont=>obtain ⟨σ7,H7,I7,n7⟩:=q7; exact again I7 n7
  | brk=>obtain ⟨σ7,H7,I7,q7⟩:=q7; exact ⟨σ7,H7,I7.unpinned,q7⟩
  | ret v=>obtain ⟨x7,σ7,H7,I7,r7,q7⟩:=q7; exact ⟨x7,σ7,H7,I7.unpinned,r7,q7⟩
end L2
set_option Elab.async false
set_option linter.all false
set_option maxRecDepth 100000
set_option maxHeartbeats 4000000
namespace FsS
open PySem PyProof.Rows
def ky (κ:KeyKind) (x:Keyed):κ.α:=(κ.keyOf x.1).getD κ.dflt
def Kd (κ:KeyKind) (x:Keyed):Prop:=∃ a,κ.keyOf x.1 = some a
end FsS
set_option Elab.async false
set_option linter.all false
set_option maxRecDepth 100000
set_option maxHeartbeats 4000000
namespace FsS
open PySem PyProof.Rows
structure MI {α:Type} (r:α -> α -> Prop) (la lb O:List α) (i j:Nat):Prop where
 sa:(O ++ la.drop i).Pairwise r
 sb:(O ++ lb.drop j).Pairwise r
 pm:(O ++ (la.drop i ++ lb.drop j)).Perm (la ++ lb)
def Gd {α:Type} (r:α -> α -> Prop) (la lb:List α) (o:List α):Prop:=o.Pairwise r /\ o.Perm (la ++ lb)
abbrev kl (κ:KeyKind) (x y:Keyed):Prop:=κ.kle (ky κ x) (ky κ y)
end FsS
set_option Elab.async false
set_option linter.all false
set_option maxRecDepth 100000
set_option maxHeartbeats 4000000
namespace FsS
open PySem PyProof.Rows
abbrev setG (st:SortSt) (g:Nat):SortSt:=SortSt.mk' (kindOf st) (arrOf st) (pendingOf st) g (failedOf st)
def Ok {γ:Type} (κ:KeyKind) (a b:Array Keyed) (st:SortSt) (m:Nat) (c:Option (Array Keyed) × Array Keyed × Nat × Nat × γ) (st':SortSt):Prop :=
 (∃ g,st' = setG st g) /\ ((∃ r,c.1 = some r /\ Gd (kl κ) a.toList b.toList r.toList) ∨ (c.1 = none /\ MI (kl κ) a.toList b.toList c.2.1.toList c.2.2.1 c.2.2.2.1 /\ c.2.2.1 + 1 < a.size /\ c.2.2.2.1 < b.size /\ m <= c.2.2.1 + c.2.2.2.1))
section
variable {prog:Program} {w:World} {A:Around} {E:Value -> Shared -> Prop} {s:Shared} {κ:KeyKind} {a b:Array Keyed} {st:SortSt}
variable (hO:κ.OneLt) (hk:kindOf st = oneType') (ka:∀ x ∈ a.toList,Kd κ x) (kb:∀ x ∈ b.toList,Kd κ x) (hl:∀ x ∈ a.toList.drop (a.size - 1),∀ y ∈ b.toList,kl κ y x)
include hO hk ka kb hl
end
end FsS
set_option Elab.async false
set_option linter.all false
set_option maxRecDepth 100000
set_option maxHeartbeats 4000000
namespace FsS
open PySem PyProof.Rows
end FsS
set_option Elab.async false
set_option linter.all false
set_option maxRecDepth 100000
set_option maxHeartbeats 4000000
namespace FsS
open PySem PyProof.Rows
section
variable {prog:Program} {w:World} {A:Around} {E:Value -> Shared -> Prop} {s:Shared} {κ:KeyKind} {a b:Array Keyed} {st:SortSt}
variable (hO:κ.OneLt) (hk:kindOf st = oneType') (ka:∀ x ∈ a.toList,Kd κ x) (kb:∀ x ∈ b.toList,Kd κ x) (hd:∀ x ∈ b.toList.take 1,∀ y ∈ a.toList,kl κ x y)
include hO hk ka kb hd
end
end FsS
set_option Elab.async false
set_option linter.all false
set_option maxRecDepth 100000
set_option maxHeartbeats 4000000
namespace FsS
open PySem PyProof.Rows
end FsS
set_option Elab.async false
set_option linter.all false
set_option maxRecDepth 100000
set_option maxHeartbeats 4000000
namespace FsS
open PySem PyProof.Rows
end FsS
set_option Elab.async false
set_option linter.all false
set_option maxRecDepth 100000
set_option maxHeartbeats 4000000
namespace FsS
open PySem PyProof.Rows
end FsS
set_option Elab.async false
set_option linter.all false
set_option maxRecDepth 100000
set_option maxHeartbeats 4000000
namespace FsS
open PySem PyProof.Rows
end FsS
set_option Elab.async false
set_option linter.all false
set_option maxRecDepth 100000
set_option maxHeartbeats 4000000
namespace FsS
open PySem PyProof.Rows
end FsS
set_option Elab.async false
set_option linter.all false
set_option maxRecDepth 100000
set_option maxHeartbeats 4000000
namespace FsS
open PySem PyProof.Rows PySem.Spec
end FsS
set_option Elab.async false
set_option linter.all false
set_option maxRecDepth 100000
namespace L2
open PySem PySem.Spec PyProof.Rows
end L2
set_option linter.all false
set_option linter.all false
set_option Elab.async false
set_option linter.all false
set_option maxRecDepth 100000
namespace L2
open PySem PySem.Spec PyProof.Rows
theorem Draws.strAny {prog:Program} {w:World} {A:Around} (hh:A.handled = none) (it:Addr) (x:Str) (t:Tok) :
  Draws prog w A it [it] x.cps.size (λ i v=>∃ c u,x.cps[i]? = some c /\ v = .str ⟨#[c]⟩ u) (λ i h=>h.IsStrIter it (strIterType x) x t i):=by
 unfold strIterType
 cases ha:x.cps.all (· < 128) with
 | true=>rw [if_pos (by simpa using ha)]; exact Draws.strAscii hh it x t
 | false=>rw [if_neg (by simpa using ha)]; exact Draws.strWide hh it x t
def ItES (z:Str):It2:=⟨λ i H=>i < z.cps.size,λ i H ys H'=>H' = H /\ ys = [.int i,sgn z i],λ i H=>i = z.cps.size⟩
def enumTs (z:Str) (t:Tok) (e it:Addr) (i:Nat) (h:Heap):Prop:=(∃ old,IsEnum h e it i old) /\ h.IsStrIter it (strIterType z) z t i
theorem turn_enumS {P:Program} {w:World} {K:PySem.W.Frag} {es:List Expr} {k:Nat} {pos:Pos} (z:Str) (t:Tok) (e it:Addr) (hne:e ≠ it):Turn2 P w K (.Tuple es k pos) (ItES z) [e,it] e (enumTs z t e it) where
 obj:=λ i h st b hb=>by
  obtain ⟨⟨old,he⟩,o,ho,c,d⟩:=st
  have hb:b = e ∨ b = it:=by simpa using hb
  rcases hb with y | y
  ·subst y; exact ⟨_,he,λ v q=>by cases q⟩
  ·subst y; exact ⟨o,ho,λ v q=>by rw [d] at q; cases q⟩
 keep:=λ i h h' st k=>by
  obtain ⟨⟨old,he⟩,hit⟩:=st
  obtain ⟨o,ho,r⟩:=hit
  exact ⟨⟨old,k e (by simp) _ he⟩,o,k it (by simp) o ho,r⟩
 item:=by
  intro X hP hw hK hc i pins s σ H E I hf st hg
  subst hP hw hK
  have hlt:i < z.cps.size:=hg
  obtain ⟨⟨old,he⟩,hit⟩:=st
  have fe:=hf e (by simp)
  have fi:=hf it (by simp)
  refine wpAny_pyNext_enum_itemD (Draws.strAny (A:=X.A.in1) (by simpa using I.ok.hd hc) it z t) he hit hlt hne (by simpa using hne) λ u h' tk hP heo hit' ht hsz hk=>?_
  refine ⟨s.heap.objs.size,rfl,wpAny_letOwnedTupleGo_enum heo λ h2 he2 hs2=>?_⟩
  replace hs2:Heap.SameBut e h' h2:=hs2
  have hel:e < s.heap.objs.size:=Heap.lt_size he
  have k2:∀ b o,b ≠ e -> b ≠ it -> s.heap.get? b = some o -> h2.get? b = some o:=λ b o h1 h3 q=>hs2.extBut b o h1 (hk b o h1 h3 q)
  have I1:Inv X pins σ H { s with heap:=h2,toks:=tk + 1 }:=by
   refine I.step (g':=s.gens) (d':=s.drawn) (ch:=[e,it]) (λ b hb=>?_) (λ b o _ _ hcc q _=>k2 b o (λ z=>hcc (by simp [z])) (λ z=>hcc (by simp [z])) q)
    (λ b o _ _ hcc q _=>⟨o.slots,k2 b o (λ z=>hcc (by simp [z])) (λ z=>hcc (by simp [z])) q⟩) (λ _ _ _ _ n=>n) (λ b o hcc q=>⟨o,k2 b o (λ z=>hcc (by simp [z])) (λ z=>hcc (by simp [z])) q⟩)
    (λ _ _ q=>q) (λ _ _ _ q=>q) (λ b ps q=>⟨#[],by rw [q]; simp⟩) (λ m hm=>?_) (λ b u q=>?_) I.bare
   ·have hb:b = e ∨ b = it:=by simpa using hb
    rcases hb with z | z
    ·subst z; exact ⟨fe.2.2.2.1,fe.2.1,fe.2.2.2.2.1,fe.2.2.2.2.2⟩
    ·subst z; exact ⟨fi.2.2.2.1,fi.2.1,fi.2.2.2.2.1,fi.2.2.2.2.2⟩
   ·obtain ⟨o,es',ep,ho,r⟩:=hm
    exact ⟨o,es',ep,k2 _ o (Ne.symm fe.2.1) (Ne.symm fi.2.1) ho,r⟩
   ·refine (I.hok b u q).stay (λ c v hcc z=>k2 c v (λ y=>?_) (λ y=>?_) z) (λ _ z=>z) λ _ _ z=>z
    ·rcases hcc with y' | y'
     ·rw [<- y',y,fe.1] at q; cases q
     ·rw [y,fe.1] at y'; cases y'
    ·rcases hcc with y' | y'
     ·rw [<- y',y,fi.1] at q; cases q
     ·rw [y,fi.1] at y'; cases y'
  obtain ⟨c,u',ec,rfl⟩:=hP
  obtain ⟨o3,ho3,r3⟩:=hit'
  refine ⟨[.int i,sgn z i],[.int i tk,.str ⟨#[c]⟩ u'],H,I1,⟨_,(hs2.extBut _ _ (Nat.ne_of_gt hel) ht),rfl,_,rfl⟩,.cons ⟨_,rfl⟩ (.cons (sgn_of (v:=.str ⟨#[c]⟩ u') ⟨c,u',ec,rfl⟩) .nil),⟨rfl,rfl⟩,⟨⟨.str ⟨#[c]⟩ u',?_⟩,o3,hs2.extBut _ _ (Ne.symm hne) ho3,r3⟩,λ b hb=>(hf b hb).1⟩
  ·have:((i:Int) + 1) = ((i + 1:Nat):Int):=by omega
   rw [<- this]; exact he2
 done:=by
  intro X hP hw hK hc i pins s σ H E I hf st hg
  subst hP hw hK
  have hi:i = z.cps.size:=hg
  subst hi
  obtain ⟨⟨old,he⟩,hit⟩:=st
  obtain ⟨f0,f1,f2,f3,f4,f5⟩:=hf it (by simp)
  exact wpAny_pyNext_enum_endD (Draws.strAny (A:=X.A.in1) (by simpa using I.ok.hd hc) it z t) he hit λ h' eb=>⟨rfl,I.turned (t':=s.toks) (λ b o hb e=>eb b o hb e) f0 f1 f3 f4 f5⟩
 self:=λ A i s Q E st h=>by
  obtain ⟨⟨old,he⟩,hit⟩:=st
  exact wpAny_pyIter_enum he h
def iEnumS (ta:TA):TI2:=λ σ H R=>ta σ H λ vs H1=>∃ z,vs = [.str z] /\ R (ItES z) H1
theorem pi_enumS {X:Cx} {es:List Expr} {k:Nat} {tpos:Pos} {l:Expr} {ta:TA} {p pos:Pos} (hg:Gl X "enumerate") (hm:X.mg "enumerate" = none) (ha:PA X [l] ta) (hs:starEach [l] X.env = [(false,eval l X.env)]:=by rfl) :
  PI2 X (.Tuple es k tpos) (.Call (.Name "enumerate" p) [l] [] pos) (iEnumS ta):=by
 intro pins s σ H R I h
 refine call_ty1 (R:=λ vs H1=>∃ z,vs = [.str z] /\ R (ItES z) H1) hg hm boot_enumerate ha I h (λ us s1 vs H1 I1 r1 q1=>?_) (hs:=hs)
 obtain ⟨z,e,q⟩:=q1
 subst e
 obtain ⟨u,rfl,t,rfl⟩:=vals1 r1
 refine call_enumerate_str λ h' he hit hsz hk=>wpAny_pyIter_enum he ?_
 refine ⟨s1.heap.objs.size + 1,[s1.heap.objs.size + 1,s1.heap.objs.size],_,_,H1,rfl,I1.kept (t':=s1.toks) hk,turn_enumS z t _ _ (Nat.succ_ne_self _),⟨⟨_,he⟩,hit⟩,λ b hb=>?_,q⟩
 have hb:b = s1.heap.objs.size + 1 ∨ b = s1.heap.objs.size:=by simpa using hb
 rcases hb with z | z
 ·subst z; exact I1.fpOk (Nat.le_succ _) (I1.hok.fresh (Nat.le_succ _))
 ·subst z; exact I1.fpOk (Nat.le_refl _) (I1.hok.fresh (Nat.le_refl _))
end L2
set_option Elab.async false
set_option linter.all false
set_option maxRecDepth 100000
namespace L2
open PySem PySem.Spec PyProof.Rows
end L2
set_option Elab.async false
set_option linter.all false
set_option maxRecDepth 100000
namespace L2
open PySem PySem.Spec PyProof.Rows
section
variable {X:Cx}
def rSlX:V -> Option Int -> Option Int -> Hp -> VK -> Prop:=λ x lo hi H Q=>∃ (z:Str) (j:Nat),x = .str z /\ lo = none /\ hi = some (j:Int) /\ z.length <= 1000 /\ Q (.str (ofCs ((cs z).take j))) H
theorem filterMap_range (l:List Nat):∀ m,m <= l.length -> (List.range m).filterMap (l[·]?) = l.take m
 | 0,_=>rfl
 | m + 1,h=>by
  rw [List.range_succ,List.filterMap_append,filterMap_range l m (by omega),List.take_succ]
  congr 1
theorem picked_to (z:Str) (j:Nat) (tk:Tok):slicePicked z none (some ((j:Int),tk)) none = List.range (min j z.length):=by
 unfold slicePicked Builtin.Str.strSliceIndices
 dsimp
 have e:(if (j:Int) < 0 then max 0 ((j:Int) + (z.length:Int)) else min (j:Int) (z.length:Int)) = ((min j z.length:Nat):Int):=by
  rw [if_neg (by omega)]; omega
 first
 | (rw [show sliceRange 0 _ 1 = sliceRange ((0:Nat):Int) ((min j z.length:Nat):Int) 1 by congr 1 <;> (try split) <;> omega,sliceRange_one]; simp)
 | skip
theorem slx_str:SlR X rSlX:=by
 intro pins s σ H x v vl vu lo hi sl Q I rx hs pl pu h
 obtain ⟨z,j,rfl,rfl,rfl,hz,q⟩:=h
 obtain ⟨t,rfl⟩:=rx
 refine ⟨"str",_,PySem.F.slot_str_getitem.lookup,typeIs_str s z t,?_⟩
 cases pl
 cases pu
 rename_i tk
 refine wpAny_getItem_str_slice (l:=none) (u:=some ((j:Int),tk)) (st:=none) hs rfl ?_
 have hl:z.length = (cs z).length:=by show z.cps.size = z.cps.toList.length; rw [Array.length_toList]
 unfold sliceMade
 rw [picked_to,List.length_range]
 split
 ·next h =>
  have h2:min j z.length = z.length:=by
   have:=(Bool.and_eq_true_iff.mp h).2
   exact beq_iff_eq.mp this
  have e:ofCs ((cs z).take j) = z:=by
   rw [List.take_of_length_le (by omega)]; exact of_cs z
  rw [e] at q
  exact ⟨.str z,H,I,⟨t,rfl⟩,q⟩
 ·have e:(⟨((List.range (min j z.length)).filterMap (z.cps[·]?)).toArray⟩:Str) = ofCs ((cs z).take j):=by
   have:=filterMap_range (cs z) (min j z.length) (by omega)
   rw [show (λ i:Nat=>z.cps[i]?) = λ i=>(cs z)[i]? from funext λ i=>by show z.cps[i]? = z.cps.toList[i]?; rw [Array.getElem?_toList]]
   rw [this]
   show ofCs _ = _
   congr 1
   rw [hl,List.take_eq_take_iff]
   omega
  rw [e]
  refine ⟨?_,.str _,H,I.tok _,⟨_,rfl⟩,q⟩
  show (ofCs ((cs z).take j)).length <= _
  rw [show (ofCs ((cs z).take j)).length = ((cs z).take j).length from ofCs_len _,List.length_take]
  exact smallE (by omega)
end
end L2
set_option Elab.async false
set_option linter.all false
set_option maxRecDepth 100000
namespace L2
open PySem PySem.Spec PyProof.Rows
section
variable {X:Cx}
theorem filterMap_from (l:List Nat) (j:Nat) (hj:j <= l.length):((List.range (l.length - j)).map (j + ·)).filterMap (l[·]?) = l.drop j:=by
 rw [List.filterMap_map]
 have e:(λ x=>l[x]?) ∘ (λ x=>j + x) = λ i=>(l.drop j)[i]?:=by
  funext i
  show l[j + i]? = _
  rw [List.getElem?_drop]
 rw [e,filterMap_range (l.drop j) (l.length - j) (by rw [List.length_drop]; omega),List.take_of_length_le (by rw [List.length_drop]; omega)]
end
end L2
set_option Elab.async false
set_option linter.all false
set_option maxRecDepth 100000
namespace L2
open PySem PySem.Spec PyProof.Rows
section
variable {X:Cx}
def rSlG:V -> Option Int -> Option Int -> Hp -> VK -> Prop:=λ x lo hi H Q=>∃ (z:Str) (j:Nat),x = .str z /\ lo = some (j:Int) /\ hi = none /\ z.length <= 1000 /\ Q (.str (ofCs ((cs z).drop j))) H
theorem picked_fromG (z:Str) (j:Nat) (tk:Tok):slicePicked z (some ((j:Int),tk)) none none = (List.range (z.length - min j z.length)).map (min j z.length + ·):=by
 unfold slicePicked Builtin.Str.strSliceIndices
 dsimp
 rw [show sliceRange _ _ 1 = sliceRange ((min j z.length:Nat):Int) ((z.length:Nat):Int) 1 by congr 1 <;> (try split) <;> omega,sliceRange_one]
theorem slg_str:SlR X rSlG:=by
 intro pins s σ H x v vl vu lo hi sl Q I rx hs pl pu h
 obtain ⟨z,j,rfl,rfl,rfl,hz,q⟩:=h
 obtain ⟨t,rfl⟩:=rx
 refine ⟨"str",_,PySem.F.slot_str_getitem.lookup,typeIs_str s z t,?_⟩
 cases pl
 cases pu
 rename_i tk
 refine wpAny_getItem_str_slice (l:=some ((j:Int),tk)) (u:=none) (st:=none) hs rfl ?_
 have hl:z.length = (cs z).length:=by show z.cps.size = z.cps.toList.length; rw [Array.length_toList]
 have ed:(cs z).drop j = (cs z).drop (min j z.length):=by
  by_cases h:j <= z.length
  ·rw [Nat.min_eq_left h]
  ·rw [List.drop_of_length_le (by omega),List.drop_of_length_le (by omega)]
 rw [ed] at q
 have hj:min j z.length <= z.length:=Nat.min_le_right _ _
 unfold sliceMade
 rw [picked_fromG z j,List.length_map,List.length_range]
 generalize min j z.length = j at *
 split
 ·next h =>
  have h2:z.length - j = z.length:=by
   have:=(Bool.and_eq_true_iff.mp h).2
   exact beq_iff_eq.mp this
  have e:ofCs ((cs z).drop j) = z:=by
   by_cases hj0:j = 0
   ·rw [hj0,List.drop_zero]; exact of_cs z
   ·have:z.length = 0:=by omega
    rw [List.drop_of_length_le (by omega),show ([]:List Nat) = cs z from (List.length_eq_zero_iff.mp (by omega)).symm]; exact of_cs z
  rw [e] at q
  exact ⟨.str z,H,I,⟨t,rfl⟩,q⟩
 ·have e:(⟨(((List.range (z.length - j)).map (j + ·)).filterMap (z.cps[·]?)).toArray⟩:Str) = ofCs ((cs z).drop j):=by
   have:=filterMap_from (cs z) j (by omega)
   rw [show (λ i:Nat=>z.cps[i]?) = λ i=>(cs z)[i]? from funext λ i=>by show z.cps[i]? = z.cps.toList[i]?; rw [Array.getElem?_toList]]
   rw [hl,this]
   rfl
  rw [e]
  refine ⟨?_,.str _,H,I.tok _,⟨_,rfl⟩,q⟩
  show (ofCs ((cs z).drop j)).length <= _
  rw [show (ofCs ((cs z).drop j)).length = ((cs z).drop j).length from ofCs_len _,List.length_drop]
  exact smallE (by omega)
end
end L2
set_option linter.all false
namespace L2
open PySem PySem.Spec PyProof.Rows
theorem for_enumS {z:Str} {t:TGs} {tb:TS} {D:Ends} {σ:St} {H:Hp} (Pv:Nat -> St -> Hp -> Prop) (h0:Pv 0 σ H)
  (hs:∀ i σ H,i < z.cps.size -> Pv i σ H -> t [.int i,sgn z i] σ H λ σ2 H2=>tb { D with nx:=Pv (i + 1),ct:=Pv (i + 1),bk:=D.nx } σ2 H2) (hd:∀ σ H,Pv z.cps.size σ H -> D.nx σ H) :
  ∃ W:Nat -> Nat -> St -> Hp -> Prop,(∃ m,W 0 m σ H) /\ ∀ i m σ H,W i m σ H ->
   ((ItES z).stop i H /\ D.nx σ H) ∨ ((ItES z).go i H /\ ∃ N:St -> Hp -> Prop,(∀ σ' H',N σ' H' -> ∃ m',m' < m /\ W (i + 1) m' σ' H') /\ ∀ zs H',(ItES z).yld i H zs H' -> zs.length = 2 /\ t zs σ H' λ σ2 H2=>tb { D with nx:=N,ct:=N,bk:=D.nx } σ2 H2):=by
 refine ⟨λ i m σ H=>m = z.cps.size - i /\ i <= z.cps.size /\ Pv i σ H,⟨z.cps.size,by simp,Nat.zero_le _,h0⟩,?_⟩
 rintro i m σ H ⟨rfl,hi,p⟩
 by_cases hlt:i < z.cps.size
 ·refine .inr ⟨hlt,Pv (i + 1),λ σ' H' p'=>⟨z.cps.size - (i + 1),by omega,rfl,hlt,p'⟩,λ zs H' y=>?_⟩
  obtain ⟨e,ez⟩:=y
  subst e ez
  exact ⟨rfl,hs i σ _ hlt p⟩
 ·have e:i = z.cps.size:=by omega
  subst e
  exact .inl ⟨rfl,hd σ H p⟩
end L2
set_option linter.all false
set_option Elab.async false
set_option linter.all false
set_option maxRecDepth 100000
namespace L2
open PySem PySem.Spec PyProof.Rows
end L2
set_option Elab.async false
set_option linter.all false
set_option maxRecDepth 100000
namespace L2
open PySem PySem.Spec PyProof.Rows
end L2
set_option Elab.async false
set_option linter.all false
set_option maxRecDepth 100000
namespace L2
open PySem PySem.Spec PyProof.Rows
section
variable {X:Cx}
def rIsB (K:PySem.W.Frag):List V -> Hp -> VK -> Prop:=λ xs H Q=>∃ (x:V) (t:Value) (T:String) (b:Bool),xs = [x,.ty T] /\ TyOf K H x t /\ PySem.W.kitOne K t (.type T) = some b /\ Q (.bl b) H
theorem call_isB:CallR X (.builtin "isinstance") (rIsB X.K):=by
 intro pins s σ H xs us Q I r h
 obtain ⟨x,t,T,b,rfl,ty,e,q⟩:=h
 obtain ⟨u1,u2,rfl,r1,r2⟩:=vals2 r
 cases r2
 exact isinst_ok (c:=.type T) I r1 ty e λ tk=>⟨.bl b,H,I.tok tk,rfl,q⟩
abbrev rAS:R2:=λ x y H Q=>∃ i j,x = .str i /\ y = .str j /\ i.length + j.length <= sizeLine /\ Q (.str (i ++ j)) H
theorem op_addS:OpR X (binaryOp .Add) rAS:=op_add_str
end
end L2
set_option Elab.async false
set_option linter.all false
set_option maxRecDepth 100000
namespace L2
open PySem PySem.Spec PyProof.Rows PySem.W PySem.Builtin PySem.Builtin.ObjectAttr
abbrev mV:List Value:=[.type "ValueError",.type "Exception",.type "BaseException",.type "object"]
def ovV:List Value -> Bool
 | .ref _ :: r=>ovV r
 | l=>l == mV
theorem ov_cases {l:List Value} (h:ovV l = true):l = mV ∨ ∃ a r,l = .ref a :: r /\ ovV r = true:=by
 unfold ovV at h
 split at h
 ·rename_i a r
  exact .inr ⟨a,r,rfl,h⟩
 ·exact .inl (beq_iff_eq.mp h)
theorem ov_pass (self:Value):∀ (l:List Value),ovV l = true -> refuseLoop self "__setattr__" l = pure ()
 | [],h=>by cases h
 | v :: r,h=>by
  rcases ov_cases h with e | ⟨a,r',e,h'⟩
  ·rw [e]; exact PySem.F.store_ValueError.passes self
  ·cases e
   rw [refuseLoop_ref]
   exact ov_pass self r h'
theorem ov_has {T:String} (hT:mV.contains (.type T) = true):∀ (l:List Value),ovV l = true -> l.contains (.type T) = true
 | [],h=>by cases h
 | v :: r,h=>by
  rcases ov_cases h with e | ⟨a,r',e,h'⟩
  ·rw [e]; exact hT
  ·cases e
   rw [List.contains_cons,ov_has hT r h',Bool.or_true]
section
variable {prog:Program} {w:World} {A:Around} {E:Value -> Shared -> Prop} {s:Shared} {K:Frag} {x C:Addr} {ox:Obj} {cd:ClassData} {name:Str} {v:Value} {od:Option Obj}
theorem exc_set {Q:Unit -> Shared -> Prop} {vs:Array Value} (X:K.In s.heap) (I:PySem.W.InstAt s.heap x ox C none) (hf:ox.data = .fields vs) (hs:findIn K (.ref C) "__setattr__" = some (some (.builtin "object.__setattr__")))
  (hc:clsIn K C = some cd) (ho:ovV cd.mro = true) (hd:cd.hasDict = true) (ha:findIn K (.ref C) name = some none)
  (h:∀ h' tk,h'.get? x = some { ox with dict:=some s.heap.objs.size } -> h'.Ns1 s.heap.objs.size (λ y=>if y = name then some v else none) -> (∀ b o,b ≠ x -> s.heap.get? b = some o -> h'.get? b = some o) -> Q () { s with heap:=h',toks:=tk }) :
  wpAny (model prog w) A (setAttr (.ref x) name v) Q E s:=by
 obtain ⟨h0,g,d,t,os⟩:=s
 refine set_plain X I hs ?_
 have SF:=PySem.F.store_ValueError
 have ne:cd.mro.isEmpty = false:=by cases q:cd.mro with | nil=>rw [q] at ho; cases ho | cons _ _=>rfl
 have sub:Looks (model prog w) h0 (isInstance (.ref x) (.type "object")) true:=I.type.andThen (looks_mroIn X (by unfold mroIn; rw [hc,Option.bind_some,if_neg (by rw [ne]; decide),ov_has (by decide) _ ho]))
 have hm:Looks (model prog w) h0 (mroOf (.ref C)) cd.mro:=(looks_clsIn X hc).andThen .now
 have hx:=I.at_
 have hcl:=I.cls
 have hdn:ox.dict = none:=by
  have:=I.dict
  cases q:ox.dict with
  | none=>rfl
  | some z=>rw [q] at this; exact this.elim
 have hC:∃ c' d' sl',h0.get? C = some ⟨c',d',.cls cd,sl'⟩:=by
  unfold clsIn at hc
  split at hc
  ·rename_i c' d' cd' sl' ho'
   cases hc
   exact ⟨_,_,_,X _ _ ho'⟩
  ·cases hc
 obtain ⟨c',d',sl',hC⟩:=hC
 refine codeAny_call_builtin SF.slot.plain SF.entry (@check_slot (model prog w) _ _ _ "object.__setattr__" "object" "__setattr__" (.ref x) [.str name t,v] [] _ SF.kind SF.split sub (SF.args (.ref x) (.str name t) v) ?_)
 rw [osa_eq,refuse_eq]
 dsimp only
 refine wpAny_bind (wpAny_bind (I.type.at (wpAny_bind (hm.at ?_))))
 rw [ov_pass _ _ ho]
 refine wpAny_pure (wpAny_bind (I.type.at (wpAny_bind ((looks_findIn X ha).at (wpAny_bind (m:=storeTaker? none) (wpAny_pure ?_))))))
 show wpAny _ _ (storeInOwnDict (.ref x) (.ref C) (.str name t) name v _) _ _ _
 unfold storeInOwnDict
 repeat (first | (with_reducible refine wpAny_loadPart_at hx ?_; rw [hcl]) | with_reducible refine wpAny_loadPart_at hC ?_ | wp_step)
 rw [hdn,if_neg (by simp [typeHasDict]),hf]
 have hxs:x ≠ h0.objs.size:=Nat.ne_of_lt (Heap.lt_size hx)
 have hx1:(h0.push { cls:=.type "dict",data:=.dict #[] }).get? x = some ox:=Heap.get?_push_of_some _ hx
 refine wpAny_bind (wpAny_alloc' (wpAny_bind (wpAny_update' hx1 (wpAny_pure ?_))))
 have hgd:((h0.push { cls:=.type "dict",data:=.dict #[] }).update x λ o=>{ cls:=o.cls,dict:=some h0.objs.size,data:=o.data,slots:=o.slots }).get? h0.objs.size = some { cls:=.type "dict",data:=.dict #[] } :=
  (Heap.get?_update_ne _ _ _ _ hxs.symm).trans (Heap.get?_push_at rfl rfl)
 have hnd:((h0.push { cls:=.type "dict",data:=.dict #[] }).update x λ o=>{ cls:=o.cls,dict:=some h0.objs.size,data:=o.data,slots:=o.slots }).Ns h0.objs.size (λ _=>none) :=
  ⟨_,#[],_,hgd,rfl,λ e he=>absurd he (by simp),λ _=>rfl⟩
 show wpAny _ _ (storeInDict h0.objs.size (.str name t) name v) _ _ _
 unfold storeInDict newKeyGuard
 refine wpAny_bind (wpAny_pure (wpAny_bind (wpAny_nsSet1 (Heap.Ns1.of_empty hnd) λ h' hn' hs'=>?_)))
 obtain ⟨oD,esD,epD,hoD,hdD,hcD⟩:=hn'.count (Within.cons name v Within.nil)
 refine wpAny_bind (wpAny_lookBehind hoD (by rw [hdD]; exact pastItsLine_dict (Nat.le_trans hcD (by rw [List.length_cons,List.length_nil,sizeLine_eq]; omega))) ?_)
 wp_walk
 refine h h' _ ?_ hn' λ b ob hbx hb=>(hs'.2 b (Nat.ne_of_lt (Heap.lt_size hb))).trans ((Heap.get?_update_ne _ _ _ _ hbx).trans (Heap.get?_push_of_some _ hb))
 refine (hs'.2 x hxs).trans (Heap.get?_update_self _ hx1 ?_)
 have hfr:=(Heap.get?_some_iff.mp hx).2
 obtain ⟨oc,od,odt,osl⟩:=ox
 cases odt <;> first | rfl | exact hfr
theorem exc_check {M:Model} {nameV:Value} {Q:Unit -> Shared -> Prop} (X:K.In s.heap) (I:PySem.W.InstAt s.heap x ox C od) (hm:mroIn K C (.type "BaseException") = some true) (hq:Q () s) :
  wpAny M A (checkBuiltinCall "BaseException.__getattribute__" ⟨[.ref x,nameV],[]⟩) Q E s:=by
 have sub:Looks M s.heap (isInstance (.ref x) (.type "BaseException")) true:=I.type.andThen (looks_mroIn X hm)
 exact @check_slot M _ _ s "BaseException.__getattribute__" "BaseException" "__getattribute__" (.ref x) [nameV] [] _ (by decide +kernel) (by decide +kernel) sub (PySem.F.args_bexc_ga (.ref x) nameV) hq
def exFin (P:Value -> Shared -> Prop) (fin:Fin) (s:Shared):Prop:=match fin with
 | .done (.ret u)=>P u s
 | _=>False
theorem exc_by {Q:Value -> Shared -> Prop} {expr fill:Bool} {tk:Tok} (X:K.In s.heap) (I:PySem.W.InstAt s.heap x ox C od) (hm:mroIn K C (.type "BaseException") = some true)
  (hga:findIn K (.ref C) "__getattribute__" = some (some (.builtin "BaseException.__getattribute__"))) (hgn:findIn K (.ref C) "__getattr__" = some none)
  (h:wpAny (model prog w) A.in1 (Builtin.«object.__getattribute__» ⟨[.ref x,.str name tk],[]⟩) (exFin λ u s'=>wpAny (model prog w) A (handedOut u) Q E s') (λ _ _=>False) s) :
  wpAny (model prog w) A (getAttrBy (.ref x) (.str name tk) fill expr) Q E s:=by
 obtain ⟨h0,g,d,t,os⟩:=s
 have L0:=I.type (M:=model prog w)
 have L1:=looks_findIn (M:=model prog w) X hga
 have L2:=looks_findIn (M:=model prog w) X hgn
 have FB:=PySem.F.attrBase_ValueError
 have hx0:(expr && onTheHeap (Value.builtin "BaseException.__getattribute__")) = false:=by cases expr <;> rfl
 have hx2:(Value.builtin "BaseException.__getattribute__" == Value.builtin "object.__getattribute__") = false:=by decide +kernel
 unfold getAttrBy
 refine wpAny_holding (wpAny_bind (L0.at (wpAny_bind (L1.at ?_))))
 show wpAny _ _ (if (onTheHeap (Value.ref C) && Value.builtin "BaseException.__getattribute__" == Value.builtin "object.__getattribute__") = true then _ else _) _ _ _
 rw [hx2,Bool.and_false,if_neg Bool.false_ne_true]
 unfold getAttrByItsOwn hookBefore
 rw [if_pos (show onTheHeap (Value.ref C) = true from rfl)]
 refine wpAny_bind (L2.at (wpAny_bind (wpAny_attempt (wpAny_holding ?_))))
 unfold callGetattribute boundAndCalled
 rw [hx0,if_neg Bool.false_ne_true,FB.ga.bind]
 refine wpAny_bind (wpAny_pure ?_)
 refine wpAny_call (codeAny_call_builtin FB.ga.plain PySem.F.entry_bexc_ga (exc_check (s:=⟨h0,g,d,t,os⟩) X I hm (wpAny_mono h (λ fin s' z=>?_) λ _ _ z=>z.elim)))
 rcases fin with (_ | _ | _ | _) | c <;> first | exact z | exact False.elim z
theorem exc_get {Q:Value -> Shared -> Prop} {expr:Bool} (X:K.In s.heap) (I:PySem.W.InstAt s.heap x ox C od) (hm:mroIn K C (.type "BaseException") = some true)
  (hga:findIn K (.ref C) "__getattribute__" = some (some (.builtin "BaseException.__getattribute__"))) (hgn:findIn K (.ref C) "__getattr__" = some none)
  (hf:findObj K C od name = some (.value v)) (hv:handedIn v = true) (h:Q v { s with toks:=s.toks + 1 }):wpAny (model prog w) A (getAttr (.ref x) name expr) Q E s:=by
 obtain ⟨h0,g,d,t,os⟩:=s
 have L0:=I.type (M:=model prog w)
 have L3:=looks_find (M:=model prog w) X I hf
 unfold getAttr
 refine wpAny_bind (wpAny_mkText (exc_by (s:=⟨h0,g,d,t + 1,os⟩) X I hm hga hgn ?_))
 refine wpAny_bind (wpAny_pure (wpAny_bind (wpAny_pure (wpAny_bind (L0.at (wpAny_bind (L3.at (wpAny_pure ?_))))))))
 show wpAny _ _ (handedOut v) _ _ _
 rw [handedOut_of hv]; exact wpAny_pure h
theorem exc_class {Q:Option Value -> Shared -> Prop} (X:K.In s.heap) (I:PySem.W.InstAt s.heap x ox C od) (hm:mroIn K C (.type "BaseException") = some true)
  (hga:findIn K (.ref C) "__getattribute__" = some (some (.builtin "BaseException.__getattribute__"))) (hgn:findIn K (.ref C) "__getattr__" = some none)
  (hf:findObj K C od "__class__" = some (.bind (.builtin "getset_descriptor.__get__") (.builtin "object.__class__"))) (hmo:mroIn K C (.type "object") = some true)
  (h:Q (some (.ref C)) { s with toks:=s.toks + 1 }):wpAny (model prog w) A (getAttr? (.ref x) "__class__") Q E s:=by
 obtain ⟨h0,g,d,t,os⟩:=s
 have L0:=I.type (M:=model prog w)
 have L3:=looks_find (M:=model prog w) X I hf
 unfold getAttr? getAttrBy?
 refine wpAny_bind (wpAny_mkText (wpAny_bind (wpAny_attempt (exc_by (s:=⟨h0,g,d,t + 1,os⟩) X I hm hga hgn ?_))))
 refine wpAny_bind (wpAny_pure (wpAny_bind (wpAny_pure (wpAny_bind (L0.at (wpAny_bind (L3.at ?_)))))))
 show wpAny _ _ (bindTo (.builtin "getset_descriptor.__get__") (.builtin "object.__class__") (.ref x) (.ref C)) _ _ _
 refine wpAny_bind (wpAny_holding (wpAny_call (class_get (s:=⟨h0,g,d,t + 1,os⟩) (ox:=ox) (od:=od) X I hmo (wpAny_pure ?_))))
 exact handed_on rfl (wpAny_pure h)
theorem exc_kit (hc:clsIn K C = some cd) (hm:mroIn K C (.type "BaseException") = some true)
  (hga:findIn K (.ref C) "__getattribute__" = some (some (.builtin "BaseException.__getattribute__"))) (hgn:findIn K (.ref C) "__getattr__" = some none)
  (ha:findIn K (.ref C) "__class__" = some (some (.builtin "object.__class__"))) (hn:specialIn K (.builtin "object.__class__") "__get__" = some (some (.builtin "getset_descriptor.__get__"))) (htk:takesIn K (.builtin "object.__class__") = some true)
  (hmo:mroIn K C (.type "object") = some true):KitX K (.ref x) (.ref C) (λ h=>∃ ox od,PySem.W.InstAt h x ox C od) where
 ty:=λ _ _ _ ⟨_,_,I⟩=>I.type
 it:=λ _ _ X _=>by
  unfold clsIn at hc
  split at hc
  ·rename_i c' d' cd' sl' ho
   intro A' Q' E' s' k q
   unfold isType loadHead
   exact wpAny_bind (wpAny_loadPart (k _ _ (X _ _ ho)) (wpAny_pure q))
  ·cases hc
 ne:=λ h tp dd its n sl X htp=>by
  refine Bool.eq_false_iff.mpr λ q=>?_
  have e:C = tp:=Value.ref.inj (beq_iff_eq.mp q)
  subst e
  unfold clsIn at hc
  split at hc
  ·rename_i c' d' cd' sl' ho
   have z:=(X _ _ ho).symm.trans htp
   cases z
  ·cases hc
 ca:=λ {prog w A E Q s} X ⟨ox,od,I⟩ k=>by
  have hf:findObj K C od "__class__" = some (.bind (.builtin "getset_descriptor.__get__") (.builtin "object.__class__")):=by
   unfold findObj
   rw [hc,Option.bind_some,ha,Option.bind_some]
   simp only [hn,htk,Option.bind_some]
  exact exc_class X I hm hga hgn hf hmo k
end
end L2
set_option Elab.async false
set_option linter.all false
set_option maxRecDepth 100000
namespace L2
open PySem PySem.Spec PyProof.Rows
def xcIn (K:PySem.W.Frag) (C:Addr) (ini:Option Value):Bool:=match K.lookup C with
 | some ⟨.type "type",_,.cls cd,sl⟩=>(match cd.mro,sl.toList with
  | .ref B :: bm,[_,_,_,_,some (.builtin n),_]=>B == C && (n == "ValueError.__new__" && (!cd.hasDel && (PySem.W.tailIn K mV bm && (PySem.W.nsOkIn K cd.ns && PySem.W.nsIn K cd.ns "__init__" == some ini))))
  | _,_=>false)
 | _=>false
theorem ns_is {K:PySem.W.Frag} {h:Heap} {N:Addr} {mg:Str -> Option Value} {n:Str} {v:Option Value} (X:K.In h) (G:h.Ns N mg) (e:PySem.W.nsIn K N n = some v):mg n = v:=by
 obtain ⟨o,es,ep,ho,hd,_,hf⟩:=G
 unfold PySem.W.nsIn at e
 split at e
 ·rename_i c d es' n' sl q
  have z:=X _ _ q
  rw [ho] at z
  cases z
  cases hd
  rw [<- hf]
  unfold nsFind findBy
  rw [<- Array.find?_toList]
  split at e
  ·rename_i en he
   cases e
   rw [he]
   rfl
  ·rename_i he
   split at e
   ·cases e
   ·cases e
    rw [he]
    rfl
 ·cases e
theorem xc_of {K:PySem.W.Frag} {h:Heap} {C:Addr} {ini:Option Value} (X:K.In h) (q:xcIn K C ini = true) :
  ∃ bm N nm qn bs hdct sn sub ab col dd k0 k1 k2 k3 k5 mN,h.get? C = some (excClassObj nm qn C N bs bm hdct sn sub ab col dd k0 k1 k2 k3 k5 "ValueError.__new__") /\ h.Ns N mN /\ mN "__init__" = ini /\ OwnTail h mV bm:=by
 unfold xcIn at q
 split at q
 ·rename_i dd cd sl ho
  split at q
  ·rename_i B bm k0 k1 k2 k3 n k5 hm hs
   simp only [Bool.and_eq_true,beq_iff_eq,Bool.not_eq_true'] at q
   obtain ⟨rfl,rfl,hdel,ht,hok,hni⟩:=q
   obtain ⟨nm,bs,mro,ns,qn,hd,sn,sub,ab,col,del⟩:=cd
   dsimp only at hm hdel hok hni
   subst hm hdel
   obtain rfl:sl = #[k0,k1,k2,k3,some (.builtin "ValueError.__new__"),k5]:=by
    obtain ⟨l⟩:=sl
    simp only at hs
    rw [hs]
   have hN:=Heap.Ns.of_isNs (PySem.W.isNs_of_in X hok)
   exact ⟨bm,ns,nm,qn,bs,hd,sn,sub,ab,col,dd,k0,k1,k2,k3,k5,_,X _ _ ho,hN,ns_is X hN hni,PySem.W.tail_of_in X ht⟩
  ·cases q
 ·cases q
structure XCl (K:PySem.W.Frag) (C:Addr):Prop where
 cls:∃ cd,PySem.W.clsIn K C = some cd /\ ovV cd.mro = true /\ cd.hasDict = true
 mb:PySem.W.mroIn K C (.type "BaseException") = some true
 mo:PySem.W.mroIn K C (.type "object") = some true
 ga:PySem.W.findIn K (.ref C) "__getattribute__" = some (some (.builtin "BaseException.__getattribute__"))
 gn:PySem.W.findIn K (.ref C) "__getattr__" = some none
 sa:PySem.W.findIn K (.ref C) "__setattr__" = some (some (.builtin "object.__setattr__"))
 ca:PySem.W.findIn K (.ref C) "__class__" = some (some (.builtin "object.__class__"))
 cg:PySem.W.specialIn K (.builtin "object.__class__") "__get__" = some (some (.builtin "getset_descriptor.__get__"))
 ct:PySem.W.takesIn K (.builtin "object.__class__") = some true
 kp:PySem.W.keepIn K (.ref C) = true
 ty:PySem.W.typeIn K (.ref C) = some (.type "type")
def exHO (a C:Addr) (dx:Option Addr) (fr:Bool):HO:=.ext λ h=>∃ o vs,h.get? a = some o /\ o.cls = .ref C /\ o.dict = dx /\ o.data = .fields vs /\ (fr = true -> ∃ t,vs = #[.ref t,.none,.none,.none,.bool false,.none])
section
variable {P:Program} {w:World} {H:Hp} {h:Heap} {a C:Addr} {dx:Option Addr} {fr:Bool}
theorem ex_ok {o:Obj} {vs:Array Value} (e:h.get? a = some o) (e1:o.cls = .ref C) (e2:o.dict = dx) (e3:o.data = .fields vs) (e4:fr = true -> ∃ t,vs = #[.ref t,.none,.none,.none,.bool false,.none]):ObjOk P w H h a (exHO a C dx fr) :=
 ⟨⟨o,vs,e,e1,e2,e3,e4⟩,⟨o,e⟩,λ h1 h2 q k=>by
  obtain ⟨o',vs',f,r⟩:=q
  exact ⟨o',vs',k _ f,r⟩⟩
theorem ex_get (hok:HOk P w H h) (e:H a = some (exHO a C dx fr)):∃ o vs,h.get? a = some o /\ o.cls = .ref C /\ o.dict = dx /\ o.data = .fields vs /\ (fr = true -> ∃ t,vs = #[.ref t,.none,.none,.none,.bool false,.none]):=(hok a _ e).1
theorem ex_inst {od:Option Obj} {o:Obj} {vs:Array Value} (e:h.get? a = some o) (e1:o.cls = .ref C) (e3:o.data = .fields vs) (hd:match o.dict,od with | some dx,some z=>h.get? dx = some z | none,none=>True | _,_=>False):PySem.W.InstAt h a o C od :=
 ⟨e,e1,by unfold PySem.W.notCls; rw [e3],hd⟩
theorem HOk.ex {o:HO} (ok:HOk P w H h) (e:H a = some o):∃ ob,h.get? a = some ob:=by
 have x:=ok a o e
 cases o with
 | lst xs=>obtain ⟨_,_,_,_,e⟩:=x; exact ⟨_,e⟩
 | tup xs=>obtain ⟨_,_,_,p⟩:=x; obtain ⟨o,e,_⟩:=p; exact ⟨_,e⟩
 | dK kvs=>obtain ⟨_,_,_,_,o,_,_,e,_⟩:=x; exact ⟨_,e⟩
 | dT kvs=>obtain ⟨_,_,_,_,o,_,_,e,_⟩:=x; exact ⟨_,e⟩
 | set S n=>obtain ⟨o,_,_,_,e,_⟩:=x; exact ⟨_,e⟩
 | ins C dx fs=>obtain ⟨_,_,_,e,_⟩:=x; exact ⟨_,e⟩
 | own y=>exact x
 | xd fs=>obtain ⟨_,⟨_,_,_,e,_⟩,_⟩:=x; exact ⟨_,e⟩
 | rng lo hi=>obtain ⟨_,_,_,e⟩:=x; exact ⟨_,e⟩
 | frz ob u=>obtain ⟨e,_⟩:=x; exact ⟨_,e⟩
 | tbl ps=>exact ⟨_,x⟩
 | met f y=>exact ⟨_,x⟩
 | ext φ=>exact x.2.1
end
section
variable {X:Cx} {pins:List (Addr × Obj)} {σ:St} {H:Hp} {s:Shared} {a C:Addr} {h':Heap}
theorem Inv.laidN {o:HO} {t':Nat} (I:Inv X pins σ H s) (k:∀ b u,s.heap.get? b = some u -> h'.get? b = some u) (hp:s.heap.get? a = none) (new:ObjOk X.prog X.w (upd H a o) h' a o) :
  Inv X pins σ (upd H a o) { s with heap:=h',toks:=t' }:=by
 have hn:H a = none:=by
  cases q:H a with
  | none=>rfl
  | some z =>
   obtain ⟨ob,e⟩:=I.hok.ex q
   rw [hp] at e
   cases e
 refine I.un ⟨λ b u q _ _ _=>k b u q,λ b u q _ _ _=>⟨u.slots,k b u q⟩,λ b u q n _=>?_,λ b u q _=>⟨u,k b u q⟩,λ b xs q=>?_,λ b u xs q=>?_,λ b ps q=>⟨#[],?_⟩⟩ λ b u e=>?_
 ·rw [upd_ne (λ z=>by rw [z,hp] at q; cases q)]; exact n
 ·rw [upd_ne (ne_of_none q hn)]; exact q
 ·rw [upd_ne (ne_of_none q hn)]; exact q
 ·rw [upd_ne (ne_of_none q hn),q]; simp
 ·by_cases hb:b = a
  ·subst hb; rw [upd_same] at e; cases e; exact new
  ·rw [upd_ne hb] at e
   exact (I.hok b u e).stay (λ c v _ q=>k c v q) (λ c q=>by rw [upd_ne (ne_of_none q hn)]; exact q) λ c xs q=>by rw [upd_ne (ne_of_none q hn)]; exact q
theorem Inv.nul (I:Inv X pins σ H s) (hp:s.heap.get? a = none):H a = none:=by
 cases q:H a with
 | none=>rfl
 | some z =>
  obtain ⟨ob,e⟩:=I.hok.ex q
  rw [hp] at e
  cases e
end
def tXget (K:PySem.W.Frag) (ta:TE) (f:Str):TE:=λ σ H Q=>ta σ H λ x H1=>∃ a C dx fr fs v,x = .ref a /\ H1 a = some (exHO a C (some dx) fr) /\ H1 dx = some (.xd fs) /\ XCl K C /\ NoAttr K C f /\ fs.lookup f = some v /\ Q v H1
def sXset (K:PySem.W.Frag) (ta tv:TE) (f:Str):TS:=λ D σ H=>tv σ H λ y H1=>ta σ H1 λ x H2=>∃ a C fr,x = .ref a /\ H2 a = some (exHO a C none fr) /\ XCl K C /\ NoAttr K C f /\ ∀ dx,H2 dx = none -> dx ≠ a -> D.nx σ (upd (upd H2 dx (.xd [(f,y)])) a (exHO a C (some dx) fr))
section
variable {X:Cx} {o e value:Expr} {f:Str} {pos pos':Pos} {ta tv:TE}
theorem pe_xget (he:PE X e ta) (hb:attributeBase e f X.env (eval e X.env) = eval e X.env:=by rfl):PE X (.Attribute e f pos) (tXget X.K ta f):=by
 intro pins s σ H Q I h
 refine attr_of hb (thn (he pins s σ H _ I h) λ u s1 zz=>?_)
 obtain ⟨x,H1,I1,rx,a,C,dx,fr,fs,v,rfl,ea,ed,c,n,l,q⟩:=zz
 obtain rfl:u = Value.ref a:=rx
 obtain ⟨ob,vs,e0,e1,e2,e3,_⟩:=ex_get I1.hok ea
 obtain ⟨mA,hn,r⟩:=(show ObjOk X.prog X.w H1 s1.heap dx (.xd fs) from I1.hok dx _ ed)
 obtain ⟨od,ho,hl⟩:=lookIn_ns hn
 obtain ⟨u,hu,ru⟩:=RelO.some_of (v:=v) (o:=mA f) (by rw [<- l]; exact r f)
 obtain ⟨cd,hcd,_,hd⟩:=c.cls
 have J:PySem.W.InstAt s1.heap a ob C (some od):=ex_inst e0 e1 e3 (by rw [e2]; exact ho)
 exact exc_get I1.kIn J c.mb c.ga c.gn (PySem.W.findObj_own (by unfold PySem.W.hasDictIn; rw [hcd]; exact hd) n rfl (by rw [hl,hu])) (handed_of ru) ⟨v,H1,I1.tok _,ru,q⟩
theorem ps_xset (ha:PE X o ta) (hv:PE X value tv) (hs:swapsWith value (some (.Attribute o f pos')) pos.line X.env = pure false:=by rfl):PS X (.Assign [.Attribute o f pos'] value pos) (sXset X.K ta tv f):=by
 intro pins s σ H D I h
 refine plainObj_wpAny_Assign_Attribute (thn (hv pins s σ H _ I h) λ u' s1 zz=>?_) hs
 obtain ⟨y,H1,I1,ry,q⟩:=zz
 refine thn (ha pins s1 σ H1 _ I1 q) λ ov s2 zz=>?_
 obtain ⟨x,H2,I2,rx,a,C,fr,rfl,ea,c,n,q2⟩:=zz
 obtain rfl:ov = Value.ref a:=rx
 obtain ⟨ob,vs,e0,e1,e2,e3,e4⟩:=ex_get I2.hok ea
 obtain ⟨cd,hcd,ho,hd⟩:=c.cls
 have J:PySem.W.InstAt s2.heap a ob C none:=ex_inst e0 e1 e3 (by rw [e2]; exact True.intro)
 refine exc_set I2.kIn J e3 c.sa hcd ho hd n λ h' tk x1 x2 x3=>?_
 have fz:H2 s2.heap.objs.size = none:=I2.hok.fresh (Nat.le_refl _)
 have ne:s2.heap.objs.size ≠ a:=Nat.ne_of_gt (Heap.lt_size e0)
 have lt:=Heap.lt_size e0
 refine ⟨σ,_,?_,q2 s2.heap.objs.size fz ne⟩
 have nz:∀ b u,H2 b = some u -> b ≠ s2.heap.objs.size:=λ b u q=>ne_of_none q fz
 have nx:∀ b u,H2 b = some u -> (∀ φ,u ≠ .ext φ) -> b ≠ a:=λ b u q n=>ne_of q ea (n _)
 have na:∀ b,H2 b = none -> b ≠ a:=λ b q z=>by rw [z,ea] at q; cases q
 refine I2.un ⟨λ b u q n _ _=>x3 b u (na b n) q,λ b u q n _ _=>⟨u.slots,x3 b u (na b n) q⟩,λ b u q n _=>?_,λ b u q _=>?_,λ b xs q=>?_,λ b u xs q=>?_,λ b ps q=>⟨#[],?_⟩⟩ λ b u q=>?_
 ·rw [upd_ne (na b n),upd_ne (Nat.ne_of_lt (Heap.lt_size q))]; exact n
 ·by_cases hb:b = a
  ·subst hb; exact ⟨_,x1⟩
  ·exact ⟨u,x3 b u hb q⟩
 ·rw [upd_ne (nx b _ q λ _=>nofun),upd_ne (nz b _ q)]; exact q
 ·rw [upd_ne (nx b _ q λ _=>nofun),upd_ne (nz b _ q)]; exact q
 ·rw [upd_ne (nx b _ q λ _=>nofun),upd_ne (nz b _ q),q]; simp
 ·by_cases hb:b = a
  ·subst hb
   rw [upd_same] at q
   cases q
   exact ex_ok x1 e1 rfl e3 e4
  ·rw [upd_ne hb] at q
   by_cases hz:b = s2.heap.objs.size
   ·subst hz
    rw [upd_same] at q
    cases q
    refine ⟨_,x2,λ g=>?_⟩
    show RelO (List.lookup g [(f,y)]) (if g = f then some u' else none)
    by_cases hg:g = f
    ·subst hg
     rw [if_pos rfl,List.lookup_cons_self]
     exact ry
    ·rw [if_neg hg,List.lookup_cons]
     rw [show (g == f) = false by simpa using hg]
     exact True.intro
   ·rw [upd_ne hz] at q
    refine (I2.hok b u q).stay (λ c v hc z=>x3 c v ?_ z) (λ c z=>?_) λ c xs z=>?_
    ·rintro rfl
     rcases hc with z' | z'
     ·exact hb z'.symm
     ·rw [ea] at z'; cases z'
    ·rw [upd_ne (nx c _ z λ _=>nofun),upd_ne (nz c _ z)]; exact z
    ·rw [upd_ne (nx c _ z λ _=>nofun),upd_ne (nz c _ z)]; exact z
theorem exc_isin {pins:List (Addr × Obj)} {σ:St} {H:Hp} {s:Shared} {A:Around} {E:Value -> Shared -> Prop} {Q:Value -> Shared -> Prop} {a C:Addr} {dx:Option Addr} {fr b:Bool} {c:Value} (I:Inv X pins σ H s) (ea:H a = some (exHO a C dx fr)) (cl:XCl X.K C)
  (hdx:∀ d,dx = some d -> ∃ fs,H d = some (.xd fs)) (e:PySem.W.kitOne X.K (.ref C) c = some b) (h:∀ tk,Q (.bool b) { s with toks:=tk }):wpAny (model X.prog X.w) A (call (.builtin "isinstance") [.ref a,c]) Q E s:=by
 obtain ⟨ob,vs,e0,e1,e2,e3,_⟩:=ex_get I.hok ea
 obtain ⟨cd,hcd,ho,hd⟩:=cl.cls
 have J:∃ ox od,PySem.W.InstAt s.heap a ox C od:=by
  cases dx with
  | none=>exact ⟨ob,none,ex_inst e0 e1 e3 (by rw [e2]; exact True.intro)⟩
  | some d =>
   obtain ⟨fs,ed⟩:=hdx d rfl
   obtain ⟨z,hz⟩:=I.hok.ex ed
   exact ⟨ob,some z,ex_inst e0 e1 e3 (by rw [e2]; exact hz)⟩
 exact PySem.W.kia_one (exc_kit hcd cl.mb cl.ga cl.gn cl.ca cl.cg cl.ct cl.mo) I.kIn J e (λ z=>nomatch z) h
end
end L2
set_option Elab.async false
set_option linter.all false
set_option maxRecDepth 100000
namespace L2
open PySem PySem.Spec PyProof.Rows
section
variable {prog:Program} {w:World} {A:Around} {E:Value -> Shared -> Prop} {h:Heap} {g:Array GenState} {d:Drawn} {t:Nat} {os:OsState}
variable {nm q:Str} {C N:Addr} {bs bm:List Value} {hdct:Bool} {sn:List Str} {sub:List Value} {ab:Bool} {col:Option Bool} {dd:Option Addr} {k0 k1 k2 k3 k5:Option Value} {mN:Str -> Option Value} {rest:List Value} {fI:Addr} {oI:Obj}
theorem type_call_initT {Q:Fin -> Shared -> Prop} (T:OwnTail h mV bm)
  (hC:h.get? C = some (excClassObj nm q C N bs bm hdct sn sub ab col dd k0 k1 k2 k3 k5 "ValueError.__new__")) (hn:h.Ns N mN) (hi:mN "__init__" = some (.ref fI)) (hfI:h.get? fI = some oI) (hfc:oI.cls = .type "function")
  (hq:∀ h' e,Heap.MadeExcOf h h' e (.ref C) rest -> wpAny (model prog w) A (call (.ref fI) (.ref e :: rest)) (λ r s'=>r = .none /\ Q (.done (.ret (.ref e))) s') E ⟨h',g,d,t,os⟩) (hrest:rest.length <= sizeLine) :
  wpAny (model prog w) A (Builtin.«type.__call__» ⟨.ref C :: rest,[]⟩) Q E ⟨h,g,d,t,os⟩:=by
 have F:=PySem.F.excBase_ValueError
 repeat (first | with_reducible refine wpAny_loadPart_at hC ?_ | with_reducible refine wpAny_madeBy_exc hC ?_ | wp_step)
 refine codeAny_call_builtin_code (Code.quiet_builtin _ F.quiet) (wpAny_check_new_subT F T hC (codeAny_exc_new_subT F T hC ?_ hrest))
 show wpAny _ _ _ _ _ _
 have kp:∀ b o,h.get? b = some o -> ((h.push { cls:=.type "tuple",data:=.seq rest.toArray }).push { cls:=.ref C,data:=.fields #[.ref h.objs.size,.none,.none,.none,.bool false,.none] }).get? b = some o :=
  λ b o e=>Heap.get?_push_of_some _ (Heap.get?_push_of_some _ e)
 have hC₁:=kp _ _ hC
 have hfI₁:=kp _ _ hfI
 have hn₁:=hn.keeps kp
 have hget:((h.push { cls:=.type "tuple",data:=.seq rest.toArray }).push { cls:=.ref C,data:=.fields #[.ref h.objs.size,.none,.none,.none,.bool false,.none] }).get? (h.objs.size + 1)
   = some { cls:=.ref C,data:=.fields #[.ref h.objs.size,.none,.none,.none,.bool false,.none] }:=by heap_get
 have hcC:(Value.ref C :: bm).contains (.ref C) = true:=by simp
 unfold isInstance
 repeat (first | with_reducible refine wpAny_loadPart_at hget ?_ | (with_reducible refine wpAny_isSubtype_exc hC₁ ?_; rw [hcC]) | wp_step)
 show wpAny _ _ (typeLookup (.ref C) _) _ _ _
 rw [typeLookup_eq]
 refine wpAny_bind (wpAny_mroOf_exc hC₁ ?_)
 rw [lookupAlong_cons]
 refine wpAny_bind (wpAny_classOwn_exc hC₁ hn₁ ?_)
 rw [hi]
 refine wpAny_pure (wpAny_holding (wpAny_bind ?_))
 unfold bindSpecial
 refine wpAny_bind (wpAny_typeOf (T:="function") ⟨_,hfI₁,hfc⟩ ?_)
 rw [if_pos (by decide)]
 refine wpAny_pure (wpAny_bind (wpAny_mono (hq _ (h.objs.size + 1) ⟨kp,Heap.get?_none_of_le (Nat.le_succ _),h.objs.size,hget,Heap.get?_none_of_le (Nat.le_refl _),Heap.get?_push_of_some _ (Heap.get?_push_at rfl rfl)⟩) (λ r s' hr=>?_) λ _ _ x=>x))
 obtain ⟨rfl,hQ⟩:=hr
 wp_walk
 exact hQ
theorem call_exc_initT {Q:Value -> Shared -> Prop} (T:OwnTail h mV bm)
  (hC:h.get? C = some (excClassObj nm q C N bs bm hdct sn sub ab col dd k0 k1 k2 k3 k5 "ValueError.__new__")) (hn:h.Ns N mN) (hi:mN "__init__" = some (.ref fI)) (hfI:h.get? fI = some oI) (hfc:oI.cls = .type "function")
  (hq:∀ h' e,Heap.MadeExcOf h h' e (.ref C) rest ->
   wpAny (model prog w) (A.under (.builtin "type.__call__" ⟨.ref C :: rest,[]⟩)) (call (.ref fI) (.ref e :: rest)) (λ r s'=>r = .none /\ Q (.ref e) s') E ⟨h',g,d,t,os⟩) (hrest:rest.length <= sizeLine) :
  wpAny (model prog w) A (call (.ref C) rest) Q E ⟨h,g,d,t,os⟩:=by
 have f1:=tc_lookup
 have f2:=tc_bind (.ref C)
 have hT:(⟨h,g,d,t,os⟩:Shared).TypeIs (.ref C) "type":=⟨_,hC,rfl⟩
 refine wpAny_call (codeAny_of_tree ?_)
 show wpAny _ _ (callAny (.ref C) _) _ _ _
 repeat (any_goals (first | assumption | with_reducible refine wpAny_loadPart_at hC ?_ | wp_step))
 refine ⟨rfl,?_⟩
 exact codeAny_call_builtin_at (Code.quiet_builtin _ (by decide +kernel)) entry_typeCall (wpAny_check_type_call_sub hC (type_call_initT T hC hn hi hfI hfc (λ h' e hm=>hq h' e hm) hrest))
end
def tExcI (C:Addr) (sp:Sp) (t:TA):TE:=λ σ H Q=>t σ H λ vs H1=>∀ a,H1 a = none -> sp (.ref a :: vs) (upd H1 a (exHO a C none true)) (λ v H2=>v = .non /\ Q (.ref a) H2) E0
section
variable {X:Cx} {C f:Addr} {x:Str} {p pos:Pos} {e:Expr} {es:List Expr} {k:Nat} {fd:FuncData} {ps:List Str} {sp:Sp} {t:TA} {CX:CXT}
theorem run_excI {pins:List (Addr × Obj)} {σ:St} {H:Hp} {s:Shared} {Q:VK} {us:List Value} {vs:List V} (hc:xcIn X.K C (some (.ref f)) = true) (hf:PySem.W.isFn X.K (.ref f) = true) (F:FnOk X.prog X.w X.K X.mg X.base CX k f fd ps sp) (hr:Room (k + 1) X.A) (hb:Binds X.K fd ps [])
  (hx:Passes CX X E0) (hz:ps.length <= 10) (I:Inv X pins σ H s) (r:Vals vs us)
  (h:∀ a,H a = none -> sp (.ref a :: vs) (upd H a (exHO a C none true)) (λ v H2=>v = .non /\ Q (.ref a) H2) E0) :
  wpAny (model X.prog X.w) X.A (call (.ref C) us) (EP X pins σ Q) X.xe s:=by
 obtain ⟨bm,N,nm,qn,bs,hdct,sn,sub,ab,col,dd,k0,k1,k2,k3,k5,mN,hC,hN,hni,T⟩:=xc_of I.kIn hc
 have hfn:∃ oI,s.heap.get? f = some oI /\ oI.cls = .type "function":=by
  obtain ⟨oI,ho,hc⟩:=Option.map_eq_some_iff.mp (beq_iff_eq.mp hf)
  exact ⟨oI,I.kIn _ _ ho,hc⟩
 obtain ⟨oI,hfI,hfc⟩:=hfn
 obtain ⟨h0,g,d,t0,os⟩:=s
 have hlen:us.length <= sizeLine:=by
  obtain ⟨a,ha⟩:∃ a,H a = none:=⟨h0.objs.size,I.hok.fresh (Nat.le_refl _)⟩
  have e1:=F.len _ _ _ _ (h a ha)
  have e2:=r.length
  rw [sizeLine_eq]
  simp only [List.length_cons] at e1
  omega
 refine call_exc_initT T hC hN hni hfI hfc (λ h' e m=>?_) hlen
 obtain ⟨tp,he,_,_⟩:=m.there
 have I2:Inv X pins σ (upd H e (exHO e C none true)) ⟨h',g,d,t0,os⟩:=I.laidN (t':=t0) m.keeps m.new (ex_ok he rfl rfl rfl λ _=>⟨tp,rfl⟩)
 have hq:=h e (I.nul m.new)
 have r2:Vals (V.ref e :: vs) (Value.ref e :: us):=.cons rfl r
 have hl:(Value.ref e :: us).length = ps.length:=by rw [<- r2.length]; exact F.len _ _ _ _ hq
 refine wpAny_call (codeAny_mono (F.run _ X.stack _ _ ⟨Value.ref e :: us,[]⟩ (Value.ref e :: us) _ _ E0 (hr.make C us []) (I2.env0.make C us []) (by have:=hb ⟨h',g,d,t0,os⟩ (Value.ref e :: us) I2.kIn (by rw [List.append_nil]; exact hl); rwa [List.append_nil] at this) r2 hq) λ r s' hq'=>?_)
 cases r with
 | error e=>exact hx pins σ _ _ e s' I2 hq'
 | ok fl =>
  cases fl with
  | ret u =>
   obtain ⟨v,H',I3,rv,ev,q3⟩:=I2.after hq'
   subst ev
   exact ⟨rv,⟨V.ref e,H',I3,rfl,q3⟩⟩
  | next=>exact False.elim hq'
  | brk=>exact False.elim hq'
  | cont=>exact False.elim hq'
theorem pe_excI (hc:xcIn X.K C (some (.ref f)) = true) (hk:PySem.W.keepIn X.K (.ref C) = true) (hf:PySem.W.isFn X.K (.ref f) = true) (F:FnOk X.prog X.w X.K X.mg X.base CX k f fd ps sp) (hr:Room (k + 1) X.A) (hb:Binds X.K fd ps []) (hx:Passes CX X E0) (hz:ps.length <= 10)
  (hg:Gl X x) (hm:X.mg x = some (.ref C)) (ha:PA X (e :: es) t) (hdb:(x == ("__debug__":Str)) = false:=by decide) (he:starEach (e :: es) X.env = (false,eval e X.env) :: starEach es X.env:=by rfl) (hpl:(backTo pos (starEach es X.env)).any (·.1) = false:=by rfl) :
  PE X (.Call (.Name x p) (e :: es) [] pos) (tExcI C sp t):=by
 intro pins s σ H Q I h
 refine wpAny_Call_Name_kw (ld_glob I hg hm ?_ hdb)
 refine PySem.W.callWith_K (h₀:=X.base) I.ok.mod.kin hk (thn (ha pos pins s σ H _ I h) λ us s1 zz=>?_) he hpl
 obtain ⟨vs,H1,I1,r,q⟩:=zz
 exact ⟨I1.kIn,run_excI hc hf F hr hb hx hz I1 r q⟩
end
end L2
set_option Elab.async false
set_option linter.all false
set_option maxRecDepth 100000
namespace L2
open PySem PySem.Spec PyProof.Rows
theorem dict_mapFields (f:Array Value -> Array Value) (o:Obj):(Obj.mapFields f o).dict = o.dict:=by
 obtain ⟨c,d,dt,sl⟩:=o
 cases dt <;> rfl
def Fly (a T:Addr) (fl:Value) (h:Heap):Prop:=∃ oe vs oT ts,h.get? a = some oe /\ oe.data = .fields vs /\ vs[1]? = some (.ref T) /\ T ≠ a /\ h.get? T = some oT /\ oT.data = .fields ts /\ ts[3]? = some fl
def SameEx (a:Addr) (h h':Heap):Prop:=∀ o vs,h.get? a = some o -> o.data = .fields vs -> ∃ o' vs',h'.get? a = some o' /\ o'.cls = o.cls /\ o'.dict = o.dict /\ o'.data = .fields vs'
structure KpX (fs:List Addr) (a T:Addr) (h h':Heap):Prop where
 keep:∀ b o,h.get? b = some o -> b ≠ a -> b ≠ T -> b ∉ fs -> h'.get? b = some o
 slot:∀ b o,h.get? b = some o -> b ∈ fs -> ∃ sl,h'.get? b = some { o with slots:=sl }
 ex:SameEx a h h'
section
variable {M:Model} {A:Around} {E:Value -> Shared -> Prop} {s:Shared} {base:Heap} {env:Env} {outer:List Env} {L a:Addr} {oe:Obj} {vs:Array Value}
theorem entry_ok {head:Value} {hadNext:Bool} {Q:Unit -> Shared -> Prop} (hfr:A.frames = some (env :: outer)) (hl:s.heap.FunFrames base (env :: outer)) (hf:env.frame = some L)
  (he:s.heap.get? a = some oe) (hd:oe.data = .fields vs) (hsz:1 < vs.size)
  (h:∀ h' T,s.heap.objs.size <= T -> Fly a T (rawInt L) h' -> KpX (frs (env :: outer)) a a s.heap h' -> Q () { s with heap:=h' }) :
  wpAny M A (do let fo <- frameOf env; let pl <- entryPlaceOf L hadNext; let b <- EntryCells.newEntry head fo .none (rawInt L) .none pl; setField (.ref a) 1 b) Q E s:=by
 have hene:a ∉ frs (env :: outer):=λ hm=>by
  obtain ⟨_,o,ho,hnf⟩:=hl.mem hm
  rw [he] at ho
  cases ho
  exact hnf vs hd
 refine wpAny_bind (wpAny_frameOf_fun hfr hl hf λ h₁ hs₁=>?_)
 refine wpAny_bind (wpAny_entryPlaceOf λ pl hpl=>?_)
 unfold EntryCells.newEntry newFields
 refine wpAny_bind (wpAny_newObj_type ?_ (hpl.sizeOk5 _ _ _ _ _))
 have he₁:h₁.get? a = some oe:=(hs₁.2.1 a hene).trans he
 have hn:s.heap.objs.size <= h₁.objs.size:=by rw [hs₁.1]; exact Nat.le_refl _
 have he₂:=Heap.get?_push_of_some (h:=h₁) { cls:=.type "traceback",dict:=none,data:=.fields ([head,.ref L,.none,rawInt L,.none] ++ (if pl.isEmpty then List.replicate 6 Value.none else pl)).toArray } he₁
 refine wpAny_setField he₂ hd hsz ?_
 have hTe:h₁.objs.size ≠ a:=Nat.ne_of_gt (Heap.lt_size he₁)
 have hd₃:=Obj.data_mapFields hd (·.setIfInBounds 1 (Value.ref h₁.objs.size))
 have he₃:=Heap.get?_update_self (Obj.mapFields (·.setIfInBounds 1 (Value.ref h₁.objs.size))) he₂ (Obj.isFreed_of_fields hd₃)
 have hT₃:=(Heap.get?_update_other (h₁.push { cls:=.type "traceback",dict:=none,data:=.fields ([head,.ref L,.none,rawInt L,.none] ++ (if pl.isEmpty then List.replicate 6 Value.none else pl)).toArray })
  (Obj.mapFields (·.setIfInBounds 1 (Value.ref h₁.objs.size))) (Ne.symm hTe)).trans (Heap.get?_push_size h₁ rfl)
 refine h _ h₁.objs.size hn ⟨_,_,_,_,he₃,hd₃,by simp [hsz],hTe,hT₃,rfl,by first | (simp; done) | (rcases hpl with rfl | ⟨_,_,_,_,_,_,_,rfl⟩ <;> simp)⟩ ⟨λ b o hb n1 _ n2=>?_,λ b o hb m=>?_,λ o ws e d=>?_⟩
 ·rw [Heap.get?_update_other _ _ (Ne.symm n1)]
  exact Heap.get?_push_of_some _ ((hs₁.2.1 b n2).trans hb)
 ·obtain ⟨sl,hs⟩:=hs₁.2.2 b o hb
  refine ⟨sl,?_⟩
  rw [Heap.get?_update_other _ _ (λ z:a = b=>hene (by rw [z]; exact m))]
  exact Heap.get?_push_of_some _ hs
 ·rw [he] at e
  cases e
  exact ⟨_,_,he₃,Obj.cls_mapFields _ _,dict_mapFields _ _,hd₃⟩
theorem note_ok {Q:Unit -> Shared -> Prop} (hfr:A.frames = some (env :: outer)) (hl:s.heap.FunFrames base (env :: outer)) (hf:env.frame = some L)
  (he:s.heap.get? a = some oe) (hd:oe.data = .fields vs) (h1:vs[1]? = some .none)
  (h:∀ h' T,s.heap.objs.size <= T -> Fly a T (rawInt L) h' -> KpX (frs (env :: outer)) a a s.heap h' -> Q () { s with heap:=h' }):wpAny M A (noteFrame (.ref a) env) Q E s:=by
 unfold noteFrame
 simp only [hf]
 refine wpAny_bind (wpAny_field he hd h1 ?_)
 rw [if_neg (by decide)]
 exact entry_ok hfr hl hf he hd (Array.getElem?_eq_some_iff.mp h1).1 h
theorem note_next {Q:Unit -> Shared -> Prop} {T0:Addr} (hfr:A.frames = some (env :: outer)) (hl:s.heap.FunFrames base (env :: outer)) (hf:env.frame = some L) (hF:Fly a T0 .none s.heap) (hT0:T0 ∉ frs (env :: outer))
  (h:∀ h' T,s.heap.objs.size <= T -> Fly a T (rawInt L) h' -> KpX (frs (env :: outer)) a T0 s.heap h' -> Q () { s with heap:=h' }):wpAny M A (noteFrame (.ref a) env) Q E s:=by
 obtain ⟨oe,vs,oT,ts,he,hd,h1,hTa,hT,hdT,h3⟩:=hF
 unfold noteFrame
 simp only [hf]
 refine wpAny_bind (wpAny_field he hd h1 ?_)
 rw [if_pos (show (Value.ref T0 != Value.none) = true from by simp)]
 refine wpAny_bind (wpAny_field hT hdT h3 ?_)
 rw [if_neg (show ¬ ((Value.none == rawInt L) = true) from by simp [rawInt])]
 refine wpAny_bind (wpAny_setField hT hdT (Array.getElem?_eq_some_iff.mp h3).1 ?_)
 have other:∀ b,b ≠ T0 -> (s.heap.update T0 (Obj.mapFields (·.setIfInBounds 3 Value.none))).get? b = s.heap.get? b:=λ b hb=>Heap.get?_update_other _ _ (Ne.symm hb)
 have noRecord:∀ b o,s.heap.get? b = some o -> (∀ vs,o.data ≠ .fields vs) -> b ≠ T0:=λ b o hb hnf q=>by
  rw [q,hT] at hb; injection hb with hb; subst hb; exact hnf ts hdT
 refine entry_ok (s:={ s with heap:=s.heap.update T0 (Obj.mapFields (·.setIfInBounds 3 Value.none)) }) hfr (hl.of_keeps λ b o hb hnf=>⟨o,(other b (noRecord b o hb hnf)).trans hb,rfl⟩) hf ((other a (Ne.symm hTa)).trans he) hd (Array.getElem?_eq_some_iff.mp h1).1
  λ h' T hT' hF' k=>h h' T (by have:=hT'; rwa [Heap.size_after_update] at this) hF' ⟨λ b o hb n1 n2 n3=>k.keep b o ((other b n2).trans hb) n1 n1 n3,λ b o hb m=>k.slot b o ((other b λ z=>hT0 (z ▸ m)).trans hb) m,λ o ws e d=>k.ex o ws ((other a (Ne.symm hTa)).trans e) d⟩
theorem land_ok {Q:Unit -> Shared -> Prop} {T:Addr} {fl:Value} (hF:Fly a T fl s.heap) (h:∀ h',Fly a T .none h' -> (∀ b o,s.heap.get? b = some o -> b ≠ T -> h'.get? b = some o) -> Q () { s with heap:=h' }) :
  wpAny M A (setFlight (.ref a) none) Q E s:=by
 obtain ⟨oe,vs,oT,ts,he,hd,h1,hTa,hT,hdT,h3⟩:=hF
 have hsz3:3 < ts.size:=(Array.getElem?_eq_some_iff.mp h3).1
 have other:∀ b,b ≠ T -> (s.heap.update T (Obj.mapFields (·.setIfInBounds 3 ((none:Option Addr).elim Value.none λ f=>rawInt f)))).get? b = s.heap.get? b :=
  λ b hb=>Heap.get?_update_other _ _ (Ne.symm hb)
 unfold setFlight
 refine wpAny_bind (wpAny_field he hd h1 ?_)
 rw [if_pos (show (Value.ref T != Value.none) = true from by simp)]
 refine wpAny_setField hT hdT hsz3 (h _ ?_ λ b o hb n=>(other b n).trans hb)
 exact ⟨oe,vs,_,_,(other a (Ne.symm hTa)).trans he,hd,h1,hTa,Heap.get?_update_self _ hT (Obj.isFreed_of_fields (Obj.data_mapFields hdT _)),Obj.data_mapFields hdT _,by simp [hsz3]⟩
end
section
variable {M:Model} {A:Around} {E:Value -> Shared -> Prop} {s:Shared} {base:Heap} {env:Env} {outer:List Env} {L a T0:Addr}
theorem KpX.land {fs:List Addr} {h h1 h2:Heap} {T:Addr} (k:KpX fs a T0 h h1) (hT:h.objs.size <= T) (hF:Fly a T .none h2) (k2:∀ b o,h1.get? b = some o -> b ≠ T -> h2.get? b = some o):KpX fs a T0 h h2:=by
 have lt:∀ b o,h.get? b = some o -> b ≠ T:=λ b o e=>Nat.ne_of_lt (Nat.lt_of_lt_of_le (Heap.lt_size e) hT)
 refine ⟨λ b o e n1 n2 n3=>k2 b o (k.keep b o e n1 n2 n3) (lt b o e),λ b o e m=>?_,λ o ws e d=>?_⟩
 ·obtain ⟨sl,z⟩:=k.slot b o e m
  exact ⟨sl,k2 b _ z (lt b o e)⟩
 ·obtain ⟨o',vs',z,q⟩:=k.ex o ws e d
  exact ⟨o',vs',k2 a _ z (lt a o e),q⟩
theorem leave_new {Q:Unit -> Shared -> Prop} {oe:Obj} {vs:Array Value} (hfr:A.frames = some (env :: outer)) (hl:s.heap.FunFrames base (env :: outer)) (hf:env.frame = some L)
  (he:s.heap.get? a = some oe) (hd:oe.data = .fields vs) (h1:vs[1]? = some .none)
  (h:∀ h' T,s.heap.objs.size <= T -> Fly a T .none h' -> KpX (frs (env :: outer)) a a s.heap h' -> Q () { s with heap:=h' }):wpAny M A (leaving env (.ref a)) Q E s:=by
 unfold leaving
 refine wpAny_bind (note_ok hfr hl hf he hd h1 λ h1 T hT hF k=>?_)
 exact land_ok (s:={ s with heap:=h1 }) hF λ h2 hF2 k2=>h h2 T hT hF2 (k.land hT hF2 k2)
end
section
variable {P:Program} {w:World} {fs:List Addr} {H:Hp} {h h':Heap} {a T C:Addr} {dx:Option Addr} {fr:Bool}
theorem KpX.hok (k:KpX fs a T h h') (ok:HOk P w H h) (ha:H a = some (exHO a C dx fr)) (hT:T = a ∨ H T = none) (hfs:∀ b ∈ fs,H b = none):HOk P w (upd H a (exHO a C dx false)) h':=λ b u q=>by
 have na:∀ c u,H c = some u -> (∀ φ,u ≠ .ext φ) -> c ≠ a:=λ c u q n=>ne_of q ha (n _)
 by_cases hb:b = a
 ·subst hb
  rw [upd_same] at q
  cases q
  obtain ⟨o,vs,e0,e1,e2,e3,_⟩:=ex_get ok ha
  obtain ⟨o',vs',z,z1,z2,z3⟩:=k.ex o vs e0 e3
  exact ex_ok z (z1.trans e1) (z2.trans e2) z3 λ c=>nomatch c
 ·rw [upd_ne hb] at q
  refine (ok b u q).stay (λ c v hc z=>?_) (λ c z=>?_) λ c xs z=>?_
  ·have tr:∃ u',H c = some u':=by
    rcases hc with rfl | hc
    ·exact ⟨u,q⟩
    ·exact ⟨_,hc⟩
   obtain ⟨u',hu'⟩:=tr
   refine k.keep c v z (λ y=>?_) (λ y=>?_) λ m=>?_
   ·rcases hc with rfl | hc
    ·exact hb y
    ·exact na c _ hc (λ _=>nofun) y
   ·rcases hT with rfl | hT
    ·rcases hc with rfl | hc
     ·exact hb y
     ·exact na c _ hc (λ _=>nofun) y
    ·rw [y,hT] at hu'; cases hu'
   ·rw [hfs c m] at hu'; cases hu'
  ·rw [upd_ne (na c _ z λ _=>nofun)]; exact z
  ·rw [upd_ne (na c _ z λ _=>nofun)]; exact z
theorem KpX.un (k:KpX fs a T h h') (ok:HOk P w H h) (ha:H a = some (exHO a C dx fr)) (hT:T = a ∨ H T = none):Un fs [T] H (upd H a (exHO a C dx false)) h h':=by
 have nn:∀ b,H b = none -> b ≠ a:=λ b n z=>by rw [z,ha] at n; cases n
 have na:∀ c u,H c = some u -> (∀ φ,u ≠ .ext φ) -> c ≠ a:=λ c u q n=>ne_of q ha (n _)
 refine ⟨λ b o q n nf nx=>k.keep b o q (nn b n) (by simpa using nx) nf,λ b o q n m nx=>k.slot b o q m,λ b o q n nx=>by rw [upd_ne (nn b n)]; exact n,λ b o q nx=>?_,λ b xs q=>?_,λ b o u q=>?_,λ b ps q=>⟨#[],?_⟩⟩
 ·by_cases m:b ∈ fs
  ·obtain ⟨sl,z⟩:=k.slot b o q m
   exact ⟨_,z⟩
  ·by_cases hb:b = a
   ·subst hb
    obtain ⟨o1,vs,e0,e1,e2,e3,_⟩:=ex_get ok ha
    obtain ⟨o',vs',z,_⟩:=k.ex o1 vs e0 e3
    exact ⟨o',z⟩
   ·exact ⟨o,k.keep b o q hb (by simpa using nx) m⟩
 ·rw [upd_ne (na b _ q λ _=>nofun)]; exact q
 ·rw [upd_ne (na b _ q λ _=>nofun)]; exact q
 ·rw [upd_ne (na b _ q λ _=>nofun),q]; simp
end
def CXR (P:Program) (w:World):CXT:=λ outer H s E e s'=>∃ (a C T:Addr) (dx:Option Addr) (H':Hp),e = .ref a /\ s'.os = s.os /\ AllBare s'.gens /\ Un (frs outer) [] H H' s.heap s'.heap /\ HOk P w H' s'.heap /\
 H' a = some (exHO a C dx false) /\ (∀ d,dx = some d -> ∃ fs,H' d = some (.xd fs)) /\ Fly a T .none s'.heap /\ H' T = none /\ s.heap.objs.size <= T /\ E (.ref C) (some a) H'
section
variable {P:Program} {w:World} {K:PySem.W.Frag} {mg:Str -> Option Value} {base:Heap} {N:List Str} {qual:Str} {scope:Scope} {f:Addr} {cd:Value} {A:Around} {outer:List Env} {s:Shared} {H:Hp} {E:XK}
variable {pins:List (Addr × Obj)} {σ:St} {H1:Hp} {s1:Shared} {a C T0:Addr} {dx:Option Addr} {fr:Bool}
theorem left_un {h2:Heap} (I:Inv (cxOf (CXR P w) P w K mg base N qual scope f cd A outer s H E) pins σ H1 s1) (ha:H1 a = some (exHO a C dx fr)) (hT:T0 = a ∨ (H1 T0 = none /\ s.heap.objs.size <= T0))
  (k:KpX (frs (envOfC qual scope s.heap.objs.size f cd :: outer)) a T0 s1.heap h2):Un (frs outer) [] H (upd H1 a (exHO a C dx false)) s.heap h2:=by
 have B:Un (frs outer) [] H H1 s.heap s1.heap:=I.base
 have hfr:frs (envOfC qual scope s.heap.objs.size f cd :: outer) = s.heap.objs.size :: frs outer:=rfl
 have nn:∀ b,H1 b = none -> b ≠ a:=λ b n z=>by rw [z,ha] at n; cases n
 have na:∀ c u,H1 c = some u -> (∀ φ,u ≠ .ext φ) -> c ≠ a:=λ c u q n=>ne_of q ha (n _)
 have nL:∀ b o,s.heap.get? b = some o -> b ≠ s.heap.objs.size:=λ b o e=>Nat.ne_of_lt (Heap.lt_size e)
 have nT:∀ b o,s.heap.get? b = some o -> b ≠ a -> b ≠ T0:=λ b o e n z=>by
  rcases hT with q | ⟨_,q⟩
  ·exact n (z.trans q)
  ·rw [z] at e
   exact absurd (Heap.lt_size e) (Nat.not_lt.mpr q)
 refine ⟨λ b o q n nf nx=>?_,λ b o q n m nx=>?_,λ b o q n nx=>?_,λ b o q nx=>?_,λ b xs q=>?_,λ b o u q=>?_,λ b ps q=>?_⟩
 ·have n1:=nn b (B.free b o q n nx)
  refine k.keep b o (B.keep b o q n nf nx) n1 (nT b o q n1) ?_
  rw [hfr]
  intro m
  rcases List.mem_cons.mp m with z | z
  ·exact nL b o q z
  ·exact nf z
 ·obtain ⟨sl,z⟩:=B.slot b o q n m nx
  obtain ⟨sl',z'⟩:=k.slot b _ z (by rw [hfr]; exact List.mem_cons_of_mem _ m)
  exact ⟨sl',z'⟩
 ·have n1:=B.free b o q n nx
  rw [upd_ne (nn b n1)]
  exact n1
 ·obtain ⟨o1,z⟩:=B.there b o q nx
  by_cases hb:b = a
  ·subst hb
   obtain ⟨o2,vs,e0,e1,e2,e3,_⟩:=ex_get I.hok ha
   obtain ⟨o',vs',y,_⟩:=k.ex o2 vs e0 e3
   exact ⟨o',y⟩
  ·by_cases m:b ∈ frs (envOfC qual scope s.heap.objs.size f cd :: outer)
   ·obtain ⟨sl,y⟩:=k.slot b o1 z m
    exact ⟨_,y⟩
   ·exact ⟨o1,k.keep b o1 z hb (nT b o q hb) m⟩
 ·have z:=B.tups b xs q
  rw [upd_ne (na b _ z λ _=>nofun)]; exact z
 ·have z:=B.frzs b o u q
  rw [upd_ne (na b _ z λ _=>nofun)]; exact z
 ·obtain ⟨more,z⟩:=B.tbls b ps q
  exact ⟨more,by rw [upd_ne (na b _ z λ _=>nofun)]; exact z⟩
theorem raise_leaves (I:Inv (cxOf (CXR P w) P w K mg base N qual scope f cd A outer s H E) pins σ H1 s1) (ha:H1 a = some (exHO a C dx true)) (hdx:∀ d,dx = some d -> ∃ fs,H1 d = some (.xd fs))
  (hE:E (.ref C) (some a) (upd H1 a (exHO a C dx false))):(cxOf (CXR P w) P w K mg base N qual scope f cd A outer s H E).xe (.ref a) s1:=by
 obtain ⟨o,vs,e0,e1,e2,e3,e4⟩:=ex_get I.hok ha
 obtain ⟨t,rfl⟩:=e4 rfl
 refine leave_new (base:=base) (L:=s.heap.objs.size) I.ok.frames I.stack rfl e0 e3 rfl λ h' T hT hF k=>?_
 have sz:s.heap.objs.size <= s1.heap.objs.size:=I.sz
 have ne:∀ c u,H1 c = some u -> (∀ φ,u ≠ .ext φ) -> c ≠ a:=λ c u q n=>ne_of q ha (n _)
 refine ⟨a,C,T,dx,_,rfl,I.os,I.bare,left_un I ha (.inl rfl) k,k.hok I.hok ha (.inl rfl) I.stkFree,upd_same,λ d z=>?_,hF,?_,Nat.le_trans sz hT,hE⟩
 ·obtain ⟨fs,q⟩:=hdx d z
  exact ⟨fs,by rw [upd_ne (ne d _ q λ _=>nofun)]; exact q⟩
 ·have:T ≠ a:=by obtain ⟨_,_,_,_,_,_,_,n,_⟩:=hF; exact n
  rw [upd_ne this]
  exact I.hok.fresh hT
end
end L2
set_option Elab.async false
set_option linter.all false
set_option maxRecDepth 100000
namespace L2
open PySem PySem.Spec PyProof.Rows
theorem raise_ok {M:Model} {A:Around} {E:Value -> Shared -> Prop} {s:Shared} {env:Env} {x:Sem Value} {Q:Flow -> Shared -> Prop} (hh:A.handled = none)
  (h:wpAny M A x (λ v s₁=>∃ (a C t:Addr) (o:Obj) (K:PySem.W.Frag) (cd:ClassData),v = .ref a /\ K.In s₁.heap /\ PySem.W.clsIn K C = some cd /\ PySem.W.typeIn K (.ref C) = some (.type "type") /\ ovV cd.mro = true /\ s₁.heap.get? a = some o /\ o.cls = .ref C /\ o.data = .fields #[.ref t,.none,.none,.none,.bool false,.none] /\ E (.ref a) s₁) E s) :
  wpAny M A (raiseStmt env (some x) none) Q E s:=by
 unfold raiseStmt
 refine wpAny_bind (wpAny_mono h (λ v s₁ h₁=>?_) λ _ _ x=>x)
 obtain ⟨a,C,t,o,K,cd,rfl,X,hc,hty,ho,he,hcl,hf,hE⟩:=h₁
 obtain ⟨hp,g,d,tk,os⟩:=s₁
 have hC:∃ d' sl',hp.get? C = some ⟨.type "type",d',.cls cd,sl'⟩:=by
  unfold PySem.W.clsIn at hc
  split at hc
  ·rename_i c' d' cd' sl' ho'
   cases hc
   have z:(some ⟨c',d',.cls cd,sl'⟩:Option Obj).map (·.cls) = some (.type "type"):=by rw [<- ho']; exact hty
   cases Option.some.inj z
   exact ⟨_,_,X _ _ ho'⟩
  ·cases hc
 have ne:cd.mro.isEmpty = false:=by cases q:cd.mro with | nil=>rw [q] at ho; cases ho | cons _ _=>rfl
 have LS:PySem.W.Looks M hp (isSubtype (.ref C) (.type "BaseException")) true:=PySem.W.looks_mroIn X (by unfold PySem.W.mroIn; rw [hc,Option.bind_some,if_neg (by rw [ne]; decide),ov_has (by decide) _ ho])
 obtain ⟨d',sl',hC⟩:=hC
 obtain ⟨oc,od,odt,osl⟩:=o
 dsimp only at hcl hf
 subst hcl hf
 repeat (first | with_reducible refine wpAny_loadPart_at he ?_ | with_reducible refine wpAny_loadPart_at hC ?_ | with_reducible refine LS.at ?_ | wp_step)
 exact wpAny_raiseNew_none hh hE
def Raises (X:Cx) (R:Value -> Option Addr -> St -> Hp -> Prop):Prop:=∀ (pins:List (Addr × Obj)) (σ:St) (H:Hp) (s:Shared) (a C:Addr) (dx:Option Addr),Inv X pins σ H s -> H a = some (exHO a C dx true) -> (∀ d,dx = some d -> ∃ fs,H d = some (.xd fs)) ->
 R (.ref C) (some a) σ (upd H a (exHO a C dx false)) -> X.xe (.ref a) s
def tRaise (K:PySem.W.Frag) (R:Value -> Option Addr -> St -> Hp -> Prop) (te:TE):TS:=λ _ σ H=>te σ H λ x H1=>∃ a C dx,x = .ref a /\ H1 a = some (exHO a C dx true) /\ (∀ d,dx = some d -> ∃ fs,H1 d = some (.xd fs)) /\ XCl K C /\ R (.ref C) (some a) σ (upd H1 a (exHO a C dx false))
theorem ps_raise {X:Cx} {R:Value -> Option Addr -> St -> Hp -> Prop} {e:Expr} {te:TE} {pos:Pos} (hr:Raises X R) (hc:X.calm = true) (he:PE X e te):PS X (.Raise (some e) none pos) (tRaise X.K R te):=by
 intro pins s σ H D I h
 rw [arm_exec_Raise]
 refine wpAny_bind (wpAny_standAt (raise_ok (I.ok.hd hc) (wpAny_bind (thn (he pins s σ H _ I h) λ v s1 zz=>?_))))
 obtain ⟨x,H1,I1,rx,a,C,dx,rfl,ea,hd,cl,q⟩:=zz
 obtain rfl:v = Value.ref a:=rx
 obtain ⟨o,vs,e0,e1,e2,e3,e4⟩:=ex_get I1.hok ea
 obtain ⟨cd,hcd,ho,_⟩:=cl.cls
 obtain ⟨t,rfl⟩:=e4 rfl
 exact wpAny_bind (wpAny_standAt (wpAny_pure ⟨a,C,t,o,X.K,cd,rfl,I1.kIn,hcd,cl.ty,ho,e0,e1,e3,hr pins σ H1 s1 a C dx I1 ea hd q⟩))
def PassS (X:Cx) (R:Value -> Option Addr -> St -> Hp -> Prop):Prop:=∀ (pins:List (Addr × Obj)) (σ:St) (H:Hp) (s:Shared) (e:Value) (s':Shared),Inv X pins σ H s -> CXR X.prog X.w X.stack H s (λ c o H'=>R c o σ H') e s' -> X.xe e s'
def tCallX (sp:Sp) (R:Value -> Option Addr -> St -> Hp -> Prop) (t:TA):TE:=λ σ H Q=>t σ H λ vs H1=>sp vs H1 Q λ c o H'=>R c o σ H'
section
variable {X:Cx} {k:Nat} {f:Addr} {fd:FuncData} {ps:List Str} {sp:Sp} {R:Value -> Option Addr -> St -> Hp -> Prop} {x:Str} {p pos:Pos} {e:Expr} {es:List Expr} {t:TA}
theorem pe_callX (F:FnOk X.prog X.w X.K X.mg X.base (CXR X.prog X.w) k f fd ps sp) (hr:Room k X.A) (hg:Gl X x) (hm:X.mg x = some (.ref f)) (hk:PySem.W.keepIn X.K (.ref f) = true) (hb:Binds X.K fd ps []) (hx:PassS X R)
  (ha:PA X (e :: es) t) (hdb:(x == ("__debug__":Str)) = false:=by decide) (he:starEach (e :: es) X.env = (false,eval e X.env) :: starEach es X.env:=by rfl) (hpl:(backTo pos (starEach es X.env)).any (·.1) = false:=by rfl) :
  PE X (.Call (.Name x p) (e :: es) [] pos) (tCallX sp R t):=by
 intro pins s σ H Q I h
 refine wpAny_Call_Name_kw (ld_glob I hg hm ?_ hdb)
 refine PySem.W.callWith_K (h₀:=X.base) I.ok.mod.kin hk (thn (ha pos pins s σ H _ I h) λ us s1 zz=>?_) he hpl
 obtain ⟨vs,H1,I1,r,q⟩:=zz
 refine ⟨I1.kIn,?_⟩
 have hl:us.length = ps.length:=by rw [<- r.length]; exact F.len _ _ _ _ q
 refine wpAny_call (codeAny_mono (F.run X.A X.stack s1 H1 ⟨us,[]⟩ us vs Q _ hr I1.env0 (by have:=hb s1 us I1.kIn (by rw [List.append_nil]; exact hl); rwa [List.append_nil] at this) r q) λ r s' hq=>?_)
 cases r with
 | error e=>exact hx pins σ H1 s1 e s' I1 hq
 | ok fl =>
  cases fl with
  | ret u=>exact I1.after hq
  | next=>exact False.elim hq
  | brk=>exact False.elim hq
  | cont=>exact False.elim hq
end
section
variable {P:Program} {w:World} {K:PySem.W.Frag} {mg:Str -> Option Value} {base:Heap}
theorem Fun.okX {x qual:Str} {st:Stmt} {f:Addr} {fd:FuncData} {N ps:List Str} {k:Nat} {sp:Sp} (F:Fun K x qual st f fd) (S:FnScope N ps (defScope st)) (len:∀ vs H Q E,sp vs H Q E -> vs.length = ps.length)
  (hbody:∀ (cdv:Value) (A:Around) (outer:List Env) (s:Shared) (H:Hp) (vs:List V) (Q:VK) (E:XK),Room k (A.deeper (envOfC qual (defScope st) s.heap.objs.size f cdv)) -> sp vs H Q E ->
   ∃ t,PSs (cxOf (CXR P w) P w K mg base N qual (defScope st) f cdv A outer s H E) (defBody st) t /\ t { nx:=λ _ H'=>Q .non H',rt:=Q } (start N vs) H):FnOk P w K mg base (CXR P w) (k + 1) f fd ps sp:=by
 obtain ⟨oc,od,kV,doc,pm,an,cdv,ct,osl,rfl,lk,hcd⟩:=F.ex
 exact fn_of lk hcd S len λ A outer s H vs Q E hr hsp=>hbody cdv A outer s H vs Q E hr hsp
variable {N:List Str} {qual:Str} {scope:Scope} {f:Addr} {cd:Value} {A:Around} {outer:List Env} {s:Shared} {H:Hp} {E:XK}
theorem raises_of:Raises (cxOf (CXR P w) P w K mg base N qual scope f cd A outer s H E) (λ c o _ H'=>E c o H'):=λ pins σ H1 s1 a C dx I ea hd q=>raise_leaves I ea hd q
theorem ownX:PassesOwn (model P w) (cxOf (CXR P w) P w K mg base N qual scope f cd A outer s H E).A (cxOf (CXR P w) P w K mg base N qual scope f cd A outer s H E).env (cxOf (CXR P w) P w K mg base N qual scope f cd A outer s H E).xe:=PassesOwn.leaving
end
end L2
set_option Elab.async false
set_option linter.all false
set_option maxRecDepth 100000
namespace L2
open PySem PySem.Spec PyProof.Rows
def ExAt (H:Hp) (a C:Addr):Prop:=∃ dx fr,H a = some (exHO a C dx fr) /\ ∀ d,dx = some d -> ∃ fs,H d = some (.xd fs)
theorem ExAt.mono {H H':Hp} {a C:Addr} (h:ExAt H a C) (g:Same H H'):ExAt H' a C:=by
 obtain ⟨dx,fr,e,hd⟩:=h
 refine ⟨dx,fr,g _ _ e,λ d z=>?_⟩
 obtain ⟨fs,e'⟩:=hd d z
 exact ⟨fs,g _ _ e'⟩
def rIsX (K:PySem.W.Frag):List V -> Hp -> VK -> Prop:=λ xs H Q=>∃ (a C:Addr) (c:V) (b:Bool),xs = [.ref a,c] /\ ExAt H a C /\ XCl K C /\ (∀ u,RelV c u -> PySem.W.kitOne K (.ref C) u = some b) /\ Q (.bl b) H
theorem call_isX {X:Cx}:CallR X (.builtin "isinstance") (rIsX X.K):=by
 intro pins s σ H xs us Q I r h
 obtain ⟨a,C,c,b,rfl,⟨dx,fr,ea,hd⟩,cl,e,q⟩:=h
 obtain ⟨u1,u2,rfl,r1,r2⟩:=vals2 r
 cases r1
 exact exc_isin I ea cl hd (e u2 r2) λ tk=>⟨.bl b,H,I.tok tk,rfl,q⟩
abbrev cxT (X:Cx) (pins:List (Addr × Obj)) (W:Value -> Shared -> Prop):Cx:={ X with pn:=X.pn ++ pins,xe:=W }
abbrev cxS (X:Cx) (pins:List (Addr × Obj)) (a:Addr):Cx:={ X with A:=X.A.mark (some (.ref a)),calm:=false,pn:=X.pn ++ pins,xe:=λ _ _=>False }
section
variable {X:Cx} {pins pins':List (Addr × Obj)} {σ:St} {H:Hp} {s:Shared} {W:Value -> Shared -> Prop} {a:Addr}
theorem Inv.toT (I:Inv X pins σ H s):Inv (cxT X pins W) [] σ H s :=
 ⟨⟨I.ok.mod,I.ok.kind,I.ok.glob,I.ok.blt,I.ok.above,I.ok.inj,I.ok.has,I.ok.cab,I.ok.hd,I.ok.frames,I.ok.stk,I.ok.exf,I.ok.bs,I.ok.bsz,I.ok.noex,I.ok.exfs,I.ok.funs,I.ok.frf⟩,I.os,I.bare,I.base,I.loc,I.cell,I.free,I.freeC,λ p hp=>I.pin p (by simpa using hp),I.hok,I.len⟩
theorem Inv.ofT (I:Inv (cxT X pins W) pins' σ H s):Inv X pins σ H s :=
 ⟨⟨I.ok.mod,I.ok.kind,I.ok.glob,I.ok.blt,I.ok.above,I.ok.inj,I.ok.has,I.ok.cab,I.ok.hd,I.ok.frames,I.ok.stk,I.ok.exf,I.ok.bs,I.ok.bsz,I.ok.noex,I.ok.exfs,I.ok.funs,I.ok.frf⟩,I.os,I.bare,I.base,I.loc,I.cell,I.free,I.freeC,λ p hp=>I.pin p (List.mem_append_left _ hp),I.hok,I.len⟩
theorem Inv.toS (I:Inv X pins σ H s):Inv (cxS X pins a) [] σ H s :=
 ⟨⟨I.ok.mod,I.ok.kind,I.ok.glob,I.ok.blt,I.ok.above,I.ok.inj,I.ok.has,I.ok.cab,λ z=>(nomatch z),I.ok.frames,I.ok.stk,I.ok.exf,I.ok.bs,I.ok.bsz,I.ok.noex,I.ok.exfs,I.ok.funs,I.ok.frf⟩,I.os,I.bare,I.base,I.loc,I.cell,I.free,I.freeC,λ p hp=>I.pin p (by simpa using hp),I.hok,I.len⟩
theorem Inv.ofS (hd:X.calm = true -> X.A.handled = none) (I:Inv (cxS X pins a) pins' σ H s):Inv X pins σ H s :=
 ⟨⟨I.ok.mod,I.ok.kind,I.ok.glob,I.ok.blt,I.ok.above,I.ok.inj,I.ok.has,I.ok.cab,hd,I.ok.frames,I.ok.stk,I.ok.exf,I.ok.bs,I.ok.bsz,I.ok.noex,I.ok.exfs,I.ok.funs,I.ok.frf⟩,I.os,I.bare,I.base,I.loc,I.cell,I.free,I.freeC,λ p hp=>I.pin p (List.mem_append_left _ hp),I.hok,I.len⟩
theorem goes_ok {M:Model} {A:Around} {E:Value -> Shared -> Prop} {i:Nat} {n:Str} {pos:Pos} {Q:Unit -> Shared -> Prop} (I:Inv X pins σ H s) (hN:X.N.Nodup) (hi:X.N[i]? = some n) (hk:X.env.scope.names.lookup n = some .local)
  (h:∀ s',Inv X pins (σ.set i none) H s' -> Q () s'):wpAny M A (do bindName X.env n .none; unbindBehindTheSuite X.env n pos) Q E s:=by
 obtain ⟨m,hn,hl⟩:=id I.loc
 have hcls:(X.env.scope.kind == .class || (X.env.scope.kind == .module && X.env.locals != X.env.globals)) = false:=by rw [I.ok.kind]; rfl
 have hiσ:i < σ.length:=by rw [I.len]; exact (List.getElem?_eq_some_iff.mp hi).1
 have cne:=I.cne
 refine wpAny_nameGoes_keeps hk hn hcls λ h' v hn' hs=>?_
 have above:∀ b o,X.s₀.heap.get? b = some o -> b ≠ X.env.locals:=λ b o e=>Nat.ne_of_lt (Nat.lt_of_lt_of_le (Heap.lt_size e) I.ok.above)
 refine h _ ⟨I.ok,I.os,I.bare,⟨λ b o e n hb hx=>(hs.2 b (above b o e)).trans (I.base.keep b o e n hb hx),λ b o e n hb hx=>?_,I.base.free,λ b o e hx=>?_,I.base.tups,I.base.frzs,I.base.tbls⟩,⟨_,hn',λ j y v' e1 e2 e3=>?_⟩,λ y c e=>?_,I.free,I.freeC,λ p hp=>?_,λ b ob e=>?_,by simpa using I.len⟩
 ·obtain ⟨sl,e1⟩:=I.base.slot b o e n hb hx
  exact ⟨sl,(hs.2 b (above b o e)).trans e1⟩
 ·obtain ⟨o',e1⟩:=I.base.there b o e hx
  exact ⟨o',(hs.2 b (above b o e)).trans e1⟩
 ·by_cases hj:j = i
  ·subst hj
   rw [List.getElem?_set_self hiσ] at e2
   cases e2
  ·rw [List.getElem?_set_ne (Ne.symm hj)] at e2
   obtain ⟨u',r',q⟩:=hl j y v' e1 e2 e3
   refine ⟨u',r',?_⟩
   rcases q with ⟨k,e⟩ | ⟨k,c,e,z⟩
   ·refine .inl ⟨k,?_⟩
    have ny:y ≠ n:=λ e=>hj (nodup_ix hN e1 (e ▸ hi))
    show (if y = n then v else m y) = some u'
    rw [if_neg ny]
    exact e
   ·exact .inr ⟨k,c,e,z.sameBut hs (cne y c e)⟩
 ·obtain ⟨w',z⟩:=I.cell y c e
  exact ⟨w',z.sameBut hs (cne y c e)⟩
 ·obtain ⟨e,n,ne,nf,d⟩:=I.pin p hp
  exact ⟨(hs.2 p.1 ne).trans e,n,ne,nf,d⟩
 ·refine (I.hok b ob e).stay (λ c w' hc q=>(hs.2 c ?_).trans q) (λ _ q=>q) λ _ _ q=>q
  rintro rfl
  rcases hc with rfl | hc
  ·rw [I.free] at e; cases e
  ·rw [I.free] at hc; cases hc
theorem Inv.rcd {s0:Shared} {σ0:St} {H0:Hp} {T:Addr} {h':Heap} (I:Inv X pins σ H s) (I0:Inv X pins σ0 H0 s0) (hT:s0.heap.objs.size <= T) (u:Un (frs X.stack) [T] H H s.heap h') (hok:HOk X.prog X.w H h'):Inv X pins σ H { s with heap:=h' }:=by
 refine I.call (g':=s.gens) (t':=s.toks) (d':=s.drawn) (ch:=[T]) u hok I.bare λ b z=>?_
 obtain rfl:b = T:=List.mem_singleton.mp z
 refine ⟨.inr (Nat.le_trans I0.sz hT),λ q=>?_,λ x c e q=>?_,λ p hp q=>?_⟩
 ·exact absurd I0.lt (by rw [<- q]; exact Nat.not_lt.mpr hT)
 ·obtain ⟨v,o,ho,_⟩:=I0.cell x c e
  rw [q] at ho
  exact absurd (Heap.lt_size ho) (Nat.not_lt.mpr hT)
 ·have:=(I0.pin p hp).1
  rw [q] at this
  exact absurd (Heap.lt_size this) (Nat.not_lt.mpr hT)
end
def tTry (K:PySem.W.Frag) (Ch:Addr) (i:Nat) (tb:(Value -> Option Addr -> St -> Hp -> Prop) -> TS) (ts:TS):TS:=λ D σ H =>
 tb (λ c o σ' H'=>∃ a C,c = .ref C /\ o = some a /\ PySem.W.exmOne K (.ref C) (.ref Ch) = some true /\
  (ExAt H' a C -> ts { nx:=λ σ2 H2=>D.nx (σ2.set i none) H2,rt:=D.rt,bk:=λ σ2 H2=>D.bk (σ2.set i none) H2,ct:=λ σ2 H2=>D.ct (σ2.set i none) H2 } (σ'.set i (some (.ref a))) H')) D σ H
theorem ps_try {X:Cx} {x n:Str} {np hpos pos:Pos} {body suite:List Stmt} {b₀:Stmt} {i:Nat} {Ch:Addr} {tb:(Value -> Option Addr -> St -> Hp -> Prop) -> TS} {ts:TS} (hc:X.calm = true) (hN:X.N.Nodup) (hi:X.N[i]? = some n) (hlo:X.env.scope.names.lookup n = some .local)
  (hg:Gl X x) (hm:X.mg x = some (.ref Ch)) (hstk:X.stack = X.env :: X.outer) (hfm:X.env.frame = some X.env.locals)
  (hb:∀ pins R W,PassS (cxT X pins W) R -> PSs (cxT X pins W) body (tb R)) (hs:∀ pins a,PSs (cxS X pins a) (b₀ :: suite) ts) (hdb:(x == ("__debug__":Str)) = false:=by decide) :
  PS X (.Try body [.ExceptHandler (some (.Name x np)) (some n) (b₀ :: suite) hpos] [] [] pos) (tTry X.K Ch i tb ts):=by
 intro pins s σ H D I h
 refine wpAny_Try_except ?_
 refine wpAny_mono (hb pins _ _ ?_ [] s σ H D I.toT h) (λ f s1 q=>?_) λ e s1 q=>q
 case refine_2 =>
  cases f with
  | next =>
   obtain ⟨σ',H',I',q⟩:=q
   exact wpAny_pure ⟨σ',H',I'.ofT,q⟩
  | brk=>obtain ⟨σ',H',I',q⟩:=q; exact ⟨σ',H',I'.ofT,q⟩
  | cont=>obtain ⟨σ',H',I',q⟩:=q; exact ⟨σ',H',I'.ofT,q⟩
  | ret u=>obtain ⟨v,σ',H',I',r,q⟩:=q; exact ⟨v,σ',H',I'.ofT,r,q⟩
 intro pins' σ1 H1 s1 e s2 I1 hx
 obtain ⟨a,C,T,dx,H2,rfl,os,bare,un,hok,ha,hdx,hF,hT0,hTs,a',C',hC',ha',hex,hts⟩:=hx
 cases hC'
 cases ha'
 have I2:=(I1.call' os un hok bare λ b z=>absurd z (by simp)).ofT
 have J1:=I1.ofT
 have hu:upd H2 a (exHO a C dx false) = H2:=by
  funext b
  by_cases hb:b = a
  ·subst hb; rw [upd_same,ha]
  ·rw [upd_ne hb]
 have fr2:X.A.frames = some (X.env :: X.outer):=by rw [<- hstk]; exact I.ok.frames
 have fn2:s2.heap.FunFrames X.base (X.env :: X.outer):=by rw [<- hstk]; exact I2.stack
 have hTf:T ∉ frs (X.env :: X.outer):=λ m=>by
  have st:s1.heap.FunFrames X.base (X.env :: X.outer):=by rw [<- hstk]; exact J1.stack
  obtain ⟨_,o,ho,_⟩:=st.mem m
  exact absurd (Heap.lt_size ho) (Nat.not_lt.mpr hTs)
 refine note_next fr2 fn2 hfm hF hTf λ h3 T' hT' hF3 k=>?_
 have u3:=k.un I2.hok ha (.inr hT0)
 have o3:=k.hok I2.hok ha (.inr hT0) (by rw [<- hstk]; exact I2.stkFree)
 rw [hu] at u3 o3
 rw [<- hstk] at u3
 have I3:Inv X pins σ1 H2 { s2 with heap:=h3 }:=I2.rcd J1 hTs u3 o3
 have lnd:∀ {h4 h5:Heap},Inv X pins σ1 H2 { s2 with heap:=h4 } -> (∀ b o,h4.get? b = some o -> b ≠ T' -> h5.get? b = some o) -> (∃ o,h5.get? T' = some o) -> Inv X pins σ1 H2 { s2 with heap:=h5 }:=λ {h4 h5} J k hT5=>by
  have nT:∀ b o,H2 b = some o -> b ≠ T':=λ b o q z=>by rw [z,I2.hok.fresh hT'] at q; cases q
  refine J.rcd I2 hT' ⟨λ b o q n nf nx=>k b o q (by simpa using nx),λ b o q n m nx=>⟨o.slots,k b o q (by simpa using nx)⟩,λ _ _ _ n _=>n,λ b o q nx=>⟨o,k b o q (by simpa using nx)⟩,λ _ _ q=>q,λ _ _ _ q=>q,λ _ ps q=>⟨#[],by rw [q]; simp⟩⟩ λ b o q=>?_
  refine (J.hok b o q).stay (λ c v hcc z=>k c v z ?_) (λ _ q=>q) λ _ _ q=>q
  rcases hcc with rfl | hcc
  ·exact nT _ _ q
  ·exact nT _ _ hcc
 have flyT:∀ {h:Heap} {fl:Value},Fly a T' fl h -> ∃ o,h.get? T' = some o:=λ {h fl} hF=>by obtain ⟨_,_,oT,_,_,_,_,_,q,_⟩:=hF; exact ⟨oT,q⟩
 refine land_ok (s:={ s2 with heap:=h3 }) hF3 λ h4 hF4 k4=>?_
 have I4:Inv X pins σ1 H2 { s2 with heap:=h4 }:=lnd I3 k4 (flyT hF4)
 have hA:ExAt H2 a C:=⟨dx,false,ha,hdx⟩
 refine wpAny_handleBy_cons (codeAny_handlers_test (ld_glob (E:=notedBy (model X.prog X.w) (X.A.mark (some (.ref a))) X.env _) (I4.toS (a:=a)) hg hm ?_ hdb)) (by intro q; cases q)
 obtain ⟨ob,vs,e0,e1,e2,e3,_⟩:=ex_get I4.hok ha
 have LT:PySem.W.Looks (model X.prog X.w) h4 (typeOf (.ref a)) (.ref C):=e1 ▸ (PySem.W.Looks.ld e0).andThen .now
 refine (PySem.W.exm_one I4.kIn LT hex).here (s:={ s2 with heap:=h4 }) ?_
 refine codeAny_handlers_suite_as ?_
 refine land_ok (s:={ s2 with heap:=h4 }) hF4 λ h5 hF5 k5=>?_
 have I5:Inv X pins σ1 H2 { s2 with heap:=h5 }:=lnd I4 k5 (flyT hF5)
 refine store_ok (X:=cxS X pins a) (I5.toS (a:=a)) hN hi (Or.inl hlo) (v:=.ref a) rfl (λ s6 I6=>?_) (.inr hlo)
 refine wpAny_mono (hs pins a [] s6 _ H2 _ I6 (hts hA)) (λ f s7 q=>?_) λ e s7 q=>q.elim
 have hd7:=I.ok.hd
 cases f with
 | next=>obtain ⟨σ7,H7,I7,q⟩:=q; exact goes_ok (I7.ofS hd7) hN hi hlo λ s8 I8=>⟨_,_,I8,q⟩
 | brk=>obtain ⟨σ7,H7,I7,q⟩:=q; exact goes_ok (I7.ofS hd7) hN hi hlo λ s8 I8=>⟨_,_,I8,q⟩
 | cont=>obtain ⟨σ7,H7,I7,q⟩:=q; exact goes_ok (I7.ofS hd7) hN hi hlo λ s8 I8=>⟨_,_,I8,q⟩
 | ret u=>obtain ⟨v,σ7,H7,I7,r,q⟩:=q; exact goes_ok (I7.ofS hd7) hN hi hlo λ s8 I8=>⟨v,_,_,I8,r,q⟩
end L2
set_option Elab.async false
set_option linter.all false
set_option maxRecDepth 100000
namespace L2
open PySem PySem.Spec PyProof.Rows
def rIsXT (K:PySem.W.Frag):List V -> Hp -> VK -> Prop:=λ xs H Q=>∃ (a C p:Addr) (cs:List V) (b:Bool),xs = [.ref a,.ref p] /\ ExAt H a C /\ XCl K C /\ SqT K H p cs /\ (∀ us,Vals cs us -> PySem.W.kitAny K (.ref C) us = some b) /\ Q (.bl b) H
theorem call_isXT {X:Cx}:CallR X (.builtin "isinstance") (rIsXT X.K):=by
 intro pins s σ H xs us Q I r h
 obtain ⟨a,C,p,cs,b,rfl,⟨dx,fr,ea,hdx⟩,cl,sq,e,q⟩:=h
 obtain ⟨u1,u2,rfl,r1,r2⟩:=vals2 r
 cases r1
 cases r2
 obtain ⟨its,rv,⟨o,ho,hc,n,hdat⟩,_⟩:=I.tuple sq
 obtain ⟨ob,vs,e0,e1,e2,e3,_⟩:=ex_get I.hok ea
 obtain ⟨cd,hcd,_,_⟩:=cl.cls
 have J:∃ ox od,PySem.W.InstAt s.heap a ox C od:=by
  cases dx with
  | none=>exact ⟨ob,none,ex_inst e0 e1 e3 (by rw [e2]; exact True.intro)⟩
  | some d =>
   obtain ⟨fs,ed⟩:=hdx d rfl
   obtain ⟨z,hz⟩:=I.hok.ex ed
   exact ⟨ob,some z,ex_inst e0 e1 e3 (by rw [e2]; exact hz)⟩
 obtain ⟨oc,od,odat,osl⟩:=o
 dsimp only at hc hdat
 subst hc hdat
 exact PySem.W.kia_tup (exc_kit hcd cl.mb cl.ga cl.gn cl.ca cl.cg cl.ct cl.mo) I.kIn J ho (e its rv) (λ z=>nomatch z) λ tk=>⟨.bl b,H,I.tok tk,rfl,q⟩
end L2
set_option Elab.async false
set_option linter.all false
set_option maxRecDepth 100000
namespace L2
open PySem PySem.Spec PyProof.Rows
section
variable {X:Cx}
def strsOf:List Expr -> Option (List Str)
 | []=>some []
 | .Constant (.str x) _ _ :: r=>match strsOf r with
  | some l=>some (x :: l)
  | none=>none
 | _ :: _=>none
def tStrs (xs:List Str):TA:=λ _ H Q=>Q (xs.map V.str) H
theorem pa_strs:∀ {es:List Expr} {xs:List Str},strsOf es = some xs -> PA X es (tStrs xs)
 | [],_,h=>by cases h; exact pa_nil
 | e :: r,xs,h=>by
  unfold strsOf at h
  split at h
  ·contradiction
  ·rename_i a x j p r' he
   cases he
   split at h
   ·rename_i l hl
    cases h
    intro pos pins s σ H Q I q
    exact pa_cons (X:=X) (pe_str (X:=X) (x:=x) (j:=j) (pos:=p)) (pa_strs hl) (by rfl) pos pins s σ H Q I q
   ·cases h
  ·cases h
end
end L2
set_option Elab.async false
set_option linter.all false
set_option maxRecDepth 100000
set_option maxHeartbeats 4000000
namespace PySem
open Sem (wp)
end PySem
namespace L2
open PySem PySem.Spec PyProof.Rows
end L2
set_option Elab.async false
set_option linter.all false
set_option maxRecDepth 100000
set_option maxHeartbeats 4000000
namespace Law
open PySem L2 Fs
def top (i:Nat):Stmt:=PySem.Challenge.pw_fillsay_k05_no_saying.main.body.getD i (.Pass ⟨0,0,0,0⟩)
abbrev s_NoSaying_init:Stmt:=inClass (top 3) 0
abbrev s_Always_text:Stmt:=inClass (top 9) 0
abbrev s_Never_text:Stmt:=inClass (top 10) 0
abbrev s_Letter_init:Stmt:=inClass (top 11) 0
abbrev s_Letter_text:Stmt:=inClass (top 11) 1
abbrev s_Not_init:Stmt:=inClass (top 12) 0
abbrev s_Not_text:Stmt:=inClass (top 12) 1
abbrev s_Pair_init:Stmt:=inClass (top 13) 0
abbrev s_And_text:Stmt:=inClass (top 14) 0
abbrev s_Or_text:Stmt:=inClass (top 15) 0
abbrev s_Either_text:Stmt:=inClass (top 16) 0
abbrev s_read:Stmt:=top 21
abbrev s_signs_behind:Stmt:=top 22
abbrev s_taken:Stmt:=top 23
abbrev s_with_nots:Stmt:=top 24
abbrev s_pair_of:Stmt:=top 25
abbrev s_single_of:Stmt:=top 26
abbrev s_law_mixed:Stmt:=top 28
abbrev s_law_leaf:Stmt:=top 29
abbrev s_law_saying:Stmt:=top 30
abbrev s_law_written:Stmt:=top 31
abbrev s_law_sign:Stmt:=top 32
abbrev s_law_place:Stmt:=top 33
abbrev s_law_changed:Stmt:=top 34
abbrev s_law:Stmt:=top 35
structure Txt (mg:Str -> Option Value):Prop where
 len:mg "len" = none
 list:mg "list" = none
 sorted:mg "sorted" = none
 set:mg "set" = none
 tuple:mg "tuple" = none
 dict:mg "dict" = none
 zip:mg "zip" = none
 reversed:mg "reversed" = none
 range:mg "range" = none
 enumerate:mg "enumerate" = none
 all:mg "all" = none
 min:mg "min" = none
 max:mg "max" = none
 isinstance:mg "isinstance" = none
 tup:mg "str" = none
 bool:mg "bool" = none
theorem bt_min:bootBuiltins "min" = some (.builtin "min"):=by decide +kernel
section
variable {P:Program} {w:World} {K:PySem.W.Frag} {mg:Str -> Option Value} {base:Heap}
def Scr (K:PySem.W.Frag) (H:Hp) (a:Addr) (ns:List Int):Prop:=SqL K H a (ns.map V.int) /\ ns.length <= 63
theorem Scr.mono {K:PySem.W.Frag} {H H':Hp} {a:Addr} {ns:List Int} (h:Scr K H a ns) (g:Same H H'):Scr K H' a ns:=⟨g.seq h.1,h.2⟩
def spMixed2 (K:PySem.W.Frag):Sp:=λ vs H Q _=>∃ (a:Addr) (ns:List Int) (k:Int),vs = [.ref a,.int k] /\ Scr K H a ns /\ 0 <= k /\ k <= 100000 /\ ∀ z H',Same H H' -> 0 <= z -> z < 1000000007 -> Q (.int z) H'
theorem sc_mixed:FnScope ["_law_script","_law_k","_law_cell","_law_step","_law_mix"] ["_law_script","_law_k"] (defScope s_law_mixed):=⟨rfl,rfl,rfl,by decide +kernel,rfl,by decide +kernel,by decide +kernel⟩
theorem item_at {ns:List Int} {k:Int} (h0:0 <= k) (h:k < (ns.length:Int)):∃ v:Int,atI (ns.map V.int) k = some (.int v):=by
 have hk:k.toNat < ns.length:=by omega
 have ek:k = ((k.toNat:Nat):Int):=by omega
 have:=atI_nat (xs:=ns.map V.int) (j:=k.toNat) (v:=.int ns[k.toNat]) (by rw [List.getElem?_map,List.getElem?_eq_getElem hk]; rfl)
 rw [<- ek] at this
 exact ⟨_,this⟩
theorem ite_joinI {c:Prop} [Decidable c] {A B:Prop} (R:Int -> Prop) (hA:c -> (∀ z,R z) -> A) (hB:¬ c -> (∀ z,R z) -> B) (hC:∀ z,R z):if c then A else B:=by
 by_cases h:c
 ·rw [if_pos h]; exact hA h hC
 ·rw [if_neg h]; exact hB h hC
theorem bt_max:bootBuiltins "max" = some (.builtin "max"):=by decide +kernel
theorem ok_mixed {k:Nat} {f:Addr} {fd:FuncData} (F:Fun K "_law_mixed" "_law_mixed" s_law_mixed f fd) (T:Txt mg):FnOk P w K mg base CX0 (k + 1) f fd ["_law_script","_law_k"] (spMixed2 K):=by
 refine F.ok sc_mixed (λ vs H Q E h=>?_) (λ cdv A outer s H vs Q E hr h=>?_)
 ·obtain ⟨a,ns,k,rfl,_⟩:=h
  rfl
 obtain ⟨a,ns,k,rfl,⟨hS,h63⟩,k0,k1,q⟩:=h
 refine ⟨_,pss_cons (ps_set (i:=2) sc_mixed.nd rfl (Or.inl rfl) pe_int)
  (pss_cons (ps_if (pt_cmpR op_gt (pe_callB call_len_seq (by rfl) T.len PySem.boot_len (pa_cons (pv 0) pa_nil)) pe_int (nomark _))
   (pss_one (ps_set (i:=2) sc_mixed.nd rfl (Or.inl rfl) (pe_ix ix_list (pv 0) (pe_op op_mod (pv 1) (pe_callB call_len_seq (by rfl) T.len PySem.boot_len (pa_cons (pv 0) pa_nil))) (λ _ _=>rfl)))) pss_nil)
  (pss_cons (ps_if (pt_cmpR op_eq (pe_op op_mod (pe_callB call_len_seq (by rfl) T.len PySem.boot_len (pa_cons (pv 0) pa_nil)) pe_int) pe_int (nomark _))
   (pss_cons (ps_for PassesOwn.never rfl (pi_range1 (by rfl) T.range (pa_cons (pe_callB (call_min2 rfl) (by rfl) T.min bt_min (pa_cons pe_int (pa_cons (pe_op op_fdiv (pv 1) (pe_callB (call_max2 rfl) (by rfl) T.max bt_max (pa_cons pe_int (pa_cons (pe_callB call_len_seq (by rfl) T.len PySem.boot_len (pa_cons (pv 0) pa_nil)) pa_nil)))) pa_nil))) pa_nil)) (pg_name (i:=3) sc_mixed.nd rfl (Or.inl rfl))
    (pss_one (ps_set (i:=2) sc_mixed.nd rfl (Or.inl rfl) (pe_op op_fdiv (pv 2) pe_int))))
   (pss_one (ps_ret (pe_op op_mod (pv 2) pe_int)))) pss_nil)
  (pss_cons (ps_set (i:=4) sc_mixed.nd rfl (Or.inl rfl) (pe_op op_mod (pe_op op_add (pe_op op_add (pe_op op_add (pe_op op_mul (pe_op op_mod (pv 2) pe_int) pe_int) (pe_op op_mul (pe_op op_mul pe_int (pv 1)) (pv 1))) (pe_op op_mul pe_int (pv 1))) pe_int) pe_int))
  (pss_one (ps_ret (pe_op op_mod (pe_op op_mul (pv 4) pe_int) pe_int)))))),?_⟩
 have hl:(ns.map V.int).length = ns.length:=List.length_map _
 have q':∀ z:Int,0 <= z -> z < 1000000007 -> Q (.int z) H:=λ z h1 h2=>q z H (Same.refl H) h1 h2
 refine ⟨_,rfl,a,_,rfl,.inl hS,_,_,rfl,rfl,_,rfl,?_⟩
 rw [hl]
 refine ite_joinI ?R (λ c1 C=>?hA) (λ c1 C=>?hB) ?hC
 case hA =>
  have c1':(0:Int) < (ns.length:Int):=of_decide_eq_true c1
  obtain ⟨v,hv⟩:=item_at (ns:=ns) (k:=k % (ns.length:Int)) (Int.emod_nonneg k (by omega)) (Int.emod_lt_of_pos k c1')
  refine ⟨_,rfl,_,rfl,_,rfl,a,_,rfl,.inl hS,?_⟩
  rw [hl]
  refine ⟨_,_,rfl,rfl,c1',a,_,_,_,rfl,rfl,hS,hv,?_⟩
  exact C v
 case hB=>exact C 0
 intro c
 refine ⟨_,rfl,a,_,rfl,.inl hS,_,_,rfl,rfl,(show (0:Int) < 2 by decide),rfl,_,rfl,?_⟩
 rw [hl]
 refine ite2 (λ c2=>?_) (λ c2=>?_)
 ·refine ⟨_,rfl,_,rfl,a,_,rfl,.inl hS,_,_,rfl,?_⟩
  rw [hl]
  have m1:(1:Int) <= (if (ns.length:Int) > 1 then (ns.length:Int) else 1):=by split <;> omega
  have m2:(if (ns.length:Int) > 1 then (ns.length:Int) else 1) <= 63:=by split <;> omega
  generalize (if (ns.length:Int) > 1 then (ns.length:Int) else 1) = m at m1 m2
  refine ⟨_,_,rfl,rfl,⟨by omega,by omega⟩,_,_,rfl,?_⟩
  have d0:0 <= k / m:=Int.ediv_nonneg k0 (by omega)
  refine ⟨_,rfl,?_,?_,?_⟩
  ·show -(2 ^ 62) <= (if k / m < (60:Int) then k / m else (60:Int))
   split <;> omega
  ·show (if k / m < (60:Int) then k / m else (60:Int)) < 2 ^ 62
   split <;> omega
  refine for_range (λ i σ H1=>∃ (c:Int) (v:Option V),σ = [some (.ref a),some (.int k),some (.int c),v,none] /\ H1 = H) ⟨_,none,rfl,rfl⟩ ?_ ?_
  ·rintro i σ H1 hi ⟨c,v,rfl,rfl⟩
   refine ⟨_,rfl,_,_,rfl,rfl,⟨by decide,by decide⟩,?_⟩
   exact ⟨_,_,rfl,rfl⟩
  ·rintro σ H1 ⟨c,v,rfl,rfl⟩
   refine ⟨_,rfl,_,_,rfl,rfl,(show (0:Int) < 1000000007 by decide),?_⟩
   exact q' _ (Int.emod_nonneg _ (by decide)) (Int.emod_lt_of_pos _ (by decide))
 ·have kb:-(2 ^ 64) < k /\ k < 2 ^ 64:=⟨by omega,by omega⟩
  refine ⟨_,rfl,_,_,rfl,rfl,(show (0:Int) < 1000003 by decide),_,_,rfl,rfl,.inr ⟨by decide,by decide⟩,_,rfl,_,_,rfl,rfl,.inr kb,_,rfl,_,_,rfl,rfl,.inr kb,_,_,rfl,rfl,_,rfl,_,_,rfl,rfl,.inr kb,_,_,rfl,rfl,_,_,rfl,rfl,_,_,rfl,rfl,(show (0:Int) < 2147483647 by decide),?_⟩
  refine ⟨_,rfl,_,_,rfl,rfl,.inr ⟨by decide,by decide⟩,_,_,rfl,rfl,(show (0:Int) < 1000000007 by decide),?_⟩
  exact q' _ (Int.emod_nonneg _ (by decide)) (Int.emod_lt_of_pos _ (by decide))
def nine:List Nat:=[97,98,99,112,113,114,120,121,122]
theorem nine_txt:("abcpqrxyz":Str) = ofCs nine:=by decide +kernel
theorem sgn_vS {ls:List Nat} {i:Nat} (h:i < ls.length):sgn (ofCs ls) i = vS [ls[i]]:=by
 unfold sgn
 show V.str ⟨#[ls.toArray.getD i 0]⟩ = V.str ⟨#[ls[i]]⟩
 rw [Array.getD_eq_getD_getElem?]
 simp [h]
end
end Law
set_option Elab.async false
set_option linter.all false
set_option maxRecDepth 100000
set_option maxHeartbeats 4000000
namespace Law
open PySem L2 Fs
section
variable {P:Program} {w:World} {K:PySem.W.Frag} {mg:Str -> Option Value} {base:Heap}
def Dv (Γ:St -> Hp -> Prop) (te:TE) (v:V):Prop:=∀ σ H Q,Γ σ H -> (∀ H',Same H H' -> Q v H') -> te σ H Q
def Dt (Γ:St -> Hp -> Prop) (tt:TT) (b:Bool):Prop:=∀ σ H Q,Γ σ H -> (∀ H',Same H H' -> Q b H') -> tt σ H Q
def Stb (Γ:St -> Hp -> Prop):Prop:=∀ σ H H',Γ σ H -> Same H H' -> Γ σ H'
section
variable {Γ:St -> Hp -> Prop} {t1 t2 t3:TE} {F G:List Pr} {ls:List Nat} {g:List Pr -> List Pr -> List Pr} {g1:List Pr -> List Pr}
theorem dtest {b:Bool} (h:Dv Γ t1 (.bl b)):Dt Γ (tTest t1) b:=λ σ H Q hΓ q=>h σ H _ hΓ λ H1 g1=>⟨b,rfl,q H1 g1⟩
end
def At (σ0:St) (H0:Hp):St -> Hp -> Prop:=λ σ H=>σ = σ0 /\ Same H0 H
theorem st_at {σ0:St} {H0:Hp}:Stb (At σ0 H0):=λ _ _ _ h g=>⟨h.1,h.2.trans g⟩
theorem at0 {σ0:St} {H0:Hp}:At σ0 H0 σ0 H0:=⟨rfl,Same.refl _⟩
section
variable {Γ:St -> Hp -> Prop} {t1 t2 t3:TE}
theorem dixT {K:PySem.W.Frag} {σ0:St} {H0:Hp} {i:Nat} {p:Addr} {xs:List V} {n:Int} {v:V} (e:σ0[i]? = some (some (.ref p))) (h:SqT K H0 p xs) (ha:atI xs n = some v):Dv (At σ0 H0) (tOp (rIxT K) (tVar i) (tC (.int n))) v:=λ σ H Q g q =>
 ⟨_,by rw [g.1]; exact e,p,xs,n,v,rfl,rfl,g.2.seqT h,ha,q H (Same.refl H)⟩
end
inductive Tr where
 | letter (c:Nat)
 | one
 | zero
 | neg (t:Tr)
 | bin (op:Nat) (t u:Tr)
def wLetter:List Nat:=[108,101,116,116,101,114]
theorem letter_txt:("letter":Str) = ofCs wLetter:=by decide +kernel
def TrAt (H:Hp):Tr -> V -> Prop
 | .letter c,v=>∃ a,v = .ref a /\ H a = some (.tup [vS wLetter,vS [c]])
 | .one,v=>∃ a,v = .ref a /\ H a = some (.tup [vS [49]])
 | .zero,v=>∃ a,v = .ref a /\ H a = some (.tup [vS [48]])
 | .neg t,v=>∃ a x,v = .ref a /\ H a = some (.tup [vS [126],x]) /\ TrAt H t x
 | .bin op t u,v=>∃ a x y,v = .ref a /\ H a = some (.tup [vS [op],x,y]) /\ TrAt H t x /\ TrAt H u y
def SameT (H H':Hp):Prop:=∀ b xs,H b = some (.tup xs) -> H' b = some (.tup xs)
theorem sameT {H H':Hp} (g:Same H H'):SameT H H':=λ _ _ e=>g _ _ e
theorem SameT.updL {H:Hp} {l:Addr} {xs:List V} {o:HO} (h:H l = some (.lst xs)):SameT H (upd H l o):=λ b ys e=>by
 have:b ≠ l:=λ q=>by rw [q,h] at e; cases e
 rw [upd_ne this]; exact e
theorem SameT.trans {H H1 H2:Hp} (a:SameT H H1) (b:SameT H1 H2):SameT H H2:=λ c xs e=>b _ _ (a _ _ e)
theorem TrAt.mono {H H':Hp} (g:SameT H H'):∀ {t:Tr} {v:V},TrAt H t v -> TrAt H' t v
 | .letter c,_,⟨a,e,h⟩=>⟨a,e,g _ _ h⟩
 | .one,_,⟨a,e,h⟩=>⟨a,e,g _ _ h⟩
 | .zero,_,⟨a,e,h⟩=>⟨a,e,g _ _ h⟩
 | .neg t,_,⟨a,x,e,h,r⟩=>⟨a,x,e,g _ _ h,TrAt.mono g r⟩
 | .bin op t u,_,⟨a,x,y,e,h,r,r'⟩=>⟨a,x,y,e,g _ _ h,TrAt.mono g r,TrAt.mono g r'⟩
def Tr.ht:Tr -> Nat
 | .neg t=>t.ht + 1
 | .bin _ t u=>max t.ht u.ht + 1
 | _=>1
def Tr.Of (ls:List Nat):Tr -> Prop
 | .letter c=>c ∈ ls
 | .neg t=>t.Of ls
 | .bin op t u=>(op = 38 ∨ op = 124 ∨ op = 43) /\ t.Of ls /\ u.Of ls
 | _=>True
def spLeaf:Sp:=λ vs H Q _=>∃ (m:Int) (ls:List Nat),vs = [.int m,vS ls] /\ 0 <= m /\ ls.length <= 9 /\ ∀ t v H',Same H H' -> TrAt H' t v -> t.Of ls -> t.ht = 1 -> Q v H'
theorem sc_leaf:FnScope ["_law_mix","_law_letters","_law_some"] ["_law_mix","_law_letters"] (defScope s_law_leaf):=⟨rfl,rfl,rfl,by decide +kernel,rfl,by decide +kernel,by decide +kernel⟩
theorem nd_leaf:(["_law_one"]:List Str).Nodup:=by decide +kernel
theorem ok_leaf {k:Nat} {f:Addr} {fd:FuncData} (F:Fun K "_law_leaf" "_law_leaf" s_law_leaf f fd) (T:Txt mg):FnOk P w K mg base CX0 (k + 1) f fd ["_law_mix","_law_letters"] spLeaf:=by
 refine F.ok sc_leaf (λ vs H Q E h=>?_) (λ cdv A outer s H vs Q E hr h=>?_)
 ·obtain ⟨m,ls,rfl,_⟩:=h
  rfl
 obtain ⟨m,ls,rfl,m0,l9,q⟩:=h
 refine ⟨_,pss_cons (ps_set (i:=2) sc_leaf.nd rfl (Or.inl rfl) (pe_op op_cat (pe_op op_rep (pe_comp (comp_scope (NY:=["_law_one"]) (o:=1) (caps:=[]) [] rfl (by decide +kernel) (by decide +kernel) (by decide +kernel) (by decide +kernel) (by simp) cap0 rfl) rfl
    (pi_str (pv 1)) (λ C s H fp pins=>pg_name (i:=0) nd_leaf rfl (Or.inl rfl)) (λ C s H fp pins=>pts_nil) (λ C s H fp pins=>pe_tup (pa_cons pe_str (pa_cons (pv 0) pa_nil)))) pe_int)
    (pe_lst (pa_cons (pe_tup (pa_cons pe_str pa_nil)) (pa_cons (pe_tup (pa_cons pe_str pa_nil)) pa_nil)))))
  (pss_one (ps_ret (pe_ix ix_list (pv 2) (pe_op op_mod (pv 0) (pe_callB call_len_seq (by rfl) T.len PySem.boot_len (pa_cons (pv 2) pa_nil))) (λ _ _=>rfl)))),?_⟩
 have hs:(ofCs ls).cps.size = ls.length:=ofCs_len ls
 have z1:("1":Str) = ofCs [49]:=by decide +kernel
 have z0:("0":Str) = ofCs [48]:=by decide +kernel
 rw [letter_txt,z1,z0]
 refine ⟨_,rfl,_,rfl,?_⟩
 refine comp_rel (ofCs ls).cps.size (λ i ys H2=>ys.length = i /\ ∀ v ∈ ys,∃ c ∈ ls,TrAt H2 (.letter c) v) (λ D hD=>⟨rfl,by simp⟩) (λ i ys H2 hi ⟨e,_⟩=>by rw [hs] at hi; rw [e]; exact small (by omega)) ?_ (λ H2 sm=>rfl) ?_
 ·rintro i ys H2 D Y Z hi hD hH2 sm ⟨le,al⟩ hY hZ
  refine ⟨hi,?_⟩
  rintro x H' ⟨rfl,rfl⟩
  rw [hs] at hi
  rw [sgn_vS hi]
  refine ⟨⟨rfl,rfl⟩,?_⟩
  refine ⟨_,rfl,smallE (by show 2 <= _; decide),λ p hp=>?_⟩
  have hD':upd H' p (.tup [vS wLetter,vS [ls[i]]]) D = some (.lst ys):=(Same.up hp) _ _ hH2
  refine hY _ _ hD' (sm.to hp) ⟨by rw [List.length_append,le]; rfl,λ v hv=>?_⟩
  rcases List.mem_append.mp hv with hv | hv
  ·obtain ⟨c,hc,hr'⟩:=al v hv
   exact ⟨c,hc,hr'.mono ((sameT (Same.up hp)).trans (SameT.updL hD'))⟩
  ·rw [List.mem_singleton.mp hv]
   exact ⟨ls[i],List.getElem_mem hi,p,rfl,(SameT.updL hD') _ _ upd_same⟩
 rintro D H2 ys hD sm hH2 ⟨le,al⟩
 rw [hs] at le
 refine ⟨D,2,ys,rfl,rfl,hH2,by decide,by decide,by show ys.length * 2 <= _; exact smallE (by omega),λ p1 hp1=>?_⟩
 have e2:(List.replicate (2:Int).toNat ys).flatten = ys ++ ys:=by show (List.replicate 2 ys).flatten = _; simp [List.replicate]
 rw [e2]
 refine ⟨smallE (by show 1 <= _; decide),λ a1 ha1=>⟨smallE (by show 1 <= _; decide),λ a0 ha0=>⟨smallE (by show 2 <= _; decide),λ p2 hp2=>?_⟩⟩⟩
 have g1:=((Same.up hp1 (o:=.lst (ys ++ ys))).to ha1 (o:=.tup [vS [49]])).to ha0 (o:=.tup [vS [48]])
 have g2:=g1.to hp2 (o:=.lst [.ref a1,.ref a0])
 have e1:=(((Same.up ha1 (o:=.tup [vS [49]])).to ha0 (o:=.tup [vS [48]])).to hp2 (o:=.lst [.ref a1,.ref a0])) p1 _ upd_same
 refine ⟨p1,p2,_,_,rfl,rfl,e1,upd_same,by rw [List.length_append]; exact smallE (by show ys.length + ys.length + 2 <= _; omega),λ p3 hp3=>?_⟩
 have g3:=g2.to hp3 (o:=.lst (ys ++ ys ++ [.ref a1,.ref a0]))
 have good:∀ v ∈ ys ++ ys ++ [V.ref a1,V.ref a0],∃ t:Tr,TrAt (upd (upd (upd (upd (upd H2 p1 (.lst (ys ++ ys))) a1 (.tup [vS [49]])) a0 (.tup [vS [48]])) p2 (.lst [.ref a1,.ref a0])) p3 (.lst (ys ++ ys ++ [.ref a1,.ref a0]))) t v /\ t.Of ls /\ t.ht = 1:=λ v hv=>by
  rcases List.mem_append.mp hv with hv | hv
  ·have hv:v ∈ ys:=by rcases List.mem_append.mp hv with h | h <;> exact h
   obtain ⟨c,hc,h⟩:=al v hv
   exact ⟨.letter c,h.mono (sameT g3),hc,rfl⟩
  ·have hv:v = .ref a1 ∨ v = .ref a0:=by simpa using hv
   rcases hv with e | e
   ·exact ⟨.one,⟨a1,e,((Same.up ha0 (o:=.tup [vS [48]])).to hp2 (o:=.lst [.ref a1,.ref a0])).to hp3 (o:=.lst (ys ++ ys ++ [.ref a1,.ref a0])) _ _ upd_same⟩,trivial,rfl⟩
   ·exact ⟨.zero,⟨a0,e,((Same.up hp2 (o:=.lst [.ref a1,.ref a0])).to hp3 (o:=.lst (ys ++ ys ++ [.ref a1,.ref a0]))) _ _ upd_same⟩,trivial,rfl⟩
 have hS:SqL K (upd (upd (upd (upd (upd H2 p1 (.lst (ys ++ ys))) a1 (.tup [vS [49]])) a0 (.tup [vS [48]])) p2 (.lst [.ref a1,.ref a0])) p3 (.lst (ys ++ ys ++ [.ref a1,.ref a0]))) p3 (ys ++ ys ++ [.ref a1,.ref a0]):=SqL.of upd_same
 have gF:=sm.trans g3
 generalize upd (upd (upd (upd (upd H2 p1 (.lst (ys ++ ys))) a1 (.tup [vS [49]])) a0 (.tup [vS [48]])) p2 (.lst [.ref a1,.ref a0])) p3 (.lst (ys ++ ys ++ [.ref a1,.ref a0])) = H3 at good hS gF
 have len:0 < ((ys ++ ys ++ [V.ref a1,V.ref a0]).length:Int):=by rw [List.length_append]; show 0 < (((ys ++ ys).length + 2:Nat):Int); omega
 generalize ys ++ ys ++ [V.ref a1,V.ref a0] = zs at good hS len
 have i0:=Int.emod_nonneg m (b:=(zs.length:Int)) (by omega)
 have i1:=Int.emod_lt_of_pos m len
 have hk:(m % (zs.length:Int)).toNat < zs.length:=by omega
 have hat:atI zs (m % (zs.length:Int)) = some zs[(m % (zs.length:Int)).toNat]:=by
  have:=atI_nat (xs:=zs) (j:=(m % (zs.length:Int)).toNat) (List.getElem?_eq_getElem hk)
  rw [show (((m % (zs.length:Int)).toNat:Nat):Int) = m % (zs.length:Int) by omega] at this
  exact this
 obtain ⟨t,h1,h2,h3⟩:=good _ (List.getElem_mem hk)
 refine ⟨_,rfl,_,rfl,_,rfl,p3,_,rfl,.inl hS,_,_,rfl,rfl,len,p3,_,_,_,rfl,rfl,hS,hat,?_⟩
 exact q t _ H3 gF h1 h2 h3
section
variable {Γ:St -> Hp -> Prop} {t1 t2:TE} {u1 u2:TT}
theorem dorT (st:Stb Γ) {a b:Bool} (h1:Dt Γ u1 a) (h2:Dt Γ u2 b):Dt Γ (tOr u1 u2) (a || b):=λ σ H Q hΓ q=>h1 σ H _ hΓ λ H1 g1=>by
 cases a with
 | true=>exact iteT (q H1 g1)
 | false=>exact iteF (h2 σ H1 _ (st _ _ _ hΓ g1) λ H2 g2=>q H2 (g1.trans g2))
theorem dandT (st:Stb Γ) {a b:Bool} (h1:Dt Γ u1 a) (h2:Dt Γ u2 b):Dt Γ (tAnd u1 u2) (a && b):=λ σ H Q hΓ q=>h1 σ H _ hΓ λ H1 g1=>by
 cases a with
 | true=>exact iteT (h2 σ H1 _ (st _ _ _ hΓ g1) λ H2 g2=>q H2 (g1.trans g2))
 | false=>exact iteF (q H1 g1)
theorem dI0 (st:Stb Γ) {g:Int -> Int -> V} {i j:Int} (h1:Dv Γ t1 (.int i)) (h2:Dv Γ t2 (.int j)):Dv Γ (tOp (rI0 g) t1 t2) (g i j):=λ σ H Q hΓ q =>
 h1 σ H _ hΓ λ H1 g1=>h2 σ H1 _ (st _ _ _ hΓ g1) λ H2 g2=>⟨i,j,rfl,rfl,q H2 (g1.trans g2)⟩
theorem dIE (st:Stb Γ) {i j:Int} (h1:Dv Γ t1 (.int i)) (h2:Dv Γ t2 (.int j)):Dv Γ (tOp rEq t1 t2) (.bl (decide (i = j))):=λ σ H Q hΓ q =>
 h1 σ H _ hΓ λ H1 g1=>h2 σ H1 _ (st _ _ _ hΓ g1) λ H2 g2=>⟨rfl,by rw [show decide (V.int i = V.int j) = decide (i = j) by simp]; exact q H2 (g1.trans g2)⟩
theorem dmodC (st:Stb Γ) {i j:Int} (h1:Dv Γ t1 (.int i)) (hj:0 < j):Dv Γ (tOp (rI (λ _ j=>0 < j) λ i j=>.int (i % j)) t1 (tC (.int j))) (.int (i % j)):=λ σ H Q hΓ q =>
 h1 σ H _ hΓ λ H1 g1=>⟨i,j,rfl,rfl,hj,q H1 g1⟩
theorem dltT (st:Stb Γ) {i j:Int} (h1:Dv Γ t1 (.int i)) (h2:Dv Γ t2 (.int j)):Dt Γ (tTest (tOp (rI0 λ i j=>.bl (decide (i < j))) t1 t2)) (decide (i < j)):=dtest (dI0 st h1 h2)
theorem dC {v:V}:Dv Γ (tC v) v:=λ σ H Q hΓ q=>q H (Same.refl H)
theorem dvA {σ0:St} {H0:Hp} {i:Nat} {v:V} (e:σ0[i]? = some (some v)):Dv (At σ0 H0) (tVar i) v:=λ σ H Q g q=>⟨v,by rw [g.1]; exact e,q H (Same.refl H)⟩
theorem dlen {σ0:St} {H0:Hp} {i:Nat} {p:Addr} {xs:List V} (e:σ0[i]? = some (some (.ref p))) (h:SqL K H0 p xs):Dv (At σ0 H0) (tCB (λ xs H Q=>∃ p ys,xs = [.ref p] /\ (SqL K H p ys ∨ SqT K H p ys) /\ Q (.int ys.length) H) (tCons (tVar i) tNil)) (.int xs.length):=λ σ H Q g q =>
 ⟨.ref p,by rw [g.1]; exact e,p,xs,rfl,.inl (g.2.seq h),q H (Same.refl H)⟩
theorem difT {tc:TT} {A B:TS} {D:Ends} {σ:St} {H:Hp} {b:Bool} (h:Dt Γ tc b) (hΓ:Γ σ H) (kA:b = true -> ∀ H',Same H H' -> A D σ H') (kB:b = false -> ∀ H',Same H H' -> B D σ H'):tIfS tc A B D σ H:=h σ H _ hΓ λ H' g=>by
 cases b with
 | true=>exact iteT (kA rfl H' g)
 | false=>exact iteF (kB rfl H' g)
end
def Tr.wt:Tr -> Nat
 | .neg t=>t.wt + 1
 | .bin _ t u=>t.wt + u.wt
 | _=>1
theorem Tr.wt_pos:∀ t:Tr,1 <= t.wt
 | .letter _=>Nat.le_refl _
 | .one=>Nat.le_refl _
 | .zero=>Nat.le_refl _
 | .neg t=>by show 1 <= t.wt + 1; omega
 | .bin _ t u=>by have:=Tr.wt_pos t; show 1 <= t.wt + u.wt; omega
theorem Tr.ht_wt:∀ t:Tr,t.ht <= t.wt
 | .letter _=>Nat.le_refl _
 | .one=>Nat.le_refl _
 | .zero=>Nat.le_refl _
 | .neg t=>Nat.succ_le_succ (Tr.ht_wt t)
 | .bin _ t u=>by
  have a:=Tr.ht_wt t
  have b:=Tr.ht_wt u
  have c:=Tr.wt_pos t
  have d:=Tr.wt_pos u
  show max t.ht u.ht + 1 <= t.wt + u.wt
  omega
theorem Tr.ht1 (t:Tr):1 <= t.ht:=by cases t <;> simp [Tr.ht]
theorem Tr.wt_leaf:∀ {t:Tr},t.ht = 1 -> t.wt = 1
 | .letter _,_=>rfl
 | .one,_=>rfl
 | .zero,_=>rfl
 | .neg t,h=>by have:t.ht + 1 = 1:=h; have:=t.ht1; omega
 | .bin _ t u,h=>by have:max t.ht u.ht + 1 = 1:=h; have:=t.ht1; omega
inductive StkI (ls:List Nat) (H:Hp):List V -> Nat -> Prop where
 | nil:StkI ls H [] 0
 | snoc {ws:List V} {n:Nat} {x:V} {t:Tr} (h:StkI ls H ws n) (tr:TrAt H t x) (of:t.Of ls):StkI ls H (ws ++ [x]) (n + t.wt)
theorem StkI.mono {ls:List Nat} {H H':Hp} {vs:List V} {n:Nat} (h:StkI ls H vs n) (g:SameT H H'):StkI ls H' vs n:=by
 induction h with
 | nil=>exact .nil
 | snoc h tr of ih=>exact ih.snoc (tr.mono g) of
theorem StkI.len {ls:List Nat} {H:Hp} {vs:List V} {n:Nat} (h:StkI ls H vs n):vs.length <= n:=by
 induction h with
 | nil=>exact Nat.le_refl _
 | @snoc ws n x t h tr of ih=>rw [List.length_append,List.length_singleton]; have:=t.wt_pos; omega
def Stk (ls:List Nat) (B:Nat) (H:Hp) (vs:List V):Prop:=∃ n,n <= B /\ StkI ls H vs n
theorem Stk.mono {ls:List Nat} {B:Nat} {H H':Hp} {vs:List V} (h:Stk ls B H vs) (g:SameT H H'):Stk ls B H' vs:=let ⟨n,a,b⟩:=h; ⟨n,a,b.mono g⟩
theorem Stk.up {ls:List Nat} {B B':Nat} {H:Hp} {vs:List V} (h:Stk ls B H vs) (hB:B <= B'):Stk ls B' H vs:=let ⟨n,a,b⟩:=h; ⟨n,Nat.le_trans a hB,b⟩
theorem StkI.top {ls:List Nat} {n:Nat} {H:Hp} {vs:List V} (h:StkI ls H vs n) (hl:0 < vs.length):∃ ws x t k,vs = ws ++ [x] /\ TrAt H t x /\ t.Of ls /\ StkI ls H ws k /\ n = k + t.wt:=by
 cases h with
 | nil=>cases hl
 | snoc h tr of=>exact ⟨_,_,_,_,rfl,tr,of,h,rfl⟩
theorem Stk.top {ls:List Nat} {B:Nat} {H:Hp} {vs:List V} (h:Stk ls B H vs) (hl:0 < vs.length):∃ ws x t,vs = ws ++ [x] /\ TrAt H t x /\ t.Of ls /\ t.wt + ws.length <= B /\ Stk ls (B - t.wt) H ws:=by
 obtain ⟨n,hn,h⟩:=h
 obtain ⟨ws,x,t,k,e,tr,of,h,ek⟩:=h.top hl
 have:=h.len
 exact ⟨ws,x,t,e,tr,of,by omega,k,by omega,h⟩
theorem Stk.put {ls:List Nat} {B:Nat} {H:Hp} {ws:List V} {x:V} {t:Tr} (h:Stk ls (B - t.wt) H ws) (tr:TrAt H t x) (of:t.Of ls) (hB:t.wt <= B):Stk ls B H (ws ++ [x]) :=
 let ⟨n,hn,h⟩:=h; ⟨n + t.wt,by omega,h.snoc tr of⟩
theorem snoc_last {α:Type} (l:List α) (x:α):(l ++ [x])[(l ++ [x]).length - 1]? = some x:=by simp
def spSay (K:PySem.W.Frag):Sp:=λ vs H Q _=>∃ (a:Addr) (ns:List Int) (at' m:Int) (ls:List Nat),vs = [.ref a,.int at',.int m,vS ls] /\ Scr K H a ns /\ 0 <= at' /\ at' <= 1000 /\ 0 <= m /\ m <= 100 /\ ls.length <= 9 /\
 ∀ t v H',Same H H' -> TrAt H' t v -> t.Of ls -> (t.wt:Int) <= 1 + m -> Q v H'
theorem sc_say:FnScope ["_law_script","_law_at","_law_many","_law_letters","_law_stack","_law_k","_law_mix","_law_other"] ["_law_script","_law_at","_law_many","_law_letters"] (defScope s_law_saying):=⟨rfl,rfl,rfl,by decide +kernel,rfl,by decide +kernel,by decide +kernel⟩
theorem ops1:("&|+":Str) = ofCs [38,124,43]:=by decide +kernel
theorem ops2:("|+&":Str) = ofCs [124,43,38]:=by decide +kernel
theorem wave:("~":Str) = ofCs [126]:=by decide +kernel
theorem op_at {l:List Nat} {i:Int} (h0:0 <= i) (h:i < (l.length:Int)):∃ c ∈ l,atI l i = some c:=by
 have hk:i.toNat < l.length:=by omega
 have:=atI_nat (xs:=l) (j:=i.toNat) (List.getElem?_eq_getElem hk)
 rw [show ((i.toNat:Nat):Int) = i by omega] at this
 exact ⟨_,List.getElem_mem hk,this⟩
theorem ok_say {fm fl f:Addr} {fdm fdl fd:FuncData} (F:Fun K "_law_saying" "_law_saying" s_law_saying f fd) (T:Txt mg)
  (Gm:FnOk P w K mg base CX0 1 fm fdm ["_law_script","_law_k"] (spMixed2 K)) (bm:Binds K fdm ["_law_script","_law_k"] []) (km:PySem.W.keepIn K (.ref fm) = true) (mm:mg "_law_mixed" = some (.ref fm))
  (Gl:FnOk P w K mg base CX0 1 fl fdl ["_law_mix","_law_letters"] spLeaf) (bl:Binds K fdl ["_law_mix","_law_letters"] []) (kl:PySem.W.keepIn K (.ref fl) = true) (ml:mg "_law_leaf" = some (.ref fl)):FnOk P w K mg base CX0 2 f fd ["_law_script","_law_at","_law_many","_law_letters"] (spSay K):=by
 refine F.ok sc_say (λ vs H Q E h=>?_) (λ cdv A outer s H vs Q E hr h=>?_)
 ·obtain ⟨a,ns,at',m,ls,rfl,_⟩:=h
  rfl
 obtain ⟨a,ns,at',m,ls,rfl,hS,a0,a1,m0,m1,l9,q⟩:=h
 refine ⟨_,(pss_cons (ps_set (i:=4) sc_say.nd rfl (Or.inl rfl) (pe_lst (pa_cons (pe_call Gl hr (by rfl) ml kl bl .nil pass0 (pa_cons (pe_op op_fdiv (pe_call Gm hr (by rfl) mm km bm .nil pass0 (pa_cons (pv 0) (pa_cons (pv 1) pa_nil))) pe_int) (pa_cons (pv 3) pa_nil))) pa_nil)))
  (pss_cons (ps_for PassesOwn.never rfl (pi_range1 (by rfl) T.range (pa_cons (pv 2) pa_nil)) (pg_name (i:=5) sc_say.nd rfl (Or.inl rfl))
  (pss_cons (ps_set (i:=6) sc_say.nd rfl (Or.inl rfl) (pe_call Gm hr (by rfl) mm km bm .nil pass0 (pa_cons (pv 0) (pa_cons (pe_op op_add (pe_op op_add (pv 1) pe_int) (pv 5)) pa_nil))))
  (pss_one (ps_if (PW.pt (pw_or (pt_cmpR op_lt (pe_op op_mod (pv 6) pe_int) pe_int (nomark _)) (pw_or1 (PW.pt (pw_and (pt_cmpR op_lt (pe_op op_mod (pv 6) pe_int) pe_int (nomark _)) (pw_and1 (pt_cmpR op_lt (pe_callB call_len_seq (by rfl) T.len PySem.boot_len (pa_cons (pv 4) pa_nil)) pe_int (nomark _)))))))) (pss_one (ps_expr (pe_bm PySem.F.plainAttrs_list PySem.F.slot_list_append PySem.F.type_list_append mt_append (pv 4) (pa_cons (pe_call Gl hr (by rfl) ml kl bl .nil pass0 (pa_cons (pe_op op_fdiv (pv 6) pe_int) (pa_cons (pv 3) pa_nil))) pa_nil)))) (pss_one (ps_if (pt_cmpR op_eq (pe_op op_mod (pv 6) pe_int) pe_int (nomark _)) (pss_one (ps_expr (pe_bm PySem.F.plainAttrs_list PySem.F.slot_list_append PySem.F.type_list_append mt_append (pv 4) (pa_cons (pe_tup (pa_cons pe_str (pa_cons (pe_bm0 PySem.F.plainAttrs_list PySem.F.slot_list_pop PySem.F.type_list_pop mt_pop (pv 4)) pa_nil))) pa_nil)))) (pss_cons (ps_set (i:=7) sc_say.nd rfl (Or.inl rfl) (pe_bm0 PySem.F.plainAttrs_list PySem.F.slot_list_pop PySem.F.type_list_pop mt_pop (pv 4)))
  (pss_one (ps_expr (pe_bm PySem.F.plainAttrs_list PySem.F.slot_list_append PySem.F.type_list_append mt_append (pv 4) (pa_cons (pe_tup (pa_cons (pe_ix ix_str pe_str (pe_op op_mod (pe_op op_fdiv (pv 6) pe_int) pe_int) (λ _ _=>rfl)) (pa_cons (pe_bm0 PySem.F.plainAttrs_list PySem.F.slot_list_pop PySem.F.type_list_pop mt_pop (pv 4)) (pa_cons (pv 7) pa_nil)))) pa_nil)))))))))))
  (pss_cons (ps_while PassesOwn.never (pt_cmpR op_gt (pe_callB call_len_seq (by rfl) T.len PySem.boot_len (pa_cons (pv 4) pa_nil)) pe_int (nomark _)) (pss_cons (ps_set (i:=7) sc_say.nd rfl (Or.inl rfl) (pe_bm0 PySem.F.plainAttrs_list PySem.F.slot_list_pop PySem.F.type_list_pop mt_pop (pv 4)))
  (pss_one (ps_expr (pe_bm PySem.F.plainAttrs_list PySem.F.slot_list_append PySem.F.type_list_append mt_append (pv 4) (pa_cons (pe_tup (pa_cons (pe_ix ix_str pe_str (pe_op op_mod (pe_callB call_len_seq (by rfl) T.len PySem.boot_len (pa_cons (pv 4) pa_nil)) pe_int) (λ _ _=>rfl)) (pa_cons (pe_bm0 PySem.F.plainAttrs_list PySem.F.slot_list_pop PySem.F.type_list_pop mt_pop (pv 4)) (pa_cons (pv 7) pa_nil)))) pa_nil))))))
  (pss_one (ps_ret (pe_ix ix_list (pv 4) pe_int (λ _ _=>rfl))))))),?_⟩
 rw [ops1,ops2,wave]
 have two:(0:Int) < 7:=by decide
 refine ⟨_,rfl,_,rfl,a,ns,at',rfl,hS,a0,by omega,λ z H1 g1 z0 z1=>?_⟩
 refine ⟨_,_,rfl,rfl,⟨by decide,by decide⟩,_,rfl,z / 3,ls,rfl,Int.ediv_nonneg z0 (by decide),l9,λ t v H2 g2 tr tof tht=>⟨smallE (by show 1 <= _; decide),λ tb htb=>?_⟩⟩
 have fT:H tb = none:=by
  cases e:H tb with
  | none=>rfl
  | some o=>rw [(g1.trans g2) _ _ e] at htb; cases htb
 have top:∀ {B:Nat} {H':Hp} {vs:List V},Stk ls B H' vs -> 0 < vs.length -> ∃ ws x t,vs = ws ++ [x] /\ TrAt H' t x /\ t.Of ls /\ t.wt + ws.length <= B /\ Stk ls (B - t.wt) H' ws:=λ hst hl=>hst.top hl
 have w1:=Tr.wt_leaf tht
 refine ⟨_,rfl,m,rfl,by omega,by omega,?_⟩
 refine for_range (λ i σ H'=>∃ (vs:List V) (v5 v6 v7:Option V),σ = [some (.ref a),some (.int at'),some (.int m),some (vS ls),some (.ref tb),v5,v6,v7] /\ Same H H' /\ H' tb = some (.lst vs) /\ 0 < vs.length /\ Stk ls (1 + i) H' vs)
  ⟨[v],none,none,none,rfl,((g1.trans g2).to htb),upd_same,Nat.one_pos,⟨0 + t.wt,by omega,(show StkI ls _ ([] ++ [v]) (0 + t.wt) from StkI.nil.snoc (tr.mono (sameT (Same.up htb))) tof)⟩⟩ ?_ ?_
 ·rintro i σ H3 hi ⟨vs,v5,v6,v7,rfl,g3,e3,lv,sk⟩
  have hi':(i:Int) < m:=by omega
  have len100:vs.length <= 200:=by
   obtain ⟨ws,x,t,rfl,_,_,h,_⟩:=top sk lv
   rw [List.length_append,List.length_singleton]
   have:=t.wt_pos
   omega
  refine ⟨_,rfl,_,rfl,_,_,rfl,rfl,_,rfl,_,_,rfl,rfl,a,ns,_,rfl,hS.mono g3,?_,?_,λ z H4 g4 z0 z1=>?_⟩
  ·show (0:Int) <= at' + 1 + (0 + (i:Int)); omega
  ·show at' + 1 + (0 + (i:Int)) <= 100000; omega
  have e4:=g4 _ _ e3
  have g34:=g3.trans g4
  have sk4:=sk.mono (sameT g4)
  dsimp only [gName]
  refine difT (dorT st_at (dltT st_at (dmodC st_at (dvA rfl) two) dC) (dandT st_at (dltT st_at (dmodC st_at (dvA rfl) two) dC) (dltT st_at (dlen (K:=K) (by rfl) (SqL.of e4)) dC))) at0 (λ hb H5 g5=>?_) (λ hb H5 g5=>?_)
  ·-- a leaf
   have e5:=g5 _ _ e4
   refine ⟨_,rfl,.inl ⟨rfl,_,SqL.of e5⟩,_,rfl,_,_,rfl,rfl,⟨by decide,by decide⟩,_,rfl,z / 7,ls,rfl,Int.ediv_nonneg z0 (by decide),l9,λ t' v' H6 g6 tr' tof' tht'=>⟨tb,vs,v',rfl,rfl,g6 _ _ e5,small (by omega),?_⟩⟩
   have e6:=g6 _ _ e5
   refine ⟨vs ++ [v'],_,_,_,rfl,((g34.trans g5).trans g6).at fT,upd_same,by simp,?_⟩
   have sk6:=((sk4.mono (sameT g5)).mono (sameT g6)).mono (SameT.updL e6 (o:=.lst (vs ++ [v'])))
   have w1':=Tr.wt_leaf tht'
   exact Stk.put (B:=1 + (i + 1)) (sk6.up (by omega)) (tr'.mono (SameT.updL e6)) tof' (by omega)
  ·have e5:=g5 _ _ e4
   have g35:=g34.trans g5
   have sk5:=sk4.mono (sameT g5)
   have hlen:z % 7 ≠ 6 -> 2 <= vs.length:=λ hne=>by
    have:=Int.emod_nonneg z (b:=7) (by decide)
    have:=Int.emod_lt_of_pos z (b:=7) (by decide)
    rw [Bool.or_eq_false_iff,Bool.and_eq_false_iff] at hb
    obtain ⟨h1,h2⟩:=hb
    have h1:¬ z % 7 < 3:=of_decide_eq_false h1
    rcases h2 with h2 | h2
    ·have h2:¬ z % 7 < 6:=of_decide_eq_false h2
     omega
    ·have h2:¬ ((vs.length:Nat):Int) < 2:=of_decide_eq_false h2
     omega
   obtain ⟨ws,x,t,rfl,tx,ox,hx,skw⟩:=top sk5 lv
   refine difT (dtest (dIE st_at (dmodC st_at (dvA rfl) two) dC)) at0 (λ hb2 H6 g6=>?_) (λ hb2 H6 g6=>?_)
   ·-- not
    have e6:=g6 _ _ e5
    refine ⟨_,rfl,.inl ⟨rfl,_,SqL.of e6⟩,_,rfl,.inl ⟨rfl,_,SqL.of e6⟩,tb,_,x,rfl,rfl,e6,snoc_last ws x,?_⟩
    rw [List.dropLast_concat]
    refine ⟨smallE (by show 2 <= _; decide),λ p hp=>⟨tb,ws,.ref p,rfl,rfl,(Same.up hp) _ _ upd_same,small (by rw [List.length_append] at len100; simp at len100; omega),?_⟩⟩
    have c1:SameT H5 (upd H6 tb (.lst ws)):=(sameT g6).trans (SameT.updL e6)
    have c2:SameT (upd H6 tb (.lst ws)) (upd (upd H6 tb (.lst ws)) p (.tup [vS [126],x])):=sameT (Same.up hp)
    have e7:upd (upd H6 tb (.lst ws)) p (.tup [vS [126],x]) tb = some (.lst ws):=(Same.up hp) _ _ upd_same
    have c3:=SameT.updL e7 (o:=.lst (ws ++ [.ref p]))
    have cc:=(c1.trans c2).trans c3
    refine ⟨ws ++ [.ref p],_,_,_,rfl,(((g35.trans g6).at fT).to hp).at fT,upd_same,by simp,?_⟩
    exact Stk.put (B:=1 + (i + 1)) (t:=.neg t) ((skw.mono cc).up (by show 1 + i - t.wt <= 1 + (i + 1) - (t.wt + 1); omega)) ⟨p,x,rfl,c3 _ _ upd_same,tx.mono cc⟩ ox (by show t.wt + 1 <= _; omega)
   ·-- a pair
    have e6:=g6 _ _ e5
    have hne:z % 7 ≠ 6:=of_decide_eq_false hb2
    have l2:=hlen hne
    rw [List.length_append,List.length_singleton] at l2
    obtain ⟨us,y,t',rfl,ty,oy,hy,sku⟩:=top skw (by omega)
    refine ⟨_,rfl,.inl ⟨rfl,_,SqL.of e6⟩,tb,_,x,rfl,rfl,e6,snoc_last _ x,?_⟩
    rw [List.dropLast_concat]
    have e7:upd H6 tb (.lst (us ++ [y])) tb = some (.lst (us ++ [y])):=upd_same
    have n0:=Int.emod_nonneg (z / 7) (b:=3) (by decide)
    have n1:=Int.emod_lt_of_pos (z / 7) (b:=3) (by decide)
    obtain ⟨c,hc,hat⟩:=op_at (l:=[38,124,43]) n0 n1
    refine ⟨_,rfl,.inl ⟨rfl,_,SqL.of e7⟩,_,rfl,_,_,rfl,rfl,⟨by decide,by decide⟩,_,_,rfl,rfl,(show (0:Int) < 3 by decide),_,_,_,rfl,rfl,smallE (by show 3 <= _; decide),hat,_,rfl,.inl ⟨rfl,_,SqL.of e7⟩,tb,_,y,rfl,rfl,e7,snoc_last us y,?_⟩
    rw [List.dropLast_concat]
    refine ⟨_,rfl,smallE (by show 3 <= _; decide),λ p hp=>⟨tb,us,.ref p,rfl,rfl,(Same.up hp) _ _ upd_same,small (by simp at len100; omega),?_⟩⟩
    have c1:SameT H5 (upd (upd H6 tb (.lst (us ++ [y]))) tb (.lst us)):=((sameT g6).trans (SameT.updL e6)).trans (SameT.updL e7)
    have c2:=sameT (Same.up hp (o:=.tup [vS [c],y,x]))
    have e8:=(Same.up hp (o:=.tup [vS [c],y,x])) tb _ upd_same
    have c3:=SameT.updL e8 (o:=.lst (us ++ [.ref p]))
    have cc:=(c1.trans c2).trans c3
    have hop:c = 38 ∨ c = 124 ∨ c = 43:=by simpa using hc
    refine ⟨us ++ [.ref p],_,_,_,rfl,((((g35.trans g6).at fT).at fT).to hp).at fT,upd_same,by simp,?_⟩
    exact Stk.put (B:=1 + (i + 1)) (t:=.bin c t' t) ((sku.mono cc).up (by show 1 + i - t.wt - t'.wt <= 1 + (i + 1) - (t'.wt + t.wt); omega)) ⟨p,y,x,rfl,c3 _ _ upd_same,ty.mono cc,tx.mono cc⟩ ⟨hop,oy,ox⟩ (by show t'.wt + t.wt <= _; rw [List.length_append,List.length_singleton] at hx; omega)
 ·rintro σ H3 ⟨vs,v5,v6,v7,rfl,g3,e3,lv,sk⟩
  refine ⟨λ μ σ H'=>∃ (vs:List V) (v7:Option V),σ = [some (.ref a),some (.int at'),some (.int m),some (vS ls),some (.ref tb),v5,v6,v7] /\ Same H H' /\ H' tb = some (.lst vs) /\ 0 < vs.length /\ Stk ls (1 + m.toNat) H' vs /\ μ = vs.length,⟨_,vs,v7,rfl,g3,e3,lv,sk,rfl⟩,?_⟩
  rintro μ σ H4 ⟨vs,v7,rfl,g4,e4,lv,sk,rfl⟩
  refine ⟨_,rfl,tb,_,rfl,.inl (SqL.of e4),_,_,rfl,rfl,_,rfl,?_⟩
  refine ite2 (λ c=>?_) (λ c=>?_)
  ·have c':(1:Int) < ((vs.length:Nat):Int):=of_decide_eq_true c
   obtain ⟨ws,x,t,rfl,tx,ox,hx,skw⟩:=top sk lv
   rw [List.length_append,List.length_singleton] at c'
   obtain ⟨us,y,t',rfl,ty,oy,hy,sku⟩:=top skw (by omega)
   rw [List.length_append,List.length_singleton] at hx
   refine ⟨λ σ' H'=>∃ (vs':List V) (v7:Option V),σ' = [some (.ref a),some (.int at'),some (.int m),some (vS ls),some (.ref tb),v5,v6,v7] /\ Same H H' /\ H' tb = some (.lst vs') /\ 0 < vs'.length /\ Stk ls (1 + m.toNat) H' vs' /\ vs'.length < (us ++ [y] ++ [x]).length,?_,?_⟩
   ·rintro σ' H' ⟨vs',v7,e,b1,b2,b3,b4,b5⟩
    exact ⟨vs'.length,b5,vs',v7,e,b1,b2,b3,b4,rfl⟩
   refine ⟨_,rfl,.inl ⟨rfl,_,SqL.of e4⟩,tb,_,x,rfl,rfl,e4,snoc_last _ x,?_⟩
   rw [List.dropLast_concat]
   have e7:upd H4 tb (.lst (us ++ [y])) tb = some (.lst (us ++ [y])):=upd_same
   have n0:=Int.emod_nonneg (((us ++ [y]).length:Nat):Int) (b:=3) (by decide)
   have n1:=Int.emod_lt_of_pos (((us ++ [y]).length:Nat):Int) (b:=3) (by decide)
   obtain ⟨c,hc,hat⟩:=op_at (l:=[124,43,38]) n0 n1
   refine ⟨_,rfl,.inl ⟨rfl,_,SqL.of e7⟩,_,rfl,tb,_,rfl,.inl (SqL.of e7),_,_,rfl,rfl,(show (0:Int) < 3 by decide),_,_,_,rfl,rfl,smallE (by show 3 <= _; decide),hat,_,rfl,.inl ⟨rfl,_,SqL.of e7⟩,tb,_,y,rfl,rfl,e7,snoc_last us y,?_⟩
   rw [List.dropLast_concat]
   have us200:us.length <= 200:=by omega
   refine ⟨_,rfl,smallE (by show 3 <= _; decide),λ p hp=>⟨tb,us,.ref p,rfl,rfl,(Same.up hp) _ _ upd_same,small (by omega),?_⟩⟩
   have c1:SameT H4 (upd (upd H4 tb (.lst (us ++ [y]))) tb (.lst us)):=(SameT.updL e4).trans (SameT.updL e7)
   have c2:=sameT (Same.up hp (o:=.tup [vS [c],y,x]))
   have e8:=(Same.up hp (o:=.tup [vS [c],y,x])) tb _ upd_same
   have c3:=SameT.updL e8 (o:=.lst (us ++ [.ref p]))
   have cc:=(c1.trans c2).trans c3
   have hop:c = 38 ∨ c = 124 ∨ c = 43:=by
    have:c = 124 ∨ c = 43 ∨ c = 38:=by simpa using hc
    rcases this with e | e | e <;> simp [e]
   refine ⟨us ++ [.ref p],_,rfl,(((g4.at fT).at fT).to hp).at fT,upd_same,by simp,?_,by simp⟩
   exact Stk.put (B:=1 + m.toNat) (t:=.bin c t' t) ((sku.mono cc).up (by show 1 + m.toNat - t.wt - t'.wt <= 1 + m.toNat - (t'.wt + t.wt); omega)) ⟨p,y,x,rfl,c3 _ _ upd_same,ty.mono cc,tx.mono cc⟩ ⟨hop,oy,ox⟩ (by show t'.wt + t.wt <= _; omega)
  ·have c':¬ (1:Int) < ((vs.length:Nat):Int):=of_decide_eq_false (Bool.eq_false_iff.mpr c)
   obtain ⟨v,rfl⟩:∃ v,vs = [v]:=by
    match vs,lv,c' with
    | [v],_,_=>exact ⟨v,rfl⟩
    | _ :: _ :: _,_,h=>simp at h; omega
   obtain ⟨ws,x,t,e,h1,h2,h3,_⟩:=top sk lv
   obtain rfl:v = x:=by
    cases ws with
    | nil=>simpa using e
    | cons a l=>simp at e
   exact ⟨_,rfl,tb,_,_,v,rfl,rfl,SqL.of e4,rfl,q t v H4 g4 h1 h2 (by omega)⟩
def Tr.val (ρ:Nat -> Bool):Tr -> Bool
 | .letter c=>ρ c
 | .one=>true
 | .zero=>false
 | .neg t=>!t.val ρ
 | .bin op t u=>if op = 38 then t.val ρ && u.val ρ else if op = 124 then t.val ρ || u.val ρ else t.val ρ != u.val ρ
theorem s_one:("1":Str) = ofCs [49]:=by decide +kernel
theorem s_zero:("0":Str) = ofCs [48]:=by decide +kernel
theorem s_amp:("&":Str) = ofCs [38]:=by decide +kernel
theorem s_bar:("|":Str) = ofCs [124]:=by decide +kernel
section
variable {Γ:St -> Hp -> Prop} {t1 t2:TE}
theorem dEqV (st:Stb Γ) {p q:List Nat} (h1:Dv Γ t1 (vS p)) (h2:Dv Γ t2 (vS q)):Dv Γ (tOp rEq t1 t2) (.bl (decide (p = q))):=λ σ H Q hΓ k =>
 h1 σ H _ hΓ λ H1 g1=>h2 σ H1 _ (st _ _ _ hΓ g1) λ H2 g2=>⟨rfl,by
  have e:decide (vS p = vS q) = decide (p = q):=by
   by_cases h:p = q
   ·rw [h]; simp
   ·rw [decide_eq_false h,decide_eq_false λ e=>h (vS_inj e)]
  rw [e]; exact k H2 (g1.trans g2)⟩
theorem dlenT {σ0:St} {H0:Hp} {i:Nat} {p:Addr} {xs:List V} (e:σ0[i]? = some (some (.ref p))) (h:SqT K H0 p xs):Dv (At σ0 H0) (tCB (λ xs H Q=>∃ p ys,xs = [.ref p] /\ (SqL K H p ys ∨ SqT K H p ys) /\ Q (.int ys.length) H) (tCons (tVar i) tNil)) (.int xs.length):=λ σ H Q g q =>
 ⟨.ref p,by rw [g.1]; exact e,p,xs,rfl,.inr (g.2.seqT h),q H (Same.refl H)⟩
theorem dret {D:Ends} {σ:St} {H:Hp} {v:V} (h:Dv Γ t1 v) (hΓ:Γ σ H) (k:∀ H',Same H H' -> D.rt v H'):tRet t1 D σ H:=h σ H _ hΓ k
end
structure CA where
 always:Addr
 never:Addr
 letter:Addr
 not:Addr
 and:Addr
 or:Addr
 either:Addr
def CA.bin (c:CA) (op:Nat):Addr:=if op = 38 then c.and else if op = 124 then c.or else c.either
structure CTxt (K:PySem.W.Frag) (c:CA) (iL iN iP:Addr):Prop where
 always:Cls K c.always
 never:Cls K c.never
 letter:Cls K c.letter
 not:Cls K c.not
 and:Cls K c.and
 or:Cls K c.or
 either:Cls K c.either
 mAlways:Mk0 K c.always
 mNever:Mk0 K c.never
 mLetter:Mk K c.letter iL
 mNot:Mk K c.not iN
 mAnd:Mk K c.and iP
 mOr:Mk K c.or iP
 mEither:Mk K c.either iP
 aLetter:NoAttr K c.letter "letter"
 aNot:NoAttr K c.not "one"
 aAnd:NoAttr K c.and "one" /\ NoAttr K c.and "other"
 aOr:NoAttr K c.or "one" /\ NoAttr K c.or "other"
 aEither:NoAttr K c.either "one" /\ NoAttr K c.either "other"
theorem CTxt.bin {K:PySem.W.Frag} {c:CA} {iL iN iP:Addr} (h:CTxt K c iL iN iP) (op:Nat):Cls K (c.bin op) /\ NoAttr K (c.bin op) "one" /\ NoAttr K (c.bin op) "other":=by
 unfold CA.bin
 split
 ·exact ⟨h.and,h.aAnd⟩
 ·split
  ·exact ⟨h.or,h.aOr⟩
  ·exact ⟨h.either,h.aEither⟩
def ObjAt (c:CA) (H:Hp):Tr -> V -> Prop
 | .letter l,v=>∃ a dx,v = .ref a /\ H a = some (.ins c.letter dx [("letter",vS [l])])
 | .one,v=>∃ a dx,v = .ref a /\ H a = some (.ins c.always dx [])
 | .zero,v=>∃ a dx,v = .ref a /\ H a = some (.ins c.never dx [])
 | .neg t,v=>∃ a dx x,v = .ref a /\ H a = some (.ins c.not dx [("one",x)]) /\ ObjAt c H t x
 | .bin op t u,v=>∃ a dx x y,v = .ref a /\ H a = some (.ins (c.bin op) dx [("one",x),("other",y)]) /\ ObjAt c H t x /\ ObjAt c H u y
theorem ObjAt.mono {c:CA} {H H':Hp} (g:Same H H'):∀ {t:Tr} {v:V},ObjAt c H t v -> ObjAt c H' t v
 | .letter _,_,⟨a,dx,e,h⟩=>⟨a,dx,e,g _ _ h⟩
 | .one,_,⟨a,dx,e,h⟩=>⟨a,dx,e,g _ _ h⟩
 | .zero,_,⟨a,dx,e,h⟩=>⟨a,dx,e,g _ _ h⟩
 | .neg t,_,⟨a,dx,x,e,h,r⟩=>⟨a,dx,x,e,g _ _ h,ObjAt.mono g r⟩
 | .bin op t u,_,⟨a,dx,x,y,e,h,r,r'⟩=>⟨a,dx,x,y,e,g _ _ h,ObjAt.mono g r,ObjAt.mono g r'⟩
def spInit1 (K:PySem.W.Frag) (f:Str):Sp:=λ vs H Q _=>∃ (C x dx:Addr) (y:V),vs = [.ref x,y] /\ H x = some (.ins C dx []) /\ Cls K C /\ NoAttr K C f /\ Q .non (upd H x (.ins C dx [(f,y)]))
def spInit2 (K:PySem.W.Frag) (f g:Str):Sp:=λ vs H Q _=>∃ (C x dx:Addr) (y z:V),vs = [.ref x,y,z] /\ H x = some (.ins C dx []) /\ Cls K C /\ NoAttr K C f /\ NoAttr K C g /\ Q .non (upd (upd H x (.ins C dx [(f,y)])) x (.ins C dx [(f,y),(g,z)]))
theorem sc_initL:FnScope ["self","letter"] ["self","letter"] (defScope s_Letter_init):=⟨rfl,rfl,rfl,by decide +kernel,rfl,by decide +kernel,by decide +kernel⟩
theorem sc_initN:FnScope ["self","one"] ["self","one"] (defScope s_Not_init):=⟨rfl,rfl,rfl,by decide +kernel,rfl,by decide +kernel,by decide +kernel⟩
theorem sc_initP:FnScope ["self","one","other"] ["self","one","other"] (defScope s_Pair_init):=⟨rfl,rfl,rfl,by decide +kernel,rfl,by decide +kernel,by decide +kernel⟩
theorem ok_initL {k:Nat} {f:Addr} {fd:FuncData} (F:Fun K "__init__" "Letter.__init__" s_Letter_init f fd):FnOk P w K mg base CX0 (k + 1) f fd ["self","letter"] (spInit1 K "letter"):=by
 refine F.ok sc_initL (λ vs H Q E h=>?_) (λ cdv A outer s H vs Q E hr h=>?_)
 ·obtain ⟨C,x,dx,y,rfl,_⟩:=h
  rfl
 obtain ⟨C,x,dx,y,rfl,hx,c,n,q⟩:=h
 refine ⟨_,pss_one (ps_fld (pv 0) (pv 1) rfl),?_⟩
 exact ⟨_,rfl,_,rfl,x,C,dx,[],rfl,hx,c,n,by decide,q⟩
theorem ok_initN {k:Nat} {f:Addr} {fd:FuncData} (F:Fun K "__init__" "Not.__init__" s_Not_init f fd):FnOk P w K mg base CX0 (k + 1) f fd ["self","one"] (spInit1 K "one"):=by
 refine F.ok sc_initN (λ vs H Q E h=>?_) (λ cdv A outer s H vs Q E hr h=>?_)
 ·obtain ⟨C,x,dx,y,rfl,_⟩:=h
  rfl
 obtain ⟨C,x,dx,y,rfl,hx,c,n,q⟩:=h
 refine ⟨_,pss_one (ps_fld (pv 0) (pv 1) rfl),?_⟩
 exact ⟨_,rfl,_,rfl,x,C,dx,[],rfl,hx,c,n,by decide,q⟩
theorem ok_initP {k:Nat} {f:Addr} {fd:FuncData} (F:Fun K "__init__" "Pair.__init__" s_Pair_init f fd):FnOk P w K mg base CX0 (k + 1) f fd ["self","one","other"] (spInit2 K "one" "other"):=by
 refine F.ok sc_initP (λ vs H Q E h=>?_) (λ cdv A outer s H vs Q E hr h=>?_)
 ·obtain ⟨C,x,dx,y,z,rfl,_⟩:=h
  rfl
 obtain ⟨C,x,dx,y,z,rfl,hx,c,n,n2,q⟩:=h
 refine ⟨_,pss_cons (ps_fld (pv 0) (pv 1) rfl) (pss_one (ps_fld (pv 0) (pv 2) rfl)),?_⟩
 exact ⟨_,rfl,_,rfl,x,C,dx,[],rfl,hx,c,n,by decide,_,rfl,_,rfl,x,C,dx,_,rfl,upd_same,c,n2,by show 1 < 1000; decide,q⟩
end
end Law
set_option Elab.async false
set_option linter.all false
set_option maxRecDepth 100000
set_option maxHeartbeats 4000000
namespace Law
open PySem L2 Fs
section
variable {P:Program} {w:World} {K:PySem.W.Frag} {mg:Str -> Option Value} {base:Heap}
def Tr.text:Tr -> List Nat
 | .letter c=>[c]
 | .one=>[49]
 | .zero=>[48]
 | .neg t=>[126] ++ t.text
 | .bin op t u=>[40] ++ t.text ++ [op] ++ u.text ++ [41]
theorem Tr.text_len':∀ t:Tr,t.text.length + 3 <= 4 * t.wt
 | .letter _=>by show 1 + 3 <= 4 * 1; decide
 | .one=>by show 1 + 3 <= 4 * 1; decide
 | .zero=>by show 1 + 3 <= 4 * 1; decide
 | .neg t=>by
  have:=Tr.text_len' t
  show ([126] ++ t.text).length + 3 <= 4 * (t.wt + 1)
  rw [List.length_append,List.length_singleton]; omega
 | .bin op t u=>by
  have h1:=Tr.text_len' t
  have h2:=Tr.text_len' u
  show ([40] ++ t.text ++ [op] ++ u.text ++ [41]).length + 3 <= 4 * (t.wt + u.wt)
  simp only [List.length_append,List.length_singleton]; omega
theorem Tr.text_len:∀ t:Tr,t.text.length <= 4 * t.wt
 | .letter _=>by show 1 <= 4 * 1; decide
 | .one=>by show 1 <= 4 * 1; decide
 | .zero=>by show 1 <= 4 * 1; decide
 | .neg t=>by
  have:=Tr.text_len t
  show ([126] ++ t.text).length <= 4 * (t.wt + 1)
  rw [List.length_append,List.length_singleton]; omega
 | .bin op t u=>by
  have h1:=Tr.text_len' t
  have h2:=Tr.text_len' u
  show ([40] ++ t.text ++ [op] ++ u.text ++ [41]).length <= 4 * (t.wt + u.wt)
  simp only [List.length_append,List.length_singleton]; omega
def kA (t:Tr):Prop:=t = .one
def kN (t:Tr):Prop:=t = .zero
def kL (t:Tr):Prop:=∃ l,t = .letter l
def kO (t:Tr):Prop:=∃ u,t = .neg u
def kD (t:Tr):Prop:=∃ u v,t = .bin 38 u v
def kR (t:Tr):Prop:=∃ u v,t = .bin 124 u v
def kE (t:Tr):Prop:=∃ u v,t = .bin 43 u v
def kP (t:Tr):Prop:=∃ op u v,t = .bin op u v
def spV (f:Tr -> V) (c:CA) (n:Nat) (κ:Tr -> Prop):Sp:=λ vs H Q _=>∃ (o:V) (t:Tr),vs = [o] /\ ObjAt c H t o /\ t.ht <= n /\ t.wt <= 1000 /\ t.Of nine /\ κ t /\ ∀ H',Same H H' -> Q (f t) H'
abbrev tV (f:Tr -> V) (c:CA) (n:Nat) (m:Str) (κd κr κe:Tr -> Prop) (te:TE):TE:=(λ σ H Q=>tMeth c.always m (spV f c n kA) [] E0 te tNil σ H Q ∨ (λ σ H Q=>tMeth c.never m (spV f c n kN) [] E0 te tNil σ H Q ∨ (λ σ H Q=>tMeth c.letter m (spV f c n kL) [] E0 te tNil σ H Q ∨ (λ σ H Q=>tMeth c.not m (spV f c n kO) [] E0 te tNil σ H Q ∨ (λ σ H Q=>tMeth c.and m (spV f c n κd) [] E0 te tNil σ H Q ∨ (λ σ H Q=>tMeth c.or m (spV f c n κr) [] E0 te tNil σ H Q ∨ tMeth c.either m (spV f c n κe) [] E0 te tNil σ H Q) σ H Q) σ H Q) σ H Q) σ H Q) σ H Q)
theorem dV {f:Tr -> V} {n:Nat} {m:Str} {κd κr κe:Tr -> Prop} {c:CA} {σ0:St} {H0:Hp} {te:TE} {o:V} {t:Tr} (hl:∀ x y:V,List.lookup m [(("letter":Str),x)] = none /\ List.lookup m [(("one":Str),x)] = none /\ List.lookup m [(("one":Str),x),(("other":Str),y)] = none)
  (hd:∀ u v,κd (.bin 38 u v)) (hr:∀ u v,κr (.bin 124 u v)) (he:∀ u v,κe (.bin 43 u v)) (h1:Dv (At σ0 H0) te o) (ob:ObjAt c H0 t o) (ht:t.ht <= n) (hw:t.wt <= 1000) (of:t.Of nine) :
  Dv (At σ0 H0) (tV f c n m κd κr κe te) (f t):=by
 intro σ H Q hΓ q
 have go:∀ (κ:Tr -> Prop) (C:Addr) (a dx:Addr) (fs:List (Str × V)),κ t -> o = .ref a -> H0 a = some (.ins C dx fs) -> fs.lookup m = none -> tMeth C m (spV f c n κ) [] E0 te tNil σ H Q:=λ κ C a dx fs hκ eo ha hl =>
  h1 σ H _ hΓ λ H1 g1=>⟨a,dx,fs,eo,(hΓ.2.trans g1) _ _ ha,hl,o,t,rfl,ob.mono (hΓ.2.trans g1),ht,hw,of,hκ,λ H' g=>q H' (g1.trans g)⟩
 cases t with
 | one=>obtain ⟨a,dx,e,h⟩:=ob; exact .inl (go kA _ a dx _ rfl e h rfl)
 | zero=>obtain ⟨a,dx,e,h⟩:=ob; exact .inr (.inl (go kN _ a dx _ rfl e h rfl))
 | letter l=>obtain ⟨a,dx,e,h⟩:=ob; exact .inr (.inr (.inl (go kL _ a dx _ ⟨l,rfl⟩ e h (hl _ .non).1)))
 | neg u=>obtain ⟨a,dx,x,e,h,_⟩:=ob; exact .inr (.inr (.inr (.inl (go kO _ a dx _ ⟨u,rfl⟩ e h (hl _ .non).2.1))))
 | bin op u v =>
  obtain ⟨a,dx,x,y,e,h,_⟩:=ob
  rcases of.1 with rfl | rfl | rfl
  ·exact .inr (.inr (.inr (.inr (.inl (go κd _ a dx _ (hd u v) e h (hl _ _).2.2)))))
  ·exact .inr (.inr (.inr (.inr (.inr (.inl (go κr _ a dx _ (hr u v) e h (hl _ _).2.2))))))
  ·exact .inr (.inr (.inr (.inr (.inr (.inr (go κe _ a dx _ (he u v) e h (hl _ _).2.2))))))
structure MTxt (K:PySem.W.Frag) (c:CA) (m:Str) (fA fN fL fO fD fR fE:Addr):Prop where
 always:Meth K c.always m fA
 never:Meth K c.never m fN
 letter:Meth K c.letter m fL
 not:Meth K c.not m fO
 and:Meth K c.and m fD
 or:Meth K c.or m fR
 either:Meth K c.either m fE
structure VOk (P:Program) (w:World) (K:PySem.W.Frag) (mg:Str -> Option Value) (base:Heap) (f:Tr -> V) (c:CA) (n:Nat) (κd κr κe:Tr -> Prop) (fA fN fL fO fD fR fE:Addr) (dA dN dL dO dD dR dE:FuncData):Prop where
 always:FnOk P w K mg base CX0 n fA dA ["self"] (spV f c n kA)
 never:FnOk P w K mg base CX0 n fN dN ["self"] (spV f c n kN)
 letter:FnOk P w K mg base CX0 n fL dL ["self"] (spV f c n kL)
 not:FnOk P w K mg base CX0 n fO dO ["self"] (spV f c n kO)
 and:FnOk P w K mg base CX0 n fD dD ["self"] (spV f c n κd)
 or:FnOk P w K mg base CX0 n fR dR ["self"] (spV f c n κr)
 either:FnOk P w K mg base CX0 n fE dE ["self"] (spV f c n κe)
theorem pe_7 {X:Cx} {f:Tr -> V} {c:CA} {n:Nat} {m:Str} {κd κr κe:Tr -> Prop} {iL iN iP fA fN fL fO fD fR fE:Addr} {dA dN dL dO dD dR dE:FuncData} {o:Expr} {ta:TE} {apos pos:Pos} {pl:Sem Bool} (he:PE X o ta) (C:CTxt X.K c iL iN iP) (M:MTxt X.K c m fA fN fL fO fD fR fE) (G:VOk X.prog X.w X.K X.mg X.base f c n κd κr κe fA fN fL fO fD fR fE dA dN dL dO dD dR dE) (hr:Room n X.A) (bA:Binds X.K dA ["self"] []) (bN:Binds X.K dN ["self"] []) (bL:Binds X.K dL ["self"] []) (bO:Binds X.K dO ["self"] []) (bD:Binds X.K dD ["self"] []) (bR:Binds X.K dR ["self"] []) (bE:Binds X.K dE ["self"] [])
  (ht:eval (.Call (.Attribute o m apos) [] [] pos) X.env = (do
   let ov <- eval o X.env
   standAt apos.atName
   let (f,first) <- holding [ov] (getMethod ov m pl)
   callWith pos f first (backTo pos (starEach [] X.env)) (backToKw pos (keywordEach [] X.env))):=by rfl):PE X (.Call (.Attribute o m apos) [] [] pos) (tV f c n m κd κr κe ta) :=
 PE.or (pe_meth0 he C.always M.always G.always hr bA .nil pass0 ht) (PE.or (pe_meth0 he C.never M.never G.never hr bN .nil pass0 ht) (PE.or (pe_meth0 he C.letter M.letter G.letter hr bL .nil pass0 ht) (PE.or (pe_meth0 he C.not M.not G.not hr bO .nil pass0 ht) (PE.or (pe_meth0 he C.and M.and G.and hr bD .nil pass0 ht) (PE.or (pe_meth0 he C.or M.or G.or hr bR .nil pass0 ht) (pe_meth0 he C.either M.either G.either hr bE .nil pass0 ht))))))
theorem dfld {σ0:St} {H0:Hp} {a C dx:Addr} {fs:List (Str × V)} {f:Str} {v:V} (e:σ0[0]? = some (some (.ref a))) (h:H0 a = some (.ins C dx fs)) (c:Cls K C) (n:NoAttr K C f) (l:fs.lookup f = some v):Dv (At σ0 H0) (tFld K (tVar 0) f) v:=λ σ H Q g q =>
 ⟨.ref a,by rw [g.1]; exact e,a,C,dx,fs,v,rfl,g.2 _ _ h,c,n,l,q H (Same.refl H)⟩
theorem dcat {Γ:St -> Hp -> Prop} {t1 t2:TE} (st:Stb Γ) {p q:List Nat} (h1:Dv Γ t1 (vS p)) (h2:Dv Γ t2 (vS q)) (hl:p.length + q.length <= 100000):Dv Γ (tOp rAS t1 t2) (vS (p ++ q)):=λ σ H Q hΓ k =>
 h1 σ H _ hΓ λ H1 g1=>h2 σ H1 _ (st _ _ _ hΓ g1) λ H2 g2=>⟨ofCs p,ofCs q,rfl,rfl,by rw [ofCs_len,ofCs_len]; exact smallE hl,by rw [of_append]; exact k H2 (g1.trans g2)⟩
theorem s_open:("(":Str) = ofCs [40]:=by decide +kernel
theorem s_close:(")":Str) = ofCs [41]:=by decide +kernel
theorem s_plus:("+":Str) = ofCs [43]:=by decide +kernel
theorem s_none:("":Str) = ofCs []:=by decide +kernel
abbrev vTxt (t:Tr):V:=vS t.text
theorem sc_textAlways:FnScope ["self"] ["self"] (defScope s_Always_text):=⟨rfl,rfl,rfl,by decide +kernel,rfl,by decide +kernel,by decide +kernel⟩
theorem sc_textNever:FnScope ["self"] ["self"] (defScope s_Never_text):=⟨rfl,rfl,rfl,by decide +kernel,rfl,by decide +kernel,by decide +kernel⟩
theorem sc_textLetter:FnScope ["self"] ["self"] (defScope s_Letter_text):=⟨rfl,rfl,rfl,by decide +kernel,rfl,by decide +kernel,by decide +kernel⟩
theorem sc_textNot:FnScope ["self"] ["self"] (defScope s_Not_text):=⟨rfl,rfl,rfl,by decide +kernel,rfl,by decide +kernel,by decide +kernel⟩
theorem sc_textAnd:FnScope ["self"] ["self"] (defScope s_And_text):=⟨rfl,rfl,rfl,by decide +kernel,rfl,by decide +kernel,by decide +kernel⟩
theorem sc_textOr:FnScope ["self"] ["self"] (defScope s_Or_text):=⟨rfl,rfl,rfl,by decide +kernel,rfl,by decide +kernel,by decide +kernel⟩
theorem sc_textEither:FnScope ["self"] ["self"] (defScope s_Either_text):=⟨rfl,rfl,rfl,by decide +kernel,rfl,by decide +kernel,by decide +kernel⟩
section
variable {c:CA} {iL iN iP fA fN fL fO fD fR fE fP:Addr} {dA dN dL dO dD dR dE dP:FuncData} {n:Nat}
theorem text_always (F:Fun K "text" "Always.text" s_Always_text fA dA):FnOk P w K mg base CX0 (n + 1) fA dA ["self"] (spV vTxt c (n + 1) kA):=by
 refine F.ok sc_textAlways (λ vs H Q E h=>?_) (λ cdv A outer s H vs Q E hr h=>?_)
 ·obtain ⟨o,t,rfl,_⟩:=h; rfl
 obtain ⟨o,t,rfl,ob,ht,hw,of,rfl,q⟩:=h
 refine ⟨_,pss_one (ps_ret pe_str),?_⟩
 rw [s_one]
 exact q H (Same.refl H)
theorem text_never (F:Fun K "text" "Never.text" s_Never_text fN dN):FnOk P w K mg base CX0 (n + 1) fN dN ["self"] (spV vTxt c (n + 1) kN):=by
 refine F.ok sc_textNever (λ vs H Q E h=>?_) (λ cdv A outer s H vs Q E hr h=>?_)
 ·obtain ⟨o,t,rfl,_⟩:=h; rfl
 obtain ⟨o,t,rfl,ob,ht,hw,of,rfl,q⟩:=h
 refine ⟨_,pss_one (ps_ret pe_str),?_⟩
 rw [s_zero]
 exact q H (Same.refl H)
theorem text_letter (C:CTxt K c iL iN iP) (F:Fun K "text" "Letter.text" s_Letter_text fL dL):FnOk P w K mg base CX0 (n + 1) fL dL ["self"] (spV vTxt c (n + 1) kL):=by
 refine F.ok sc_textLetter (λ vs H Q E h=>?_) (λ cdv A outer s H vs Q E hr h=>?_)
 ·obtain ⟨o,t,rfl,_⟩:=h; rfl
 obtain ⟨o,t,rfl,ob,ht,hw,of,⟨l,rfl⟩,q⟩:=h
 refine ⟨_,pss_one (ps_ret (pe_fld (pv 0) (by rfl))),?_⟩
 obtain ⟨a,dx,rfl,h⟩:=ob
 exact dret (dfld (K:=K) rfl h C.letter C.aLetter rfl) at0 q
theorem text_not (C:CTxt K c iL iN iP) (M:MTxt K c "text" fA fN fL fO fD fR fE) (G:VOk P w K mg base vTxt c n kD kR kE fA fN fL fO fD fR fE dA dN dL dO dD dR dE) (bA:Binds K dA ["self"] []) (bN:Binds K dN ["self"] []) (bL:Binds K dL ["self"] []) (bO:Binds K dO ["self"] []) (bD:Binds K dD ["self"] []) (bR:Binds K dR ["self"] []) (bE:Binds K dE ["self"] []) (F:Fun K "text" "Not.text" s_Not_text fO dO):FnOk P w K mg base CX0 (n + 1) fO dO ["self"] (spV vTxt c (n + 1) kO):=by
 refine F.ok sc_textNot (λ vs H Q E h=>?_) (λ cdv A outer s H vs Q E hr h=>?_)
 ·obtain ⟨o,t,rfl,_⟩:=h; rfl
 obtain ⟨o,t,rfl,ob,ht,hw,of,⟨u,rfl⟩,q⟩:=h
 have hw':u.wt + 1 <= 1000:=hw
 refine ⟨_,pss_one (ps_ret (pe_op op_addS pe_str (pe_7 (pe_fld (pv 0) (by rfl)) C M G hr bA bN bL bO bD bR bE))),?_⟩
 rw [wave]
 obtain ⟨a,dx,x,rfl,h,ou⟩:=ob
 exact dret (dcat st_at dC (dV (f:=vTxt) (n:=n) (κd:=kD) (κr:=kR) (κe:=kE) (λ _ _=>⟨rfl,rfl,rfl⟩) (λ _ _=>⟨_,_,rfl⟩) (λ _ _=>⟨_,_,rfl⟩) (λ _ _=>⟨_,_,rfl⟩) (dfld rfl h C.not C.aNot rfl) ou (Nat.le_of_succ_le_succ ht) (by omega) of) (by have:=u.text_len; rw [List.length_singleton]; omega)) at0 q
theorem text_and (C:CTxt K c iL iN iP) (M:MTxt K c "text" fA fN fL fO fD fR fE) (G:VOk P w K mg base vTxt c n kD kR kE fA fN fL fO fD fR fE dA dN dL dO dD dR dE) (bA:Binds K dA ["self"] []) (bN:Binds K dN ["self"] []) (bL:Binds K dL ["self"] []) (bO:Binds K dO ["self"] []) (bD:Binds K dD ["self"] []) (bR:Binds K dR ["self"] []) (bE:Binds K dE ["self"] []) (F:Fun K "text" "And.text" s_And_text fD dD):FnOk P w K mg base CX0 (n + 1) fD dD ["self"] (spV vTxt c (n + 1) kD):=by
 refine F.ok sc_textAnd (λ vs H Q E h=>?_) (λ cdv A outer s H vs Q E hr h=>?_)
 ·obtain ⟨o,t,rfl,_⟩:=h; rfl
 obtain ⟨o,t,rfl,ob,ht,hw,of,⟨u,v,rfl⟩,q⟩:=h
 refine ⟨_,pss_one (ps_ret (pe_op op_addS (pe_op op_addS (pe_op op_addS (pe_op op_addS pe_str (pe_7 (pe_fld (pv 0) (by rfl)) C M G hr bA bN bL bO bD bR bE)) pe_str) (pe_7 (pe_fld (pv 0) (by rfl)) C M G hr bA bN bL bO bD bR bE)) pe_str)),?_⟩
 rw [s_open,s_close,s_amp]
 obtain ⟨a,dx,x,y,rfl,h,ou,ov⟩:=ob
 obtain ⟨op3,fu,fv⟩:=of
 have hm:max u.ht v.ht <= n:=Nat.le_of_succ_le_succ ht
 have hw':u.wt + v.wt <= 1000:=hw
 obtain ⟨cB,n1,n2⟩:=C.bin 38
 have l1:=u.text_len
 have l2:=v.text_len
 exact dret (dcat st_at (dcat st_at (dcat st_at (dcat st_at dC (dV (f:=vTxt) (n:=n) (κd:=kD) (κr:=kR) (κe:=kE) (λ _ _=>⟨rfl,rfl,rfl⟩) (λ _ _=>⟨_,_,rfl⟩) (λ _ _=>⟨_,_,rfl⟩) (λ _ _=>⟨_,_,rfl⟩) (dfld rfl h cB n1 rfl) ou (by omega) (by omega) fu) (by rw [List.length_singleton]; omega)) dC (by simp only [List.length_append,List.length_singleton]; omega)) (dV (f:=vTxt) (n:=n) (κd:=kD) (κr:=kR) (κe:=kE) (λ _ _=>⟨rfl,rfl,rfl⟩) (λ _ _=>⟨_,_,rfl⟩) (λ _ _=>⟨_,_,rfl⟩) (λ _ _=>⟨_,_,rfl⟩) (dfld rfl h cB n2 rfl) ov (by omega) (by omega) fv) (by simp only [List.length_append,List.length_singleton]; omega)) dC (by simp only [List.length_append,List.length_singleton]; omega)) at0 q
theorem text_or (C:CTxt K c iL iN iP) (M:MTxt K c "text" fA fN fL fO fD fR fE) (G:VOk P w K mg base vTxt c n kD kR kE fA fN fL fO fD fR fE dA dN dL dO dD dR dE) (bA:Binds K dA ["self"] []) (bN:Binds K dN ["self"] []) (bL:Binds K dL ["self"] []) (bO:Binds K dO ["self"] []) (bD:Binds K dD ["self"] []) (bR:Binds K dR ["self"] []) (bE:Binds K dE ["self"] []) (F:Fun K "text" "Or.text" s_Or_text fR dR):FnOk P w K mg base CX0 (n + 1) fR dR ["self"] (spV vTxt c (n + 1) kR):=by
 refine F.ok sc_textOr (λ vs H Q E h=>?_) (λ cdv A outer s H vs Q E hr h=>?_)
 ·obtain ⟨o,t,rfl,_⟩:=h; rfl
 obtain ⟨o,t,rfl,ob,ht,hw,of,⟨u,v,rfl⟩,q⟩:=h
 refine ⟨_,pss_one (ps_ret (pe_op op_addS (pe_op op_addS (pe_op op_addS (pe_op op_addS pe_str (pe_7 (pe_fld (pv 0) (by rfl)) C M G hr bA bN bL bO bD bR bE)) pe_str) (pe_7 (pe_fld (pv 0) (by rfl)) C M G hr bA bN bL bO bD bR bE)) pe_str)),?_⟩
 rw [s_open,s_close,s_bar]
 obtain ⟨a,dx,x,y,rfl,h,ou,ov⟩:=ob
 obtain ⟨op3,fu,fv⟩:=of
 have hm:max u.ht v.ht <= n:=Nat.le_of_succ_le_succ ht
 have hw':u.wt + v.wt <= 1000:=hw
 obtain ⟨cB,n1,n2⟩:=C.bin 124
 have l1:=u.text_len
 have l2:=v.text_len
 exact dret (dcat st_at (dcat st_at (dcat st_at (dcat st_at dC (dV (f:=vTxt) (n:=n) (κd:=kD) (κr:=kR) (κe:=kE) (λ _ _=>⟨rfl,rfl,rfl⟩) (λ _ _=>⟨_,_,rfl⟩) (λ _ _=>⟨_,_,rfl⟩) (λ _ _=>⟨_,_,rfl⟩) (dfld rfl h cB n1 rfl) ou (by omega) (by omega) fu) (by rw [List.length_singleton]; omega)) dC (by simp only [List.length_append,List.length_singleton]; omega)) (dV (f:=vTxt) (n:=n) (κd:=kD) (κr:=kR) (κe:=kE) (λ _ _=>⟨rfl,rfl,rfl⟩) (λ _ _=>⟨_,_,rfl⟩) (λ _ _=>⟨_,_,rfl⟩) (λ _ _=>⟨_,_,rfl⟩) (dfld rfl h cB n2 rfl) ov (by omega) (by omega) fv) (by simp only [List.length_append,List.length_singleton]; omega)) dC (by simp only [List.length_append,List.length_singleton]; omega)) at0 q
theorem text_either (C:CTxt K c iL iN iP) (M:MTxt K c "text" fA fN fL fO fD fR fE) (G:VOk P w K mg base vTxt c n kD kR kE fA fN fL fO fD fR fE dA dN dL dO dD dR dE) (bA:Binds K dA ["self"] []) (bN:Binds K dN ["self"] []) (bL:Binds K dL ["self"] []) (bO:Binds K dO ["self"] []) (bD:Binds K dD ["self"] []) (bR:Binds K dR ["self"] []) (bE:Binds K dE ["self"] []) (F:Fun K "text" "Either.text" s_Either_text fE dE):FnOk P w K mg base CX0 (n + 1) fE dE ["self"] (spV vTxt c (n + 1) kE):=by
 refine F.ok sc_textEither (λ vs H Q E h=>?_) (λ cdv A outer s H vs Q E hr h=>?_)
 ·obtain ⟨o,t,rfl,_⟩:=h; rfl
 obtain ⟨o,t,rfl,ob,ht,hw,of,⟨u,v,rfl⟩,q⟩:=h
 refine ⟨_,pss_one (ps_ret (pe_op op_addS (pe_op op_addS (pe_op op_addS (pe_op op_addS pe_str (pe_7 (pe_fld (pv 0) (by rfl)) C M G hr bA bN bL bO bD bR bE)) pe_str) (pe_7 (pe_fld (pv 0) (by rfl)) C M G hr bA bN bL bO bD bR bE)) pe_str)),?_⟩
 rw [s_open,s_close,s_plus]
 obtain ⟨a,dx,x,y,rfl,h,ou,ov⟩:=ob
 obtain ⟨op3,fu,fv⟩:=of
 have hm:max u.ht v.ht <= n:=Nat.le_of_succ_le_succ ht
 have hw':u.wt + v.wt <= 1000:=hw
 obtain ⟨cB,n1,n2⟩:=C.bin 43
 have l1:=u.text_len
 have l2:=v.text_len
 exact dret (dcat st_at (dcat st_at (dcat st_at (dcat st_at dC (dV (f:=vTxt) (n:=n) (κd:=kD) (κr:=kR) (κe:=kE) (λ _ _=>⟨rfl,rfl,rfl⟩) (λ _ _=>⟨_,_,rfl⟩) (λ _ _=>⟨_,_,rfl⟩) (λ _ _=>⟨_,_,rfl⟩) (dfld rfl h cB n1 rfl) ou (by omega) (by omega) fu) (by rw [List.length_singleton]; omega)) dC (by simp only [List.length_append,List.length_singleton]; omega)) (dV (f:=vTxt) (n:=n) (κd:=kD) (κr:=kR) (κe:=kE) (λ _ _=>⟨rfl,rfl,rfl⟩) (λ _ _=>⟨_,_,rfl⟩) (λ _ _=>⟨_,_,rfl⟩) (λ _ _=>⟨_,_,rfl⟩) (dfld rfl h cB n2 rfl) ov (by omega) (by omega) fv) (by simp only [List.length_append,List.length_singleton]; omega)) dC (by simp only [List.length_append,List.length_singleton]; omega)) at0 q
theorem v_zero {f:Tr -> V} {κ:Tr -> Prop} {g:Addr} {fd:FuncData}:FnOk P w K mg base CX0 0 g fd ["self"] (spV f c 0 κ) :=
 ⟨λ vs H Q E h=>by obtain ⟨_,t,_,_,h,_⟩:=h; have:=t.ht1; omega,λ A outer s H args us vs Q E _ _ _ _ h=>by obtain ⟨_,t,_,_,h,_⟩:=h; have:=t.ht1; omega⟩
theorem ok_texts (C:CTxt K c iL iN iP) (M:MTxt K c "text" fA fN fL fO fD fR fE) (bA:Binds K dA ["self"] []) (bN:Binds K dN ["self"] []) (bL:Binds K dL ["self"] []) (bO:Binds K dO ["self"] []) (bD:Binds K dD ["self"] []) (bR:Binds K dR ["self"] []) (bE:Binds K dE ["self"] [])
  (FA:Fun K "text" "Always.text" s_Always_text fA dA) (FN:Fun K "text" "Never.text" s_Never_text fN dN) (FL:Fun K "text" "Letter.text" s_Letter_text fL dL) (FO:Fun K "text" "Not.text" s_Not_text fO dO) (FD:Fun K "text" "And.text" s_And_text fD dD) (FR:Fun K "text" "Or.text" s_Or_text fR dR) (FE:Fun K "text" "Either.text" s_Either_text fE dE) :
  ∀ n,VOk P w K mg base vTxt c n kD kR kE fA fN fL fO fD fR fE dA dN dL dO dD dR dE
 | 0=>⟨v_zero,v_zero,v_zero,v_zero,v_zero,v_zero,v_zero⟩
 | n + 1 =>
  have G:=ok_texts C M bA bN bL bO bD bR bE FA FN FL FO FD FR FE n
  ⟨text_always FA,text_never FN,text_letter C FL,text_not C M G bA bN bL bO bD bR bE FO,text_and C M G bA bN bL bO bD bR bE FD,text_or C M G bA bN bL bO bD bR bE FR,text_either C M G bA bN bL bO bD bR bE FE⟩
end
end
end Law
set_option Elab.async false
set_option linter.all false
set_option maxRecDepth 100000
set_option maxHeartbeats 4000000
namespace Law
open PySem L2 Fs
section
variable {P:Program} {w:World} {K:PySem.W.Frag} {mg:Str -> Option Value} {base:Heap}
theorem bt_isinst:bootBuiltins "isinstance" = some (.builtin "isinstance"):=by decide +kernel
theorem bt_int:bootBuiltins "int" = some (.type "int"):=by decide +kernel
theorem bt_bool:bootBuiltins "bool" = some (.type "bool"):=by decide +kernel
def spTV (f:Tr -> V) (n:Nat):Sp:=λ vs H Q _=>∃ (v:V) (t:Tr),vs = [v] /\ TrAt H t v /\ t.ht <= n /\ t.wt <= 1000 /\ t.Of nine /\ ∀ H',Same H H' -> Q (f t) H'
theorem dtv {f:Tr -> V} {n:Nat} {σ0:St} {H0:Hp} {t1:TE} {x:V} {t:Tr} (h1:Dv (At σ0 H0) t1 x) (tr:TrAt H0 t x) (ht:t.ht <= n) (hw:t.wt <= 1000) (of:t.Of nine) :
  Dv (At σ0 H0) (tCall (spTV f n) [] E0 (tCons t1 tNil)) (f t):=λ σ H Q hΓ q =>
 h1 σ H _ hΓ λ H1 g1=>⟨x,t,rfl,tr.mono (sameT (hΓ.2.trans g1)),ht,hw,of,λ H' g=>q H' (g1.trans g)⟩
theorem sc_written:FnScope ["_law_tree"] ["_law_tree"] (defScope s_law_written):=⟨rfl,rfl,rfl,by decide +kernel,rfl,by decide +kernel,by decide +kernel⟩
theorem tv_zero {f:Tr -> V} {g:Addr} {fd:FuncData}:FnOk P w K mg base CX0 0 g fd ["_law_tree"] (spTV f 0) :=
 ⟨λ vs H Q E h=>by obtain ⟨_,t,_,_,h,_⟩:=h; have:=t.ht1; omega,λ A outer s H args us vs Q E _ _ _ _ h=>by obtain ⟨_,t,_,_,h,_⟩:=h; have:=t.ht1; omega⟩
theorem written_step {n:Nat} {f:Addr} {fd:FuncData} (F:Fun K "_law_written" "_law_written" s_law_written f fd) (T:Txt mg) (bG:Binds K fd ["_law_tree"] []) (mG:mg "_law_written" = some (.ref f))
  (GG:FnOk P w K mg base CX0 n f fd ["_law_tree"] (spTV vTxt n)):FnOk P w K mg base CX0 (n + 1) f fd ["_law_tree"] (spTV vTxt (n + 1)):=by
 refine F.ok sc_written (λ vs H Q E h=>?_) (λ cdv A outer s H vs Q E hr h=>?_)
 ·obtain ⟨v,t,rfl,_⟩:=h
  rfl
 obtain ⟨v,t,rfl,tr,ht,hw,of,q⟩:=h
 have kG:=F.kp
 refine ⟨_,(pss_cons (ps_if (pt_cmpR op_eq (pe_ix ix_tup (pv 0) pe_int (λ _ _=>rfl)) pe_str (nomark _)) (pss_one (ps_ret (pe_ix ix_tup (pv 0) pe_int (λ _ _=>rfl)))) pss_nil)
  (pss_cons (ps_if (pt_cmpR op_eq (pe_callB call_len_seq (by rfl) T.len PySem.boot_len (pa_cons (pv 0) pa_nil)) pe_int (nomark _)) (pss_one (ps_ret (pe_ix ix_tup (pv 0) pe_int (λ _ _=>rfl)))) pss_nil)
  (pss_cons (ps_if (pt_cmpR op_eq (pe_ix ix_tup (pv 0) pe_int (λ _ _=>rfl)) pe_str (nomark _)) (pss_one (ps_ret (pe_op op_addS pe_str (pe_call GG hr (by rfl) mG kG bG .nil pass0 (pa_cons (pe_ix ix_tup (pv 0) pe_int (λ _ _=>rfl)) pa_nil))))) pss_nil)
  (pss_one (ps_ret (pe_op op_addS (pe_op op_addS (pe_op op_addS (pe_op op_addS pe_str (pe_call GG hr (by rfl) mG kG bG .nil pass0 (pa_cons (pe_ix ix_tup (pv 0) pe_int (λ _ _=>rfl)) pa_nil))) (pe_ix ix_tup (pv 0) pe_int (λ _ _=>rfl))) (pe_call GG hr (by rfl) mG kG bG .nil pass0 (pa_cons (pe_ix ix_tup (pv 0) pe_int (λ _ _=>rfl)) pa_nil))) pe_str)))))),?_⟩
 rw [letter_txt,wave,s_open,s_close]
 cases t with
 | letter c =>
  obtain ⟨a,rfl,h⟩:=tr
  have hT:SqT K H a _:=SqT.of h
  refine difT (dtest (dEqV st_at (dixT rfl hT rfl) dC)) at0 (λ _ H1 g1=>?_) (λ hb=>absurd hb (by simp))
  exact dret (dixT rfl (g1.seqT hT) rfl) at0 λ H2 g2=>q H2 (g1.trans g2)
 | one =>
  obtain ⟨a,rfl,h⟩:=tr
  have hT:SqT K H a _:=SqT.of h
  refine difT (dtest (dEqV st_at (dixT rfl hT rfl) dC)) at0 (λ hb=>absurd hb (by decide)) (λ _ H1 g1=>?_)
  refine difT (dtest (dIE st_at (dlenT rfl (g1.seqT hT)) dC)) at0 (λ _ H2 g2=>?_) (λ hb=>absurd hb (by decide))
  exact dret (dixT rfl ((g1.trans g2).seqT hT) rfl) at0 λ H3 g3=>q H3 ((g1.trans g2).trans g3)
 | zero =>
  obtain ⟨a,rfl,h⟩:=tr
  have hT:SqT K H a _:=SqT.of h
  refine difT (dtest (dEqV st_at (dixT rfl hT rfl) dC)) at0 (λ hb=>absurd hb (by decide)) (λ _ H1 g1=>?_)
  refine difT (dtest (dIE st_at (dlenT rfl (g1.seqT hT)) dC)) at0 (λ _ H2 g2=>?_) (λ hb=>absurd hb (by decide))
  exact dret (dixT rfl ((g1.trans g2).seqT hT) rfl) at0 λ H3 g3=>q H3 ((g1.trans g2).trans g3)
 | neg t =>
  obtain ⟨a,x,rfl,h,tx⟩:=tr
  have hT:SqT K H a _:=SqT.of h
  have ht':t.ht <= n:=Nat.le_of_succ_le_succ ht
  have hw':t.wt + 1 <= 1000:=hw
  have l1:=t.text_len
  refine difT (dtest (dEqV st_at (dixT rfl hT rfl) dC)) at0 (λ hb=>absurd hb (by decide)) (λ _ H1 g1=>?_)
  refine difT (dtest (dIE st_at (dlenT rfl (g1.seqT hT)) dC)) at0 (λ hb=>absurd hb (by simp)) (λ _ H2 g2=>?_)
  have g12:=g1.trans g2
  refine difT (dtest (dEqV st_at (dixT rfl (g12.seqT hT) rfl) dC)) at0 (λ _ H3 g3=>?_) (λ hb=>absurd hb (by decide))
  have g13:=g12.trans g3
  exact dret (dcat st_at dC (dtv (f:=vTxt) (n:=n) (dixT rfl (g13.seqT hT) rfl) (tx.mono (sameT g13)) ht' (by omega) of) (by rw [List.length_singleton]; omega)) at0 λ H4 g4=>q H4 (g13.trans g4)
 | bin op t u =>
  obtain ⟨a,x,y,rfl,h,tx,uy⟩:=tr
  have hT:SqT K H a _:=SqT.of h
  have hm:max t.ht u.ht + 1 <= n + 1:=ht
  have hw':t.wt + u.wt <= 1000:=hw
  obtain ⟨hop,ot,ou⟩:=of
  have l1:=t.text_len
  have l2:=u.text_len
  have nl:decide ([op] = wLetter) = false:=decide_eq_false (by simp [wLetter])
  have nw:decide ([op] = [126]) = false:=decide_eq_false (by rcases hop with e | e | e <;> simp [e])
  refine difT (dtest (dEqV st_at (dixT rfl hT rfl) dC)) at0 (λ hb=>absurd (nl.symm.trans hb) (by decide)) (λ _ H1 g1=>?_)
  refine difT (dtest (dIE st_at (dlenT rfl (g1.seqT hT)) dC)) at0 (λ hb=>absurd hb (by simp)) (λ _ H2 g2=>?_)
  have g12:=g1.trans g2
  refine difT (dtest (dEqV st_at (dixT rfl (g12.seqT hT) rfl) dC)) at0 (λ hb=>absurd (nw.symm.trans hb) (by decide)) (λ _ H3 g3=>?_)
  have g13:=g12.trans g3
  exact dret (dcat st_at (dcat st_at (dcat st_at (dcat st_at dC (dtv (f:=vTxt) (n:=n) (dixT rfl (g13.seqT hT) rfl) (tx.mono (sameT g13)) (by omega) (by omega) ot) (by rw [List.length_singleton]; omega))
   (dixT rfl (g13.seqT hT) rfl) (by simp only [List.length_append,List.length_singleton]; omega)) (dtv (f:=vTxt) (n:=n) (dixT rfl (g13.seqT hT) rfl) (uy.mono (sameT g13)) (by omega) (by omega) ou) (by simp only [List.length_append,List.length_singleton]; omega))
   dC (by simp only [List.length_append,List.length_singleton]; omega)) at0 λ H4 g4=>q H4 (g13.trans g4)
theorem ok_written {f:Addr} {fd:FuncData} (F:Fun K "_law_written" "_law_written" s_law_written f fd) (T:Txt mg) (bG:Binds K fd ["_law_tree"] []) (mG:mg "_law_written" = some (.ref f)):∀ n,FnOk P w K mg base CX0 n f fd ["_law_tree"] (spTV vTxt n)
 | 0=>tv_zero
 | n + 1=>written_step F T bG mG (ok_written F T bG mG n)
end
end Law
set_option Elab.async false
set_option linter.all false
set_option maxRecDepth 100000
set_option maxHeartbeats 4000000
namespace Law
open PySem L2 Fs
section
variable {P:Program} {w:World} {K:PySem.W.Frag} {mg:Str -> Option Value} {base:Heap}
abbrev Fr:=Nat × Option Tr
abbrev PSt:=List Fr × Option Tr
def wn:List Fr -> Tr -> List Fr × Tr
 | [],t=>([],t)
 | fr :: fs,t=>if fr.1 = 126 then wn fs (.neg t) else (fr :: fs,t)
def legal (s:PSt):List Nat:=match s.2 with
 | none=>[48,49] ++ nine ++ [126,40]
 | some _=>match s.1 with
  | []=>[]
  | fr :: _=>if fr.1 = 40 then [38,124,43] else [41]
def single (c:Nat):Tr:=if c = 49 then .one else if c = 48 then .zero else .letter c
def stp (s:PSt) (c:Nat):PSt :=
 if c ∈ [126,40] then ((c,none) :: s.1,none)
 else if c ∈ [38,124,43] then (match s.1 with
  | []=>s
  | _ :: fs=>((c,s.2) :: fs,none))
 else if c = 41 then (match s.1,s.2 with
  | (op,some l) :: fs,some r=>((wn fs (.bin op l r)).1,some (wn fs (.bin op l r)).2)
  | _,_=>s)
 else ((wn s.1 (single c)).1,some (wn s.1 (single c)).2)
def run:PSt -> List Nat -> Option PSt
 | s,[]=>some s
 | s,c :: l=>if c ∈ legal s then run (stp s c) l else none
theorem run_app:∀ (l1 l2:List Nat) (s:PSt),run s (l1 ++ l2) = (run s l1).bind λ s'=>run s' l2
 | [],_,_=>rfl
 | c :: l1,l2,s=>by
  rw [List.cons_append,run,run]
  split
  ·exact run_app l1 l2 _
  ·rfl
theorem nine_facts:∀ c ∈ nine,c ∈ [48,49] ++ nine ++ [126,40] /\ c ∉ [126,40] /\ c ∉ [38,124,43] /\ ¬ c = 41 /\ ¬ c = 49 /\ ¬ c = 48:=by decide
theorem single_nine {c:Nat} (h:c ∈ nine):single c = .letter c:=by
 obtain ⟨_,_,_,_,h1,h2⟩:=nine_facts c h
 rw [single,if_neg h1,if_neg h2]
theorem run_single {c:Nat} {fs:List Fr} {rest:List Nat} (h1:c ∈ [48,49] ++ nine ++ [126,40]) (h2:c ∉ [126,40]) (h3:c ∉ [38,124,43]) (h4:¬ c = 41):run (fs,none) (c :: rest) = run ((wn fs (single c)).1,some (wn fs (single c)).2) rest:=by
 rw [run,if_pos (show c ∈ legal (fs,none) from h1),stp,if_neg h2,if_neg h3,if_neg h4]
theorem wn_stay {fr:Fr} {fs:List Fr} {t:Tr} (h:¬ fr.1 = 126):wn (fr :: fs) t = (fr :: fs,t):=if_neg h
theorem run_tree:∀ (t:Tr) (fs:List Fr) (rest:List Nat),t.Of nine -> run (fs,none) (t.text ++ rest) = run ((wn fs t).1,some (wn fs t).2) rest
 | .letter c,fs,rest,h=>by
  obtain ⟨h1,h2,h3,h4,_,_⟩:=nine_facts c h
  show run (fs,none) (c :: rest) = _
  rw [run_single h1 h2 h3 h4,single_nine h]
 | .one,fs,rest,_=>by
  show run (fs,none) (49 :: rest) = _
  rw [run_single (by decide) (by decide) (by decide) (by decide)]; rfl
 | .zero,fs,rest,_=>by
  show run (fs,none) (48 :: rest) = _
  rw [run_single (by decide) (by decide) (by decide) (by decide)]; rfl
 | .neg t,fs,rest,h=>by
  show run (fs,none) (126 :: (t.text ++ rest)) = _
  rw [run,if_pos (show 126 ∈ legal (fs,none) from (by decide:126 ∈ [48,49] ++ nine ++ [126,40])),stp,if_pos (by decide),run_tree t _ _ h]
  rfl
 | .bin op t u,fs,rest,h=>by
  obtain ⟨hop,ht,hu⟩:=h
  have e:(Tr.bin op t u).text ++ rest = 40 :: (t.text ++ (op :: (u.text ++ (41 :: rest)))):=by simp [Tr.text]
  have no:op ∉ [126,40] /\ op ∈ [38,124,43] /\ ¬ op = 126 /\ ¬ op = 40:=by rcases hop with rfl | rfl | rfl <;> decide
  rw [e,run,if_pos (show 40 ∈ legal (fs,none) from (by decide:40 ∈ [48,49] ++ nine ++ [126,40])),stp,if_pos (by decide),run_tree t _ _ ht,wn_stay (show ¬ ((40,none):Fr).1 = 126 from by decide)]
  rw [run,if_pos (show op ∈ legal ((40,none) :: fs,some t) from no.2.1),stp,if_neg no.1,if_pos no.2.1]
  show run ((op,some t) :: fs,none) (u.text ++ (41 :: rest)) = _
  rw [run_tree u _ _ hu,wn_stay (show ¬ ((op,some t):Fr).1 = 126 from no.2.2.1)]
  rw [run,if_pos (show 41 ∈ legal ((op,some t) :: fs,some u) from by show 41 ∈ (if op = 40 then [38,124,43] else [41]); rw [if_neg no.2.2.2]; decide),stp,if_neg (by decide),if_neg (by decide),if_pos rfl]
def Fok (fr:Fr):Prop:=(fr.2 = none /\ (fr.1 = 126 ∨ fr.1 = 40)) ∨ (∃ l,fr.2 = some l /\ (fr.1 = 38 ∨ fr.1 = 124 ∨ fr.1 = 43))
structure Wfs (s:PSt):Prop where
 all:∀ fr ∈ s.1,Fok fr
 top:∀ r fr fs,s.2 = some r -> s.1 = fr :: fs -> ¬ fr.1 = 126
theorem wn_mem:∀ {fs:List Fr} {t:Tr} {fr:Fr},fr ∈ (wn fs t).1 -> fr ∈ fs
 | [],_,_,h=>h
 | f :: fs,t,fr,h=>by
  unfold wn at h
  split at h
  ·exact List.mem_cons_of_mem _ (wn_mem h)
  ·exact h
theorem wn_top:∀ {fs:List Fr} {t:Tr} {fr:Fr} {gs:List Fr},(wn fs t).1 = fr :: gs -> ¬ fr.1 = 126
 | [],_,_,_,h=>by cases h
 | f :: fs,t,fr,gs,h=>by
  unfold wn at h
  split at h
  ·exact wn_top h
  ·rename_i hn
   cases h
   exact hn
theorem wfs_wn {fs:List Fr} {t:Tr} (h:∀ fr ∈ fs,Fok fr):Wfs ((wn fs t).1,some (wn fs t).2):=⟨λ fr hf=>h fr (wn_mem hf),λ _ _ _ _ e=>wn_top e⟩
theorem Wfs.step {s:PSt} {c:Nat} (h:Wfs s) (hl:c ∈ legal s):Wfs (stp s c):=by
 unfold stp
 split
 ·rename_i hc
  have hc:c = 126 ∨ c = 40:=by simpa using hc
  refine ⟨λ fr hf=>?_,λ r fr fs e=>by cases e⟩
  rcases List.mem_cons.mp hf with e | hf
  ·subst e; exact .inl ⟨rfl,hc⟩
  ·exact h.all fr hf
 ·split
  ·rename_i hc
   have hc':c = 38 ∨ c = 124 ∨ c = 43:=by simpa using hc
   obtain ⟨fs,e⟩:=s
   cases fs with
   | nil=>exact h
   | cons f fs =>
    cases e with
    | none=>exact absurd hl (by show ¬ c ∈ [48,49] ++ nine ++ [126,40]; rcases hc' with rfl | rfl | rfl <;> decide)
    | some r =>
     refine ⟨λ fr hf=>?_,λ r fr fs e=>by cases e⟩
     rcases List.mem_cons.mp hf with e | hf
     ·subst e; exact .inr ⟨r,rfl,hc'⟩
     ·exact h.all fr (List.mem_cons_of_mem _ hf)
  ·split
   ·obtain ⟨fs,e⟩:=s
    split
    ·rename_i op l fs' r h1 h2
     cases h1
     exact wfs_wn λ fr hf=>h.all fr (List.mem_cons_of_mem _ hf)
    ·exact h
   ·exact wfs_wn h.all
theorem wfs0:Wfs ([],none):=⟨λ _ h=>(by cases h),λ _ _ _ e=>by cases e⟩
theorem run_wfs:∀ {l:List Nat} {s s':PSt},Wfs s -> run s l = some s' -> Wfs s'
 | [],_,_,h,e=>by cases e; exact h
 | c :: l,s,s',h,e=>by
  rw [run] at e
  split at e
  ·rename_i hl
   exact run_wfs (h.step hl) e
  ·cases e
theorem close_top {s:PSt} (h:Wfs s) (hl:41 ∈ legal s):∃ op l fs r,s = ((op,some l) :: fs,some r) /\ (op = 38 ∨ op = 124 ∨ op = 43):=by
 obtain ⟨fs,e⟩:=s
 cases e with
 | none=>exact absurd hl (by show ¬ 41 ∈ [48,49] ++ nine ++ [126,40]; decide)
 | some r =>
  cases fs with
  | nil=>exact absurd hl (by simp [legal])
  | cons f fs =>
   obtain ⟨op,o⟩:=f
   have h1:=h.all (op,o) (List.mem_cons_self ..)
   have h2:=h.top r (op,o) fs rfl rfl
   have h3:¬ op = 40:=λ e=>by subst e; exact absurd hl (by show ¬ 41 ∈ (if (40:Nat) = 40 then [38,124,43] else [41]); decide)
   rcases h1 with ⟨_,h1 | h1⟩ | ⟨l,h1,h4⟩
   ·exact absurd h1 h2
   ·exact absurd h1 h3
   ·exact ⟨op,l,fs,r,by rw [show o = some l from h1],h4⟩
theorem between_top {s:PSt} {c:Nat} (hc:c ∈ [38,124,43]) (hl:c ∈ legal s):∃ fr fs r,s = (fr :: fs,some r):=by
 have hc':c = 38 ∨ c = 124 ∨ c = 43:=by simpa using hc
 obtain ⟨fs,e⟩:=s
 cases e with
 | none=>exact absurd hl (by show ¬ c ∈ [48,49] ++ nine ++ [126,40]; rcases hc' with rfl | rfl | rfl <;> decide)
 | some r =>
  cases fs with
  | nil=>exact absurd hl (by simp [legal])
  | cons f fs=>exact ⟨f,fs,r,rfl⟩
theorem single_cases {s:PSt} {c:Nat} (hl:c ∈ legal s) (h1:c ∉ [126,40]) (h2:c ∉ [38,124,43]) (h3:¬ c = 41):c = 49 ∨ c = 48 ∨ c ∈ nine:=by
 obtain ⟨fs,e⟩:=s
 cases e with
 | none =>
  have:c ∈ [48,49] ++ nine ++ [126,40]:=hl
  rcases List.mem_append.mp this with h | h
  ·rcases List.mem_append.mp h with h | h
   ·have:c = 48 ∨ c = 49:=by simpa using h
    exact this.elim (λ e=>.inr (.inl e)) .inl
   ·exact .inr (.inr h)
  ·exact absurd h h1
 | some r =>
  cases fs with
  | nil=>exact absurd hl (by simp [legal])
  | cons f fs =>
   have:c ∈ (if f.1 = 40 then [38,124,43] else [41]):=hl
   split at this
   ·exact absurd this h2
   ·exact absurd (List.mem_singleton.mp this) h3
theorem wn_len:∀ (fs:List Fr) (t:Tr),(wn fs t).1.length <= fs.length
 | [],_=>Nat.le_refl _
 | f :: fs,t=>by
  unfold wn
  split
  ·exact Nat.le_succ_of_le (wn_len fs _)
  ·exact Nat.le_refl _
theorem stp_len (s:PSt) (c:Nat):(stp s c).1.length <= s.1.length + 1:=by
 unfold stp
 split
 ·exact Nat.le_refl _
 ·split
  ·obtain ⟨fs,e⟩:=s
   cases fs with
   | nil=>exact Nat.le_succ _
   | cons f fs=>exact Nat.le_succ _
  ·split
   ·obtain ⟨fs,e⟩:=s
    split
    ·rename_i op l fs' r h1 h2
     cases h1
     exact Nat.le_succ_of_le (Nat.le_succ_of_le (wn_len _ _))
    ·exact Nat.le_succ _
   ·exact Nat.le_succ_of_le (wn_len _ _)
end
end Law
set_option Elab.async false
set_option linter.all false
set_option maxRecDepth 100000
set_option maxHeartbeats 4000000
namespace Law
open PySem L2 Fs
section
variable {P:Program} {w:World} {K:PySem.W.Frag} {mg:Str -> Option Value} {base:Heap}
def wSaid:List Nat:=[115,97,105,100]
def wSign:List Nat:=[115,105,103,110]
def wClose:List Nat:=[41]
def ndF (fr:Fr):List Pr:=if fr.1 = 126 then [] else if fr.1 = 40 then [wSign,wSaid,wClose] else [wClose]
def nds (fs:List Fr):List Pr:=(fs.map ndF).flatten
def need (s:PSt):List Pr:=match s.2 with
 | none=>wSaid :: nds s.1
 | some _=>nds s.1
def lstep:List Pr -> Nat -> Option (List Pr)
 | [],_=>none
 | x :: r,c=>if x = wSaid then (if c = 126 then some (wSaid :: r) else if c = 40 then some (wSaid :: wSign :: wSaid :: wClose :: r) else if c ∈ [48,49] ++ nine then some r else none)
  else if x = wSign then (if c ∈ [38,124,43] then some r else none) else if c = 41 then some r else none
theorem nds_wn:∀ (fs:List Fr) (t:Tr),nds (wn fs t).1 = nds fs
 | [],_=>rfl
 | f :: fs,t=>by
  unfold wn
  split
  ·rename_i h
   rw [nds_wn fs _]
   unfold nds
   rw [List.map_cons,List.flatten_cons,ndF,if_pos h,List.nil_append]
  ·rfl
theorem lstep_at {s:PSt} (h:Wfs s) (c:Nat):lstep (need s) c = if c ∈ legal s then some (need (stp s c)) else none:=by
 obtain ⟨fs,e⟩:=s
 cases e with
 | none =>
  have mem:∀ d,d ∈ [48,49] ++ nine ++ [126,40] -> d ∈ legal (fs,none):=λ d h=>h
  rw [show need (fs,none) = wSaid :: nds fs from rfl,lstep,if_pos rfl]
  by_cases h1:c = 126
  ·subst h1
   rw [if_pos rfl,if_pos (mem 126 (by decide))]
   rfl
  by_cases h2:c = 40
  ·subst h2
   rw [if_neg (by decide),if_pos rfl,if_pos (mem 40 (by decide))]
   rfl
  rw [if_neg h1,if_neg h2]
  by_cases h3:c ∈ [48,49] ++ nine
  ·rw [if_pos h3,if_pos (mem c (List.mem_append_left _ h3))]
   have hb:c ∉ [126,40] /\ c ∉ [38,124,43] /\ ¬ c = 41:=by
    have:∀ d ∈ [48,49] ++ nine,d ∉ [126,40] /\ d ∉ [38,124,43] /\ ¬ d = 41:=by decide
    exact this c h3
   rw [stp,if_neg hb.1,if_neg hb.2.1,if_neg hb.2.2]
   show some (nds fs) = some (nds (wn fs (single c)).1)
   rw [nds_wn]
  ·rw [if_neg h3,if_neg]
   intro hm
   have hm:c ∈ [48,49] ++ nine ++ [126,40]:=hm
   rcases List.mem_append.mp hm with z | z
   ·exact h3 z
   ·have:c = 126 ∨ c = 40:=by simpa using z
    exact this.elim h1 h2
 | some r =>
  cases fs with
  | nil=>rfl
  | cons f fs =>
   have ht:=h.top r f fs rfl rfl
   by_cases h40:f.1 = 40
   ·have en:need (f :: fs,some r) = wSign :: wSaid :: wClose :: nds fs:=by
     show nds (f :: fs) = _
     unfold nds
     rw [List.map_cons,List.flatten_cons,ndF,if_neg ht,if_pos h40]
     rfl
    have el:legal (f :: fs,some r) = [38,124,43]:=if_pos h40
    rw [en,el,lstep,if_neg (by decide),if_pos rfl]
    by_cases hc:c ∈ [38,124,43]
    ·rw [if_pos hc,if_pos hc]
     have hc':c = 38 ∨ c = 124 ∨ c = 43:=by simpa using hc
     have n1:c ∉ [126,40] /\ ¬ c = 126 /\ ¬ c = 40:=by rcases hc' with rfl | rfl | rfl <;> decide
     rw [stp,if_neg n1.1,if_pos hc]
     show _ = some (wSaid :: nds ((c,some r) :: fs))
     unfold nds
     rw [List.map_cons,List.flatten_cons,ndF,if_neg n1.2.1,if_neg n1.2.2]
     rfl
    ·rw [if_neg hc,if_neg hc]
   ·have en:need (f :: fs,some r) = wClose :: nds fs:=by
     show nds (f :: fs) = _
     unfold nds
     rw [List.map_cons,List.flatten_cons,ndF,if_neg ht,if_neg h40]
     rfl
    have el:legal (f :: fs,some r) = [41]:=if_neg h40
    rw [en,el,lstep,if_neg (by decide),if_neg (by decide)]
    by_cases hc:c = 41
    ·subst hc
     obtain ⟨op,l,fs',r',e,_⟩:=close_top h (by rw [el]; decide)
     cases e
     rw [if_pos rfl,if_pos (by decide),stp,if_neg (by decide),if_neg (by decide),if_pos rfl]
     show some (nds fs) = some (nds (wn fs (.bin op l r)).1)
     rw [nds_wn]
    ·rw [if_neg hc,if_neg (by simpa using hc)]
theorem need_nil {s:PSt} (h:Wfs s):need s = [] ↔ ∃ t,s = ([],some t):=by
 obtain ⟨fs,e⟩:=s
 cases e with
 | none =>
  constructor
  ·intro z; cases z
  ·rintro ⟨t,z⟩; cases z
 | some r =>
  cases fs with
  | nil=>exact ⟨λ _=>⟨r,rfl⟩,λ _=>rfl⟩
  | cons f fs =>
   have ht:=h.top r f fs rfl rfl
   constructor
   ·intro z
    have z:nds (f :: fs) = []:=z
    unfold nds at z
    rw [List.map_cons,List.flatten_cons,ndF,if_neg ht] at z
    split at z <;> simp at z
   ·rintro ⟨t,z⟩; cases z
def rplace:PSt -> List Nat -> Nat -> Option Nat
 | s,[],i=>if need s = [] then none else some i
 | s,c :: l,i=>if c ∈ legal s then rplace (stp s c) l (i + 1) else some i
theorem rp_run:∀ {l:List Nat} {s s':PSt} {r:List Nat} {i:Nat},run s l = some s' -> rplace s (l ++ r) i = rplace s' r (i + l.length)
 | [],s,s',r,i,h=>by cases h; rfl
 | c :: l,s,s',r,i,h=>by
  rw [run] at h
  split at h
  ·rename_i hl
   rw [List.cons_append,rplace,if_pos hl,rp_run h,List.length_cons]
   congr 1; omega
  ·cases h
theorem rp_at {L:List Nat} {i:Nat} {s:PSt} (hi:i <= L.length) (h:run ([],none) (L.take i) = some s):rplace ([],none) L 0 = rplace s (L.drop i) i:=by
 have:=rp_run (r:=L.drop i) (i:=0) h
 rw [List.take_append_drop,List.length_take,Nat.min_eq_left hi,Nat.zero_add] at this
 exact this
def frt (fr:Fr):List Nat:=match fr.2 with
 | none=>[fr.1]
 | some l=>[40] ++ l.text ++ [fr.1]
def tx:List Fr -> List Nat
 | []=>[]
 | fr :: fs=>tx fs ++ frt fr
def stx (s:PSt):List Nat:=tx s.1 ++ (match s.2 with
 | none=>[]
 | some t=>t.text)
structure OkS (s:PSt):Prop where
 wf:Wfs s
 ofF:∀ fr ∈ s.1,∀ l,fr.2 = some l -> l.Of nine
 ofE:∀ t,s.2 = some t -> t.Of nine
theorem wn_tx:∀ {fs:List Fr} {t:Tr},(∀ fr ∈ fs,Fok fr) -> tx (wn fs t).1 ++ (wn fs t).2.text = tx fs ++ t.text
 | [],t,_=>rfl
 | f :: fs,t,h=>by
  unfold wn
  split
  ·rename_i h126
   rw [wn_tx λ fr hf=>h fr (List.mem_cons_of_mem _ hf)]
   have hf:f.2 = none:=by
    rcases h f (List.mem_cons_self ..) with ⟨z,_⟩ | ⟨l,_,z⟩
    ·exact z
    ·exfalso; rcases z with z | z | z <;> (rw [z] at h126; exact absurd h126 (by decide))
   show tx fs ++ ([126] ++ t.text) = tx fs ++ frt f ++ t.text
   rw [frt,hf,h126,List.append_assoc]
  ·rfl
theorem wn_of:∀ {fs:List Fr} {t:Tr},t.Of nine -> (wn fs t).2.Of nine
 | [],t,h=>h
 | f :: fs,t,h=>by
  unfold wn
  split
  ·exact wn_of (t:=.neg t) h
  ·exact h
theorem OkS.step {s:PSt} {c:Nat} (h:OkS s) (hl:c ∈ legal s):OkS (stp s c) /\ stx (stp s c) = stx s ++ [c]:=by
 have wf':=h.wf.step hl
 obtain ⟨fs,e⟩:=s
 by_cases h1:c ∈ [126,40]
 ·have es:stp (fs,e) c = ((c,none) :: fs,none):=by rw [stp,if_pos h1]
  have en:e = none:=by
   cases e with
   | none=>rfl
   | some r =>
    have hc:c = 126 ∨ c = 40:=by simpa using h1
    cases fs with
    | nil=>exact absurd hl (by simp [legal])
    | cons f fs =>
     have:c ∈ (if f.1 = 40 then [38,124,43] else [41]):=hl
     split at this <;> rcases hc with rfl | rfl <;> exact absurd this (by decide)
  subst en
  rw [es] at wf' ⊢
  refine ⟨⟨wf',λ fr hf l z=>?_,λ t z=>by cases z⟩,?_⟩
  ·rcases List.mem_cons.mp hf with q | q
   ·subst q; cases z
   ·exact h.ofF fr q l z
  ·show (tx fs ++ [c]) ++ [] = (tx fs ++ []) ++ [c]
   simp
 by_cases h2:c ∈ [38,124,43]
 ·obtain ⟨fr,gs,r,q⟩:=between_top h2 hl
  cases q
  have es:stp (fr :: gs,some r) c = ((c,some r) :: gs,none):=by rw [stp,if_neg h1,if_pos h2]
  have f40:fr.1 = 40:=by
   have:c ∈ (if fr.1 = 40 then [38,124,43] else [41]):=hl
   split at this
   ·assumption
   ·have hc':c = 38 ∨ c = 124 ∨ c = 43:=by simpa using h2
    rcases hc' with rfl | rfl | rfl <;> exact absurd this (by decide)
  have fn:fr.2 = none:=by
   rcases h.wf.all fr (List.mem_cons_self ..) with ⟨z,_⟩ | ⟨l,_,z⟩
   ·exact z
   ·exfalso; rcases z with z | z | z <;> (rw [z] at f40; exact absurd f40 (by decide))
  rw [es] at wf' ⊢
  refine ⟨⟨wf',λ fr' hf l z=>?_,λ t z=>by cases z⟩,?_⟩
  ·rcases List.mem_cons.mp hf with q | q
   ·subst q; cases z; exact h.ofE _ rfl
   ·exact h.ofF fr' (List.mem_cons_of_mem _ q) l z
  ·show (tx gs ++ ([40] ++ r.text ++ [c])) ++ [] = (tx gs ++ frt fr) ++ r.text ++ [c]
   rw [frt,fn,f40]
   simp
 by_cases h3:c = 41
 ·subst h3
  obtain ⟨op,l,gs,r,q,hop⟩:=close_top h.wf hl
  cases q
  have es:stp ((op,some l) :: gs,some r) 41 = ((wn gs (.bin op l r)).1,some (wn gs (.bin op l r)).2):=by rw [stp,if_neg (by decide),if_neg (by decide),if_pos rfl]
  rw [es] at wf' ⊢
  have lo:=h.ofF (op,some l) (List.mem_cons_self ..) l rfl
  have ro:=h.ofE r rfl
  refine ⟨⟨wf',λ fr hf l' z=>h.ofF fr (List.mem_cons_of_mem _ (wn_mem hf)) l' z,λ t z=>by cases z; exact wn_of ⟨hop,lo,ro⟩⟩,?_⟩
  show tx (wn gs (.bin op l r)).1 ++ (wn gs (.bin op l r)).2.text = (tx gs ++ ([40] ++ l.text ++ [op])) ++ r.text ++ [41]
  rw [wn_tx λ fr hf=>h.wf.all fr (List.mem_cons_of_mem _ hf)]
  show tx gs ++ ([40] ++ l.text ++ [op] ++ r.text ++ [41]) = _
  simp
 ·have en:e = none:=by
   cases e with
   | none=>rfl
   | some r =>
    cases fs with
    | nil=>exact absurd hl (by simp [legal])
    | cons f fs =>
     have:c ∈ (if f.1 = 40 then [38,124,43] else [41]):=hl
     split at this
     ·exact absurd this h2
     ·exact absurd (List.mem_singleton.mp this) h3
  subst en
  have es:stp (fs,none) c = ((wn fs (single c)).1,some (wn fs (single c)).2):=by rw [stp,if_neg h1,if_neg h2,if_neg h3]
  rw [es] at wf' ⊢
  have so:(single c).Of nine /\ (single c).text = [c]:=by
   rcases single_cases hl h1 h2 h3 with rfl | rfl | z
   ·exact ⟨trivial,rfl⟩
   ·exact ⟨trivial,rfl⟩
   ·rw [single_nine z]; exact ⟨z,rfl⟩
  refine ⟨⟨wf',λ fr hf l' z=>h.ofF fr (wn_mem hf) l' z,λ t z=>by cases z; exact wn_of so.1⟩,?_⟩
  show tx (wn fs (single c)).1 ++ (wn fs (single c)).2.text = (tx fs ++ []) ++ [c]
  rw [wn_tx h.wf.all,so.2]
  simp
theorem oks0:OkS ([],none):=⟨wfs0,λ _ h=>(by cases h),λ _ e=>by cases e⟩
theorem run_oks:∀ {l:List Nat} {s s':PSt},OkS s -> run s l = some s' -> OkS s' /\ stx s' = stx s ++ l
 | [],_,_,h,e=>by cases e; exact ⟨h,(List.append_nil _).symm⟩
 | c :: l,s,s',h,e=>by
  rw [run] at e
  split at e
  ·rename_i hl
   obtain ⟨h1,h2⟩:=h.step hl
   obtain ⟨h3,h4⟩:=run_oks h1 e
   exact ⟨h3,by rw [h4,h2,List.append_assoc]; rfl⟩
  ·cases e
theorem Tr.wt_text:∀ t:Tr,t.wt <= t.text.length /\ t.ht <= t.text.length
 | .letter _=>⟨Nat.le_refl _,Nat.le_refl _⟩
 | .one=>⟨Nat.le_refl _,Nat.le_refl _⟩
 | .zero=>⟨Nat.le_refl _,Nat.le_refl _⟩
 | .neg t=>by
  have:=Tr.wt_text t
  refine ⟨?_,?_⟩
  ·show t.wt + 1 <= ([126] ++ t.text).length
   rw [List.length_append]; show _ <= 1 + _; omega
  ·show t.ht + 1 <= ([126] ++ t.text).length
   rw [List.length_append]; show _ <= 1 + _; omega
 | .bin op t u=>by
  have h1:=Tr.wt_text t
  have h2:=Tr.wt_text u
  have e:([40] ++ t.text ++ [op] ++ u.text ++ [41]).length = t.text.length + u.text.length + 3:=by simp; omega
  refine ⟨?_,?_⟩
  ·show t.wt + u.wt <= ([40] ++ t.text ++ [op] ++ u.text ++ [41]).length
   rw [e]; omega
  ·show max t.ht u.ht + 1 <= ([40] ++ t.text ++ [op] ++ u.text ++ [41]).length
   rw [e]; omega
theorem rp_none {L:List Nat} {s:PSt} (h:run ([],none) L = some s) (hn:rplace s [] L.length = none):∃ t,s = ([],some t) /\ t.text = L /\ t.Of nine:=by
 obtain ⟨ok,ex⟩:=run_oks oks0 h
 have hn:(if need s = [] then none else some L.length) = none:=hn
 by_cases z:need s = []
 ·obtain ⟨t,rfl⟩:=(need_nil ok.wf).mp z
  exact ⟨t,rfl,by simpa [stx,tx] using ex,ok.ofE t rfl⟩
 ·rw [if_neg z] at hn; cases hn
end
end Law
set_option Elab.async false
set_option linter.all false
set_option maxRecDepth 100000
set_option maxHeartbeats 4000000
namespace Law
open PySem L2 Fs
section
variable {P:Program} {w:World} {K:PySem.W.Frag} {mg:Str -> Option Value} {base:Heap}
def SameX (H H':Hp):Prop:=∀ b o,H b = some o -> (∀ xs,o ≠ .lst xs) -> H' b = some o
theorem same_x {H H':Hp} (g:Same H H'):SameX H H':=λ _ _ e _=>g _ _ e
theorem SameX.trans {H H1 H2:Hp} (a:SameX H H1) (b:SameX H1 H2):SameX H H2:=λ _ _ e n=>b _ _ (a _ _ e n) n
theorem SameX.updL {H:Hp} {l:Addr} {xs:List V} {o:HO} (h:H l = some (.lst xs)):SameX H (upd H l o):=λ b p e n=>by
 have:b ≠ l:=λ q=>by rw [q,h] at e; cases e; exact n xs rfl
 rw [upd_ne this]; exact e
def But (a:Addr) (H H':Hp):Prop:=∀ b o,b ≠ a -> H b = some o -> H' b = some o
theorem But.refl (a:Addr) (H:Hp):But a H H:=λ _ _ _ e=>e
theorem But.trans {a:Addr} {H H1 H2:Hp} (h:But a H H1) (g:But a H1 H2):But a H H2:=λ _ _ n e=>g _ _ n (h _ _ n e)
theorem same_but {a:Addr} {H H':Hp} (g:Same H H'):But a H H':=λ _ _ _ e=>g _ _ e
theorem But.upd {a:Addr} {H H':Hp} {o:HO} (g:But a H H'):But a H (upd H' a o):=λ b p n e=>by rw [upd_ne n]; exact g _ _ n e
theorem But.same {a:Addr} {H0 H H':Hp} (g:But a H H') (g0:Same H0 H) (f:H0 a = none):Same H0 H':=λ b o e=>g b o (λ q=>by rw [q,f] at e; cases e) (g0 _ _ e)
theorem ObjAt.monoX {c:CA} {H H':Hp} (g:SameX H H'):∀ {t:Tr} {v:V},ObjAt c H t v -> ObjAt c H' t v
 | .letter _,_,⟨a,dx,e,h⟩=>⟨a,dx,e,g _ _ h (λ _ z=>nomatch z)⟩
 | .one,_,⟨a,dx,e,h⟩=>⟨a,dx,e,g _ _ h (λ _ z=>nomatch z)⟩
 | .zero,_,⟨a,dx,e,h⟩=>⟨a,dx,e,g _ _ h (λ _ z=>nomatch z)⟩
 | .neg t,_,⟨a,dx,x,e,h,r⟩=>⟨a,dx,x,e,g _ _ h (λ _ z=>nomatch z),ObjAt.monoX g r⟩
 | .bin op t u,_,⟨a,dx,x,y,e,h,r,r'⟩=>⟨a,dx,x,y,e,g _ _ h (λ _ z=>nomatch z),ObjAt.monoX g r,ObjAt.monoX g r'⟩
def EndAt (c:CA) (H:Hp):Option Tr -> V -> Prop
 | none,v=>v = .non
 | some t,v=>ObjAt c H t v
theorem EndAt.monoX {c:CA} {H H':Hp} (g:SameX H H'):∀ {e:Option Tr} {v:V},EndAt c H e v -> EndAt c H' e v
 | none,_,h=>h
 | some _,_,h=>ObjAt.monoX g h
theorem ObjAt.ref {c:CA} {H:Hp} {t:Tr} {v:V} (h:ObjAt c H t v):∃ a,v = .ref a:=by
 cases t with
 | letter l=>obtain ⟨a,_,e,_⟩:=h; exact ⟨a,e⟩
 | one=>obtain ⟨a,_,e,_⟩:=h; exact ⟨a,e⟩
 | zero=>obtain ⟨a,_,e,_⟩:=h; exact ⟨a,e⟩
 | neg u=>obtain ⟨a,_,_,e,_⟩:=h; exact ⟨a,e⟩
 | bin op u w=>obtain ⟨a,_,_,_,e,_⟩:=h; exact ⟨a,e⟩
theorem EndAt.non {c:CA} {H:Hp} {e:Option Tr} {v:V} (h:EndAt c H e v):decide (v = .non) = e.isNone:=by
 cases e with
 | none=>rw [show v = .non from h]; rfl
 | some t=>obtain ⟨a,rfl⟩:=ObjAt.ref h; rfl
def FrAt (c:CA) (H:Hp) (fr:Fr) (x:V):Prop:=∃ a v,x = .ref a /\ H a = some (.tup [vS [fr.1],v]) /\ EndAt c H fr.2 v
theorem FrAt.monoX {c:CA} {H H':Hp} {fr:Fr} {x:V} (h:FrAt c H fr x) (g:SameX H H'):FrAt c H' fr x:=let ⟨a,v,e,h,k⟩:=h; ⟨a,v,e,g _ _ h (λ _ z=>nomatch z),k.monoX g⟩
inductive FrmI (c:CA) (H:Hp):List V -> List Fr -> Prop where
 | nil:FrmI c H [] []
 | snoc {ws:List V} {fs:List Fr} {x:V} {fr:Fr} (h:FrmI c H ws fs) (k:FrAt c H fr x):FrmI c H (ws ++ [x]) (fr :: fs)
theorem FrmI.monoX {c:CA} {H H':Hp} {vs:List V} {fs:List Fr} (h:FrmI c H vs fs) (g:SameX H H'):FrmI c H' vs fs:=by
 induction h with
 | nil=>exact .nil
 | snoc h k ih=>exact ih.snoc (k.monoX g)
theorem FrmI.len {c:CA} {H:Hp} {vs:List V} {fs:List Fr} (h:FrmI c H vs fs):vs.length = fs.length:=by
 induction h with
 | nil=>rfl
 | snoc h k ih=>rw [List.length_append,List.length_singleton,List.length_cons,ih]
theorem FrmI.top {c:CA} {H:Hp} {vs:List V} {fr:Fr} {fs:List Fr} (h:FrmI c H vs (fr :: fs)):∃ ws x,vs = ws ++ [x] /\ FrmI c H ws fs /\ FrAt c H fr x:=by
 cases h with
 | snoc h k=>exact ⟨_,_,rfl,h,k⟩
theorem FrmI.empty {c:CA} {H:Hp} {vs:List V} (h:FrmI c H vs []):vs = []:=by
 have:=h.len
 exact List.length_eq_zero_iff.mp this
theorem ixN_last (n:Nat):ixN (n + 1) (-1) = some n:=by
 unfold ixN
 rw [if_neg (by decide),if_pos (by omega)]
 congr 1; omega
theorem atI_last (ws:List V) (x:V):atI (ws ++ [x]) (-1) = some x:=by
 unfold atI
 rw [List.length_append,List.length_singleton,ixN_last]
 simp
theorem ifF2 {c A B:Prop} [Decidable c] (hc:¬ c) (h:B):if c then A else B:=by rw [if_neg hc]; exact h
theorem ifT {c A B:Prop} [Decidable c] (hc:c) (h:A):if c then A else B:=by rw [if_pos hc]; exact h
def spSn (c:CA):Sp:=λ vs H Q _=>∃ s:Nat,vs = [vS [s]] /\ ∀ o H',Same H H' -> ObjAt c H' (single s) o -> Q o H'
def spPr (c:CA):Sp:=λ vs H Q _=>∃ (op:Nat) (x y:V) (t u:Tr),vs = [vS [op],x,y] /\ (op = 38 ∨ op = 124 ∨ op = 43) /\ ObjAt c H t x /\ ObjAt c H u y /\ ∀ o H',Same H H' -> ObjAt c H' (.bin op t u) o -> Q o H'
theorem sc_sn:FnScope ["sign"] ["sign"] (defScope s_single_of):=⟨rfl,rfl,rfl,by decide +kernel,rfl,by decide +kernel,by decide +kernel⟩
theorem sc_pr:FnScope ["sign","one","other"] ["sign","one","other"] (defScope s_pair_of):=⟨rfl,rfl,rfl,by decide +kernel,rfl,by decide +kernel,by decide +kernel⟩
theorem sc_wn:FnScope ["opened","saying"] ["opened","saying"] (defScope s_with_nots):=⟨rfl,rfl,rfl,by decide +kernel,rfl,by decide +kernel,by decide +kernel⟩
theorem sc_sb:FnScope ["opened","ended"] ["opened","ended"] (defScope s_signs_behind):=⟨rfl,rfl,rfl,by decide +kernel,rfl,by decide +kernel,by decide +kernel⟩
theorem sc_tk:FnScope ["opened","ended","sign","waiting"] ["opened","ended","sign"] (defScope s_taken):=⟨rfl,rfl,rfl,by decide +kernel,rfl,by decide +kernel,by decide +kernel⟩
theorem sc_rd:FnScope ["text","opened","ended","place","sign"] ["text"] (defScope s_read):=⟨rfl,rfl,rfl,by decide +kernel,rfl,by decide +kernel,by decide +kernel⟩
section
variable {c:CA} {iL iN iP f:Addr} {fdL fdN fdP fd:FuncData}
theorem ok_sn (F:Fun K "single_of" "single_of" s_single_of f fd) (C:CTxt K c iL iN iP) (mA:mg "Always" = some (.ref c.always)) (mN:mg "Never" = some (.ref c.never)) (mL:mg "Letter" = some (.ref c.letter))
  (GL:FnOk P w K mg base CX0 1 iL fdL ["self","letter"] (spInit1 K "letter")) (bL:Binds K fdL ["self","letter"] []):FnOk P w K mg base CX0 3 f fd ["sign"] (spSn c):=by
 refine F.ok sc_sn (λ vs H Q E h=>?_) (λ cdv A outer s H vs Q E hr h=>?_)
 ·obtain ⟨z,rfl,_⟩:=h
  rfl
 obtain ⟨z,rfl,q⟩:=h
 have hr2:Room 2 _:=hr.mono (by decide)
 refine ⟨_,(pss_cons (ps_if (pt_cmpR op_eq (pv 0) pe_str (nomark _)) (pss_one (ps_ret (pe_makeN C.mAlways (by rfl) mA))) pss_nil)
  (pss_cons (ps_if (pt_cmpR op_eq (pv 0) pe_str (nomark _)) (pss_one (ps_ret (pe_makeN C.mNever (by rfl) mN))) pss_nil)
  (pss_one (ps_ret (pe_make C.mLetter GL hr2 (by rfl) mL bL .nil pass0 (pa_cons (pv 0) pa_nil)))))),?_⟩
 rw [s_one,s_zero]
 refine difT (dtest (dEqV st_at (dvA rfl) dC)) at0 (λ hb H1 g1=>?_) (λ hb H1 g1=>?_)
 ·have e:z = 49:=by simpa using of_decide_eq_true hb
  exact λ x dx hx hdx ne=>q _ _ ((g1.at (g1.free hdx)).at (g1.free hx)) (by rw [single,if_pos e]; exact ⟨x,dx,rfl,upd_same⟩)
 have n1:¬ z = 49:=λ e=>by simpa [e] using of_decide_eq_false hb
 refine difT (dtest (dEqV st_at (dvA rfl) dC)) at0 (λ hb H2 g2=>?_) (λ hb H2 g2=>?_)
 ·have e:z = 48:=by simpa using of_decide_eq_true hb
  have g:=g1.trans g2
  exact λ x dx hx hdx ne=>q _ _ ((g.at (g.free hdx)).at (g.free hx)) (by rw [single,if_neg n1,if_pos e]; exact ⟨x,dx,rfl,upd_same⟩)
 have n0:¬ z = 48:=λ e=>by simpa [e] using of_decide_eq_false hb
 have g:=g1.trans g2
 refine ⟨_,rfl,λ x dx hx hdx ne=>⟨c.letter,x,dx,_,rfl,upd_same,C.letter,C.aLetter,rfl,?_⟩⟩
 exact q _ _ (((g.at (g.free hdx)).at (g.free hx)).at (g.free hx)) (by rw [single,if_neg n1,if_neg n0]; exact ⟨x,dx,rfl,upd_same⟩)
theorem ok_pr (F:Fun K "pair_of" "pair_of" s_pair_of f fd) (C:CTxt K c iL iN iP) (mD:mg "And" = some (.ref c.and)) (mR:mg "Or" = some (.ref c.or)) (mE:mg "Either" = some (.ref c.either))
  (GP:FnOk P w K mg base CX0 1 iP fdP ["self","one","other"] (spInit2 K "one" "other")) (bP:Binds K fdP ["self","one","other"] []):FnOk P w K mg base CX0 3 f fd ["sign","one","other"] (spPr c):=by
 refine F.ok sc_pr (λ vs H Q E h=>?_) (λ cdv A outer s H vs Q E hr h=>?_)
 ·obtain ⟨op,x,y,t,u,rfl,_⟩:=h
  rfl
 obtain ⟨op,o,p,t,u,rfl,hop,ob,pb,q⟩:=h
 have hr2:Room 2 _:=hr.mono (by decide)
 refine ⟨_,(pss_cons (ps_if (pt_cmpR op_eq (pv 0) pe_str (nomark _)) (pss_one (ps_ret (pe_make C.mAnd GP hr2 (by rfl) mD bP .nil pass0 (pa_cons (pv 1) (pa_cons (pv 2) pa_nil))))) pss_nil)
  (pss_cons (ps_if (pt_cmpR op_eq (pv 0) pe_str (nomark _)) (pss_one (ps_ret (pe_make C.mOr GP hr2 (by rfl) mR bP .nil pass0 (pa_cons (pv 1) (pa_cons (pv 2) pa_nil))))) pss_nil)
  (pss_one (ps_ret (pe_make C.mEither GP hr2 (by rfl) mE bP .nil pass0 (pa_cons (pv 1) (pa_cons (pv 2) pa_nil))))))),?_⟩
 rw [s_amp,s_bar]
 have fin:∀ (Cl x dx:Addr) (H7:Hp),Same H H7 -> Cl = c.bin op -> H7 x = none -> H7 dx = none -> Q (.ref x) (upd (upd (upd (upd H7 dx (.own x)) x (.ins Cl dx [])) x (.ins Cl dx [("one",o)])) x (.ins Cl dx [("one",o),("other",p)])):=λ Cl x dx H7 g7 e hx hdx=>by
  subst e
  have k:=(((g7.at (g7.free hdx) (o:=.own x)).at (g7.free hx) (o:=.ins (c.bin op) dx [])).at (g7.free hx) (o:=.ins (c.bin op) dx [("one",o)])).at (g7.free hx) (o:=.ins (c.bin op) dx [("one",o),("other",p)])
  exact q _ _ k ⟨x,dx,o,p,rfl,upd_same,ob.mono k,pb.mono k⟩
 refine difT (dtest (dEqV st_at (dvA rfl) dC)) at0 (λ hb H7 g7=>?_) (λ hb H7 g7=>?_)
 ·have e:op = 38:=by simpa using of_decide_eq_true hb
  refine ⟨_,rfl,_,rfl,λ x dx hx hdx ne=>⟨c.and,x,dx,_,_,rfl,upd_same,C.and,C.aAnd.1,C.aAnd.2,rfl,?_⟩⟩
  exact fin c.and x dx H7 g7 (by rw [CA.bin,if_pos e]) hx hdx
 have n38:¬ op = 38:=λ e=>by simpa [e] using of_decide_eq_false hb
 refine difT (dtest (dEqV st_at (dvA rfl) dC)) at0 (λ hb H8 g8=>?_) (λ hb H8 g8=>?_)
 ·have e:op = 124:=by simpa using of_decide_eq_true hb
  refine ⟨_,rfl,_,rfl,λ x dx hx hdx ne=>⟨c.or,x,dx,_,_,rfl,upd_same,C.or,C.aOr.1,C.aOr.2,rfl,?_⟩⟩
  exact fin c.or x dx H8 (g7.trans g8) (by rw [CA.bin,if_neg n38,if_pos e]) hx hdx
 have n124:¬ op = 124:=λ e=>by simpa [e] using of_decide_eq_false hb
 refine ⟨_,rfl,_,rfl,λ x dx hx hdx ne=>⟨c.either,x,dx,_,_,rfl,upd_same,C.either,C.aEither.1,C.aEither.2,rfl,?_⟩⟩
 exact fin c.either x dx H8 (g7.trans g8) (by rw [CA.bin,if_neg n38,if_neg n124]) hx hdx
def spWn (c:CA):Sp:=λ vs H Q _=>∃ (ao:Addr) (v:V) (ws:List V) (fs:List Fr) (t:Tr),vs = [.ref ao,v] /\ H ao = some (.lst ws) /\ FrmI c H ws fs /\ ObjAt c H t v /\ ∀ v' ws' H',But ao H H' -> H' ao = some (.lst ws') -> FrmI c H' ws' (wn fs t).1 -> ObjAt c H' (wn fs t).2 v' -> Q v' H'
theorem ok_wn (F:Fun K "with_nots" "with_nots" s_with_nots f fd) (T:Txt mg) (C:CTxt K c iL iN iP) (mO:mg "Not" = some (.ref c.not))
  (GN:FnOk P w K mg base CX0 1 iN fdN ["self","one"] (spInit1 K "one")) (bN:Binds K fdN ["self","one"] []):FnOk P w K mg base CX0 3 f fd ["opened","saying"] (spWn c):=by
 refine F.ok sc_wn (λ vs H Q E h=>?_) (λ cdv A outer s H vs Q E hr h=>?_)
 ·obtain ⟨ao,v,ws,fs,t,rfl,_⟩:=h
  rfl
 obtain ⟨ao,v,ws,fs,t,rfl,ho,fm,ob,q⟩:=h
 have hr2:Room 2 _:=hr.mono (by decide)
 refine ⟨_,(pss_cons (ps_while PassesOwn.never (PW.pt (pw_and (pt_cmpR op_gt (pe_callB call_len_seq (by rfl) T.len PySem.boot_len (pa_cons (pv 0) pa_nil)) pe_int (nomark _)) (pw_and1 (pt_cmpR op_eq (pe_ix ix_tup (pe_ix ix_list (pv 0) (pe_un un_neg pe_int) (λ _ _=>rfl)) pe_int (λ _ _=>rfl)) pe_str (nomark _))))) (pss_cons (ps_expr (pe_bm0 PySem.F.plainAttrs_list PySem.F.slot_list_pop PySem.F.type_list_pop mt_pop (pv 0)))
  (pss_one (ps_set (i:=1) sc_wn.nd rfl (Or.inl rfl) (pe_make C.mNot GN hr2 (by rfl) mO bN .nil pass0 (pa_cons (pv 1) pa_nil))))))
  (pss_one (ps_ret (pv 1)))),?_⟩
 rw [wave]
 refine ⟨λ μ σ H'=>∃ (v':V) (ws':List V) (fs':List Fr) (t':Tr),σ = [some (.ref ao),some v'] /\ But ao H H' /\ H' ao = some (.lst ws') /\ FrmI c H' ws' fs' /\ ObjAt c H' t' v' /\ wn fs' t' = wn fs t /\ μ = fs'.length,⟨_,v,ws,fs,t,rfl,But.refl _ _,ho,fm,ob,rfl,rfl⟩,?_⟩
 rintro μ σ H1 ⟨v',ws',fs',t',rfl,g1,ho1,fm1,ob1,ew,rfl⟩
 refine ⟨_,rfl,ao,_,rfl,.inl (SqL.of ho1),_,_,rfl,rfl,_,rfl,?_⟩
 cases fs' with
 | nil =>
  have e:=fm1.empty
  subst e
  refine iteF ?_
  refine iteF ?_
  rw [wn] at ew
  exact ⟨_,rfl,q v' [] H1 g1 ho1 (by rw [<- ew]; exact .nil) (by rw [<- ew]; exact ob1)⟩
 | cons fr fs' =>
  obtain ⟨us,x,rfl,fu,kx⟩:=fm1.top
  obtain ⟨ax,vx,rfl,hax,ke⟩:=kx
  refine ifT (by rw [List.length_append,List.length_singleton]; simp) ?_
  refine ⟨_,rfl,_,rfl,ao,_,_,_,rfl,rfl,SqL.of ho1,atI_last us (.ref ax),ax,_,_,vS [fr.1],rfl,rfl,SqT.of hax,rfl,rfl,_,rfl,?_⟩
  have ee:decide (vS [fr.1] = vS [126]) = decide (fr.1 = 126):=by
   by_cases h:fr.1 = 126
   ·rw [h]; simp
   ·rw [decide_eq_false h,decide_eq_false λ e=>h (by have:=vS_inj e; simpa using this)]
  rw [show decide (vS [fr.1] = V.str (ofCs [126])) = decide (fr.1 = 126) from ee]
  rw [wn] at ew
  by_cases h126:fr.1 = 126
  ·rw [if_pos h126] at ew
   rw [decide_eq_true h126]
   refine iteT ?_
   refine ⟨λ σ' H'=>∃ (v':V) (ws':List V) (t':Tr),σ' = [some (.ref ao),some v'] /\ But ao H H' /\ H' ao = some (.lst ws') /\ FrmI c H' ws' fs' /\ ObjAt c H' t' v' /\ wn fs' t' = wn fs t,?_,?_⟩
   ·rintro σ' H' ⟨v2,ws2,t2,e,b1,b2,b3,b4,b5⟩
    exact ⟨fs'.length,Nat.lt_succ_self _,v2,ws2,fs',t2,e,b1,b2,b3,b4,b5,rfl⟩
   refine ⟨_,rfl,.inl ⟨rfl,_,SqL.of ho1⟩,ao,_,.ref ax,rfl,rfl,ho1,snoc_last us (.ref ax),?_⟩
   rw [List.dropLast_concat]
   have x1:SameX H1 (upd H1 ao (.lst us)):=SameX.updL ho1
   refine ⟨_,rfl,λ x dx hx hdx ne=>⟨c.not,x,dx,_,rfl,upd_same,C.not,C.aNot,rfl,?_⟩⟩
   have k2:=((((Same.refl (upd H1 ao (.lst us))).at hdx (o:=.own x)).at ((Same.refl _).free hx) (o:=.ins c.not dx [])).at ((Same.refl _).free hx) (o:=.ins c.not dx [("one",v')]))
   refine ⟨.ref x,us,.neg t',rfl,(g1.upd (o:=.lst us)).trans (same_but k2),k2 _ _ upd_same,fu.monoX (x1.trans (same_x k2)),⟨x,dx,v',rfl,upd_same,ob1.monoX (x1.trans (same_x k2))⟩,ew⟩
  ·rw [if_neg h126] at ew
   rw [decide_eq_false h126]
   refine iteF ?_
   exact ⟨_,rfl,q v' _ H1 g1 ho1 (by rw [<- ew]; exact fm1) (by rw [<- ew]; exact ob1)⟩
def spSb (c:CA):Sp:=λ vs H Q _=>∃ (ao:Addr) (v:V) (ws:List V) (s:PSt),vs = [.ref ao,v] /\ H ao = some (.lst ws) /\ FrmI c H ws s.1 /\ EndAt c H s.2 v /\ ∀ H',Same H H' -> Q (vS (legal s)) H'
theorem s_01:("01":Str) = ofCs [48,49]:=by decide +kernel
theorem s_ope:("~(":Str) = ofCs [126,40]:=by decide +kernel
theorem ok_sb (F:Fun K "signs_behind" "signs_behind" s_signs_behind f fd) (T:Txt mg) {t1 t2 t3:Tok} (mlet:mg "LETTERS" = some (.str "abcpqrxyz" t1)) (mope:mg "OPENING" = some (.str "~(" t2)) (mbet:mg "BETWEEN" = some (.str "&|+" t3)):FnOk P w K mg base CX0 1 f fd ["opened","ended"] (spSb c):=by
 refine F.ok sc_sb (λ vs H Q E h=>?_) (λ cdv A outer s H vs Q E hr h=>?_)
 ·obtain ⟨ao,v,ws,s,rfl,_⟩:=h
  rfl
 obtain ⟨ao,v,ws,s,rfl,ho,fm,ea,q⟩:=h
 refine ⟨_,(pss_cons (ps_if (pt_cmpR op_isN (pv 1) pe_non (nomark _)) (pss_one (ps_ret (pe_op op_addS (pe_op op_addS pe_str (pe_glob (v:=.str "abcpqrxyz") (by rfl) mlet ⟨_,rfl⟩)) (pe_glob (v:=.str "~(") (by rfl) mope ⟨_,rfl⟩)))) pss_nil)
  (pss_cons (ps_if (pt_cmpR op_eq (pe_callB call_len_seq (by rfl) T.len PySem.boot_len (pa_cons (pv 0) pa_nil)) pe_int (nomark _)) (pss_one (ps_ret pe_str)) pss_nil)
  (pss_one (ps_ret (pe_ifExp (pt_cmpR op_eq (pe_ix ix_tup (pe_ix ix_list (pv 0) (pe_un un_neg pe_int) (λ _ _=>rfl)) pe_int (λ _ _=>rfl)) pe_str (nomark _)) (pe_glob (v:=.str "&|+") (by rfl) mbet ⟨_,rfl⟩) pe_str))))),?_⟩
 rw [s_01,nine_txt,s_ope,s_none,ops1,s_open,s_close]
 obtain ⟨fs,e⟩:=s
 refine ⟨_,rfl,rfl,_,rfl,?_⟩
 rw [ea.non]
 cases e with
 | none =>
  refine iteT ?_
  refine ⟨_,_,rfl,rfl,smallE (by show 2 + 9 <= _; decide),_,_,rfl,rfl,smallE (by show 11 + 2 <= _; decide),?_⟩
  exact q H (Same.refl H)
 | some r =>
  refine iteF ?_
  refine ⟨_,rfl,ao,_,rfl,.inl (SqL.of ho),rfl,_,rfl,?_⟩
  cases fs with
  | nil =>
   have e:=fm.empty
   subst e
   refine iteT ?_
   exact q H (Same.refl H)
  | cons fr fs =>
   obtain ⟨us,x,rfl,fu,kx⟩:=fm.top
   obtain ⟨ax,vx,rfl,hax,ke⟩:=kx
   refine ifF2 (by rw [List.length_append,List.length_singleton]; simp; omega) ?_
   refine ⟨_,rfl,_,rfl,ao,_,_,_,rfl,rfl,SqL.of ho,atI_last us (.ref ax),ax,_,_,vS [fr.1],rfl,rfl,SqT.of hax,rfl,rfl,_,rfl,?_⟩
   have ee:decide (vS [fr.1] = vS [40]) = decide (fr.1 = 40):=by
    by_cases h:fr.1 = 40
    ·rw [h]; simp
    ·rw [decide_eq_false h,decide_eq_false λ e=>h (by have:=vS_inj e; simpa using this)]
   rw [show decide (vS [fr.1] = V.str (ofCs [40])) = decide (fr.1 = 40) from ee]
   have el:legal (fr :: fs,some r) = if fr.1 = 40 then [38,124,43] else [41]:=rfl
   by_cases h:fr.1 = 40
   ·rw [decide_eq_true h]
    rw [el,if_pos h] at q
    exact iteT (q H (Same.refl H))
   ·rw [decide_eq_false h]
    rw [el,if_neg h] at q
    exact iteF (q H (Same.refl H))
def spTk (c:CA):Sp:=λ vs H Q _=>∃ (ao:Addr) (v:V) (z:Nat) (ws:List V) (s:PSt),vs = [.ref ao,v,vS [z]] /\ H ao = some (.lst ws) /\ FrmI c H ws s.1 /\ EndAt c H s.2 v /\ Wfs s /\ z ∈ legal s /\ ws.length <= 10000 /\ ∀ v' ws' H',But ao H H' -> H' ao = some (.lst ws') -> FrmI c H' ws' (stp s z).1 -> EndAt c H' (stp s z).2 v' -> Q v' H'
theorem ok_tk {fw fp fs_:Addr} {fdw fdp fds:FuncData} (F:Fun K "taken" "taken" s_taken f fd) {t2 t3:Tok} (mope:mg "OPENING" = some (.str "~(" t2)) (mbet:mg "BETWEEN" = some (.str "&|+" t3))
  (Gw:FnOk P w K mg base CX0 3 fw fdw ["opened","saying"] (spWn c)) (bw:Binds K fdw ["opened","saying"] []) (kw:PySem.W.keepIn K (.ref fw) = true) (mw:mg "with_nots" = some (.ref fw))
  (Gp:FnOk P w K mg base CX0 3 fp fdp ["sign","one","other"] (spPr c)) (bp:Binds K fdp ["sign","one","other"] []) (kp:PySem.W.keepIn K (.ref fp) = true) (mp:mg "pair_of" = some (.ref fp))
  (Gs:FnOk P w K mg base CX0 3 fs_ fds ["sign"] (spSn c)) (bs:Binds K fds ["sign"] []) (ks:PySem.W.keepIn K (.ref fs_) = true) (ms:mg "single_of" = some (.ref fs_)):FnOk P w K mg base CX0 4 f fd ["opened","ended","sign"] (spTk c):=by
 refine F.ok sc_tk (λ vs H Q E h=>?_) (λ cdv A outer s H vs Q E hr h=>?_)
 ·obtain ⟨ao,v,z,ws,s,rfl,_⟩:=h
  rfl
 obtain ⟨ao,v,z,ws,s,rfl,ho,fm,ea,wf,hl,l4,q⟩:=h
 have hr3:Room 3 _:=hr.mono (by decide)
 refine ⟨_,(pss_cons (ps_if (pt_cmpR op_in_one (pv 2) (pe_glob (v:=.str "~(") (by rfl) mope ⟨_,rfl⟩) rfl) (pss_cons (ps_expr (pe_bm PySem.F.plainAttrs_list PySem.F.slot_list_append PySem.F.type_list_append mt_append (pv 0) (pa_cons (pe_tup (pa_cons (pv 2) (pa_cons pe_non pa_nil))) pa_nil)))
  (pss_one (ps_ret pe_non))) pss_nil)
  (pss_cons (ps_if (pt_cmpR op_in_one (pv 2) (pe_glob (v:=.str "&|+") (by rfl) mbet ⟨_,rfl⟩) rfl) (pss_cons (ps_asg (pe_tup (pa_cons (pv 2) (pa_cons (pv 1) pa_nil))) (pg_sub (pv 0) (pe_un un_neg pe_int) set_list))
  (pss_one (ps_ret pe_non))) pss_nil)
  (pss_cons (ps_if (pt_cmpR op_eq (pv 2) pe_str (nomark _)) (pss_cons (ps_set (i:=3) sc_tk.nd rfl (Or.inl rfl) (pe_bm0 PySem.F.plainAttrs_list PySem.F.slot_list_pop PySem.F.type_list_pop mt_pop (pv 0)))
  (pss_one (ps_ret (pe_call Gw hr3 (by rfl) mw kw bw .nil pass0 (pa_cons (pv 0) (pa_cons (pe_call Gp hr3 (by rfl) mp kp bp .nil pass0 (pa_cons (pe_ix ix_tup (pv 3) pe_int (λ _ _=>rfl)) (pa_cons (pe_ix ix_tup (pv 3) pe_int (λ _ _=>rfl)) (pa_cons (pv 1) pa_nil)))) pa_nil)))))) pss_nil)
  (pss_one (ps_ret (pe_call Gw hr3 (by rfl) mw kw bw .nil pass0 (pa_cons (pv 0) (pa_cons (pe_call Gs hr3 (by rfl) ms ks bs .nil pass0 (pa_cons (pv 2) pa_nil)) pa_nil)))))))),?_⟩
 rw [s_ope,ops1,s_close]
 refine ⟨_,rfl,_,_,rfl,rfl,_,rfl,?_⟩
 by_cases h1:z ∈ [126,40]
 ·rw [decide_eq_true h1]
  refine iteT ?_
  rw [stp,if_pos h1] at q
  refine ⟨_,rfl,.inl ⟨rfl,_,SqL.of ho⟩,_,rfl,smallE (by show 2 <= _; decide),λ p hp=>?_⟩
  have hop:upd H p (.tup [vS [z],.non]) ao = some (.lst ws):=(Same.up hp) _ _ ho
  refine ⟨ao,ws,_,rfl,rfl,hop,small (by omega),?_⟩
  have x1:SameX H (upd (upd H p (.tup [vS [z],.non])) ao (.lst (ws ++ [.ref p]))):=(same_x (Same.up hp)).trans (SameX.updL hop)
  refine q .non _ _ ((same_but (Same.up hp)).upd) upd_same ((fm.monoX x1).snoc ⟨p,.non,rfl,?_,rfl⟩) rfl
  exact SameX.updL hop _ _ upd_same (λ _ z=>nomatch z)
 rw [decide_eq_false h1]
 refine iteF ?_
 refine ⟨_,rfl,_,_,rfl,rfl,_,rfl,?_⟩
 by_cases h2:z ∈ [38,124,43]
 ·rw [decide_eq_true h2]
  refine iteT ?_
  obtain ⟨fr,fs,r,rfl⟩:=between_top h2 hl
  rw [stp,if_neg h1,if_pos h2] at q
  obtain ⟨us,x,rfl,fu,kx⟩:=fm.top
  refine ⟨_,rfl,_,rfl,smallE (by show 2 <= _; decide),λ p hp=>?_⟩
  have hop:upd H p (.tup [vS [z],v]) ao = some (.lst (us ++ [x])):=(Same.up hp) _ _ ho
  refine ⟨_,rfl,1,rfl,ao,_,_,us.length,rfl,rfl,hop,by rw [List.length_append,List.length_singleton]; exact ixN_last _,?_⟩
  have es:(us ++ [x]).set us.length (.ref p) = us ++ [.ref p]:=by simp
  rw [es]
  have x1:SameX H (upd (upd H p (.tup [vS [z],v])) ao (.lst (us ++ [.ref p]))):=(same_x (Same.up hp)).trans (SameX.updL hop)
  refine q .non _ _ ((same_but (Same.up hp)).upd) upd_same ((fu.monoX x1).snoc ⟨p,v,rfl,?_,ea.monoX x1⟩) rfl
  exact SameX.updL hop _ _ upd_same (λ _ z=>nomatch z)
 rw [decide_eq_false h2]
 refine iteF ?_
 refine difT (dtest (dEqV st_at (dvA rfl) dC)) at0 (λ hb H1 g1=>?_) (λ hb H1 g1=>?_)
 ·have e:z = 41:=by simpa using of_decide_eq_true hb
  subst e
  obtain ⟨op,l,fs,r,rfl,hop⟩:=close_top wf hl
  rw [stp,if_neg h1,if_neg h2,if_pos rfl] at q
  obtain ⟨us,x,rfl,fu,kx⟩:=fm.top
  obtain ⟨ax,vx,rfl,hax,ke⟩:=kx
  have ho1:=g1 _ _ ho
  refine ⟨_,rfl,.inl ⟨rfl,_,SqL.of ho1⟩,ao,_,.ref ax,rfl,rfl,ho1,snoc_last us (.ref ax),?_⟩
  rw [List.dropLast_concat]
  have x1:SameX H (upd H1 ao (.lst us)):=(same_x g1).trans (SameX.updL ho1)
  have hax1:=x1 _ _ hax (λ _ z=>nomatch z)
  refine ⟨_,rfl,_,rfl,ax,_,_,vS [op],rfl,rfl,SqT.of hax1,rfl,_,rfl,ax,_,_,vx,rfl,rfl,SqT.of hax1,rfl,_,rfl,op,vx,v,l,r,rfl,hop,ObjAt.monoX x1 ke,ObjAt.monoX x1 ea,λ o H2 g2 ob=>?_⟩
  refine ⟨ao,o,us,fs,.bin op l r,rfl,g2 _ _ upd_same,(fu.monoX x1).monoX (same_x g2),ob,λ v' ws' H3 b3 e3 f3 o3=>?_⟩
  exact q v' ws' H3 ((((same_but g1).upd).trans (same_but g2)).trans b3) e3 f3 o3
 ·have n41:¬ z = 41:=λ e=>by simpa [e] using of_decide_eq_false hb
  rw [stp,if_neg h1,if_neg h2,if_neg n41] at q
  refine ⟨_,rfl,_,rfl,z,rfl,λ o H2 g2 ob=>?_⟩
  have g12:=g1.trans g2
  refine ⟨ao,o,ws,s.1,single z,rfl,g12 _ _ ho,fm.monoX (same_x g12),ob,λ v' ws' H3 b3 e3 f3 o3=>?_⟩
  exact q v' ws' H3 ((same_but g12).trans b3) e3 f3 o3
end
def spInit (K:PySem.W.Frag) (fl:Str):Sp:=λ vs H Q _=>∃ (a C:Addr) (v:V),vs = [.ref a,v] /\ H a = some (exHO a C none true) /\ XCl K C /\ NoAttr K C fl /\ ∀ dx,H dx = none -> dx ≠ a -> Q .non (upd (upd H dx (.xd [(fl,v)])) a (exHO a C (some dx) true))
theorem sc_inip:FnScope ["self","place"] ["self","place"] (defScope s_NoSaying_init):=⟨rfl,rfl,rfl,by decide +kernel,rfl,by decide +kernel,by decide +kernel⟩
theorem ok_inip {k:Nat} {f:Addr} {fd:FuncData} (F:Fun K "__init__" "NoSaying.__init__" s_NoSaying_init f fd):FnOk P w K mg base CX0 (k + 1) f fd ["self","place"] (spInit K "place"):=by
 refine F.ok sc_inip (λ vs H Q E h=>?_) (λ cdv A outer s H vs Q E hr h=>?_)
 ·obtain ⟨a,C,v,rfl,_⟩:=h
  rfl
 obtain ⟨a,C,v,rfl,ha,cl,na,q⟩:=h
 refine ⟨_,pss_one (ps_xset (pv 0) (pv 1)),?_⟩
 exact ⟨_,rfl,_,rfl,a,C,true,rfl,ha,cl,na,λ dx h1 h2=>q dx h1 h2⟩
theorem made_I {H:Hp} {a dx C:Addr} {fl:Str} {v:V} (ha:H a = none) (hd:upd H a (exHO a C none true) dx = none) (ne:dx ≠ a) :
  Same H (upd (upd (upd H a (exHO a C none true)) dx (.xd [(fl,v)])) a (exHO a C (some dx) true)) /\ ExAt (upd (upd (upd H a (exHO a C none true)) dx (.xd [(fl,v)])) a (exHO a C (some dx) true)) a C /\
   upd (upd (upd H a (exHO a C none true)) dx (.xd [(fl,v)])) a (exHO a C (some dx) true) dx = some (.xd [(fl,v)]):=by
 have e:upd (upd (upd H a (exHO a C none true)) dx (.xd [(fl,v)])) a (exHO a C (some dx) true) dx = some (.xd [(fl,v)]):=by rw [upd_ne ne,upd_same]
 refine ⟨λ b o h=>?_,⟨some dx,true,upd_same,λ d z=>⟨_,by cases z; exact e⟩⟩,e⟩
 have n1:b ≠ a:=λ z=>by rw [z,ha] at h; cases h
 have n2:b ≠ dx:=λ z=>by
  rw [upd_ne ne] at hd
  rw [z,hd] at h
  cases h
 rw [upd_ne n1,upd_ne n2,upd_ne n1]
 exact h
structure XNs (P:Program) (w:World) (K:PySem.W.Frag) (mg:Str -> Option Value) (base:Heap) (Cn:Addr):Prop where
 m:mg "NoSaying" = some (.ref Cn)
 x:XCl K Cn
 na:NoAttr K Cn "place"
 ini:∃ f fd,xcIn K Cn (some (.ref f)) = true /\ PySem.W.isFn K (.ref f) = true /\ FnOk P w K mg base CX0 1 f fd ["self","place"] (spInit K "place") /\ Binds K fd ["self","place"] []
def spRdX (c:CA) (Cn:Addr):Sp:=λ vs H Q E=>∃ L:List Nat,vs = [vS L] /\ L.length <= 1000 /\ (rplace ([],none) L 0 = none -> ∀ t o H',t.text = L -> t.Of nine -> Same H H' -> ObjAt c H' t o -> Q o H') /\
 ∀ p,rplace ([],none) L 0 = some p -> ∀ a dx H',Same H H' -> H' a = some (exHO a Cn (some dx) false) -> H' dx = some (.xd [("place",.int p)]) -> E (.ref Cn) (some a) H'
theorem made_X {H:Hp} {a dx C:Addr} {fl:Str} {v:V} (ha:H a = none) (hd:upd H a (exHO a C none true) dx = none) (ne:dx ≠ a) :
  Same H (upd (upd (upd (upd H a (exHO a C none true)) dx (.xd [(fl,v)])) a (exHO a C (some dx) true)) a (exHO a C (some dx) false)) /\
   upd (upd (upd (upd H a (exHO a C none true)) dx (.xd [(fl,v)])) a (exHO a C (some dx) true)) a (exHO a C (some dx) false) dx = some (.xd [(fl,v)]):=by
 obtain ⟨g,_,e⟩:=made_I (fl:=fl) (v:=v) ha hd ne
 refine ⟨λ b o h=>?_,by rw [upd_ne ne]; exact e⟩
 have n1:b ≠ a:=λ z=>by rw [z,ha] at h; cases h
 rw [upd_ne n1]
 exact g b o h
section
variable {c:CA} {f Cn:Addr} {fd:FuncData}
theorem ok_rdX {fg ft:Addr} {fdg fdt:FuncData} (F:Fun K "read" "read" s_read f fd) (T:Txt mg) (N:XNs P w K mg base Cn)
  (Gg:FnOk P w K mg base CX0 1 fg fdg ["opened","ended"] (spSb c)) (bg:Binds K fdg ["opened","ended"] []) (kg:PySem.W.keepIn K (.ref fg) = true) (mg_:mg "signs_behind" = some (.ref fg))
  (Gt:FnOk P w K mg base CX0 4 ft fdt ["opened","ended","sign"] (spTk c)) (bt:Binds K fdt ["opened","ended","sign"] []) (kt:PySem.W.keepIn K (.ref ft) = true) (mt:mg "taken" = some (.ref ft)):FnOk P w K mg base (CXR P w) 5 f fd ["text"] (spRdX c Cn):=by
 obtain ⟨fi,di,xi,fni,Gi,bi⟩:=N.ini
 refine F.okX sc_rd (λ vs H Q E h=>?_) (λ cdv A outer s H vs Q E hr h=>?_)
 ·obtain ⟨L,rfl,_⟩:=h
  rfl
 obtain ⟨L,rfl,hL,q,qx⟩:=h
 have hr1:Room 1 _:=hr.mono (by decide)
 have hr2:Room 2 _:=hr.mono (by decide)
 have hr4:Room 4 _:=hr.mono (by decide)
 refine ⟨_,(pss_cons (ps_set (i:=1) sc_rd.nd rfl (Or.inl rfl) (pe_lst pa_nil))
  (pss_cons (ps_set (i:=2) sc_rd.nd rfl (Or.inl rfl) pe_non)
  (pss_cons (ps_for2 ownX rfl (pi_enumS (by rfl) T.enumerate (pa_cons (pv 0) pa_nil)) (pgs_cons (pg_name (i:=3) sc_rd.nd rfl (Or.inl rfl)) (pgs_cons (pg_name (i:=4) sc_rd.nd rfl (Or.inl rfl)) pgs_nil))
  (pss_cons (ps_if (pt_cmpR op_notIn_one (pv 4) (pe_call Gg hr1 (by rfl) mg_ kg bg .nil pass0 (pa_cons (pv 1) (pa_cons (pv 2) pa_nil))) rfl) (pss_one (ps_raise raises_of rfl (pe_excI xi N.x.kp fni Gi hr2 bi pass0 (by decide) (by rfl) N.m (pa_cons (pv 3) pa_nil)))) pss_nil)
   (pss_one (ps_set (i:=2) sc_rd.nd rfl (Or.inl rfl) (pe_call Gt hr4 (by rfl) mt kt bt .nil pass0 (pa_cons (pv 1) (pa_cons (pv 2) (pa_cons (pv 4) pa_nil))))))))
   (pss_cons (ps_if (PW.pt (pw_or (pt_cmpR op_isN (pv 2) pe_non (nomark _))
   (pw_or1 (pt_cmpR op_gt (pe_callB call_len_seq (by rfl) T.len PySem.boot_len (pa_cons (pv 1) pa_nil)) pe_int (nomark _))))) (pss_one (ps_raise raises_of rfl (pe_excI xi N.x.kp fni Gi hr2 bi pass0 (by decide) (by rfl) N.m (pa_cons (pe_callB call_len_str (by rfl) T.len PySem.boot_len (pa_cons (pv 0) pa_nil)) pa_nil)))) pss_nil)
   (pss_one (ps_ret (pv 2))))))),?_⟩
 have hs:(ofCs L).cps.size = L.length:=ofCs_len L
 have rz:∀ (p:Nat) (H1:Hp),Same H H1 -> rplace ([],none) L 0 = some p -> ∀ x,H1 x = none -> ∀ dx,upd H1 x (exHO x Cn none true) dx = none -> dx ≠ x ->
   (∃ a C dx',V.ref x = .ref a /\ upd (upd (upd H1 x (exHO x Cn none true)) dx (.xd [("place",.int p)])) x (exHO x Cn (some dx) true) a = some (exHO a C dx' true) /\ (∀ d,dx' = some d -> ∃ fs,upd (upd (upd H1 x (exHO x Cn none true)) dx (.xd [("place",.int p)])) x (exHO x Cn (some dx) true) d = some (.xd fs)) /\ XCl K C /\
    E (.ref C) (some a) (upd (upd (upd (upd H1 x (exHO x Cn none true)) dx (.xd [("place",.int p)])) x (exHO x Cn (some dx) true)) a (exHO a C dx' false))):=λ p H1 g hp x hx dx hd ne=>by
  obtain ⟨g1,e1⟩:=made_X (fl:="place") (v:=.int p) hx hd ne
  obtain ⟨_,_,e2⟩:=made_I (fl:="place") (v:=.int p) hx hd ne
  exact ⟨x,Cn,some dx,rfl,upd_same,λ d z=>⟨_,by cases z; exact e2⟩,N.x,qx p hp x dx _ (g.trans g1) upd_same e1⟩
 refine ⟨Nat.zero_le _,λ ao hao=>?_⟩
 refine ⟨_,rfl,_,rfl,?_⟩
 refine for_enumS (λ i σ H'=>∃ (v:V) (ws:List V) (s:PSt) (v3 v4:Option V),σ = [some (vS L),some (.ref ao),some v,v3,v4] /\ Same H H' /\ H' ao = some (.lst ws) /\ FrmI c H' ws s.1 /\ EndAt c H' s.2 v /\ run ([],none) (L.take i) = some s /\ ws.length <= i)
  ⟨.non,[],([],none),none,none,rfl,Same.up hao,upd_same,.nil,rfl,rfl,Nat.le_refl _⟩ ?_ ?_
 ·rintro i σ H1 hi ⟨v,ws,s,v3,v4,rfl,g1,e1,fm,ea,hrun,lw⟩
  rw [hs] at hi
  rw [sgn_vS hi]
  have wf:=run_wfs wfs0 hrun
  have rp:=rp_at (Nat.le_of_lt hi) hrun
  rw [List.drop_eq_getElem_cons hi,rplace] at rp
  refine ⟨_,_,rfl,_,_,rfl,rfl,?_⟩
  refine ⟨_,rfl,_,rfl,_,rfl,ao,v,ws,s,rfl,e1,fm,ea,λ H2 g2=>?_⟩
  refine ⟨_,_,rfl,rfl,_,rfl,?_⟩
  by_cases hl:L[i] ∈ legal s
  ·rw [decide_eq_true hl]
   refine iteF ?_
   have hrun':run ([],none) (L.take (i + 1)) = some (stp s L[i]):=by
    rw [List.take_succ_eq_append_getElem hi,run_app,hrun]
    show run s [L[i]] = _
    rw [run,if_pos hl]; rfl
   have x2:=same_x g2
   refine ⟨_,rfl,_,rfl,_,rfl,ao,v,_,ws,s,rfl,g2 _ _ e1,fm.monoX x2,ea.monoX x2,wf,hl,by omega,λ v' ws' H3 b3 e3 f3 o3=>?_⟩
   have ln:=f3.len
   have hst:(stp s L[i]).1.length <= i + 1:=by have:=stp_len s L[i]; have:=fm.len; omega
   exact ⟨v',ws',stp s L[i],_,_,rfl,b3.same (g1.trans g2) hao,e3,f3,o3,hrun',by omega⟩
  ·rw [decide_eq_false hl]
   refine iteT ?_
   rw [if_neg hl] at rp
   exact ⟨_,rfl,λ x hx=>⟨x,Cn,_,rfl,upd_same,N.x,N.na,λ dx hd ne=>⟨rfl,rz i H2 (g1.trans g2) rp x hx dx hd ne⟩⟩⟩
 ·rintro σ H1 ⟨v,ws,s,v3,v4,rfl,g1,e1,fm,ea,hrun,lw⟩
  rw [hs,List.take_length] at hrun
  have rp:=rp_at (Nat.le_refl _) (by rw [List.take_length]; exact hrun)
  rw [List.drop_length] at rp
  have wf:=run_wfs wfs0 hrun
  have rz2:¬ need s = [] -> ∀ x,H1 x = none -> ∀ dx,upd H1 x (exHO x Cn none true) dx = none -> dx ≠ x -> _:=λ hn=>by
   have rp2:rplace ([],none) L 0 = some L.length:=by rw [rp,rplace,if_neg hn]
   exact rz L.length H1 g1 rp2
  have lL:(ofCs L).length = L.length:=ofCs_len L
  have lfm:=fm.len
  obtain ⟨fs,e⟩:=s
  cases e with
  | none =>
   obtain rfl:v = .non:=ea
   refine ⟨_,rfl,rfl,_,rfl,iteT (iteT ?_)⟩
   have hn:¬ need (fs,none) = []:=λ z=>by cases z
   refine ⟨_,rfl,_,rfl,?_⟩
   rw [lL]
   exact ⟨smallE (Nat.le_trans hL (by decide)),λ x hx=>⟨x,Cn,_,rfl,upd_same,N.x,N.na,λ dx hd ne=>⟨rfl,rz2 hn x hx dx hd ne⟩⟩⟩
  | some t =>
   obtain ⟨a,rfl⟩:=ObjAt.ref ea
   refine ⟨_,rfl,rfl,_,rfl,iteF ?_⟩
   refine ⟨_,rfl,ao,_,rfl,.inl (SqL.of e1),_,_,rfl,rfl,_,rfl,?_⟩
   cases fs with
   | nil =>
    have e:=fm.empty
    subst e
    refine iteF ?_
    have nn:rplace ([],none) L 0 = none:=by rw [rp]; rfl
    obtain ⟨t',ht',tt,to⟩:=rp_none hrun (by rfl)
    cases ht'
    exact ⟨_,rfl,q nn t _ H1 tt to g1 ea⟩
   | cons f fs =>
    have hn:¬ need (f :: fs,some t) = []:=λ z=>by
     obtain ⟨t',z⟩:=(need_nil wf).mp z
     cases z
    have l0:(0:Int) < (ws.length:Int):=by rw [lfm,List.length_cons]; omega
    rw [decide_eq_true l0]
    refine iteT ?_
    refine ⟨_,rfl,_,rfl,?_⟩
    rw [lL]
    exact ⟨smallE (Nat.le_trans hL (by decide)),λ x hx=>⟨x,Cn,_,rfl,upd_same,N.x,N.na,λ dx hd ne=>⟨rfl,rz2 hn x hx dx hd ne⟩⟩⟩
end
end
end Law
set_option Elab.async false
set_option linter.all false
set_option maxRecDepth 100000
set_option maxHeartbeats 4000000
namespace Law
open PySem L2 Fs
section
variable {P:Program} {w:World} {K:PySem.W.Frag} {mg:Str -> Option Value} {base:Heap}
theorem dslx {Γ:St -> Hp -> Prop} {t1 t2:TE} (st:Stb Γ) {p:List Nat} {j:Nat} (h1:Dv Γ t1 (vS p)) (h2:Dv Γ t2 (.int j)) (hp:p.length <= 1000):Dv Γ (tSl rSlX t1 tNoPart (tPart t2)) (vS (p.take j)):=λ σ H Q hΓ k =>
 h1 σ H _ hΓ λ H1 g1=>h2 σ H1 _ (st _ _ _ hΓ g1) λ H2 g2=>⟨j,rfl,ofCs p,j,rfl,rfl,rfl,by rw [ofCs_len]; exact hp,k H2 (g1.trans g2)⟩
theorem dslg {Γ:St -> Hp -> Prop} {t1 t2:TE} (st:Stb Γ) {p:List Nat} {j:Nat} (h1:Dv Γ t1 (vS p)) (h2:Dv Γ t2 (.int j)) (hp:p.length <= 1000):Dv Γ (tSl rSlG t1 (tPart t2) tNoPart) (vS (p.drop j)):=λ σ H Q hΓ k =>
 h1 σ H _ hΓ λ H1 g1=>h2 σ H1 _ (st _ _ _ hΓ g1) λ H2 g2=>⟨j,rfl,ofCs p,j,rfl,rfl,rfl,by rw [ofCs_len]; exact hp,k H2 (g1.trans g2)⟩
theorem daddC {Γ:St -> Hp -> Prop} {t1:TE} {j:Nat} (h1:Dv Γ t1 (.int j)):Dv Γ (tOp (rI0 λ i j=>.int (i + j)) t1 (tC (.int 1))) (.int ((j + 1:Nat):Int)):=λ σ H Q hΓ k =>
 h1 σ H _ hΓ λ H1 g1=>⟨j,1,rfl,rfl,k H1 g1⟩
def spSgn:Sp:=λ vs H Q _=>∃ m:Int,vs = [.int m] /\ ∀ (c:Nat) H',Same H H' -> Q (vS [c]) H'
theorem sc_sgn:FnScope ["_law_mix","_law_some"] ["_law_mix"] (defScope s_law_sign):=⟨rfl,rfl,rfl,by decide +kernel,rfl,by decide +kernel,by decide +kernel⟩
theorem ok_sgn {f :Addr} {fd :FuncData} (F:Fun K "_law_sign" "_law_sign" s_law_sign f fd) (T:Txt mg)
  : FnOk P w K mg base CX0 1 f fd ["_law_mix"] (spSgn):=by
 refine F.ok sc_sgn (λ vs H Q E h=>?_) (λ cdv A outer s H vs Q E hr h=>?_)
 ·obtain ⟨m,rfl,_⟩:=h
  rfl
 obtain ⟨m,rfl,q⟩:=h
 have hu:=Nat.lt_of_succ_lt (hu_of hr)
 have hu1:=hu_of hr
 have hu2:=Nat.lt_of_le_of_lt (Nat.add_le_add_left (by decide:2 <= 64) _) hr.units
 refine ⟨_,(pss_cons (ps_set (i:=1) sc_sgn.nd rfl (Or.inl rfl) pe_str)
  (pss_cons (ps_set (i:=1) sc_sgn.nd rfl (Or.inl rfl) (pe_op op_addS (pv 1) pe_str))
  (pss_cons (ps_if (pt_cmpR op_eq (pe_op op_mod (pv 0) pe_int) pe_int (nomark _))
   (pss_one (ps_set (i:=1) sc_sgn.nd rfl (Or.inl rfl) pe_str)) pss_nil)
  (pss_one (ps_ret (pe_ix ix_str (pv 1) (pe_op op_mod (pe_op op_fdiv (pv 0) pe_int) (pe_callB call_len_str (by rfl) T.len PySem.boot_len (pa_cons (pv 1) pa_nil))) (λ _ _=>rfl))))))),?_⟩
 have pos:∀ {Z:Str},0 < Z.length -> (0:Int) < (Z.length:Int):=λ h=>by omega
 have fin:∀ Z:Str,0 < Z.length -> ∃ c,atI Z.cps.toList (m / 2 % (Z.length:Int)) = some c:=λ Z h0=>by
  have l:Z.cps.toList.length = Z.length:=Array.length_toList
  obtain ⟨c,_,e⟩:=op_at (l:=Z.cps.toList) (i:=m / 2 % (Z.length:Int)) (Int.emod_nonneg _ (by omega)) (by rw [l]; exact Int.emod_lt_of_pos _ (by omega))
  exact ⟨c,e⟩
 refine ⟨_,rfl,_,_,rfl,rfl,by decide +kernel,?_⟩
 refine difT (dtest (dIE st_at (dmodC st_at (dvA rfl) (by decide)) dC)) at0 (λ _ H1 g1=>?_) (λ _ H1 g1=>?_)
 ·refine ⟨_,rfl,_,rfl,_,_,rfl,rfl,⟨by decide,by decide⟩,_,rfl,_,rfl,by decide +kernel,_,_,rfl,rfl,pos (by decide +kernel),_,_,_,rfl,rfl,by decide +kernel,(fin _ (by decide +kernel)).choose_spec,q _ H1 g1⟩
 ·refine ⟨_,rfl,_,rfl,_,_,rfl,rfl,⟨by decide,by decide⟩,_,rfl,_,rfl,by decide +kernel,_,_,rfl,rfl,pos (by decide +kernel),_,_,_,rfl,rfl,by decide +kernel,(fin _ (by decide +kernel)).choose_spec,q _ H1 g1⟩
def spChg:Sp:=λ vs H Q _=>∃ (L:List Nat) (m:Int),vs = [vS L,.int m] /\ L.length <= 900 /\ ∀ (L':List Nat) H',L'.length <= L.length + 10 -> Same H H' -> Q (vS L') H'
theorem menu {A B:List Str} (hA:∀ z ∈ A ++ B,z.length <= 10) {i:Int} (h0:0 <= i) (h:i < ((A.map V.str ++ B.map V.str).length:Int)):∃ L':List Nat,atI (A.map V.str ++ B.map V.str) i = some (vS L') /\ L'.length <= 10:=by
 rw [<- List.map_append] at h ⊢
 have hk:i.toNat < ((A ++ B).map V.str).length:=by omega
 have:=atI_nat (xs:=(A ++ B).map V.str) (j:=i.toNat) (List.getElem?_eq_getElem hk)
 rw [show ((i.toNat:Nat):Int) = i by omega,List.getElem_map] at this
 exact ⟨cs _,this,(show (cs _).length <= 10 by rw [show ∀ z:Str,(cs z).length = z.length from λ z=>Array.length_toList]; exact hA _ (List.getElem_mem _))⟩
theorem sc_chg:FnScope ["_law_text","_law_mix","_law_at","_law_sign_here","_law_some"] ["_law_text","_law_mix"] (defScope s_law_changed):=⟨rfl,rfl,rfl,by decide +kernel,rfl,by decide +kernel,by decide +kernel⟩
seal wpAny in
theorem ok_chg {f fw_sign:Addr} {fd dw_sign:FuncData} (F:Fun K "_law_changed" "_law_changed" s_law_changed f fd) (T:Txt mg)
  (Gw_sign:FnOk P w K mg base CX0 1 fw_sign dw_sign ["_law_mix"] (spSgn)) (bw_sign:Binds K dw_sign ["_law_mix"] []) (kw_sign:PySem.W.keepIn K (.ref fw_sign) = true) (mw_sign:mg "_law_sign" = some (.ref fw_sign))
  : FnOk P w K mg base CX0 2 f fd ["_law_text","_law_mix"] (spChg):=by
 refine F.ok sc_chg (λ vs H Q E h=>?_) (λ cdv A outer s H vs Q E hr h=>?_)
 ·obtain ⟨L,m,rfl,_⟩:=h
  rfl
 obtain ⟨L,m,rfl,hL,q⟩:=h
 have hu:=Nat.lt_of_succ_lt (hu_of hr)
 have hu1:=hu_of hr
 have hu2:=Nat.lt_of_le_of_lt (Nat.add_le_add_left (by decide:2 <= 64) _) hr.units
 have hr_1:Room 1 _:=hr.mono (by decide)
 refine ⟨_,(pss_cons (ps_set (i:=2) sc_chg.nd rfl (Or.inl rfl) (pe_op op_mod (pe_op op_fdiv (pv 1) pe_int) (pe_op op_add (pe_callB call_len_str (by rfl) T.len PySem.boot_len (pa_cons (pv 0) pa_nil)) pe_int)))
  (pss_cons (ps_set (i:=3) sc_chg.nd rfl (Or.inl rfl) (pe_call Gw_sign hr_1 (by rfl) mw_sign kw_sign bw_sign .nil pass0 (pa_cons (pe_op op_fdiv (pv 1) pe_int) pa_nil)))
  (pss_cons (ps_if (pt_cmpR op_eq (pe_op op_mod (pv 1) pe_int) pe_int (nomark _))
   (pss_one (ps_ret (pe_op op_addS (pe_op op_addS (pe_slice slx_str (pv 0) po_none (po_some (pv 2))) (pv 3)) (pe_slice slg_str (pv 0) (po_some (pv 2)) po_none)))) pss_nil)
  (pss_cons (ps_if (pt_cmpR op_eq (pe_op op_mod (pv 1) pe_int) pe_int (nomark _))
   (pss_one (ps_ret (pe_op op_addS (pe_op op_addS (pe_slice slx_str (pv 0) po_none (po_some (pv 2))) (pv 3)) (pe_slice slg_str (pv 0) (po_some (pe_op op_add (pv 2) pe_int)) po_none)))) pss_nil)
  (pss_cons (ps_if (pt_cmpR op_eq (pe_op op_mod (pv 1) pe_int) pe_int (nomark _))
   (pss_one (ps_ret (pe_op op_addS (pe_slice slx_str (pv 0) po_none (po_some (pv 2))) (pe_slice slg_str (pv 0) (po_some (pe_op op_add (pv 2) pe_int)) po_none)))) pss_nil)
  (pss_cons (ps_if (pt_cmpR op_eq (pe_op op_mod (pv 1) pe_int) pe_int (nomark _))
   (pss_one (ps_ret (pe_slice slx_str (pv 0) po_none (po_some (pv 2))))) pss_nil)
  (pss_cons (ps_set (i:=4) sc_chg.nd rfl (Or.inl rfl) (pe_lst (pa_strs rfl)))
  (pss_cons (ps_set (i:=4) sc_chg.nd rfl (Or.inl rfl) (pe_op op_cat (pv 4) (pe_lst (pa_strs rfl))))
  (pss_one (ps_ret (pe_ix ix_list (pv 4) (pe_op op_mod (pe_op op_fdiv (pv 1) pe_int) (pe_callB call_len_seq (by rfl) T.len PySem.boot_len (pa_cons (pv 4) pa_nil))) (λ _ _=>rfl)))))))))))),?_⟩
 have hs:(ofCs L).length = L.length:=ofCs_len L
 obtain ⟨j,hj⟩:∃ j:Nat,m / 6 % (((ofCs L).length:Int) + 1) = (j:Int):=⟨_,(Int.toNat_of_nonneg (Int.emod_nonneg _ (by omega))).symm⟩
 refine ⟨_,rfl,_,_,rfl,rfl,⟨by decide,by decide⟩,_,rfl,_,rfl,by rw [hs]; exact smallE (by omega),_,_,rfl,rfl,_,_,rfl,rfl,(by omega:(0:Int) < ((ofCs L).length:Int) + 1),?_⟩
 dsimp only [gName]
 rw [hj]
 refine ⟨_,rfl,_,_,rfl,rfl,⟨by decide,by decide⟩,m / 700,rfl,λ c H0 g0=>?_⟩
 have l1:(L.take j).length <= L.length:=by rw [List.length_take]; omega
 have l2:(L.take j).length + (L.drop j).length = L.length:=by rw [List.length_take,List.length_drop]; omega
 have l3:(L.drop (j + 1)).length <= (L.drop j).length:=by rw [List.length_drop,List.length_drop]; omega
 have hL':L.length <= 1000:=by omega
 refine difT (dtest (dIE st_at (dmodC st_at (dvA rfl) (by decide)) dC)) at0 (λ _ H1 g1=>?_) (λ _ H1 g1=>?_)
 ·have g1:=g0.trans g1
  exact dret (dcat st_at (dcat st_at (dslx st_at (dvA rfl) (dvA rfl) hL') (dvA rfl) (by rw [List.length_singleton]; omega)) (dslg st_at (dvA rfl) (dvA rfl) hL') (by rw [List.length_append,List.length_singleton]; omega)) at0 λ H2 g2=>q _ _ (by rw [List.length_append,List.length_append,List.length_singleton]; omega) (g1.trans g2)
 have g1:=g0.trans g1
 refine difT (dtest (dIE st_at (dmodC st_at (dvA rfl) (by decide)) dC)) at0 (λ _ H2 g2=>?_) (λ _ H2 g2=>?_)
 ·exact dret (dcat st_at (dcat st_at (dslx st_at (dvA rfl) (dvA rfl) hL') (dvA rfl) (by rw [List.length_singleton]; omega)) (dslg st_at (dvA rfl) (daddC (dvA rfl)) hL') (by rw [List.length_append,List.length_singleton]; omega)) at0 λ H3 g3=>q _ _ (by rw [List.length_append,List.length_append,List.length_singleton]; omega) ((g1.trans g2).trans g3)
 have g12:=g1.trans g2
 refine difT (dtest (dIE st_at (dmodC st_at (dvA rfl) (by decide)) dC)) at0 (λ _ H3 g3=>?_) (λ _ H3 g3=>?_)
 ·exact dret (dcat st_at (dslx st_at (dvA rfl) (dvA rfl) hL') (dslg st_at (dvA rfl) (daddC (dvA rfl)) hL') (by omega)) at0 λ H4 g4=>q _ _ (by rw [List.length_append]; omega) ((g12.trans g3).trans g4)
 have g13:=g12.trans g3
 refine difT (dtest (dIE st_at (dmodC st_at (dvA rfl) (by decide)) dC)) at0 (λ _ H4 g4=>?_) (λ _ H4 g4=>?_)
 ·exact dret (dslx st_at (dvA rfl) (dvA rfl) hL') at0 λ H5 g5=>q _ _ (by omega) ((g13.trans g4).trans g5)
 have g14:=g13.trans g4
 refine ⟨by decide,λ p1 h1=>?_⟩
 refine ⟨_,rfl,by decide,λ p2 h2=>?_⟩
 have n12:p1 ≠ p2:=λ z=>by rw [z,upd_same] at h2; cases h2
 refine ⟨p1,p2,_,_,rfl,rfl,by rw [upd_ne n12]; exact upd_same,upd_same,by decide,λ p3 h3=>?_⟩
 refine ⟨_,rfl,_,rfl,_,_,rfl,rfl,⟨by decide,by decide⟩,_,rfl,p3,_,rfl,.inl (SqL.of upd_same),_,_,rfl,rfl,Int.natCast_pos.mpr (by decide),p3,_,_,_,rfl,rfl,SqL.of upd_same,(menu ?_ ?_ ?_).choose_spec.1,q _ _ (Nat.le_trans (menu ?_ ?_ ?_).choose_spec.2 (by omega)) (((g14.to h1).to h2).to h3)⟩
 ·decide +kernel
 ·exact Int.emod_nonneg _ (by decide)
 ·exact Int.emod_lt_of_pos _ (by decide)
 ·decide +kernel
 ·exact Int.emod_nonneg _ (by decide)
 ·exact Int.emod_lt_of_pos _ (by decide)
end
end Law
set_option Elab.async false
set_option linter.all false
set_option maxRecDepth 100000
set_option maxHeartbeats 4000000
namespace Law
open PySem L2 Fs
section
variable {P:Program} {w:World} {K:PySem.W.Frag} {mg:Str -> Option Value} {base:Heap}
def vPl:Option Nat -> V
 | none=>.non
 | some p=>.int p
def spPlc:Sp:=λ vs H Q _=>∃ L:List Nat,vs = [vS L] /\ L.length <= 1000 /\ ∀ H',Same H H' -> Q (vPl (rplace ([],none) L 0)) H'
theorem w_said:("said":Str) = ofCs wSaid:=by decide +kernel
theorem w_sign:("sign":Str) = ofCs wSign:=by decide +kernel
theorem w_eleven:("01abcpqrxyz":Str) = ofCs ([48,49] ++ nine):=by decide +kernel
theorem nds_mem {fs:List Fr}:∀ x ∈ nds fs,x = wSaid ∨ x = wSign ∨ x = wClose:=by
 intro x hx
 unfold nds at hx
 obtain ⟨l,hl,hx⟩:=List.mem_flatten.mp hx
 obtain ⟨f,_,rfl⟩:=List.mem_map.mp hl
 unfold ndF at hx
 split at hx
 ·cases hx
 ·split at hx
  ·simp only [List.mem_cons,List.not_mem_nil,or_false] at hx
   rcases hx with h | h | h
   ·exact .inr (.inl h)
   ·exact .inl h
   ·exact .inr (.inr h)
  ·exact .inr (.inr (List.mem_singleton.mp hx))
theorem need_mem {s:PSt}:∀ x ∈ need s,x = wSaid ∨ x = wSign ∨ x = wClose:=by
 obtain ⟨fs,e⟩:=s
 cases e with
 | none =>
  intro x hx
  rcases List.mem_cons.mp hx with h | h
  ·exact .inl h
  ·exact nds_mem x h
 | some t=>exact nds_mem
theorem lstep_len {N N':List Pr} {c:Nat} (h:lstep N c = some N'):N'.length <= N.length + 3:=by
 cases N with
 | nil=>cases h
 | cons x r =>
  rw [lstep] at h
  split at h
  ·split at h
   ·cases h; simp <;> omega
   ·split at h
    ·cases h; simp <;> omega
    ·split at h
     ·cases h; simp <;> omega
     ·cases h
  ·split at h
   ·split at h
    ·cases h; simp <;> omega
    ·cases h
   ·split at h
    ·cases h; simp <;> omega
    ·cases h
theorem dNotIn {Γ:St -> Hp -> Prop} {t1 t2:TE} (st:Stb Γ) {c:Nat} {p:List Nat} (h1:Dv Γ t1 (vS [c])) (h2:Dv Γ t2 (vS p)):Dv Γ (tOp (λ x y H Q=>∃ (c:Nat) (p:List Nat),x = vS [c] /\ y = vS p /\ Q (.bl (!decide (c ∈ p))) H) t1 t2) (.bl (!decide (c ∈ p))):=λ σ H Q hΓ k =>
 h1 σ H _ hΓ λ H1 g1=>h2 σ H1 _ (st _ _ _ hΓ g1) λ H2 g2=>⟨c,p,rfl,rfl,k H2 (g1.trans g2)⟩
theorem dNeS {Γ:St -> Hp -> Prop} {t1 t2:TE} (st:Stb Γ) {p q:List Nat} (h1:Dv Γ t1 (vS p)) (h2:Dv Γ t2 (vS q)):Dv Γ (tOp rNe t1 t2) (.bl (!decide (p = q))):=λ σ H Q hΓ k =>
 h1 σ H _ hΓ λ H1 g1=>h2 σ H1 _ (st _ _ _ hΓ g1) λ H2 g2=>⟨rfl,by
  rw [show decide (vS p = vS q) = decide (p = q) from decide_eq_decide.mpr ⟨vS_inj,λ h=>by rw [h]⟩]
  exact k H2 (g1.trans g2)⟩
theorem dgtT {Γ:St -> Hp -> Prop} {t1 t2:TE} (st:Stb Γ) {i j:Int} (h1:Dv Γ t1 (.int i)) (h2:Dv Γ t2 (.int j)):Dt Γ (tTest (tOp (rI0 λ i j=>.bl (decide (j < i))) t1 t2)) (decide (j < i)):=dtest (dI0 (g:=λ i j=>.bl (decide (j < i))) st h1 h2)
theorem andFl {a b:Bool} (h:a = false):¬ (a && b) = true:=by rw [h,Bool.false_and]; decide
theorem andFr {a b:Bool} (h:b = false):¬ (a && b) = true:=by rw [h,Bool.and_false]; decide
theorem andT {a b:Bool} (h:a = true) (h':b = true):¬ (a && b) = false:=by rw [h,h']; decide
theorem sc_plc:FnScope ["_law_text","_law_need","_law_place_here","_law_sign_here","_law_want"] ["_law_text"] (defScope s_law_place):=⟨rfl,rfl,rfl,by decide +kernel,rfl,by decide +kernel,by decide +kernel⟩
theorem ok_plc {f :Addr} {fd :FuncData} (F:Fun K "_law_place" "_law_place" s_law_place f fd) (T:Txt mg)
  : FnOk P w K mg base CX0 1 f fd ["_law_text"] (spPlc):=by
 refine F.ok sc_plc (λ vs H Q E h=>?_) (λ cdv A outer s H vs Q E hr h=>?_)
 ·obtain ⟨L,rfl,_⟩:=h
  rfl
 obtain ⟨L,rfl,hL,q⟩:=h
 have hu:=Nat.lt_of_succ_lt (hu_of hr)
 have hu1:=hu_of hr
 have hu2:=Nat.lt_of_le_of_lt (Nat.add_le_add_left (by decide:2 <= 64) _) hr.units
 refine ⟨_,(pss_cons (ps_set (i:=1) sc_plc.nd rfl (Or.inl rfl) (pe_lst (pa_cons pe_str pa_nil)))
  (pss_cons (ps_for2 (n:=2) PassesOwn.never rfl (pi_enumS (by rfl) T.enumerate (pa_cons (pv 0) pa_nil)) (pgs_cons (pg_name (i:=2) sc_plc.nd rfl (Or.inl rfl)) (pgs_cons (pg_name (i:=3) sc_plc.nd rfl (Or.inl rfl)) pgs_nil))
  (pss_cons (ps_if (pt_cmpR op_eq (pe_callB call_len_seq (by rfl) T.len PySem.boot_len (pa_cons (pv 1) pa_nil)) pe_int (nomark _))
   (pss_one (ps_ret (pv 2))) pss_nil)
  (pss_cons (ps_set (i:=4) sc_plc.nd rfl (Or.inl rfl) (pe_bm0 PySem.F.plainAttrs_list PySem.F.slot_list_pop PySem.F.type_list_pop mt_pop (pv 1)))
  (pss_one (ps_if (PW.pt (pw_and (pt_cmpR op_eq (pv 4) pe_str (nomark _))
   (pw_and1 (pt_cmpR op_eq (pv 3) pe_str (nomark _)))))
   (pss_one (ps_expr (pe_bm PySem.F.plainAttrs_list PySem.F.slot_list_append PySem.F.type_list_append mt_append (pv 1) (pa_cons pe_str pa_nil)))) (pss_one (ps_if (PW.pt (pw_and (pt_cmpR op_eq (pv 4) pe_str (nomark _))
   (pw_and1 (pt_cmpR op_eq (pv 3) pe_str (nomark _)))))
   (pss_one (ps_expr (pe_bm PySem.F.plainAttrs_list PySem.F.slot_list_extend PySem.F.type_list_extend mt_extend (pv 1) (pa_cons (pe_lst (pa_strs rfl)) pa_nil)))) (pss_one (ps_if (PW.pt (pw_and (pt_cmpR op_eq (pv 4) pe_str (nomark _))
   (pw_and1 (pt_cmpR op_notIn_one (pv 3) pe_str rfl))))
   (pss_one (ps_ret (pv 2))) (pss_one (ps_if (PW.pt (pw_and (pt_cmpR op_eq (pv 4) pe_str (nomark _))
   (pw_and1 (pt_cmpR op_notIn_one (pv 3) pe_str rfl))))
   (pss_one (ps_ret (pv 2))) (pss_one (ps_if (PW.pt (pw_and (pt_cmpR op_eq (pv 4) pe_str (nomark _))
   (pw_and1 (pt_cmpR op_ne (pv 3) pe_str (nomark _)))))
   (pss_one (ps_ret (pv 2))) pss_nil)))))))))))))
  (pss_cons (ps_if (pt_cmpR op_gt (pe_callB call_len_seq (by rfl) T.len PySem.boot_len (pa_cons (pv 1) pa_nil)) pe_int (nomark _))
   (pss_one (ps_ret (pe_callB call_len_str (by rfl) T.len PySem.boot_len (pa_cons (pv 0) pa_nil)))) pss_nil)
  (pss_one (ps_ret pe_non))))),?_⟩
 rw [w_said,w_sign,wave,s_open,s_close,w_eleven,ops1]
 refine ⟨by decide,λ aN hN=>?_⟩
 refine ⟨_,rfl,_,rfl,?_⟩
 have hs:(ofCs L).cps.size = L.length:=ofCs_len L
 refine for_enumS (λ i σ H'=>∃ (s:PSt) (v2 v3 v4:Option V),σ = [some (vS L),some (.ref aN),v2,v3,v4] /\ Same H H' /\ H' aN = some (.lst ((need s).reverse.map vS)) /\ run ([],none) (L.take i) = some s /\ (need s).length <= 3 * i + 1)
  ⟨([],none),none,none,none,rfl,Same.up hN,upd_same,rfl,Nat.le_refl _⟩ ?_ ?_
 ·rintro i σ H1 hi ⟨s,v2,v3,v4,rfl,g1,e1,hrun,ln⟩
  rw [hs] at hi
  rw [sgn_vS hi]
  have wf:=run_wfs wfs0 hrun
  have rp:=rp_at (Nat.le_of_lt hi) hrun
  rw [List.drop_eq_getElem_cons hi,rplace] at rp
  have ls:=lstep_at wf L[i]
  have mem:=need_mem (s:=s)
  have go:∀ {N':List Pr} {H':Hp} {v2 v3 v4:Option V},lstep (need s) L[i] = some N' -> Same H H' -> H' aN = some (.lst (N'.reverse.map vS)) ->
    ∃ (s':PSt) (v2' v3' v4':Option V),[some (vS L),some (.ref aN),v2,v3,v4] = [some (vS L),some (.ref aN),v2',v3',v4'] /\ Same H H' /\ H' aN = some (.lst ((need s').reverse.map vS)) /\ run ([],none) (L.take (i + 1)) = some s' /\ (need s').length <= 3 * (i + 1) + 1:=λ {N' H' v2 v3 v4} h g e=>by
   have ll:=lstep_len h
   rw [ls] at h
   by_cases hl:L[i] ∈ legal s
   ·rw [if_pos hl] at h
    cases h
    refine ⟨stp s L[i],v2,v3,v4,rfl,g,e,?_,by omega⟩
    rw [List.take_succ_eq_append_getElem hi,run_app,hrun]
    show run s [L[i]] = _
    rw [run,if_pos hl]; rfl
   ·rw [if_neg hl] at h; cases h
  have stop:lstep (need s) L[i] = none -> ∀ H',Same H H' -> Q (.int i) H':=λ h H' g=>by
   rw [ls] at h
   by_cases hl:L[i] ∈ legal s
   ·rw [if_pos hl] at h; cases h
   ·rw [if_neg hl] at rp
    have:=q H' g
    rw [rp] at this
    exact this
  clear ls rp
  refine ⟨_,_,rfl,_,_,rfl,rfl,?_⟩
  generalize need s = N at *
  cases N with
  | nil =>
   refine difT (dtest (dIE st_at (dlen (K:=K) rfl (SqL.of e1)) dC)) at0 (λ _ H2 g2=>?_) (λ hb=>absurd hb (by decide))
   exact ⟨_,rfl,stop rfl H2 (g1.trans g2)⟩
  | cons x r =>
   have e1:H1 aN = some (.lst (r.reverse.map vS ++ [vS x])):=by rw [e1,List.reverse_cons,List.map_append]; rfl
   refine difT (dtest (dIE st_at (dlen (K:=K) rfl (SqL.of e1)) dC)) at0 (λ hb=>absurd (of_decide_eq_true hb) (by simp; omega)) (λ _ H2 g2=>?_)
   have e2:=g2 _ _ e1
   refine ⟨_,rfl,.inl ⟨rfl,_,SqL.of e2⟩,aN,_,_,rfl,rfl,e2,snoc_last _ _,?_⟩
   rw [List.dropLast_concat]
   have e3:upd H2 aN (.lst (r.reverse.map vS)) aN = some (.lst (r.reverse.map vS)):=upd_same
   have g3:Same H (upd H2 aN (.lst (r.reverse.map vS))):=(g1.trans g2).at hN
   generalize upd H2 aN (.lst (r.reverse.map vS)) = H3 at e3 g3
   have lr:(r.reverse.map vS).length <= 4000:=by
    rw [List.length_map,List.length_reverse]
    rw [List.length_cons] at ln
    omega
   rcases mem x (List.mem_cons_self ..) with rfl | rfl | rfl
   ·rw [lstep,if_pos rfl] at go stop
    by_cases h1:L[i] = 126
    ·refine difT (dandT st_at (dtest (dEqV st_at (dvA rfl) dC)) (dtest (dEqV st_at (dvA rfl) dC))) at0 (λ _ H4 g4=>?_) (λ hb=>absurd hb (andT (by decide) (by rw [h1]; decide)))
     have e4:=g4 _ _ e3
     refine ⟨_,rfl,.inl ⟨rfl,_,SqL.of e4⟩,aN,_,_,rfl,rfl,e4,small (by omega),?_⟩
     refine go (if_pos h1) ((g3.trans g4).at hN) ?_
     rw [upd_same,List.reverse_cons,List.map_append]; rfl
    refine difT (dandT st_at (dtest (dEqV st_at (dvA rfl) dC)) (dtest (dEqV st_at (dvA rfl) dC))) at0 (λ hb=>absurd hb (andFr (decide_eq_false λ z=>h1 (by simpa using z)))) (λ _ H4 g4=>?_)
    have g4:=g3.trans g4
    have e4:H4 aN = _:=‹Same H3 H4› _ _ e3
    rw [if_neg h1] at go stop
    by_cases h2:L[i] = 40
    ·refine difT (dandT st_at (dtest (dEqV st_at (dvA rfl) dC)) (dtest (dEqV st_at (dvA rfl) dC))) at0 (λ _ H5 g5=>?_) (λ hb=>absurd hb (andT (by decide) (by rw [h2]; decide)))
     have e5:=g5 _ _ e4
     refine ⟨_,rfl,.inl ⟨rfl,_,SqL.of e5⟩,by decide,λ p hp=>?_⟩
     have nap:aN ≠ p:=λ z=>by rw [<- z,e5] at hp; cases hp
     refine ⟨aN,p,_,_,rfl,rfl,by rw [upd_ne nap]; exact e5,upd_same,smallE (by simp at lr ⊢; omega),?_⟩
     refine go (if_pos h2) (((g4.trans g5).to hp).at hN) ?_
     rw [upd_same]
     simp only [List.reverse_cons,List.map_append,List.append_assoc]
     rfl
    refine difT (dandT st_at (dtest (dEqV st_at (dvA rfl) dC)) (dtest (dEqV st_at (dvA rfl) dC))) at0 (λ hb=>absurd hb (andFr (decide_eq_false λ z=>h2 (by simpa using z)))) (λ _ H5 g5=>?_)
    rw [if_neg h2] at go stop
    by_cases h3:L[i] ∈ [48,49] ++ nine
    ·refine difT (dandT st_at (dtest (dEqV st_at (dvA rfl) dC)) (dtest (dNotIn st_at (dvA rfl) dC))) at0 (λ hb=>absurd hb (andFr (by rw [decide_eq_true h3]; rfl))) (λ _ H6 g6=>?_)
     refine difT (dandT st_at (dtest (dEqV st_at (dvA rfl) dC)) (dtest (dNotIn st_at (dvA rfl) dC))) at0 (λ hb=>absurd hb (andFl (by decide))) (λ _ H7 g7=>?_)
     refine difT (dandT st_at (dtest (dEqV st_at (dvA rfl) dC)) (dtest (dNeS st_at (dvA rfl) dC))) at0 (λ hb=>absurd hb (andFl (by decide))) (λ _ H8 g8=>?_)
     have gg:=((g5.trans g6).trans g7).trans g8
     exact go (if_pos h3) (g4.trans gg) (gg _ _ e4)
    ·refine difT (dandT st_at (dtest (dEqV st_at (dvA rfl) dC)) (dtest (dNotIn st_at (dvA rfl) dC))) at0 (λ _ H6 g6=>?_) (λ hb=>absurd hb (andT (by decide) (by rw [decide_eq_false h3]; rfl)))
     exact ⟨_,rfl,stop (if_neg h3) H6 ((g4.trans g5).trans g6)⟩
   ·rw [lstep,if_neg (by decide),if_pos rfl] at go stop
    refine difT (dandT st_at (dtest (dEqV st_at (dvA rfl) dC)) (dtest (dEqV st_at (dvA rfl) dC))) at0 (λ hb=>absurd hb (andFl (by decide))) (λ _ H4 g4=>?_)
    refine difT (dandT st_at (dtest (dEqV st_at (dvA rfl) dC)) (dtest (dEqV st_at (dvA rfl) dC))) at0 (λ hb=>absurd hb (andFl (by decide))) (λ _ H5 g5=>?_)
    refine difT (dandT st_at (dtest (dEqV st_at (dvA rfl) dC)) (dtest (dNotIn st_at (dvA rfl) dC))) at0 (λ hb=>absurd hb (andFl (by decide))) (λ _ H6 g6=>?_)
    have gg:=(g4.trans g5).trans g6
    by_cases h3:L[i] ∈ [38,124,43]
    ·refine difT (dandT st_at (dtest (dEqV st_at (dvA rfl) dC)) (dtest (dNotIn st_at (dvA rfl) dC))) at0 (λ hb=>absurd hb (andFr (by rw [decide_eq_true h3]; rfl))) (λ _ H7 g7=>?_)
     refine difT (dandT st_at (dtest (dEqV st_at (dvA rfl) dC)) (dtest (dNeS st_at (dvA rfl) dC))) at0 (λ hb=>absurd hb (andFl (by decide))) (λ _ H8 g8=>?_)
     have gg:=(gg.trans g7).trans g8
     exact go (if_pos h3) (g3.trans gg) (gg _ _ e3)
    ·refine difT (dandT st_at (dtest (dEqV st_at (dvA rfl) dC)) (dtest (dNotIn st_at (dvA rfl) dC))) at0 (λ _ H7 g7=>?_) (λ hb=>absurd hb (andT (by decide) (by rw [decide_eq_false h3]; rfl)))
     exact ⟨_,rfl,stop (if_neg h3) H7 (g3.trans (gg.trans g7))⟩
   ·rw [lstep,if_neg (by decide),if_neg (by decide)] at go stop
    refine difT (dandT st_at (dtest (dEqV st_at (dvA rfl) dC)) (dtest (dEqV st_at (dvA rfl) dC))) at0 (λ hb=>absurd hb (andFl (by decide))) (λ _ H4 g4=>?_)
    refine difT (dandT st_at (dtest (dEqV st_at (dvA rfl) dC)) (dtest (dEqV st_at (dvA rfl) dC))) at0 (λ hb=>absurd hb (andFl (by decide))) (λ _ H5 g5=>?_)
    refine difT (dandT st_at (dtest (dEqV st_at (dvA rfl) dC)) (dtest (dNotIn st_at (dvA rfl) dC))) at0 (λ hb=>absurd hb (andFl (by decide))) (λ _ H6 g6=>?_)
    refine difT (dandT st_at (dtest (dEqV st_at (dvA rfl) dC)) (dtest (dNotIn st_at (dvA rfl) dC))) at0 (λ hb=>absurd hb (andFl (by decide))) (λ _ H7 g7=>?_)
    have gg:=((g4.trans g5).trans g6).trans g7
    by_cases h3:L[i] = 41
    ·refine difT (dandT st_at (dtest (dEqV st_at (dvA rfl) dC)) (dtest (dNeS st_at (dvA rfl) dC))) at0 (λ hb=>absurd hb (andFr (by rw [h3]; rfl))) (λ _ H8 g8=>?_)
     have gg:=gg.trans g8
     exact go (if_pos h3) (g3.trans gg) (gg _ _ e3)
    ·refine difT (dandT st_at (dtest (dEqV st_at (dvA rfl) dC)) (dtest (dNeS st_at (dvA rfl) dC))) at0 (λ _ H8 g8=>?_) (λ hb=>absurd hb (andT (by decide) (by rw [decide_eq_false λ z=>h3 (by simpa using z)]; rfl)))
     exact ⟨_,rfl,stop (if_neg h3) H8 (g3.trans (gg.trans g8))⟩
 ·rintro σ H1 ⟨s,v2,v3,v4,rfl,g1,e1,hrun,ln⟩
  rw [hs,List.take_length] at hrun
  have rp:=rp_at (Nat.le_refl _) (by rw [List.take_length]; exact hrun)
  rw [List.drop_length,rplace] at rp
  have ll:(ofCs L).length = L.length:=ofCs_len L
  by_cases hn:need s = []
  ·rw [hn] at e1
   refine difT (dgtT st_at (dlen (K:=K) rfl (SqL.of e1)) dC) at0 (λ hb=>absurd hb (by decide)) (λ _ H2 g2=>?_)
   have:=q H2 (g1.trans g2)
   rw [rp,if_pos hn] at this
   exact this
  ·refine difT (dgtT st_at (dlen (K:=K) rfl (SqL.of e1)) dC) at0 (λ _ H2 g2=>?_) (λ hb=>absurd (of_decide_eq_false hb) ?_)
   ·have:=q H2 (g1.trans g2)
    rw [rp,if_neg hn] at this
    refine ⟨_,rfl,_,rfl,by rw [ll]; exact smallE (by omega),?_⟩
    rw [ll]
    exact this
   ·rw [List.length_map,List.length_reverse]
    have:0 < (need s).length:=List.length_pos_iff.mpr hn
    omega
end
end Law
set_option Elab.async false
set_option linter.all false
set_option maxRecDepth 100000
set_option maxHeartbeats 4000000
namespace Law
open PySem L2 Fs
section
variable {P:Program} {w:World} {K:PySem.W.Frag} {mg:Str -> Option Value} {base:Heap}
def spLaw (K:PySem.W.Frag):Sp:=λ vs H Q _=>∃ (a:Addr) (ns:List Int),vs = [.ref a] /\ SqL K H a (ns.map V.int) /\ ns.length <= 63 /\ ∀ H',Q (.bl true) H'
def threeL:List (List Nat):=[[97,98,99,112,113,114,120,121,122],[97,120],[99,112,122]]
theorem three_txt:[V.str "abcpqrxyz",V.str "ax",V.str "cpz"] = threeL.map vS:=by
 have e1:("abcpqrxyz":Str) = ofCs [97,98,99,112,113,114,120,121,122]:=by decide +kernel
 have e2:("ax":Str) = ofCs [97,120]:=by decide +kernel
 have e3:("cpz":Str) = ofCs [99,112,122]:=by decide +kernel
 rw [e1,e2,e3]; rfl
theorem Tr.Of.up {ls us:List Nat}:∀ {t:Tr},t.Of ls -> (∀ c,c ∈ ls -> c ∈ us) -> t.Of us
 | .letter l,h,g=>g l h
 | .neg t,o,h=>Tr.Of.up (t:=t) o h
 | .bin _ t u,o,h=>⟨o.1,Tr.Of.up (t:=t) o.2.1 h,Tr.Of.up (t:=u) o.2.2 h⟩
 | .one,_,_=>trivial
 | .zero,_,_=>trivial
theorem op_atV {l:List (List Nat)} {i:Int} (h0:0 <= i) (h:i < (l.length:Int)):∃ c ∈ l,atI (l.map vS) i = some (vS c):=by
 have hk:i.toNat < l.length:=by omega
 have:=atI_nat (xs:=l.map vS) (j:=i.toNat) (v:=vS l[i.toNat]) (by rw [List.getElem?_map,List.getElem?_eq_getElem hk]; rfl)
 rw [show ((i.toNat:Nat):Int) = i by omega] at this
 exact ⟨_,List.getElem_mem hk,this⟩
theorem dVO {f:Tr -> V} {n:Nat} {m:Str} {κd κr κe:Tr -> Prop} {c:CA} {σ0:St} {H0:Hp} {te:TE} {t:Tr} (hl:∀ x y:V,List.lookup m [(("letter":Str),x)] = none /\ List.lookup m [(("one":Str),x)] = none /\ List.lookup m [(("one":Str),x),(("other":Str),y)] = none)
  (hd:∀ u v,κd (.bin 38 u v)) (hr:∀ u v,κr (.bin 124 u v)) (he:∀ u v,κe (.bin 43 u v)) (h1:∀ σ H Q,At σ0 H0 σ H -> (∀ o H',Same H H' -> ObjAt c H' t o -> Q o H') -> te σ H Q) (ht:t.ht <= n) (hw:t.wt <= 1000) (of:t.Of nine) :
  Dv (At σ0 H0) (tV f c n m κd κr κe te) (f t):=by
 intro σ H Q hΓ q
 have go:∀ (κ:Tr -> Prop) (C:Addr),κ t -> (∀ (o:V) (H':Hp),ObjAt c H' t o -> ∃ a dx fs,o = .ref a /\ H' a = some (.ins C dx fs) /\ fs.lookup m = none) -> tMeth C m (spV f c n κ) [] E0 te tNil σ H Q:=λ κ C hκ hx =>
  h1 σ H _ hΓ λ o H1 g1 ob=>let ⟨a,dx,fs,eo,ha,hl⟩:=hx o H1 ob; ⟨a,dx,fs,eo,ha,hl,o,t,rfl,ob,ht,hw,of,hκ,λ H' g=>q H' (g1.trans g)⟩
 cases t with
 | one=>exact .inl (go kA _ rfl λ o H' ⟨a,dx,e,h⟩=>⟨a,dx,_,e,h,rfl⟩)
 | zero=>exact .inr (.inl (go kN _ rfl λ o H' ⟨a,dx,e,h⟩=>⟨a,dx,_,e,h,rfl⟩))
 | letter l=>exact .inr (.inr (.inl (go kL _ ⟨l,rfl⟩ λ o H' ⟨a,dx,e,h⟩=>⟨a,dx,_,e,h,(hl _ .non).1⟩)))
 | neg u=>exact .inr (.inr (.inr (.inl (go kO _ ⟨u,rfl⟩ λ o H' ⟨a,dx,x,e,h,_⟩=>⟨a,dx,_,e,h,(hl _ .non).2.1⟩))))
 | bin op u v =>
  rcases of.1 with rfl | rfl | rfl
  ·exact .inr (.inr (.inr (.inr (.inl (go κd _ (hd u v) λ o H' ⟨a,dx,x,y,e,h,_⟩=>⟨a,dx,_,e,h,(hl _ _).2.2⟩)))))
  ·exact .inr (.inr (.inr (.inr (.inr (.inl (go κr _ (hr u v) λ o H' ⟨a,dx,x,y,e,h,_⟩=>⟨a,dx,_,e,h,(hl _ _).2.2⟩))))))
  ·exact .inr (.inr (.inr (.inr (.inr (.inr (go κe _ (he u v) λ o H' ⟨a,dx,x,y,e,h,_⟩=>⟨a,dx,_,e,h,(hl _ _).2.2⟩))))))
theorem text_inj {t u:Tr} (ht:t.Of nine) (hu:u.Of nine) (e:t.text = u.text):t = u:=by
 have h1:=run_tree t [] [] ht
 have h2:=run_tree u [] [] hu
 rw [e,h2] at h1
 have h1:(some ([],some u):Option PSt) = some ([],some t):=h1
 cases h1
 rfl
theorem rp_tree {L:List Nat} (hn:rplace ([],none) L 0 = none):∃ t:Tr,t.text = L /\ t.Of nine:=by
 have key:∀ (l:List Nat) (s:PSt) (i:Nat),rplace s l i = none -> ∃ s',run s l = some s' /\ rplace s' [] (i + l.length) = none:=by
  intro l
  induction l with
  | nil=>intro s i h; exact ⟨s,rfl,h⟩
  | cons c l ih =>
   intro s i h
   rw [rplace] at h
   by_cases hl:c ∈ legal s
   ·rw [if_pos hl] at h
    obtain ⟨s',h1,h2⟩:=ih _ _ h
    refine ⟨s',by rw [run,if_pos hl]; exact h1,?_⟩
    rw [List.length_cons,show i + (l.length + 1) = i + 1 + l.length by omega]
    exact h2
   ·rw [if_neg hl] at h; cases h
 obtain ⟨s',h1,h2⟩:=key L _ 0 hn
 rw [Nat.zero_add] at h2
 obtain ⟨t,_,h3,h4⟩:=rp_none h1 h2
 exact ⟨t,h3,h4⟩
def noR:Value -> Option Addr -> St -> Hp -> Prop:=λ _ _ _ _=>False
theorem pass_no {X:Cx}:PassS X noR:=λ pins σ H s e s' I h=>by
 obtain ⟨_,_,_,_,_,_,_,_,_,_,_,_,_,_,_,z⟩:=h
 exact z.elim
theorem dreadX {c:CA} {Cn:Addr} {σ0:St} {H0:Hp} {t1:TE} {t:Tr} (h:Dv (At σ0 H0) t1 (vS t.text)) (of:t.Of nine) (hl:t.text.length <= 1000) (hn:rplace ([],none) t.text 0 = none):∀ σ H Q,At σ0 H0 σ H -> (∀ o H',Same H H' -> ObjAt c H' t o -> Q o H') -> tCallX (spRdX c Cn) noR (tCons t1 tNil) σ H Q:=λ σ H Q hΓ q =>
 h σ H _ hΓ λ H1 g1=>⟨t.text,rfl,hl,λ _ u o H' e ou g ob=>by rw [text_inj ou of e] at ob; exact q o H' (g1.trans g) ob,λ p hp=>by rw [hn] at hp; cases hp⟩
theorem bt_ve:bootBuiltins "ValueError" = some (.type "ValueError"):=by decide +kernel
structure E5 (K:PySem.W.Frag) (mg:Str -> Option Value) (cF c1 c2 c3 Cn:Addr):Prop where
 mF:mg "FillError" = some (.ref cF)
 m1:mg "NoForm" = some (.ref c1)
 m2:mg "NoWish" = some (.ref c2)
 m3:mg "Strange" = some (.ref c3)
 mVE:mg "ValueError" = none
 kF:PySem.W.kitOne K (.ref Cn) (.ref cF) = some true
 kV:PySem.W.kitOne K (.ref Cn) (.type "ValueError") = some true
 k1:PySem.W.kitOne K (.ref Cn) (.ref c1) = some false
 k2:PySem.W.kitOne K (.ref Cn) (.ref c2) = some false
 k3:PySem.W.kitOne K (.ref Cn) (.ref c3) = some false
 kx:PySem.W.exmOne K (.ref Cn) (.ref Cn) = some true
theorem kit_ii {K:PySem.W.Frag}:PySem.W.kitOne K (.type "int") (.type "int") = some true:=by
 unfold PySem.W.kitOne
 rw [if_pos (beq_self_eq_true _)]
theorem kit_ib {K:PySem.W.Frag}:PySem.W.kitOne K (.type "int") (.type "bool") = some false:=by rfl
theorem sc_law:FnScope ["_law_script","_law_letters","_law_text","_law_k","_law_due","_law_place_here","_law_plain","e"] ["_law_script"] (defScope s_law):=⟨rfl,rfl,rfl,by decide +kernel,rfl,by decide +kernel,by decide +kernel⟩
theorem ok_law {c:CA} {iL iN iP ftA ftN ftL ftO ftD ftR ftE f fm fS fW fC fP fr cF c1 c2 c3 Cn:Addr} {dtA dtN dtL dtO dtD dtR dtE fd fdm fdS fdW fdC fdP fdr:FuncData} (F:Fun K "law" "law" s_law f fd) (T:Txt mg) (mx_int:mg "int" = none) (C:CTxt K c iL iN iP) (N:XNs P w K mg base Cn) (Z:E5 K mg cF c1 c2 c3 Cn)
  (Mt:MTxt K c "text" ftA ftN ftL ftO ftD ftR ftE) (Vt:VOk P w K mg base vTxt c 100 kD kR kE ftA ftN ftL ftO ftD ftR ftE dtA dtN dtL dtO dtD dtR dtE)
  (btA:Binds K dtA ["self"] []) (btN:Binds K dtN ["self"] []) (btL:Binds K dtL ["self"] []) (btO:Binds K dtO ["self"] []) (btD:Binds K dtD ["self"] []) (btR:Binds K dtR ["self"] []) (btE:Binds K dtE ["self"] [])
  (Gm:FnOk P w K mg base CX0 1 fm fdm ["_law_script","_law_k"] (spMixed2 K)) (bm:Binds K fdm ["_law_script","_law_k"] []) (km:PySem.W.keepIn K (.ref fm) = true) (mm:mg "_law_mixed" = some (.ref fm))
  (GS:FnOk P w K mg base CX0 2 fS fdS ["_law_script","_law_at","_law_many","_law_letters"] (spSay K)) (bS:Binds K fdS ["_law_script","_law_at","_law_many","_law_letters"] []) (kS:PySem.W.keepIn K (.ref fS) = true) (mS:mg "_law_saying" = some (.ref fS))
  (GW:FnOk P w K mg base CX0 25 fW fdW ["_law_tree"] (spTV vTxt 25)) (bW:Binds K fdW ["_law_tree"] []) (kW:PySem.W.keepIn K (.ref fW) = true) (mW:mg "_law_written" = some (.ref fW))
  (GC:FnOk P w K mg base CX0 2 fC fdC ["_law_text","_law_mix"] spChg) (bC:Binds K fdC ["_law_text","_law_mix"] []) (kC:PySem.W.keepIn K (.ref fC) = true) (mC:mg "_law_changed" = some (.ref fC))
  (GP:FnOk P w K mg base CX0 1 fP fdP ["_law_text"] spPlc) (bP:Binds K fdP ["_law_text"] []) (kP:PySem.W.keepIn K (.ref fP) = true) (mP:mg "_law_place" = some (.ref fP))
  (Gr:FnOk P w K mg base (CXR P w) 5 fr fdr ["text"] (spRdX c Cn)) (br:Binds K fdr ["text"] []) (kr:PySem.W.keepIn K (.ref fr) = true) (mr:mg "read" = some (.ref fr)):FnOk P w K mg base CX0 101 f fd ["_law_script"] (spLaw K):=by
 refine F.ok sc_law (λ vs H Q E h=>?_) (λ cdv A outer s H vs Q E hr h=>?_)
 ·obtain ⟨a,ns,rfl,_⟩:=h
  rfl
 obtain ⟨a,ns,rfl,hS,h63,q⟩:=h
 have hr1:Room 1 _:=hr.mono (by decide)
 have hr2:Room 2 _:=hr.mono (by decide)
 have hr5:Room 5 _:=hr.mono (by decide)
 have hr25:Room 25 _:=hr.mono (by decide)
 refine ⟨_,(pss_cons (ps_set (i:=1) sc_law.nd rfl (Or.inl rfl) (pe_ix ix_list (pe_lst (pa_cons pe_str (pa_cons pe_str (pa_cons pe_str pa_nil)))) (pe_op op_mod (pe_call Gm hr1 (by rfl) mm km bm .nil pass0 (pa_cons (pv 0) (pa_cons pe_int pa_nil))) pe_int) (λ _ _=>rfl)))
  (pss_cons (ps_set (i:=2) sc_law.nd rfl (Or.inl rfl) (pe_call GW hr25 (by rfl) mW kW bW .nil pass0 (pa_cons (pe_call GS hr2 (by rfl) mS kS bS .nil pass0 (pa_cons (pv 0) (pa_cons pe_int (pa_cons (pe_op op_mod (pe_call Gm hr1 (by rfl) mm km bm .nil pass0 (pa_cons (pv 0) (pa_cons pe_int pa_nil))) pe_int) (pa_cons (pv 1) pa_nil))))) pa_nil)))
  (pss_cons (ps_for PassesOwn.never rfl (pi_range1 (by rfl) T.range (pa_cons (pe_op op_mod (pe_call Gm hr1 (by rfl) mm km bm .nil pass0 (pa_cons (pv 0) (pa_cons pe_int pa_nil))) pe_int) pa_nil)) (pg_name (i:=3) sc_law.nd rfl (Or.inl rfl))
   (pss_one (ps_set (i:=2) sc_law.nd rfl (Or.inl rfl) (pe_call GC hr2 (by rfl) mC kC bC .nil pass0 (pa_cons (pv 2) (pa_cons (pe_call Gm hr1 (by rfl) mm km bm .nil pass0 (pa_cons (pv 0) (pa_cons (pe_op op_add pe_int (pv 3)) pa_nil))) pa_nil))))))
  (pss_cons (ps_set (i:=4) sc_law.nd rfl (Or.inl rfl) (pe_call GP hr1 (by rfl) mP kP bP .nil pass0 (pa_cons (pv 2) pa_nil)))
  (pss_cons (ps_set (i:=5) sc_law.nd rfl (Or.inl rfl) pe_non)
  (pss_cons (ps_set (i:=6) sc_law.nd rfl (Or.inl rfl) pe_bl)
  (pss_cons (ps_try (i:=7) (tb:=λ R=>tDrop (tCallX (spRdX c Cn) R (tCons (tVar 2) tNil))) rfl sc_law.nd rfl rfl (by rfl) N.m rfl rfl (λ pins R W hx=>pss_one (ps_expr (pe_callX Gr hr5 (by rfl) mr kr br hx (pa_cons (pv 2) pa_nil))))
   (λ pins ax=>pss_cons (ps_set (i:=5) sc_law.nd rfl (Or.inl rfl) (show PE _ _ (tXget K (tVar 7) "place") from pe_xget (pv 7)))
    (pss_one (ps_set (i:=6) sc_law.nd rfl (Or.inl rfl) (pe_and (pe_callB (r:=rIsX K) call_isX (by rfl) T.isinstance bt_isinst (pa_cons (pv 7) (pa_cons (pe_glob (v:=.ref cF) (by rfl) Z.mF rfl) pa_nil)))
     (pe_and (pe_callB (r:=rIsX K) call_isX (by rfl) T.isinstance bt_isinst (pa_cons (pv 7) (pa_cons (pe_bltn (v:=.ty "ValueError") (by rfl) Z.mVE bt_ve rfl) pa_nil)))
     (pe_one (pe_not (pe_callB (r:=rIsXT K) call_isXT (by rfl) T.isinstance bt_isinst (pa_cons (pv 7) (pa_cons (pe_tup (pa_cons (pe_glob (v:=.ref c1) (by rfl) Z.m1 rfl) (pa_cons (pe_glob (v:=.ref c2) (by rfl) Z.m2 rfl) (pa_cons (pe_glob (v:=.ref c3) (by rfl) Z.m3 rfl) pa_nil)))) pa_nil)))))))))))
  (pss_cons (ps_if (pt_cmpR op_isN (pv 4) pe_non rfl)
   (pss_one (ps_ret (pe_and (pe_cmpR op_isN (pv 5) pe_non rfl) (pe_one (pe_cmpR op_eq (PE.or (pe_meth0 (pe_callX Gr hr5 (by rfl) mr kr br pass_no (pa_cons (pv 2) pa_nil)) C.always Mt.always Vt.always hr btA .nil pass0)
   (PE.or (pe_meth0 (pe_callX Gr hr5 (by rfl) mr kr br pass_no (pa_cons (pv 2) pa_nil)) C.never Mt.never Vt.never hr btN .nil pass0)
   (PE.or (pe_meth0 (pe_callX Gr hr5 (by rfl) mr kr br pass_no (pa_cons (pv 2) pa_nil)) C.letter Mt.letter Vt.letter hr btL .nil pass0)
   (PE.or (pe_meth0 (pe_callX Gr hr5 (by rfl) mr kr br pass_no (pa_cons (pv 2) pa_nil)) C.not Mt.not Vt.not hr btO .nil pass0)
   (PE.or (pe_meth0 (pe_callX Gr hr5 (by rfl) mr kr br pass_no (pa_cons (pv 2) pa_nil)) C.and Mt.and Vt.and hr btD .nil pass0)
   (PE.or (pe_meth0 (pe_callX Gr hr5 (by rfl) mr kr br pass_no (pa_cons (pv 2) pa_nil)) C.or Mt.or Vt.or hr btR .nil pass0)
   (pe_meth0 (pe_callX Gr hr5 (by rfl) mr kr br pass_no (pa_cons (pv 2) pa_nil)) C.either Mt.either Vt.either hr btE .nil pass0))))))) (pv 2) (nomark _)))))) pss_nil)
  (pss_one (ps_ret (pe_and (pv 6) (pe_and (pe_callB (r:=rIsB K) call_isB (by rfl) T.isinstance bt_isinst (pa_cons (pv 5) (pa_cons (pe_bltn (v:=.ty "int") (by rfl) mx_int bt_int rfl) pa_nil)))
   (pe_and (pe_not (pe_callB (r:=rIsB K) call_isB (by rfl) T.isinstance bt_isinst (pa_cons (pv 5) (pa_cons (pe_bltn (v:=.ty "bool") (by rfl) T.bool bt_bool rfl) pa_nil))))
   (pe_one (pe_cmpR op_eq (pv 5) (pv 4) (nomark _)))))))))))))))),?_⟩
 refine ⟨smallE (by show 3 <= _; decide),λ p hp=>?_⟩
 have g1:=Same.up hp (o:=.lst [V.str "abcpqrxyz",V.str "ax",V.str "cpz"])
 have ep:upd H p (.lst [V.str "abcpqrxyz",V.str "ax",V.str "cpz"]) p = some (.lst [V.str "abcpqrxyz",V.str "ax",V.str "cpz"]):=upd_same
 generalize upd H p (.lst [V.str "abcpqrxyz",V.str "ax",V.str "cpz"]) = H1 at g1 ep
 refine ⟨_,rfl,a,ns,60,rfl,⟨g1.seq hS,h63⟩,by decide,by decide,λ z H2 g2 z0 z1=>?_⟩
 have n0:=Int.emod_nonneg z (b:=3) (by decide)
 have n1:=Int.emod_lt_of_pos z (b:=3) (by decide)
 obtain ⟨l,hl,hat⟩:=op_atV (l:=threeL) n0 n1
 rw [<- three_txt] at hat
 have l9:l.length <= 9:=(by decide:∀ l ∈ threeL,l.length <= 9) l hl
 have lsub:∀ c,c ∈ l -> c ∈ nine:=(by decide:∀ l ∈ threeL,∀ c,c ∈ l -> c ∈ nine) l hl
 refine ⟨_,_,rfl,rfl,(show (0:Int) < 3 by decide),p,_,_,_,rfl,rfl,SqL.of (g2 _ _ ep),hat,?_⟩
 have g2:=g1.trans g2
 refine ⟨_,rfl,_,rfl,a,ns,62,rfl,⟨g2.seq hS,h63⟩,by decide,by decide,λ z2 H3 g3 y0 y1=>?_⟩
 have m0:=Int.emod_nonneg z2 (b:=15) (by decide)
 have m1:=Int.emod_lt_of_pos z2 (b:=15) (by decide)
 have g13:=g2.trans g3
 refine ⟨_,_,rfl,rfl,(show (0:Int) < 15 by decide),_,rfl,a,ns,0,z2 % 15,l,rfl,⟨g13.seq hS,h63⟩,by decide,by decide,m0,by omega,l9,λ t v H4 g4 tr of hw=>?_⟩
 have hw15:t.wt <= 15:=by omega
 have ht25:t.ht <= 25:=Nat.le_trans t.ht_wt (by omega)
 have of9:=of.up lsub
 have g14:=g13.trans g4
 have tl:=t.text_len
 refine ⟨v,t,rfl,tr,ht25,by omega,of9,λ H5 g5=>?_⟩
 have g15:=g14.trans g5
 refine ⟨_,rfl,a,ns,61,rfl,⟨g15.seq hS,h63⟩,by decide,by decide,λ z3 H6 g6 x0 x1=>?_⟩
 have k0:=Int.emod_nonneg z3 (b:=4) (by decide)
 have k1:=Int.emod_lt_of_pos z3 (b:=4) (by decide)
 refine ⟨_,_,rfl,rfl,(show (0:Int) < 4 by decide),z3 % 4,rfl,by omega,by omega,?_⟩
 have g16:=g15.trans g6
 refine for_range (λ i σ H'=>∃ (L:List Nat) (v3:Option V),σ = [some (.ref a),some (vS l),some (vS L),v3,none,none,none,none] /\ Same H H' /\ L.length <= 60 + 10 * i)
  ⟨t.text,none,rfl,g16,by omega⟩ ?_ ?_
 ·rintro i σ H7 hi ⟨L,v3,rfl,g7,hL⟩
  refine ⟨_,rfl,_,rfl,_,rfl,_,_,rfl,rfl,a,ns,_,rfl,⟨g7.seq hS,h63⟩,?_,?_,λ z4 H8 g8 w0 w1=>?_⟩
  ·show (0:Int) <= 57 + (0 + (i:Int)); omega
  ·show 57 + (0 + (i:Int)) <= 100000; omega
  refine ⟨L,z4,rfl,by omega,λ L' H9 hL' g9=>?_⟩
  exact ⟨L',_,rfl,(g7.trans g8).trans g9,by omega⟩
 rintro σ H7 ⟨L,v3,rfl,g7,hL⟩
 have hL:L.length <= 90:=by omega
 refine ⟨_,rfl,L,rfl,by omega,λ H8 g8=>?_⟩
 have g8:=g7.trans g8
 cases hd:rplace ([],none) L 0 with
 | none =>
  obtain ⟨t,rfl,of⟩:=rp_tree hd
  have wt:=t.wt_text
  refine ⟨_,rfl,t.text,rfl,by omega,λ _ u o H9 _ _ g9 _=>?_,λ p hp=>by rw [hd] at hp; cases hp⟩
  refine ⟨_,rfl,rfl,_,rfl,iteT ?_⟩
  refine ⟨_,rfl,rfl,_,rfl,iteT ?_⟩
  refine dVO (f:=vTxt) (n:=100) (κd:=kD) (κr:=kR) (κe:=kE) (λ _ _=>⟨rfl,rfl,rfl⟩) (λ _ _=>⟨_,_,rfl⟩) (λ _ _=>⟨_,_,rfl⟩) (λ _ _=>⟨_,_,rfl⟩) (dreadX (t:=t) (dvA rfl) of (by omega) hd) (by omega) (by omega) of _ _ _ at0 λ HA gA=>?_
  refine ⟨_,rfl,rfl,?_⟩
  exact vk (congrArg V.bl (decide_eq_true rfl)) (q HA)
 | some p =>
  refine ⟨_,rfl,L,rfl,by omega,(λ z=>by rw [hd] at z; cases z),λ p' hp ax dx H9 g9 ea ed=>?_⟩
  rw [hd] at hp
  cases hp
  refine ⟨ax,Cn,rfl,rfl,Z.kx,λ hA=>?_⟩
  refine ⟨_,rfl,ax,Cn,dx,false,_,_,rfl,ea,ed,N.x,N.na,rfl,?_⟩
  refine ⟨_,rfl,ax,Cn,_,true,rfl,hA,N.x,(λ u r=>by cases r; exact Z.kF),true,rfl,iteT ?_⟩
  refine ⟨_,rfl,ax,Cn,_,true,rfl,hA,N.x,(λ u r=>by cases r; exact Z.kV),true,rfl,iteT ?_⟩
  refine ⟨_,rfl,smallE (by show 3 <= _; decide),λ pt hpt=>?_⟩
  refine ⟨ax,Cn,pt,_,false,rfl,hA.mono (Same.up hpt),N.x,SqT.of upd_same,?_,false,rfl,?_⟩
  ·intro us r
   cases r with
   | cons r1 r =>
    cases r with
    | cons r2 r =>
     cases r with
     | cons r3 r =>
      cases r
      cases r1
      cases r2
      cases r3
      unfold PySem.W.kitAny
      rw [Z.k1]
      dsimp only
      unfold PySem.W.kitAny
      rw [Z.k2]
      dsimp only
      unfold PySem.W.kitAny
      rw [Z.k3]
      rfl
  refine ⟨_,rfl,rfl,_,rfl,iteF ?_⟩
  refine ⟨_,rfl,true,rfl,iteT ?_⟩
  refine ⟨_,rfl,_,_,_,true,rfl,.int _,kit_ii,true,rfl,iteT ?_⟩
  refine ⟨_,rfl,_,_,_,false,rfl,.int _,kit_ib,false,rfl,true,rfl,iteT ?_⟩
  refine ⟨_,rfl,_,rfl,rfl,?_⟩
  exact vk (congrArg V.bl (decide_eq_true rfl)) (q _)
end
end Law
set_option Elab.async false
set_option linter.all false
set_option maxRecDepth 100000
set_option maxHeartbeats 4000000
namespace Law
open PySem L2 Fs
theorem all_mk {l:PySem.W.OpenLaw} {w:World} {K:PySem.W.Frag} {h:Heap} {mg:Str -> Option Value} {fa f1 f2 f3 f4 f5 f6 f7 f8 f9 f10 f11 f12 f13 f14 ftA ftN ftL ftO ftD ftR ftE fiLetter fiNot fiPair fip CAlways CNever CLetter CNot CAnd COr CEither CNoSaying CFillError CNoForm CNoWish CStrange:Addr} (X:K.In h) (G:h.Ns mainGlobals mg) (hfa:mg "law" = some (.ref fa))
  {tl1 tl2 tl3:Tok} {cd_NoSaying:ClassData}
  {od1 an1 od2 an2 od3 an3 od4 an4 od5 an5 od6 an6 od7 an7 od8 an8 od9 an9 od10 an10 od11 an11 od12 an12 od13 an13 od14 an14 odtA antA odtN antN odtL antL odtO antO odtD antD odtR antR odtE antE odiLetter aniLetter odiNot aniNot odiPair aniPair odip anip:Option Addr} {sl1 sl2 sl3 sl4 sl5 sl6 sl7 sl8 sl9 sl10 sl11 sl12 sl13 sl14 sltA sltN sltL sltO sltD sltR sltE sliLetter sliNot sliPair slip:Array (Option Value)} {oc1 kV1 dc1 pm1 cd1 ct1 oc2 kV2 dc2 pm2 cd2 ct2 oc3 kV3 dc3 pm3 cd3 ct3 oc4 kV4 dc4 pm4 cd4 ct4 oc5 kV5 dc5 pm5 cd5 ct5 oc6 kV6 dc6 pm6 cd6 ct6 oc7 kV7 dc7 pm7 cd7 ct7 oc8 kV8 dc8 pm8 cd8 ct8 oc9 kV9 dc9 pm9 cd9 ct9 oc10 kV10 dc10 pm10 cd10 ct10 oc11 kV11 dc11 pm11 cd11 ct11 oc12 kV12 dc12 pm12 cd12 ct12 oc13 kV13 dc13 pm13 cd13 ct13 oc14 kV14 dc14 pm14 cd14 ct14 octA kVtA dctA pmtA cdtA cttA octN kVtN dctN pmtN cdtN cttN octL kVtL dctL pmtL cdtL cttL octO kVtO dctO pmtO cdtO cttO octD kVtD dctD pmtD cdtD cttD octR kVtR dctR pmtR cdtR cttR octE kVtE dctE pmtE cdtE cttE ociLetter kViLetter dciLetter pmiLetter cdiLetter ctiLetter ociNot kViNot dciNot pmiNot cdiNot ctiNot ociPair kViPair dciPair pmiPair cdiPair ctiPair ocip kVip dcip pmip cdip ctip:Value}
  (a1:PySem.W.nsIn K mainGlobals "read" = some (some (.ref f1)))
  (a2:PySem.W.nsIn K mainGlobals "signs_behind" = some (some (.ref f2)))
  (a3:PySem.W.nsIn K mainGlobals "taken" = some (some (.ref f3)))
  (a4:PySem.W.nsIn K mainGlobals "with_nots" = some (some (.ref f4)))
  (a5:PySem.W.nsIn K mainGlobals "pair_of" = some (some (.ref f5)))
  (a6:PySem.W.nsIn K mainGlobals "single_of" = some (some (.ref f6)))
  (a7:PySem.W.nsIn K mainGlobals "_law_mixed" = some (some (.ref f7)))
  (a8:PySem.W.nsIn K mainGlobals "_law_leaf" = some (some (.ref f8)))
  (a9:PySem.W.nsIn K mainGlobals "_law_saying" = some (some (.ref f9)))
  (a10:PySem.W.nsIn K mainGlobals "_law_written" = some (some (.ref f10)))
  (a11:PySem.W.nsIn K mainGlobals "_law_sign" = some (some (.ref f11)))
  (a12:PySem.W.nsIn K mainGlobals "_law_place" = some (some (.ref f12)))
  (a13:PySem.W.nsIn K mainGlobals "_law_changed" = some (some (.ref f13)))
  (a14:PySem.W.nsIn K mainGlobals "law" = some (some (.ref f14)))
  (l1:K.lookup f1 = some ⟨oc1,od1,.func (PySem.W.fnOf "read" "read" (defArgs s_read) (defBody s_read) (defScope s_read) .none kV1 dc1 pm1 an1 cd1 ct1),sl1⟩)
  (c1:PySem.W.codeIn K cd1 "read" = true)
  (k1:PySem.W.keepIn K (.ref f1) = true)
  (l2:K.lookup f2 = some ⟨oc2,od2,.func (PySem.W.fnOf "signs_behind" "signs_behind" (defArgs s_signs_behind) (defBody s_signs_behind) (defScope s_signs_behind) .none kV2 dc2 pm2 an2 cd2 ct2),sl2⟩)
  (c2:PySem.W.codeIn K cd2 "signs_behind" = true)
  (k2:PySem.W.keepIn K (.ref f2) = true)
  (l3:K.lookup f3 = some ⟨oc3,od3,.func (PySem.W.fnOf "taken" "taken" (defArgs s_taken) (defBody s_taken) (defScope s_taken) .none kV3 dc3 pm3 an3 cd3 ct3),sl3⟩)
  (c3:PySem.W.codeIn K cd3 "taken" = true)
  (k3:PySem.W.keepIn K (.ref f3) = true)
  (l4:K.lookup f4 = some ⟨oc4,od4,.func (PySem.W.fnOf "with_nots" "with_nots" (defArgs s_with_nots) (defBody s_with_nots) (defScope s_with_nots) .none kV4 dc4 pm4 an4 cd4 ct4),sl4⟩)
  (c4:PySem.W.codeIn K cd4 "with_nots" = true)
  (k4:PySem.W.keepIn K (.ref f4) = true)
  (l5:K.lookup f5 = some ⟨oc5,od5,.func (PySem.W.fnOf "pair_of" "pair_of" (defArgs s_pair_of) (defBody s_pair_of) (defScope s_pair_of) .none kV5 dc5 pm5 an5 cd5 ct5),sl5⟩)
  (c5:PySem.W.codeIn K cd5 "pair_of" = true)
  (k5:PySem.W.keepIn K (.ref f5) = true)
  (l6:K.lookup f6 = some ⟨oc6,od6,.func (PySem.W.fnOf "single_of" "single_of" (defArgs s_single_of) (defBody s_single_of) (defScope s_single_of) .none kV6 dc6 pm6 an6 cd6 ct6),sl6⟩)
  (c6:PySem.W.codeIn K cd6 "single_of" = true)
  (k6:PySem.W.keepIn K (.ref f6) = true)
  (l7:K.lookup f7 = some ⟨oc7,od7,.func (PySem.W.fnOf "_law_mixed" "_law_mixed" (defArgs s_law_mixed) (defBody s_law_mixed) (defScope s_law_mixed) .none kV7 dc7 pm7 an7 cd7 ct7),sl7⟩)
  (c7:PySem.W.codeIn K cd7 "_law_mixed" = true)
  (k7:PySem.W.keepIn K (.ref f7) = true)
  (l8:K.lookup f8 = some ⟨oc8,od8,.func (PySem.W.fnOf "_law_leaf" "_law_leaf" (defArgs s_law_leaf) (defBody s_law_leaf) (defScope s_law_leaf) .none kV8 dc8 pm8 an8 cd8 ct8),sl8⟩)
  (c8:PySem.W.codeIn K cd8 "_law_leaf" = true)
  (k8:PySem.W.keepIn K (.ref f8) = true)
  (l9:K.lookup f9 = some ⟨oc9,od9,.func (PySem.W.fnOf "_law_saying" "_law_saying" (defArgs s_law_saying) (defBody s_law_saying) (defScope s_law_saying) .none kV9 dc9 pm9 an9 cd9 ct9),sl9⟩)
  (c9:PySem.W.codeIn K cd9 "_law_saying" = true)
  (k9:PySem.W.keepIn K (.ref f9) = true)
  (l10:K.lookup f10 = some ⟨oc10,od10,.func (PySem.W.fnOf "_law_written" "_law_written" (defArgs s_law_written) (defBody s_law_written) (defScope s_law_written) .none kV10 dc10 pm10 an10 cd10 ct10),sl10⟩)
  (c10:PySem.W.codeIn K cd10 "_law_written" = true)
  (k10:PySem.W.keepIn K (.ref f10) = true)
  (l11:K.lookup f11 = some ⟨oc11,od11,.func (PySem.W.fnOf "_law_sign" "_law_sign" (defArgs s_law_sign) (defBody s_law_sign) (defScope s_law_sign) .none kV11 dc11 pm11 an11 cd11 ct11),sl11⟩)
  (c11:PySem.W.codeIn K cd11 "_law_sign" = true)
  (k11:PySem.W.keepIn K (.ref f11) = true)
  (l12:K.lookup f12 = some ⟨oc12,od12,.func (PySem.W.fnOf "_law_place" "_law_place" (defArgs s_law_place) (defBody s_law_place) (defScope s_law_place) .none kV12 dc12 pm12 an12 cd12 ct12),sl12⟩)
  (c12:PySem.W.codeIn K cd12 "_law_place" = true)
  (k12:PySem.W.keepIn K (.ref f12) = true)
  (l13:K.lookup f13 = some ⟨oc13,od13,.func (PySem.W.fnOf "_law_changed" "_law_changed" (defArgs s_law_changed) (defBody s_law_changed) (defScope s_law_changed) .none kV13 dc13 pm13 an13 cd13 ct13),sl13⟩)
  (c13:PySem.W.codeIn K cd13 "_law_changed" = true)
  (k13:PySem.W.keepIn K (.ref f13) = true)
  (l14:K.lookup f14 = some ⟨oc14,od14,.func (PySem.W.fnOf "law" "law" (defArgs s_law) (defBody s_law) (defScope s_law) .none kV14 dc14 pm14 an14 cd14 ct14),sl14⟩)
  (c14:PySem.W.codeIn K cd14 "law" = true)
  (k14:PySem.W.keepIn K (.ref f14) = true)
  (nAlways:PySem.W.nsIn K mainGlobals "Always" = some (some (.ref CAlways)))
  (pgAlways:PySem.W.plainGet K CAlways Str.empty = true)
  (hdAlways:PySem.W.hasDictIn K CAlways = true)
  (poAlways:PySem.W.plainOver K CAlways = true)
  (saAlways:PySem.W.findIn K (.ref CAlways) "__setattr__" = some (some (.builtin "object.__setattr__")))
  (mkAlways:PySem.W.makesIn K CAlways = true)
  (kpAlways:PySem.W.keepIn K (.ref CAlways) = true)
  (mtAlways:PySem.W.findIn K (.ref CAlways) "text" = some (some (.ref ftA)))
  (nNever:PySem.W.nsIn K mainGlobals "Never" = some (some (.ref CNever)))
  (pgNever:PySem.W.plainGet K CNever Str.empty = true)
  (hdNever:PySem.W.hasDictIn K CNever = true)
  (poNever:PySem.W.plainOver K CNever = true)
  (saNever:PySem.W.findIn K (.ref CNever) "__setattr__" = some (some (.builtin "object.__setattr__")))
  (mkNever:PySem.W.makesIn K CNever = true)
  (kpNever:PySem.W.keepIn K (.ref CNever) = true)
  (mtNever:PySem.W.findIn K (.ref CNever) "text" = some (some (.ref ftN)))
  (nLetter:PySem.W.nsIn K mainGlobals "Letter" = some (some (.ref CLetter)))
  (pgLetter:PySem.W.plainGet K CLetter Str.empty = true)
  (hdLetter:PySem.W.hasDictIn K CLetter = true)
  (poLetter:PySem.W.plainOver K CLetter = true)
  (saLetter:PySem.W.findIn K (.ref CLetter) "__setattr__" = some (some (.builtin "object.__setattr__")))
  (mkLetter:PySem.W.makesIn K CLetter = true)
  (kpLetter:PySem.W.keepIn K (.ref CLetter) = true)
  (mtLetter:PySem.W.findIn K (.ref CLetter) "text" = some (some (.ref ftL)))
  (nNot:PySem.W.nsIn K mainGlobals "Not" = some (some (.ref CNot)))
  (pgNot:PySem.W.plainGet K CNot Str.empty = true)
  (hdNot:PySem.W.hasDictIn K CNot = true)
  (poNot:PySem.W.plainOver K CNot = true)
  (saNot:PySem.W.findIn K (.ref CNot) "__setattr__" = some (some (.builtin "object.__setattr__")))
  (mkNot:PySem.W.makesIn K CNot = true)
  (kpNot:PySem.W.keepIn K (.ref CNot) = true)
  (mtNot:PySem.W.findIn K (.ref CNot) "text" = some (some (.ref ftO)))
  (nAnd:PySem.W.nsIn K mainGlobals "And" = some (some (.ref CAnd)))
  (pgAnd:PySem.W.plainGet K CAnd Str.empty = true)
  (hdAnd:PySem.W.hasDictIn K CAnd = true)
  (poAnd:PySem.W.plainOver K CAnd = true)
  (saAnd:PySem.W.findIn K (.ref CAnd) "__setattr__" = some (some (.builtin "object.__setattr__")))
  (mkAnd:PySem.W.makesIn K CAnd = true)
  (kpAnd:PySem.W.keepIn K (.ref CAnd) = true)
  (mtAnd:PySem.W.findIn K (.ref CAnd) "text" = some (some (.ref ftD)))
  (nOr:PySem.W.nsIn K mainGlobals "Or" = some (some (.ref COr)))
  (pgOr:PySem.W.plainGet K COr Str.empty = true)
  (hdOr:PySem.W.hasDictIn K COr = true)
  (poOr:PySem.W.plainOver K COr = true)
  (saOr:PySem.W.findIn K (.ref COr) "__setattr__" = some (some (.builtin "object.__setattr__")))
  (mkOr:PySem.W.makesIn K COr = true)
  (kpOr:PySem.W.keepIn K (.ref COr) = true)
  (mtOr:PySem.W.findIn K (.ref COr) "text" = some (some (.ref ftR)))
  (nEither:PySem.W.nsIn K mainGlobals "Either" = some (some (.ref CEither)))
  (pgEither:PySem.W.plainGet K CEither Str.empty = true)
  (hdEither:PySem.W.hasDictIn K CEither = true)
  (poEither:PySem.W.plainOver K CEither = true)
  (saEither:PySem.W.findIn K (.ref CEither) "__setattr__" = some (some (.builtin "object.__setattr__")))
  (mkEither:PySem.W.makesIn K CEither = true)
  (kpEither:PySem.W.keepIn K (.ref CEither) = true)
  (mtEither:PySem.W.findIn K (.ref CEither) "text" = some (some (.ref ftE)))
  (nNoSaying:PySem.W.nsIn K mainGlobals "NoSaying" = some (some (.ref CNoSaying)))
  (nFillError:PySem.W.nsIn K mainGlobals "FillError" = some (some (.ref CFillError)))
  (nNoForm:PySem.W.nsIn K mainGlobals "NoForm" = some (some (.ref CNoForm)))
  (nNoWish:PySem.W.nsIn K mainGlobals "NoWish" = some (some (.ref CNoWish)))
  (nStrange:PySem.W.nsIn K mainGlobals "Strange" = some (some (.ref CStrange)))
  (vclNoSaying:PySem.W.clsIn K CNoSaying = some cd_NoSaying)
  (vtyNoSaying:PySem.W.typeIn K (.ref CNoSaying) = some (.type "type"))
  (mbNoSaying:PySem.W.mroIn K CNoSaying (.type "BaseException") = some true)
  (moNoSaying:PySem.W.mroIn K CNoSaying (.type "object") = some true)
  (gaNoSaying:PySem.W.findIn K (.ref CNoSaying) "__getattribute__" = some (some (.builtin "BaseException.__getattribute__")))
  (gnNoSaying:PySem.W.findIn K (.ref CNoSaying) "__getattr__" = some none)
  (saNoSaying:PySem.W.findIn K (.ref CNoSaying) "__setattr__" = some (some (.builtin "object.__setattr__")))
  (caNoSaying:PySem.W.findIn K (.ref CNoSaying) "__class__" = some (some (.builtin "object.__class__")))
  (kpNoSaying:PySem.W.keepIn K (.ref CNoSaying) = true)
  (inp:PySem.W.findIn K (.ref CNoSaying) "__init__" = some (some (.ref fip)))
  (nap:PySem.W.findIn K (.ref CNoSaying) "place" = some none)
  (hn:PySem.W.specialIn K (.builtin "object.__class__") "__get__" = some (some (.builtin "getset_descriptor.__get__")))
  (htk:PySem.W.takesIn K (.builtin "object.__class__") = some true)
  (cstLETTERS:PySem.W.nsIn K mainGlobals "LETTERS" = some (some (.str "abcpqrxyz" tl1)))
  (cstOPENING:PySem.W.nsIn K mainGlobals "OPENING" = some (some (.str "~(" tl2)))
  (cstBETWEEN:PySem.W.nsIn K mainGlobals "BETWEEN" = some (some (.str "&|+" tl3)))
  (mftA:PySem.W.isFn K (.ref ftA) = true)
  (mftN:PySem.W.isFn K (.ref ftN) = true)
  (mftL:PySem.W.isFn K (.ref ftL) = true)
  (mftO:PySem.W.isFn K (.ref ftO) = true)
  (mftD:PySem.W.isFn K (.ref ftD) = true)
  (mftR:PySem.W.isFn K (.ref ftR) = true)
  (mftE:PySem.W.isFn K (.ref ftE) = true)
  (inAlways:PySem.W.findIn K (.ref CAlways) "__init__" = some (some (.builtin "object.__init__")))
  (inNever:PySem.W.findIn K (.ref CNever) "__init__" = some (some (.builtin "object.__init__")))
  (inLetter:PySem.W.findIn K (.ref CLetter) "__init__" = some (some (.ref fiLetter)))
  (inNot:PySem.W.findIn K (.ref CNot) "__init__" = some (some (.ref fiNot)))
  (inAnd:PySem.W.findIn K (.ref CAnd) "__init__" = some (some (.ref fiPair)))
  (inOr:PySem.W.findIn K (.ref COr) "__init__" = some (some (.ref fiPair)))
  (inEither:PySem.W.findIn K (.ref CEither) "__init__" = some (some (.ref fiPair)))
  (ifiLetter:PySem.W.isFn K (.ref fiLetter) = true)
  (ifiNot:PySem.W.isFn K (.ref fiNot) = true)
  (ifiPair:PySem.W.isFn K (.ref fiPair) = true)
  (ifip:PySem.W.isFn K (.ref fip) = true)
  (naLetterletter:PySem.W.findIn K (.ref CLetter) "letter" = some none)
  (naNotone:PySem.W.findIn K (.ref CNot) "one" = some none)
  (naAndone:PySem.W.findIn K (.ref CAnd) "one" = some none)
  (naAndother:PySem.W.findIn K (.ref CAnd) "other" = some none)
  (naOrone:PySem.W.findIn K (.ref COr) "one" = some none)
  (naOrother:PySem.W.findIn K (.ref COr) "other" = some none)
  (naEitherone:PySem.W.findIn K (.ref CEither) "one" = some none)
  (naEitherother:PySem.W.findIn K (.ref CEither) "other" = some none)
  (ltA:K.lookup ftA = some ⟨octA,odtA,.func (PySem.W.fnOf "text" "Always.text" (defArgs s_Always_text) (defBody s_Always_text) (defScope s_Always_text) .none kVtA dctA pmtA antA cdtA cttA),sltA⟩)
  (ctA:PySem.W.codeIn K cdtA "Always.text" = true)
  (ktA:PySem.W.keepIn K (.ref ftA) = true)
  (ltN:K.lookup ftN = some ⟨octN,odtN,.func (PySem.W.fnOf "text" "Never.text" (defArgs s_Never_text) (defBody s_Never_text) (defScope s_Never_text) .none kVtN dctN pmtN antN cdtN cttN),sltN⟩)
  (ctN:PySem.W.codeIn K cdtN "Never.text" = true)
  (ktN:PySem.W.keepIn K (.ref ftN) = true)
  (ltL:K.lookup ftL = some ⟨octL,odtL,.func (PySem.W.fnOf "text" "Letter.text" (defArgs s_Letter_text) (defBody s_Letter_text) (defScope s_Letter_text) .none kVtL dctL pmtL antL cdtL cttL),sltL⟩)
  (ctL:PySem.W.codeIn K cdtL "Letter.text" = true)
  (ktL:PySem.W.keepIn K (.ref ftL) = true)
  (ltO:K.lookup ftO = some ⟨octO,odtO,.func (PySem.W.fnOf "text" "Not.text" (defArgs s_Not_text) (defBody s_Not_text) (defScope s_Not_text) .none kVtO dctO pmtO antO cdtO cttO),sltO⟩)
  (ctO:PySem.W.codeIn K cdtO "Not.text" = true)
  (ktO:PySem.W.keepIn K (.ref ftO) = true)
  (ltD:K.lookup ftD = some ⟨octD,odtD,.func (PySem.W.fnOf "text" "And.text" (defArgs s_And_text) (defBody s_And_text) (defScope s_And_text) .none kVtD dctD pmtD antD cdtD cttD),sltD⟩)
  (ctD:PySem.W.codeIn K cdtD "And.text" = true)
  (ktD:PySem.W.keepIn K (.ref ftD) = true)
  (ltR:K.lookup ftR = some ⟨octR,odtR,.func (PySem.W.fnOf "text" "Or.text" (defArgs s_Or_text) (defBody s_Or_text) (defScope s_Or_text) .none kVtR dctR pmtR antR cdtR cttR),sltR⟩)
  (ctR:PySem.W.codeIn K cdtR "Or.text" = true)
  (ktR:PySem.W.keepIn K (.ref ftR) = true)
  (ltE:K.lookup ftE = some ⟨octE,odtE,.func (PySem.W.fnOf "text" "Either.text" (defArgs s_Either_text) (defBody s_Either_text) (defScope s_Either_text) .none kVtE dctE pmtE antE cdtE cttE),sltE⟩)
  (ctE:PySem.W.codeIn K cdtE "Either.text" = true)
  (ktE:PySem.W.keepIn K (.ref ftE) = true)
  (liLetter:K.lookup fiLetter = some ⟨ociLetter,odiLetter,.func (PySem.W.fnOf "__init__" "Letter.__init__" (defArgs s_Letter_init) (defBody s_Letter_init) (defScope s_Letter_init) .none kViLetter dciLetter pmiLetter aniLetter cdiLetter ctiLetter),sliLetter⟩)
  (ciLetter:PySem.W.codeIn K cdiLetter "Letter.__init__" = true)
  (kiLetter:PySem.W.keepIn K (.ref fiLetter) = true)
  (liNot:K.lookup fiNot = some ⟨ociNot,odiNot,.func (PySem.W.fnOf "__init__" "Not.__init__" (defArgs s_Not_init) (defBody s_Not_init) (defScope s_Not_init) .none kViNot dciNot pmiNot aniNot cdiNot ctiNot),sliNot⟩)
  (ciNot:PySem.W.codeIn K cdiNot "Not.__init__" = true)
  (kiNot:PySem.W.keepIn K (.ref fiNot) = true)
  (liPair:K.lookup fiPair = some ⟨ociPair,odiPair,.func (PySem.W.fnOf "__init__" "Pair.__init__" (defArgs s_Pair_init) (defBody s_Pair_init) (defScope s_Pair_init) .none kViPair dciPair pmiPair aniPair cdiPair ctiPair),sliPair⟩)
  (ciPair:PySem.W.codeIn K cdiPair "Pair.__init__" = true)
  (kiPair:PySem.W.keepIn K (.ref fiPair) = true)
  (lip:K.lookup fip = some ⟨ocip,odip,.func (PySem.W.fnOf "__init__" "NoSaying.__init__" (defArgs s_NoSaying_init) (defBody s_NoSaying_init) (defScope s_NoSaying_init) .none kVip dcip pmip anip cdip ctip),slip⟩)
  (cip:PySem.W.codeIn K cdip "NoSaying.__init__" = true)
  (kip:PySem.W.keepIn K (.ref fip) = true)
  (mrNoSaying:cd_NoSaying.mro = .ref CNoSaying :: .ref CFillError :: mV)
  (hdNoSaying:cd_NoSaying.hasDict = true)
  (xcNoSaying:xcIn K CNoSaying (some (.ref fip)) = true)
  (kF:PySem.W.kitOne K (.ref CNoSaying) (.ref CFillError) = some true)
  (kVE:PySem.W.kitOne K (.ref CNoSaying) (.type "ValueError") = some true)
  (k1_:PySem.W.kitOne K (.ref CNoSaying) (.ref CNoForm) = some false)
  (k2_:PySem.W.kitOne K (.ref CNoSaying) (.ref CNoWish) = some false)
  (k3_:PySem.W.kitOne K (.ref CNoSaying) (.ref CStrange) = some false)
  (kx:PySem.W.exmOne K (.ref CNoSaying) (.ref CNoSaying) = some true)
  (z1:PySem.W.nsIn K mainGlobals "len" = some none)
  (z2:PySem.W.nsIn K mainGlobals "list" = some none)
  (z3:PySem.W.nsIn K mainGlobals "sorted" = some none)
  (z4:PySem.W.nsIn K mainGlobals "set" = some none)
  (z5:PySem.W.nsIn K mainGlobals "tuple" = some none)
  (z6:PySem.W.nsIn K mainGlobals "dict" = some none)
  (z7:PySem.W.nsIn K mainGlobals "zip" = some none)
  (z8:PySem.W.nsIn K mainGlobals "reversed" = some none)
  (z9:PySem.W.nsIn K mainGlobals "range" = some none)
  (z10:PySem.W.nsIn K mainGlobals "enumerate" = some none)
  (z11:PySem.W.nsIn K mainGlobals "all" = some none)
  (z12:PySem.W.nsIn K mainGlobals "min" = some none)
  (z13:PySem.W.nsIn K mainGlobals "max" = some none)
  (z14:PySem.W.nsIn K mainGlobals "isinstance" = some none)
  (z15:PySem.W.nsIn K mainGlobals "str" = some none)
  (z16:PySem.W.nsIn K mainGlobals "bool" = some none)
  (z17:PySem.W.nsIn K mainGlobals "int" = some none)
  (z18:PySem.W.nsIn K mainGlobals "ValueError" = some none)
  : ∃ fd:FuncData,(∀ (s:Shared) (v:Value),BindsTo s fd ⟨[v],[]⟩ [("_law_script",v)]) /\ ∀ base:Heap,K.In base -> base.Ns mainGlobals mg -> FnOk l.prog w K mg base CX0 101 fa fd ["_law_script"] (spLaw K):=by
 have e:=hfa.symm.trans (PySem.W.mg_of X G a14)
 cases e
 have T:Txt mg:=⟨PySem.W.mg_none_of X G z1,PySem.W.mg_none_of X G z2,PySem.W.mg_none_of X G z3,PySem.W.mg_none_of X G z4,PySem.W.mg_none_of X G z5,PySem.W.mg_none_of X G z6,PySem.W.mg_none_of X G z7,PySem.W.mg_none_of X G z8,PySem.W.mg_none_of X G z9,PySem.W.mg_none_of X G z10,PySem.W.mg_none_of X G z11,PySem.W.mg_none_of X G z12,PySem.W.mg_none_of X G z13,PySem.W.mg_none_of X G z14,PySem.W.mg_none_of X G z15,PySem.W.mg_none_of X G z16⟩
 have Tint:=PySem.W.mg_none_of X G z17
 have TValueError:=PySem.W.mg_none_of X G z18
 have F1:=fun_mk (st:=s_read) l1 c1 k1
 have b1:=F1.binds (ps:=["text"]) λ _ _ _ _ _ _ us hl=>match us,hl with | [_],_=>rfl
 have F2:=fun_mk (st:=s_signs_behind) l2 c2 k2
 have b2:=F2.binds (ps:=["opened","ended"]) λ _ _ _ _ _ _ us hl=>match us,hl with | [_,_],_=>rfl
 have F3:=fun_mk (st:=s_taken) l3 c3 k3
 have b3:=F3.binds (ps:=["opened","ended","sign"]) λ _ _ _ _ _ _ us hl=>match us,hl with | [_,_,_],_=>rfl
 have F4:=fun_mk (st:=s_with_nots) l4 c4 k4
 have b4:=F4.binds (ps:=["opened","saying"]) λ _ _ _ _ _ _ us hl=>match us,hl with | [_,_],_=>rfl
 have F5:=fun_mk (st:=s_pair_of) l5 c5 k5
 have b5:=F5.binds (ps:=["sign","one","other"]) λ _ _ _ _ _ _ us hl=>match us,hl with | [_,_,_],_=>rfl
 have F6:=fun_mk (st:=s_single_of) l6 c6 k6
 have b6:=F6.binds (ps:=["sign"]) λ _ _ _ _ _ _ us hl=>match us,hl with | [_],_=>rfl
 have F7:=fun_mk (st:=s_law_mixed) l7 c7 k7
 have b7:=F7.binds (ps:=["_law_script","_law_k"]) λ _ _ _ _ _ _ us hl=>match us,hl with | [_,_],_=>rfl
 have F8:=fun_mk (st:=s_law_leaf) l8 c8 k8
 have b8:=F8.binds (ps:=["_law_mix","_law_letters"]) λ _ _ _ _ _ _ us hl=>match us,hl with | [_,_],_=>rfl
 have F9:=fun_mk (st:=s_law_saying) l9 c9 k9
 have b9:=F9.binds (ps:=["_law_script","_law_at","_law_many","_law_letters"]) λ _ _ _ _ _ _ us hl=>match us,hl with | [_,_,_,_],_=>rfl
 have F10:=fun_mk (st:=s_law_written) l10 c10 k10
 have b10:=F10.binds (ps:=["_law_tree"]) λ _ _ _ _ _ _ us hl=>match us,hl with | [_],_=>rfl
 have F11:=fun_mk (st:=s_law_sign) l11 c11 k11
 have b11:=F11.binds (ps:=["_law_mix"]) λ _ _ _ _ _ _ us hl=>match us,hl with | [_],_=>rfl
 have F12:=fun_mk (st:=s_law_place) l12 c12 k12
 have b12:=F12.binds (ps:=["_law_text"]) λ _ _ _ _ _ _ us hl=>match us,hl with | [_],_=>rfl
 have F13:=fun_mk (st:=s_law_changed) l13 c13 k13
 have b13:=F13.binds (ps:=["_law_text","_law_mix"]) λ _ _ _ _ _ _ us hl=>match us,hl with | [_,_],_=>rfl
 have F14:=fun_mk (st:=s_law) l14 c14 k14
 have FtA:=fun_mk (st:=s_Always_text) ltA ctA ktA
 have btA:=FtA.binds (ps:=["self"]) λ _ _ _ _ _ _ us hl=>match us,hl with | [_],_=>rfl
 have FtN:=fun_mk (st:=s_Never_text) ltN ctN ktN
 have btN:=FtN.binds (ps:=["self"]) λ _ _ _ _ _ _ us hl=>match us,hl with | [_],_=>rfl
 have FtL:=fun_mk (st:=s_Letter_text) ltL ctL ktL
 have btL:=FtL.binds (ps:=["self"]) λ _ _ _ _ _ _ us hl=>match us,hl with | [_],_=>rfl
 have FtO:=fun_mk (st:=s_Not_text) ltO ctO ktO
 have btO:=FtO.binds (ps:=["self"]) λ _ _ _ _ _ _ us hl=>match us,hl with | [_],_=>rfl
 have FtD:=fun_mk (st:=s_And_text) ltD ctD ktD
 have btD:=FtD.binds (ps:=["self"]) λ _ _ _ _ _ _ us hl=>match us,hl with | [_],_=>rfl
 have FtR:=fun_mk (st:=s_Or_text) ltR ctR ktR
 have btR:=FtR.binds (ps:=["self"]) λ _ _ _ _ _ _ us hl=>match us,hl with | [_],_=>rfl
 have FtE:=fun_mk (st:=s_Either_text) ltE ctE ktE
 have btE:=FtE.binds (ps:=["self"]) λ _ _ _ _ _ _ us hl=>match us,hl with | [_],_=>rfl
 have FiLetter:=fun_mk (st:=s_Letter_init) liLetter ciLetter kiLetter
 have biLetter:=FiLetter.binds (ps:=["self","letter"]) λ _ _ _ _ _ _ us hl=>match us,hl with | [_,_],_=>rfl
 have FiNot:=fun_mk (st:=s_Not_init) liNot ciNot kiNot
 have biNot:=FiNot.binds (ps:=["self","one"]) λ _ _ _ _ _ _ us hl=>match us,hl with | [_,_],_=>rfl
 have FiPair:=fun_mk (st:=s_Pair_init) liPair ciPair kiPair
 have biPair:=FiPair.binds (ps:=["self","one","other"]) λ _ _ _ _ _ _ us hl=>match us,hl with | [_,_,_],_=>rfl
 have Fip:=fun_mk (st:=s_NoSaying_init) lip cip kip
 have bip:=Fip.binds (ps:=["self","place"]) λ _ _ _ _ _ _ us hl=>match us,hl with | [_,_],_=>rfl
 have m1:=PySem.W.mg_of X G a1
 have m2:=PySem.W.mg_of X G a2
 have m3:=PySem.W.mg_of X G a3
 have m4:=PySem.W.mg_of X G a4
 have m5:=PySem.W.mg_of X G a5
 have m6:=PySem.W.mg_of X G a6
 have m7:=PySem.W.mg_of X G a7
 have m8:=PySem.W.mg_of X G a8
 have m9:=PySem.W.mg_of X G a9
 have m10:=PySem.W.mg_of X G a10
 have m11:=PySem.W.mg_of X G a11
 have m12:=PySem.W.mg_of X G a12
 have m13:=PySem.W.mg_of X G a13
 have m14:=PySem.W.mg_of X G a14
 have mCAlways:=PySem.W.mg_of X G nAlways
 have clAlways:Cls K CAlways:=⟨pgAlways,hdAlways,poAlways,saAlways⟩
 have mCNever:=PySem.W.mg_of X G nNever
 have clNever:Cls K CNever:=⟨pgNever,hdNever,poNever,saNever⟩
 have mCLetter:=PySem.W.mg_of X G nLetter
 have clLetter:Cls K CLetter:=⟨pgLetter,hdLetter,poLetter,saLetter⟩
 have mCNot:=PySem.W.mg_of X G nNot
 have clNot:Cls K CNot:=⟨pgNot,hdNot,poNot,saNot⟩
 have mCAnd:=PySem.W.mg_of X G nAnd
 have clAnd:Cls K CAnd:=⟨pgAnd,hdAnd,poAnd,saAnd⟩
 have mCOr:=PySem.W.mg_of X G nOr
 have clOr:Cls K COr:=⟨pgOr,hdOr,poOr,saOr⟩
 have mCEither:=PySem.W.mg_of X G nEither
 have clEither:Cls K CEither:=⟨pgEither,hdEither,poEither,saEither⟩
 let ca:CA:=⟨CAlways,CNever,CLetter,CNot,CAnd,COr,CEither⟩
 have C:CTxt K ca fiLetter fiNot fiPair:=⟨clAlways,clNever,clLetter,clNot,clAnd,clOr,clEither,⟨mkAlways,inAlways,kpAlways⟩,⟨mkNever,inNever,kpNever⟩,⟨mkLetter,inLetter,ifiLetter,kpLetter⟩,⟨mkNot,inNot,ifiNot,kpNot⟩,⟨mkAnd,inAnd,ifiPair,kpAnd⟩,⟨mkOr,inOr,ifiPair,kpOr⟩,⟨mkEither,inEither,ifiPair,kpEither⟩,naLetterletter,naNotone,⟨naAndone,naAndother⟩,⟨naOrone,naOrother⟩,⟨naEitherone,naEitherother⟩⟩
 have Mt:MTxt K ca "text" ftA ftN ftL ftO ftD ftR ftE:=⟨⟨mtAlways,mftA,ktA⟩,⟨mtNever,mftN,ktN⟩,⟨mtLetter,mftL,ktL⟩,⟨mtNot,mftO,ktO⟩,⟨mtAnd,mftD,ktD⟩,⟨mtOr,mftR,ktR⟩,⟨mtEither,mftE,ktE⟩⟩
 have xN:XCl K CNoSaying:=⟨⟨_,vclNoSaying,by rw [mrNoSaying]; rfl,hdNoSaying⟩,mbNoSaying,moNoSaying,gaNoSaying,gnNoSaying,saNoSaying,caNoSaying,hn,htk,kpNoSaying,vtyNoSaying⟩
 have Z:E5 K mg CFillError CNoForm CNoWish CStrange CNoSaying:=⟨PySem.W.mg_of X G nFillError,PySem.W.mg_of X G nNoForm,PySem.W.mg_of X G nNoWish,PySem.W.mg_of X G nStrange,TValueError,kF,kVE,k1_,k2_,k3_,kx⟩
 refine ⟨PySem.W.fnOf "law" "law" (defArgs s_law) (defBody s_law) (defScope s_law) .none kV14 dc14 pm14 an14 cd14 ct14,λ s v=>.of_eq rfl,λ base _ _=>?_⟩
 have mlet:=PySem.W.mg_of X G cstLETTERS
 have mope:=PySem.W.mg_of X G cstOPENING
 have mbet:=PySem.W.mg_of X G cstBETWEEN
 have Gp:FnOk l.prog w K mg base CX0 1 fip _ ["self","place"] (spInit K "place"):=ok_inip Fip
 have Nx:XNs l.prog w K mg base CNoSaying:=⟨PySem.W.mg_of X G nNoSaying,xN,nap,_,_,xcNoSaying,ifip,Gp,bip⟩
 have Gm:FnOk l.prog w K mg base CX0 1 f7 _ ["_law_script","_law_k"] (spMixed2 K):=ok_mixed F7 T
 have Gl:FnOk l.prog w K mg base CX0 1 f8 _ ["_law_mix","_law_letters"] spLeaf:=ok_leaf F8 T
 have GS:=ok_say F9 T Gm b7 k7 m7 Gl b8 k8 m8
 have GW:=ok_written (P:=l.prog) (w:=w) (base:=base) F10 T b10 m10 25
 have Gg:=ok_sgn (P:=l.prog) (w:=w) (K:=K) (mg:=mg) (base:=base) F11 T
 have GC:=ok_chg F13 T Gg b11 k11 m11
 have GP:=ok_plc (P:=l.prog) (w:=w) (K:=K) (mg:=mg) (base:=base) F12 T
 have GiL:FnOk l.prog w K mg base CX0 1 fiLetter _ ["self","letter"] (spInit1 K "letter"):=ok_initL FiLetter
 have GiN:FnOk l.prog w K mg base CX0 1 fiNot _ ["self","one"] (spInit1 K "one"):=ok_initN FiNot
 have GiP:FnOk l.prog w K mg base CX0 1 fiPair _ ["self","one","other"] (spInit2 K "one" "other"):=ok_initP FiPair
 have Gsn:=ok_sn F6 C mCAlways mCNever mCLetter GiL biLetter
 have Gpr:=ok_pr F5 C mCAnd mCOr mCEither GiP biPair
 have Gwn:=ok_wn F4 T C mCNot GiN biNot
 have Gsb:=ok_sb (P:=l.prog) (w:=w) (mg:=mg) (base:=base) (c:=ca) F2 T mlet mope mbet
 have Gtk:=ok_tk F3 mope mbet Gwn b4 k4 m4 Gpr b5 k5 m5 Gsn b6 k6 m6
 have Grd:=ok_rdX F1 T Nx Gsb b2 k2 m2 Gtk b3 k3 m3
 have Vt:=ok_texts (P:=l.prog) (w:=w) (mg:=mg) (base:=base) C Mt btA btN btL btO btD btR btE FtA FtN FtL FtO FtD FtR FtE 100
 exact ok_law F14 T Tint C Nx Z Mt Vt btA btN btL btO btD btR btE Gm b7 k7 m7 GS b9 k9 m9 GW b10 k10 m10 GC b13 k13 m13 GP b12 k12 m12 Grd b1 k1 m1
end Law
set_option Elab.async false
set_option linter.all false
set_option maxRecDepth 100000
set_option maxHeartbeats 4000000
namespace Law
open PySem L2 Fs
theorem walk {l:PySem.W.OpenLaw} {q:Program} {loose:List Str} {XP:(Str -> Option Value) -> Heap -> Prop} {YP:World -> Heap -> Prop} {d:DefRec} {K:Params -> PySem.W.Frag} (hn:l.most = some 63) (hdf:d.params.defaults = [])
  (hY:∀ (w:World) (h:Heap),YP w h -> (K w.params).In h)
  (F:∀ (w:World) (mg:Str -> Option Value) (fa:Addr) (h:Heap),(K w.params).In h -> h.Ns mainGlobals mg -> mg d.name = some (.ref fa) ->
   ∃ fd:FuncData,(∀ (s:Shared) (u:Value),BindsTo s fd ⟨[u],[]⟩ [("_law_script",u)]) /\ ∀ base:Heap,(K w.params).In base -> base.Ns mainGlobals mg -> FnOk l.prog w (K w.params) mg base CX0 101 fa fd ["_law_script"] (spLaw (K w.params))) :
  PySem.W.WalkO q loose XP YP l.row.toRowW d [] (λ f vs=>PySem.call f vs) :=
 L2.walk_of (n:=63) (k:=101) (x:="_law_script") (CX:=λ _=>CX0) (sp:=λ w=>spLaw (K w.params)) hn (by decide) hdf ⟨rfl,by decide,by decide⟩ hY F (λ _ _ a ns hl _ hS=>⟨a,ns,rfl,hS,hl,λ _=>rfl⟩) λ _ _ _ _ _ z=>z
end Law
open PySem PySem.W PyProof.Rows
structure PySem.W.Fast:Prop where (tw15049741985036790625 tw2485784552335623547 tw15057566142930386446 tw16614609824805491882 tw10386117720890200203 tw11067609137171008382 tw7198200415380653418 tw9006192809813312415 tw940450842861299694 tw15438946902486056751 tw3951775988969108849 tw12028067368362420394 tw1996800544004729712 tw516206758940112673 tw18315780193880563598 tw9938071971788338659 tw1792211625622771009 tw2356805195105844872 tw7820157530158871689 tw2997675219077171005 tw7475774275894381317 tw12149639893816730379 tw4893672161023232459 tw3734369102048005648 tw3390014117934840905 tw6011330685298609018 tw12392327426517942396 tw11453877644276849133 tw16044092245675372419 tw2097315815071766867 tw2057862787749132671 tw6622121810986843802 tw5273717671176749515 tw13921452628701999849 tw10501045617580278350 tw2304745524985551541 tw2772441620838082900 tw15011403578781480137 tw17952336927788617486 tw12837574673772623568 tw12529300882677115764 tw5010603629666443016 tw17712550332192709770 tw5857438452404234200 tw10822899384828010079 tw17239835255114576756 tw16329234897238690634 tw10168075381997985299 tw14248670759038589286 tw8735175458600952544 tw14772143844333688837 tw14805286495178221007 tw1108376017033117965 tw10535671408809595970 tw3250145370119469594 tw5525559962306447340 tw1748607049130221736 tw15237509973723723920 tw6007288211445194143 tw2748775911808128927 tw8325984454665162265 tw514332269367938077 tw4126624220094417434 tw5323597603251460172 tw2720220952939577566 tw1058281755743408427 tw17300308228753012679 tw15366729699847446988 tw9376022429682597183 tw5111404094960580814 tw11060631078551128621 tw18415316016718950714 tw14624460477797848063 tw15045116189003892303 tw6249707851844652653 tw3541506094081694908 tw10653401776217967726 tw9984423478093698278 tw18345714046612805462 tw15540349795046245407 tw1713487348097115800 tw3106924302052694817 tw740574141834792175 tw2956752615370661440 tw7463229933802501278 tw10612406912400579150 tw7156736457497438259 tw15662802184623684340 tw443096453446190530 tw2952185114220389814 tw8788247174843080107 tw7395439984161403903 tw8297251478262365060 tw9604548435040891018 tw11340446797401831761 tw10272903313364170820 tw15892146366001324652 tw14877394675339438230 tw13442325538978293055 tw1948152198804021930 tw1248651425777262308 tw10163185134758998881 tw4380681007829510504 tw7003461021425632417 tw8917533397353549818 tw3070662657815332183 tw16686980746815221844 tw2182851101849519629 tw17391989810139272276 tw14973258655012112863 tw11249980833315201763 tw16324527846286022622 tw213050550802578388 tw8023403025640815507 tw18386495506936220299 tw17108250383393083946 tw10938522454560777951 tw17980286074299973910 tw15560091642924102676 tw10792933097203808448 tw7898762334708050251 tw1422676913857503905 tw11571277256358487220 tw2938571107257418076 tw6248879785722284824 tw16611857143149915623 tw1227285897057554071 tw14778169131118512469 tw13272955277955456425 tw5342530227889060013 tw9326709837737031699 tw4272405719434921037 tw5242623295376420031 tw16558867248011835 tw1067881199864962702 tw2597606805357774735 tw3408893924025516174 tw6364543379337071529 tw4740406473596329514 tw7581485793349180314 tw15589213737144864244 tw14818347313792164921 tw5570434666620645474 tw2757361488204109321 tw1875903277556086340 tw10588585697893619302 tw14844144853041093638 tw17972503954936146387 tw8338712383743080072 tw16879625040658717006 tw2879495819627300901 tw4844975010825618458 tw3019935296607519701 tw11772956099162193891 tw6289606615804399382 tw14335774609173072229 tw13814312015247338489 tw4177128364865294022 tw2001363948982336189 tw3940879805376080228 tw17064782482566706569 tw3052043597797313013 tw9636099955890912799 tw14545283416615271946 tw4487202746916940417 tw17643217916340518036 tw11671478616372626126 tw9743443467560051845 tw485383059418193983 tw16939323256097470136 tw14042255752942108589 tw10299103325759282111 tw9264645408203851150 tw16507374036816869455 tw12056879659747350321 tw13484240403875487894 tw12278272604568483578 tw17266946139545627731 tw4957347043136734428 tw18251971872378717990 tw9004761722899847865 tw460418126975099626 tw13442470762158059985 tw12646224058283378423 tw15959172923384410393 tw14561989186360645224 tw10707103479727497810 tw13234256546545227168 tw7967188671801562919 tw2897233414670981054 tw554171785694282590 tw17612300880939916383 tw5155666027048545664 tw3033954519590997661 tw11014139176750437141 tw5599186827283762187 tw12863950114491064253 tw9148845187474553330 tw685658765400703704 tw3440349129162484514 tw12647330803499951653 tw14881953802196143384 tw8412885086485268133 tw3790570603464978109 tw16614460723444403224 tw15855862666363556483 tw14305383903018300996 tw11308571122540149976 tw9016422998720519518 tw5297426458724951460 tw4543976525165845295 tw2990663551192766163 tw16186344168858298524 tw7231549173853350327 tw5401752707337252379 tw8972144797898521529 tw6265590248229085625 tw16907968982869941283 tw14157012550663086696 tw887333111220899923 tw7368524934908250412 tw10075686985281318755 tw5261293664320108921 tw8157039220125284630 tw3107830198651066420 tw14810562643178757263 tw11859303447400163874 tw6626634145172013589 tw14781074558126653050 tw569965659702697415 tw1945208554139479483 tw14949664572211751760 tw10286681274081034127 tw7190545896623641129 tw6044156263009675747 tw12769978567353019319 tw7927676501959515688 tw15512213203623375585 tw2192781858151281834 tw5747927853776537281 tw11488063717402391528 tw16931377470572162916 tw13746984254325387720 tw1390065260868683188 tw17518809753815562541 tw9764486795944476153 tw6040917129371608365 tw480643312301281168 tw2738454536573312956 tw5703024410261125272 tw5543673189661966602 tw15519549979043169865 tw16676806684010545129 tw16038987872549283510 tw12279842023132424802 tw14781225708192485517 tw9736805078880014701 tw9823378642706905286 tw2154589769172392722 tw9878582621270886702 tw10946048753315898579 tw8618271711099672606 tw15453554622212145631 tw563005574784952722 tw8698218720902513641 tw8897202401762246185 tw3798924083522333856 tw17616458601338998221 tw16308584389445610609 tw9231648730427842568 tw1306966317627885405 tw18356628279614211308 tw8140027626529560203 tw16919118023480994879 tw2175536687205856484 tw16146327117417809783 tw14733612887601534875 tw18249839858343274006 tw17353319905633095383 tw4276626962531197410 tw14434500626003335571 tw9379363253680869150 tw3036341653969634219 tw15497297298211734730 tw8267459924308796936 tw4224012227451846967 tw3106431683220093049 tw2021811098506634086 tw17650192556988837830 tw6866827160476253208 tw6810190058162468173 tw5096290696847509934 tw3917616889979606346 tw18138928605965520514 tw18009358973463585560 tw11515873241901445650 tw10619946164120318238 tw820452492434817703 tw17886491522935050764 tw17008281992822236219 tw8021422202356676516 tw13497694357694432764 tw5699353134515257220 tw5271214480782687545 tw16797111147197969670 tw6869797554140846175 tw3956914588506873930 tw2465277362865325084 tw2450736232819612458 tw17635174451519494942 tw1555415834282649669 tw12445764574343521926 tw2342544459528364147 tw5146721765811817961 tw15499040501413862970 tw7192834141190534826 tw13214819256217499024 tw14472512407383732960 tw7829596287703980274 tw12896474828688963708 tw3192464735758652543 tw6197086976335674081 tw16552490934200085302 tw9847007450983630662 tw9355918640231354233 tw8183126993679008659 tw8031095403549192566 tw7486386274434203703 tw7431646123388809260 tw644555308482779431 tw617924284746763576 tw596617740814272606 tw5269206350934726699 tw5077273961781718499 tw4364617148581009799 tw4247000090083807782 tw3824244928330165689 tw3201145306461410512 tw18319494465483888671 tw18319158054203746008 tw17776401141372467586 tw15141232278194545363 tw13617220689094719459 tw12422604962487172634 tw11523563462905554198 tw1086715010330747745 tw10166531852627126366 tw10122887438155550616 tw9221395990765499265 tw4519946344779443582 tw16599022790867683356 tw9991041799474027455 tw9884197958952930809 tw8537898469628129143 tw6786927592391819382 tw4569002055324080228 tw4290577557514174201 tw3415160701478581383 tw2134685744719780711 tw18243172344865911463 tw17648644556178588168 tw1660428055454547824 tw15625173060775196152 tw13355867134929797441 tw11185304777694992118 tw9674797828386215038 tw7814480087683397870 tw738035379716137334 tw7367430951209386103 tw5200018165776965840 tw4386958166385222514 tw16847347446161487696 tw16400418894174914285 tw16105377179945857812 tw16079457949098989108 tw15985283116258380436 tw14713299723587301226 tw14250959599490439086 tw11151727162762981063 tw17475012466727819562 tw8786572915507446601 tw7593221008753658384 tw17129787751336087932 tw15657423605980026770 tw14918970373971645263 tw1428495965762636087 tw1403605976990757563 tw12955428135350715761 tw12513812147322370174 tw12285865060369852400 tw11928003101735235067 tw10377488176257326871 tw9350809198028220415 tw5893419748644831756 tw5316167629433360486 tw5051463359031656753 tw37564300409329592 tw3267698435404028055 tw2803802020476667144 tw16883551723460324593 tw16356526681424987763 tw16037049482287774151 tw13977178126129785480 tw12331048917363342590 tw1027758575403993541 tw10185436700989525966 tw9956117290834427646 tw9747401790950819551 tw9726106061328619387 tw9642986341964039730 tw9572152799398775855 tw9483287525745826425 tw9405076588789315461 tw9096140456995051146 tw9037634072154969708 tw9021562117235583578 tw8619675249577770209 tw859635861553862201 tw846765408320960858 tw8402908538747411931 tw824762408954983626 tw7942017486584836841 tw7718860785940361092 tw7688993986320536955 tw7641785961409271562 tw760041363651818956 tw7482680391876410203 tw7151990208093063692 tw6837601116179133989 tw6821196293344742471 tw6657378603804705402 tw654551340501107772 tw6277946899659320529 tw6141399060895505425 tw6028282479065766386 tw5923315591234634857 tw5775111297071329150 tw5648484402543761166 tw5292742521094638260 tw5253448129274616902 tw5160564444907393327 tw5131619491679945864 tw4958459190942021941 tw4880641803181812545 tw4861672740458988433 tw4802120159764374974 tw4736936253569642445 tw4560108815843893010 tw4550323894685253666 tw4508823648886451187 tw4378577595597512377 tw4205641805467522674 tw3864597234157446156 tw3661474121926934913 tw3593964517715868757 tw356980714590349666 tw3420463996076861365 tw3374165506705283058 tw3352306838253260499 tw3247552268227588311 tw3044058978788451934 tw2829335110798607571 tw2689946879364683368 tw2571142075589578229 tw2535626300382423245 tw2292528163065561419 tw2185000920144965704 tw213548482535221466 tw2129090569292351725 tw2034483555541719559 tw18402200284579842242 tw17962588251997894706 tw17951331173419395511 tw17899302058822783807 tw17850633448921529873 tw17733166261063471985 tw17388172175341515924 tw17367105388189376752 tw1732128621603067332 tw17290166255997487520 tw16594459882947120987 tw16187138732385519175 tw16114355565068940126 tw16099763659796850960 tw16095274946815055856 tw16013439468487628137 tw15986254093238326005 tw15884317835946986684 tw15806194606675645162 tw15648389667729942535 tw15486257712658458790 tw15395852162638659488 tw1531591276091965748 tw15285366396712703108 tw15197849289336918334 tw15155085780891594968 tw15126202456639037034 tw15124892423506260171 tw15061962151505082905 tw14953080830571106222 tw14881516146249604702 tw14548756660902296929 tw14461831537652697435 tw14404558132223809584 tw1437004939117650326 tw14095010023979765186 tw14045534065232872781 tw13618513586817656935 tw13579526737492771921 tw13525053687619534931 tw13256383300949051545 tw12697223495146016566 tw12632908892087145729 tw1259241769170786170 tw12499398563058317594 tw12420787993531010204 tw12241388694804403249 tw1205044915524606056 tw11561229524869885755 tw11518628766009057055 tw11413085080026018323 tw11050755896141492933 tw11001092178350124991 tw10750923731584836279 tw10681906878692331967 tw10602687879632719903 tw1057737050564817059 tw10517430120980574830 tw10453730856186983317 tw10416527593915602511 tw10164069819027676525 tw10128063737592880175:True)
set_option maxRecDepth 100000 in
set_option maxHeartbeats 0 in
theorem PySem.Challenge.cw_fillsay_k05_no_saying_holds : PySem.Challenge.rw_fillsay_k05_no_saying.Holds := by
 w_on; o_law; k_head; (case hw=>w_witness2)
 k_fill
 refine Law.walk (l:=PySem.Challenge.rw_fillsay_k05_no_saying) rfl rfl (λ w h Y=>PySem.W.kIn_of Y) ?F
 case F =>
  intro w mg fa h KX G hmg
  refine' Law.all_mk KX G hmg ?a1 ?a2 ?a3 ?a4 ?a5 ?a6 ?a7 ?a8 ?a9 ?a10 ?a11 ?a12 ?a13 ?a14 ?l1 ?c1 ?k1 ?l2 ?c2 ?k2 ?l3 ?c3 ?k3 ?l4 ?c4 ?k4 ?l5 ?c5 ?k5 ?l6 ?c6 ?k6 ?l7 ?c7 ?k7 ?l8 ?c8 ?k8 ?l9 ?c9 ?k9 ?l10 ?c10 ?k10 ?l11 ?c11 ?k11 ?l12 ?c12 ?k12 ?l13 ?c13 ?k13 ?l14 ?c14 ?k14 ?nAlways ?pgAlways ?hdAlways ?poAlways ?saAlways ?mkAlways ?kpAlways ?mtAlways ?nNever ?pgNever ?hdNever ?poNever ?saNever ?mkNever ?kpNever ?mtNever ?nLetter ?pgLetter ?hdLetter ?poLetter ?saLetter ?mkLetter ?kpLetter ?mtLetter ?nNot ?pgNot ?hdNot ?poNot ?saNot ?mkNot ?kpNot ?mtNot ?nAnd ?pgAnd ?hdAnd ?poAnd ?saAnd ?mkAnd ?kpAnd ?mtAnd ?nOr ?pgOr ?hdOr ?poOr ?saOr ?mkOr ?kpOr ?mtOr ?nEither ?pgEither ?hdEither ?poEither ?saEither ?mkEither ?kpEither ?mtEither ?nNoSaying ?nFillError ?nNoForm ?nNoWish ?nStrange ?vclNoSaying ?vtyNoSaying ?mbNoSaying ?moNoSaying ?gaNoSaying ?gnNoSaying ?saNoSaying ?caNoSaying ?kpNoSaying ?inp ?nap ?hn ?htk ?cstLETTERS ?cstOPENING ?cstBETWEEN ?mftA ?mftN ?mftL ?mftO ?mftD ?mftR ?mftE ?inAlways ?inNever ?inLetter ?inNot ?inAnd ?inOr ?inEither ?ifiLetter ?ifiNot ?ifiPair ?ifip ?naLetterletter ?naNotone ?naAndone ?naAndother ?naOrone ?naOrother ?naEitherone ?naEitherother ?ltA ?ctA ?ktA ?ltN ?ctN ?ktN ?ltL ?ctL ?ktL ?ltO ?ctO ?ktO ?ltD ?ctD ?ktD ?ltR ?ctR ?ktR ?ltE ?ctE ?ktE ?liLetter ?ciLetter ?kiLetter ?liNot ?ciNot ?kiNot ?liPair ?ciPair ?kiPair ?lip ?cip ?kip ?mrNoSaying ?hdNoSaying ?xcNoSaying ?kF ?kVE ?k1_ ?k2_ ?k3_ ?kx ?z1 ?z2 ?z3 ?z4 ?z5 ?z6 ?z7 ?z8 ?z9 ?z10 ?z11 ?z12 ?z13 ?z14 ?z15 ?z16 ?z17 ?z18
  (case a1=>k_is)
  (case a2=>k_is)
  (case a3=>k_is)
  (case a4=>k_is)
  (case a5=>k_is)
  (case a6=>k_is)
  (case a7=>k_is)
  (case a8=>k_is)
  (case a9=>k_is)
  (case a10=>k_is)
  (case a11=>k_is)
  (case a12=>k_is)
  (case a13=>k_is)
  (case a14=>k_is)
  (case l1=>k_is)
  (case c1=>k_is)
  (case k1=>k_is)
  (case l2=>k_is)
  (case c2=>k_is)
  (case k2=>k_is)
  (case l3=>k_is)
  (case c3=>k_is)
  (case k3=>k_is)
  (case l4=>k_is)
  (case c4=>k_is)
  (case k4=>k_is)
  (case l5=>k_is)
  (case c5=>k_is)
  (case k5=>k_is)
  (case l6=>k_is)
  (case c6=>k_is)
  (case k6=>k_is)
  (case l7=>k_is)
  (case c7=>k_is)
  (case k7=>k_is)
  (case l8=>k_is)
  (case c8=>k_is)
  (case k8=>k_is)
  (case l9=>k_is)
  (case c9=>k_is)
  (case k9=>k_is)
  (case l10=>k_is)
  (case c10=>k_is)
  (case k10=>k_is)
  (case l11=>k_is)
  (case c11=>k_is)
  (case k11=>k_is)
  (case l12=>k_is)
  (case c12=>k_is)
  (case k12=>k_is)
  (case l13=>k_is)
  (case c13=>k_is)
  (case k13=>k_is)
  (case l14=>k_is)
  (case c14=>k_is)
  (case k14=>k_is)
  (case nAlways=>k_is)
  (case pgAlways=>k_is)
  (case hdAlways=>k_is)
  (case poAlways=>k_is)
  (case saAlways=>k_is)
  (case mkAlways=>k_is)
  (case kpAlways=>k_is)
  (case mtAlways=>k_is)
  (case nNever=>k_is)
  (case pgNever=>k_is)
  (case hdNever=>k_is)
  (case poNever=>k_is)
  (case saNever=>k_is)
  (case mkNever=>k_is)
  (case kpNever=>k_is)
  (case mtNever=>k_is)
  (case nLetter=>k_is)
  (case pgLetter=>k_is)
  (case hdLetter=>k_is)
  (case poLetter=>k_is)
  (case saLetter=>k_is)
  (case mkLetter=>k_is)
  (case kpLetter=>k_is)
  (case mtLetter=>k_is)
  (case nNot=>k_is)
  (case pgNot=>k_is)
  (case hdNot=>k_is)
  (case poNot=>k_is)
  (case saNot=>k_is)
  (case mkNot=>k_is)
  (case kpNot=>k_is)
  (case mtNot=>k_is)
  (case nAnd=>k_is)
  (case pgAnd=>k_is)
  (case hdAnd=>k_is)
  (case poAnd=>k_is)
  (case saAnd=>k_is)
  (case mkAnd=>k_is)
  (case kpAnd=>k_is)
  (case mtAnd=>k_is)
  (case nOr=>k_is)
  (case pgOr=>k_is)
  (case hdOr=>k_is)
  (case poOr=>k_is)
  (case saOr=>k_is)
  (case mkOr=>k_is)
  (case kpOr=>k_is)
  (case mtOr=>k_is)
  (case nEither=>k_is)
  (case pgEither=>k_is)
  (case hdEither=>k_is)
  (case poEither=>k_is)
  (case saEither=>k_is)
  (case mkEither=>k_is)
  (case kpEither=>k_is)
  (case mtEither=>k_is)
  (case nNoSaying=>k_is)
  (case nFillError=>k_is)
  (case nNoForm=>k_is)
  (case nNoWish=>k_is)
  (case nStrange=>k_is)
  (case vclNoSaying=>k_is)
  (case vtyNoSaying=>k_is)
  (case mbNoSaying=>k_is)
  (case moNoSaying=>k_is)
  (case gaNoSaying=>k_is)
  (case gnNoSaying=>k_is)
  (case saNoSaying=>k_is)
  (case caNoSaying=>k_is)
  (case kpNoSaying=>k_is)
  (case inp=>k_is)
  (case nap=>k_is)
  (case hn=>k_is)
  (case htk=>k_is)
  (case cstLETTERS=>k_is)
  (case cstOPENING=>k_is)
  (case cstBETWEEN=>k_is)
  (case mftA=>k_is)
  (case mftN=>k_is)
  (case mftL=>k_is)
  (case mftO=>k_is)
  (case mftD=>k_is)
  (case mftR=>k_is)
  (case mftE=>k_is)
  (case inAlways=>k_is)
  (case inNever=>k_is)
  (case inLetter=>k_is)
  (case inNot=>k_is)
  (case inAnd=>k_is)
  (case inOr=>k_is)
  (case inEither=>k_is)
  (case ifiLetter=>k_is)
  (case ifiNot=>k_is)
  (case ifiPair=>k_is)
  (case ifip=>k_is)
  (case naLetterletter=>k_is)
  (case naNotone=>k_is)
  (case naAndone=>k_is)
  (case naAndother=>k_is)
  (case naOrone=>k_is)
  (case naOrother=>k_is)
  (case naEitherone=>k_is)
  (case naEitherother=>k_is)
  (case ltA=>k_is)
  (case ctA=>k_is)
  (case ktA=>k_is)
  (case ltN=>k_is)
  (case ctN=>k_is)
  (case ktN=>k_is)
  (case ltL=>k_is)
  (case ctL=>k_is)
  (case ktL=>k_is)
  (case ltO=>k_is)
  (case ctO=>k_is)
  (case ktO=>k_is)
  (case ltD=>k_is)
  (case ctD=>k_is)
  (case ktD=>k_is)
  (case ltR=>k_is)
  (case ctR=>k_is)
  (case ktR=>k_is)
  (case ltE=>k_is)
  (case ctE=>k_is)
  (case ktE=>k_is)
  (case liLetter=>k_is)
  (case ciLetter=>k_is)
  (case kiLetter=>k_is)
  (case liNot=>k_is)
  (case ciNot=>k_is)
  (case kiNot=>k_is)
  (case liPair=>k_is)
  (case ciPair=>k_is)
  (case kiPair=>k_is)
  (case lip=>k_is)
  (case cip=>k_is)
  (case kip=>k_is)
  (case z1=>k_is)
  (case z2=>k_is)
  (case z3=>k_is)
  (case z4=>k_is)
  (case z5=>k_is)
  (case z6=>k_is)
  (case z7=>k_is)
  (case z8=>k_is)
  (case z9=>k_is)
  (case z10=>k_is)
  (case z11=>k_is)
  (case z12=>k_is)
  (case z13=>k_is)
  (case z14=>k_is)
  (case z15=>k_is)
  (case z16=>k_is)
  (case z17=>k_is)
  (case z18=>k_is)
  (case mrNoSaying=>rfl)
  (case hdNoSaying=>rfl)
  (case xcNoSaying=>kernel_rfl)
  (case kF=>kernel_rfl)
  (case kVE=>kernel_rfl)
  (case k1_=>kernel_rfl)
  (case k2_=>kernel_rfl)
  (case k3_=>kernel_rfl)
  (case kx=>kernel_rfl)
