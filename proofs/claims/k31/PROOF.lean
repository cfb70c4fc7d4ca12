import PyProof.Rows.All
import Wide.All
import OpenK.AllK
import Wide.FinOn
import Lean
import PyProof.EqAt
import PyProof.EqKinds
import PyProof.TupleCall
import PyProof.FactsAll.set_1
import PyProof.FactsAll.set_2
import PyProof.Rows.Range3
import PyProof.AttrMissSeq
import KE.KDictOf
import PyProof.CompUse
import PyProof.Rows.RegReprOcc
import PyProof.FactsAll.list_4
import KE.KItemsList
import KE.KEqDict
import PyProof.Rows.SortRunsK
import PyProof.Rows.SortStr
import PyProof.Draws
import PyProof.EnumMake
import PyProof.SliceStr2
import PyProof.SliceList
import PyProof.DictWalks
import PyProof.SumWalkG
import PyProof.SeqI3
import PyProof.FactsAll.str_6
import PyProof.FactsAll.str_7
import PyProof.StrCalls
import PyProof.MeetsStr
import PyProof.StrOps2
import PySem.Challenge.RW_fillsay_k31_tasks_made
set_option Elab.async false
set_option linter.all false
set_option maxRecDepth 100000
set_option maxHeartbeats 4000000
abbrev Xa:=@List.length_map
abbrev Xb:=@List.getElem?_eq_getElem
abbrev Xc:=@PySem.Heap.get?_push_of_some
abbrev Xd:=@List.length_append
abbrev Xe:=@Nat.le_refl
abbrev Xf:=@PySem.wpAny_bind
abbrev Xg:=@PySem.wpAny_pure
abbrev Xh:=@Array.length_toList
abbrev Xi:=@List.length_take
abbrev Xj:=@List.length_singleton
abbrev Xk:=@PySem.Heap.get?_push_size
abbrev Xl:=@List.size_toArray
abbrev Xm:=@PySem.Heap.lt_size
abbrev Xn:=@List.mem_cons_of_mem
abbrev Xo:=@Nat.ne_of_lt
abbrev Xp:=@List.mem_cons_self
abbrev Xq:=@List.append_assoc
abbrev Xr:=@List.take_of_length_le
abbrev Xs:=@Option.some.inj
abbrev Xt:=@List.length_cons
abbrev Xu:=@decide_eq_false
abbrev Xv:=@decide_eq_true
abbrev Xw:=@List.getElem?_map
abbrev Xx:=@Int.toNat_natCast
abbrev Xy:=@List.getElem?_append_right
abbrev Xz:=@List.getElem?_append_left
abbrev XA:=@List.map_append
abbrev XB:=@List.length_replicate
abbrev XC:=@Nat.lt_irrefl
abbrev XD:=@List.mem_of_getElem?
namespace L2
open PySem PySem.Spec PyProof.Rows
abbrev Key:=Sum Int Str
def qdn:Key->Value->Bool
 | .inl k,v=>Value.isInt k v
 | .inr x,v=>Value.isStrOf x v
def qni (w:World):Key->Int
 | .inl k=>hashInt k
 | .inr x=>hashStr w x
theorem zt:∀ {k:Key} {v:Value},qdn k v=true->(∃ i t,k=Sum.inl i/\v=Value.int i t)∨(∃ x t,k=Sum.inr x/\v=Value.str x t)
 | .inl i,v,h=>by
  obtain ⟨t,e⟩:=Value.isInt_shape (k:=i) (v:=v) h;exact .inl ⟨i,t,rfl,e⟩
 | .inr x,v,h=>by
  obtain ⟨t,e⟩:=Value.isStrOf_shape (x:=x) (v:=v) h;exact .inr ⟨x,t,rfl,e⟩
theorem qhn (i:Int) (t:Tok):qdn (.inl i) (.int i t)=true:=by simp [qdn,Value.isInt]
theorem qho (x:Str) (t:Tok):qdn (.inr x) (.str x t)=true:=by simp [qdn,Value.isStrOf]
theorem qlm (a b:Int):decide ((Sum.inl a:Key)=Sum.inl b)=(a == b):=by
 by_cases e:a=b
 ·subst e;simp
 ·have h:¬ (Sum.inl a:Key)=Sum.inl b:=λ q=>e (Sum.inl.inj q)
  rw [Xu h];exact (beq_eq_false_iff_ne.mpr e).symm
theorem qln (a b:Str):decide ((Sum.inr a:Key)=Sum.inr b)=decide (a=b):=by
 by_cases e:a=b
 ·subst e;simp
 ·have h:¬ (Sum.inr a:Key)=Sum.inr b:=λ q=>e (Sum.inr.inj q)
  rw [Xu h,Xu e]
theorem qlo (a:Int) (b:Str):decide ((Sum.inl a:Key)=Sum.inr b)=false:=Xu (λ q=>nomatch q)
theorem qlp (a:Str) (b:Int):decide ((Sum.inr a:Key)=Sum.inl b)=false:=Xu (λ q=>nomatch q)
def qC (prog:Program) (w:World):PySem.KeyKind prog w Key where
 is:=qdn
 hash:=qni w
 inj:=λ v a b ha hb=>by
  rcases zt ha with ⟨i,t,rfl,rfl⟩ | ⟨x,t,rfl,rfl⟩
  ·rcases zt hb with ⟨j,u,rfl,e⟩ | ⟨y,u,rfl,e⟩
   ·injection e with e1 _;rw [e1]
   ·exact nomatch e
  ·rcases zt hb with ⟨j,u,rfl,e⟩ | ⟨y,u,rfl,e⟩
   ·exact nomatch e
   ·injection e with e1 _;rw [e1]
 byValue:=λ k v h=>by
  rcases zt h with ⟨i,t,rfl,rfl⟩ | ⟨x,t,rfl,rfl⟩ <;> rfl
 pyHash:=λ hv h=>by
  rcases zt hv with ⟨i,t,rfl,rfl⟩ | ⟨x,t,rfl,rfl⟩
  ·exact wpAny_pyHash_int h
  ·exact wpAny_pyHash_str h
 eqBool:=λ hu hv h=>by
  rcases zt hu with ⟨i,t,rfl,rfl⟩ | ⟨x,t,rfl,rfl⟩
  ·rcases zt hv with ⟨j,u,rfl,rfl⟩ | ⟨y,u,rfl,rfl⟩
   ·rw [qlm] at h;exact wpAny_eqBool_int h
   ·rw [qlo] at h;exact SeqAt.EqAt.int_str i t y u _ _ _ _ h
  ·rcases zt hv with ⟨j,u,rfl,rfl⟩ | ⟨y,u,rfl,rfl⟩
   ·rw [qlp] at h;exact SeqAt.EqAt.str_int x t j u _ _ _ _ h
   ·rw [qln] at h;exact wpAny_eqBool_str h
 «strs»:=λ k x t v h=>by
  rcases zt h with ⟨i,u,rfl,e⟩ | ⟨y,u,rfl,e⟩
  ·exact nomatch e
  ·injection e with e1 _
   subst e1;cases v <;> rfl
theorem qeN (prog:Program) (w:World) (i:Int) (t:Tok):(qC prog w).is (.inl i) (.int i t)=true:=qhn i t
theorem zu (prog:Program) (w:World) (x:Str) (t:Tok):(qC prog w).is (.inr x) (.str x t)=true:=qho x t
inductive V where
 | non | bl (b:Bool) | int (i:Int) | str (x:Str) | byt (b:Array UInt8) | flt (b:UInt64) | ref (a:Addr) | ty (n:String)
 deriving DecidableEq
def qV:V->Value->Prop
 | .non,u=>u=Value.none
 | .bl b,u=>u=Value.bool b
 | .int i,u=>∃ t,u=Value.int i t
 | .str x,u=>∃ t,u=Value.str x t
 | .byt b,u=>∃ t,u=Value.bytes b t
 | .flt b,u=>∃ t,u=Value.float b t
 | .ref a,u=>u=Value.ref a
 | .ty n,u=>u=Value.type n
abbrev qN:List V->List Value->Prop:=Paired qV
theorem qN.length {xs:List V} {us:List Value} (r:qN xs us):xs.length=us.length:=Paired.length r
theorem qN.get:∀ {xs:List V} {us:List Value} {i:Nat} {x:V},qN xs us->xs[i]?=some x->∃ u,us[i]?=some u/\qV x u
 | _,_,_,_,.nil,e=>by simp at e
 | _,_,0,_,.cons r _,e=>by simp at e;subst e;exact ⟨_,rfl,r⟩
 | _,_,i+1,x,.cons _ t,e=>by
  obtain ⟨u,h1,h2⟩:=qN.get (i:=i) (x:=x) t (by simpa using e);exact ⟨u,by simpa using h1,h2⟩
theorem qN.set {x:V} {u:Value} (r:qV x u):∀ {xs:List V} {us:List Value} (i:Nat),qN xs us->qN (xs.set i x) (us.set i u)
 | _,_,_,.nil=>.nil
 | _,_,0,.cons _ t=>.cons r t
 | _,_,i+1,.cons q t=>.cons q (qN.set r i t)
theorem qN.append:∀ {xs ys:List V} {us ws:List Value},qN xs us->qN ys ws->qN (xs++ys) (us++ws)
 | _,_,_,_,.nil,s=>s
 | _,_,_,_,.cons r t,s=>.cons r (qN.append t s)
theorem qN.take:∀ {xs:List V} {us:List Value} (n:Nat),qN xs us->qN (xs.take n) (us.take n)
 | _,_,0,_=>.nil
 | _,_,_+1,.nil=>.nil
 | _,_,n+1,.cons r t=>.cons r (qN.take n t)
theorem qN.drop:∀ {xs:List V} {us:List Value} (n:Nat),qN xs us->qN (xs.drop n) (us.drop n)
 | _,_,0,r=>r
 | _,_,_+1,.nil=>.nil
 | _,_,n+1,.cons _ t=>qN.drop n t
def qau:Option V->Option Value->Prop
 | some v,some u=>qV v u
 | none,none=>True
 | _,_=>False
def KV {κ:Type}:List (κ×V)->List (κ×Value)->Prop:=Paired λ (p:κ×V) (q:κ×Value)=>p.1=q.1/\qV p.2 q.2
def kV:Key->V
 | .inl i=>.int i
 | .inr x=>.str x
inductive HO where
 /-- a list -/
 | lst (xs:List V)
 /-- a tuple (never changes) -/
 | tup (xs:List V)
 /-- a dict whose keys are ints and texts;one whose keys are tuples of ints and texts (the empty one is both) -/
 | dK (kvs:List (Key×V)) | dT (kvs:List (List Key×V))
 /-- a set of ints: its members,its size -/
 | set (S:Int->Bool) (n:Nat)
 /-- an instance of the class at C,its dict at dx,its attributes -/
 | ins (C dx:Addr) (fs:List (Str×V))
 /-- the dict of the instance at x -/
 | own (x:Addr)
 /-- the dict of an exception -/
 | xd (fs:List (Str×V))
 /-- a bound method,f of x -/
 | met (f x:Addr)
 /-- a range object lo,lo+1,.. below hi -/
 | rng (lo hi:Int)
 /-- a thing that is known to the object (the script;a dict while a loop walks it): read,never written while it is so -/
 | frz (o:Obj) (u:HO)
 /-- a code object's table -/
 | tbl (ps:Array Value)
 /-- any other thing,by what is true of its one object (a def of one's own: SetO a S n:=HO.ext λ h=>..) -/
 | ext (φ:Heap->Prop)
abbrev Hp:=Addr->Option HO
def upd (H:Hp) (a:Addr) (o:HO):Hp:=λ b=>if b=a then some o else H b
theorem qe {H:Hp} {a:Addr} {o:HO}:upd H a o a=some o:=by unfold upd;rw [if_pos rfl]
theorem qx {H:Hp} {a b:Addr} {o:HO} (h:b≠a):upd H a o b=H b:=by unfold upd;rw [if_neg h]
theorem qk3 {H:Hp} {a b:Addr} {o u:HO} (h:H a=some o) (h':H b=some u) (d:o≠u):a≠b:=by
 intro e;subst e;rw [h] at h';exact d (Xs h')
theorem zw {H:Hp} {a b:Addr} {o:HO} (h:H a=some o) (h':H b=none):a≠b:=by
 intro e;subst e;rw [h] at h';cases h'
section
variable (P:Program) (w:World)
def zy (H:Hp) (h:Heap) (a:Addr):HO->Prop
 | .lst xs=>xs.length<=sizeLine/\∃ (its:List Value) (n:Nat),qN xs its/\h.get? a=some { cls:=.type "list",data:=.seq its.toArray n }
 | .tup xs=>xs.length<=sizeLine/\∃ its:List Value,qN xs its/\IsTup h a its.toArray
 | .dK kvs=>kvs.length<=sizeLine/\(a == sysModules)=false/\∃ vs,KV kvs vs/\h.DictOf (qC P w) a vs
 | .dT kvs=>kvs.length<=sizeLine/\(a == sysModules)=false/\∃ xs:List (List Key×Addr×Value),
   Paired (λ (p:List Key×V) (q:List Key×Addr×Value)=>p.1=q.1/\H q.2.1=some (.tup (p.1.map kV))/\qV p.2 q.2.2) kvs xs /\
   ∃ o es ep,h.get? a=some o/\o.ExactDict/\o.data=.dict es ep/\es.toList=xs.map (entryOfKey (tupleKind (qC P w)))/\(xs.map (·.1)).Nodup
 | .set S n=>h.SetOf (intKind P w) a S n
 | .ins C dx fs=>H dx=some (.own a)/\fs.length<=1000/\dx≠a/\h.get? a=some (W.instObj C dx) /\
   ∃ mA,h.Ns1 dx mA/\(∀ f,qau (fs.lookup f) (mA f))/\PySem.Within mA (fs.map (·.1))
 | .own _=>∃ o,h.get? a=some o
 | .xd fs=>∃ mA,h.Ns1 a mA/\∀ f,qau (fs.lookup f) (mA f)
 | .rng lo hi=>∃ t u v,h.get? a=some { cls:=.type "range",data:=.fields #[.int lo t,.int hi u,.int 1 v] }
 | .frz o u=>h.get? a=some o/\zy H h a u
 | .tbl ps=>h.get? a=some { cls:=.none,data:=.fields ps }
 | .met f x=>h.get? a=some (W.methodObj (.ref f) (.ref x))
 | .ext φ=>φ h/\(∃ o,h.get? a=some o)/\∀ h1 h2:Heap,φ h1->(∀ o,h1.get? a=some o->h2.get? a=some o)->φ h2
def HOk (H:Hp) (h:Heap):Prop:=∀ a o,H a=some o->zy P w H h a o
end
section
variable {P:Program} {w:World} {H H':Hp} {h h':Heap} {a:Addr} {o:HO}
theorem zy.lt (x:zy P w H h a o):a < h.objs.size:=by
 cases o with
 | lst xs=>obtain ⟨_,_,_,_,e⟩:=x;exact Xm e
 | tup xs=>obtain ⟨_,_,_,p⟩:=x;exact p.lt
 | dK kvs=>obtain ⟨_,_,_,_,o,_,_,e,_⟩:=x;exact Xm e
 | dT kvs=>obtain ⟨_,_,_,_,o,_,_,e,_⟩:=x;exact Xm e
 | set S n=>obtain ⟨o,_,_,_,e,_⟩:=x;exact Xm e
 | ins C dx fs=>obtain ⟨_,_,_,e,_⟩:=x;exact Xm e
 | own y=>obtain ⟨_,e⟩:=x;exact Xm e
 | xd fs=>obtain ⟨_,⟨_,_,_,e,_⟩,_⟩:=x;exact Xm e
 | rng lo hi=>obtain ⟨_,_,_,e⟩:=x;exact Xm e
 | frz ob u=>obtain ⟨e,_⟩:=x;exact Xm e
 | tbl ps=>exact Xm (show h.get? a=some _ from x)
 | met f y=>exact Xm (show h.get? a=some _ from x)
 | ext φ=>obtain ⟨_,⟨_,e⟩,_⟩:=x;exact Xm e
theorem Paired.mapP {α β:Type} {F G:α->β->Prop}:∀ {l₁:List α} {l₂:List β},Paired F l₁ l₂->(∀ a b,F a b->G a b)->Paired G l₁ l₂
 | _,_,.nil,_=>.nil
 | _,_,.cons r t,f=>.cons (f _ _ r) (Paired.mapP t f)
theorem zy.stay (x:zy P w H h a o) (k:∀ b u,(b=a∨H b=some (.own a))->h.get? b=some u->h'.get? b=some u)
  (ho:∀ b,H b=some (.own a)->H' b=some (.own a)) (ht:∀ b xs,H b=some (.tup xs)->H' b=some (.tup xs)):zy P w H' h' a o:=by
 induction o with
 | lst xs=>obtain ⟨z,its,n,r,e⟩:=x;exact ⟨z,its,n,r,k _ _ (.inl rfl) e⟩
 | tup xs=>obtain ⟨z,its,r,ob,e,c⟩:=x;exact ⟨z,its,r,ob,k _ _ (.inl rfl) e,c⟩
 | dK kvs=>obtain ⟨z,y,vs,r,ob,es,ep,e,c⟩:=x;exact ⟨z,y,vs,r,ob,es,ep,k _ _ (.inl rfl) e,c⟩
 | dT kvs =>
  obtain ⟨z,y,xs,r,ob,es,ep,e,c⟩:=x;exact ⟨z,y,xs,Paired.mapP r λ p q z=>⟨z.1,ht _ _ z.2.1,z.2.2⟩,ob,es,ep,k _ _ (.inl rfl) e,c⟩
 | set S n=>obtain ⟨ob,es,ep,t,e,c⟩:=x;exact ⟨ob,es,ep,t,k _ _ (.inl rfl) e,c⟩
 | ins C dx fs =>
  obtain ⟨d,z,ne,e,mA,⟨od,es,ep,e2,c⟩,r⟩:=x;exact ⟨ho _ d,z,ne,k _ _ (.inl rfl) e,mA,⟨od,es,ep,k _ _ (.inr d) e2,c⟩,r⟩
 | own y=>obtain ⟨ob,e⟩:=x;exact ⟨ob,k _ _ (.inl rfl) e⟩
 | xd fs=>obtain ⟨mA,⟨od,es,ep,e,c⟩,r⟩:=x;exact ⟨mA,⟨od,es,ep,k _ _ (.inl rfl) e,c⟩,r⟩
 | rng lo hi=>obtain ⟨t,u,v,e⟩:=x;exact ⟨t,u,v,k _ _ (.inl rfl) e⟩
 | frz ob u ih=>obtain ⟨e,q⟩:=x;exact ⟨k _ _ (.inl rfl) e,ih q⟩
 | tbl ps =>
  have e:h.get? a=some { cls:=.none,data:=.fields ps }:=x;show h'.get? a=some { cls:=.none,data:=.fields ps }
  exact k a _ (.inl rfl) e
 | met f y =>
  have e:h.get? a=some (W.methodObj (.ref f) (.ref y)):=x;show h'.get? a=some (W.methodObj (.ref f) (.ref y))
  exact k a _ (.inl rfl) e
 | ext φ=>obtain ⟨p,⟨o,e⟩,st⟩:=x;exact ⟨st _ _ p λ o q=>k _ _ (.inl rfl) q,⟨o,k _ _ (.inl rfl) e⟩,st⟩
theorem HOk.lt (x:HOk P w H h) (e:H a=some o):a < h.objs.size:=(x a o e).lt
theorem HOk.fresh (x:HOk P w H h) (e:h.objs.size<=a):H a=none:=by
 cases q:H a with
 | none=>rfl
 | some u=>exact absurd (Nat.lt_of_lt_of_le (x.lt q) e) (XC _)
theorem HOk.kept (x:HOk P w H h) (k:∀ b u,h.get? b=some u->h'.get? b=some u):HOk P w H h':=λ a o e =>
 (x a o e).stay (λ b u _ q=>k b u q) (λ _ q=>q) λ _ _ q=>q
theorem HOk.laid (x:HOk P w H h) (k:∀ b u,h.get? b=some u->h'.get? b=some u) (hp:h.objs.size<=a) (new:zy P w (upd H a o) h' a o):HOk P w (upd H a o) h':=λ b u e=>by
 have hn:=x.fresh hp;by_cases hb:b=a
 ·subst hb;rw [qe] at e;cases e;exact new
 ·rw [qx hb] at e;exact (x b u e).stay (λ c v _ q=>k c v q) (λ c q=>by rw [qx (zw q hn)];exact q) λ c xs q=>by rw [qx (zw q hn)];exact q
end
def Rd (H:Hp) (a:Addr) (u:HO):Prop:=H a=some u∨∃ o,H a=some (.frz o u)
theorem Rd.ok {P:Program} {w:World} {H:Hp} {h:Heap} {a:Addr} {u:HO} (r:Rd H a u) (x:HOk P w H h):zy P w H h a u:=by
 rcases r with r | ⟨o,r⟩
 ·exact x a u r
 ·obtain ⟨_,q⟩:=x a _ r;exact q
def Mut:Option HO->Prop
 | some (.lst _)=>True
 | some (.dK _)=>True
 | some (.dT _)=>True
 | some (.set _ _)=>True
 | some (.ins _ _ _)=>True
 | some (.ext _)=>True
 | _=>False
section
variable {P:Program} {w:World} {H:Hp} {h h':Heap} {x e:Addr} {o':HO}
theorem HOk.write (ok:HOk P w H h) (mu:Mut (H x)) (he:e=x∨H e=some (.own x)) (k:∀ b u,b≠e->h.get? b=some u->h'.get? b=some u) (heo:∃ u,h'.get? e=some u)
  (new:zy P w (upd H x o') h' x o'):HOk P w (upd H x o') h':=λ b u q=>by
 have nown:∀ c y,H c=some (.own y)->c≠x:=λ c y r z=>by subst z;rw [r] at mu;exact mu
 have ntup:∀ c xs,H c=some (.tup xs)->c≠x:=λ c xs r z=>by subst z;rw [r] at mu;exact mu
 by_cases hb:b=x
 ·subst hb;rw [qe] at q;cases q;exact new
 ·rw [qx hb] at q;by_cases hbe:b=e
  ·have q':H b=some (.own x):=by
    rcases he with z | z
    ·exact absurd (hbe.trans z) hb
    ·rw [hbe];exact z
   rw [q] at q';cases q';obtain ⟨v,hv⟩:=heo;exact ⟨v,by rw [hbe];exact hv⟩
  ·refine (ok b u q).stay (λ c v hc r=>k c v ?_ r) (λ c r=>by rw [qx (nown c b r)];exact r) λ c xs r=>by rw [qx (ntup c xs r)];exact r
   rcases hc with rfl | hc
   ·exact hbe
   ·rintro rfl;rcases he with z | z
    ·exact nown c b hc z
    ·rw [hc] at z;cases z;exact hb rfl
end
structure Un (fs ex:List Addr) (H H':Hp) (h h':Heap):Prop where
 keep:∀ b o,h.get? b=some o->H b=none->b ∉ fs->b ∉ ex->h'.get? b=some o
 slot:∀ b o,h.get? b=some o->H b=none->b∈fs->b ∉ ex->∃ sl,h'.get? b=some { o with slots:=sl }
 free:∀ b o,h.get? b=some o->H b=none->b ∉ ex->H' b=none
 there:∀ b o,h.get? b=some o->b ∉ ex->∃ o',h'.get? b=some o'
 tups:∀ b xs,H b=some (.tup xs)->H' b=some (.tup xs)
 frzs:∀ b o u,H b=some (.frz o u)->H' b=some (.frz o u)
 tbls:∀ b ps,H b=some (.tbl ps)->∃ more,H' b=some (.tbl (ps++more))
section
variable {fs fs' ex ex':List Addr} {H H1 H2:Hp} {h h1 h2 h':Heap} {a x e:Addr} {o:HO}
theorem Un.any (u:Un fs ex H H1 h h1) {b:Addr} {ob:Obj} (q:h.get? b=some ob) (n:H b=none) (hx:b ∉ ex):∃ sl,h1.get? b=some { ob with slots:=sl }:=by
 by_cases hb:b∈fs
 ·exact u.slot b ob q n hb hx
 ·exact ⟨ob.slots,u.keep b ob q n hb hx⟩
theorem Un.kept (k:∀ b u,h.get? b=some u->h'.get? b=some u):Un fs ex H H h h' :=
 ⟨λ b ob q _ _ _=>k b ob q,λ b ob q _ _ _=>⟨ob.slots,k b ob q⟩,λ _ _ _ n _=>n,λ b ob q _=>⟨ob,k b ob q⟩,λ _ _ q=>q,λ _ _ _ q=>q,λ _ ps q=>⟨#[],by rw [q];simp⟩⟩
theorem Un.refl:Un fs ex H H h h:=Un.kept λ _ _ q=>q
theorem Un.laid (k:∀ b u,h.get? b=some u->h'.get? b=some u) (hp:h.objs.size<=a) (hn:H a=none):Un fs ex H (upd H a o) h h' where
 keep:=λ b u q _ _ _=>k b u q
 slot:=λ b u q _ _ _=>⟨u.slots,k b u q⟩
 free:=λ b u q n _=>by rw [qx (Xo (Nat.lt_of_lt_of_le (Xm q) hp))];exact n
 there:=λ b u q _=>⟨u,k b u q⟩
 tups:=λ b xs q=>by rw [qx (zw q hn)];exact q
 frzs:=λ b u xs q=>by rw [qx (zw q hn)];exact q
 tbls:=λ b ps q=>⟨#[],by rw [qx (zw q hn),q];simp⟩
theorem Un.write (mu:Mut (H x)) (he:e=x∨H e=some (.own x)) (k:∀ b u,b≠e->h.get? b=some u->h'.get? b=some u) (heo:∃ u,h'.get? e=some u):Un fs ex H (upd H x o) h h':=by
 have hx:∀ b,H b=none->b≠x:=λ b n z=>by subst z;rw [n] at mu;exact mu
 have hb:∀ b,H b=none->b≠e:=λ b n z=>by
  subst z;rcases he with r | r
  ·exact hx b n r
  ·rw [n] at r;cases r
 have hm:∀ b u,H b=some u->¬ Mut (some u)->b≠x:=λ b u q nm z=>by subst z;rw [q] at mu;exact nm mu
 refine ⟨λ b u q n _ _=>k b u (hb b n) q,λ b u q n _ _=>⟨u.slots,k b u (hb b n) q⟩,λ b u q n _=>by rw [qx (hx b n)];exact n,λ b u q _=>?_,
  λ b xs q=>by rw [qx (hm b _ q λ z=>z)];exact q,λ b u xs q=>by rw [qx (hm b _ q λ z=>z)];exact q,λ b ps q=>⟨#[],by rw [qx (hm b _ q λ z=>z),q];simp⟩⟩
 by_cases hbe:b=e
 ·subst hbe;exact heo
 ·exact ⟨u,k b u hbe q⟩
end
def trk (h:Heap) (H:Hp):List Addr:=(List.range h.objs.size).filter λ a=>(H a).isSome
def qdS (h:Heap) (H:Hp):Heap:=W.hideAll h (trk h H)
theorem qhp (h:Heap) (H:Hp):(qdS h H).objs.size=h.objs.size:=W.hideAll_size _ _
theorem qid {h:Heap} {H:Hp} {b:Addr} {o:Obj} (e:h.get? b=some o) (n:H b=none):(qdS h H).get? b=some o :=
 W.hideAll_get _ e λ hm=>by
  have q:(H b).isSome=true:=(List.mem_filter.mp hm).2;rw [n] at q;simp at q
theorem qjZ {h:Heap} {H:Hp} {b:Addr} {o:Obj} (e:(qdS h H).get? b=some o):h.get? b=some o/\H b=none:=by
 have e':h.get? b=some o:=W.of_hideAll (trk h H) e;refine ⟨e',?_⟩;cases q:H b with
 | none=>rfl
 | some x =>
  have hm:b∈trk h H:=List.mem_filter.mpr ⟨List.mem_range.mpr (Xm e'),by simp [q]⟩;have z:(qdS h H).get? b=none:=W.hideAll_none (trk h H) hm;rw [z] at e;cases e
def qj0 (g h:Heap) (L:Addr):List (Addr×Obj):=(List.range h.objs.size).filterMap λ a=>if a=L∨(g.get? a).isSome=true then none else (h.get? a).map λ o=>(a,o)
def rest (g h:Heap) (L d:Addr):List (Addr×Obj):=(qj0 g h L).filter λ p=>decide (p.1≠d)
structure Mod (K:PySem.W.Frag) (mg:Str->Option Value) (base:Heap):Prop where
 kin:K.In base
 glob:base.Ns mainGlobals mg
 blt:∃ mb,base.Ns builtinsNs mb/\∀ x:Str,x≠"__name__"->mb x=bootBuiltins x
 nolimit:base.NoLimit
structure Cx where
 prog:Program
 w:World
 K:PySem.W.Frag
 mg:Str->Option Value
 base:Heap
 A:Around
 N:List Str
 s₀:Shared
 H₀:Hp
 env:Env
 outer:List Env
 stack:List Env
 ex:List Addr
 fn:Str->Bool
 calm:Bool
 pn:List (Addr×Obj)
 xe:Value->Shared->Prop
def frs (l:List Env):List Addr:=l.filterMap (·.frame)
abbrev Cx.fs (X:Cx):List Addr:=frs X.outer
def Vis (sc:Scope) (x:Str):Prop:=sc.names.lookup x=some .local∨sc.names.lookup x=some .cell∨sc.names.lookup x=some .free
def Loc (sc:Scope) (x:Str):Prop:=sc.names.lookup x=some .local∨sc.names.lookup x=some .cell
def qnj (env:Env) (h:Heap) (m:Str->Option Value) (x:Str) (u:Value):Prop :=
 (env.kindOf x=some .local/\m x=some u)∨((env.kindOf x=some .cell∨env.kindOf x=some .free)/\∃ c,env.cells.lookup x=some c/\h.IsCell c (some u))
structure Cx.Ok (X:Cx):Prop where
 mod:Mod X.K X.mg X.base
 kind:X.env.scope.kind=.function
 glob:X.env.globals=mainGlobals
 blt:X.env.builtins=builtinsNs
 above:X.s₀.heap.objs.size<=X.env.locals
 inj:∀ x y c,X.env.cells.lookup x=some c->X.env.cells.lookup y=some c->x=y
 has:∀ x,(X.env.kindOf x=some .cell∨X.env.kindOf x=some .free)->∃ c,X.env.cells.lookup x=some c
 cab:∀ x c,X.fn x=true->X.env.cells.lookup x=some c->X.s₀.heap.objs.size<=c
 hd:X.calm=true->X.A.handled=none
 frames:X.A.frames=some X.stack
 stk:X.stack=X.outer∨(X.stack=X.env::X.outer/\X.env.frame=some X.env.locals)
 exf:∀ b∈X.ex,b≠X.env.locals/\∀ x c,X.env.cells.lookup x=some c->c≠b
 bs:∀ b o,X.base.get? b=some o->X.s₀.heap.get? b=some o/\X.H₀ b=none
 bsz:X.base.objs.size<=X.s₀.heap.objs.size
 noex:∀ b o,X.base.get? b=some o->b ∉ X.ex
 exfs:∀ b∈X.ex,b ∉ X.fs
 funs:X.s₀.heap.FunFrames X.base X.outer
 frf:∀ b∈X.fs,X.H₀ b=none
structure Inv (X:Cx) (pins:List (Addr×Obj)) (σ:List (Option V)) (H:Hp) (s:Shared):Prop where
 ok:X.Ok
 os:s.os=X.s₀.os
 bare:AllBare s.gens
 base:Un X.fs X.ex X.H₀ H X.s₀.heap s.heap
 loc:∃ m,s.heap.Ns X.env.locals m/\∀ (i:Nat) (x:Str) (v:V),X.N[i]?=some x->σ[i]?=some (some v)->Vis X.env.scope x->∃ u,qV v u/\qnj X.env s.heap m x u
 cell:∀ x c,X.env.cells.lookup x=some c->∃ v,s.heap.IsCell c v
 free:H X.env.locals=none
 freeC:∀ x c,X.env.cells.lookup x=some c->H c=none
 pin:∀ p∈X.pn++pins,s.heap.get? p.1=some p.2/\H p.1=none/\p.1≠X.env.locals/\p.1 ∉ X.fs/\∀ v,p.2.data≠.cell v
 hok:HOk X.prog X.w H s.heap
 len:σ.length=X.N.length
section
variable {X:Cx} {pins:List (Addr×Obj)} {σ:List (Option V)} {H H':Hp} {s:Shared} {h':Heap}
theorem Cx.Ok.nofr (ok:X.Ok) {b:Addr} {o:Obj} (e:X.base.get? b=some o):b ∉ X.fs:=λ hb=>by
 have:=(ok.funs.mem hb).1
 rw [e] at this;cases this
theorem Inv.bs (I:Inv X pins σ H s):∀ b o,X.base.get? b=some o->s.heap.get? b=some o/\H b=none:=λ b o e =>
 ⟨I.base.keep b o (I.ok.bs b o e).1 (I.ok.bs b o e).2 (I.ok.nofr e) (I.ok.noex b o e),I.base.free b o (I.ok.bs b o e).1 (I.ok.bs b o e).2 (I.ok.noex b o e)⟩
theorem Inv.bk (I:Inv X pins σ H s):∀ b o,X.base.get? b=some o->s.heap.get? b=some o:=λ b o e=>(I.bs b o e).1
theorem Inv.mod (I:Inv X pins σ H s):Mod X.K X.mg X.base:=I.ok.mod
theorem Inv.kIn (I:Inv X pins σ H s):X.K.In s.heap:=I.ok.mod.kin.keeps I.bk
theorem Inv.fr (I:Inv X pins σ H s):∃ m,Fr X.base X.env.locals s.heap m :=
 let ⟨m,hn,_⟩:=I.loc
 ⟨m,hn,I.bk,Nat.le_trans I.ok.bsz I.ok.above⟩
theorem Inv.lt (I:Inv X pins σ H s):X.env.locals < s.heap.objs.size:=let ⟨_,hn,_⟩:=I.loc;hn.lt
theorem Inv.sz (I:Inv X pins σ H s):X.s₀.heap.objs.size<=s.heap.objs.size:=Nat.le_trans I.ok.above (Nat.le_of_lt I.lt)
theorem Inv.nofs (I:Inv X pins σ H s) {a:Addr} (h:s.heap.objs.size<=a):a ∉ X.fs:=λ hb=>by
 obtain ⟨_,o,ho,_⟩:=I.ok.funs.mem hb;exact absurd (Nat.lt_of_lt_of_le (Xm ho) (Nat.le_trans I.sz h)) (XC _)
theorem Inv.cne (I:Inv X pins σ H s):∀ x c,X.env.cells.lookup x=some c->c≠X.env.locals:=λ x c e z=>by
 obtain ⟨v,o,ho,hd⟩:=I.cell x c e;obtain ⟨m,⟨o',es,ep,ho',hd',_⟩,_⟩:=I.loc;rw [z,ho'] at ho;cases ho;rw [hd'] at hd;cases hd
theorem Inv.funs (I:Inv X pins σ H s):s.heap.FunFrames X.base X.outer:=by
 have all:∀ (l:List Env),(∀ b∈frs l,b∈X.fs)->X.s₀.heap.FunFrames X.base l->s.heap.FunFrames X.base l:=by
  intro l;induction l with
  | nil=>intro _ _;trivial
  | cons env r ih =>
   intro hs hl;obtain ⟨hk,⟨L,o,hf,hn,ho,hd⟩,hr⟩:=hl;have hL:L∈X.fs:=hs L (by unfold frs;rw [List.filterMap_cons,hf];exact Xp);obtain ⟨sl,e⟩:=I.base.slot L o ho (I.ok.frf L hL) hL λ z=>I.ok.exfs L z hL
   exact ⟨hk,⟨L,_,hf,hn,e,hd⟩,ih (λ b hb=>hs b (by unfold frs;rw [List.filterMap_cons,hf];exact Xn _ hb)) hr⟩
 exact all X.outer (λ _ hb=>hb) I.ok.funs
theorem Inv.stack (I:Inv X pins σ H s):s.heap.FunFrames X.base X.stack:=by
 rcases I.ok.stk with e | ⟨e,hf⟩
 ·rw [e];exact I.funs
 ·rw [e];obtain ⟨m,hn,_⟩:=I.loc;refine .cons (by rw [I.ok.kind];decide) hf hn ?_ I.funs;exact Heap.get?_none_of_le (Nat.le_trans I.ok.bsz I.ok.above)
theorem Inv.stkSub (I:Inv X pins σ H s):∀ b∈frs X.stack,b∈X.env.locals::X.fs:=λ b hb=>by
 rcases I.ok.stk with e | ⟨e,hf⟩
 ·rw [e] at hb;exact Xn _ hb
 ·rw [e] at hb;unfold frs at hb;rw [List.filterMap_cons,hf] at hb;exact hb
theorem Inv.stkFree (I:Inv X pins σ H s):∀ b∈frs X.stack,H b=none:=λ b hb=>by
 rcases List.mem_cons.mp (I.stkSub b hb) with e | hb
 ·rw [e];exact I.free
 ·obtain ⟨_,o,ho,_⟩:=I.ok.funs.mem hb;exact I.base.free b o ho (I.ok.frf b hb) λ z=>I.ok.exfs b z hb
theorem Inv.step {g':Array GenState} {t':Nat} {d':Drawn} {ch:List Addr} (I:Inv X pins σ H s)
  (hch:∀ b∈ch,(b∈X.ex∨X.s₀.heap.objs.size<=b)/\b≠X.env.locals/\(∀ x c,X.env.cells.lookup x=some c->c≠b)/\∀ p∈X.pn++pins,p.1≠b)
  (keep:∀ b o,b≠X.env.locals->b ∉ X.fs->b ∉ ch->s.heap.get? b=some o->H b=none->h'.get? b=some o)
  (slot:∀ b o,b≠X.env.locals->b∈X.fs->b ∉ ch->s.heap.get? b=some o->H b=none->∃ sl,h'.get? b=some { o with slots:=sl }) (free:∀ b o,b ∉ ch->s.heap.get? b=some o->H b=none->H' b=none)
  (there:∀ b o,b ∉ ch->s.heap.get? b=some o->∃ o',h'.get? b=some o')
  (tups:∀ b xs,H b=some (.tup xs)->H' b=some (.tup xs)) (frzs:∀ b o u,H b=some (.frz o u)->H' b=some (.frz o u)) (tbls:∀ b ps,H b=some (.tbl ps)->∃ more,H' b=some (.tbl (ps++more)))
  (ns:∀ m,s.heap.Ns X.env.locals m->h'.Ns X.env.locals m) (hok:HOk X.prog X.w H' h') (hg:AllBare g') :
  Inv X pins σ H' { s with heap:=h',gens:=g',drawn:=d',toks:=t' }:=by
 have neL:∀ b o,X.s₀.heap.get? b=some o->b≠X.env.locals:=λ b o e=>Xo (Nat.lt_of_lt_of_le (Xm e) I.ok.above)
 have neC:∀ b o,X.s₀.heap.get? b=some o->b ∉ X.ex->b ∉ ch:=λ b o e hx hb=>by
  rcases (hch b hb).1 with z | z
  ·exact hx z
  ·exact absurd (Nat.lt_of_lt_of_le (Xm e) z) (XC _)
 have cellK:∀ x c,X.env.cells.lookup x=some c->∀ v,s.heap.IsCell c v->h'.IsCell c v:=λ x c e v ⟨o,ho,hd⟩=>by
  have nch:c ∉ ch:=λ z=>(hch c z).2.2.1 x c e rfl
  by_cases hc:c∈X.fs
  ·obtain ⟨sl,q⟩:=slot c o (I.cne x c e) hc nch ho (I.freeC x c e);exact ⟨_,q,hd⟩
  ·exact ⟨o,keep c o (I.cne x c e) hc nch ho (I.freeC x c e),hd⟩
 refine ⟨I.ok,I.os,hg,⟨λ b o e n hb hx=>?_,λ b o e n hb hx=>?_,λ b o e n hx=>?_,λ b o e hx=>?_,λ b xs e=>tups b xs (I.base.tups b xs e),λ b o xs e=>frzs b o xs (I.base.frzs b o xs e),λ b ps e=>?_⟩,?_,λ x c e=>?_,?_,λ x c e=>?_,λ p hp=>?_,hok,I.len⟩
 ·exact keep b o (neL b o e) hb (neC b o e hx) (I.base.keep b o e n hb hx) (I.base.free b o e n hx)
 ·obtain ⟨sl,e1⟩:=I.base.slot b o e n hb hx;obtain ⟨sl',e2⟩:=slot b _ (neL b o e) hb (neC b o e hx) e1 (I.base.free b o e n hx);exact ⟨sl',e2⟩
 ·obtain ⟨o',e1⟩:=I.base.there b o e hx;exact free b o' (neC b o e hx) e1 (I.base.free b o e n hx)
 ·obtain ⟨o',e1⟩:=I.base.there b o e hx;exact there b o' (neC b o e hx) e1
 ·obtain ⟨m1,e1⟩:=I.base.tbls b ps e;obtain ⟨m2,e2⟩:=tbls b _ e1;exact ⟨m1++m2,by rw [e2,Array.append_assoc]⟩
 ·obtain ⟨m,hn,hl⟩:=I.loc;refine ⟨m,ns m hn,λ i x v e1 e2 e3=>?_⟩;obtain ⟨u,r,l⟩:=hl i x v e1 e2 e3;refine ⟨u,r,?_⟩;rcases l with l | ⟨k,c,e,z⟩
  ·exact .inl l
  ·exact .inr ⟨k,c,e,cellK x c e _ z⟩
 ·obtain ⟨v,z⟩:=I.cell x c e;exact ⟨v,cellK x c e v z⟩
 ·obtain ⟨m,⟨o,_,_,ho,_⟩,_⟩:=I.loc;exact free _ o (λ z=>(hch _ z).2.1 rfl) ho I.free
 ·obtain ⟨v,o,ho,hd⟩:=I.cell x c e;exact free c o (λ z=>(hch c z).2.2.1 x c e rfl) ho (I.freeC x c e)
 ·obtain ⟨e,n,ne,nf,d⟩:=I.pin p hp;have nch:p.1 ∉ ch:=λ z=>(hch p.1 z).2.2.2 p hp rfl
  exact ⟨keep p.1 p.2 ne nf nch e n,free p.1 p.2 nch e n,ne,nf,d⟩
theorem Inv.un {t':Nat} (I:Inv X pins σ H s) (u:Un X.fs [] H H' s.heap h') (hok:HOk X.prog X.w H' h'):Inv X pins σ H' { s with heap:=h',toks:=t' }:=by
 obtain ⟨m,⟨o,es,ep,ho,r⟩,_⟩:=id I.loc;obtain ⟨sl,hL⟩:=u.any ho I.free (by simp);exact I.step (g':=s.gens) (d':=s.drawn) (ch:=[]) (λ _ z=>nomatch z) (λ b o _ hb _ e n=>u.keep b o e n hb (by simp)) (λ b o _ hb _ e n=>u.slot b o e n hb (by simp)) (λ b o _ e n=>u.free b o e n (by simp)) (λ b o _ e=>u.there b o e (by simp)) u.tups u.frzs u.tbls (λ m' hm=>by
  obtain ⟨o',es',ep',ho',r'⟩:=hm;rw [ho] at ho';cases ho';exact ⟨_,es',ep',hL,r'⟩) hok I.bare
theorem Inv.call {g':Array GenState} {t':Nat} {d':Drawn} {ch:List Addr} (I:Inv X pins σ H s) (u:Un (frs X.stack) ch H H' s.heap h') (hok:HOk X.prog X.w H' h') (hg:AllBare g')
  (hch:∀ b∈ch,(b∈X.ex∨X.s₀.heap.objs.size<=b)/\b≠X.env.locals/\(∀ x c,X.env.cells.lookup x=some c->c≠b)/\∀ p∈X.pn++pins,p.1≠b) :
  Inv X pins σ H' { s with heap:=h',gens:=g',drawn:=d',toks:=t' }:=by
 obtain ⟨m,⟨o,es,ep,ho,r⟩,_⟩:=id I.loc;obtain ⟨sl,hL⟩:=u.any ho I.free λ z=>(hch _ z).2.1 rfl
 exact I.step (ch:=ch) hch (λ b o hL hb hc e n=>u.keep b o e n (λ z=>(List.mem_cons.mp (I.stkSub b z)).elim hL hb) hc) (λ b o _ _ hc e n=>u.any e n hc) (λ b o hc e n=>u.free b o e n hc) (λ b o hc e=>u.there b o e hc) u.tups u.frzs u.tbls (λ m' hm=>by
  obtain ⟨o',es',ep',ho',r'⟩:=hm;rw [ho] at ho';cases ho';exact ⟨_,es',ep',hL,r'⟩) hok hg
theorem Inv.turned {t':Nat} {it:Addr} (I:Inv X pins σ H s) (k:∀ b o,b≠it->s.heap.get? b=some o->h'.get? b=some o) (hn:H it=none) (hL:it≠X.env.locals)
  (h1:it∈X.ex∨X.s₀.heap.objs.size<=it) (h2:∀ x c,X.env.cells.lookup x=some c->c≠it) (h3:∀ p∈X.pn++pins,p.1≠it):Inv X pins σ H { s with heap:=h',toks:=t' }:=by
 have nit:∀ b u,H b=some u->b≠it:=λ b u e z=>by rw [z,hn] at e;cases e
 refine I.step (g':=s.gens) (d':=s.drawn) (ch:=[it]) (λ b hb=>?_) (λ b o _ _ hc e _=>k b o (λ z=>hc (by simp [z])) e) (λ b o _ _ hc e _=>⟨o.slots,k b o (λ z=>hc (by simp [z])) e⟩) (λ _ _ _ _ n=>n)
  (λ b o hc e=>⟨o,k b o (λ z=>hc (by simp [z])) e⟩) (λ _ _ e=>e) (λ _ _ _ e=>e) (λ b ps e=>⟨#[],by rw [e];simp⟩) (λ m hm=>?_) (λ b u e=>?_) I.bare
 ·have e:b=it:=by simpa using hb
  subst e;exact ⟨h1,hL,h2,h3⟩
 ·obtain ⟨o,es,ep,ho,r⟩:=hm;exact ⟨o,es,ep,k _ o (Ne.symm hL) ho,r⟩
 ·refine (I.hok b u e).stay (λ c v hc q=>k c v ?_ q) (λ _ q=>q) λ _ _ q=>q
  rcases hc with z | z
  ·rw [z];exact nit b u e
  ·exact nit c _ z
theorem Inv.tok (I:Inv X pins σ H s) (t:Nat):Inv X pins σ H { s with toks:=t }:=I.un (h':=s.heap) (t':=t) Un.refl I.hok
theorem Inv.kept {t':Nat} (I:Inv X pins σ H s) (k:∀ b u,s.heap.get? b=some u->h'.get? b=some u):Inv X pins σ H { s with heap:=h',toks:=t' }:=I.un (Un.kept k) (I.hok.kept k)
theorem Inv.laid {a:Addr} {o:HO} {t':Nat} (I:Inv X pins σ H s) (k:∀ b u,s.heap.get? b=some u->h'.get? b=some u) (hp:s.heap.objs.size<=a) (new:zy X.prog X.w (upd H a o) h' a o) :
  Inv X pins σ (upd H a o) { s with heap:=h',toks:=t' }:=I.un (Un.laid k hp (I.hok.fresh hp)) (I.hok.laid k hp new)
theorem Inv.write {x e:Addr} {o:HO} {t':Nat} (I:Inv X pins σ H s) (mu:Mut (H x)) (he:e=x∨H e=some (.own x)) (k:∀ b u,b≠e->s.heap.get? b=some u->h'.get? b=some u) (heo:∃ u,h'.get? e=some u)
  (new:zy X.prog X.w (upd H x o) h' x o):Inv X pins σ (upd H x o) { s with heap:=h',toks:=t' }:=I.un (Un.write mu he k heo) (I.hok.write mu he k heo new)
theorem Inv.weak {σ':List (Option V)} (I:Inv X pins σ H s) (hl:σ'.length=σ.length) (w:∀ (i:Nat) v,σ'[i]?=some (some v)->σ[i]?=some (some v)):Inv X pins σ' H s :=
 ⟨I.ok,I.os,I.bare,I.base,let ⟨m,hn,hl'⟩:=I.loc;⟨m,hn,λ i x v e1 e2 e3=>hl' i x v e1 (w i v e2) e3⟩,I.cell,I.free,I.freeC,I.pin,I.hok,hl.trans I.len⟩
theorem Inv.pins_of {pins':List (Addr×Obj)} (I:Inv X pins σ H s) (h:∀ p∈pins',s.heap.get? p.1=some p.2/\H p.1=none/\p.1≠X.env.locals/\p.1 ∉ X.fs/\∀ v,p.2.data≠.cell v):Inv X pins' σ H s :=
 ⟨I.ok,I.os,I.bare,I.base,I.loc,I.cell,I.free,I.freeC,λ p hp=>(List.mem_append.mp hp).elim (λ z=>I.pin p (List.mem_append_left _ z)) (h p),I.hok,I.len⟩
theorem qeO {N:List Str} (hN:N.Nodup) {i j:Nat} {x:Str} (a:N[i]?=some x) (b:N[j]?=some x):i=j:=by
 obtain ⟨h1,e1⟩:=List.getElem?_eq_some_iff.mp a;obtain ⟨h2,e2⟩:=List.getElem?_eq_some_iff.mp b;exact (List.getElem_inj hN).mp (e1.trans e2.symm)
theorem qdo {M:Model} {A:Around} {E:Value->Shared->Prop} {i:Nat} {x:Str} {v:V} {u:Value} {Q:Unit->Shared->Prop} (I:Inv X pins σ H s) (hN:X.N.Nodup) (hi:X.N[i]?=some x) (hx:Loc X.env.scope x) (r:qV v u)
  (h:∀ s',Inv X pins (σ.set i (some v)) H s'->(∃ a,Heap.SameBut a s.heap s'.heap/\(a=X.env.locals∨X.env.cells.lookup x=some a))->Q () s') (hf:X.fn x=true∨X.env.scope.names.lookup x=some .local:=by first | exact .inl rfl | exact .inr rfl | assumption):wpAny M A (storeName X.env x u) Q E s:=by
 obtain ⟨m,hn,hl⟩:=id I.loc;have hcls:(X.env.scope.kind == .class || (X.env.scope.kind == .module && X.env.locals != X.env.globals))=false:=by rw [I.ok.kind];rfl
 have hiσ:i < σ.length:=by rw [I.len];exact (List.getElem?_eq_some_iff.mp hi).1
 have cne:=I.cne;have tracked:∀ {a:Addr} {h':Heap},(∃ o,s.heap.get? a=some o/\H a=none)->Heap.SameBut a s.heap h'->HOk X.prog X.w H h':=λ {a h'} ha hs b ob e=>by
  obtain ⟨_,_,hfree⟩:=ha;refine (I.hok b ob e).stay (λ c w' hc q=>(hs.2 c ?_).trans q) (λ _ q=>q) λ _ _ q=>q
  rintro rfl;rcases hc with rfl | hc
  ·rw [hfree] at e;cases e
  ·rw [hfree] at hc;cases hc
 rcases hx with hk | hk
 ·refine wpAny_storeName_local hk hn (λ h' hn' hs=>?_) hcls;obtain ⟨oL,_,_,hoL,_⟩:=id hn;refine h _ ⟨I.ok,I.os,I.bare,⟨λ b o e n hb hx=>?_,λ b o e n hb hx=>?_,I.base.free,λ b o e hx=>?_,I.base.tups,I.base.frzs,I.base.tbls⟩,⟨_,hn',λ j y v' e1 e2 e3=>?_⟩,λ y c e=>?_,I.free,I.freeC,λ p hp=>?_,tracked ⟨oL,hoL,I.free⟩ hs,by simpa using I.len⟩ ⟨_,hs,.inl rfl⟩
  ·exact (hs.2 b (Xo (Nat.lt_of_lt_of_le (Xm e) I.ok.above))).trans (I.base.keep b o e n hb hx)
  ·obtain ⟨sl,e1⟩:=I.base.slot b o e n hb hx;exact ⟨sl,(hs.2 b (Xo (Nat.lt_of_lt_of_le (Xm e) I.ok.above))).trans e1⟩
  ·obtain ⟨o',e1⟩:=I.base.there b o e hx;exact ⟨o',(hs.2 b (Xo (Nat.lt_of_lt_of_le (Xm e) I.ok.above))).trans e1⟩
  ·by_cases hj:j=i
   ·subst hj;rw [hi] at e1;cases e1;rw [List.getElem?_set_self hiσ] at e2;cases e2
    exact ⟨u,r,.inl ⟨hk,by simp⟩⟩
   ·rw [List.getElem?_set_ne (Ne.symm hj)] at e2;obtain ⟨u',r',q⟩:=hl j y v' e1 e2 e3;refine ⟨u',r',?_⟩;rcases q with ⟨k,e⟩ | ⟨k,c,e,z⟩
    ·refine .inl ⟨k,?_⟩
     have:y≠x:=λ e=>hj (qeO hN e1 (e ▸ hi))
     simp [this,e]
    ·exact .inr ⟨k,c,e,z.sameBut hs (cne y c e)⟩
  ·obtain ⟨w',z⟩:=I.cell y c e;exact ⟨w',z.sameBut hs (cne y c e)⟩
  ·obtain ⟨e,n,ne,nf,d⟩:=I.pin p hp;exact ⟨(hs.2 p.1 ne).trans e,n,ne,nf,d⟩
 ·have hfn:X.fn x=true:=by
   rcases hf with z | z
   ·exact z
   ·rw [z] at hk;cases hk
  obtain ⟨c,hc⟩:=I.ok.has x (.inl hk);obtain ⟨w',z⟩:=I.cell x c hc;refine wpAny_storeName_cell I.ok.kind hk hc z (λ h' hc' hs=>?_);obtain ⟨oc,hoc,hocd⟩:=id z;refine h { s with heap:=h' } ⟨I.ok,I.os,I.bare,⟨λ b o e n hb hx=>?_,λ b o e n hb hx=>?_,I.base.free,λ b o e hx=>?_,I.base.tups,I.base.frzs,I.base.tbls⟩,⟨m,hn.sameBut hs (Ne.symm (cne x c hc)),λ j y v' e1 e2 e3=>?_⟩,λ y c' e=>?_,I.free,I.freeC,λ p hp=>?_,tracked ⟨oc,hoc,I.freeC x c hc⟩ hs,by simpa using I.len⟩ ⟨c,hs,.inr hc⟩
  ·exact (hs.2 b (Xo (Nat.lt_of_lt_of_le (Xm e) (I.ok.cab x c hfn hc)))).trans (I.base.keep b o e n hb hx)
  ·obtain ⟨sl,e1⟩:=I.base.slot b o e n hb hx;exact ⟨sl,(hs.2 b (Xo (Nat.lt_of_lt_of_le (Xm e) (I.ok.cab x c hfn hc)))).trans e1⟩
  ·obtain ⟨o',e1⟩:=I.base.there b o e hx;exact ⟨o',(hs.2 b (Xo (Nat.lt_of_lt_of_le (Xm e) (I.ok.cab x c hfn hc)))).trans e1⟩
  ·by_cases hj:j=i
   ·subst hj;rw [hi] at e1;cases e1;rw [List.getElem?_set_self hiσ] at e2;cases e2
    exact ⟨u,r,.inr ⟨.inl hk,c,hc,hc'⟩⟩
   ·rw [List.getElem?_set_ne (Ne.symm hj)] at e2;obtain ⟨u',r',q⟩:=hl j y v' e1 e2 e3;refine ⟨u',r',?_⟩;rcases q with q | ⟨k,c',e,z'⟩
    ·exact .inl q
    ·refine .inr ⟨k,c',e,z'.sameBut hs ?_⟩;rintro rfl;exact hj (qeO hN e1 (I.ok.inj _ _ _ e hc ▸ hi))
  ·by_cases hcc:c'=c
   ·subst hcc;exact ⟨_,hc'⟩
   ·obtain ⟨w2,z2⟩:=I.cell y c' e;exact ⟨w2,z2.sameBut hs hcc⟩
  ·obtain ⟨e,n,ne,nf,d⟩:=I.pin p hp;refine ⟨(hs.2 p.1 ?_).trans e,n,ne,nf,d⟩;intro q;rw [q,hoc] at e;have q':oc=p.2:=Xs e;exact d w' (by rw [<- q'];exact hocd)
theorem qeP {M:Model} {A:Around} {E:Value->Shared->Prop} {i:Nat} {x:Str} {v:V} {u:Value} {Q:Unit->Shared->Prop} (I:Inv X pins σ H s) (hN:X.N.Nodup) (hi:X.N[i]?=some x) (hx:Loc X.env.scope x) (r:qV v u)
  (h:∀ s',Inv X pins (σ.set i (some v)) H s'->Q () s') (hf:X.fn x=true∨X.env.scope.names.lookup x=some .local:=by first | exact .inl rfl | exact .inr rfl | assumption):wpAny M A (storeName X.env x u) Q E s :=
 qdo I hN hi hx r (λ s' I' _=>h s' I') hf
theorem Inv.call' {s':Shared} {ch:List Addr} (I:Inv X pins σ H s) (ho:s'.os=s.os) (u:Un (frs X.stack) ch H H' s.heap s'.heap) (hok:HOk X.prog X.w H' s'.heap) (hg:AllBare s'.gens)
  (hch:∀ b∈ch,(b∈X.ex∨X.s₀.heap.objs.size<=b)/\b≠X.env.locals/\(∀ x c,X.env.cells.lookup x=some c->c≠b)/\∀ p∈X.pn++pins,p.1≠b):Inv X pins σ H' s':=by
 obtain ⟨h',g',d',t',o'⟩:=s';have e:o'=s.os:=ho;subst e;exact I.call (g':=g') (t':=t') (d':=d') u hok hg hch
end
abbrev XK:=Value->Option Addr->Hp->Prop
abbrev St:=List (Option V)
abbrev VK:=V->Hp->Prop
abbrev TE:=St->Hp->VK->Prop
abbrev TT:=St->Hp->(Bool->Hp->Prop)->Prop
abbrev TA:=St->Hp->(List V->Hp->Prop)->Prop
structure Ends where
 nx:St->Hp->Prop
 rt:VK
 bk:St->Hp->Prop:=λ _ _=>False
 ct:St->Hp->Prop:=λ _ _=>False
abbrev TS:=Ends->St->Hp->Prop
def EP (X:Cx) (pins:List (Addr×Obj)) (σ:St) (Q:VK) (u:Value) (s':Shared):Prop:=∃ v H',Inv X pins σ H' s'/\qV v u/\Q v H'
def TP (X:Cx) (pins:List (Addr×Obj)) (σ:St) (Q:Bool->Hp->Prop) (b:Bool) (s':Shared):Prop:=∃ H',Inv X pins σ H' s'/\Q b H'
def AP (X:Cx) (pins:List (Addr×Obj)) (σ:St) (Q:List V->Hp->Prop) (us:List Value) (s':Shared):Prop:=∃ vs H',Inv X pins σ H' s'/\qN vs us/\Q vs H'
def SP (X:Cx) (pins:List (Addr×Obj)) (D:Ends) (f:Flow) (s':Shared):Prop :=
 match f with
 | .next=>∃ σ' H',Inv X pins σ' H' s'/\D.nx σ' H'
 | .brk=>∃ σ' H',Inv X pins σ' H' s'/\D.bk σ' H'
 | .cont=>∃ σ' H',Inv X pins σ' H' s'/\D.ct σ' H'
 | .ret u=>∃ v σ' H',Inv X pins σ' H' s'/\qV v u/\D.rt v H'
def PE (X:Cx) (e:Expr) (t:TE):Prop :=
 ∀ (pins:List (Addr×Obj)) (s:Shared) (σ:St) (H:Hp) (Q:VK),Inv X pins σ H s->t σ H Q->wpAny (model X.prog X.w) X.A (eval e X.env) (EP X pins σ Q) X.xe s
def PT (X:Cx) (e:Expr) (t:TT):Prop :=
 ∀ (pins:List (Addr×Obj)) (s:Shared) (σ:St) (H:Hp) (Q:Bool->Hp->Prop),Inv X pins σ H s->t σ H Q->wpAny (model X.prog X.w) X.A (isTrue e X.env (eval e X.env)) (TP X pins σ Q) X.xe s
def PW (X:Cx) (e:Expr) (t:TT):Prop :=
 ∀ (whole:Sem Value) (pins:List (Addr×Obj)) (s:Shared) (σ:St) (H:Hp) (Q:Bool->Hp->Prop),Inv X pins σ H s->t σ H Q->wpAny (model X.prog X.w) X.A (isTrue e X.env whole) (TP X pins σ Q) X.xe s
theorem PW.pt {X:Cx} {e:Expr} {t:TT} (h:PW X e t):PT X e t:=h _
def PA (X:Cx) (es:List Expr) (t:TA):Prop :=
 ∀ (pos:Pos) (pins:List (Addr×Obj)) (s:Shared) (σ:St) (H:Hp) (Q:List V->Hp->Prop),Inv X pins σ H s->t σ H Q->wpAny (model X.prog X.w) X.A (spliced (backTo pos (starEach es X.env))) (AP X pins σ Q) X.xe s
def PS (X:Cx) (st:Stmt) (t:TS):Prop :=
 ∀ (pins:List (Addr×Obj)) (s:Shared) (σ:St) (H:Hp) (D:Ends),Inv X pins σ H s->t D σ H->wpAny (model X.prog X.w) X.A (exec st X.env) (SP X pins D) X.xe s
def PSs (X:Cx) (st:List Stmt) (t:TS):Prop :=
 ∀ (pins:List (Addr×Obj)) (s:Shared) (σ:St) (H:Hp) (D:Ends),Inv X pins σ H s->t D σ H->wpAny (model X.prog X.w) X.A (execs st X.env) (SP X pins D) X.xe s
theorem thn {α:Type} {t:Sem α} {Q Q':α->Shared->Prop} {M:Model} {A:Around} {E:Value->Shared->Prop} {s:Shared} (h:wpAny M A t Q E s) (hQ:∀ a s,Q a s->Q' a s):wpAny M A t Q' E s:=wpAny_mono h hQ λ _ _ x=>x
section
variable {X:Cx}
theorem bin {a b:Expr} {ta tb:TE} (ha:PE X a ta) (hb:PE X b tb) {pins:List (Addr×Obj)} {s:Shared} {σ:St} {H:Hp} {R:V->V->Hp->Prop} (I:Inv X pins σ H s) (h:ta σ H λ x H1=>tb σ H1 λ y H2=>R x y H2)
  {α:Type} {Q:α->Shared->Prop} {f:Value->Value->Sem α}
  (hf:∀ v u s2 x y H2,Inv X pins σ H2 s2->qV x v->qV y u->R x y H2->wpAny (model X.prog X.w) X.A (f v u) Q X.xe s2) :
  wpAny (model X.prog X.w) X.A (eval a X.env) (λ v s₁=>wpAny (model X.prog X.w) X.A (eval b X.env) (λ u s₂=>wpAny (model X.prog X.w) X.A (f v u) Q X.xe s₂) X.xe s₁) X.xe s:=by
 refine thn (ha pins s σ H _ I h) λ v s1 ⟨x,H1,I1,r1,q1⟩=>?_
 refine thn (hb pins s1 σ H1 _ I1 q1) λ u s2 ⟨y,H2,I2,r2,q2⟩=>?_
 exact hf v u s2 x y H2 I2 r1 r2 q2
def qdT (i:Nat):TE:=λ σ H Q=>∃ v,σ[i]?=some (some v)/\Q v H
def tC (v:V):TE:=λ _ H Q=>Q v H
theorem qlq {i:Nat} {x:Str} {pos:Pos} (hN:X.N[i]?=some x) (hv:Vis X.env.scope x) (hd:(x == ("__debug__":Str))=false:=by decide) (hcd:(x == ("__classdict__":Str))=false:=by decide):PE X (.Name x pos) (qdT i):=by
 intro pins s σ H Q I h;obtain ⟨v,e,h⟩:=h;obtain ⟨m,hn,hl⟩:=I.loc;obtain ⟨u,r,l⟩:=hl i x v hN e hv;have fin:EP X pins σ Q u s:=⟨v,H,I,r,h⟩;rcases l with ⟨hk,hm⟩ | ⟨hk,c,hc,hcell⟩
 ·exact wpAny_Name (wpAny_loadName_local I.ok.kind hk hn hm fin) hd
 ·rcases hk with hk | hk
  ·exact wpAny_Name (wpAny_loadName_cell I.ok.kind hk hc hcell fin) hd
  ·exact wpAny_Name (wpAny_loadName_free I.ok.kind hk hc hcell fin hcd) hd
theorem qg {i j pos}:PE X (.Constant (.int i) j pos) (tC (.int i)):=λ _ _ _ H _ I h=>wpAny_Constant_int ⟨.int i,H,I.tok _,⟨_,rfl⟩,h⟩
theorem vM {b j pos}:PE X (.Constant (.bool b) j pos) (tC (.bl b)):=λ _ _ _ H _ I h=>Constant_bool ⟨.bl b,H,I,rfl,h⟩
theorem qbo {j pos}:PE X (.Constant .none j pos) (tC .non):=λ _ _ _ H _ I h=>Constant_none ⟨.non,H,I,rfl,h⟩
theorem qk {x j pos}:PE X (.Constant (.str x) j pos) (tC (.str x)):=λ _ _ _ H _ I h=>Calls.Constant_str ⟨.str x,H,I.tok _,⟨_,rfl⟩,h⟩
def Gl (X:Cx) (x:Str):Prop:=X.env.kindOf x=some .globalImplicit
theorem qbW {E:Value->Shared->Prop} {pins:List (Addr×Obj)} {s:Shared} {σ:St} {H:Hp} {x:Str} {u:Value} {pos:Pos} {Q:Value->Shared->Prop} (I:Inv X pins σ H s) (hg:Gl X x) (hm:X.mg x=some u) (h:Q u s)
  (hd:(x == ("__debug__":Str))=false:=by decide):wpAny (model X.prog X.w) X.A (eval (.Name x pos) X.env) Q E s :=
 Calls.Name_function_global I.ok.kind hg (Calls.loadGlobal_global (by rw [I.ok.glob];exact I.mod.glob.keeps I.bk) hm h) hd
theorem qbp {E:Value->Shared->Prop} {pins:List (Addr×Obj)} {s:Shared} {σ:St} {H:Hp} {x:Str} {u:Value} {pos:Pos} {Q:Value->Shared->Prop} (I:Inv X pins σ H s) (hg:Gl X x) (hm:X.mg x=none) (hv:bootBuiltins x=some u) (h:Q u s)
  (hn:x≠"__name__":=by decide) (hd:(x == ("__debug__":Str))=false:=by decide):wpAny (model X.prog X.w) X.A (eval (.Name x pos) X.env) Q E s:=by
 obtain ⟨mb,h1,h2⟩:=I.mod.blt;exact Calls.Name_function_global I.ok.kind hg (Calls.loadGlobal_builtin (by rw [I.ok.glob];exact I.mod.glob.keeps I.bk) hm (by rw [I.ok.blt];exact h1.keeps I.bk) ((h2 x hn).trans hv) h) hd
theorem yd {x:Str} {v:V} {u:Value} {pos:Pos} (hg:Gl X x) (hm:X.mg x=some u) (r:qV v u) (hd:(x == ("__debug__":Str))=false:=by decide):PE X (.Name x pos) (tC v) :=
 λ _ _ _ H _ I h=>qbW I hg hm ⟨v,H,I,r,h⟩ hd
theorem qaV {x:Str} {v:V} {u:Value} {pos:Pos} (hg:Gl X x) (hm:X.mg x=none) (hv:bootBuiltins x=some u) (r:qV v u) (hn:x≠"__name__":=by decide) (hd:(x == ("__debug__":Str))=false:=by decide):PE X (.Name x pos) (tC v) :=
 λ _ _ _ H _ I h=>qbp I hg hm hv ⟨v,H,I,r,h⟩ hn hd
variable {a b:Expr} {ta tb:TE} {pos:Pos}
def PC (X:Cx) (op:CmpOp) (a b:Expr) (t:TE):Prop :=
 ∀ (pins:List (Addr×Obj)) (s:Shared) (σ:St) (H:Hp) (Q:VK),Inv X pins σ H s->t σ H Q ->
  wpAny (model X.prog X.w) X.A (eval a X.env) (λ v s₁=>wpAny (model X.prog X.w) X.A (eval b X.env) (λ u s₂=>wpAny (model X.prog X.w) X.A (compareOp op v u) (EP X pins σ Q) X.xe s₂) X.xe s₁) X.xe s
def tB (t:TE):TT:=λ σ H Q=>t σ H λ x H1=>∃ c,x=.bl c/\Q c H1
theorem qlr {op:CmpOp} {t:TE} (h:PC X op a b t) (h1:behindInMarks op b=false:=by first | exact nobehind _ (by decide) (by decide) | rfl):PE X (.Compare a [op] [b] pos) t:=λ pins s σ H Q I hw=>wpAny_Compare1 (h pins s σ H Q I hw) h1
theorem yn {e:Expr} {t:TE} (h:PE X e t) (he:∀ whole,isTrue e X.env whole=(do let v <- whole;standAt e.pos;holding [v] (truthy v)):=by intro _;rfl):PT X e (tB t):=by
 intro pins s σ H Q I hw;refine isTrue_plain (thn (h pins s σ H _ I hw) λ v s1 ⟨x,H1,I1,r1,q1⟩=>?_) (he _);obtain ⟨d,rfl,q⟩:=q1;cases r1
 exact wpAny_truthy_bool ⟨H1,I1,q⟩
variable {tA tB':TT} {rest:List Expr}
def qnk (t u:TT):TT:=λ σ H Q=>t σ H λ c H1=>if c=true then u σ H1 Q else Q false H1
def tOr (t u:TT):TT:=λ σ H Q=>t σ H λ c H1=>if c=true then Q true H1 else u σ H1 Q
def qnl (t:TT):TT:=λ σ H Q=>t σ H λ c H1=>Q (!c) H1
theorem qbX (ha:PT X a tA):PW X (.BoolOp .And [a] pos) tA:=by
 intro wh pins s σ H Q I h;refine isTrue_and (thn (ha pins s σ H Q I h) λ c s1 e=>?_);cases c with
 | true=>exact isTrue_and_nil e
 | false=>exact e
theorem jP (ha:PT X a tA):PW X (.BoolOp .Or [a] pos) tA:=by
 intro wh pins s σ H Q I h;refine isTrue_or (thn (ha pins s σ H Q I h) λ c s1 e=>?_);cases c with
 | false=>exact isTrue_or_nil e
 | true=>exact e
theorem qdU (ha:PT X a tA) (hb:PW X (.BoolOp .And (b::rest) pos) tB'):PW X (.BoolOp .And (a::b::rest) pos) (qnk tA tB'):=by
 intro wh pins s σ H Q I h;refine isTrue_and (thn (ha pins s σ H _ I h) λ c s1 ⟨H1,I1,q1⟩=>?_);cases c with
 | true=>exact hb wh pins s1 σ H1 Q I1 q1
 | false=>exact ⟨H1,I1,q1⟩
theorem vR (ha:PT X a tA) (hb:PW X (.BoolOp .Or (b::rest) pos) tB'):PW X (.BoolOp .Or (a::b::rest) pos) (tOr tA tB'):=by
 intro wh pins s σ H Q I h;refine isTrue_or (thn (ha pins s σ H _ I h) λ c s1 ⟨H1,I1,q1⟩=>?_);cases c with
 | true=>exact ⟨H1,I1,q1⟩
 | false=>exact hb wh pins s1 σ H1 Q I1 q1
theorem jQ (ha:PT X a tA):PT X (.UnaryOp .Not a pos) (qnl tA):=by
 intro pins s σ H Q I h;exact isTrue_not (ha pins s σ H (λ c H1=>Q (!c) H1) I h)
def qk4 (ta tb:TE):TE:=λ σ H Q=>ta σ H λ x H1=>∃ c,x=.bl c/\if c=true then tb σ H1 Q else Q (.bl false) H1
def qmk (ta tb:TE):TE:=λ σ H Q=>ta σ H λ x H1=>∃ c,x=.bl c/\if c=true then Q (.bl true) H1 else tb σ H1 Q
def qk5 (ta:TE):TE:=λ σ H Q=>ta σ H λ x H1=>∃ c,x=.bl c/\Q (.bl (!c)) H1
theorem qfU {op} {t:TE} (h:PE X a t):PE X (.BoolOp op [a] pos) t:=λ pins s σ H Q I hw=>BoolOp_one (h pins s σ H Q I hw)
theorem qie (ha:PE X a ta) (hb:PE X (.BoolOp .And (b::rest) pos) tb):PE X (.BoolOp .And (a::b::rest) pos) (qk4 ta tb):=by
 intro pins s σ H Q I h;refine BoolOp_and (thn (ha pins s σ H _ I h) λ v s1 ⟨x,H1,I1,r1,q1⟩=>?_);obtain ⟨c,rfl,q1⟩:=q1;cases r1
 refine wpAny_truthy_bool ?_;cases c with
 | true=>exact hb pins s1 σ H1 Q I1 q1
 | false=>exact ⟨.bl false,H1,I1,rfl,q1⟩
theorem qml (ha:PE X a ta) (hb:PE X (.BoolOp .Or (b::rest) pos) tb):PE X (.BoolOp .Or (a::b::rest) pos) (qmk ta tb):=by
 intro pins s σ H Q I h;refine BoolOp_or (thn (ha pins s σ H _ I h) λ v s1 ⟨x,H1,I1,r1,q1⟩=>?_);obtain ⟨c,rfl,q1⟩:=q1;cases r1
 refine wpAny_truthy_bool ?_;cases c with
 | false=>exact hb pins s1 σ H1 Q I1 q1
 | true=>exact ⟨.bl true,H1,I1,rfl,q1⟩
theorem qif (ha:PE X a ta):PE X (.UnaryOp .Not a pos) (qk5 ta):=by
 intro pins s σ H Q I h;refine UnaryOp_ (thn (ha pins s σ H _ I h) λ v s1 ⟨x,H1,I1,r1,q1⟩=>?_);obtain ⟨c,rfl,q1⟩:=q1;cases r1
 exact not_of (wpAny_truthy_bool ⟨.bl (!c),H1,I1,rfl,q1⟩)
def tIf (t:TT) (ta tb:TE):TE:=λ σ H Q=>t σ H λ c H1=>if c=true then ta σ H1 Q else tb σ H1 Q
theorem qig {c:Expr} (hc:PT X c tA) (ha:PE X a ta) (hb:PE X b tb):PE X (.IfExp c a b pos) (tIf tA ta tb):=by
 intro pins s σ H Q I h;refine wpAny_IfExp (thn (hc pins s σ H _ I h) λ d s1 ⟨H1,I1,q1⟩=>?_);cases d with
 | true=>exact ha pins s1 σ H1 Q I1 q1
 | false=>exact hb pins s1 σ H1 Q I1 q1
end
def SqL (K:PySem.W.Frag) (H:Hp) (a:Addr) (xs:List V):Prop :=
 Rd H a (.lst xs) ∨
  ∃ (o:Obj) (its:Array Value) (n:Nat),K.lookup a=some o/\o.cls=.type "list"/\o.dict=none/\o.data=.seq its n/\its.size<=sizeLine/\qN xs its.toList
def SqT (K:PySem.W.Frag) (H:Hp) (a:Addr) (xs:List V):Prop :=
 Rd H a (.tup xs) ∨
  ∃ (o:Obj) (its:Array Value) (n:Nat),K.lookup a=some o/\o.cls=.type "tuple"/\o.data=.seq its n/\its.size<=sizeLine/\qN xs its.toList
def qnm:Value->Option V
 | .none=>some .non
 | .bool b=>some (.bl b)
 | .int i _=>some (.int i)
 | .str x _=>some (.str x)
 | .bytes b _=>some (.byt b)
 | .float b _=>some (.flt b)
 | .ref a=>some (.ref a)
 | .type n=>some (.ty n)
 | _=>none
theorem qV.abs {x:V} {u:Value} (r:qV x u):qnm u=some x:=by
 cases x with
 | non=>cases r;rfl
 | bl _=>cases r;rfl
 | int _=>obtain ⟨t,rfl⟩:=r;rfl
 | str _=>obtain ⟨t,rfl⟩:=r;rfl
 | byt _=>obtain ⟨t,rfl⟩:=r;rfl
 | flt _=>obtain ⟨t,rfl⟩:=r;rfl
 | ref _=>cases r;rfl
 | ty _=>cases r;rfl
theorem qV.inj {x y:V} {u:Value} (r:qV x u) (q:qV y u):x=y:=Xs (r.abs.symm.trans q.abs)
theorem qN.inj:∀ {xs ys:List V} {us:List Value},qN xs us->qN ys us->xs=ys
 | _,_,_,.nil,.nil=>rfl
 | _,_,_,.cons r t,.cons r' t'=>by rw [r.inj r',qN.inj t t']
section
variable {X:Cx} {pins:List (Addr×Obj)} {σ:St} {H:Hp} {s:Shared} {a:Addr} {xs ys:List V}
theorem SqL.of {K:PySem.W.Frag} (h:H a=some (.lst xs)):SqL K H a xs:=.inl (.inl h)
theorem SqT.of {K:PySem.W.Frag} (h:H a=some (.tup xs)):SqT K H a xs:=.inl (.inl h)
theorem Inv.list (I:Inv X pins σ H s) (h:SqL X.K H a xs):∃ its:List Value,qN xs its/\PlainL s.heap a its.toArray/\xs.length<=sizeLine:=by
 rcases h with h | ⟨o,its,n,hk,hc,hd,hs,hz,r⟩
 ·obtain ⟨z,its,n,r,e⟩:=h.ok I.hok;exact ⟨its,r,⟨_,n,e,rfl,rfl,rfl⟩,z⟩
 ·refine ⟨its.toList,r,⟨o,n,I.kIn a o hk,hc,hd,by simpa using hs⟩,?_⟩;have e:=r.length;simp only [Xh] at e;omega
theorem Inv.tuple (I:Inv X pins σ H s) (h:SqT X.K H a xs):∃ its:List Value,qN xs its/\IsTup s.heap a its.toArray/\xs.length<=sizeLine:=by
 rcases h with h | ⟨o,its,n,hk,hc,hs,hz,r⟩
 ·obtain ⟨z,its,r,p⟩:=h.ok I.hok;exact ⟨its,r,p,z⟩
 ·refine ⟨its.toList,r,⟨o,I.kIn a o hk,hc,n,by simpa using hs⟩,?_⟩;have e:=r.length;simp only [Xh] at e;omega
theorem Inv.list_inj (I:Inv X pins σ H s) (h:SqL X.K H a xs) (h':SqL X.K H a ys):xs=ys:=by
 obtain ⟨its,r,⟨o,n,e,_,_,d⟩,_⟩:=I.list h;obtain ⟨its',r',⟨o',n',e',_,_,d'⟩,_⟩:=I.list h';rw [e] at e';cases e';rw [d] at d';injection d' with d1 _
 have:its=its':=by simpa using congrArg Array.toList d1
 subst this;exact r.inj r'
theorem Inv.tuple_inj (I:Inv X pins σ H s) (h:SqT X.K H a xs) (h':SqT X.K H a ys):xs=ys:=by
 obtain ⟨its,r,⟨o,e,_,n,d⟩,_⟩:=I.tuple h;obtain ⟨its',r',⟨o',e',_,n',d'⟩,_⟩:=I.tuple h';rw [e] at e';cases e';rw [d] at d';injection d' with d1 _
 have:its=its':=by simpa using congrArg Array.toList d1
 subst this;exact r.inj r'
end
abbrev Cx.wish (X:Cx) (E:Value->Shared->Prop):Cx:={ X with xe:=E }
abbrev Cx.nox (X:Cx):Cx:=X.wish λ _ _=>False
theorem Cx.Ok.wish {X:Cx} (ok:X.Ok) (E:Value->Shared->Prop):(X.wish E).Ok :=
 ⟨ok.mod,ok.kind,ok.glob,ok.blt,ok.above,ok.inj,ok.has,ok.cab,ok.hd,ok.frames,ok.stk,ok.exf,ok.bs,ok.bsz,ok.noex,ok.exfs,ok.funs,ok.frf⟩
theorem Cx.Ok.unwish {X:Cx} {E:Value->Shared->Prop} (ok:(X.wish E).Ok):X.Ok :=
 ⟨ok.mod,ok.kind,ok.glob,ok.blt,ok.above,ok.inj,ok.has,ok.cab,ok.hd,ok.frames,ok.stk,ok.exf,ok.bs,ok.bsz,ok.noex,ok.exfs,ok.funs,ok.frf⟩
section
variable {X:Cx} {pins:List (Addr×Obj)} {σ:St} {H:Hp} {s:Shared} {E:Value->Shared->Prop}
theorem Inv.wish (I:Inv X pins σ H s) (E:Value->Shared->Prop):Inv (X.wish E) pins σ H s:=⟨I.ok.wish E,I.os,I.bare,I.base,I.loc,I.cell,I.free,I.freeC,I.pin,I.hok,I.len⟩
theorem Inv.unwish (I:Inv (X.wish E) pins σ H s):Inv X pins σ H s:=⟨I.ok.unwish,I.os,I.bare,I.base,I.loc,I.cell,I.free,I.freeC,I.pin,I.hok,I.len⟩
theorem SP.unwish {D:Ends} {f:Flow} {s':Shared} (h:SP (X.wish E) pins D f s'):SP X pins D f s':=by
 cases f with
 | next=>obtain ⟨σ',H',I,q⟩:=h;exact ⟨σ',H',I.unwish,q⟩
 | brk=>obtain ⟨σ',H',I,q⟩:=h;exact ⟨σ',H',I.unwish,q⟩
 | cont=>obtain ⟨σ',H',I,q⟩:=h;exact ⟨σ',H',I.unwish,q⟩
 | ret u=>obtain ⟨v,σ',H',I,r,q⟩:=h;exact ⟨v,σ',H',I.unwish,r,q⟩
theorem PSs.nox {st:List Stmt} {t:TS} (h:PSs X.nox st t):PSs X st t:=λ pins s σ H D I hw =>
 wpAny_mono (h pins s σ H D (I.wish _) hw) (λ _ _ q=>q.unwish) λ _ _ z=>False.elim z
end
section
variable {X:Cx} {st:Stmt} {rest:List Stmt} {t u:TS} {e:Expr} {te:TE} {pos:Pos}
def qmm:TS:=λ D σ H=>D.nx σ H
def qnn (t u:TS):TS:=λ D σ H=>t { D with nx:=u D } σ H
theorem qy:PSs X [] qmm:=λ _ _ σ H _ I h=>wpAny_execs_nil ⟨σ,H,I,h⟩
theorem qc (h1:PS X st t) (h2:PSs X rest u):PSs X (st::rest) (qnn t u):=by
 intro pins s σ H D I h;refine wpAny_execs_cons (thn (h1 pins s σ H { D with nx:=u D } I h) λ f s1 q=>?_);cases f with
 | next =>
  obtain ⟨σ',H',I',q⟩:=q;exact h2 pins s1 σ' H' D I' q
 | ret v=>exact q
 | brk=>exact q
 | cont=>exact q
theorem qd (h1:PS X st t):PSs X [st] t:=by
 intro pins s σ H D I h;refine wpAny_execs_cons (thn (h1 pins s σ H D I h) λ f s1 q=>?_);cases f with
 | next=>exact wpAny_execs_nil q
 | ret v=>exact q
 | brk=>exact q
 | cont=>exact q
theorem Inv.quiet {pins:List (Addr×Obj)} {σ:St} {H:Hp} {s:Shared} (I:Inv X pins σ H s):interactive X.env=false:=by simp [interactive,I.ok.kind]
def qmn (te:TE):TS:=λ D σ H=>te σ H λ _ H1=>D.nx σ H1
theorem yo (he:PE X e te) (hs:swapsWith e none pos.line X.env=pure false:=by rfl):PS X (.Expr e pos) (qmn te):=by
 intro pins s σ H D I h;exact wpAny_Expr_any (thn (he pins s σ H _ I h) λ v s1 ⟨x,H1,I1,r1,q1⟩=>⟨σ,H1,I1,q1⟩) I.quiet hs
def qj1 (te:TE):TS:=λ D σ H=>te σ H D.rt
theorem qm (he:PE X e te):PS X (.Return (some e) pos) (qj1 te):=by
 intro pins s σ H D I h;exact wpAny_Return_some (thn (he pins s σ H _ I h) λ v s1 ⟨x,H1,I1,r1,q1⟩=>⟨x,σ,H1,I1,r1,q1⟩)
def qmo (c:TT) (t u:TS):TS:=λ D σ H=>c σ H λ b H1=>if b=true then t D σ H1 else u D σ H1
theorem qW {c:Expr} {a b:List Stmt} {tc:TT} (hc:PT X c tc) (ha:PSs X a t) (hb:PSs X b u):PS X (.If c a b pos) (qmo tc t u):=by
 intro pins s σ H D I h;refine wpAny_If (thn (hc pins s σ H _ I h) λ d s1 ⟨H1,I1,q1⟩=>?_);cases d with
 | true=>exact ha pins s1 σ H1 D I1 q1
 | false=>exact hb pins s1 σ H1 D I1 q1
def qls:TS:=λ _ _ _=>False
theorem jg:PS X st qls:=λ _ _ _ _ _ _ h=>h.elim
end
abbrev TG:=V->St->Hp->(St->Hp->Prop)->Prop
abbrev TGs:=List V->St->Hp->(St->Hp->Prop)->Prop
def PG (X:Cx) (target:Expr) (t:TG):Prop :=
 ∀ (pins:List (Addr×Obj)) (s:Shared) (σ:St) (H:Hp) (v:V) (u:Value) (Q:St->Hp->Prop),Inv X pins σ H s->qV v u->t v σ H Q ->
  wpAny (model X.prog X.w) X.A (assign target X.env u) (λ _ s'=>∃ σ' H',Inv X pins σ' H' s'/\Q σ' H') X.xe s
def PGs (X:Cx) (ts:List Expr) (t:TGs):Prop :=
 ∀ (pins:List (Addr×Obj)) (s:Shared) (σ:St) (H:Hp) (vs:List V) (us:List Value) (Q:St->Hp->Prop),Inv X pins σ H s->qN vs us->t vs σ H Q ->
  wpAny (model X.prog X.w) X.A (assignInOrder ((assignEach ts X.env).map (·.2)) us) (λ _ s'=>∃ σ' H',Inv X pins σ' H' s'/\Q σ' H') X.xe s
abbrev qlt:=V->V->V->Hp->(Hp->Prop)->Prop
def qmp (X:Cx) (t:qlt):Prop :=
 ∀ (pins:List (Addr×Obj)) (s:Shared) (σ:St) (H:Hp) (o i v:V) (ov iv u:Value) (Q:Hp->Prop),Inv X pins σ H s->qV o ov->qV i iv->qV v u->t o i v H Q ->
  wpAny (model X.prog X.w) X.A (setItem ov iv u) (λ _ s'=>∃ H',Inv X pins σ H' s'/\Q H') X.xe s
section
variable {X:Cx} {pos:Pos}
def vN (i:Nat):TG:=λ v σ H Q=>Q (σ.set i (some v)) H
theorem qt {i:Nat} {x:Str} (hN:X.N.Nodup) (hi:X.N[i]?=some x) (hx:Loc X.env.scope x) (hf:X.fn x=true∨X.env.scope.names.lookup x=some .local:=by first | exact .inl rfl | exact .inr rfl | assumption):PG X (.Name x pos) (vN i):=by
 intro pins s σ H v u Q I r h;exact wpAny_assign_Name (qeP I hN hi hx r (λ s' I'=>⟨_,H,I',h⟩) hf)
def qj2:TGs:=λ vs σ H Q=>vs=[]/\Q σ H
def qcf (t:TG) (u:TGs):TGs:=λ vs σ H Q=>∃ v r,vs=v::r/\t v σ H λ σ' H'=>u r σ' H' Q
theorem yp:PGs X [] qj2:=by
 intro pins s σ H vs us Q I r h;obtain ⟨e,h⟩:=h;subst e;cases r
 exact assignInOrder_nil ⟨σ,H,I,h⟩
theorem qT {e:Expr} {es:List Expr} {t:TG} {u:TGs} (h1:PG X e t) (h2:PGs X es u)
  (hs:(assignEach (e::es) X.env).map (·.2)=assign e X.env::(assignEach es X.env).map (·.2):=by rfl):PGs X (e::es) (qcf t u):=by
 intro pins s σ H vs us Q I r h;obtain ⟨v,vr,e1,h⟩:=h;subst e1;cases r with
 | cons r rr =>
  rw [hs];refine assignInOrder_cons (thn (h1 pins s σ H _ _ _ I r h) λ _ s1 ⟨σ1,H1,I1,q1⟩=>?_);exact h2 pins s1 σ1 H1 _ _ Q I1 rr q1
def qj3 (K:PySem.W.Frag) (n:Nat) (t:TGs):TG:=λ v σ H Q=>∃ a xs,v=.ref a/\SqT K H a xs/\xs.length=n/\t xs σ H Q
theorem qcg {es:List Expr} {k:Nat} {t:TGs} {n:Nat} (hc:X.calm=true) (h:PGs X es t)
  (hn:(assignEach es X.env).length=n:=by rfl) (hst:(assignEach es X.env).findIdx? (·.1)=none:=by rfl):PG X (.Tuple es k pos) (qj3 X.K n t):=by
 intro pins s σ H v u Q I r hw;obtain ⟨a,xs,e1,hq,hl,hw⟩:=hw;subst e1;cases r
 obtain ⟨its,rv,ht,hz⟩:=I.tuple hq;refine assign_Tuple_tuple (I.ok.hd hc) ht (by simp [hn,<- hl,rv.length]) hst λ h' hx=>?_
 have I1:Inv X pins σ H { s with heap:=h' }:=I.kept (t':=s.toks) λ b o e=>hx b o (Xo (Xm e)) e
 exact h pins _ σ H xs _ Q I1 (by simpa using rv) hw
def qno (to ti:TE) (t:qlt):TG:=λ v σ H Q=>to σ H λ o H1=>ti σ H1 λ i H2=>t o i v H2 λ H3=>Q σ H3
theorem qdV {o i:Expr} {to ti:TE} {t:qlt} (ho:PE X o to) (hi:PE X i ti) (hs:qmp X t)
  (ha:∀ v,assign (.Subscript o i pos) X.env v=(do
   let ov <- holding [v] (eval o X.env)
   let iv <- holding [v,ov] (eval i X.env)
   standAt pos
   holding [v,ov,iv] (setItem ov iv v)
   release [v,ov,iv] []):=by intro _;rfl):PG X (.Subscript o i pos) (qno to ti t):=by
 intro pins s σ H v u Q I r h;rw [ha];refine Xf (wpAny_holding (thn (ho pins s σ H _ I h) λ ov s1 ⟨x,H1,I1,r1,q1⟩=>?_));refine Xf (wpAny_holding (thn (hi pins s1 σ H1 _ I1 q1) λ iv s2 ⟨y,H2,I2,r2,q2⟩=>?_));refine Xf (wpAny_standAt (Xf (wpAny_holding (thn (hs pins s2 σ H2 x y v ov iv u _ I2 r1 r2 r q2) λ _ s3 ⟨H3,I3,q3⟩=>?_))));exact wpAny_release ⟨σ,H3,I3,q3⟩
def qih (te:TE) (g:TG):TS:=λ D σ H=>te σ H λ x H1=>g x σ H1 D.nx
theorem qch {tg e:Expr} {te:TE} {g:TG} (he:PE X e te) (hg:PG X tg g) (hs:swapsWithSole [tg] e pos.line X.env=pure false:=by rfl) (hw:swappedStores [tg] e X.env=pure none:=by rfl)
  (h1:(assignEach [tg] X.env).map (·.2)=[assign tg X.env]:=by rfl):PS X (.Assign [tg] e pos) (qih te g):=by
 intro pins s σ H D I h;refine wpAny_Assign_stores (thn (he pins s σ H _ I h) λ v s1 ⟨x,H1,I1,r1,q1⟩=>?_) hs hw;rw [h1];exact thn (hg pins s1 σ H1 x v _ I1 r1 q1) λ _ s2 q=>q
theorem qv {i:Nat} {x:Str} {e:Expr} {te:TE} {pos':Pos} (hN:X.N.Nodup) (hi:X.N[i]?=some x) (hx:Loc X.env.scope x) (he:PE X e te) (hs:swapsWith e (some (.Name x pos')) pos.line X.env=pure false:=by rfl) (hf:X.fn x=true∨X.env.scope.names.lookup x=some .local:=by first | exact .inl rfl | exact .inr rfl | assumption) :
  PS X (.Assign [.Name x pos'] e pos) (qih te (vN i)):=by
 intro pins s σ H D I h;refine wpAny_Assign_Name (thn (he pins s σ H _ I h) λ v s1 ⟨y,H1,I1,r1,q1⟩=>?_) hs;exact qeP I1 hN hi hx r1 (λ s2 I2=>⟨_,H1,I2,q1⟩) hf
end
section
variable {X:Cx} {pos:Pos}
def qlu (c:TT) (tb:TS):TS:=λ D σ H=>∃ W:Nat->St->Hp->Prop,(∃ m,W m σ H)/\∀ m σ H,W m σ H ->
 c σ H λ b H1=>if b=true then ∃ N:St->Hp->Prop,(∀ σ' H',N σ' H'->∃ m',m' < m/\W m' σ' H')/\tb { D with nx:=N,ct:=N,bk:=D.nx } σ H1 else D.nx σ H1
theorem qeQ {c:Expr} {body:List Stmt} {tc:TT} {tb:TS} (hp:PassesOwn (model X.prog X.w) X.A X.env X.xe) (hc:PT X c tc) (hb:PSs X body tb):PS X (.While c body [] pos) (qlu tc tb):=by
 intro pins s σ H D I h;obtain ⟨W,⟨m0,w0⟩,turn⟩:=h;refine wpAny_While (codeAny_whileLoop (λ n s'=>∃ σ' H',Inv X pins σ' H' s'/\W n σ' H') ?_ m0 ⟨σ,H,I,w0⟩);rintro n s1 ⟨σ1,H1,I1,w1⟩;refine wpAny_passesOwn hp (thn (hc pins s1 σ1 H1 _ I1 (turn n σ1 H1 w1)) λ b s2 ⟨H2,I2,q2⟩=>?_);cases b with
 | true =>
  obtain ⟨N,hN,q2⟩:=q2;rw [if_pos rfl];refine wpAny_passesOwn hp (thn (hb pins s2 σ1 H2 _ I2 q2) λ f s3 q3=>?_);cases f with
  | next =>
   obtain ⟨σ3,H3,I3,n3⟩:=q3;obtain ⟨m',hm,w3⟩:=hN σ3 H3 n3;exact ⟨m',hm,σ3,H3,I3,w3⟩
  | cont =>
   obtain ⟨σ3,H3,I3,n3⟩:=q3;obtain ⟨m',hm,w3⟩:=hN σ3 H3 n3;exact ⟨m',hm,σ3,H3,I3,w3⟩
  | brk=>exact q3
  | ret v=>exact q3
 | false =>
  rw [if_neg Bool.false_ne_true];exact wpAny_execs_nil ⟨σ1,H2,I2,q2⟩
end
structure It where
 go:Nat->Hp->Prop
 yld:Nat->Hp->V->Hp->Prop
 stop:Nat->Hp->Prop
def jy (X:Cx) (pins:List (Addr×Obj)) (H:Hp) (b:Addr):Prop :=
 H b=none/\b≠X.env.locals/\b ∉ X.fs/\(b∈X.ex∨X.s₀.heap.objs.size<=b)/\(∀ x c,X.env.cells.lookup x=some c->c≠b)/\∀ p∈X.pn++pins,p.1≠b
theorem Inv.fpOk {X:Cx} {pins:List (Addr×Obj)} {σ:St} {H H':Hp} {s:Shared} {b:Addr} (I:Inv X pins σ H s) (hb:s.heap.objs.size<=b) (hn:H' b=none):jy X pins H' b:=by
 refine ⟨hn,Nat.ne_of_gt (Nat.lt_of_lt_of_le I.lt hb),I.nofs hb,.inr (Nat.le_trans I.sz hb),λ x c e z=>?_,λ p hp z=>?_⟩
 ·obtain ⟨v,q⟩:=I.cell x c e;exact absurd (Nat.lt_of_lt_of_le q.lt (by rw [z];exact hb)) (XC _)
 ·exact absurd (Nat.lt_of_lt_of_le (Xm (I.pin p hp).1) (by rw [z];exact hb)) (XC _)
structure Turn (P:Program) (w:World) (K:PySem.W.Frag) (tg:Expr) (J:It) (fp:List Addr) (it:Addr) (tn:Nat->Heap->Prop):Prop where
 mem:it∈fp
 obj:∀ i h,tn i h->∀ b∈fp,∃ o,h.get? b=some o/\∀ v,o.data≠.cell v
 keep:∀ i h h',tn i h->(∀ b∈fp,∀ o,h.get? b=some o->h'.get? b=some o)->tn i h'
 item:∀ (X:Cx),X.prog=P->X.w=w->X.K=K->X.calm=true->∀ (i:Nat) (pins:List (Addr×Obj)) (s:Shared) (σ:St) (H:Hp) (E:Value->Shared->Prop),Inv X pins σ H s->(∀ b∈fp,jy X pins H b)->tn i s.heap->J.go i H ->
  wpAny (model P w) X.A (pyNext (.ref it)) (λ r s1=>∃ u,r=some u /\
   wpAny (model P w) X.A (letOwnedTupleGo tg (.ref it) u) (λ _ s2=>∃ x H',Inv X pins σ H' s2/\qV x u/\J.yld i H x H'/\tn (i+1) s2.heap/\∀ b∈fp,H' b=none) E s1) E s
 done:∀ (X:Cx),X.prog=P->X.w=w->X.K=K->X.calm=true->∀ (i:Nat) (pins:List (Addr×Obj)) (s:Shared) (σ:St) (H:Hp) (E:Value->Shared->Prop),Inv X pins σ H s->(∀ b∈fp,jy X pins H b)->tn i s.heap->J.stop i H ->
  wpAny (model P w) X.A (pyNext (.ref it)) (λ r s1=>r=none/\Inv X pins σ H s1) E s
 self:∀ (A:Around) (i:Nat) (s:Shared) (Q:Value->Shared->Prop) (E:Value->Shared->Prop),tn i s.heap->Q (.ref it) s->wpAny (model P w) A (pyIter (.ref it)) Q E s
abbrev TI:=St->Hp->(It->Hp->Prop)->Prop
def PIE (X:Cx) (pins:List (Addr×Obj)) (σ:St) (tg:Expr) (R:It->Hp->Prop) (itv:Value) (s2:Shared):Prop :=
 ∃ (it:Addr) (fp:List Addr) (tn:Nat->Heap->Prop) (J:It) (H':Hp),itv=.ref it/\Inv X pins σ H' s2/\Turn X.prog X.w X.K tg J fp it tn/\tn 0 s2.heap/\(∀ b∈fp,jy X pins H' b)/\R J H'
def PI (X:Cx) (tg iter:Expr) (wi:TI):Prop :=
 ∀ (pins:List (Addr×Obj)) (s:Shared) (σ:St) (H:Hp) (R:It->Hp->Prop),Inv X pins σ H s->wi σ H R ->
  wpAny (model X.prog X.w) X.A (eval iter X.env) (λ v s1=>wpAny (model X.prog X.w) X.A (pyIter v) (PIE X pins σ tg R) X.xe s1) X.xe s
theorem qgO {M:Model} {A:Around} {E:Value->Shared->Prop} {s:Shared} {tg:Expr} {it:Addr} {u:Value} {o:Obj} {n:String} {vs:Array Value} {Q:Unit->Shared->Prop} (ho:s.heap.get? it=some o) (hc:o.cls=.type n) (hd:o.data=.fields vs)
  (hn:["enumerate","zip","dict_itemiterator","dict_reverseitemiterator","odict_iterator","itertools.zip_longest","itertools.pairwise"].contains n=false) (hQ:Q () s):wpAny M A (letOwnedTupleGo tg (.ref it) u) Q E s:=by
 unfold letOwnedTupleGo;cases tg <;> first
  | exact Xg hQ
  | (cases u <;> first
    | exact Xg hQ
    | (refine Xf (wpAny_load ho ?_)
       rw [hc,hd];show wpAny M A (if (["enumerate","zip","dict_itemiterator","dict_reverseitemiterator","odict_iterator","itertools.zip_longest","itertools.pairwise"].contains n && vs[0]? == some (rawInt _))=true then _ else _) Q E s
       rw [if_neg (by intro h;rw [hn,Bool.false_and] at h;cases h)];exact Xg hQ))
def Itl (K:PySem.W.Frag) (a:Addr):It :=
 ⟨λ i H=>∃ xs x,SqL K H a xs/\xs[i]?=some x,λ i H x H'=>H'=H/\∀ xs,SqL K H a xs->xs[i]?=some x,λ i H=>∃ xs,SqL K H a xs/\xs.length<=i⟩
def Itt (K:PySem.W.Frag) (a:Addr):It :=
 ⟨λ i H=>∃ xs x,SqT K H a xs/\xs[i]?=some x,λ i H x H'=>H'=H/\∀ xs,SqT K H a xs->xs[i]?=some x,λ i H=>∃ xs,SqT K H a xs/\xs.length<=i⟩
def Itr (lo:Int) (n:Nat):It:=⟨λ i _=>i < n,λ i H x H'=>H'=H/\x=.int (lo+i),λ i _=>n<=i⟩
theorem qhq {P:Program} {w:World} {K:PySem.W.Frag} {tg:Expr} (a it:Addr):Turn P w K tg (Itl K a) [it] it (λ i h=>h.IsListIter it a i) where
 mem:=by simp
 obj:=λ i h st b hb=>by
  have e:b=it:=by simpa using hb
  subst e;obtain ⟨o,e,c,d⟩:=st;exact ⟨o,e,λ v z=>by rw [d] at z;cases z⟩
 keep:=λ i h h' st k=>st.at λ o e=>k it (by simp) o e
 item:=by
  intro X hP hw hK hc i pins s σ H E I hf st hg;subst hP hw hK;obtain ⟨xs,x,hq,hx⟩:=hg;obtain ⟨its,rv,p,hz⟩:=I.list hq;obtain ⟨u,hu,ru⟩:=rv.get hx;obtain ⟨f0,f1,f2,f3,f4,f5⟩:=hf it (by simp);refine wpAny_pyNext_list_item st p.isList (x:=u) (by simpa using hu) λ h' st' sb=>?_
  have I1:Inv X pins σ H { s with heap:=h' }:=I.turned (t':=s.toks) (λ b o hb e=>(sb.2 b hb).trans e) f0 f1 f3 f4 f5;obtain ⟨o,e,c,d⟩:=id st';exact ⟨u,rfl,qgO (s:={ s with heap:=h' }) e c d (by decide) ⟨x,H,I1,ru,⟨rfl,λ ys hy=>by rw [I.list_inj hy hq];exact hx⟩,st',λ b hb=>(hf b hb).1⟩⟩
 done:=by
  intro X hP hw hK hc i pins s σ H E I hf st hg;subst hP hw hK;obtain ⟨xs,hq,hx⟩:=hg;obtain ⟨its,rv,p,hz⟩:=I.list hq;obtain ⟨f0,f1,f2,f3,f4,f5⟩:=hf it (by simp);have hl:=rv.length;exact wpAny_pyNext_list_end (I.ok.hd hc) st p.isList (by simp;omega) λ h' eb=>⟨rfl,I.turned (t':=s.toks) (λ b o hb e=>eb b o hb e) f0 f1 f3 f4 f5⟩
 self:=λ _ _ _ _ _ st h=>wpAny_pyIter_listiter st h
theorem qfV {P:Program} {w:World} {K:PySem.W.Frag} {tg:Expr} (a it:Addr):Turn P w K tg (Itt K a) [it] it (λ i h=>h.IsTupleIter it a i) where
 mem:=by simp
 obj:=λ i h st b hb=>by
  have e:b=it:=by simpa using hb
  subst e;obtain ⟨o,e,c,d⟩:=st;exact ⟨o,e,λ v z=>by rw [d] at z;cases z⟩
 keep:=λ i h h' st k=>st.at λ o e=>k it (by simp) o e
 item:=by
  intro X hP hw hK hc i pins s σ H E I hf st hg;subst hP hw hK;obtain ⟨xs,x,hq,hx⟩:=hg;obtain ⟨its,rv,p,hz⟩:=I.tuple hq;obtain ⟨u,hu,ru⟩:=rv.get hx;obtain ⟨f0,f1,f2,f3,f4,f5⟩:=hf it (by simp);refine wpAny_pyNext_tuple_item st (show s.heap.IsTuple a its.toArray from p) (x:=u) (by simpa using hu) λ h' st' sb=>?_
  have I1:Inv X pins σ H { s with heap:=h' }:=I.turned (t':=s.toks) (λ b o hb e=>(sb.2 b hb).trans e) f0 f1 f3 f4 f5;obtain ⟨o,e,c,d⟩:=id st';exact ⟨u,rfl,qgO (s:={ s with heap:=h' }) e c d (by decide) ⟨x,H,I1,ru,⟨rfl,λ ys hy=>by rw [I.tuple_inj hy hq];exact hx⟩,st',λ b hb=>(hf b hb).1⟩⟩
 done:=by
  intro X hP hw hK hc i pins s σ H E I hf st hg;subst hP hw hK;obtain ⟨xs,hq,hx⟩:=hg;obtain ⟨its,rv,p,hz⟩:=I.tuple hq;obtain ⟨f0,f1,f2,f3,f4,f5⟩:=hf it (by simp);have hl:=rv.length;exact wpAny_pyNext_tuple_end (I.ok.hd hc) st (show s.heap.IsTuple a its.toArray from p) (by simp;omega) λ h' eb=>⟨rfl,I.turned (t':=s.toks) (λ b o hb e=>eb b o hb e) f0 f1 f3 f4 f5⟩
 self:=λ _ _ _ _ _ st h=>wpAny_pyIter_tupleiter st h
theorem qfW {P:Program} {w:World} {K:PySem.W.Frag} {tg:Expr} (it:Addr) (lo:Int) (n:Nat):Turn P w K tg (Itr lo n) [it] it (λ i h=>IsRangeIter h it (lo+(i:Nat) * 1) ((n:Int) - (i:Nat)) 1) where
 mem:=by simp
 obj:=λ i h st b hb=>by
  have e:b=it:=by simpa using hb
  subst e;exact ⟨_,st,λ v z=>by
   have z':Data.fields _=Data.cell v:=z;cases z'⟩
 keep:=λ i h h' st k=>k it (by simp) _ st
 item:=by
  intro X hP hw hK hc i pins s σ H E I hf st hg;subst hP hw hK;obtain ⟨f0,f1,f2,f3,f4,f5⟩:=hf it (by simp);have W:=Walks.range (prog:=X.prog) (w:=X.w) (I.ok.hd hc) it lo 1 n;refine W.item i s _ _ hg st λ v h' tk hv st' kk=>?_
  obtain ⟨t,rfl⟩:=hv;have I1:Inv X pins σ H { s with heap:=h',toks:=tk }:=I.turned (λ b o hb e=>kk b o (by simpa using hb) e) f0 f1 f3 f4 f5;refine ⟨_,rfl,qgO (s:={ s with heap:=h',toks:=tk }) (n:="range_iterator") st' rfl rfl (by decide) ⟨.int (lo+i),H,I1,⟨t,?_⟩,⟨rfl,rfl⟩,st',λ b hb=>(hf b hb).1⟩⟩;rw [Int.mul_one]
 done:=by
  intro X hP hw hK hc i pins s σ H E I hf st hg;subst hP hw hK;obtain ⟨f0,f1,f2,f3,f4,f5⟩:=hf it (by simp);exact wpAny_pyNext_range_end (I.ok.hd hc) st (by have:n<=i:=hg;omega) λ h' eb=>⟨rfl,I.turned (t':=s.toks) (λ b o hb e=>eb b o hb e) f0 f1 f3 f4 f5⟩
 self:=λ _ _ _ _ _ st h=>wpAny_pyIter_rangeiter st h
section
variable {X:Cx} {tg:Expr}
def qk6 (K:PySem.W.Frag) (tl:TE):TI:=λ σ H R=>tl σ H λ x H1=>∃ a,x=.ref a/\(∃ xs,SqL K H1 a xs)/\R (Itl K a) H1
def qnp (K:PySem.W.Frag) (tl:TE):TI:=λ σ H R=>tl σ H λ x H1=>∃ a,x=.ref a/\(∃ xs,SqT K H1 a xs)/\R (Itt K a) H1
theorem yq {l:Expr} {tl:TE} (hl:PE X l tl):PI X tg l (qk6 X.K tl):=by
 intro pins s σ H R I h;refine thn (hl pins s σ H _ I h) λ v s1 ⟨x,H1,I1,r1,q1⟩=>?_
 obtain ⟨a,e,⟨xs,hq⟩,q⟩:=q1;subst e;cases r1
 obtain ⟨its,rv,p,hz⟩:=I1.list hq;refine wpAny_pyIter_list p.isList ?_;refine ⟨s1.heap.objs.size,[s1.heap.objs.size],_,_,H1,rfl,I1.kept (t':=s1.toks) λ b o e=>Xc _ e,qhq a _,⟨_,Xk _ rfl,rfl,rfl⟩,λ b hb=>?_,q⟩;have e:b=s1.heap.objs.size:=by simpa using hb
 subst e;exact I1.fpOk (Xe _) (I1.hok.fresh (Xe _))
theorem qdW {l:Expr} {tl:TE} (hl:PE X l tl):PI X tg l (qnp X.K tl):=by
 intro pins s σ H R I h;refine thn (hl pins s σ H _ I h) λ v s1 ⟨x,H1,I1,r1,q1⟩=>?_
 obtain ⟨a,e,⟨xs,hq⟩,q⟩:=q1;subst e;cases r1
 obtain ⟨its,rv,p,hz⟩:=I1.tuple hq;refine wpAny_pyIter_tuple (show s1.heap.IsTuple a its.toArray from p) ?_;refine ⟨s1.heap.objs.size,[s1.heap.objs.size],_,_,H1,rfl,I1.kept (t':=s1.toks) λ b o e=>Xc _ e,qfV a _,⟨_,Xk _ rfl,rfl,rfl⟩,λ b hb=>?_,q⟩;have e:b=s1.heap.objs.size:=by simpa using hb
 subst e;exact I1.fpOk (Xe _) (I1.hok.fresh (Xe _))
theorem qii {pins:List (Addr×Obj)} {σ:St} {H:Hp} {s:Shared} {R:It->Hp->Prop} {E:Value->Shared->Prop} {lo hi:Int} {t u v:Tok} {tk:Nat} (I:Inv X pins σ H s) (h1:-(2 ^ 62)<=lo) (h2:lo < 2 ^ 62) (h3:-(2 ^ 62)<=hi) (h4:hi < 2 ^ 62)
  (q:R (Itr lo (hi - lo).toNat) H):wpAny (model X.prog X.w) X.A (pyIter (.ref s.heap.objs.size)) (PIE X pins σ tg R) E { s with heap:=s.heap.push { cls:=.type "range",data:=.fields #[.int lo t,.int hi u,.int 1 v] },toks:=tk }:=by
 refine wpAny_pyIter_range (IsRange.new ..) (small_one h1 h2 h3 h4) ?_;have I1:Inv X pins σ H { s with heap:=s.heap.push { cls:=.type "range",data:=.fields #[.int lo t,.int hi u,.int 1 v] },toks:=tk }:=I.kept λ b o e=>Xc _ e
 refine ⟨(s.heap.push { cls:=.type "range",data:=.fields #[.int lo t,.int hi u,.int 1 v] }).objs.size,[(s.heap.push { cls:=.type "range",data:=.fields #[.int lo t,.int hi u,.int 1 v] }).objs.size],_,_,H,rfl,
  I1.kept (t':=tk) λ b o e=>Xc _ e,qfW _ lo (hi - lo).toNat,?_,λ b hb=>?_,q⟩
 ·have e1:lo+((0:Nat):Int) * 1=lo:=by simp
  have e2:(((hi - lo).toNat:Nat):Int) - ((0:Nat):Int)=Builtin.Range.rangeSize lo hi 1:=by rw [rangeSize_one];split <;> omega
  show IsRangeIter _ _ (lo+((0:Nat):Int) * 1) ((((hi - lo).toNat:Nat):Int) - ((0:Nat):Int)) 1
  rw [e1,e2];exact Xk _ rfl
 ·have e:b=(s.heap.push { cls:=.type "range",data:=.fields #[.int lo t,.int hi u,.int 1 v] }).objs.size:=by simpa using hb
  subst e;exact I1.fpOk (Xe _) (I1.hok.fresh (Xe _))
def qmq (ta:TA):TI:=λ σ H R=>ta σ H λ vs H1=>∃ j:Int,vs=[.int j]/\-(2 ^ 62)<=j/\j < 2 ^ 62/\R (Itr 0 j.toNat) H1
theorem yj {a:Expr} {ta:TA} {p pos:Pos} (hg:Gl X "range") (hm:X.mg "range"=none) (ha:PA X [a] ta) (hs:starEach [a] X.env=[(false,eval a X.env)]:=by rfl):PI X tg (.Call (.Name "range" p) [a] [] pos) (qmq ta):=by
 intro pins s σ H R I h;refine Call_ (qbp I hg hm boot_range (PyProof.Rows.callWith_type1 (thn (ha pos pins s σ H _ I h) λ us s1 ⟨vs,H1,I1,r1,q1⟩=>?_) hs rfl));obtain ⟨j,e,q1,q2,q⟩:=q1;subst e;cases r1 with
 | cons r rr =>
  cases rr
  obtain ⟨t,rfl⟩:=r;exact call_range_1 (qii I1 (by omega) (by omega) q1 q2 (by simpa using q))
def qnq (wi:TI) (g:TG) (tb:TS):TS:=λ D σ H=>wi σ H λ J H1=>∃ W:Nat->Nat->St->Hp->Prop,(∃ m,W 0 m σ H1)/\∀ i m σ H,W i m σ H ->
 (J.stop i H/\D.nx σ H)∨(J.go i H/\∃ N:St->Hp->Prop,(∀ σ' H',N σ' H'->∃ m',m' < m/\W (i+1) m' σ' H')/\∀ x H',J.yld i H x H'->g x σ H' λ σ2 H2=>tb { D with nx:=N,ct:=N,bk:=D.nx } σ2 H2)
def vT (fp:List Addr) (h:Heap):List (Addr×Obj):=fp.filterMap λ b=>(h.get? b).map λ o=>(b,o)
theorem yD {fp:List Addr} {h:Heap} {b:Addr} {o:Obj} (hb:b∈fp) (e:h.get? b=some o):(b,o)∈vT fp h:=List.mem_filterMap.mpr ⟨b,hb,by rw [e];rfl⟩
theorem qhr {fp:List Addr} {h:Heap} {p:Addr×Obj} (hp:p∈vT fp h):p.1∈fp/\h.get? p.1=some p.2:=by
 obtain ⟨b,hb,e⟩:=List.mem_filterMap.mp hp;cases q:h.get? b with
 | none=>rw [q] at e;cases e
 | some o =>
  rw [q] at e;have e':(b,o)=p:=Xs e;subst e';exact ⟨hb,q⟩
theorem Inv.pinned {pins:List (Addr×Obj)} {σ:St} {H:Hp} {s:Shared} {fp:List Addr} (I:Inv X pins σ H s) (hf:∀ b∈fp,jy X pins H b) (ho:∀ b∈fp,∃ o,s.heap.get? b=some o/\∀ v,o.data≠.cell v):Inv X (pins++vT fp s.heap) σ H s :=
 I.pins_of λ p hp=>(List.mem_append.mp hp).elim (λ z=>I.pin p (List.mem_append_right _ z)) λ z=>by
  obtain ⟨hb,e⟩:=qhr z;obtain ⟨f0,f1,f2,_⟩:=hf p.1 hb;obtain ⟨o,e',d⟩:=ho p.1 hb;rw [e] at e';cases e';exact ⟨e,f0,f1,f2,d⟩
theorem Inv.unpinned {pins pl:List (Addr×Obj)} {σ:St} {H:Hp} {s:Shared} (I:Inv X (pins++pl) σ H s):Inv X pins σ H s:=I.pins_of λ p hp=>I.pin p (List.mem_append_right _ (List.mem_append_left _ hp))
theorem yE {iter:Expr} {body:List Stmt} {wi:TI} {g:TG} {tb:TS} {pos:Pos} (hp:PassesOwn (model X.prog X.w) X.A X.env X.xe) (hc:X.calm=true) (hi:PI X tg iter wi) (hg:PG X tg g) (hb:PSs X body tb)
  (hs:∀ x,foldedSetIterable iter X.env x=pure x:=by intro _;rfl):PS X (.For tg iter body [] pos) (qnq wi g tb):=by
 intro pins s σ H D I h;refine wpAny_For (thn (hi pins s σ H _ I h) λ v s1 h1=>thn h1 λ itv s2 h2=>?_) hs;obtain ⟨it,fp,tn,J,H2,e,I2,T,st2,f2,W,⟨m0,w0⟩,turn⟩:=h2;subst e;have stat:∀ {H':Hp},(∀ b∈fp,H' b=none)->∀ b∈fp,jy X pins H' b:=λ hn b hb=>⟨hn b hb,(f2 b hb).2⟩
 refine codeAny_forLoop_any (λ n s'=>∃ i σ' H',Inv X pins σ' H' s'/\tn i s'.heap/\(∀ b∈fp,H' b=none)/\W i n σ' H') ?_ m0 ⟨0,σ,H2,I2,st2,λ b hb=>(f2 b hb).1,w0⟩;rintro n s3 ⟨i,σ3,H3,I3,st3,fr3,w3⟩;rcases turn i n σ3 H3 w3 with ⟨stop,qn⟩ | ⟨go,N,hN,step⟩
 ·refine wpAny_passesOwn hp (thn (T.done X rfl rfl rfl hc i pins s3 σ3 H3 X.xe I3 (stat fr3) st3 stop) λ r s4 ⟨hr,I4⟩=>?_);subst hr;exact wpAny_execs_nil ⟨σ3,H3,I4,qn⟩
 ·refine wpAny_passesOwn hp (thn (T.item X rfl rfl rfl hc i pins s3 σ3 H3 X.xe I3 (stat fr3) st3 go) λ r s4 ⟨u,hr,h4⟩=>?_);subst hr;refine wpAny_passesOwn hp (thn h4 λ _ s5 ⟨x,H5,I5,r5,y5,st5,fr5⟩=>?_);have I5':=I5.pinned (stat fr5) (T.obj _ _ st5);refine wpAny_passesOwn hp (thn (hg _ s5 σ3 H5 x u _ I5' r5 (step x H5 y5)) λ _ s6 ⟨σ6,H6,I6,q6⟩=>?_);refine wpAny_passesOwn hp (thn (hb _ s6 σ6 H6 _ I6 q6) λ f s7 q7=>?_);have again:∀ {σ7:St} {H7:Hp},Inv X (pins++vT fp s5.heap) σ7 H7 s7->N σ7 H7->∃ m,m < n/\∃ i σ' H',Inv X pins σ' H' s7/\tn i s7.heap/\(∀ b∈fp,H' b=none)/\W i m σ' H':=λ {σ7 H7} I7 n7=>by
   obtain ⟨m',hm,w7⟩:=hN σ7 H7 n7;refine ⟨m',hm,i+1,σ7,H7,I7.unpinned,T.keep _ _ _ st5 λ b hb o e=>(I7.pin (b,o) (List.mem_append_right _ (List.mem_append_right _ (yD hb e)))).1,λ b hb=>?_,w7⟩;obtain ⟨o,e,d⟩:=T.obj _ _ st5 b hb;exact (I7.pin (b,o) (List.mem_append_right _ (List.mem_append_right _ (yD hb e)))).2.1
  cases f with
  | next=>obtain ⟨σ7,H7,I7,n7⟩:=q7;exact again I7 n7
  | cont=>obtain ⟨σ7,H7,I7,n7⟩:=q7;exact again I7 n7
  | brk=>obtain ⟨σ7,H7,I7,q7⟩:=q7;exact ⟨σ7,H7,I7.unpinned,q7⟩
  | ret v=>obtain ⟨x7,σ7,H7,I7,r7,q7⟩:=q7;exact ⟨x7,σ7,H7,I7.unpinned,r7,q7⟩
end
theorem qci {K:PySem.W.Frag} {a:Addr} {xs:List V} {g:TG} {tb:TS} {D:Ends} {σ:St} {H:Hp} (Pv:Nat->St->Hp->Prop) (h0:Pv 0 σ H) (hl:∀ i σ H,i<=xs.length->Pv i σ H->SqL K H a xs)
  (hs:∀ i x σ H,xs[i]?=some x->Pv i σ H->g x σ H λ σ2 H2=>tb { D with nx:=Pv (i+1),ct:=Pv (i+1),bk:=D.nx } σ2 H2) (hd:∀ σ H,Pv xs.length σ H->D.nx σ H) :
  ∃ W:Nat->Nat->St->Hp->Prop,(∃ m,W 0 m σ H)/\∀ i m σ H,W i m σ H ->
   ((Itl K a).stop i H/\D.nx σ H)∨((Itl K a).go i H/\∃ N:St->Hp->Prop,(∀ σ' H',N σ' H'->∃ m',m' < m/\W (i+1) m' σ' H')/\∀ x H',(Itl K a).yld i H x H'->g x σ H' λ σ2 H2=>tb { D with nx:=N,ct:=N,bk:=D.nx } σ2 H2):=by
 refine ⟨λ i m σ H=>m=xs.length - i/\i<=xs.length/\Pv i σ H,⟨xs.length,by simp,Nat.zero_le _,h0⟩,?_⟩;rintro i m σ H ⟨rfl,hi,p⟩;have q:=hl i σ H hi p;by_cases hlt:i < xs.length
 ·refine .inr ⟨⟨xs,xs[i],q,by simp [hlt]⟩,Pv (i+1),λ σ' H' p'=>⟨xs.length - (i+1),by omega,rfl,hlt,p'⟩,λ x H' y=>?_⟩;obtain ⟨e,y⟩:=y;subst e;exact hs i x σ _ (y xs q) p
 ·have e:i=xs.length:=by omega
  subst e;exact .inl ⟨⟨xs,q,Xe _⟩,hd σ H p⟩
theorem qj4 {K:PySem.W.Frag} {a:Addr} {xs:List V} {g:TG} {tb:TS} {D:Ends} {σ:St} {H:Hp} (Pv:Nat->St->Hp->Prop) (h0:Pv 0 σ H) (hl:∀ i σ H,i<=xs.length->Pv i σ H->SqT K H a xs)
  (hs:∀ i x σ H,xs[i]?=some x->Pv i σ H->g x σ H λ σ2 H2=>tb { D with nx:=Pv (i+1),ct:=Pv (i+1),bk:=D.nx } σ2 H2) (hd:∀ σ H,Pv xs.length σ H->D.nx σ H) :
  ∃ W:Nat->Nat->St->Hp->Prop,(∃ m,W 0 m σ H)/\∀ i m σ H,W i m σ H ->
   ((Itt K a).stop i H/\D.nx σ H)∨((Itt K a).go i H/\∃ N:St->Hp->Prop,(∀ σ' H',N σ' H'->∃ m',m' < m/\W (i+1) m' σ' H')/\∀ x H',(Itt K a).yld i H x H'->g x σ H' λ σ2 H2=>tb { D with nx:=N,ct:=N,bk:=D.nx } σ2 H2):=by
 refine ⟨λ i m σ H=>m=xs.length - i/\i<=xs.length/\Pv i σ H,⟨xs.length,by simp,Nat.zero_le _,h0⟩,?_⟩;rintro i m σ H ⟨rfl,hi,p⟩;have q:=hl i σ H hi p;by_cases hlt:i < xs.length
 ·refine .inr ⟨⟨xs,xs[i],q,by simp [hlt]⟩,Pv (i+1),λ σ' H' p'=>⟨xs.length - (i+1),by omega,rfl,hlt,p'⟩,λ x H' y=>?_⟩;obtain ⟨e,y⟩:=y;subst e;exact hs i x σ _ (y xs q) p
 ·have e:i=xs.length:=by omega
  subst e;exact .inl ⟨⟨xs,q,Xe _⟩,hd σ H p⟩
theorem yF {lo:Int} {n:Nat} {g:TG} {tb:TS} {D:Ends} {σ:St} {H:Hp} (Pv:Nat->St->Hp->Prop) (h0:Pv 0 σ H)
  (hs:∀ i σ H,i < n->Pv i σ H->g (.int (lo+i)) σ H λ σ2 H2=>tb { D with nx:=Pv (i+1),ct:=Pv (i+1),bk:=D.nx } σ2 H2) (hd:∀ σ H,Pv n σ H->D.nx σ H) :
  ∃ W:Nat->Nat->St->Hp->Prop,(∃ m,W 0 m σ H)/\∀ i m σ H,W i m σ H ->
   ((Itr lo n).stop i H/\D.nx σ H)∨((Itr lo n).go i H/\∃ N:St->Hp->Prop,(∀ σ' H',N σ' H'->∃ m',m' < m/\W (i+1) m' σ' H')/\∀ x H',(Itr lo n).yld i H x H'->g x σ H' λ σ2 H2=>tb { D with nx:=N,ct:=N,bk:=D.nx } σ2 H2):=by
 refine ⟨λ i m σ H=>m=n - i/\i<=n/\Pv i σ H,⟨n,by simp,Nat.zero_le _,h0⟩,?_⟩;rintro i m σ H ⟨rfl,hi,p⟩;by_cases hlt:i < n
 ·refine .inr ⟨hlt,Pv (i+1),λ σ' H' p'=>⟨n - (i+1),by omega,rfl,hlt,p'⟩,λ x H' y=>?_⟩;obtain ⟨e,y⟩:=y;subst e y;exact hs i σ _ hlt p
 ·have e:i=n:=by omega
  subst e;exact .inl ⟨Xe _,hd σ H p⟩
abbrev R2:=V->V->Hp->VK->Prop
def OpR (X:Cx) (f:Value->Value->Sem Value) (r:R2):Prop :=
 ∀ (pins:List (Addr×Obj)) (s:Shared) (σ:St) (H:Hp) (x y:V) (v u:Value) (Q:VK),Inv X pins σ H s->qV x v->qV y u->r x y H Q ->
  wpAny (model X.prog X.w) X.A (f v u) (EP X pins σ Q) X.xe s
def UnR (X:Cx) (f:Value->Sem Value) (r:V->Hp->VK->Prop):Prop :=
 ∀ (pins:List (Addr×Obj)) (s:Shared) (σ:St) (H:Hp) (x:V) (v:Value) (Q:VK),Inv X pins σ H s->qV x v->r x H Q ->
  wpAny (model X.prog X.w) X.A (f v) (EP X pins σ Q) X.xe s
def jh (X:Cx) (f:Value) (r:List V->Hp->VK->Prop):Prop :=
 ∀ (pins:List (Addr×Obj)) (s:Shared) (σ:St) (H:Hp) (xs:List V) (us:List Value) (Q:VK),Inv X pins σ H s->qN xs us->r xs H Q ->
  wpAny (model X.prog X.w) X.A (call f us) (EP X pins σ Q) X.xe s
def tOp (r:R2) (ta tb:TE):TE:=λ σ H Q=>ta σ H λ x H1=>tb σ H1 λ y H2=>r x y H2 Q
def tUn (r:V->Hp->VK->Prop) (ta:TE):TE:=λ σ H Q=>ta σ H λ x H1=>r x H1 Q
def rI (C:Int->Int->Prop) (g:Int->Int->V):R2:=λ x y H Q=>∃ i j,x=.int i/\y=.int j/\C i j/\Q (g i j) H
def rI0 (g:Int->Int->V):R2:=λ x y H Q=>∃ i j,x=.int i/\y=.int j/\Q (g i j) H
def rU (g:Int->V):V->Hp->VK->Prop:=λ x H Q=>∃ i,x=.int i/\Q (g i) H
section
variable {X:Cx} {a b c:Expr} {ta tb tc:TE} {pos:Pos}
theorem qlv (ha:PE X a ta) (hb:PE X b tb) {pins:List (Addr×Obj)} {s:Shared} {σ:St} {H:Hp} {R:V->V->Hp->Prop} (I:Inv X pins σ H s)
  (h:ta σ H λ x H1=>tb σ H1 λ y H2=>R x y H2) {Q:Value->Shared->Prop} {f:Value->Value->Sem Value}
  (hf:∀ v u s2 x y H2,Inv X pins σ H2 s2->qV x v->qV y u->R x y H2->wpAny (model X.prog X.w) X.A (f v u) Q X.xe s2) :
  wpAny (model X.prog X.w) X.A (eval a X.env) (λ v s₁=>wpAny (model X.prog X.w) X.A (eval b X.env) (λ u s₂=>wpAny (model X.prog X.w) X.A (f v u) Q X.xe s₂) X.xe s₁) X.xe s:=by
 refine thn (ha pins s σ H _ I h) λ v s1 ⟨x,H1,I1,r1,q1⟩=>?_
 refine thn (hb pins s1 σ H1 _ I1 q1) λ u s2 ⟨y,H2,I2,r2,q2⟩=>?_
 exact hf v u s2 x y H2 I2 r1 r2 q2
theorem qo {op:Operator} {r:R2} (ho:OpR X (binaryOp op) r) (ha:PE X a ta) (hb:PE X b tb):PE X (.BinOp a op b pos) (tOp r ta tb):=by
 intro pins s σ H Q I h;exact wpAny_BinOp (qlv ha hb I h λ v u s2 x y H2 I2 rx ry q=>ho pins s2 σ H2 x y v u Q I2 rx ry q)
theorem qaW {op:UnaryOp} {r:V->Hp->VK->Prop} (ho:UnR X (unaryOp op) r) (ha:PE X a ta):PE X (.UnaryOp op a pos) (tUn r ta):=by
 intro pins s σ H Q I h;exact UnaryOp_ (thn (ha pins s σ H _ I h) λ v s1 ⟨x,H1,I1,r1,q1⟩=>ho pins s1 σ H1 x v Q I1 r1 q1)
theorem opI {f:Value->Value->Sem Value} {C:Int->Int->Prop} {g:Int->Int->Int}
  (rule:∀ (i j:Int) (t u:Tok) (s:Shared) (Q:Value->Shared->Prop) (E:Value->Shared->Prop),C i j->Q (.int (g i j) s.toks) { s with toks:=s.toks+1 }->wpAny (model X.prog X.w) X.A (f (.int i t) (.int j u)) Q E s) :
  OpR X f (rI C λ i j=>.int (g i j)):=by
 intro pins s σ H x y v u Q I rx ry h;obtain ⟨i,j,rfl,rfl,hc,q⟩:=h;obtain ⟨t,rfl⟩:=rx;obtain ⟨t',rfl⟩:=ry;exact rule i j t t' s _ _ hc ⟨.int (g i j),H,I.tok _,⟨_,rfl⟩,q⟩
theorem qlw {f:Value->Value->Sem Value} {g:Int->Int->Int}
  (rule:∀ (i j:Int) (t u:Tok) (s:Shared) (Q:Value->Shared->Prop) (E:Value->Shared->Prop),Q (.int (g i j) s.toks) { s with toks:=s.toks+1 }->wpAny (model X.prog X.w) X.A (f (.int i t) (.int j u)) Q E s) :
  OpR X f (rI0 λ i j=>.int (g i j)):=by
 intro pins s σ H x y v u Q I rx ry h;obtain ⟨i,j,rfl,rfl,q⟩:=h;obtain ⟨t,rfl⟩:=rx;obtain ⟨t',rfl⟩:=ry;exact rule i j t t' s _ _ ⟨.int (g i j),H,I.tok _,⟨_,rfl⟩,q⟩
theorem qmr {f:Value->Value->Sem Value} {g:Int->Int->Bool}
  (rule:∀ (i j:Int) (t u:Tok) (s:Shared) (Q:Value->Shared->Prop) (E:Value->Shared->Prop),Q (.bool (g i j)) s->wpAny (model X.prog X.w) X.A (f (.int i t) (.int j u)) Q E s) :
  OpR X f (rI0 λ i j=>.bl (g i j)):=by
 intro pins s σ H x y v u Q I rx ry h;obtain ⟨i,j,rfl,rfl,q⟩:=h;obtain ⟨t,rfl⟩:=rx;obtain ⟨t',rfl⟩:=ry;exact rule i j t t' s _ _ ⟨.bl (g i j),H,I,rfl,q⟩
def qms (i j:Int):Prop:=0 < j/\j < 1073741824
def qlx (i j:Int):Prop:=(-(2 ^ 64) < i/\i < 2 ^ 64)∨(-(2 ^ 64) < j/\j < 2 ^ 64)
theorem qlx.ok {i j:Int} (h:qlx i j):IntMulOk i j:=by
 rcases h with ⟨h1,h2⟩ | ⟨h1,h2⟩
 ·exact .of_left (intBits_le_64 h1 h2)
 ·exact .of_right (intBits_le_64 h1 h2)
theorem zS:OpR X (binaryOp .Add) (rI0 λ i j=>.int (i+j)):=qlw λ _ _ _ _ _ _ _ q=>add_int q
theorem qfX:OpR X (binaryOp .Sub) (rI0 λ i j=>.int (i - j)):=qlw λ _ _ _ _ _ _ _ q=>sub_int q
theorem qbq:OpR X (binaryOp .Mult) (rI qlx λ i j=>.int (i * j)):=opI λ _ _ _ _ _ _ _ hc q=>mul_int q hc.ok
theorem zP:OpR X (binaryOp .FloorDiv) (rI qms λ i j=>.int (i / j)):=opI λ i j _ _ _ _ _ hc q=>by
 have h1:(0:Int) < j:=hc.1;have h2:j < 1073741824:=hc.2;exact floordiv_int (by omega) (by rw [Int.fdiv_eq_ediv_of_nonneg i (by omega)];exact q) (.inl (PyProof.noPylong_small (by omega)))
theorem zh:OpR X (binaryOp .Mod) (rI (λ _ j=>0 < j) λ i j=>.int (i % j)):=opI λ i j _ _ _ _ _ hc q=>by
 have h1:(0:Int) < j:=hc;exact mod_int' (by omega) (by rw [Int.fmod_eq_emod_of_nonneg i (by omega)];exact q)
theorem qly:OpR X (binaryOp .BitAnd) (rI0 λ i j=>.int (Builtin.bitAnd i j)):=qlw λ _ _ _ _ _ _ _ q=>and_int q
theorem unI {f:Value->Sem Value} {g:Int->Int}
  (rule:∀ (i:Int) (t:Tok) (s:Shared) (Q:Value->Shared->Prop) (E:Value->Shared->Prop),Q (.int (g i) s.toks) { s with toks:=s.toks+1 }->wpAny (model X.prog X.w) X.A (f (.int i t)) Q E s) :
  UnR X f (rU λ i=>.int (g i)):=by
 intro pins s σ H x v Q I rx h;obtain ⟨i,rfl,q⟩:=h;obtain ⟨t,rfl⟩:=rx;exact rule i t s _ _ ⟨.int (g i),H,I.tok _,⟨_,rfl⟩,q⟩
theorem j7:UnR X (unaryOp .USub) (rU λ i=>.int (-i)):=unI λ _ _ _ _ _ q=>neg_int q
end
def qmt:V->V->Bool
 | .non,.non=>true | .non,.int _=>true | .int _,.non=>true | .non,.bl _=>true | .bl _,.non=>true | .non,.str _=>true | .str _,.non=>true
 | .int _,.int _=>true | .bl _,.bl _=>true | .str _,.str _=>true | .byt _,.byt _=>true
 | .int _,.str _=>true | .str _,.int _=>true | .bl _,.str _=>true | .str _,.bl _=>true
 | _,_=>false
def rEq:R2:=λ x y H Q=>qmt x y=true/\Q (.bl (decide (x=y))) H
def rNe:R2:=λ x y H Q=>qmt x y=true/\Q (.bl (!decide (x=y))) H
theorem qgP {i j:Int}:decide (V.int i=V.int j)=(i == j):=by
 rw [Bool.eq_iff_iff];simp
theorem qij {i j:Bool}:decide (V.bl i=V.bl j)=(i == j):=by
 rw [Bool.eq_iff_iff];simp
theorem qgQ {i j:Str}:decide (V.str i=V.str j)=(i == j):=by
 rw [Bool.eq_iff_iff];simp
theorem qgR {i j:Array UInt8}:decide (V.byt i=V.byt j)=(i.toList == j.toList):=by
 rw [Bool.eq_iff_iff];cases i
 cases j
 simp
section
variable {X:Cx} {a b c:Expr} {ta tb tc:TE} {pos:Pos}
theorem qX {pins:List (Addr×Obj)} {σ:St} {H:Hp} {s:Shared} {Q:VK} {k k':Bool} (I:Inv X pins σ H s) (q:Q (.bl k) H) (e:k=k'):EP X pins σ Q (.bool k') s:=by
 subst e;exact ⟨.bl k,H,I,rfl,q⟩
theorem zv:OpR X (compareOp .Eq) rEq:=by
 intro pins s σ H x y v u Q I rx ry h;obtain ⟨hs,q⟩:=h;cases x with
 | non =>
  cases rx
  cases y with
  | non=>cases ry;exact PySem.EqNone.eq_none_none (qX I q (by simp))
  | bl j=>cases ry;exact PySem.EqNone.eq_none_bool (qX I q (by simp))
  | int j=>obtain ⟨t',rfl⟩:=ry;exact PySem.EqNone.eq_none_int (qX I q (by simp))
  | str j=>obtain ⟨t',rfl⟩:=ry;exact PySem.EqNone.eq_none_str (qX I q (by simp))
  | _=>exact absurd (show false=true from hs) Bool.false_ne_true
 | bl i =>
  cases rx
  cases y with
  | non=>cases ry;exact PySem.EqNone.eq_bool_none (qX I q (by simp))
  | bl j=>cases ry;exact eq_bool (qX I q qij)
  | str j=>obtain ⟨t',rfl⟩:=ry;exact PySem.EqMixed.eq_bool_str (qX I q (by simp))
  | _=>exact absurd (show false=true from hs) Bool.false_ne_true
 | int i =>
  obtain ⟨t,rfl⟩:=rx;cases y with
  | non=>cases ry;exact PySem.EqNone.eq_int_none (qX I q (by simp))
  | int j=>obtain ⟨t',rfl⟩:=ry;exact eq_int (qX I q qgP)
  | str j=>obtain ⟨t',rfl⟩:=ry;exact PySem.EqMixed.eq_int_str (qX I q (by simp))
  | _=>exact absurd (show false=true from hs) Bool.false_ne_true
 | str i =>
  obtain ⟨t,rfl⟩:=rx;cases y with
  | non=>cases ry;exact PySem.EqNone.eq_str_none (qX I q (by simp))
  | bl j=>cases ry;exact PySem.EqMixed.eq_str_bool (qX I q (by simp))
  | int j=>obtain ⟨t',rfl⟩:=ry;exact PySem.EqMixed.eq_str_int (qX I q (by simp))
  | str j=>obtain ⟨t',rfl⟩:=ry;exact eq_str (qX I q qgQ)
  | _=>exact absurd (show false=true from hs) Bool.false_ne_true
 | byt i =>
  obtain ⟨t,rfl⟩:=rx;cases y with
  | byt j=>obtain ⟨t',rfl⟩:=ry;exact W.eq_bytes (qX I q qgR)
  | _=>exact absurd (show false=true from hs) Bool.false_ne_true
 | _=>cases y <;> exact absurd (show false=true from hs) Bool.false_ne_true
theorem qeR:OpR X (compareOp .NotEq) rNe:=by
 intro pins s σ H x y v u Q I rx ry h;obtain ⟨hs,q⟩:=h;cases x with
 | non =>
  cases rx
  cases y with
  | non=>cases ry;exact PySem.EqNone.ne_none_none (qX I q (by simp))
  | bl j=>cases ry;exact PySem.EqNone.ne_none_bool (qX I q (by simp))
  | int j=>obtain ⟨t',rfl⟩:=ry;exact PySem.EqNone.ne_none_int (qX I q (by simp))
  | str j=>obtain ⟨t',rfl⟩:=ry;exact PySem.EqNone.ne_none_str (qX I q (by simp))
  | _=>exact absurd (show false=true from hs) Bool.false_ne_true
 | bl i =>
  cases rx
  cases y with
  | non=>cases ry;exact PySem.EqNone.ne_bool_none (qX I q (by simp))
  | bl j=>cases ry;exact ne_bool (qX I q (congrArg not qij))
  | str j=>obtain ⟨t',rfl⟩:=ry;exact PySem.EqMixed.ne_bool_str (qX I q (by simp))
  | _=>exact absurd (show false=true from hs) Bool.false_ne_true
 | int i =>
  obtain ⟨t,rfl⟩:=rx;cases y with
  | non=>cases ry;exact PySem.EqNone.ne_int_none (qX I q (by simp))
  | int j=>obtain ⟨t',rfl⟩:=ry;exact ne_int (qX I q (congrArg not qgP))
  | str j=>obtain ⟨t',rfl⟩:=ry;exact PySem.EqMixed.ne_int_str (qX I q (by simp))
  | _=>exact absurd (show false=true from hs) Bool.false_ne_true
 | str i =>
  obtain ⟨t,rfl⟩:=rx;cases y with
  | non=>cases ry;exact PySem.EqNone.ne_str_none (qX I q (by simp))
  | bl j=>cases ry;exact PySem.EqMixed.ne_str_bool (qX I q (by simp))
  | int j=>obtain ⟨t',rfl⟩:=ry;exact PySem.EqMixed.ne_str_int (qX I q (by simp))
  | str j=>obtain ⟨t',rfl⟩:=ry;exact ne_str (qX I q (congrArg not qgQ))
  | _=>exact absurd (show false=true from hs) Bool.false_ne_true
 | byt i =>
  obtain ⟨t,rfl⟩:=rx;cases y with
  | byt j=>obtain ⟨t',rfl⟩:=ry;exact W.ne_bytes (qX I q (congrArg not qgR))
  | _=>exact absurd (show false=true from hs) Bool.false_ne_true
 | _=>cases y <;> exact absurd (show false=true from hs) Bool.false_ne_true
theorem qmu:OpR X (compareOp .Lt) (rI0 λ i j=>.bl (decide (i < j))):=qmr λ _ _ _ _ _ _ _ q=>lt_int q
theorem qaX:OpR X (compareOp .Gt) (rI0 λ i j=>.bl (decide (j < i))):=qmr λ _ _ _ _ _ _ _ q=>gt_int q
theorem qhs:OpR X (compareOp .In) (λ x y H Q=>∃ i j,x=.str i/\y=.str j/\Q (.bl (!(Builtin.Str.occurrences j i 0 j.length 1).isEmpty)) H):=by
 intro pins s σ H x y v u Q I rx ry h;obtain ⟨i,j,rfl,rfl,q⟩:=h;obtain ⟨t,rfl⟩:=rx;obtain ⟨t',rfl⟩:=ry;exact in_str (qX I q rfl)
theorem qik:OpR X (compareOp .Is) (λ x y H Q=>y=.non/\Q (.bl (decide (x=.non))) H):=by
 intro pins s σ H x y v u Q I rx ry h;obtain ⟨rfl,q⟩:=h;cases ry
 refine is_none_gen (qX I q ?_);cases x <;> first
  | (cases rx;rfl)
  | (obtain ⟨t,rfl⟩:=rx;rfl)
theorem qB (b:Expr) {op:CmpOp} (h:op≠.In:=by decide) (h2:op≠.NotIn:=by decide):behindInMarks op b=false:=by
 have e1:(op == CmpOp.In)=false:=by cases op <;> first | rfl | exact absurd rfl h
 have e2:(op == CmpOp.NotIn)=false:=by cases op <;> first | rfl | exact absurd rfl h2
 cases b <;> simp [behindInMarks,e1,e2]
theorem j8 {op:CmpOp} {r:R2} (ho:OpR X (compareOp op) r) (ha:PE X a ta) (hb:PE X b tb) (hm:behindInMarks op b=false):PE X (.Compare a [op] [b] pos) (tOp r ta tb):=by
 intro pins s σ H Q I h;exact wpAny_Compare1 (qlv ha hb I h λ v u s2 x y H2 I2 rx ry q=>ho pins s2 σ H2 x y v u Q I2 rx ry q) hm
def qil (t:TE):TT:=λ σ H Q=>t σ H λ x H'=>∃ k,x=.bl k/\Q k H'
theorem qp {op:CmpOp} {r:R2} (ho:OpR X (compareOp op) r) (ha:PE X a ta) (hb:PE X b tb) (hm:behindInMarks op b=false):PT X (.Compare a [op] [b] pos) (qil (tOp r ta tb)):=by
 intro pins s σ H Q I h;refine wpAny_isTrue_Compare1 (thn (ha pins s σ H _ I h) λ v s1 ⟨x,H1,I1,r1,q1⟩=>thn (hb pins s1 σ H1 _ I1 q1) λ u s2 ⟨y,H2,I2,r2,q2⟩ =>
  thn (ho pins s2 σ H2 x y v u _ I2 r1 r2 q2) λ c s3 ⟨z,H3,I3,r3,k,e,q3⟩=>?_) hm
 subst e;cases r3
 exact wpAny_truthy_bool ⟨H3,I3,q3⟩
theorem vU:(sizeLine:Nat) < 2 ^ 63:=by rw [sizeLine_eq];decide
theorem qcj:OpR X (binaryOp .Add) (λ x y H Q=>∃ i j,x=.str i/\y=.str j/\i.length+j.length<=sizeLine/\Q (.str (i++j)) H):=by
 intro pins s σ H x y v u Q I rx ry h;obtain ⟨i,j,rfl,rfl,hz,q⟩:=h;obtain ⟨t,rfl⟩:=rx;obtain ⟨t',rfl⟩:=ry;exact add_str (λ t' tk=>⟨.str (i++j),H,I.tok _,⟨_,rfl⟩,q⟩) hz
theorem yr {x:V} {us:List Value} (r:qN [x] us):∃ u,us=[u]/\qV x u:=by
 cases r with
 | cons r1 r2=>cases r2;exact ⟨_,rfl,r1⟩
theorem qgS {x y:V} {us:List Value} (r:qN [x,y] us):∃ u w',us=[u,w']/\qV x u/\qV y w':=by
 cases r with
 | cons r1 r2 =>
  cases r2 with
  | cons r3 r4=>cases r4;exact ⟨_,_,rfl,r1,r3⟩
theorem qht (hc:X.calm=true):jh X (.builtin "min") (λ xs H Q=>∃ i j,xs=[.int i,.int j]/\Q (.int (if j < i then j else i)) H):=by
 intro pins s σ H xs us Q I r h;obtain ⟨i,j,rfl,q⟩:=h;obtain ⟨u,w',rfl,⟨t,rfl⟩,⟨t',rfl⟩⟩:=qgS r;refine min_two_ints (I.ok.hd hc) λ h' tk k=>⟨_,H,I.kept k,?_,q⟩
 by_cases hj:j < i
 ·rw [if_pos hj,if_pos hj];exact ⟨_,rfl⟩
 ·rw [if_neg hj,if_neg hj];exact ⟨_,rfl⟩
theorem qhu:jh X (.type "int") (λ xs H Q=>(∃ i,xs=[.int i]/\Q (.int i) H)∨∃ k,xs=[.bl k]/\Q (.int (if k then 1 else 0)) H):=by
 intro pins s σ H xs us Q I r h;rcases h with ⟨i,rfl,q⟩ | ⟨k,rfl,q⟩
 ·obtain ⟨u,rfl,t,rfl⟩:=yr r;exact call_int_int ⟨.int i,H,I,⟨_,rfl⟩,q⟩
 ·obtain ⟨u,rfl,r1⟩:=yr r;cases r1
  exact call_int_bool ⟨.int (if k then 1 else 0),H,I.tok _,⟨_,rfl⟩,q⟩
end
structure ObjM (h:Heap) (x dx C:Addr) (mA:Str->Option Value):Prop where
 obj:h.get? x=some (W.instObj C dx)
 ns:h.Ns1 dx mA
 ne:dx≠x
theorem qhv {h:Heap} {dx:Addr} {mA:Str->Option Value} (n:h.Ns1 dx mA):∃ od,h.get? dx=some od/\∀ name,W.lookIn name od=some (mA name):=by
 obtain ⟨o,es,ep,ho,hd,hk,_,hm⟩:=n;refine ⟨o,ho,λ name=>?_⟩;have e:=hm name;unfold nsFind findBy at e;rw [<- Array.find?_toList] at e;unfold W.lookIn;rw [hd];dsimp only;split
 ·rename_i y q;rw [q] at e;exact congrArg some e
 ·rename_i q;rw [q] at e;have a:es.toList.any (·.refKey)=false:=by
   rw [List.any_eq_false];intro y hy;obtain ⟨z,t,hkey⟩:=hk y (Array.mem_toList_iff.mp hy);simp [DictEntry.refKey,hkey]
  have a':¬ es.toList.any (·.refKey)=true:=by rw [a];exact Bool.false_ne_true
  rw [if_neg a'];exact congrArg some e
theorem ObjM.look {h:Heap} {x dx C:Addr} {mA:Str->Option Value} (I:ObjM h x dx C mA):∃ od,PySem.W.InstAt h x (W.instObj C dx) C (some od)/\∀ name,W.lookIn name od=some (mA name) :=
 let ⟨od,ho,hl⟩:=qhv I.ns
 ⟨od,⟨I.obj,rfl,rfl,ho⟩,hl⟩
section
variable {prog:Program} {w:World} {A:Around} {E:Value->Shared->Prop} {s:Shared} {K:PySem.W.Frag} {x dx C f:Addr} {mA:Str->Option Value} {name:Str} {v:Value}
theorem qj5 {expr:Bool} {Q:Value->Shared->Prop} (X:K.In s.heap) (I:ObjM s.heap x dx C mA) (hg:W.plainGet K C name=true) (hh:W.hasDictIn K C=true)
  (ha:W.findIn K (.ref C) name=some none) (hv:mA name=some v) (hv':W.handedIn v=true) (h:Q v { s with toks:=s.toks+1 }) :
  wpAny (model prog w) A (getAttr (.ref x) name expr) Q E s:=by
 obtain ⟨od,J,hl⟩:=I.look;exact W.get_value X J (W.plainGet_of hg).1 (W.findObj_own hh ha rfl (by rw [hl,hv])) hv' h
theorem qim {pl:Sem Bool} {Q:Value×List Value->Shared->Prop} (X:K.In s.heap) (I:ObjM s.heap x dx C mA) (hg:W.plainGet K C name=true)
  (hf:W.findIn K (.ref C) name=some (some (.ref f))) (ht:W.isFn K (.ref f)=true) (hv:mA name=none) (h:Q (.ref f,[.ref x]) s) :
  wpAny (model prog w) A (getMethod (.ref x) name pl) Q E s:=by
 obtain ⟨od,J,hl⟩:=I.look;exact W.method_fn X J (W.plainGet_of hg).1 (W.plainGet_of hg).2 hf (beq_iff_eq.mp ht) (by show (W.lookIn name od).map (·.isSome)=some false;rw [hl,hv];rfl) h
theorem qj6 {ns:List Str} {Q:Unit->Shared->Prop} (X:K.In s.heap) (I:ObjM s.heap x dx C mA)
  (hs:W.findIn K (.ref C) "__setattr__"=some (some (.builtin "object.__setattr__"))) (hp:W.plainOver K C=true) (ht:W.takerIn K C name=some none) (hh:W.hasDictIn K C=true)
  (hw:PySem.Within mA ns) (hsz:ns.length<=sizeLine)
  (h:∀ h',ObjM h' x dx C (λ y=>if y=name then some v else mA y)->Heap.SameBut dx s.heap h'->Q () { s with heap:=h',toks:=s.toks+2 }) :
  wpAny (model prog w) A (setAttr (.ref x) name v) Q E s:=by
 obtain ⟨od,J,hl⟩:=I.look;refine W.set_plain X J hs (W.osa_open (s:={ s with toks:=s.toks+1 }) (r:=none) X J hp ht λ b=>?_);obtain ⟨cd,hc,hd'⟩:=W.any_some hh;have hx:s.heap.get? x=some ⟨.ref C,some dx,.plain,#[]⟩:=I.obj;refine Xf (Xg (Xf (Xf (wpAny_loadPart hx (Xf (PySem.W.Looks.here (s:={ s with toks:=s.toks+1 }) (W.looks_clsIn X hc) ?_))))));rw [hd'];refine Xg (a:=some dx) (Xf (Xg (Xf ?_)));refine wpAny_nsSet1 (s:={ s with toks:=s.toks+1 }) I.ns λ h' hn2 hs2=>?_
 obtain ⟨oD,esD,epD,hoD,hdD,hcD⟩:=hn2.count (PySem.Within.cons name v hw);refine Xf (wpAny_lookBehind hoD (by rw [hdD];exact pastItsLine_dict (Nat.le_trans hcD (by rw [Xt];omega))) ?_);exact Xg (h _ ⟨(hs2.2 _ (Ne.symm I.ne)).trans I.obj,hn2,I.ne⟩ hs2)
theorem qin {R:Result->Shared->Prop} {vs:List Value} {kw:List (Str×Value)} (X:K.In s.heap) (hm:W.makesIn K C=true)
  (hi:W.findIn K (.ref C) "__init__"=some (some (.ref f))) (hf:W.typeIn K (.ref f)=some (.type "function"))
  (h:codeAny (model prog w) (A.under (.builtin "type.__call__" ⟨.ref C::vs,kw⟩)) (.call (.ref f) ⟨.ref (s.heap.objs.size+1)::vs,kw⟩) (PySem.W.InitBack (s.heap.objs.size+1) R)
   { s with heap:=(s.heap.push W.emptyDict).push (W.instObj C s.heap.objs.size) }) :
  codeAny (model prog w) A (.call (.ref C) ⟨vs,kw⟩) R s:=by
 obtain ⟨hh,g,d,t,os⟩:=s;exact W.make_core (W.makes_of X hm) (W.looks_findIn X hi) (λ self=>W.bind_fn X self hf) (.inl rfl) h
theorem qhw {R:Result->Shared->Prop} (X:K.In s.heap) (hm:W.makesIn K C=true)
  (hi:W.findIn K (.ref C) "__init__"=some (some (.builtin "object.__init__")))
  (hb:∀ self,PySem.W.Looks (model prog w) s.heap (bindSpecial (.builtin "object.__init__") self) (.builtin "object.__init__",[self]))
  (h:codeAny (model prog w) (A.under (.builtin "type.__call__" ⟨[.ref C],[]⟩)) (.call (.builtin "object.__init__") ⟨[.ref (s.heap.objs.size+1)],[]⟩) (PySem.W.InitBack (s.heap.objs.size+1) R)
   { s with heap:=(s.heap.push W.emptyDict).push (W.instObj C s.heap.objs.size) }) :
  codeAny (model prog w) A (.call (.ref C) ⟨[],[]⟩) R s:=by
 obtain ⟨hh,g,d,t,os⟩:=s;exact W.make_core (W.makes_of X hm) (W.looks_findIn X hi) hb (.inr ⟨rfl,rfl⟩) h
end
def qav (f:Str) (v:V):List (Str×V)->List (Str×V)
 | []=>[(f,v)]
 | (g,x)::r=>if g=f then (g,v)::r else (g,x)::qav f v r
theorem qbE (f g:Str) (v:V):∀ fs:List (Str×V),(qav f v fs).lookup g=if g=f then some v else fs.lookup g
 | []=>by
  show List.lookup g [(f,v)]=_
  by_cases h:g=f
  ·have hb:(g == f)=true:=beq_iff_eq.mpr h;simp only [List.lookup,hb,if_pos h]
  ·have hb:(g == f)=false:=beq_eq_false_iff_ne.mpr h;simp only [List.lookup,hb,if_neg h]
 | (k,x)::r=>by
  have ih:=qbE f g v r;rw [show qav f v ((k,x)::r)=(if k=f then (k,v)::r else (k,x)::qav f v r) from rfl];by_cases hk:k=f
  ·rw [if_pos hk];by_cases h:g=k
   ·have hb:(g == k)=true:=beq_iff_eq.mpr h;simp only [List.lookup,hb,if_pos (h.trans hk)]
   ·have hb:(g == k)=false:=beq_eq_false_iff_ne.mpr h;simp only [List.lookup,hb,if_neg (λ e:g=f=>h (e.trans hk.symm))]
  ·rw [if_neg hk];by_cases h:g=k
   ·have hb:(g == k)=true:=beq_iff_eq.mpr h;simp only [List.lookup,hb,if_neg (λ e:g=f=>hk (h.symm.trans e))]
   ·have hb:(g == k)=false:=beq_eq_false_iff_ne.mpr h;simp only [List.lookup,hb];exact ih
theorem qbr (f:Str) (v:V):∀ fs:List (Str×V),f∈(qav f v fs).map (·.1)/\∀ g,g∈fs.map (·.1)->g∈(qav f v fs).map (·.1)
 | []=>⟨by simp [qav],λ g h=>by simp at h⟩
 | (k,x)::r=>by
  obtain ⟨i1,i2⟩:=qbr f v r;rw [show qav f v ((k,x)::r)=(if k=f then (k,v)::r else (k,x)::qav f v r) from rfl];by_cases hk:k=f
  ·rw [if_pos hk];subst hk;exact ⟨by simp,λ g h=>by simpa using h⟩
  ·rw [if_neg hk];refine ⟨?_,λ g h=>?_⟩
   ·rw [List.map_cons];exact Xn _ i1
   ·rw [List.map_cons] at h ⊢;rcases List.mem_cons.mp h with e | e
    ·exact List.mem_cons.mpr (.inl e)
    ·exact Xn _ (i2 g e)
theorem qbF (f:Str) (v:V):∀ fs:List (Str×V),(qav f v fs).length<=fs.length+1
 | []=>by simp [qav]
 | (k,x)::r=>by
  have ih:=qbF f v r;rw [show qav f v ((k,x)::r)=(if k=f then (k,v)::r else (k,x)::qav f v r) from rfl];by_cases hk:k=f
  ·rw [if_pos hk,Xt,Xt];omega
  ·rw [if_neg hk,Xt,Xt];omega
theorem qau.some_of {v:V} {o:Option Value} (r:qau (some v) o):∃ u,o=some u/\qV v u:=by
 cases o with
 | none=>exact (show False from r).elim
 | some u=>exact ⟨u,rfl,r⟩
theorem qau.none_of {o:Option Value} (r:qau none o):o=none:=by
 cases o with
 | none=>rfl
 | some u=>exact (show False from r).elim
theorem qhx {v:V} {u:Value} (r:qV v u):W.handedIn u=true:=by
 cases v with
 | non=>cases (show u=Value.none from r);rfl
 | bl b=>cases (show u=Value.bool b from r);rfl
 | int i=>obtain ⟨t,e⟩:=(show ∃ t,u=Value.int i t from r);cases e;rfl
 | str x=>obtain ⟨t,e⟩:=(show ∃ t,u=Value.str x t from r);cases e;rfl
 | byt b=>obtain ⟨t,e⟩:=(show ∃ t,u=Value.bytes b t from r);cases e;rfl
 | flt b=>obtain ⟨t,e⟩:=(show ∃ t,u=Value.float b t from r);cases e;rfl
 | ref a=>cases (show u=Value.ref a from r);rfl
 | ty n=>cases (show u=Value.type n from r);rfl
section
variable {P:Program} {w:World} {H H':Hp} {h h':Heap} {a C dx:Addr} {fs fs':List (Str×V)}
theorem qbY (hok:HOk P w H h) (e:H a=some (.ins C dx fs)):∃ mA,ObjM h a dx C mA/\(∀ f,qau (fs.lookup f) (mA f))/\PySem.Within mA (fs.map (·.1))/\fs.length<=1000/\H dx=some (.own a):=by
 obtain ⟨d,z,ne,ob,mA,n,r,q⟩:=(show zy P w H h a (.ins C dx fs) from hok a _ e);exact ⟨mA,⟨ob,n,ne⟩,r,q,z,d⟩
end
structure Cls (K:PySem.W.Frag) (C:Addr):Prop where
 pg:W.plainGet K C Str.empty=true
 hd:W.hasDictIn K C=true
 po:W.plainOver K C=true
 sa:W.findIn K (.ref C) "__setattr__"=some (some (.builtin "object.__setattr__"))
theorem Cls.get {K:PySem.W.Frag} {C:Addr} (c:Cls K C) (f:Str):W.plainGet K C f=true:=c.pg
def qY (K:PySem.W.Frag) (C:Addr) (f:Str):Prop:=W.findIn K (.ref C) f=some none
theorem qY.taker {K:PySem.W.Frag} {C:Addr} {f:Str} (n:qY K C f):W.takerIn K C f=some none:=by
 unfold W.takerIn;rw [show W.findIn K (.ref C) f=some none from n];rfl
structure Meth (K:PySem.W.Frag) (C:Addr) (m:Str) (f:Addr):Prop where
 at_:W.findIn K (.ref C) m=some (some (.ref f))
 fn:W.isFn K (.ref f)=true
 kp:W.keepIn K (.ref f)=true
section
variable {X:Cx} {pins:List (Addr×Obj)} {σ:St} {H:Hp} {s:Shared} {a C dx:Addr} {fs:List (Str×V)} {f:Str} {v:V} {A:Around} {E:Value->Shared->Prop}
theorem qfY {b:Bool} {Q:Value->Shared->Prop} (I:Inv X pins σ H s) (e:H a=some (.ins C dx fs)) (c:Cls X.K C) (n:qY X.K C f) (l:fs.lookup f=some v)
  (h:∀ u s',Inv X pins σ H s'->qV v u->Q u s'):wpAny (model X.prog X.w) A (getAttr (.ref a) f b) Q E s:=by
 obtain ⟨mA,O,r,_,_,_⟩:=qbY I.hok e;obtain ⟨u,hu,ru⟩:=qau.some_of (v:=v) (o:=mA f) (by rw [<- l];exact r f);exact qj5 I.kIn O (c.get f) c.hd n hu (qhx ru) (h u _ (I.tok _) ru)
theorem qfZ {m:Str} {g:Addr} {pl:Sem Bool} {Q:Value×List Value->Shared->Prop} (I:Inv X pins σ H s) (e:H a=some (.ins C dx fs)) (c:Cls X.K C) (k:Meth X.K C m g) (l:fs.lookup m=none)
  (h:Q (.ref g,[.ref a]) s):wpAny (model X.prog X.w) A (getMethod (.ref a) m pl) Q E s:=by
 obtain ⟨mA,O,r,_,_,_⟩:=qbY I.hok e;have hn:mA m=none:=qau.none_of (by rw [<- l];exact r m);exact qim I.kIn O (c.get m) k.at_ k.fn hn h
theorem qf0 {y:V} {u:Value} {Q:Unit->Shared->Prop} (I:Inv X pins σ H s) (e:H a=some (.ins C dx fs)) (c:Cls X.K C) (n:qY X.K C f) (hl:fs.length < 1000) (ry:qV y u)
  (h:∀ s',Inv X pins σ (upd H a (.ins C dx (qav f y fs))) s'->Q () s'):wpAny (model X.prog X.w) A (setAttr (.ref a) f u) Q E s:=by
 obtain ⟨mA,O,r,wi,_,ho⟩:=qbY I.hok e;have hz:(fs.map (·.1)).length<=sizeLine:=by rw [Xa,sizeLine_eq];omega
 refine qj6 I.kIn O c.sa c.po n.taker c.hd wi hz λ h' O' sb=>h _ ?_
 have hd:∃ o,h'.get? dx=some o:=let ⟨o,_,_,e',_⟩:=O'.ns;⟨o,e'⟩;refine I.write (x:=a) (e:=dx) (by rw [e];exact True.intro) (.inr ho) (λ b q hb z=>(sb.2 b hb).trans z) hd ?_;refine ⟨by rw [qx O.ne];exact ho,?_,O.ne,O'.obj,_,O'.ns,λ g=>?_,λ g hg=>?_⟩
 ·have:=qbF f y fs;omega
 ·show qau ((qav f y fs).lookup g) (if g=f then some u else mA g)
  rw [qbE];by_cases q:g=f
  ·rw [if_pos q,if_pos q];exact ry
  ·rw [if_neg q,if_neg q];exact r g
 ·by_cases q:g=f
  ·rw [q];exact (qbr f y fs).1
  ·refine (qbr f y fs).2 g (wi g λ z=>hg ?_);show (if g=f then some u else mA g)=none
   rw [if_neg q];exact z
theorem Inv.made (I:Inv X pins σ H s):Inv X pins σ (upd (upd H s.heap.objs.size (.own (s.heap.objs.size+1))) (s.heap.objs.size+1) (.ins C s.heap.objs.size []))
  { s with heap:=(s.heap.push W.emptyDict).push (W.instObj C s.heap.objs.size) }:=by
 have e1:(s.heap.push W.emptyDict).get? s.heap.objs.size=some W.emptyDict:=Xk s.heap rfl;have e2:((s.heap.push W.emptyDict).push (W.instObj C s.heap.objs.size)).get? (s.heap.objs.size+1)=some (W.instObj C s.heap.objs.size):=by
  have:=Xk (s.heap.push W.emptyDict) (o:=W.instObj C s.heap.objs.size) rfl
  rwa [Heap.size_push] at this
 have e3:(s.heap.push W.emptyDict).Ns s.heap.objs.size (λ _=>none):=⟨W.emptyDict,#[],_,e1,rfl,(λ e he=>absurd he (by simp)),λ _=>rfl⟩;have I1:=I.laid (a:=s.heap.objs.size) (o:=.own (s.heap.objs.size+1)) (h':=s.heap.push W.emptyDict) (t':=s.toks) (λ b u q=>Xc _ q) (Xe _) ⟨_,e1⟩;refine I1.laid (a:=s.heap.objs.size+1) (o:=.ins C s.heap.objs.size []) (t':=s.toks) (λ b u q=>Xc _ q) (Nat.le_of_eq (Heap.size_push _ _)) ?_;have ne:s.heap.objs.size≠s.heap.objs.size+1:=Xo (Nat.lt_succ_self _);refine ⟨by rw [qx ne,qe],Nat.zero_le _,ne,e2,λ _=>none,(Heap.Ns1.of_empty e3).at λ o q=>Xc _ q,λ _=>True.intro,λ y hy=>absurd rfl hy⟩
theorem qj7 {prog:Program} {w:World} {env:Env} {e:Expr} {f:Str} {pos:Pos} {s:Shared} {Q:Value->Shared->Prop} (hb:attributeBase e f env (eval e env)=eval e env)
  (h:wpAny (model prog w) A (eval e env) (λ o s₁=>wpAny (model prog w) A (getAttr o f true) Q E s₁) E s):wpAny (model prog w) A (eval (.Attribute e f pos) env) Q E s :=
 Attribute_any_ h (by rw [arm_eval_Attribute,hb])
end
def qmv (K:PySem.W.Frag) (ta:TE) (f:Str):TE:=λ σ H Q=>ta σ H λ x H1=>∃ a C dx fs v,x=.ref a/\H1 a=some (.ins C dx fs)/\Cls K C/\qY K C f/\fs.lookup f=some v/\Q v H1
def qnr (K:PySem.W.Frag) (ta tv:TE) (f:Str):TS:=λ D σ H=>tv σ H λ y H1=>ta σ H1 λ x H2=>∃ a C dx fs,x=.ref a/\H2 a=some (.ins C dx fs)/\Cls K C/\qY K C f/\fs.length < 1000 /\
 D.nx σ (upd H2 a (.ins C dx (qav f y fs)))
section
variable {X:Cx} {o e value:Expr} {f:Str} {pos pos' tpos:Pos} {ta tv:TE}
theorem zi (he:PE X e ta) (hb:attributeBase e f X.env (eval e X.env)=eval e X.env):PE X (.Attribute e f pos) (qmv X.K ta f):=by
 intro pins s σ H Q I h;refine qj7 hb (thn (he pins s σ H _ I h) λ u s1 ⟨x,H1,I1,rx,a,C,dx,fs,v,ex,ea,c,n,l,q⟩=>?_);subst ex;obtain rfl:u=Value.ref a:=rx;exact qfY I1 ea c n l λ u' s2 I2 ru=>⟨v,H1,I2,ru,q⟩
theorem j9 (ha:PE X o ta) (hv:PE X value tv) (hs:swapsWith value (some (.Attribute o f pos')) pos.line X.env=pure false):PS X (.Assign [.Attribute o f pos'] value pos) (qnr X.K ta tv f):=by
 intro pins s σ H D I h;refine plainObj_wpAny_Assign_Attribute (thn (hv pins s σ H _ I h) λ u s1 ⟨y,H1,I1,ry,q⟩=>thn (ha pins s1 σ H1 _ I1 q) λ ov s2 ⟨x,H2,I2,rx,a,C,dx,fs,ex,ea,c,n,l,q2⟩=>?_) hs;subst ex;obtain rfl:ov=Value.ref a:=rx;exact qf0 I2 ea c n l ry λ s3 I3=>⟨σ,_,I3,q2⟩
end
section
variable {X:Cx} {pins:List (Addr×Obj)} {σ:St} {H:Hp} {s:Shared} {A:Around} {E:Value->Shared->Prop} {Q:Value->Shared->Prop} {c:Value} {b:Bool}
inductive TyOf (K:PySem.W.Frag) (H:Hp):V->Value->Prop where
 | non:TyOf K H .non (.type "NoneType")
 | bl (x:Bool):TyOf K H (.bl x) (.type "bool")
 | int (i:Int):TyOf K H (.int i) (.type "int")
 | str (x:Str):TyOf K H (.str x) (.type "str")
 | flt (x:UInt64):TyOf K H (.flt x) (.type "float")
 | lst {a:Addr} {xs:List V} (e:H a=some (.lst xs)):TyOf K H (.ref a) (.type "list")
 | frz {a:Addr} {o:Obj} {xs:List V} (e:H a=some (.frz o (.lst xs))):TyOf K H (.ref a) (.type "list")
 | tup {a:Addr} {xs:List V} (e:H a=some (.tup xs)):TyOf K H (.ref a) (.type "tuple")
 | dK {a:Addr} {kvs:List (Key×V)} (e:H a=some (.dK kvs)):TyOf K H (.ref a) (.type "dict")
 | dT {a:Addr} {kvs:List (List Key×V)} (e:H a=some (.dT kvs)):TyOf K H (.ref a) (.type "dict")
 | ins {a C dx:Addr} {fs:List (Str×V)} (e:H a=some (.ins C dx fs)) (cl:Cls K C) (ha:W.findIn K (.ref C) "__class__"=some (some (.builtin "object.__class__")))
   (hn:W.specialIn K (.builtin "object.__class__") "__get__"=some (some (.builtin "getset_descriptor.__get__"))) (htk:W.takesIn K (.builtin "object.__class__")=some true)
   (hm:W.mroIn K C (.type "object")=some true):TyOf K H (.ref a) (.ref C)
theorem qhy {x:V} {u t:Value} (I:Inv X pins σ H s) (rx:qV x u) (ty:TyOf X.K H x t) (e:W.kitOne X.K t c=some b) (h:∀ tk,Q (.bool b) { s with toks:=tk }) :
  wpAny (model X.prog X.w) A (call (.builtin "isinstance") [u,c]) Q E s:=by
 cases ty with
 | non=>cases (show u=Value.none from rx);exact W.kia_one W.kitx_none I.kIn True.intro e (λ z=>nomatch z) h
 | bl y=>cases (show u=Value.bool y from rx);exact W.kia_one W.kitx_bool I.kIn True.intro e (λ z=>nomatch z) h
 | int i=>obtain ⟨t,q⟩:=(show ∃ t,u=Value.int i t from rx);cases q;exact W.kia_one W.kitx_int I.kIn True.intro e (λ z=>nomatch z) h
 | str y=>obtain ⟨t,q⟩:=(show ∃ t,u=Value.str y t from rx);cases q;exact W.kia_one W.kitx_str I.kIn True.intro e (λ z=>nomatch z) h
 | flt y=>obtain ⟨t,q⟩:=(show ∃ t,u=Value.float y t from rx);cases q;exact W.kia_one W.kitx_float I.kIn True.intro e (λ z=>nomatch z) h
 | @lst a xs ea =>
  cases (show u=Value.ref a from rx)
  obtain ⟨_,_,n,_,h1⟩:=(show zy X.prog X.w H s.heap a (.lst xs) from I.hok a _ ea);exact W.kia_one W.kitx_list I.kIn ⟨_,h1,rfl⟩ e (λ z=>nomatch z) h
 | @frz a ob xs ea =>
  cases (show u=Value.ref a from rx)
  obtain ⟨_,_,_,n,_,h1⟩:=(show zy X.prog X.w H s.heap a (.frz ob (.lst xs)) from I.hok a _ ea);exact W.kia_one W.kitx_list I.kIn ⟨_,h1,rfl⟩ e (λ z=>nomatch z) h
 | @tup a xs ea =>
  cases (show u=Value.ref a from rx)
  obtain ⟨_,_,_,p⟩:=(show zy X.prog X.w H s.heap a (.tup xs) from I.hok a _ ea);obtain ⟨o,h1,h2,_⟩:=p;exact W.kia_one W.kitx_tuple I.kIn ⟨o,h1,h2⟩ e (λ z=>nomatch z) h
 | @dK a kvs ea =>
  cases (show u=Value.ref a from rx)
  obtain ⟨_,_,vs,_,p⟩:=(show zy X.prog X.w H s.heap a (.dK kvs) from I.hok a _ ea);obtain ⟨o,es,ep,h1,h2,_⟩:=p;exact W.kia_one W.kitx_dict I.kIn ⟨o,h1,h2.1⟩ e (λ z=>nomatch z) h
 | @dT a kvs ea =>
  cases (show u=Value.ref a from rx)
  obtain ⟨_,_,xs,_,o,es,ep,h1,h2,_⟩:=(show zy X.prog X.w H s.heap a (.dT kvs) from I.hok a _ ea);exact W.kia_one W.kitx_dict I.kIn ⟨o,h1,h2.1⟩ e (λ z=>nomatch z) h
 | @ins a C dx fs ea cl ha hn htk hm =>
  cases (show u=Value.ref a from rx)
  obtain ⟨mA,O,_⟩:=qbY I.hok ea;obtain ⟨od,J,_⟩:=O.look;exact W.kia_one (W.kitx_own (cl.get _) cl.hd ha hn htk hm) I.kIn J e (λ z=>nomatch z) h
end
structure Room (k:Nat) (A:Around):Prop where
 hd:A.handled=none
 dp:A.depth+3 * k+5 < recursionLimit
 un:A.units+16 * k+200 < cLine
theorem Room.mono {j k:Nat} {A:Around} (r:Room k A) (h:j<=k):Room j A:=⟨r.hd,by have:=r.dp;omega,by have:=r.un;omega⟩
theorem Room.deeper {k:Nat} {A:Around} (r:Room (k+1) A) (env:Env):Room k (A.deeper env) :=
 ⟨r.hd,by have:=r.dp;show A.depth+1+3 * k+5 < _;omega,by have:=r.un;show A.units+3+16 * k+200 < _;omega⟩
theorem qf1 {A:Around} {C:Addr} {us:List Value} {kw:List (Str×Value)}:(A.under (.builtin "type.__call__" ⟨.ref C::us,kw⟩)).depth=A.depth+1:=by
 first | rfl | simp [Around.under,Code.weight,Code.isCreation,Code.isGuard,Code.isCaller,Code.frames,Code.isFrame,guardIds]
theorem qf2 {A:Around} {C:Addr} {us:List Value} {kw:List (Str×Value)}:(A.under (.builtin "type.__call__" ⟨.ref C::us,kw⟩)).units=A.units+1:=by
 first | rfl | simp [Around.under,Code.cUnits,Code.frames,Code.isFrame]
theorem Room.make {k:Nat} {A:Around} (r:Room (k+1) A) (C:Addr) (us:List Value) (kw:List (Str×Value)):Room k (A.under (.builtin "type.__call__" ⟨.ref C::us,kw⟩)) :=
 ⟨r.hd,by have:=r.dp;rw [qf1];omega,by have:=r.un;rw [qf2];omega⟩
theorem Room.depth {k:Nat} {A:Around} (r:Room k A):A.depth < recursionLimit:=by have:=r.dp;omega
theorem Room.units {k:Nat} {A:Around} (r:Room k A):A.units+64 < cLine:=by have:=r.un;omega
def yM:TA:=λ _ H Q=>Q [] H
def vO (ta:TE) (tr:TA):TA:=λ σ H Q=>ta σ H λ x H1=>tr σ H1 λ xs H2=>Q (x::xs) H2
section
variable {X:Cx} {e:Expr} {es:List Expr} {te:TE} {t:TA} {pos:Pos}
theorem qb:PA X [] yM:=λ _ _ _ _ H Q I h=>Calls.spliced_nil ⟨[],H,I,.nil,h⟩
theorem qa (ha:PE X e te) (hr:PA X es t) (hs:starEach (e::es) X.env=(false,eval e X.env)::starEach es X.env:=by rfl):PA X (e::es) (vO te t):=by
 intro pos pins s σ H Q I h;rw [hs];show wpAny _ _ (spliced ((false,eval e X.env)::backTo pos (starEach es X.env))) _ _ s
 refine Calls.spliced_cons (thn (ha pins s σ H _ I h) λ u s1 ⟨x,H1,I1,r1,q1⟩=>?_);exact thn (hr pos pins s1 σ H1 _ I1 q1) λ us s2 ⟨xs,H2,I2,r2,q2⟩=>⟨x::xs,H2,I2,.cons r1 r2,q2⟩
def qmw (t:TA):TE:=λ σ H Q=>t σ H λ xs H1=>xs.length<=sizeLine/\∀ p,H1 p=none->Q (.ref p) (upd H1 p (.tup xs))
def qns (t:TA):TE:=λ σ H Q=>t σ H λ xs H1=>xs.length<=sizeLine/\∀ p,H1 p=none->Q (.ref p) (upd H1 p (.lst xs))
theorem zl {x1} (h:PA X es t):PE X (.Tuple es x1 pos) (qmw t):=by
 intro pins s σ H Q I hq;refine wpAny_Tuple_spliced (thn (h pos pins s σ H _ I hq) λ us s1 ⟨xs,H1,I1,r,z,q⟩=>⟨by rw [<- r.length];exact z,?_⟩);have hf:H1 s1.heap.objs.size=none:=I1.hok.fresh (Xe _);refine ⟨.ref s1.heap.objs.size,upd H1 s1.heap.objs.size (.tup xs),I1.laid (t':=s1.toks) (λ b u e=>Xc _ e) (Xe _) ?_,rfl,q _ hf⟩;exact ⟨z,us,r,⟨_,Xk _ rfl,rfl,_,rfl⟩⟩
theorem yh (h:PA X es t):PE X (.List es pos) (qns t):=by
 intro pins s σ H Q I hq;refine wpAny_List_spliced (thn (h pos pins s σ H _ I hq) λ us s1 ⟨xs,H1,I1,r,z,q⟩=>⟨by rw [<- r.length];exact z,?_⟩);have hf:H1 s1.heap.objs.size=none:=I1.hok.fresh (Xe _);refine ⟨.ref s1.heap.objs.size,upd H1 s1.heap.objs.size (.lst xs),I1.laid (t':=s1.toks) (λ b u e=>Xc _ e) (Xe _) ?_,rfl,q _ hf⟩;exact ⟨z,us,0,r,Xk _ rfl⟩
end
abbrev Sp:=List V->Hp->VK->XK->Prop
abbrev CXT:=List Env->Hp->Shared->XK->Value->Shared->Prop
structure Env0 (P:Program) (w:World) (K:PySem.W.Frag) (mg:Str->Option Value) (base:Heap) (A:Around) (outer:List Env) (s:Shared) (H:Hp):Prop where
 frames:A.frames=some outer
 mod:Mod K mg base
 bs:∀ b o,base.get? b=some o->s.heap.get? b=some o/\H b=none
 bsz:base.objs.size<=s.heap.objs.size
 funs:s.heap.FunFrames base outer
 frf:∀ b∈frs outer,H b=none
 hok:HOk P w H s.heap
 bare:AllBare s.gens
def CE (outer:List Env) (P:Program) (w:World) (H:Hp) (s:Shared) (Q:VK) (u:Value) (s':Shared):Prop :=
 ∃ v H',s'.os=s.os/\AllBare s'.gens/\Un (frs outer) [] H H' s.heap s'.heap/\HOk P w H' s'.heap/\qV v u/\Q v H'
def CR (CX:CXT) (outer:List Env) (P:Program) (w:World) (H:Hp) (s:Shared) (Q:VK) (E:XK) (r:Result) (s':Shared):Prop :=
 match r with
 | .ok (.ret u)=>CE outer P w H s Q u s'
 | .ok _=>False
 | .error e=>CX outer H s E e s'
structure FnOk (P:Program) (w:World) (K:PySem.W.Frag) (mg:Str->Option Value) (base:Heap) (CX:CXT) (k:Nat) (f:Addr) (fd:FuncData) (ps:List Str) (sp:Sp):Prop where
 len:∀ vs H Q E,sp vs H Q E->vs.length=ps.length
 run:∀ (A:Around) (outer:List Env) (s:Shared) (H:Hp) (args:Args) (us:List Value) (vs:List V) (Q:VK) (E:XK),Room k A->Env0 P w K mg base A outer s H->BindsTo s fd args (ps.zip us)->qN vs us->sp vs H Q E ->
  codeAny (model P w) A (.call (.ref f) args) (CR CX outer P w H s Q E) s
theorem Env0.make {P:Program} {w:World} {K:PySem.W.Frag} {mg:Str->Option Value} {base:Heap} {A:Around} {outer:List Env} {s:Shared} {H:Hp} (e:Env0 P w K mg base A outer s H) (C:Addr) (us:List Value) (kw:List (Str×Value)) :
  Env0 P w K mg base (A.under (.builtin "type.__call__" ⟨.ref C::us,kw⟩)) outer s H:=⟨by first | exact e.frames | (simpa [Around.under,Code.envs,Code.isFrame,pushEnvs] using e.frames),e.mod,e.bs,e.bsz,e.funs,e.frf,e.hok,e.bare⟩
section
variable {X:Cx} {pins:List (Addr×Obj)} {σ:St} {H:Hp} {s s':Shared}
theorem Inv.env0 (I:Inv X pins σ H s):Env0 X.prog X.w X.K X.mg X.base X.A X.stack s H :=
 ⟨I.ok.frames,I.ok.mod,I.bs,Nat.le_trans I.ok.bsz I.sz,I.stack,I.stkFree,I.hok,I.bare⟩
theorem Inv.after {Q:VK} {u:Value} (I:Inv X pins σ H s) (h:CE X.stack X.prog X.w H s Q u s'):EP X pins σ Q u s':=by
 obtain ⟨v,H',os,bare,un,hok,r,q⟩:=h;obtain ⟨hh,g,d,t,os'⟩:=s';obtain rfl:os'=s.os:=os;exact ⟨v,H',I.call (h':=hh) (g':=g) (d':=d) (t':=t) (ch:=[]) un hok bare (λ b z=>absurd z (by simp)),r,q⟩
end
def qck (sp:Sp) (dvs:List V) (E:XK) (t:TA):TE:=λ σ H Q=>t σ H λ vs H1=>sp (vs++dvs) H1 Q E
def yN (C:Addr) (m:Str) (sp:Sp) (dvs:List V) (E:XK) (ta:TE) (t:TA):TE:=λ σ H Q=>ta σ H λ x H1=>∃ a dx fs,x=.ref a/\H1 a=some (.ins C dx fs)/\fs.lookup m=none /\
 t σ H1 λ vs H2=>sp (x::(vs++dvs)) H2 Q E
def qmx (C:Addr) (sp:Sp) (dvs:List V) (E:XK) (t:TA):TE:=λ σ H Q=>t σ H λ vs H1=>∀ x dx,H1 x=none->H1 dx=none->dx≠x ->
 sp (.ref x::(vs++dvs)) (upd (upd H1 dx (.own x)) x (.ins C dx [])) (λ v H2=>v=.non/\Q (.ref x) H2) E
def qf (K:PySem.W.Frag) (fd:FuncData) (ps:List Str) (ds:List Value):Prop :=
 ∀ (s:Shared) (us:List Value),K.In s.heap->(us++ds).length=ps.length->BindsTo s fd ⟨us,[]⟩ (ps.zip (us++ds))
theorem qf.all {K:PySem.W.Frag} {fd:FuncData} {ps:List Str} (h:∀ us:List Value,us.length=ps.length->bindArgs fd ⟨us,[]⟩=pure (ps.zip us)):qf K fd ps []:=λ s us _ hl=>by
 rw [List.append_nil] at hl ⊢;exact .of_eq (h us hl)
def qbs (CX:CXT) (X:Cx) (E:XK):Prop:=∀ (pins:List (Addr×Obj)) (σ:St) (H:Hp) (s:Shared) (e:Value) (s':Shared),Inv X pins σ H s->CX X.stack H s E e s'->X.xe e s'
section
variable {X:Cx} {CX:CXT} {k:Nat} {f C:Addr} {fd:FuncData} {ps:List Str} {sp:Sp} {dvs:List V} {ds:List Value} {E:XK} {x m:Str} {p pos apos:Pos} {e o:Expr} {es:List Expr} {ta:TE} {t:TA}
theorem qio {pins:List (Addr×Obj)} {σ:St} {H:Hp} {s:Shared} {Q:VK} {us:List Value} {vs:List V} (F:FnOk X.prog X.w X.K X.mg X.base CX k f fd ps sp) (hr:Room k X.A) (hb:qf X.K fd ps ds) (hd:qN dvs ds) (hx:qbs CX X E)
  (I:Inv X pins σ H s) (r:qN vs us) (h:sp (vs++dvs) H Q E):wpAny (model X.prog X.w) X.A (call (.ref f) us) (EP X pins σ Q) X.xe s:=by
 have r2:qN (vs++dvs) (us++ds):=r.append hd;have hl:(us++ds).length=ps.length:=by rw [<- r2.length];exact F.len _ _ _ _ h
 refine wpAny_call (codeAny_mono (F.run X.A X.stack s H ⟨us,[]⟩ (us++ds) (vs++dvs) Q E hr I.env0 (hb s us I.kIn hl) r2 h) λ r s' hq=>?_);cases r with
 | error e=>exact hx pins σ H s e s' I hq
 | ok fl =>
  cases fl with
  | ret u=>exact I.after hq
  | next=>exact False.elim hq
  | brk=>exact False.elim hq
  | cont=>exact False.elim hq
theorem zj (F:FnOk X.prog X.w X.K X.mg X.base CX k f fd ps sp) (hr:Room k X.A) (hg:Gl X x) (hm:X.mg x=some (.ref f)) (hk:W.keepIn X.K (.ref f)=true) (hb:qf X.K fd ps ds) (hd:qN dvs ds) (hx:qbs CX X E)
  (ha:PA X (e::es) t) (hdb:(x == ("__debug__":Str))=false:=by decide) (he:starEach (e::es) X.env=(false,eval e X.env)::starEach es X.env:=by rfl) (hpl:(backTo pos (starEach es X.env)).any (·.1)=false:=by rfl) :
  PE X (.Call (.Name x p) (e::es) [] pos) (qck sp dvs E t):=by
 intro pins s σ H Q I h;refine wpAny_Call_Name_kw (qbW I hg hm ?_ hdb);refine W.callWith_K (h₀:=X.base) I.ok.mod.kin hk (thn (ha pos pins s σ H _ I h) λ us s1 ⟨vs,H1,I1,r,q⟩=>⟨I1.kIn,?_⟩) he hpl;exact qio F hr hb hd hx I1 r q
theorem qD {pl:Sem Bool} (he:PE X o ta) (c:Cls X.K C) (hm:Meth X.K C m f) (F:FnOk X.prog X.w X.K X.mg X.base CX k f fd ps sp) (hr:Room k X.A) (hb:qf X.K fd ps ds) (hd:qN dvs ds) (hx:qbs CX X E)
  (ht:eval (.Call (.Attribute o m apos) [] [] pos) X.env=(do
   let ov <- eval o X.env
   standAt apos.atName
   let (f,first) <- holding [ov] (getMethod ov m pl)
   callWith pos f first (backTo pos (starEach [] X.env)) (backToKw pos (keywordEach [] X.env))):=by rfl) :
  PE X (.Call (.Attribute o m apos) [] [] pos) (yN C m sp dvs E ta yM):=by
 intro pins s σ H Q I h;refine W.methodCall_KW (pl:=pl) (thn (he pins s σ H _ I h) λ u s1 ⟨x,H1,I1,rx,a,dx,fs,ex,ea,l,q⟩=>?_) ht;subst ex;obtain rfl:u=Value.ref a:=rx;refine qfZ I1 ea c hm l ?_;exact W.callWith_K0 (first:=[.ref a]) I1.kIn hm.kp (qio (us:=[.ref a]) (vs:=[.ref a]) F hr hb hd hx I1 (.cons rfl .nil) q)
structure Mk (K:PySem.W.Frag) (C f:Addr):Prop where
 makes:W.makesIn K C=true
 init:W.findIn K (.ref C) "__init__"=some (some (.ref f))
 fn:W.isFn K (.ref f)=true
 kp:W.keepIn K (.ref C)=true
theorem qip {pins:List (Addr×Obj)} {σ:St} {H:Hp} {s:Shared} {Q:VK} {us:List Value} {vs:List V} (M:Mk X.K C f) (F:FnOk X.prog X.w X.K X.mg X.base CX k f fd ps sp) (hr:Room (k+1) X.A) (hb:qf X.K fd ps ds) (hd:qN dvs ds)
  (hx:qbs CX X E) (I:Inv X pins σ H s) (r:qN vs us)
  (h:∀ x dx,H x=none->H dx=none->dx≠x->sp (.ref x::(vs++dvs)) (upd (upd H dx (.own x)) x (.ins C dx [])) (λ v H2=>v=.non/\Q (.ref x) H2) E) :
  wpAny (model X.prog X.w) X.A (call (.ref C) us) (EP X pins σ Q) X.xe s:=by
 have hq:=h (s.heap.objs.size+1) s.heap.objs.size (I.hok.fresh (Nat.le_succ _)) (I.hok.fresh (Xe _)) (Xo (Nat.lt_succ_self _));have I2:=Inv.made (C:=C) I;have r2:qN (V.ref (s.heap.objs.size+1)::(vs++dvs)) (Value.ref (s.heap.objs.size+1)::(us++ds)):=.cons rfl (r.append hd);have hl:(Value.ref (s.heap.objs.size+1)::us++ds).length=ps.length:=by
  have e:=r2.length;rw [F.len _ _ _ _ hq] at e;exact e.symm
 refine wpAny_call (qin (f:=f) I.kIn M.makes M.init (beq_iff_eq.mp M.fn) (codeAny_mono (F.run _ X.stack _ _ ⟨Value.ref (s.heap.objs.size+1)::us,[]⟩ (Value.ref (s.heap.objs.size+1)::(us++ds)) _ _ E (hr.make C us [])
  (I2.env0.make C us []) (hb _ (Value.ref (s.heap.objs.size+1)::us) I2.kIn hl) r2 hq) λ r s' hq'=>?_))
 cases r with
 | error e=>exact hx pins σ _ _ e s' I2 hq'
 | ok fl =>
  cases fl with
  | ret u =>
   obtain ⟨v,H',I3,rv,ev,q3⟩:=I2.after hq';subst ev;exact ⟨rv,⟨V.ref (s.heap.objs.size+1),H',I3,rfl,q3⟩⟩
  | next=>exact False.elim hq'
  | brk=>exact False.elim hq'
  | cont=>exact False.elim hq'
theorem qaf (M:Mk X.K C f) (F:FnOk X.prog X.w X.K X.mg X.base CX k f fd ps sp) (hr:Room (k+1) X.A) (hg:Gl X x) (hm:X.mg x=some (.ref C)) (hb:qf X.K fd ps ds) (hd:qN dvs ds) (hx:qbs CX X E)
  (ha:PA X (e::es) t) (hdb:(x == ("__debug__":Str))=false:=by decide) (he:starEach (e::es) X.env=(false,eval e X.env)::starEach es X.env:=by rfl) (hpl:(backTo pos (starEach es X.env)).any (·.1)=false:=by rfl) :
  PE X (.Call (.Name x p) (e::es) [] pos) (qmx C sp dvs E t):=by
 intro pins s σ H Q I h;refine wpAny_Call_Name_kw (qbW I hg hm ?_ hdb);refine W.callWith_K (h₀:=X.base) I.ok.mod.kin M.kp (thn (ha pos pins s σ H _ I h) λ us s1 ⟨vs,H1,I1,r,q⟩=>⟨I1.kIn,?_⟩) he hpl;exact qip M F hr hb hd hx I1 r q
end
structure FnScope (N P:List Str) (sc:Scope):Prop where
 kind:sc.kind=.function
 co:sc.isCoroutine=false
 gen:sc.isGenerator=false
 nd:N.Nodup
 pre:N.take P.length=P
 par:∀ x∈P,sc.names.lookup x=some .local∨sc.names.lookup x=some .cell
 nofree:∀ y∈sc.names,y.2≠.free
theorem scF {N P:List Str} {sc:Scope} (a:sc.kind=.function:=by rfl) (b:sc.isCoroutine=false:=by rfl) (c:sc.isGenerator=false:=by rfl) (d:N.take P.length=P:=by rfl) (h:N.Nodup ∧ (∀ x∈P,sc.names.lookup x=some .local∨sc.names.lookup x=some .cell) ∧ ∀ y∈sc.names,y.2≠.free:=by decide +kernel):FnScope N P sc:=⟨a,b,c,h.1,d,h.2.1,h.2.2⟩
theorem qdp {kindOf:Str->Option NameKind} {x:Str}:∀ {binds:List (Str×Value)} {m:Str->Option Value},(∀ v,(x,v) ∉ binds)->bindL kindOf binds m x=m x
 | [],_,_=>rfl
 | (n,v)::r,m,h=>by
  unfold bindL;rw [qdp λ w hw=>h w (Xn _ hw)];split
  ·have:x≠n:=by rintro rfl;exact h v Xp
   simp [this]
  ·rfl
theorem qdq {kindOf:Str->Option NameKind} {x:Str}:∀ {binds:List (Str×Value)} {m:Str->Option Value},(∀ v,(x,v) ∉ binds)->bindC kindOf binds m x=m x
 | [],_,_=>rfl
 | (n,v)::r,m,h=>by
  unfold bindC;rw [qdq λ w hw=>h w (Xn _ hw)];split
  ·rfl
  ·have:x≠n:=by rintro rfl;exact h v Xp
   simp [this]
theorem qdr {kindOf:Str->Option NameKind} {x:Str} {v:Value}:∀ {P:List Str} {vs:List Value} {i:Nat} {m:Str->Option Value},P.Nodup->P[i]?=some x->vs[i]?=some v->kindOf x=some .local ->
  bindL kindOf (P.zip vs) m x=some v
 | [],_,_,_,_,h,_,_=>by simp at h
 | _::_,[],_,_,_,_,h,_=>by simp at h
 | p::P,w::vs,0,m,nd,h1,h2,hk=>by
  simp at h1 h2;subst h1;subst h2;show bindL kindOf ((p,w)::P.zip vs) m p=_
  unfold bindL;rw [qdp λ v hv=>(List.nodup_cons.mp nd).1 (List.of_mem_zip hv).1,if_pos hk];simp
 | p::P,w::vs,i+1,m,nd,h1,h2,hk=>by
  show bindL kindOf ((p,w)::P.zip vs) m x=_
  unfold bindL;exact qdr (i:=i) (List.nodup_cons.mp nd).2 (by simpa using h1) (by simpa using h2) hk
theorem qds {kindOf:Str->Option NameKind} {x:Str} {v:Value}:∀ {P:List Str} {vs:List Value} {i:Nat} {m:Str->Option Value},P.Nodup->P[i]?=some x->vs[i]?=some v->kindOf x≠some .local ->
  bindC kindOf (P.zip vs) m x=some v
 | [],_,_,_,_,h,_,_=>by simp at h
 | _::_,[],_,_,_,_,h,_=>by simp at h
 | p::P,w::vs,0,m,nd,h1,h2,hk=>by
  simp at h1 h2;subst h1;subst h2;show bindC kindOf ((p,w)::P.zip vs) m p=_
  unfold bindC;rw [qdq λ v hv=>(List.nodup_cons.mp nd).1 (List.of_mem_zip hv).1,if_neg hk];simp
 | p::P,w::vs,i+1,m,nd,h1,h2,hk=>by
  show bindC kindOf ((p,w)::P.zip vs) m x=_
  unfold bindC;exact qds (i:=i) (List.nodup_cons.mp nd).2 (by simpa using h1) (by simpa using h2) hk
def qbG (N:List Str) (vs:List V):St:=vs.map some++List.replicate (N.length - vs.length) none
def qhz (CX:CXT) (P:Program) (w:World) (K:PySem.W.Frag) (mg:Str->Option Value) (base:Heap) (N:List Str) (qual:Str) (scope:Scope) (f:Addr) (cd:Value) (A:Around) (outer:List Env) (s:Shared) (H:Hp) (E:XK):Cx where
 prog:=P
 w:=w
 K:=K
 mg:=mg
 base:=base
 A:=A.deeper (envOfC qual scope s.heap.objs.size f cd)
 N:=N
 s₀:=s
 H₀:=H
 env:=envOfC qual scope s.heap.objs.size f cd
 outer:=outer
 stack:=envOfC qual scope s.heap.objs.size f cd::outer
 ex:=[]
 calm:=true
 fn:=λ _=>true
 pn:=[]
 xe:=λ e s'=>wpAny (model P w) (A.deeper (envOfC qual scope s.heap.objs.size f cd)) (leaving (envOfC qual scope s.heap.objs.size f cd) e) (λ _ s''=>CX outer H s E e s'') (λ e' s''=>CX outer H s E e' s'') s'
theorem qeS {sc:Scope} {n:Nat} {x:Str} (h:sc.names.lookup x=some .cell):∃ c,(cellsFrom n sc.names []).lookup x=some c:=by
 have q:=W.cellsFrom_some sc.names n [] (.inl h);exact Option.isSome_iff_exists.mp q
theorem qhA {CX:CXT} {P:Program} {w:World} {K:PySem.W.Frag} {mg:Str->Option Value} {base:Heap} {N ps:List Str} {qual:Str} {scope:Scope} {f:Addr} {cd:Value} {A:Around} {outer:List Env} {s s1:Shared} {H:Hp} {E:XK} {us:List Value} {vs:List V}
  (S:FnScope N ps scope) (hd:A.handled=none) (e0:Env0 P w K mg base A outer s H) (hl:vs.length=ps.length) (r:qN vs us)
  (x:InCallC s s.heap.objs.size (bindL (envOfC qual scope s.heap.objs.size f cd).kindOf (ps.zip us) λ _=>none) (cellsFrom (s.heap.objs.size+1) scope.names []) (bindC (envOfC qual scope s.heap.objs.size f cd).kindOf (ps.zip us) λ _=>none) s1) :
  Inv (qhz CX P w K mg base N qual scope f cd A outer s H E) [] (qbG N vs) H s1:=by
 have hpl:ps.length<=N.length:=by have:=congrArg List.length S.pre;rw [Xi] at this;omega
 obtain ⟨h1,tk,rfl,hk⟩:=x.done;have noA:∀ b:Addr,b ∉ (qhz CX P w K mg base N qual scope f cd A outer s H E).ex:=λ b z=>absurd (show b∈([]:List Addr) from z) (by simp)
 refine ⟨⟨e0.mod,S.kind,rfl,rfl,Xe _,λ y z c h1 h2=>?_,λ y hy=>?_,λ y c _ h=>?_,λ _=>hd,Around.frames_deeper e0.frames,.inr ⟨rfl,rfl⟩,λ b z=>absurd z (noA b),e0.bs,e0.bsz,λ b _ _=>noA b,λ b z=>absurd z (noA b),e0.funs,e0.frf⟩,
  rfl,e0.bare,Un.kept hk,⟨_,x.toInCall.ns,λ i y v h1 h2 h3=>?_⟩,λ y c h=>⟨_,x.cell y c h⟩,e0.hok.fresh (Xe _),λ y c h=>?_,λ p hp=>absurd (show p∈([]:List (Addr×Obj)) from hp) (by simp),e0.hok.kept hk,?_⟩
 ·exact name_of_addr x.apart (PySem.mem_of_lookup h1) (PySem.mem_of_lookup h2)
 ·have hy:scope.names.lookup y=some .cell∨scope.names.lookup y=some .free:=hy;rcases hy with hy | hy
  ·exact qeS hy
  ·exact absurd rfl (S.nofree _ (PySem.mem_of_lookup hy))
 ·exact Nat.le_of_lt (x.above y c (PySem.mem_of_lookup h))
 ·have hi:i < vs.length:=by
   unfold qbG at h2;by_cases hi:i < vs.length
   ·exact hi
   ·rw [Xy (by simpa using hi)] at h2;rw [List.getElem?_replicate] at h2;split at h2 <;> cases h2
  have ha:vs[i]?=some v:=by
   unfold qbG at h2;rw [Xz (by simpa using hi),Xw] at h2;cases e:vs[i]? with
   | none=>rw [e] at h2;cases h2
   | some a=>rw [e] at h2;cases h2;rfl
  obtain ⟨u,hu,rv⟩:=r.get ha;have hp:ps[i]?=some y:=by
   rw [<- S.pre,List.getElem?_take_of_lt (by omega)];exact h1
  have ndP:ps.Nodup:=by rw [<- S.pre];exact S.nd.sublist (List.take_sublist _ _)
  refine ⟨u,rv,?_⟩;rcases S.par y (XD hp) with k | k
  ·exact .inl ⟨k,qdr ndP hp hu k⟩
  ·obtain ⟨c,e⟩:=qeS (n:=s.heap.objs.size+1) k;refine .inr ⟨.inl k,c,e,?_⟩;have q:=x.cell y c e;rw [qds ndP hp hu (by show scope.names.lookup y≠_;rw [k];decide)] at q;exact q
 ·exact e0.hok.fresh (Nat.le_of_lt (x.above y c (PySem.mem_of_lookup h)))
 ·unfold qbG;show _=N.length
  rw [Xd,Xa,XB];omega
theorem qmy {CX:CXT} {P:Program} {w:World} {K:PySem.W.Frag} {mg:Str->Option Value} {base:Heap} {k:Nat} {f:Addr} {name qual:Str} {params:Arguments} {body:List Stmt} {scope:Scope} {dV kV doc pm cdv ct oc:Value} {an od:Option Addr}
  {osl:Array (Option Value)} {N ps:List Str} {sp:Sp} (lk:K.lookup f=some ⟨oc,od,.func (W.fnOf name qual params body scope dV kV doc pm an cdv ct),osl⟩) (hcd:W.codeIn K cdv qual=true) (S:FnScope N ps scope)
  (len:∀ vs H Q E,sp vs H Q E->vs.length=ps.length)
  (hbody:∀ (A:Around) (outer:List Env) (s:Shared) (H:Hp) (vs:List V) (Q:VK) (E:XK),Room k (A.deeper (envOfC qual scope s.heap.objs.size f cdv))->sp vs H Q E ->
   ∃ t,PSs (qhz CX P w K mg base N qual scope f cdv A outer s H E) body t/\t { nx:=λ _ H'=>Q .non H',rt:=Q } (qbG N vs) H) :
  FnOk P w K mg base CX (k+1) f (W.fnOf name qual params body scope dV kV doc pm an cdv ct) ps sp:=by
 refine ⟨len,λ A outer s H args us vs Q E hr e0 hb r hsp=>?_⟩;have hl:=len _ _ _ _ hsp;have KX:K.In s.heap:=e0.mod.kin.keeps λ b o e=>(e0.bs b o e).1
 have lim:s.heap.NoLimit:=e0.mod.nolimit.keeps λ b o e=>(e0.bs b o e).1
 have hkind:∀ y∈ps.zip us,scope.names.lookup y.1=some .local∨(scope.names.lookup y.1=some .cell/\((cellsFrom (s.heap.objs.size+1) scope.names []).lookup y.1).isSome=true):=λ ⟨n,v⟩ hy=>by
  rcases S.par n (List.of_mem_zip hy).1 with q | q
  ·exact .inl q
  ·exact .inr ⟨q,W.cellsFrom_some _ _ _ (.inl q)⟩
 refine codeAny_call_function hr.depth (KX _ _ lk) rfl S.co S.gen rfl (W.codeRec_of KX hcd) (hb _ _ _ _ ?_);refine wpAny_newFunctionEnv_cells S.kind hkind λ env he s1 x=>?_
 subst he;refine ⟨lim.keeps x.toInCall.keep,codeAny_func ?_⟩;obtain ⟨t,ht,hq⟩:=hbody A outer s H vs Q E (hr.deeper _) hsp;have I:Inv (qhz CX P w K mg base N qual scope f cdv A outer s H E) [] (qbG N vs) H s1:=qhA S hr.hd e0 hl r x;refine wpAny_mono (ht [] s1 (qbG N vs) H _ I hq) (λ fl s' hs=>?_) λ e s' hs=>hs
 have fin:∀ {σ':St} {H':Hp} {v:V} {u:Value},Inv (qhz CX P w K mg base N qual scope f cdv A outer s H E) [] σ' H' s'->qV v u->Q v H'->CE outer P w H s Q u s' :=
  λ {σ' H' v u} J rv q=>⟨v,H',J.os,J.bare,J.base,J.hok,rv,q⟩
 cases fl with
 | ret u =>
  obtain ⟨v,σ',H',J,rv,q⟩:=hs;exact fin J rv q
 | next =>
  obtain ⟨σ',H',J,q⟩:=hs;exact fin (v:=V.non) (u:=Value.none) J rfl q
 | brk =>
  obtain ⟨_,_,_,q⟩:=hs;exact False.elim q
 | cont =>
  obtain ⟨_,_,_,q⟩:=hs;exact False.elim q
section
variable {X:Cx} {x:Str} {p pos:Pos} {e:Expr} {es:List Expr} {t:TA} {id T:String} {r:List V->Hp->VK->Prop}
def tCB (r:List V->Hp->VK->Prop) (t:TA):TE:=λ σ H Q=>t σ H λ vs H1=>r vs H1 Q
theorem qz (hc:jh X (.builtin id) r) (hg:Gl X x) (hm:X.mg x=none) (hv:bootBuiltins x=some (.builtin id)) (ha:PA X (e::es) t) (hn:x≠"__name__":=by decide) (hdb:(x == ("__debug__":Str))=false:=by decide)
  (he:starEach (e::es) X.env=(false,eval e X.env)::starEach es X.env:=by rfl) (hpl:(backTo pos (starEach es X.env)).any (·.1)=false:=by rfl):PE X (.Call (.Name x p) (e::es) [] pos) (tCB r t):=by
 intro pins s σ H Q I h;refine wpAny_Call_Name_kw (qbp I hg hm hv ?_ hn hdb);exact PyProof.Rows.callWith_builtin1 (thn (ha pos pins s σ H _ I h) λ us s1 ⟨vs,H1,I1,r1,q1⟩=>hc pins s1 σ H1 vs us Q I1 r1 q1) he hpl
theorem zf (hc:jh X (.type T) r) (hg:Gl X x) (hm:X.mg x=none) (hv:bootBuiltins x=some (.type T)) (ha:PA X (e::es) t) (hn:x≠"__name__":=by decide) (hdb:(x == ("__debug__":Str))=false:=by decide)
  (he:starEach (e::es) X.env=(false,eval e X.env)::starEach es X.env:=by rfl) (hpl:(backTo pos (starEach es X.env)).any (·.1)=false:=by rfl):PE X (.Call (.Name x p) (e::es) [] pos) (tCB r t):=by
 intro pins s σ H Q I h;refine wpAny_Call_Name_kw (qbp I hg hm hv ?_ hn hdb);exact PyProof.Rows.callWith_type1 (thn (ha pos pins s σ H _ I h) λ us s1 ⟨vs,H1,I1,r1,q1⟩=>hc pins s1 σ H1 vs us Q I1 r1 q1) he hpl
end
section
variable {κ:Type} [DecidableEq κ]
def yW (kvs:List (κ×V)) (k:κ):Option V:=(kvs.find? λ kv=>decide (kv.1=k)).map (·.2)
def jz (kvs:List (κ×V)) (k:κ) (v:V):List (κ×V) :=
 if (kvs.any λ kv=>decide (kv.1=k))=true then kvs.map (λ kv=>if kv.1=k then (kv.1,v) else kv) else kvs++[(k,v)]
theorem qcl {p:κ×V} {r:List (κ×V)} {k:κ} (e:p.1=k):yW (p::r) k=some p.2:=by simp [yW,List.find?_cons,e]
theorem qcm {p:κ×V} {r:List (κ×V)} {k:κ} (e:¬ p.1=k):yW (p::r) k=yW r k:=by simp [yW,List.find?_cons,e]
theorem vV (k:κ):∀ kvs:List (κ×V),(kvs.any λ kv=>decide (kv.1=k))=(yW kvs k).isSome
 | []=>rfl
 | p::r=>by
  rw [List.any_cons];by_cases e:p.1=k
  ·simp only [qcl e,Xv e,Bool.true_or,Option.isSome_some]
  ·rw [qcm e,Xu e,Bool.false_or];exact vV k r
theorem yO (kvs:List (κ×V)) (k:κ) (v:V):(jz kvs k v).length<=kvs.length+1:=by
 unfold jz;split
 ·rw [Xa];omega
 ·rw [Xd,Xt,List.length_nil];omega
theorem qiq {kvs:List (κ×V)} {k:κ} (v:V) (h:yW kvs k=none):jz kvs k v=kvs++[(k,v)]:=by
 unfold jz;rw [vV,h];exact if_neg (by decide)
theorem qau.isSome_eq {o:Option V} {u:Option Value} (r:qau o u):o.isSome=u.isSome:=by
 cases o with
 | none=>cases u with
  | none=>rfl
  | some _=>exact (show False from r).elim
 | some _=>cases u with
  | none=>exact (show False from r).elim
  | some _=>rfl
theorem KV.val {kvs:List (κ×V)} {vs:List (κ×Value)} (r:KV kvs vs) (k:κ):qau (yW kvs k) (valueAt vs k):=by
 unfold KV at r;induction r with
 | nil=>exact True.intro
 | @cons p q ps qs h t ih =>
  obtain ⟨h1,h2⟩:=h;by_cases e:p.1=k
  ·have e':q.1=k:=h1.symm.trans e;have b:valueAt (q::qs) k=some q.2:=by simp [valueAt,List.find?_cons,e']
   rw [qcl e,b];exact h2
  ·have e':¬ q.1=k:=λ z=>e (h1.trans z)
   have b:valueAt (q::qs) k=valueAt qs k:=by simp [valueAt,List.find?_cons,e']
   rw [qcm e,b];exact ih
theorem KV.any {kvs:List (κ×V)} {vs:List (κ×Value)} (r:KV kvs vs) (k:κ):(kvs.any λ kv=>decide (kv.1=k))=vs.any λ kv=>decide (kv.1=k):=by
 unfold KV at r;induction r with
 | nil=>rfl
 | cons h t ih=>rw [List.any_cons,List.any_cons,ih,h.1]
theorem KV.repl {kvs:List (κ×V)} {vs:List (κ×Value)} (r:KV kvs vs) (k:κ) {y:V} {u:Value} (ry:qV y u) :
  KV (kvs.map λ kv=>if kv.1=k then (kv.1,y) else kv) (vs.map λ kv=>if kv.1=k then (kv.1,u) else kv):=by
 unfold KV at r ⊢;induction r with
 | nil=>exact .nil
 | @cons p q ps qs h t ih =>
  rw [List.map_cons,List.map_cons];refine .cons ?_ ih;obtain ⟨h1,h2⟩:=h;by_cases e:p.1=k
  ·rw [if_pos e,if_pos (h1.symm.trans e)];exact ⟨h1,ry⟩
  ·rw [if_neg e,if_neg (λ z=>e (h1.trans z))];exact ⟨h1,h2⟩
theorem KV.put {kvs:List (κ×V)} {vs:List (κ×Value)} (r:KV kvs vs) (k:κ) {y:V} {u:Value} (ry:qV y u):KV (jz kvs k y) (stored vs k u):=by
 unfold jz stored;rw [r.any k];by_cases e:(vs.any λ kv=>decide (kv.1=k))=true
 ·rw [if_pos e,if_pos e];exact r.repl k ry
 ·rw [if_neg e,if_neg e];exact Paired.snoc r ⟨rfl,ry⟩
theorem KV.length {kvs:List (κ×V)} {vs:List (κ×Value)} (r:KV kvs vs):kvs.length=vs.length:=Paired.length r
end
theorem qeT {P:Program} {w:World} {k:Key} {u:Value} (r:qV (kV k) u):(qC P w).is k u=true:=by
 cases k with
 | inl i=>obtain ⟨t,e⟩:=(show ∃ t,u=Value.int i t from r);subst e;exact qeN P w i t
 | inr x=>obtain ⟨t,e⟩:=(show ∃ t,u=Value.str x t from r);subst e;exact zu P w x t
theorem qdt {P:Program} {w:World}:∀ {ks:List Key} {us:List Value},qN (ks.map kV) us->ItemsAre (qC P w) ks us
 | [],_,r=>by rw [List.map_nil] at r;cases r;exact .nil
 | k::ks,_,r=>by
  rw [List.map_cons] at r;cases r with
  | cons h t=>exact .cons (qeT h) (qdt t)
abbrev KT (H:Hp):List (List Key×V)->List (List Key×Addr×Value)->Prop:=Paired λ p q=>p.1=q.1/\H q.2.1=some (.tup (p.1.map kV))/\qV p.2 q.2.2
theorem KT.val {H:Hp} {kvs:List (List Key×V)} {xs:List (List Key×Addr×Value)} (r:KT H kvs xs) (k:List Key):qau (yW kvs k) ((atKey xs k).map (·.2)):=by
 induction r with
 | nil=>exact True.intro
 | @cons p q ps qs h t ih =>
  obtain ⟨h1,_,h2⟩:=h;by_cases e:p.1=k
  ·have e':q.1=k:=h1.symm.trans e;have b:atKey (q::qs) k=some q.2:=by simp [atKey,List.find?_cons,e']
   rw [qcl e,b];exact h2
  ·have e':¬ q.1=k:=λ z=>e (h1.trans z)
   have b:atKey (q::qs) k=atKey qs k:=by simp [atKey,List.find?_cons,e']
   rw [qcm e,b];exact ih
theorem KT.repl {H:Hp} {kvs:List (List Key×V)} {xs:List (List Key×Addr×Value)} (r:KT H kvs xs) (k:List Key) {y:V} {u:Value} (ry:qV y u) :
  KT H (kvs.map λ kv=>if kv.1=k then (kv.1,y) else kv) (xs.map (putAt k u)):=by
 induction r with
 | nil=>exact .nil
 | @cons p q ps qs h t ih =>
  rw [List.map_cons,List.map_cons];refine .cons ?_ ih;obtain ⟨h1,h2,h3⟩:=h;unfold putAt;by_cases e:p.1=k
  ·rw [if_pos e,if_pos (h1.symm.trans e)];exact ⟨h1,h2,ry⟩
  ·rw [if_neg e,if_neg (λ z=>e (h1.trans z))];exact ⟨h1,h2,h3⟩
theorem KT.put {H:Hp} {kvs:List (List Key×V)} {xs:List (List Key×Addr×Value)} (r:KT H kvs xs) (k:List Key) {b:Addr} {y:V} {u:Value} (hb:H b=some (.tup (k.map kV))) (ry:qV y u) :
  KT H (jz kvs k y) (storedH xs k b u):=by
 have e:(kvs.any λ kv=>decide (kv.1=k))=(atKey xs k).isSome:=by
  rw [vV,(r.val k).isSome_eq,Option.isSome_map]
 unfold jz storedH;rw [e];by_cases q:(atKey xs k).isSome=true
 ·rw [if_pos q,if_pos q];exact r.repl k ry
 ·rw [if_neg q,if_neg q];exact Paired.snoc r ⟨rfl,hb,ry⟩
theorem KT.keeps {H H':Hp} {kvs:List (List Key×V)} {xs:List (List Key×Addr×Value)} (r:KT H kvs xs) (ht:∀ b ys,H b=some (.tup ys)->H' b=some (.tup ys)):KT H' kvs xs :=
 Paired.mapP r λ _ _ z=>⟨z.1,ht _ _ z.2.1,z.2.2⟩
section
variable {P:Program} {w:World} {H:Hp} {h:Heap} {a:Addr}
theorem qk7 {u:HO} (ok:HOk P w H h) (e:Rd H a u):zy P w H h a u:=e.ok ok
theorem qgT {kvs:List (Key×V)} (ok:HOk P w H h) (e:Rd H a (.dK kvs)):kvs.length<=sizeLine/\(a == sysModules)=false/\∃ vs,KV kvs vs/\h.DictOf (qC P w) a vs :=
 show zy P w H h a (.dK kvs) from qk7 ok e
theorem qk8 {kvs:List (Key×V)} (ok:HOk P w H h) (e:H a=some (.dK kvs)):kvs.length<=sizeLine/\(a == sysModules)=false/\∃ vs,KV kvs vs/\h.DictOf (qC P w) a vs:=qgT ok (.inl e)
theorem qdX {ks:List Key} (ok:HOk P w H h) (e:H a=some (.tup (ks.map kV))):(tupleKind (qC P w)).is h ks a:=by
 obtain ⟨_,its,r,o,h1,h2,n,h3⟩:=(show zy P w H h a (.tup (ks.map kV)) from ok a _ e);exact ⟨o,its.toArray,n,h1,h2,h3,by simpa using qdt r⟩
theorem qgU {kvs:List (List Key×V)} (ok:HOk P w H h) (e:Rd H a (.dT kvs)):kvs.length<=sizeLine/\(a == sysModules)=false /\
  ∃ xs,KT H kvs xs/\h.DictOfH (tupleKind (qC P w)) a xs:=by
 obtain ⟨z,y,xs,r,o,es,ep,h1,h2,h3,h4,h5⟩:=(show zy P w H h a (.dT kvs) from qk7 ok e);refine ⟨z,y,xs,r,o,es,ep,h1,h2,h3,h4,λ x hx=>?_,h5⟩;have all:∀ {l:List (List Key×V)} {m:List (List Key×Addr×Value)},KT H l m->∀ x∈m,(tupleKind (qC P w)).is h x.1 x.2.1:=by
  intro l m q;induction q with
  | nil=>intro x hx;exact nomatch hx
  | @cons p q ps qs hq t ih =>
   intro x hx;rcases List.mem_cons.mp hx with e | hx
   ·subst e;exact qdX ok (by rw [<- hq.1];exact hq.2.1)
   ·exact ih x hx
 exact all r x hx
theorem qmz {kvs:List (List Key×V)} (ok:HOk P w H h) (e:H a=some (.dT kvs)):kvs.length<=sizeLine/\(a == sysModules)=false /\
  ∃ xs,KT H kvs xs/\h.DictOfH (tupleKind (qC P w)) a xs:=qgU ok (.inl e)
end
def qcn (H:Hp) (a:Addr) (y:V) (r:Option V):Prop :=
 (∃ kvs k,Rd H a (.dK kvs)/\y=kV k/\r=yW kvs k)∨∃ kvs k b,Rd H a (.dT kvs)/\y=.ref b/\H b=some (.tup (k.map kV))/\r=yW kvs k
def qmA (H:Hp) (a:Addr) (y v:V) (H':Hp):Prop :=
 (∃ kvs k,H a=some (.dK kvs)/\y=kV k/\kvs.length < sizeLine/\H'=upd H a (.dK (jz kvs k v))) ∨
 ∃ kvs k b,H a=some (.dT kvs)/\y=.ref b/\H b=some (.tup (k.map kV))/\kvs.length < sizeLine/\H'=upd H a (.dT (jz kvs k v))
theorem qcn.k {H:Hp} {a:Addr} {kvs:List (Key×V)} {k:Key} (e:H a=some (.dK kvs)):qcn H a (kV k) (yW kvs k):=.inl ⟨kvs,k,.inl e,rfl,rfl⟩
section
variable {X:Cx} {pins:List (Addr×Obj)} {σ:St} {H:Hp} {s:Shared} {a:Addr} {y v:V} {u r:Value} {o:Option V} {A:Around} {E:Value->Shared->Prop}
theorem Inv.big (I:Inv X pins σ H s):sysModules < s.heap.objs.size:=by
 have h:mainGlobals < s.heap.objs.size:=(I.mod.glob.keeps I.bk).lt;exact Nat.lt_trans (by decide) h
theorem qhB {Q:Value->Shared->Prop} (hu:A.units+1 < cLine) (I:Inv X pins σ H s) (g:qcn H a y (some v)) (ry:qV y u) (h:∀ w' s',Inv X pins σ H s'->qV v w'->Q w' s') :
  wpAny (model X.prog X.w) A (getItem (.ref a) u) Q E s:=by
 rcases g with ⟨kvs,k,e,ey,l⟩ | ⟨kvs,k,b,e,ey,eb,l⟩
 ·subst ey;obtain ⟨z,hd,vs,rel,dd⟩:=qgT I.hok e;obtain ⟨w',hw,rw'⟩:=qau.some_of (v:=v) (o:=valueAt vs k) (by rw [l];exact rel.val k);exact wpAny_getItem_of (qeT ry) dd.mapOf hw (h w' _ (I.tok _) rw')
 ·subst ey;cases (show u=Value.ref b from ry)
  obtain ⟨z,hd,xs,rel,dd⟩:=qgU I.hok e;obtain ⟨w',hw,rw'⟩:=qau.some_of (v:=v) (o:=(atKey xs k).map (·.2)) (by rw [l];exact rel.val k);obtain ⟨p,hp,hp2⟩:=Option.map_eq_some_iff.mp hw;refine wpAny_getItem_heap (tupleKind_room_in1 hu) (qdX I.hok eb) dd hp ?_;rw [hp2];exact h w' _ (I.tok _) rw'
theorem qnt {Q:Value->Shared->Prop} (hu:A.units+1 < cLine) (I:Inv X pins σ H s) (g:qcn H a y o) (ry:qV y u) (h:∀ s',Inv X pins σ H s'->Q (.bool o.isSome) s') :
  wpAny (model X.prog X.w) A (compareOp .In u (.ref a)) Q E s:=by
 rcases g with ⟨kvs,k,e,ey,l⟩ | ⟨kvs,k,b,e,ey,eb,l⟩
 ·subst ey;obtain ⟨z,hd,vs,rel,dd⟩:=qgT I.hok e;refine wpAny_in_of (qeT ry) hd dd.mapOf ?_;rw [<- (rel.val k).isSome_eq,<- l];exact h _ (I.tok _)
 ·subst ey;cases (show u=Value.ref b from ry)
  obtain ⟨z,hd,xs,rel,dd⟩:=qgU I.hok e;refine wpAny_in_heap (tupleKind_room_in1 hu) (qdX I.hok eb) hd dd ?_;have q:=(rel.val k).isSome_eq;rw [Option.isSome_map] at q;rw [<- q,<- l];exact h _ (I.tok _)
theorem qdY {h':Heap} {t':Nat} {ob:HO} (I:Inv X pins σ H s) (mu:Mut (H a)) (hs:Heap.SameBut a s.heap h') (he:∃ q,h'.get? a=some q) (new:zy X.prog X.w (upd H a ob) h' a ob) :
  Inv X pins σ (upd H a ob) { s with heap:=h',toks:=t' } :=
 I.write (x:=a) (e:=a) mu (.inl rfl) (λ b q hb z=>(hs.2 b hb).trans z) he new
theorem qf3 {P:Program} {w:World} {H':Hp} {h':Heap} {kvs:List (Key×V)} {vs:List (Key×Value)} (z:kvs.length<=sizeLine) (hd:(a == sysModules)=false) (rel:KV kvs vs) (dd:h'.DictOf (qC P w) a vs) :
  zy P w H' h' a (.dK kvs):=⟨z,hd,vs,rel,dd⟩
theorem qhC {H':Hp} {Q:Unit->Shared->Prop} (hu:A.units+1 < cLine) (I:Inv X pins σ H s) (g:qmA H a y v H') (ry:qV y u) (rv:qV v r) (h:∀ s',Inv X pins σ H' s'->Q () s') :
  wpAny (model X.prog X.w) A (setItem (.ref a) u r) Q E s:=by
 rcases g with ⟨kvs,k,e,ey,l,eH⟩ | ⟨kvs,k,b,e,ey,eb,l,eH⟩
 ·subst ey eH;obtain ⟨z,hd,vs,rel,dd⟩:=qk8 I.hok e;have hz:vs.length<=sizeLine:=by rw [<- rel.length];exact z
  have hl:(jz kvs k v).length<=sizeLine:=by have:=yO kvs k v;omega
  refine wpAny_setItem_pairs (hsz:=hz) (qeT ry) dd λ h' dd' hs=>h _ ?_
  have he:∃ q,h'.get? a=some q:=let ⟨q,_,_,hq,_⟩:=dd';⟨q,hq⟩;exact qdY I (by rw [e];exact True.intro) hs he (qf3 hl hd (rel.put k rv) dd')
 ·subst ey eH;cases (show u=Value.ref b from ry)
  obtain ⟨z,hd,xs,rel,dd⟩:=qmz I.hok e;have hz:xs.length<=sizeLine:=by rw [<- Paired.length rel];exact z
  have hl:(jz kvs k v).length<=sizeLine:=by have:=yO kvs k v;omega
  refine wpAny_setItem_heap (hsz:=hz) (tupleKind_room_in1 hu) (qdX I.hok eb) dd λ h' dd' hs=>h _ ?_
  obtain ⟨q,es,ep,hq,h2,h3,h4,_,h5⟩:=dd';refine qdY I (by rw [e];exact True.intro) hs ⟨q,hq⟩ ⟨hl,hd,_,(rel.put k eb rv).keeps λ c ys ec=>?_,q,es,ep,hq,h2,h3,h4,h5⟩;rw [qx (qk3 ec e (λ z=>nomatch z))];exact ec
end
def qmB (i:Expr):Prop:=∀ ov iv,subscripted i false ov iv=operate [ov,iv] (getItem ov iv)
theorem qj8 {prog:Program} {w:World} {A:Around} {E:Value->Shared->Prop} {s:Shared} {env:Env} {value slice:Expr} {pos:Pos} {T id:String} {Q:Value->Shared->Prop}
  (hl:typeLookup (.type T) "__getitem__"=pure (some (.builtin id))) (hs:qmB slice)
  (h:wpAny (model prog w) A (eval value env) (λ o s₁=>wpAny (model prog w) A (eval slice env) (λ i s₂=>s₂.TypeIs o T/\wpAny (model prog w) A (getItem o i) Q E s₂) E s₁) E s) :
  wpAny (model prog w) A (eval (.Subscript value slice pos) env) Q E s:=by
 refine Subscript_ (wpAny_mono h (λ o s₁ h₁=>wpAny_mono h₁ (λ i s₂ h₂=>?_) λ _ _ x=>x) λ _ _ x=>x);obtain ⟨hT,h₂⟩:=h₂;unfold subscriptTail;refine Xf ?_;rw [getitemInPython_of_ne hT.not_modules];refine Xf (wpAny_specialOf hT hl ?_);have fin:wpAny (model prog w) A (subscripted slice false o i) (λ r s₃=>wpAny (model prog w) A (letTemporaryGo value o r >>= λ _=>pure r) Q E s₃) E s₂:=by
  rw [hs o i];exact wpAny_operating (wpAny_mono h₂ (λ r s₃ h₃=>Xf (wpAny_letTemporaryGo (Xg h₃))) λ _ _ x=>x)
 first
  | exact Xg (Xf fin)
  | exact Xf (Xg (Xf fin))
  | exact Xf fin
theorem qeU {X:Cx} {pins:List (Addr×Obj)} {σ:St} {H:Hp} {s:Shared} {a:Addr} {y:V} {o:Option V} (I:Inv X pins σ H s) (g:qcn H a y o):s.TypeIs (.ref a) "dict":=by
 rcases g with ⟨kvs,k,e,_,_⟩ | ⟨kvs,k,b,e,_,_,_⟩
 ·obtain ⟨_,_,vs,_,dd⟩:=qgT I.hok e;exact dd.typeIs
 ·obtain ⟨_,_,xs,_,dd⟩:=qgU I.hok e;exact dd.typeIs
def qmC (td ty:TE):TE:=λ σ H Q=>td σ H λ x H1=>ty σ H1 λ y H2=>∃ a v,x=.ref a/\qcn H2 a y (some v)/\Q v H2
def qnu (ty td:TE):TE:=λ σ H Q=>ty σ H λ y H1=>td σ H1 λ x H2=>∃ a o,x=.ref a/\qcn H2 a y o/\Q (.bl o.isSome) H2
def qmD (td ty tv:TE):TS:=λ D σ H=>tv σ H λ v H1=>td σ H1 λ x H2=>ty σ H2 λ y H3=>∃ a H4,x=.ref a/\qmA H3 a y v H4/\D.nx σ H4
section
variable {X:Cx} {o i e value:Expr} {pos pos' tpos:Pos} {td ty tv:TE}
theorem qdZ (hu:X.A.units+1 < cLine) (ho:PE X o td) (hi:PE X i ty) (hs:qmB i):PE X (.Subscript o i pos) (qmC td ty):=by
 intro pins s σ H Q I h;refine qj8 PySem.F.slot_dict_getitem.lookup hs (thn (ho pins s σ H _ I h) λ u s1 ⟨x,H1,I1,rx,q1⟩=>thn (hi pins s1 σ H1 _ I1 q1) λ iv s2 ⟨y,H2,I2,ry,a,v,ex,g,q2⟩=>?_);subst ex;obtain rfl:u=Value.ref a:=rx;exact ⟨qeU I2 g,qhB hu I2 g ry λ w' s3 I3 rw'=>⟨v,H2,I3,rw',q2⟩⟩
theorem qlz (hu:X.A.units+1 < cLine) (hi:PE X i ty) (ho:PE X o td):PC X .In i o (qnu ty td):=by
 intro pins s σ H Q I h;refine thn (hi pins s σ H _ I h) λ iv s1 ⟨y,H1,I1,ry,q1⟩=>thn (ho pins s1 σ H1 _ I1 q1) λ u s2 ⟨x,H2,I2,rx,a,ov,ex,g,q2⟩=>?_
 subst ex;obtain rfl:u=Value.ref a:=rx;exact qnt hu I2 g ry λ s3 I3=>⟨.bl ov.isSome,H2,I3,rfl,q2⟩
theorem qj9 (hu:X.A.units+1 < cLine) (ho:PE X o td) (hi:PE X i ty) (hv:PE X value tv) (hs:swapsWith value (some (.Subscript o i pos')) pos.line X.env=pure false) :
  PS X (.Assign [.Subscript o i pos'] value pos) (qmD td ty tv):=by
 intro pins s σ H D I h;refine wpAny_Assign_Subscript (thn (hv pins s σ H _ I h) λ r s1 ⟨v,H1,I1,rv,q1⟩=>thn (ho pins s1 σ H1 _ I1 q1) λ u s2 ⟨x,H2,I2,rx,q2⟩=>thn (hi pins s2 σ H2 _ I2 q2) λ iv s3 ⟨y,H3,I3,ry,a,H4,ex,g,q3⟩=>?_) hs;subst ex;obtain rfl:u=Value.ref a:=rx;exact qhC hu I3 g ry rv λ s4 I4=>⟨σ,H4,I4,q3⟩
end
theorem qeV {P:Program} {w:World} {H:Hp} (h:Heap) (hb:sysModules < h.objs.size):zy P w H (h.push { cls:=.type "dict",data:=.dict #[] }) h.objs.size (.dK []) :=
 ⟨Nat.zero_le _,beq_eq_false_iff_ne.mpr (Ne.symm (Xo hb)),[],.nil,Heap.DictOf.new h⟩
def qlA:TE:=λ _ H Q=>∀ p,H p=none->Q (.ref p) (upd H p (.dK []))
section
variable {X:Cx} {pos:Pos}
theorem qir:PE X (.Dict [] [] pos) qlA:=λ pins s σ H Q I h =>
 wpAny_Dict_empty ⟨.ref s.heap.objs.size,_,I.laid (a:=s.heap.objs.size) (o:=.dK []) (t':=s.toks) (λ _ _ q=>Xc _ q) (Xe _) (qeV s.heap I.big),rfl,h _ (I.hok.fresh (Xe _))⟩
end
def qf4:List (TE×TE)->St->Hp->(List (V×V)->Hp->Prop)->Prop
 | [],_,H,Q=>Q [] H
 | (tk,tv)::r,σ,H,Q=>tk σ H λ x H1=>tv σ H1 λ y H2=>qf4 r σ H2 λ ps H3=>Q ((x,y)::ps) H3
abbrev VV:List (V×V)->List (Value×Value)->Prop:=Paired λ p q=>qV p.1 q.1/\qV p.2 q.2
def PPs (X:Cx) (pos:Pos) (keys:List (Option Expr)) (values:List Expr) (trs:List (TE×TE)):Prop :=
 ∀ (pins:List (Addr×Obj)) (s:Shared) (σ:St) (H:Hp) (Q:List (V×V)->Hp->Prop),Inv X pins σ H s->qf4 trs σ H Q ->
  wpAny (model X.prog X.w) X.A (evalPairs (pairTrees keys values X.env pos)) (λ vs s'=>∃ ps H',Inv X pins σ H' s'/\VV ps vs/\Q ps H') X.xe s
theorem qka {X:Cx} {pos:Pos}:PPs X pos [] [] []:=λ pins s σ H Q I h=>pairTrees_nil_walk ⟨[],H,I,.nil,h⟩
theorem qco {X:Cx} {pos:Pos} {k v:Expr} {ks:List (Option Expr)} {vs:List Expr} {tk tv:TE} {trs:List (TE×TE)} (hk:PE X k tk) (hv:PE X v tv) (hr:PPs X pos ks vs trs) :
  PPs X pos (some k::ks) (v::vs) ((tk,tv)::trs):=λ pins s σ H Q I h =>
 pairTrees_cons_walk (thn (hk pins s σ H _ I h) λ u s1 ⟨x,H1,I1,rx,q1⟩=>thn (hv pins s1 σ H1 _ I1 q1) λ w2 s2 ⟨y,H2,I2,ry,q2⟩ =>
  thn (hr pins s2 σ H2 _ I2 q2) λ ws s3 ⟨ps,H3,I3,rel,q3⟩=>⟨(x,y)::ps,H3,I3,.cons ⟨rx,ry⟩ rel,q3⟩)
def q9 (kvs more:List (Key×V)):List (Key×V):=more.foldl (λ acc kv=>jz acc kv.1 kv.2) kvs
theorem KV.merge:∀ {more:List (Key×V)} {rs:List (Key×Value)} {kvs:List (Key×V)} {vs:List (Key×Value)},KV more rs->KV kvs vs->KV (q9 kvs more) (merged vs rs):=by
 intro more rs kvs vs r;unfold KV at r;induction r generalizing kvs vs with
 | nil=>intro q;exact q
 | @cons p q ps qs h t ih =>
  intro r0;have e:KV (jz kvs p.1 p.2) (stored vs q.1 q.2):=by
   have:=r0.put p.1 h.2
   rw [<- h.1];exact this
  exact ih e
theorem qaz:∀ (more kvs:List (Key×V)),(q9 kvs more).length<=kvs.length+more.length
 | [],kvs=>by show kvs.length<=kvs.length+0;omega
 | p::r,kvs=>by
  have h1:=qaz r (jz kvs p.1 p.2);have h2:=yO kvs p.1 p.2;show (q9 (jz kvs p.1 p.2) r).length<=_
  rw [Xt];omega
theorem qcp {P:Program} {w:World}:∀ {kvs:List (Key×V)} {ws:List (Value×Value)},VV (kvs.map λ kv=>(kV kv.1,kv.2)) ws->∃ rs,Carries (qC P w) ws rs/\KV kvs rs
 | [],_,r=>by rw [List.map_nil] at r;cases r;exact ⟨[],True.intro,.nil⟩
 | p::kvs,_,r=>by
  rw [List.map_cons] at r;cases r with
  | @cons a b as bs h t =>
   obtain ⟨rs,c,q⟩:=qcp (P:=P) (w:=w) t;obtain ⟨b1,b2⟩:=b;exact ⟨(p.1,b2)::rs,⟨qeT h.1,rfl,c⟩,.cons ⟨rfl,h.2⟩ q⟩
def qmE (trs:List (TE×TE)):TE:=λ σ H Q=>∀ p,H p=none->qf4 trs σ (upd H p (.dK [])) λ ps H2=>H2 p=some (.dK [])/\∃ kvs:List (Key×V),ps=kvs.map (λ kv=>(kV kv.1,kv.2))/\kvs.length<=15/\Q (.ref p) (upd H2 p (.dK (q9 [] kvs)))
theorem qkb {X:Cx} {pos:Pos} {keys:List (Option Expr)} {values:List Expr} {trs:List (TE×TE)} (h:PPs X pos keys values trs) (hall:keys.all (·.isSome)=true) (hl:keys.length=values.length) (h0:keys≠[])
  (h15:keys.length<=15):PE X (.Dict keys values pos) (qmE trs):=by
 intro pins s σ H Q I q;have hn:=I.hok.fresh (Xe s.heap.objs.size);have I1:=I.laid (a:=s.heap.objs.size) (o:=.dK []) (h':=s.heap.push { cls:=.type "dict",data:=.dict #[] }) (t':=s.toks) (λ _ _ q=>Xc _ q) (Xe _) (qeV s.heap I.big);refine wpAny_Dict_walk (knd:=qC X.prog X.w) hall hl h0 h15 (thn (h pins _ σ _ _ I1 (q _ hn)) λ ws s2 ⟨ps,H2,I2,rel,e,kvs,ep,lk,q2⟩=>?_);subst ep;obtain ⟨rs,c,rk⟩:=qcp (P:=X.prog) (w:=X.w) rel;obtain ⟨z,hd,vs0,r0,dd⟩:=qk8 I2.hok e;cases r0
 refine ⟨rs,c,dd,λ h' dd' hs=>⟨.ref s.heap.objs.size,_,?_,rfl,q2⟩⟩;have hz:(q9 [] kvs).length<=sizeLine:=by
  have h1:=qaz kvs [];rw [List.length_nil] at h1;rw [sizeLine_eq];omega
 have he:∃ q,h'.get? s.heap.objs.size=some q:=let ⟨q,_,_,hq,_⟩:=dd';⟨q,hq⟩;exact qdY I2 (by rw [e];exact True.intro) hs he (qf3 hz hd (rk.merge .nil) dd')
end L2
namespace HT
open PySem PyProof.Rows
section
variable {prog:Program} {w:World} {A:Around} {E:Value->Shared->Prop} {s:Shared}
theorem cat_tup {t b:Addr} {vs ws:List Value} {Q:Value->Shared->Prop} (ht:IsTup s.heap t vs.toArray) (hb:IsTup s.heap b ws.toArray) (hv:vs≠[])
  (h1:ws=[]->Q (.ref t) s) (h2:ws≠[]->Q (.ref s.heap.objs.size) { s with heap:=s.heap.push { cls:=.type "tuple",data:=.seq (vs++ws).toArray } })
  (hsz:vs.length+ws.length<=sizeLine):wpAny (model prog w) A (binaryOp .Add (.ref t) (.ref b)) Q E s:=by
 obtain ⟨⟨cls,dd,data,sl⟩,ho,hc,n,hd⟩:=id ht;obtain ⟨⟨cls2,dd2,data2,sl2⟩,ho2,hc2,n2,hd2⟩:=id hb;simp only at hc hd hc2 hd2;subst hc hd hc2 hd2;have e:vs.toArray++ws.toArray=(vs++ws).toArray:=by simp
 by_cases hw:ws=[]
 ·exact concat_meets ⟨_,ho,rfl⟩ ⟨_,ho2,rfl⟩ noFill_tuple_add seq_tuple_add PySem.F.slot_tuple_add PySem.F.entry_tuple_add (PySem.F.args_tuple_add_2 _ _)
   (tuple_addW1 t b vs.toArray ws.toArray n n2 dd dd2 sl sl2 (by simpa using hv) (by simp [hw])) ⟨ho,ho2,h1 hw⟩
 ·refine concat_meets ⟨_,ho,rfl⟩ ⟨_,ho2,rfl⟩ noFill_tuple_add seq_tuple_add PySem.F.slot_tuple_add PySem.F.entry_tuple_add (PySem.F.args_tuple_add_2 _ _)
   (tuple_addW2 t b vs.toArray ws.toArray n n2 dd dd2 sl sl2 (by simpa using hv) (by simpa using hw) (by rw [Xl,Xl];exact hsz)) ⟨ho,ho2,?_⟩
  rw [e];exact h2 hw
def sIx (n d:Nat):Option Int->Nat
 | none=>d
 | some v=>if v < 0 then (v+(n:Int)).toNat else min v.toNat n
theorem sIx_none (n d:Nat):sIx n d none=d:=rfl
theorem sIx_nat (n d k:Nat):sIx n d (some (k:Int))=min k n:=by
 show (if (k:Int) < 0 then ((k:Int)+(n:Int)).toNat else min (k:Int).toNat n)=min k n
 rw [if_neg (by omega),Xx]
end
end HT
namespace L2
open PySem PySem.Spec PyProof.Rows
abbrev TO:=St->Hp->(Option Int->Hp->Prop)->Prop
def PO (X:Cx) (e:Option Expr) (t:TO):Prop :=
 ∀ (pins:List (Addr×Obj)) (s:Shared) (σ:St) (H:Hp) (Q:Option Int->Hp->Prop),Inv X pins σ H s->t σ H Q ->
  wpAny (model X.prog X.w) X.A (evalPart e X.env) (λ u s'=>∃ o H',Inv X pins σ H' s'/\IsPart u o/\Q o H') X.xe s
def qkc:TO:=λ _ H Q=>Q none H
def qmF (t:TE):TO:=λ σ H Q=>t σ H λ x H1=>∃ i,x=.int i/\Q (some i) H1
section
variable {X:Cx} {e:Expr} {te:TE} {lo hi:Option Expr} {tl th:TO} {pos p2:Pos}
theorem qd0:PO X none qkc:=by
 intro pins s σ H Q I h;rw [evalPart_none];exact Xg ⟨none,H,I,.none,h⟩
theorem qd1 (h:PE X e te):PO X (some e) (qmF te):=by
 intro pins s σ H Q I hw;rw [evalPart_some];refine thn (h pins s σ H _ I hw) λ u s1 ⟨x,H1,I1,r1,q1⟩=>?_
 obtain ⟨i,rfl,q⟩:=q1;obtain ⟨t,rfl⟩:=r1;exact ⟨some i,H1,I1,.int i t,q⟩
def SlR (X:Cx) (r:V->Option Int->Option Int->Hp->VK->Prop):Prop :=
 ∀ (pins:List (Addr×Obj)) (s:Shared) (σ:St) (H:Hp) (x:V) (v vl vu:Value) (lo hi:Option Int) (sl:Addr) (Q:VK),Inv X pins σ H s->qV x v->s.heap.IsSliceOf sl vl vu .none->IsPart vl lo->IsPart vu hi->r x lo hi H Q ->
  ∃ T id,typeLookup (.type T) "__getitem__"=pure (some (.builtin id))/\s.TypeIs v T/\wpAny (model X.prog X.w) X.A (getItem v (.ref sl)) (EP X pins σ Q) X.xe s
def tSl (r:V->Option Int->Option Int->Hp->VK->Prop) (te:TE) (tl th:TO):TE:=λ σ H Q=>te σ H λ x H1=>tl σ H1 λ l H2=>th σ H2 λ u H3=>r x l u H3 Q
theorem qcq {r:V->Option Int->Option Int->Hp->VK->Prop} (hr:SlR X r) (he:PE X e te) (hl:PO X lo tl) (hu:PO X hi th):PE X (.Subscript e (.Slice lo hi none p2) pos) (tSl r te tl th):=by
 intro pins s σ H Q I h;refine Subscript_ (thn (he pins s σ H _ I h) λ v s1 ⟨x,H1,I1,r1,q1⟩=>?_);refine wpAny_Slice (thn (hl pins s1 σ H1 _ I1 q1) λ vl s2 ⟨l,H2,I2,pl,q2⟩=>thn (hu pins s2 σ H2 _ I2 q2) λ vu s3 ⟨u,H3,I3,pu,q3⟩=>?_);rw [evalPart_none];refine Xg ?_;have I4:Inv X pins σ H3 { s3 with heap:=s3.heap.push { cls:=.type "slice",data:=.fields #[vl,vu,.none] } }:=I3.kept (t':=s3.toks) λ b ob q=>Xc _ q
 obtain ⟨T,id,hT,ht,hg⟩:=hr pins { s3 with heap:=s3.heap.push { cls:=.type "slice",data:=.fields #[vl,vu,.none] } } σ H3 x v vl vu l u s3.heap.objs.size Q I4 r1 (Heap.IsSliceOf.new ..) pl pu q3;show wpAny (model X.prog X.w) X.A (subscriptTail e (.Slice lo hi none p2) v (.ref s3.heap.objs.size)) (EP X pins σ Q) X.xe { s3 with heap:=s3.heap.push { cls:=.type "slice",data:=.fields #[vl,vu,.none] } }
 exact tail_any (ops:=[.ref s3.heap.objs.size,v]) ht hT hg (by with_unfolding_all rfl)
def qbQ (xs:List V) (lo hi:Option Int):List V:=(xs.drop (HT.sIx xs.length 0 lo)).take (HT.sIx xs.length xs.length hi - HT.sIx xs.length 0 lo)
theorem qbH (xs:List V) (lo hi:Option Int):(qbQ xs lo hi).length<=xs.length:=by
 unfold qbQ;rw [Xi,List.length_drop];omega
end
def ixN (n:Nat) (i:Int):Option Nat:=if 0<=i then (if i < n then some i.toNat else none) else if -(n:Int)<=i then some (i+n).toNat else none
def atI {α:Type} (xs:List α) (i:Int):Option α:=(ixN xs.length i).bind λ j=>xs[j]?
theorem qgV {n:Nat} {i:Int} {j:Nat} (h:ixN n i=some j):seqIndex? i n=some j/\j < n/\-(n:Int)<=i/\i < n:=by
 unfold ixN at h;by_cases h0:0<=i
 ·rw [if_pos h0] at h;by_cases h1:i < n
  ·rw [if_pos h1] at h;have e:i.toNat=j:=Xs h;exact ⟨by rw [seqIndex_of h0 h1,e],by omega,by omega,h1⟩
  ·rw [if_neg h1] at h;cases h
 ·rw [if_neg h0] at h;by_cases h1:-(n:Int)<=i
  ·rw [if_pos h1] at h;have e:(i+n).toNat=j:=Xs h;exact ⟨by rw [seqIndex_neg (by omega) h1,e],by omega,h1,by omega⟩
  ·rw [if_neg h1] at h;cases h
theorem qd2 {α:Type} {xs:List α} {i:Int} {v:α} (h:atI xs i=some v):∃ j,seqIndex? i xs.length=some j/\xs[j]?=some v/\j < xs.length/\-(xs.length:Int)<=i/\i < xs.length:=by
 unfold atI at h;cases e:ixN xs.length i with
 | none=>rw [e] at h;cases h
 | some j =>
  rw [e] at h;obtain ⟨h1,h2,h3,h4⟩:=qgV e;exact ⟨j,h1,h,h2,h3,h4⟩
theorem va {α:Type} {xs:List α} {j:Nat} {v:α} (h:xs[j]?=some v):atI xs (j:Int)=some v:=by
 have hj:j < xs.length:=(List.getElem?_eq_some_iff.mp h).1;have e:ixN xs.length (j:Int)=some j:=by
  unfold ixN;rw [if_pos (by omega),if_pos (by omega)];simp
 unfold atI;rw [e];exact h
theorem vW {α:Type} (xs:List α) (v:α):atI (xs++[v]) (-1)=some v:=by
 have hl:(xs++[v]).length=xs.length+1:=by simp
 have e:ixN (xs++[v]).length (-1)=some xs.length:=by
  unfold ixN;rw [hl,if_neg (by decide),if_pos (by omega)];congr 1
  omega
 unfold atI;rw [e];show (xs++[v])[xs.length]?=some v
 simp
def qkd (b:Expr):Prop:=∀ o i,subscripted b false o i=operate [o,i] (getItem o i)
def IxR (X:Cx) (r:R2):Prop :=
 ∀ (value slice:Expr) (pins:List (Addr×Obj)) (s:Shared) (σ:St) (H:Hp) (x y:V) (v u:Value) (Q:VK),Inv X pins σ H s->qV x v->qV y u->r x y H Q ->
  subscripted slice false v u=operate [v,u] (getItem v u)->wpAny (model X.prog X.w) X.A (subscriptTail value slice v u) (EP X pins σ Q) X.xe s
def MtR (X:Cx) (id:String) (r:V->List V->Hp->VK->Prop):Prop :=
 ∀ (pins:List (Addr×Obj)) (s:Shared) (σ:St) (H:Hp) (x:V) (xs:List V) (v:Value) (us:List Value) (Q:VK),Inv X pins σ H s->qV x v->qN xs us->r x xs H Q ->
  wpAny (model X.prog X.w) X.A (call (.builtin id) (v::us)) (EP X pins σ Q) X.xe s
section
variable {X:Cx} {a b:Expr} {ta tb:TE} {pos:Pos}
theorem qU {r:R2} (hr:IxR X r) (ha:PE X a ta) (hb:PE X b tb) (hs:qkd b):PE X (.Subscript a b pos) (tOp r ta tb):=by
 intro pins s σ H Q I h;exact Subscript_ (qlv ha hb I h λ v u s2 x y H2 I2 rx ry q=>hr a b pins s2 σ H2 x y v u Q I2 rx ry q (hs _ _))
def qnv (K:PySem.W.Frag):R2:=λ x y H Q=>∃ p xs i v,x=.ref p/\y=.int i/\SqL K H p xs/\atI xs i=some v/\Q v H
def qmG (K:PySem.W.Frag):R2:=λ x y H Q=>∃ p xs i v,x=.ref p/\y=.int i/\SqT K H p xs/\atI xs i=some v/\Q v H
def qnw:R2:=λ x y H Q=>∃ z i c,x=.str z/\y=.int i/\z.length<=sizeLine/\atI z.cps.toList i=some c/\Q (.str ⟨#[c]⟩) H
theorem zp:IxR X (qnv X.K):=by
 intro value slice pins s σ H x y v u Q I rx ry h hs;obtain ⟨p,xs,i,z,rfl,rfl,hq,he,q⟩:=h;cases rx
 obtain ⟨t,rfl⟩:=ry;obtain ⟨its,r,pl,hz⟩:=I.list hq;obtain ⟨j,h1,h2,h3,h4,h5⟩:=qd2 he;obtain ⟨w,ew,rw'⟩:=r.get h2;have hl:=r.length;have hn:=vU;have fin:EP X pins σ Q w s:=⟨z,H,I,rw',q⟩;by_cases h0:0<=i
 ·have hj:i.toNat=j:=by
   rw [seqIndex_of h0 h5] at h1;exact Xs h1
  exact item_listR pl.isList h0 (by omega) (by rw [hj];simpa using ew) fin hs
 ·have hj:(i+(its.toArray.size:Int)).toNat=j:=by
   rw [seqIndex_neg (by omega) h4] at h1;rw [Xl,<- hl];exact Xs h1
  exact subscriptTail_builtinR (x:=w) pl.isList.typeIs slot_list_getitem.lookup
   (wpAny_getItem_list_neg (Q:=λ r s'=>r=w/\EP X pins σ Q r s') pl.isList (by omega) (by rw [Xl] <;> omega) (by omega) (by rw [hj];simpa using ew) ⟨rfl,fin⟩) hs
theorem za:IxR X (qmG X.K):=by
 intro value slice pins s σ H x y v u Q I rx ry h hs;obtain ⟨p,xs,i,z,rfl,rfl,hq,he,q⟩:=h;cases rx
 obtain ⟨t,rfl⟩:=ry;obtain ⟨its,r,pl,hz⟩:=I.tuple hq;obtain ⟨j,h1,h2,h3,h4,h5⟩:=qd2 he;obtain ⟨w,ew,rw'⟩:=r.get h2;have hl:=r.length;have hn:=vU;have fin:EP X pins σ Q w s:=⟨z,H,I,rw',q⟩;exact subscriptTail_builtinR (x:=w) pl.typeIs slot_tuple_getitem.lookup
  (getItem_tuple (j:=j) (Q:=λ r s'=>r=w/\EP X pins σ Q r s') pl (by omega) (by omega) (by rw [Xl,<- hl];exact h1) (by simpa using ew) ⟨rfl,fin⟩) hs
theorem qlB:IxR X qnw:=by
 intro value slice pins s σ H x y v u Q I rx ry h hs;obtain ⟨z,i,c,rfl,rfl,hz,he,q⟩:=h;obtain ⟨t,rfl⟩:=rx;obtain ⟨t',rfl⟩:=ry;obtain ⟨j,h1,h2,h3,h4,h5⟩:=qd2 he;have hl:z.cps.toList.length=z.length:=by simp [Str.length]
 rw [hl] at h1 h4 h5;have hn:=vU;exact tail_any (typeIs_str s z t) slot_str_getitem.lookup (getItem_str (c:=c) (by
  have e1:decide (i < -(2 ^ 63:Int))=false:=Xu (by omega);have e2:decide (i ≥ 2 ^ 63)=false:=Xu (by omega);rw [e1,e2,Bool.or_false]) (by rw [h1];simpa using h2) ⟨.str ⟨#[c]⟩,H,I.tok _,⟨_,rfl⟩,q⟩) hs
theorem qf5 (its:List Value) (n j:Nat) (u:Value):Obj.mapSeq (·.setIfInBounds j u) { cls:=.type "list",data:=.seq its.toArray n }={ cls:=.type "list",data:=.seq (its.set j u).toArray n }:=by
 simp [Obj.mapSeq]
theorem Inv.lst {pins:List (Addr×Obj)} {σ:St} {H:Hp} {s:Shared} {p:Addr} {xs:List V} (I:Inv X pins σ H s) (h:H p=some (.lst xs)) :
  ∃ (its:List Value) (n:Nat),qN xs its/\s.heap.get? p=some { cls:=.type "list",data:=.seq its.toArray n }/\xs.length<=sizeLine:=by
 obtain ⟨z,its,n,r,e⟩:=I.hok p _ h;exact ⟨its,n,r,e,z⟩
theorem Inv.lstUpd {pins:List (Addr×Obj)} {σ:St} {H:Hp} {s:Shared} {p:Addr} {xs ys:List V} {its its':List Value} {n n':Nat} {f:Obj->Obj} (I:Inv X pins σ H s) (h:H p=some (.lst xs))
  (ho:s.heap.get? p=some { cls:=.type "list",data:=.seq its.toArray n }) (hf:f { cls:=.type "list",data:=.seq its.toArray n }={ cls:=.type "list",data:=.seq its'.toArray n' }) (r:qN ys its') (hz:ys.length<=sizeLine) (t:Nat) :
  Inv X pins σ (upd H p (.lst ys)) { s with heap:=s.heap.update p f,toks:=t }:=by
 have e:(s.heap.update p f).get? p=some { cls:=.type "list",data:=.seq its'.toArray n' }:=by
  rw [Heap.get?_update_self f ho (by rw [hf] <;> rfl),hf]
 refine I.write (x:=p) (e:=p) (by rw [h];trivial) (.inl rfl) (λ b u hb q=>(Heap.get?_update_other _ _ (Ne.symm hb)).trans q) ⟨_,e⟩ ?_;exact ⟨hz,its',n',r,e⟩
def qmH:V->V->V->Hp->(Hp->Prop)->Prop:=λ o i v H Q=>∃ p xs k j,o=.ref p/\i=.int k/\H p=some (.lst xs)/\ixN xs.length k=some j/\Q (upd H p (.lst (xs.set j v)))
theorem qaY:qmp X qmH:=by
 intro pins s σ H o i v ov iv u Q I ro ri rv h;obtain ⟨p,xs,k,j,rfl,rfl,hp,hj,q⟩:=h;cases ro
 obtain ⟨t,rfl⟩:=ri;obtain ⟨its,n,r,ho,hz⟩:=I.lst hp;obtain ⟨h1,h2,h3,h4⟩:=qgV hj;have hl:=r.length;have hn:=vU;have I':Inv X pins σ (upd H p (.lst (xs.set j v))) { s with heap:=s.heap.update p (Obj.mapSeq (·.setIfInBounds j u)) } :=
  I.lstUpd hp ho (qf5 its n j u) (r.set rv j) (by rw [List.length_set];exact hz) s.toks
 by_cases h0:0<=k
 ·have hk:k.toNat=j:=by
   rw [seqIndex_of h0 h4] at h1;exact Xs h1
  exact W.ki_setAt ho h0 (by omega) (by rw [Xl,<- hl];exact h4) (by rw [hk];exact ⟨_,I',q⟩)
 ·have hk:(k+(its.toArray.size:Int)).toNat=j:=by
   rw [seqIndex_neg (by omega) h3] at h1;rw [Xl,<- hl];exact Xs h1
  exact W.ki_setBack ho (by omega) (by rw [Xl,<- hl];exact h3) (by omega) (by rw [hk];exact ⟨_,I',q⟩)
theorem qd3 (lo hi:Option Int) (n:Nat):(sliceBounds lo hi none n).1=((HT.sIx n 0 lo:Nat):Int)/\(sliceBounds lo hi none n).2.1=((HT.sIx n n hi:Nat):Int)/\(sliceBounds lo hi none n).2.2=1:=by
 refine ⟨?_,?_,rfl⟩
 ·cases lo with
  | none=>simp [sliceBounds,HT.sIx]
  | some i =>
   simp only [sliceBounds,HT.sIx,Option.getD_none,show (1:Int) > 0 by decide,if_true];by_cases h:i < 0
   ·simp only [h,if_true] <;> omega
   ·simp only [h,if_false] <;> omega
 ·cases hi with
  | none=>simp [sliceBounds,HT.sIx]
  | some i =>
   simp only [sliceBounds,HT.sIx,Option.getD_none,show (1:Int) > 0 by decide,if_true];by_cases h:i < 0
   ·simp only [h,if_true] <;> omega
   ·simp only [h,if_false] <;> omega
theorem qdd (its:List Value) (lo hi:Option Int):slicePick its.toArray lo hi none=((its.drop (HT.sIx its.length 0 lo)).take (HT.sIx its.length its.length hi - HT.sIx its.length 0 lo)).toArray:=by
 obtain ⟨h1,h2,h3⟩:=qd3 lo hi its.toArray.size;unfold slicePick;rw [h1,h2,h3];simp only [sliceRange_one,pick_run,Xl] <;> rfl
def qnx (K:PySem.W.Frag):V->Option Int->Option Int->Hp->VK->Prop:=λ x lo hi H Q=>∃ a xs,x=.ref a/\SqL K H a xs/\∀ p,H p=none->Q (.ref p) (upd H p (.lst (qbQ xs lo hi)))
theorem qd4:SlR X (qnx X.K):=by
 intro pins s σ H x v vl vu lo hi sl Q I rx hs pl pu h;obtain ⟨a,xs,rfl,hx,q⟩:=h;cases rx
 obtain ⟨its,r,ht,hz⟩:=I.list hx;have hlen:=r.length;refine ⟨"list",_,slot_list_getitem.lookup,ht.isList.typeIs,?_⟩;refine wpAny_getItem_list_slice ht.isList hs pl pu .none (by simp) ?_ (by rw [Xl] <;> omega);rw [qdd,<- hlen];refine ⟨.ref s.heap.objs.size,_,I.laid (t':=s.toks) (o:=.lst (qbQ xs lo hi)) (λ b ob q=>Xc _ q) (Xe _) ?_,rfl,q _ (I.hok.fresh (Xe _))⟩;exact ⟨Nat.le_trans (qbH xs lo hi) hz,_,0,(r.drop (HT.sIx xs.length 0 lo)).take (HT.sIx xs.length xs.length hi - HT.sIx xs.length 0 lo),Xk _ rfl⟩
def qis:V->Bool
 | .non=>true
 | .bl _=>true
 | .int _=>true
 | .str _=>true
 | _=>false
def eqV:V->V->Bool
 | .non,.non=>true
 | .bl a,.bl b=>a == b
 | .bl a,.int b=>(if a then 1 else 0) == b
 | .int a,.bl b=>a == (if b then 1 else 0)
 | .int a,.int b=>a == b
 | .str a,.str b=>a == b
 | _,_=>false
theorem qlC {A:Around} {s:Shared} {y x:V} {u v:Value} (ry:qV y u) (rx:qV x v) (fy:qis y=true) (fx:qis x=true):SeqAt.EqAt A s u v (eqV y x):=by
 cases y with
 | non =>
  cases ry
  cases x with
  | non=>cases rx;exact SeqAt.EqAt.same _
  | bl b=>cases rx;exact SeqAt.EqAt.none_bool b
  | int b=>obtain ⟨t,rfl⟩:=rx;exact SeqAt.EqAt.none_int b t
  | str b=>obtain ⟨t,rfl⟩:=rx;exact SeqAt.EqAt.none_str b t
  | _=>exact absurd (show false=true from fx) Bool.false_ne_true
 | bl a =>
  cases ry
  cases x with
  | non=>cases rx;exact SeqAt.EqAt.bool_none a
  | bl b=>cases rx;exact SeqAt.EqAt.bool_bool a b
  | int b=>obtain ⟨t,rfl⟩:=rx;exact SeqAt.EqAt.bool_int a b t
  | str b=>obtain ⟨t,rfl⟩:=rx;exact SeqAt.EqAt.bool_str a b t
  | _=>exact absurd (show false=true from fx) Bool.false_ne_true
 | int a =>
  obtain ⟨t',rfl⟩:=ry;cases x with
  | non=>cases rx;exact SeqAt.EqAt.int_none a t'
  | bl b=>cases rx;exact SeqAt.EqAt.int_bool a t' b
  | int b=>obtain ⟨t,rfl⟩:=rx;exact SeqAt.EqAt.int_int a t' b t
  | str b=>obtain ⟨t,rfl⟩:=rx;exact SeqAt.EqAt.int_str a t' b t
  | _=>exact absurd (show false=true from fx) Bool.false_ne_true
 | str a =>
  obtain ⟨t',rfl⟩:=ry;cases x with
  | non=>cases rx;exact SeqAt.EqAt.str_none a t'
  | bl b=>cases rx;exact SeqAt.EqAt.str_bool a t' b
  | int b=>obtain ⟨t,rfl⟩:=rx;exact SeqAt.EqAt.str_int a t' b t
  | str b=>obtain ⟨t,rfl⟩:=rx;exact SeqAt.EqAt.str_str a t' b t
  | _=>exact absurd (show false=true from fx) Bool.false_ne_true
 | _=>exact absurd (show false=true from fy) Bool.false_ne_true
theorem qd5:OpR X (compareOp .NotIn) (λ x y H Q=>∃ i j,x=.str i/\y=.str j/\Q (.bl (!(!(Builtin.Str.occurrences j i 0 j.length 1).isEmpty))) H):=by
 intro pins s σ H x y v u Q I rx ry h;obtain ⟨i,j,rfl,rfl,q⟩:=h;obtain ⟨t,rfl⟩:=rx;obtain ⟨t',rfl⟩:=ry;exact notIn_str ⟨.bl _,H,I,rfl,q⟩
theorem qH:jh X (.builtin "len") (λ xs H Q=>∃ p ys,xs=[.ref p]/\(SqL X.K H p ys∨SqT X.K H p ys)/\Q (.int ys.length) H):=by
 intro pins s σ H xs us Q I r h;obtain ⟨p,ys,rfl,hq,q⟩:=h;obtain ⟨u,rfl,rx⟩:=yr r;cases rx
 have hn:=vU;rcases hq with hq | hq
 ·obtain ⟨its,r',pl,hz⟩:=I.list hq;have hlen:=r'.length;exact Calls.call_len_list pl.isList (by simp only [Xl] <;> omega) ⟨.int ys.length,H,I.tok _,⟨s.toks+1,by rw [Xl,hlen]⟩,q⟩
 ·obtain ⟨its,r',pl,hz⟩:=I.tuple hq;have hlen:=r'.length;exact len_tuple pl (by simp only [Xl] <;> omega) ⟨.int ys.length,H,I.tok _,⟨s.toks+1,by rw [Xl,hlen]⟩,q⟩
theorem y3:jh X (.builtin "len") (λ xs H Q=>∃ z,xs=[.str z]/\z.length<=sizeLine/\Q (.int z.length) H):=by
 intro pins s σ H xs us Q I r h;obtain ⟨z,rfl,hz,q⟩:=h;obtain ⟨u,rfl,t,rfl⟩:=yr r;have hn:=vU;exact len_str (by omega) ⟨.int z.length,H,I.tok _,⟨_,rfl⟩,q⟩
theorem yt:jh X (.type "list") (λ xs H Q=>∃ p ys,xs=[.ref p]/\(SqL X.K H p ys∨SqT X.K H p ys)/\∀ l,H l=none->Q (.ref l) (upd H l (.lst ys))):=by
 intro pins s σ H xs us Q I r h;obtain ⟨p,ys,rfl,hq,q⟩:=h;obtain ⟨u,rfl,rx⟩:=yr r;cases rx
 have fin:∀ (its:List Value),qN ys its->ys.length<=sizeLine->∀ (h':Heap) (c':Nat),(∀ b o',s.heap.get? b=some o'->h'.get? b=some o') ->
   h'.get? s.heap.objs.size=some { cls:=.type "list",dict:=none,data:=.seq its.toArray c',slots:=#[] }->EP X pins σ Q (.ref s.heap.objs.size) { s with heap:=h' }:=λ its r' hz h' c' kp e =>
  ⟨.ref s.heap.objs.size,_,I.laid (t':=s.toks) kp (Xe _) (show zy X.prog X.w _ h' _ (.lst ys) from ⟨hz,its,c',r',e⟩),rfl,q _ (I.hok.fresh (Xe _))⟩
 rcases hq with hq | hq
 ·obtain ⟨its,r',pl,hz⟩:=I.list hq;have hlen:=r'.length;obtain ⟨o,ho,hc,n,hd⟩:=pl.isList;exact call_list_seq p (.inl rfl) ho hc hd (λ h' c' kp e=>fin its r' hz h' c' kp e) (by simp only [Xl] <;> omega)
 ·obtain ⟨its,r',pl,hz⟩:=I.tuple hq;have hlen:=r'.length;obtain ⟨o,ho,hc,n,hd⟩:=pl;exact call_list_seq p (.inr rfl) ho hc hd (λ h' c' kp e=>fin its r' hz h' c' kp e) (by simp only [Xl] <;> omega)
theorem jR:jh X (.type "tuple") (λ xs H Q=>∃ p ys,xs=[.ref p]/\((SqL X.K H p ys/\∀ l,H l=none->Q (.ref l) (upd H l (.tup ys)))∨(SqT X.K H p ys/\Q (.ref p) H))):=by
 intro pins s σ H xs us Q I r h;obtain ⟨p,ys,rfl,h⟩:=h;obtain ⟨u,rfl,rx⟩:=yr r;cases rx
 rcases h with ⟨hq,q⟩ | ⟨hq,q⟩
 ·obtain ⟨its,r',pl,hz⟩:=I.list hq;have hlen:=r'.length;refine call_tuple_list pl.isList (λ h' kp=>?_) (by simp only [Xl] <;> omega);have I1:Inv X pins σ H { s with heap:=h' }:=I.kept (t':=s.toks) kp;have I2:Inv X pins σ (upd H h'.objs.size (.tup ys)) { s with heap:=h'.push { cls:=.type "tuple",data:=.seq its.toArray } } :=
   I1.laid (t':=s.toks) (λ b o e=>Xc _ e) (Xe _) (show zy X.prog X.w _ _ _ (.tup ys) from ⟨hz,its,r',IsTup.new _ _⟩)
  exact ⟨.ref h'.objs.size,_,I2,rfl,q _ (I1.hok.fresh (Xe _))⟩
 ·obtain ⟨its,r',pl,hz⟩:=I.tuple hq;exact call_tuple_same pl ⟨.ref p,H,I,rfl,q⟩
def tyV (K:PySem.W.Frag) (T:String) (x:V) (H:Hp):Prop:=match x with
 | .str _=>T="str"
 | .int _=>T="int"
 | .ref p=>(T="list"/\∃ xs,SqL K H p xs)∨(T="tuple"/\∃ o,K.lookup p=some o/\o.cls=.type "tuple"/\o.dict=none) ∨
   (T="dict"/\((∃ kvs,H p=some (.dK kvs))∨∃ kvs,H p=some (.dT kvs)))∨(T="set"/\∃ S n,H p=some (.set S n))
 | _=>False
theorem qit {pins:List (Addr×Obj)} {σ:St} {H:Hp} {s:Shared} {T:String} {x:V} {v:Value} (I:Inv X pins σ H s) (r:qV x v) (ty:tyV X.K T x H) :
  s.TypeIs v T/\∀ a,v=.ref a->∃ ob,s.heap.get? a=some ob/\ob.dict=none:=by
 cases x with
 | str z =>
  obtain ⟨t,rfl⟩:=r;cases (show T="str" from ty)
  exact ⟨typeIs_str s z t,λ _ e=>nomatch e⟩
 | int i =>
  obtain ⟨t,rfl⟩:=r;cases (show T="int" from ty)
  exact ⟨typeIs_int s i t,λ _ e=>nomatch e⟩
 | ref p =>
  cases r
  rcases ty with ⟨rfl,xs,hq⟩ | ⟨rfl,o,hk,hc,hd⟩ | ⟨rfl,hk⟩ | ⟨rfl,S,n,hk⟩
  ·obtain ⟨its,_,pl,_⟩:=I.list hq;refine ⟨pl.isList.typeIs,λ a e=>?_⟩;cases e
   obtain ⟨o,n,e,c,hd,_⟩:=pl;exact ⟨o,e,hd⟩
  ·refine ⟨⟨o,I.kIn p o hk,hc⟩,λ a e=>?_⟩;cases e
   exact ⟨o,I.kIn _ o hk,hd⟩
  ·have z:∃ o,s.heap.get? p=some o/\o.ExactDict:=by
    rcases hk with ⟨kvs,hk⟩ | ⟨kvs,hk⟩
    ·obtain ⟨_,_,_,_,o,_,_,e,ex,_⟩:=I.hok p _ hk;exact ⟨o,e,ex⟩
    ·obtain ⟨_,_,_,_,o,_,_,e,ex,_⟩:=I.hok p _ hk;exact ⟨o,e,ex⟩
   obtain ⟨o,e,ex⟩:=z;refine ⟨⟨o,e,ex.1⟩,λ a e2=>?_⟩;cases e2
   exact ⟨o,e,ex.2.1⟩
  ·obtain ⟨o,_,_,_,e,ex,_⟩:=I.hok p _ hk;refine ⟨⟨o,e,ex.1⟩,λ a e2=>?_⟩;cases e2
   exact ⟨o,e,ex.2.1⟩
 | _=>exact False.elim ty
def qny (K:PySem.W.Frag) (T:String) (r:V->List V->Hp->VK->Prop) (to:TE):TE:=λ σ H Q=>to σ H λ x H1=>tyV K T x H1/\r x [] H1 Q
def tBM (K:PySem.W.Frag) (T:String) (r:V->List V->Hp->VK->Prop) (to:TE) (t:TA):TE:=λ σ H Q=>to σ H λ x H1=>tyV K T x H1/\t σ H1 λ xs H2=>r x xs H2 Q
variable {o e:Expr} {es:List Expr} {to:TE} {t:TA} {name:Str} {apos cpos:Pos} {T id:String} {r:V->List V->Hp->VK->Prop}
theorem qcr (pa:PlainAttrs T) (slot:Slot T name id) (hty:typeOf (.builtin id)=pure (.type "method_descriptor")) (hm:MtR X id r) (ho:PE X o to)
  (hbase:attributeBase o name X.env (eval o X.env)=eval o X.env:=by rfl) (hline:(apos.endLine == cpos.line)=true:=by rfl):PE X (.Call (.Attribute o name apos) [] [] cpos) (qny X.K T r to):=by
 intro pins s σ H Q I h;refine wpAny_Call_method0_late hbase hline (thn (ho pins s σ H _ I h) λ v s1 ⟨x,H1,I1,r1,ty,q1⟩=>?_);obtain ⟨h1,h2⟩:=qit I1 r1 ty;exact ⟨T,id,pa,slot,hty,h1,h2,Calls.callWith_builtin rfl (PySem.evalArgs_none (hm pins s1 σ H1 x [] v [] Q I1 r1 .nil q1))⟩
theorem y2 (pa:PlainAttrs T) (slot:Slot T name id) (hty:typeOf (.builtin id)=pure (.type "method_descriptor")) (hm:MtR X id r) (ho:PE X o to) (ha:PA X (e::es) t)
  (hbase:attributeBase o name X.env (eval o X.env)=eval o X.env:=by rfl)
  (hfew:((backTo cpos (starEach (e::es) X.env)).all (λ x=>!x.1) && (backToKw cpos (keywordEach [] X.env)).all (λ x=>x.1.isSome)
   && decide ((e::es).length+([]:List Keyword).length+(if ([]:List Keyword).isEmpty then 0 else 1) < 30))=true:=by rfl)
  (hline:(apos.endLine == cpos.line)=true:=by rfl) (hs:starEach (e::es) X.env=(false,eval e X.env)::starEach es X.env:=by rfl) (hplain:(backTo cpos (starEach es X.env)).any (·.1)=false:=by rfl) :
  PE X (.Call (.Attribute o name apos) (e::es) [] cpos) (tBM X.K T r to t):=by
 intro pins s σ H Q I h;refine wpAny_Call_method_late hbase hfew hline rfl (thn (ho pins s σ H _ I h) λ v s1 ⟨x,H1,I1,r1,ty,q1⟩=>?_);obtain ⟨h1,h2⟩:=qit I1 r1 ty;refine ⟨T,id,pa,slot,hty,h1,h2,?_⟩;have hA:=ha cpos pins s1 σ H1 _ I1 q1;rw [hs] at hA ⊢;refine Calls.callWith_builtin (by show (false || (backTo cpos (starEach es X.env)).any (·.1))=false;rw [hplain] <;> rfl) (Calls.evalArgs_plain ?_);exact thn hA λ us s2 ⟨vs,H2,I2,r2,q2⟩=>hm pins s2 σ H2 x vs v us Q I2 r1 r2 q2
end
def MtM (X:Cx) (id:String) (r:V->List V->Hp->VK->Prop):Prop :=
 ∀ (pins:List (Addr×Obj)) (s:Shared) (σ:St) (H:Hp) (x:V) (xs:List V) (v:Value) (us:List Value) (Q:VK),Inv X pins σ H s->qV x v->qN xs us->r x xs H Q ->
  wpAny (model X.prog X.w) X.A (call (.builtin id) (v::us)) (EP X pins σ Q) X.xe s
theorem qN.one:∀ {x:V} {us:List Value},qN [x] us->∃ u,us=[u]/\qV x u
 | _,_,.cons r .nil=>⟨_,rfl,r⟩
theorem qN.zero:∀ {us:List Value},qN [] us->us=[]
 | _,.nil=>rfl
theorem qN.dropLast {xs:List V} {us:List Value} (h:qN xs us):qN xs.dropLast us.dropLast:=by
 induction h with
 | nil=>exact .nil
 | cons r t ih =>
  cases t with
  | nil=>exact .nil
  | cons q t'=>exact .cons r ih
theorem qf6 {α:Type} (l:List α):l.eraseIdx (l.length - 1)=l.dropLast:=by
 induction l with
 | nil=>rfl
 | cons a r ih =>
  cases r with
  | nil=>rfl
  | cons b r =>
   have e:(a::b::r).length - 1=((b::r).length - 1)+1:=by
    have h1:(a::b::r).length=r.length+2:=rfl;have h2:(b::r).length=r.length+1:=rfl;omega
   rw [e,List.eraseIdx_cons_succ,ih]
   all_goals rfl
section
variable {X:Cx} {pins:List (Addr×Obj)} {σ:St} {H:Hp} {s:Shared} {l b:Addr} {xs ys zs:List V}
theorem Inv.lset {its its':List Value} {n:Nat} {f:Array Value->Array Value} {t':Nat} (I:Inv X pins σ H s) (hH:H l=some (.lst xs))
  (e:s.heap.get? l=some { cls:=.type "list",data:=.seq its.toArray n }) (hf:f its.toArray=its'.toArray) (hv:qN ys its') (hz:ys.length<=sizeLine) :
  Inv X pins σ (upd H l (.lst ys)) { s with heap:=s.heap.update l (Obj.mapSeq f),toks:=t' }:=by
 have q:=PySem.IsL.update e f;rw [hf] at q;refine I.write (x:=l) (e:=l) (by rw [hH];exact trivial) (.inl rfl) (λ b' u hb hu=>(Heap.get?_update_other s.heap (Obj.mapSeq f) (Ne.symm hb)).trans hu) ⟨_,q⟩ ?_;exact ⟨hz,its',_,hv,q⟩
theorem Inv.lnew {its:List Value} {t':Nat} (I:Inv X pins σ H s) (hv:qN ys its) (hz:ys.length<=sizeLine) :
  Inv X pins σ (upd H s.heap.objs.size (.lst ys)) { s with heap:=s.heap.push { cls:=.type "list",data:=.seq its.toArray },toks:=t' } :=
 I.laid (λ _ _ q=>Xc _ q) (Xe _) ⟨hz,its,0,hv,Xk _ rfl⟩
theorem Inv.fresh (I:Inv X pins σ H s):H s.heap.objs.size=none:=I.hok.fresh (Xe _)
theorem Inv.lstM (I:Inv X pins σ H s) (hH:H l=some (.lst xs)):xs.length<=sizeLine/\∃ (its:List Value) (n:Nat),qN xs its/\xs.length=its.length/\s.heap.get? l=some { cls:=.type "list",data:=.seq its.toArray n }:=by
 obtain ⟨z,its,n,r,e⟩:=I.hok l _ hH;exact ⟨z,its,n,r,r.length,e⟩
end
section
variable {X:Cx}
def qke:V->List V->Hp->VK->Prop:=λ x vs H Q=>∃ l xs y,x=.ref l/\vs=[y]/\H l=some (.lst xs)/\xs.length < sizeLine/\Q .non (upd H l (.lst (xs++[y])))
theorem zA:MtM X "list.append" qke:=by
 intro pins s σ H x vs v us Q I rx rv h;obtain ⟨l,xs,y,rfl,rfl,hH,hz,q⟩:=h;cases rx
 obtain ⟨u,rfl,ru⟩:=rv.one;obtain ⟨z,its,n,r,hl,e⟩:=I.lstM hH;refine call_meets F.slot_list_append ⟨_,e,rfl⟩ F.entry_list_append (F.args_list_append_2 _ _) (PySem.list_append l its.toArray n u (by rw [Xl];omega)) ⟨e,?_⟩;refine ⟨.non,_,I.lset (its':=its++[u]) hH e (by simp) (r.append (.cons ru .nil)) ?_,rfl,q⟩;rw [Xd,Xj];omega
def qnz:V->List V->Hp->VK->Prop:=λ x vs H Q=>∃ l xs y,x=.ref l/\vs=[]/\H l=some (.lst xs)/\xs[xs.length - 1]?=some y/\Q y (upd H l (.lst xs.dropLast))
theorem qd6:MtM X "list.pop" qnz:=by
 intro pins s σ H x vs v us Q I rx rv h;obtain ⟨l,xs,y,rfl,rfl,hH,hy,q⟩:=h;cases rx
 have hus:=rv.zero;subst hus;obtain ⟨z,its,n,r,hl,e⟩:=I.lstM hH;obtain ⟨u,hu,ru⟩:=r.get hy;have hy':its.toArray[its.toArray.size - 1]?=some u:=by
  show its.toArray[its.length - 1]?=some u
  rw [<- Array.getElem?_toList,<- hl];exact hu
 refine call_meets F.slot_list_pop ⟨_,e,rfl⟩ F.entry_list_pop (F.args_list_pop_1 _) (MeetsSeq.list_pop_last l its.toArray n u hy' (by rw [Xl];omega)) ⟨e,?_⟩;refine ⟨y,_,I.lset (its':=its.dropLast) hH e ?_ r.dropLast ?_,ru,q⟩
 ·show its.toArray.eraseIdxIfInBounds (its.toArray.size - 1)=its.dropLast.toArray
  rw [Xl,List.eraseIdxIfInBounds_toArray,qf6]
 ·rw [List.length_dropLast];omega
def qlD:V->List V->Hp->VK->Prop:=λ x vs H Q=>∃ l xs,x=.ref l/\vs=[]/\H l=some (.lst xs)/\Q .non (upd H l (.lst []))
theorem qiu:MtM X "list.clear" qlD:=by
 intro pins s σ H x vs v us Q I rx rv h;obtain ⟨l,xs,rfl,rfl,hH,q⟩:=h;cases rx
 have hus:=rv.zero;subst hus;obtain ⟨z,its,n,r,hl,e⟩:=I.lstM hH;refine call_meets F.slot_list_clear ⟨_,e,rfl⟩ F.entry_list_clear (F.args_list_clear_1 _) (AutoSeq1.list_clear_list_0 l its.toArray n (by rw [Xl];omega)) ⟨e,?_⟩;exact ⟨.non,_,I.lset (its':=[]) (ys:=[]) hH e rfl .nil (Nat.zero_le _),rfl,q⟩
def qnA:R2:=λ x y H Q=>∃ l b xs zs,x=.ref l/\y=.ref b/\H l=some (.lst xs)/\H b=some (.lst zs)/\xs.length+zs.length<=sizeLine/\∀ p,H p=none->Q (.ref p) (upd H p (.lst (xs++zs)))
theorem qf7:OpR X (binaryOp .Add) qnA:=by
 intro pins s σ H x y v u Q I rx ry h;obtain ⟨l,b,xs,zs,rfl,rfl,hH,hB,hz,q⟩:=h;cases rx
 cases ry
 obtain ⟨z,its,n,r,hl,e⟩:=I.lstM hH;obtain ⟨z2,its2,n2,r2,hl2,e2⟩:=I.lstM hB;refine PySem.P.add_list e e2 ?_ (by rw [Xl,Xl];omega);have ea:its.toArray++its2.toArray=(its++its2).toArray:=by simp
 rw [ea];exact ⟨.ref _,_,I.lnew (t':=s.toks) (r.append r2) (by rw [Xd];omega),rfl,q _ I.fresh⟩
end
end L2
namespace Att
open PySem PySem.W PySem.Calls PyProof.Rows
theorem qbR {P:Params} {h:Heap}:∀ (ns:List Int) (vs:List Value),WellAll P h vs (ns.map WData.int)->IntsAre vs ns:=by
 intro ns;induction ns with
 | nil =>
  intro vs w;rw [List.map_nil] at w;cases w
  exact .nil
 | cons n ns ih =>
  intro vs w;rw [List.map_cons] at w;cases w with
  | cons a b =>
   cases a
   exact .cons _ _ (ih _ b)
theorem qhD {l:OpenLaw} {n:Nat} (hn:l.most=some n) {P:Params} {h:Heap} {args:List WData} {vals:List Value}
  (hpre:l.row.toRowW.claim.pre args=true) (hwl:WellAll P h vals args) :
  ∃ a vs ns,vals=[Value.ref a]/\args=[WData.list (ns.map WData.int)]/\h.get? a=some { cls:=.type "list",data:=.seq vs.toArray }/\IntsAre vs ns/\ns.length<=n:=by
 have hsh:WShape.hasAll [] args [.list .int]=true:=(pre_splitW hpre).1;have hc:l.pre.holds [] { args:=args }=true:=(pre_splitW hpre).2;obtain ⟨d,r,rfl,h1,h2⟩:=hasAllW_cons hsh;obtain rfl:=hasAllW_nil h2;obtain ⟨xs,rfl,h3⟩:=hasW_list h1;obtain ⟨ns,rfl⟩:=items_int h3;have hlen:ns.length<=n:=by
  unfold OpenLaw.pre at hc;have h4:(WTm.not (.lt (.lit (.int (n:Int))) (.len (.arg 0)))).holds [] { args:=[.list (ns.map .int)] }=true:=by
   have h4:=(holds_andW hc).1;rw [hn] at h4;exact h4
  have h5:=condW_of h4 (w_not (w_lt w_lit (w_len_list (w_arg rfl))));rw [Xa] at h5;refine Nat.le_of_not_lt λ q=>?_
  have q':(n:Int) < ((ns.length:Nat):Int):=by omega
  first
   | (rw [Xv q'] at h5;exact absurd h5 (by decide))
   | (simp at h5;omega)
 cases hwl with
 | cons w1 w2 =>
  cases w2
  cases w1 with
  | list ho hall=>exact ⟨_,_,ns,rfl,rfl,ho,qbR ns _ hall,hlen⟩
theorem qhE (l:OpenLaw) (args:List WData):l.row.toRowW.claim.post args (.bool true) args=true :=
 postW_of (r:=l.row.toRowW) (X:=(true == true))
  (show WShape.has [] (.bool true) .bool=true by first | rfl | decide | simp [WShape.has,WShape.arms,WShape.armsAll])
  (show (WTm.eq .res (.lit (.bool true))).value [] { args:=args,res:=some (.bool true),after:=args }=some (.bool (true == true)) from w_eq_bool (w_res rfl) w_lit) rfl
theorem attach_call {l:OpenLaw} {n:Nat} {q:Program} {loose:List Str} {XP:(Str->Option Value)->Heap->Prop} {YP:World->Heap->Prop} {d:DefRec}
  (hn:l.most=some n) (hdf:d.params.defaults=[])
  (call:∀ (w:World) (s₀ s₁:Shared) (mg mb:Str->Option Value) (fa:Addr) (o:Obj) (pm cd doc:Value) (a:Addr) (vs:List Value) (ns:List Int),
   Ground q loose [] XP w s₀ mg mb s₁.heap->YP w s₁.heap ->
   s₁.heap.get? fa=some o->o.data=.func (docDef d.name d.params d.body d.scope pm cd doc)->s₁.heap.CodeRec cd d.name->mg d.name=some (.ref fa) ->
   s₁.heap.get? a=some { cls:=.type "list",data:=.seq vs.toArray }->IntsAre vs ns->ns.length<=n->s₁.gens=#[] ->
   codeAny (model l.prog w) callerA (.call (.ref fa) ⟨[.ref a],[]⟩) (λ r s'=>r=.ok (.ret (.bool true))/\OldK s₁.heap s'.heap/\s'.os=s₁.os/\AllBare s'.gens) s₁) :
  WalkO q loose XP YP l.row.toRowW d [] (λ f vs=>PySem.call f vs):=by
 intro w s₀ s₁ mg mb G Y fa o pm cd doc dV kV ho hd hcd hD hmg hg args vals as hpre hlay hrd hwl hlo;obtain rfl:dV=.none:=Dflts.none hD hdf;obtain rfl:kV=.none:=Dflts.noKw hD;obtain ⟨a,vs,ns,rfl,rfl,hobj,hints,hlen⟩:=qhD hn hpre hwl;refine enter_call (codeAny_mono (call w s₀ s₁ mg mb fa o pm cd doc a vs ns G Y ho (fd_plain hd) hcd hmg hobj hints hlen hg) λ r s' hq=>?_);obtain ⟨rfl,h2,h3,h4⟩:=hq;exact ⟨.inl ⟨.bool true,.bool true,[],rfl,λ _=>rfl,.bool true,qhE l _,λ _=>⟨List.Pairwise.nil,λ _ hm=>(nomatch hm)⟩⟩,h2,h3,h4⟩
end Att
namespace L2
open PySem PySem.Spec PyProof.Rows
theorem qdu:∀ {vs:List Value} {ns:List Int},IntsAre vs ns->qN (ns.map V.int) vs
 | _,_,.nil=>.nil
 | _,_,.cons n t h=>.cons ⟨t,rfl⟩ (qdu h)
def qlE (H:Hp):Prop:=∀ b,H b=none∨∃ o xs,H b=some (.frz o (.lst xs))
theorem qiv {P:Program} {w:World} {K:PySem.W.Frag} {mg mb:Str->Option Value} {CX:CXT} {k:Nat} {fa a:Addr} {fd:FuncData} {x:Str} {sp:Sp} {s₁:Shared} {vs:List Value} {ns:List Int}
  (KX:K.In s₁.heap) (hns:s₁.heap.Ns mainGlobals mg) (hb:s₁.heap.Ns builtinsNs mb) (hbb:∀ x:Str,x≠"__name__"->mb x=bootBuiltins x) (hlim:s₁.heap.NoLimit) (hg:s₁.gens=#[])
  (ha:s₁.heap.get? a=some { cls:=.type "list",data:=.seq vs.toArray }) (hi:IntsAre vs ns) (hl:ns.length<=sizeLine) (hr:Room k callerA)
  (F:∀ base:Heap,K.In base->base.Ns mainGlobals mg->FnOk P w K mg base CX k fa fd [x] sp) (hbind:∀ (s:Shared) (u:Value),BindsTo s fd ⟨[u],[]⟩ [(x,u)])
  (hsp:∀ H:Hp,qlE H->SqL K H a (ns.map V.int)->sp [.ref a] H (λ v _=>v=.bl true) λ _ _ _=>False)
  (hCX:∀ H e s',CX [] H s₁ (λ _ _ _=>False) e s'->False) :
  codeAny (model P w) callerA (.call (.ref fa) ⟨[.ref a],[]⟩) (λ r s'=>r=.ok (.ret (.bool true))/\OldK s₁.heap s'.heap/\s'.os=s₁.os/\AllBare s'.gens) s₁:=by
 have rv:=qdu hi;have lenV:=hi.length;have core:∀ H:Hp,qlE H->SqL K H a (ns.map V.int)->HOk P w H s₁.heap->(∀ b,H b≠none->b=a)->(H a≠none->K.lookup a=none) ->
   codeAny (model P w) callerA (.call (.ref fa) ⟨[.ref a],[]⟩) (λ r s'=>r=.ok (.ret (.bool true))/\OldK s₁.heap s'.heap/\s'.os=s₁.os/\AllBare s'.gens) s₁:=by
  intro H hO hS hok hA hK;have base_of:∀ {b:Addr} {o:Obj},s₁.heap.get? b=some o->H b=none->(qdS s₁.heap H).get? b=some o:=λ e n=>qid e n
  have noA:∀ {b:Addr} {o:Obj} {es:Array DictEntry} {ep:Nat},s₁.heap.get? b=some o->o.data=.dict es ep->H b=none:=λ {b o es ep} e d=>by
   cases q:H b with
   | none=>rfl
   | some u =>
    have e':b=a:=hA b (by rw [q];simp);subst e';rw [ha] at e;cases e;have d':Data.seq vs.toArray _=Data.dict es ep:=d;cases d'
  have nsK:∀ {b:Addr} {m:Str->Option Value},s₁.heap.Ns b m->(qdS s₁.heap H).Ns b m:=λ {b m} ⟨o,es,ep,e,d,r⟩=>⟨o,es,ep,base_of e (noA e d),d,r⟩
  have hKb:K.In (qdS s₁.heap H):=λ b o e=>base_of (KX b o e) (by
   cases q:H b with
   | none=>rfl
   | some u =>
    have e':b=a:=hA b (by rw [q];simp);subst e';rw [hK (by rw [q];simp)] at e;cases e)
  have hM:Mod K mg (qdS s₁.heap H):=⟨hKb,nsK hns,⟨mb,nsK hb,hbb⟩,let ⟨mc,h1,h2⟩:=hlim;⟨mc,nsK h1,h2⟩⟩;have e0:Env0 P w K mg (qdS s₁.heap H) callerA [] s₁ H:=⟨rfl,hM,λ b o e=>qjZ e,Nat.le_of_eq (qhp _ _),trivial,λ b hb=>absurd (show b∈([]:List Addr) from hb) (by simp),hok,.of_eq hg⟩;refine codeAny_mono ((F _ hKb (nsK hns)).run callerA [] s₁ H ⟨[.ref a],[]⟩ [.ref a] [.ref a] _ _ hr e0 (hbind s₁ (.ref a)) (.cons rfl .nil) (hsp H hO hS)) λ r s' h=>?_
  cases r with
  | error e=>exact (hCX H e s' h).elim
  | ok fl =>
   cases fl with
   | next=>exact False.elim h
   | brk=>exact False.elim h
   | cont=>exact False.elim h
   | ret u =>
    obtain ⟨v,H',os,bare,un,hok',r',q⟩:=h;have q':v=.bl true:=q;subst q';obtain rfl:u=Value.bool true:=r';refine ⟨rfl,OldK.of_keep λ b o e=>?_,os,bare⟩;cases q:H b with
    | none=>exact un.keep b o e q (by intro z;exact absurd (show b∈([]:List Addr) from z) (by simp)) (by simp)
    | some u =>
     rcases hO b with z | ⟨ob,xs,z⟩
     ·rw [q] at z;cases z
     ·have z2:=un.frzs b ob _ z;obtain ⟨e1,_⟩:=hok b _ z;obtain ⟨e2,_⟩:=hok' b _ z2;rw [e] at e1;cases e1;exact e2
 cases hk:K.lookup a with
 | some o =>
  have e:=KX a o hk;rw [ha] at e;cases e
  refine core (λ _=>none) (λ _=>.inl rfl) (.inr ⟨_,vs.toArray,_,hk,rfl,rfl,rfl,by rw [Xl,lenV];exact hl,by simpa using rv⟩) (λ b u z=>by have z':(none:Option HO)=some u:=z;cases z') (λ b z=>absurd rfl z) λ z=>absurd rfl z
 | none =>
  refine core (λ b=>if b=a then some (.frz { cls:=.type "list",data:=.seq vs.toArray } (.lst (ns.map V.int))) else none) (λ b=>?_) (.inl (.inr ⟨{ cls:=.type "list",data:=.seq vs.toArray },if_pos rfl⟩)) (λ b u z=>?_) (λ b z=>?_) λ _=>hk
  ·by_cases hb:b=a
   ·exact .inr ⟨_,_,if_pos hb⟩
   ·exact .inl (if_neg hb)
  ·by_cases hb:b=a
   ·have z':=(if_pos hb).symm.trans z;cases z'
    subst hb;exact ⟨ha,by rw [Xa];exact hl,vs,_,rv,ha⟩
   ·have z':=(if_neg hb).symm.trans z;cases z'
  ·by_cases hb:b=a
   ·exact hb
   ·exact absurd (if_neg hb) z
theorem walk_of {l:PySem.W.OpenLaw} {n k:Nat} {q:Program} {loose:List Str} {XP:(Str->Option Value)->Heap->Prop} {YP:World->Heap->Prop} {d:DefRec} {K:Params->PySem.W.Frag} {CX:World->CXT} {sp:World->Sp} {x:Str}
  (hn:l.most=some n) (hn2:n<=sizeLine) (hdf:d.params.defaults=[]) (hr:Room k callerA)
  (hY:∀ (w:World) (h:Heap),YP w h->(K w.params).In h)
  (F:∀ (w:World) (mg:Str->Option Value) (fa:Addr) (h:Heap),(K w.params).In h->h.Ns mainGlobals mg->mg d.name=some (.ref fa) ->
   ∃ fd:FuncData,(∀ (s:Shared) (u:Value),BindsTo s fd ⟨[u],[]⟩ [(x,u)]) /\
    ∀ base:Heap,(K w.params).In base->base.Ns mainGlobals mg->FnOk l.prog w (K w.params) mg base (CX w) k fa fd [x] (sp w))
  (hsp:∀ (w:World) (H:Hp) (a:Addr) (ns:List Int),ns.length<=n->qlE H->SqL (K w.params) H a (ns.map V.int)->sp w [.ref a] H (λ v _=>v=.bl true) λ _ _ _=>False)
  (hCX:∀ (w:World) (H:Hp) (s:Shared) (e:Value) (s':Shared),CX w [] H s (λ _ _ _=>False) e s'->False) :
  PySem.W.WalkO q loose XP YP l.row.toRowW d [] (λ f vs=>PySem.call f vs):=by
 refine Att.attach_call hn hdf λ w s₀ s₁ mg mb fa o pm cd doc a vs ns G Y ho hd hcd hmg hobj hints hlen hg=>?_
 have KX:=hY w _ Y;obtain ⟨fd,hb,hF⟩:=F w mg fa _ KX G.T.g hmg;exact qiv KX G.T.g G.T.b G.T.builtins G.T.nolimit hg hobj hints (Nat.le_trans hlen hn2) hr hF hb (λ H hO hS=>hsp w H a ns hlen hO hS) λ H e s'=>hCX w H s₁ e s'
def qS (s:Stmt) (j:Nat):Stmt:=match s with
 | .ClassDef _ _ _ body _ _ _ _ _ _ _=>body.getD j (.Pass ⟨0,0,0,0⟩)
 | _=>.Pass ⟨0,0,0,0⟩
def qag (s:Stmt):Arguments:=match s with
 | .FunctionDef _ a _ _ _ _ _ _ _ _=>a
 | _=>{ posonlyargs:=[],args:=[],vararg:=none,kwonlyargs:=[],kw_defaults:=[],kwarg:=none,defaults:=[] }
def vb (s:Stmt):List Stmt:=match s with
 | .FunctionDef _ _ b _ _ _ _ _ _ _=>b
 | _=>[]
def qi (s:Stmt):Scope:=match s with
 | .FunctionDef _ _ _ _ _ _ sc _ _ _=>sc
 | _=>{ kind:=.function,names:=[],isGenerator:=false,isCoroutine:=false }
abbrev CX0:CXT:=λ _ _ _ _ _ _=>False
abbrev E0:XK:=λ _ _ _=>False
theorem qI {X:Cx}:qbs CX0 X E0:=λ _ _ _ _ _ _ _ h=>h.elim
structure Fun (K:PySem.W.Frag) (x qual:Str) (st:Stmt) (f:Addr) (fd:FuncData):Prop where
 ex:∃ (oc:Value) (od:Option Addr) (kV doc pm:Value) (an:Option Addr) (cdv ct:Value) (osl:Array (Option Value)),
  fd=W.fnOf x qual (qag st) (vb st) (qi st) .none kV doc pm an cdv ct/\K.lookup f=some ⟨oc,od,.func fd,osl⟩/\W.codeIn K cdv qual=true
 kp:W.keepIn K (.ref f)=true
section
variable {P:Program} {w:World} {K:PySem.W.Frag} {mg:Str->Option Value} {base:Heap}
theorem zm {X:Cx} {k:Nat} {f:Addr} {fd:FuncData} {ps:List Str} {sp:Sp} {x:Str} {p pos:Pos} {e:Expr} {es:List Expr} {t:TA} (F:FnOk X.prog X.w X.K X.mg X.base CX0 k f fd ps sp) (hr:Room k X.A) (hm:X.mg x=some (.ref f)) (hk:W.keepIn X.K (.ref f)=true) (hb:qf X.K fd ps []) (ha:PA X (e::es) t) (hg:Gl X x:=by rfl) (hdb:(x == ("__debug__":Str))=false:=by decide) (he:starEach (e::es) X.env=(false,eval e X.env)::starEach es X.env:=by rfl) (hpl:(backTo pos (starEach es X.env)).any (·.1)=false:=by rfl):PE X (.Call (.Name x p) (e::es) [] pos) (qck sp [] E0 t):=zj F hr hg hm hk hb .nil qI ha hdb he hpl
theorem Fun.ok {x qual:Str} {st:Stmt} {f:Addr} {fd:FuncData} {N ps:List Str} {k:Nat} {sp:Sp} (F:Fun K x qual st f fd) (S:FnScope N ps (qi st)) (len:∀ vs H Q E,sp vs H Q E->vs.length=ps.length)
  (hbody:∀ (cdv:Value) (A:Around) (outer:List Env) (s:Shared) (H:Hp) (vs:List V) (Q:VK) (E:XK),Room k (A.deeper (envOfC qual (qi st) s.heap.objs.size f cdv))->sp vs H Q E ->
   ∃ t,PSs (qhz CX0 P w K mg base N qual (qi st) f cdv A outer s H E).nox (vb st) t/\t { nx:=λ _ H'=>Q .non H',rt:=Q } (qbG N vs) H):FnOk P w K mg base CX0 (k+1) f fd ps sp:=by
 obtain ⟨oc,od,kV,doc,pm,an,cdv,ct,osl,rfl,lk,hcd⟩:=F.ex;refine qmy lk hcd S len λ A outer s H vs Q E hr hsp=>?_
 obtain ⟨t,h,q⟩:=hbody cdv A outer s H vs Q E hr hsp;exact ⟨t,h.nox,q⟩
theorem Fun.binds {x qual:Str} {st:Stmt} {f:Addr} {fd:FuncData} {ps:List Str} (F:Fun K x qual st f fd)
  (h:∀ (kV doc pm:Value) (an:Option Addr) (cdv ct:Value) (us:List Value),us.length=ps.length->bindArgs (W.fnOf x qual (qag st) (vb st) (qi st) .none kV doc pm an cdv ct) ⟨us,[]⟩=pure (ps.zip us):=by intro _ _ _ _ _ _ us hl;first | exact (match us,hl with | [_],_=>rfl) | exact (match us,hl with | [_,_],_=>rfl) | exact (match us,hl with | [_,_,_],_=>rfl) | exact (match us,hl with | [_,_,_,_],_=>rfl)):qf K fd ps []:=by
 obtain ⟨oc,od,kV,doc,pm,an,cdv,ct,osl,rfl,lk,hcd⟩:=F.ex;exact .all (h kV doc pm an cdv ct)
theorem qr {x qual:Str} {st:Stmt} {f:Addr} {oc:Value} {od an:Option Addr} {osl:Array (Option Value)} {kV doc pm cdv ct:Value} (l:K.lookup f=some ⟨oc,od,.func (W.fnOf x qual (qag st) (vb st) (qi st) .none kV doc pm an cdv ct),osl⟩)
  (c:W.codeIn K cdv qual=true) (k:W.keepIn K (.ref f)=true):Fun K x qual st f (W.fnOf x qual (qag st) (vb st) (qi st) .none kV doc pm an cdv ct):=⟨⟨oc,od,kV,doc,pm,an,cdv,ct,osl,rfl,l,c⟩,k⟩
end
theorem zb {A:Around} {k:Nat} (hr:Room k A):A.units+1 < cLine:=Nat.lt_of_le_of_lt (Nat.add_le_add_left (by decide:1<=64) _) hr.units
section
variable {X:Cx}
theorem pv (i:Nat) {x:Str} {pos:Pos} (hN:X.N[i]?=some x:=by rfl) (hv:Vis X.env.scope x:=by first | exact Or.inl rfl | exact Or.inr (Or.inl rfl) | exact Or.inr (Or.inr rfl)) (hd:(x == ("__debug__":Str))=false:=by decide)
  (hcd:(x == ("__classdict__":Str))=false:=by decide):PE X (.Name x pos) (qdT i):=qlq hN hv hd hcd
end
theorem zB {A B:Prop} (h:B):if false=true then A else B:=by
 rw [if_neg Bool.false_ne_true];exact h
theorem qaw {A B:Prop} (h:A):if true=true then A else B:=by
 rw [if_pos rfl];exact h
theorem qaF {c A B:Prop} [Decidable c] (h1:c->A) (h2:¬ c->B):if c then A else B:=by
 by_cases h:c
 ·rw [if_pos h];exact h1 h
 ·rw [if_neg h];exact h2 h
def qh (H H':Hp):Prop:=∀ b o,H b=some o->H' b=some o
theorem qh.refl (H:Hp):qh H H:=λ _ _ h=>h
theorem qh.trans {H H1 H2:Hp} (a:qh H H1) (b:qh H1 H2):qh H H2:=λ c o h=>b c o (a c o h)
theorem qh.free {H H':Hp} (e:qh H H') {l:Addr} (h:H' l=Option.none):H l=Option.none:=by
 cases q:H l with
 | none=>rfl
 | some o =>
  rw [e l o q] at h;cases h
theorem qh.seq {K:PySem.W.Frag} {H H':Hp} {a:Addr} {xs:List V} (e:qh H H') (h:SqL K H a xs):SqL K H' a xs:=by
 rcases h with (h | ⟨o,h⟩) | h
 ·exact .inl (.inl (e _ _ h))
 ·exact .inl (.inr ⟨o,e _ _ h⟩)
 ·exact .inr h
end L2
namespace Fs
abbrev Pr:=List Nat
theorem qaZ {α:Type} {r:α->α->Prop} (irr:∀ a,¬ r a a) (asym:∀ a b,r a b->¬ r b a):∀ {l m:List α},l.Pairwise r->m.Pairwise r->(∀ x,x∈l ↔ x∈m)->l=m
 | [],[],_,_,_=>rfl
 | [],b::m,_,_,h=>by have:=(h b).mpr Xp;cases this
 | a::l,[],_,_,h=>by have:=(h a).mp Xp;cases this
 | a::l,b::m,hl,hm,h=>by
  have hl':=List.pairwise_cons.mp hl;have hm':=List.pairwise_cons.mp hm;have ab:a=b:=by
   rcases List.mem_cons.mp ((h a).mp Xp) with e | e
   ·exact e
   ·rcases List.mem_cons.mp ((h b).mpr Xp) with e' | e'
    ·exact e'.symm
    ·exact absurd (hm'.1 a e) (asym _ _ (hl'.1 b e'))
  subst ab
  have:l=m:=qaZ irr asym hl'.2 hm'.2 λ x=>by
   constructor
   ·intro hx;rcases List.mem_cons.mp ((h x).mp (Xn _ hx)) with e | e
    ·subst e;exact absurd (hl'.1 x hx) (irr x)
    ·exact e
   ·intro hx;rcases List.mem_cons.mp ((h x).mpr (Xn _ hx)) with e | e
    ·subst e;exact absurd (hm'.1 x hx) (irr x)
    ·exact e
  rw [this]
theorem qd7 (a:Pr):¬ a < a:=List.lt_irrefl a
theorem qcs (a b:Pr) (h:a < b):¬ b < a:=λ h'=>qd7 a (List.lt_trans h h')
structure Vf (F:List Pr):Prop where
 rise:F.Pairwise (· < ·)
 prod:∀ p∈F,p.Pairwise (· < ·)
theorem zn {α:Type} {r:α->α->Prop} (irr:∀ a,¬ r a a):∀ {l:List α},l.Pairwise r->l.Nodup:=λ {l} h=>h.imp λ {a b} hab e=>by subst e;exact irr _ hab
theorem Vf.nodup {F:List Pr} (h:Vf F):F.Nodup:=zn qd7 h.rise
theorem Vf.ext {F G:List Pr} (hF:Vf F) (hG:Vf G) (h:∀ p,p∈F ↔ p∈G):F=G:=qaZ qd7 qcs hF.rise hG.rise h
def qF (ρ:Nat->Bool):List Pr->Bool
 | []=>false
 | p::F=>xor (p.all ρ) (qF ρ F)
theorem vc (ρ:Nat->Bool):∀ F G:List Pr,qF ρ (F++G)=xor (qF ρ F) (qF ρ G)
 | [],G=>by simp [qF]
 | p::F,G=>by
  show xor (p.all ρ) (qF ρ (F++G))=_
  rw [vc ρ F G];show _=xor (xor (p.all ρ) (qF ρ F)) (qF ρ G)
  rw [Bool.xor_assoc]
theorem vd (ρ:Nat->Bool) {F G:List Pr} (h:F.Perm G):qF ρ F=qF ρ G:=by
 induction h with
 | nil=>rfl
 | cons x _ ih=>show xor _ _=xor _ _;rw [ih]
 | swap x y l=>show xor _ (xor _ _)=xor _ (xor _ _);rw [<- Bool.xor_assoc,<- Bool.xor_assoc,Bool.xor_comm (y.all ρ)]
 | trans _ _ a b=>exact a.trans b
theorem vX (ρ:Nat->Bool) (q:Pr->Bool):∀ F:List Pr,qF ρ F=xor (qF ρ (F.filter q)) (qF ρ (F.filter λ p=>!q p))
 | []=>rfl
 | p::F=>by
  have ih:=vX ρ q F;cases h:q p with
  | true =>
   rw [List.filter_cons_of_pos h,List.filter_cons_of_neg (by simp [h])];show xor _ _=xor (xor _ _) _
   rw [ih,Bool.xor_assoc]
  | false =>
   rw [List.filter_cons_of_neg (by simp [h]),List.filter_cons_of_pos (by simp [h])];show xor _ _=xor _ (xor _ _)
   rw [ih];cases p.all ρ <;> cases qF ρ (F.filter q) <;> cases qF ρ (F.filter λ p=>!q p) <;> rfl
def qct (F G:List Pr):List Pr:=F.filter (λ p=>!G.contains p)++G.filter (λ p=>!F.contains p)
theorem vY {F G:List Pr} {p:Pr}:p∈qct F G ↔ ((p∈F/\p ∉ G)∨(p∈G/\p ∉ F)):=by
 simp [qct,List.mem_append,List.mem_filter]
theorem qcu (ρ:Nat->Bool) {F G:List Pr} (hF:F.Nodup) (hG:G.Nodup):qF ρ (qct F G)=xor (qF ρ F) (qF ρ G):=by
 have e1:=vX ρ (λ p=>G.contains p) F;have e2:=vX ρ (λ p=>F.contains p) G;have e3:qF ρ (F.filter λ p=>G.contains p)=qF ρ (G.filter λ p=>F.contains p):=by
  refine vd ρ ?_;rw [List.perm_ext_iff_of_nodup (hF.filter _) (hG.filter _)];intro p;simp only [List.mem_filter,List.contains_iff_mem];exact ⟨λ ⟨a,b⟩=>⟨b,a⟩,λ ⟨a,b⟩=>⟨b,a⟩⟩
 rw [qct,vc,e1,e2,e3];cases qF ρ (G.filter λ p=>F.contains p) <;> cases qF ρ (F.filter λ p=>!G.contains p) <;> cases qF ρ (G.filter λ p=>!F.contains p) <;> rfl
theorem qaG {F G:List Pr} (hF:F.Nodup) (hG:G.Nodup):(qct F G).Nodup:=by
 refine List.nodup_append.mpr ⟨hF.filter _,hG.filter _,?_⟩;intro a ha b hb e;subst e;simp [List.mem_filter] at ha hb;exact hb.2 ha.1
theorem je {α:Type} [DecidableEq α]:∀ {l m:List α},l.Nodup->(∀ x∈l,x∈m)->l.length<=m.length
 | [],_,_,_=>Nat.zero_le _
 | a::l,m,nd,h=>by
  have nd':=List.nodup_cons.mp nd;have ha:a∈m:=h a Xp
  have:=je (l:=l) (m:=m.erase a) nd'.2 λ x hx=>(List.mem_erase_of_ne (λ (e:x=a)=>nd'.1 (by rw [<- e];exact hx))).mpr (h x (Xn _ hx))
  rw [List.length_erase_of_mem ha] at this
  have:0 < m.length:=List.length_pos_of_mem ha
  rw [Xt];omega
theorem qf8 {p q:Pr} (hp:p.Pairwise (· < ·)) (hq:q.Pairwise (· < ·)) (h:∀ x∈q,x∈p) (hl:p.length<=q.length):q=p:=by
 have nd:q.Nodup:=zn XC hq;refine qaZ (r:=(· < ·)) XC (λ a b=>Nat.lt_asymm) hq hp λ x=>⟨h x,λ hx=>?_⟩
 exact Classical.byContradiction λ hn=>by
  have hsub:(x::q).length<=p.length:=by
   have nd2:(x::q).Nodup:=List.nodup_cons.mpr ⟨hn,nd⟩;exact je nd2 (by intro y hy;rcases List.mem_cons.mp hy with e | e;exact e ▸ hx;exact h y e)
  simp at hsub;omega
theorem qeW:∀ (D:List Pr),D≠[]->∃ p∈D,∀ q∈D,p.length<=q.length
 | [p],_=>⟨p,Xp,λ q hq=>by simp at hq;rw [hq];exact Xe _⟩
 | p::r::D,_=>by
  obtain ⟨m,hm,h⟩:=qeW (r::D) (by simp);by_cases hpm:p.length<=m.length
  ·exact ⟨p,Xp,λ q hq=>by
    rcases List.mem_cons.mp hq with e | e
    ·rw [e];exact Xe _
    ·exact Nat.le_trans hpm (h q e)⟩
  ·exact ⟨m,Xn _ hm,λ q hq=>by
    rcases List.mem_cons.mp hq with e | e
    ·rw [e];omega
    ·exact h q e⟩
theorem qdv (ρ:Nat->Bool) {p:Pr}:∀ {D:List Pr},D.Nodup->p∈D->(∀ q∈D,q.all ρ=true ↔ q=p)->qF ρ D=true
 | q::D,nd,hp,h=>by
  have nd':=List.nodup_cons.mp nd;have rest:∀ (E:List Pr),(∀ q∈E,q.all ρ=true ↔ q=p)->p ∉ E->qF ρ E=false:=by
   intro E;induction E with
   | nil=>intro _ _;rfl
   | cons r E ih =>
    intro hE hp';have hr:r.all ρ=false:=by
     cases hb:r.all ρ with
     | false=>rfl
     | true=>exact absurd ((hE r Xp).mp hb) (λ e=>hp' (e ▸ Xp))
    show xor (r.all ρ) (qF ρ E)=false
    rw [hr,ih (λ q hq=>hE q (Xn _ hq)) (λ e=>hp' (Xn _ e))];rfl
  show xor (q.all ρ) (qF ρ D)=true
  rcases List.mem_cons.mp hp with e | e
  ·subst e;rw [(h p Xp).mpr rfl,rest D (λ q hq=>h q (Xn _ hq)) nd'.1];rfl
  ·have hq:q.all ρ=false:=by
    cases hb:q.all ρ with
    | false=>rfl
    | true=>exact absurd ((h q Xp).mp hb) (λ e'=>nd'.1 (e' ▸ e))
   rw [hq,qdv ρ nd'.2 e λ q hq=>h q (Xn _ hq)];rfl
theorem Vf.only {F G:List Pr} (hF:Vf F) (hG:Vf G) (h:∀ ρ,qF ρ F=qF ρ G):F=G:=by
 by_cases hd:qct F G=[]
 ·refine hF.ext hG λ p=>?_
  have:¬ p∈qct F G:=by rw [hd];simp
  rw [vY] at this;constructor
  ·intro hp;exact Classical.byContradiction λ hn=>this (.inl ⟨hp,hn⟩)
  ·intro hp;exact Classical.byContradiction λ hn=>this (.inr ⟨hp,hn⟩)
 ·obtain ⟨p,hp,hl⟩:=qeW _ hd;have ris:∀ q∈qct F G,q.Pairwise (· < ·):=λ q hq=>by
   rcases vY.mp hq with ⟨a,_⟩ | ⟨a,_⟩
   ·exact hF.prod q a
   ·exact hG.prod q a
  have w:=qdv (λ x=>p.contains x) (qaG hF.nodup hG.nodup) hp λ q hq=>by
   constructor
   ·intro ha;refine qf8 (ris p hp) (ris q hq) (λ x hx=>?_) (hl q hq)
    have:=List.all_eq_true.mp ha x hx
    simpa using this
   ·intro e;subst e;exact List.all_eq_true.mpr λ x hx=>by simpa using hx
  rw [qcu _ hF.nodup hG.nodup,h] at w;simp at w
def q0:List Nat->List Pr
 | []=>[[]]
 | l::ls=>q0 ls++(q0 ls).map (l::·)
theorem qL:∀ ls:List Nat,(q0 ls).length=2 ^ ls.length
 | []=>rfl
 | l::ls=>by rw [q0,Xd,Xa,qL ls,Xt,Nat.pow_succ];omega
theorem zJ:∀ {ls:List Nat} {p:Pr},p∈q0 ls ↔ p.Sublist ls
 | [],p=>by simp [q0]
 | l::ls,p=>by
  rw [q0,List.mem_append,List.mem_map];constructor
  ·rintro (h | ⟨q,h,rfl⟩)
   ·exact (zJ.mp h).cons _
   ·exact (zJ.mp h).cons₂ _
  ·intro h;cases h with
   | cons _ h=>exact .inl (zJ.mpr h)
   | cons_cons _ h=>exact .inr ⟨_,zJ.mpr h,rfl⟩
theorem jA:∀ {ls:List Nat},ls.Nodup->(q0 ls).Nodup
 | [],_=>by simp [q0]
 | l::ls,h=>by
  have h':=List.nodup_cons.mp h;rw [q0];refine List.nodup_append.mpr ⟨jA h'.2,?_,?_⟩
  ·have:=jA h'.2
   exact List.pairwise_map.mpr (this.imp λ {a b} hab e=>hab (List.cons.inj e).2)
  ·intro a ha b hb e;subst e;obtain ⟨q,hq,rfl⟩:=List.mem_map.mp hb;exact h'.1 ((zJ.mp ha).subset Xp)
def zc:Nat->List Bool->List Bool
 | 0,t=>t
 | n+1,t=>zc n (t.take (2 ^ n))++List.zipWith (· != ·) (zc n (t.take (2 ^ n))) (zc n (t.drop (2 ^ n)))
theorem qO:∀ (n:Nat) (t:List Bool),t.length=2 ^ n->(zc n t).length=2 ^ n
 | 0,t,h=>h
 | n+1,t,h=>by
  have hp:2 ^ (n+1)=2 ^ n+2 ^ n:=by rw [Nat.pow_succ];omega
  have h1:(t.take (2 ^ n)).length=2 ^ n:=by rw [Xi];omega
  have h2:(t.drop (2 ^ n)).length=2 ^ n:=by rw [List.length_drop];omega
  rw [zc,Xd,List.length_zipWith,qO n _ h1,qO n _ h2];omega
def look (ρ:Nat->Bool):List Nat->List Bool->Bool
 | [],t=>t.headD false
 | l::ls,t=>if ρ l=true then look ρ ls (t.drop (2 ^ ls.length)) else look ρ ls (t.take (2 ^ ls.length))
def pol (ρ:Nat->Bool):List Nat->List Bool->Bool
 | [],t=>t.headD false
 | l::ls,t=>xor (pol ρ ls (t.take (2 ^ ls.length))) (ρ l && pol ρ ls (t.drop (2 ^ ls.length)))
theorem qa0 (f:Bool->Bool->Bool) (ρ:Nat->Bool):∀ (ls:List Nat) (t u:List Bool),t.length=2 ^ ls.length->u.length=2 ^ ls.length->look ρ ls (List.zipWith f t u)=f (look ρ ls t) (look ρ ls u)
 | [],[a],[b],_,_=>rfl
 | l::ls,t,u,ht,hu=>by
  rw [Xt,Nat.pow_succ] at ht hu;rw [look,look,look];by_cases h:ρ l=true
  ·rw [if_pos h,if_pos h,if_pos h,List.drop_zipWith];exact qa0 f ρ ls _ _ (by rw [List.length_drop];omega) (by rw [List.length_drop];omega)
  ·rw [if_neg h,if_neg h,if_neg h,List.take_zipWith];exact qa0 f ρ ls _ _ (by rw [Xi];omega) (by rw [Xi];omega)
theorem qah (ρ:Nat->Bool):∀ (ls:List Nat) (t:List Bool),t.length=2 ^ ls.length->look ρ ls (zc ls.length t)=pol ρ ls t
 | [],t,_=>rfl
 | l::ls,t,h=>by
  rw [Xt,Nat.pow_succ] at h;have h1:(t.take (2 ^ ls.length)).length=2 ^ ls.length:=by rw [Xi];omega
  have h2:(t.drop (2 ^ ls.length)).length=2 ^ ls.length:=by rw [List.length_drop];omega
  have s1:=qO ls.length _ h1;have s2:=qO ls.length _ h2;have e1:(zc (ls.length+1) t).take (2 ^ ls.length)=zc ls.length (t.take (2 ^ ls.length)):=by
   rw [zc,List.take_append_of_le_length (by omega),Xr (by omega)]
  have e2:(zc (ls.length+1) t).drop (2 ^ ls.length)=List.zipWith (· != ·) (zc ls.length (t.take (2 ^ ls.length))) (zc ls.length (t.drop (2 ^ ls.length))):=by
   rw [zc,List.drop_append_of_le_length (by omega),List.drop_of_length_le (by omega),List.nil_append]
  rw [look,pol,Xt,e1,e2];rw [qa0 (· != ·) ρ ls _ _ s1 s2,qah ρ ls _ h1,qah ρ ls _ h2];cases ρ l <;> simp <;> cases pol ρ ls (t.take (2 ^ ls.length)) <;> cases pol ρ ls (t.drop (2 ^ ls.length)) <;> rfl
theorem qcv:∀ (n:Nat) (t u:List Bool),t.length=2 ^ n->u.length=2 ^ n->zc n (List.zipWith (· != ·) t u)=List.zipWith (· != ·) (zc n t) (zc n u)
 | 0,t,u,_,_=>rfl
 | n+1,t,u,ht,hu=>by
  have hp:2 ^ (n+1)=2 ^ n+2 ^ n:=by rw [Nat.pow_succ];omega
  have t1:(t.take (2 ^ n)).length=2 ^ n:=by rw [Xi];omega
  have t2:(t.drop (2 ^ n)).length=2 ^ n:=by rw [List.length_drop];omega
  have u1:(u.take (2 ^ n)).length=2 ^ n:=by rw [Xi];omega
  have u2:(u.drop (2 ^ n)).length=2 ^ n:=by rw [List.length_drop];omega
  rw [zc,zc,zc,List.take_zipWith,List.drop_zipWith,qcv n _ _ t1 u1,qcv n _ _ t2 u2];rw [List.zipWith_append (by rw [qO n _ t1,qO n _ u1])];congr 1
  have q:∀ (a b c d:List Bool),List.zipWith (· != ·) (List.zipWith (· != ·) a b) (List.zipWith (· != ·) c d)=List.zipWith (· != ·) (List.zipWith (· != ·) a c) (List.zipWith (· != ·) b d):=by
   intro a;induction a with
   | nil=>intro b c d;simp
   | cons x a ih =>
    intro b c d;cases b with
    | nil=>cases c <;> simp
    | cons y b =>
     cases c with
     | nil=>simp
     | cons z c =>
      cases d with
      | nil=>simp
      | cons w d =>
       simp only [List.zipWith_cons_cons,ih];cases x <;> cases y <;> cases z <;> cases w <;> rfl
  exact q _ _ _ _
theorem qa1:∀ (a b:List Bool),a.length=b.length->List.zipWith (· != ·) a (List.zipWith (· != ·) a b)=b
 | [],[],_=>rfl
 | x::a,y::b,h=>by
  simp only [List.zipWith_cons_cons];rw [qa1 a b (by simpa using h)];cases x <;> cases y <;> rfl
theorem qbt:∀ (n:Nat) (t:List Bool),t.length=2 ^ n->zc n (zc n t)=t
 | 0,t,_=>rfl
 | n+1,t,h=>by
  have hp:2 ^ (n+1)=2 ^ n+2 ^ n:=by rw [Nat.pow_succ];omega
  have t1:(t.take (2 ^ n)).length=2 ^ n:=by rw [Xi];omega
  have t2:(t.drop (2 ^ n)).length=2 ^ n:=by rw [List.length_drop];omega
  have s1:=qO n _ t1;have s2:=qO n _ t2;have e1:(zc (n+1) t).take (2 ^ n)=zc n (t.take (2 ^ n)):=by
   rw [zc,List.take_append_of_le_length (by omega),Xr (by omega)]
  have e2:(zc (n+1) t).drop (2 ^ n)=List.zipWith (· != ·) (zc n (t.take (2 ^ n))) (zc n (t.drop (2 ^ n))):=by
   rw [zc,List.drop_append_of_le_length (by omega),List.drop_of_length_le (by omega),List.nil_append]
  conv=>lhs;rw [zc]
  rw [e1,e2,qcv n _ _ s1 s2,qbt n _ t1,qbt n _ t2,qa1 _ _ (by omega)];exact List.take_append_drop _ _
def zT (ls:List Nat) (t:List Bool):List Pr:=((q0 ls).zip t).filterMap λ x=>if x.2=true then some x.1 else none
theorem ve (ρ:Nat->Bool):∀ (ls:List Nat) (t:List Bool),t.length=2 ^ ls.length->qF ρ (zT ls t)=pol ρ ls t
 | [],[b],_=>by cases b <;> simp [zT,q0,qF,pol]
 | l::ls,t,h=>by
  rw [Xt,Nat.pow_succ] at h;have h1:(t.take (2 ^ ls.length)).length=2 ^ ls.length:=by rw [Xi];omega
  have h2:(t.drop (2 ^ ls.length)).length=2 ^ ls.length:=by rw [List.length_drop];omega
  have e:zT (l::ls) t=zT ls (t.take (2 ^ ls.length))++(zT ls (t.drop (2 ^ ls.length))).map (l::·):=by
   unfold zT;rw [q0]
   conv=>lhs;rw [<- List.take_append_drop (2 ^ ls.length) t]
   rw [List.zip_append (by rw [qL];omega),List.filterMap_append];congr 1
   rw [List.zip_map_left,List.filterMap_map,List.map_filterMap];congr 1
   funext x
   obtain ⟨a,b⟩:=x;cases b <;> rfl
  have m:∀ F:List Pr,qF ρ (F.map (l::·))=(ρ l && qF ρ F):=by
   intro F;induction F with
   | nil=>simp [qF]
   | cons p F ih =>
    show xor ((l::p).all ρ) _=_
    rw [ih,List.all_cons];show _=(ρ l && xor (p.all ρ) (qF ρ F))
    cases ρ l <;> simp
  rw [e,vc,m,ve ρ ls _ h1,ve ρ ls _ h2,pol]
theorem qcw {ls:List Nat} {t:List Bool} {p:Pr} (h:p∈zT ls t):p.Sublist ls:=by
 unfold zT at h;obtain ⟨x,hx,e⟩:=List.mem_filterMap.mp h;split at e
 ·cases e;exact zJ.mp (List.of_mem_zip hx).1
 ·cases e
theorem vg:∀ (P:List Pr) (t:List Bool),((P.zip t).filterMap λ x=>if x.2=true then some x.1 else none).Sublist P
 | [],t=>by simp
 | p::P,[]=>by simp
 | p::P,b::t=>by
  rw [List.zip_cons_cons,List.filterMap_cons];cases b with
  | true=>exact (vg P t).cons₂ _
  | false=>exact (vg P t).cons _
theorem vh {ls:List Nat} (t:List Bool) (h:ls.Nodup):(zT ls t).Nodup:=(jA h).sublist (vg _ _)
theorem qcx (F:List Pr):∀ (P:List Pr),((P.zip (P.map λ p=>F.contains p)).filterMap λ x=>if x.2=true then some x.1 else none)=P.filter λ p=>F.contains p
 | []=>rfl
 | p::P=>by
  rw [List.map_cons,List.zip_cons_cons,List.filterMap_cons,qcx F P];cases h:F.contains p with
  | true=>rw [List.filter_cons_of_pos h];rfl
  | false=>rw [List.filter_cons_of_neg (by rw [h];exact Bool.false_ne_true)];rfl
theorem qeX (ρ:Nat->Bool) {ls:List Nat} {F:List Pr} (hl:ls.Nodup) (hF:F.Nodup) (h:∀ p∈F,p.Sublist ls) :
  look ρ ls (zc ls.length ((q0 ls).map λ p=>F.contains p))=qF ρ F:=by
 have len:((q0 ls).map λ p=>F.contains p).length=2 ^ ls.length:=by rw [Xa,qL]
 rw [qah ρ ls _ len,<- ve ρ ls _ len];refine vd ρ ?_;unfold zT;rw [qcx,List.perm_ext_iff_of_nodup ((jA hl).filter _) hF];intro p;rw [List.mem_filter,zJ,List.contains_iff_mem];exact ⟨λ x=>x.2,λ x=>⟨h p x,x⟩⟩
theorem plt_total {a b:Pr} (h1:¬ a < b) (h2:¬ b < a):a=b:=List.le_antisymm (List.not_lt.mp h2) (List.not_lt.mp h1)
def ins (a:Pr):List Pr->List Pr
 | []=>[a]
 | b::l=>if b < a then b::ins a l else a::b::l
def srt:List Pr->List Pr
 | []=>[]
 | a::l=>ins a (srt l)
theorem qcy (a:Pr):∀ l:List Pr,(ins a l).Perm (a::l)
 | []=>List.Perm.refl _
 | b::l=>by
  rw [ins];split
  ·exact ((qcy a l).cons b).trans (List.Perm.swap a b l)
  ·exact List.Perm.refl _
theorem zU:∀ l:List Pr,(srt l).Perm l
 | []=>List.Perm.refl _
 | a::l=>(qcy a (srt l)).trans ((zU l).cons a)
theorem qiw (a:Pr):∀ {l:List Pr},l.Pairwise (λ x y=>¬ y < x)->(ins a l).Pairwise (λ x y=>¬ y < x)
 | [],_=>by simp [ins]
 | b::l,h=>by
  have h':=List.pairwise_cons.mp h;rw [ins];split
  ·rename_i hb;refine List.pairwise_cons.mpr ⟨λ x hx=>?_,qiw a h'.2⟩;rcases List.mem_cons.mp ((qcy a l).mem_iff.mp hx) with e | e
   ·rw [e];exact qcs _ _ hb
   ·exact h'.1 x e
  ·rename_i hb;refine List.pairwise_cons.mpr ⟨λ x hx=>?_,h⟩;rcases List.mem_cons.mp hx with e | e
   ·rw [e];exact hb
   ·intro hxa;have hx':=h'.1 x e
    have:x < b:=by
     by_cases hab:a < b
     ·exact List.lt_trans hxa hab
     ·have:=plt_total hab hb
      rw [<- this];exact hxa
    exact hx' this
theorem qd8:∀ l:List Pr,(srt l).Pairwise (λ x y=>¬ y < x)
 | []=>List.Pairwise.nil
 | a::l=>qiw a (qd8 l)
theorem qdw:∀ {l m:List Pr},l.Perm m->l.Pairwise (λ x y=>¬ y < x)->m.Pairwise (λ x y=>¬ y < x)->l=m
 | [],m,h,_,_=>h.nil_eq
 | a::l,m,h,hl,hm=>by
  cases m with
  | nil=>exact absurd h.length_eq (by simp)
  | cons b m =>
   have hl':=List.pairwise_cons.mp hl;have hm':=List.pairwise_cons.mp hm;have ab:a=b:=by
    rcases List.mem_cons.mp (h.mem_iff.mp Xp) with e | e
    ·exact e
    ·rcases List.mem_cons.mp (h.mem_iff.mpr Xp) with e' | e'
     ·exact e'.symm
     ·exact plt_total (hm'.1 a e) (hl'.1 b e')
   subst ab;rw [qdw (List.Perm.cons_inv h) hl'.2 hm'.2]
theorem srt_of {l m:List Pr} (h:l.Perm m) (hl:l.Pairwise (λ x y=>¬ y < x)):l=srt m:=qdw (h.trans (zU m).symm) hl (qd8 m)
theorem qcz {l:List Pr} (h:l.Nodup):(srt l).Pairwise (· < ·):=by
 have nd:(srt l).Nodup:=(zU l).nodup_iff.mpr h
 have:=qd8 l
 exact (this.and nd).imp λ {a b} hab=>Classical.byContradiction λ hn=>hab.2 (plt_total hn hab.1)
theorem qix {l:List Pr} (h:l.Pairwise (· < ·)):srt l=l:=(srt_of (List.Perm.refl l) (h.imp λ {a b}=>qcs a b)).symm
theorem qai {l:List Pr} {p:Pr}:p∈srt l ↔ p∈l:=(zU l).mem_iff
theorem srt_perm_eq {l m:List Pr} (h:l.Perm m):srt l=srt m:=srt_of ((zU l).trans h) (qd8 l)
def added (F G:List Pr):List Pr:=srt (qct F G)
theorem qeY {F G:List Pr} (hF:Vf F) (hG:Vf G):Vf (added F G):=⟨qcz (qaG hF.nodup hG.nodup),λ p hp=>by
 rcases vY.mp (qai.mp hp) with ⟨a,_⟩ | ⟨a,_⟩
 ·exact hF.prod p a
 ·exact hG.prod p a⟩
theorem jB (ρ:Nat->Bool) {F G:List Pr} (hF:Vf F) (hG:Vf G):qF ρ (added F G)=xor (qF ρ F) (qF ρ G):=by
 rw [added,vd ρ (zU _),qcu ρ hF.nodup hG.nodup]
def qaA {α:Type} [DecidableEq α]:List α->List α
 | []=>[]
 | a::l=>a::(qaA l).filter λ b=>decide (b≠a)
theorem qaj {α:Type} [DecidableEq α] {x:α}:∀ {l:List α},x∈qaA l ↔ x∈l
 | []=>by simp [qaA]
 | a::l=>by
  rw [qaA,List.mem_cons,List.mem_filter,qaj,List.mem_cons];constructor
  ·rintro (h | h)
   ·exact .inl h
   ·exact .inr h.1
  ·rintro (h | h)
   ·exact .inl h
   ·by_cases e:x=a
    ·exact .inl e
    ·exact .inr ⟨h,by simpa using e⟩
theorem vZ {α:Type} [DecidableEq α]:∀ (l:List α),(qaA l).Nodup
 | []=>by simp [qaA]
 | a::l=>by
  rw [qaA];refine List.nodup_cons.mpr ⟨λ h=>?_,(vZ l).filter _⟩
  have:=(List.mem_filter.mp h).2
  simp at this
def qJ (F:List Pr):List Nat:=(srt (qaA (F.flatten.map λ c=>[c]))).flatten
theorem qkf {l:List Pr} (h:∀ p∈l,∃ c,p=[c]):l=l.flatten.map λ c=>[c]:=by
 induction l with
 | nil=>rfl
 | cons p l ih =>
  obtain ⟨c,hc⟩:=h p Xp;subst hc;rw [List.flatten_cons,XA,<- ih λ q hq=>h q (Xn _ hq)];rfl
theorem y4 (F:List Pr):srt (qaA (F.flatten.map λ c=>[c]))=(qJ F).map λ c=>[c]:=by
 refine qkf λ p hp=>?_
 obtain ⟨c,_,e⟩:=List.mem_map.mp (qaj.mp (qai.mp hp));exact ⟨c,e.symm⟩
theorem jC {F:List Pr} {c:Nat}:c∈qJ F ↔ ∃ p∈F,c∈p:=by
 have h:[c]∈(qJ F).map (λ c=>[c]) ↔ c∈qJ F:=by
  rw [List.mem_map];exact ⟨λ ⟨d,hd,e⟩=>by cases e;exact hd,λ hd=>⟨c,hd,rfl⟩⟩
 rw [<- h,<- y4,qai,qaj,List.mem_map];constructor
 ·rintro ⟨d,hd,e⟩;cases e
  exact (List.mem_flatten.mp hd).imp λ p hp=>⟨hp.1,hp.2⟩
 ·rintro ⟨p,hp,hc⟩;exact ⟨c,List.mem_flatten.mpr ⟨p,hp,hc⟩,rfl⟩
theorem zG (F:List Pr):(qJ F).Pairwise (· < ·):=by
 have h:=qcz (vZ (F.flatten.map λ c=>[c]));rw [y4,List.pairwise_map] at h;refine h.imp λ {a b} hab=>?_
 cases hab with
 | rel h=>exact h
 | cons h=>cases h
theorem jU:∀ {ls p:List Nat},ls.Pairwise (· < ·)->p.Pairwise (· < ·)->(∀ x∈p,x∈ls)->p.Sublist ls
 | _,[],_,_,_=>List.nil_sublist _
 | [],x::p,_,_,h=>absurd (h x Xp) (by simp)
 | l::ls,x::p,hl,hp,h=>by
  have hl':=List.pairwise_cons.mp hl;have hp':=List.pairwise_cons.mp hp;rcases List.mem_cons.mp (h x Xp) with e | e
  ·subst e;refine (jU hl'.2 hp'.2 λ y hy=>?_).cons₂ x;rcases List.mem_cons.mp (h y (Xn _ hy)) with e | e
   ·subst e;exact absurd (hp'.1 _ hy) (XC _)
   ·exact e
  ·refine (jU hl'.2 hp λ y hy=>?_).cons l;rcases List.mem_cons.mp (h y hy) with e' | e'
   ·subst e';rcases List.mem_cons.mp hy with q | q
    ·subst q;exact e
    ·exact absurd (hp'.1 _ q) (Nat.lt_asymm (hl'.1 _ e))
   ·exact e'
def vi (F:List Pr) (ls:List Nat):List Bool:=zc ls.length ((q0 ls).map λ p=>F.contains p)
theorem zC (F:List Pr) (ls:List Nat):(vi F ls).length=2 ^ ls.length:=qO _ _ (by rw [Xa,qL])
theorem qcA (ρ:Nat->Bool) {ls:List Nat} {F:List Pr} (hl:ls.Pairwise (· < ·)) (hF:Vf F) (h:∀ p∈F,∀ c∈p,c∈ls):look ρ ls (vi F ls)=qF ρ F :=
 qeX ρ (zn XC hl) hF.nodup λ p hp=>jU hl (hF.prod p hp) (h p hp)
def vj (ls:List Nat) (t:List Bool):List Pr:=srt (zT ls (zc ls.length t))
theorem qdx {ls:List Nat} (hl:ls.Pairwise (· < ·)) (t:List Bool):Vf (vj ls t) :=
 ⟨qcz (vh _ (zn XC hl)),λ p hp=>hl.sublist (qcw (qai.mp hp))⟩
theorem qa2 (ρ:Nat->Bool) {ls:List Nat} {t:List Bool} (ht:t.length=2 ^ ls.length):qF ρ (vj ls t)=look ρ ls t:=by
 rw [vj,vd ρ (zU _),ve ρ ls _ (qO _ _ ht),<- qah ρ ls _ (qO _ _ ht),qbt _ _ ht]
theorem qcB {ls:List Nat} {t:List Bool} {p:Pr} (hp:p∈vj ls t):p.Sublist ls:=qcw (qai.mp hp)
def mult (F G:List Pr):List Pr:=vj (qJ (F++G)) (List.zipWith (· && ·) (vi F (qJ (F++G))) (vi G (qJ (F++G))))
theorem qgW (F G:List Pr):Vf (mult F G):=qdx (zG _) _
theorem qcC (ρ:Nat->Bool) {F G:List Pr} (hF:Vf F) (hG:Vf G):qF ρ (mult F G)=(qF ρ F && qF ρ G):=by
 rw [mult,qa2 ρ (by rw [List.length_zipWith,zC,zC,Nat.min_self]),qa0 _ ρ _ _ _ (zC _ _) (zC _ _),
  qcA ρ (zG _) hF λ p hp c hc=>jC.mpr ⟨p,List.mem_append_left _ hp,hc⟩,qcA ρ (zG _) hG λ p hp c hc=>jC.mpr ⟨p,List.mem_append_right _ hp,hc⟩]
def opp (F:List Pr):List Pr:=added F [[]]
def join (F G:List Pr):List Pr:=added (added F G) (mult F G)
theorem qiy:Vf [[]]:=⟨by simp,by simp⟩
theorem qlF:Vf []:=⟨List.Pairwise.nil,by simp⟩
theorem qhF (ρ:Nat->Bool) {F:List Pr} (hF:Vf F):qF ρ (opp F)=!qF ρ F:=by
 rw [opp,jB ρ hF qiy];simp [qF]
theorem qf9 (ρ:Nat->Bool) {F G:List Pr} (hF:Vf F) (hG:Vf G):qF ρ (join F G)=(qF ρ F || qF ρ G):=by
 rw [join,jB ρ (qeY hF hG) (qgW F G),jB ρ hF hG,qcC ρ hF hG];cases qF ρ F <;> cases qF ρ G <;> rfl
end Fs
namespace L2
open PySem PySem.Spec PyProof.Rows
def zM (env:Env):List (Str×NameKind)->List (Str×Addr)->List (Str×Addr)
 | [],acc=>acc
 | (n,k)::r,acc=>zM env r (if (k == NameKind.free)=true then (n,(env.cells.lookup n).getD 0)::acc else acc)
theorem qcD (env:Env):∀ (l:List (Str×NameKind)) (acc:List (Str×Addr)),(∀ y∈l,y.2=.free->∃ c,env.cells.lookup y.1=some c) ->
  (forIn l acc λ (x:Str×NameKind) (cs:List (Str×Addr))=>match x with
   | (name,kind)=>if (kind == NameKind.free)=true then do let a <- cellOf env name;pure (ForInStep.yield ((name,a)::cs)) else pure (ForInStep.yield cs):Sem (List (Str×Addr)))=pure (zM env l acc)
 | [],acc,_=>by rw [List.forIn_nil];rfl
 | (n,k)::r,acc,h=>by
  rw [List.forIn_cons];by_cases hk:(k == NameKind.free)=true
  ·obtain ⟨c,hc⟩:=h (n,k) Xp (by simpa using hk);have e:cellOf env n=pure c:=by unfold cellOf;rw [show env.cells.lookup n=some c from hc]
   simp only [hk,if_true,e,pure_bind];rw [qcD env r _ λ y hy=>h y (Xn _ hy)];rw [zM,if_pos hk,show env.cells.lookup n=some c from hc];rfl
  ·have hk':(k == NameKind.free)=false:=by simpa using hk
   simp only [hk',Bool.false_eq_true,if_false,pure_bind];rw [qcD env r _ λ y hy=>h y (Xn _ hy),zM,if_neg hk]
theorem yH {scope:Scope} {env:Env} (h:∀ y∈scope.names,y.2=.free->∃ c,env.cells.lookup y.1=some c):closureFor scope env=pure (zM env scope.names []):=by
 unfold closureFor
 have:=qcD env scope.names [] h
 simp only [bind_pure];exact this
theorem qaH (env:Env):∀ (l:List (Str×NameKind)) (acc:List (Str×Addr)),(∀ y∈l,y.2=.free->∃ c,env.cells.lookup y.1=some c)->(∀ x c,acc.lookup x=some c->env.cells.lookup x=some c) ->
  ∀ x c,(zM env l acc).lookup x=some c->env.cells.lookup x=some c
 | [],acc,_,ha,x,c,e=>ha x c e
 | (n,k)::r,acc,h,ha,x,c,e=>by
  rw [zM] at e;refine qaH env r _ (λ y hy=>h y (Xn _ hy)) ?_ x c e;clear e;intro x c e;by_cases hk:(k == NameKind.free)=true
  ·rw [if_pos hk] at e;obtain ⟨c',hc⟩:=h (n,k) Xp (by simpa using hk);rw [show env.cells.lookup n=some c' from hc] at e;rw [List.lookup_cons] at e;by_cases hx:(x == n)=true
   ·rw [hx] at e
    have:x=n:=by simpa using hx
    subst this;cases e
    exact hc
   ·rw [show (x == n)=false by simpa using hx] at e;exact ha x c e
  ·rw [if_neg hk] at e;exact ha x c e
theorem qeZ (env:Env):∀ (l:List (Str×NameKind)) (acc:List (Str×Addr)) (x:Str),(acc.lookup x).isSome=true->((zM env l acc).lookup x).isSome=true
 | [],_,_,h=>h
 | (n,k)::r,acc,x,h=>by
  rw [zM];refine qeZ env r _ x ?_;by_cases hk:(k == NameKind.free)=true
  ·rw [if_pos hk,List.lookup_cons];cases x == n with
   | true=>rfl
   | false=>exact h
  ·rw [if_neg hk];exact h
theorem v1 (env:Env):∀ (l:List (Str×NameKind)) (acc:List (Str×Addr)) (x:Str),(x,NameKind.free)∈l->((zM env l acc).lookup x).isSome=true
 | (n,k)::r,acc,x,h=>by
  rw [zM];rcases List.mem_cons.mp h with e | e
  ·cases e
   refine qeZ env r _ _ ?_;rw [if_pos (by decide),List.lookup_cons];simp only [beq_self_eq_true,Option.isSome_some]
  ·exact v1 env r _ x e
def zx (X:Cx) (NY:List Str) (scope:Scope) (C:Addr) (s:Shared) (H:Hp) (fp:List Addr) (pins:List (Addr×Obj)):Cx :=
 { X with N:=NY,s₀:=s,H₀:=H,env:=compEnvC scope (zM X.env scope.names []) C X.env,outer:=X.stack,ex:=fp,fn:=λ _=>false,pn:=X.pn++pins,xe:=λ _ _=>False }
structure CompScope (X:Cx) (NY:List Str) (o:Nat) (caps:List Nat) (scope:Scope):Prop where
 kind:scope.kind=.function
 nd:NY.Nodup
 nocell:∀ y∈scope.names,y.2≠.cell
 frees:∀ y∈scope.names,y.2=.free->(X.env.kindOf y.1=some .cell∨X.env.kindOf y.1=some .free)
 locs:∀ y∈scope.names,y.2=.local->scope.names.lookup y.1=some .local
 capOk:∀ (j:Nat) (i:Nat),caps[j]?=some i->∃ x,NY[o+j]?=some x/\X.N[i]?=some x/\scope.names.lookup x=some .free
 len:NY.length=o+caps.length
def stY (o:Nat) (caps:List Nat) (σ:St):St:=List.replicate o none++caps.map λ i=>(σ[i]?).getD none
theorem vk {env:Env}:∀ {names:List (Str×NameKind)} {x:Str},names.lookup x=some .free ->
  (names.map λ (n,k)=>if (k == NameKind.free && env.scope.kind == .function && env.kindOf n == some .cell) then (n,NameKind.cell) else (n,k)).lookup x=some .cell ∨
  (names.map λ (n,k)=>if (k == NameKind.free && env.scope.kind == .function && env.kindOf n == some .cell) then (n,NameKind.cell) else (n,k)).lookup x=some .free
 | [],_,h=>by simp at h
 | (n,k)::r,x,h=>by
  have ih:=@vk env r x;show List.lookup x ((if (k == NameKind.free && env.scope.kind == .function && env.kindOf n == some .cell)=true then (n,NameKind.cell) else (n,k))::_)=_∨List.lookup x ((if (k == NameKind.free && env.scope.kind == .function && env.kindOf n == some .cell)=true then (n,NameKind.cell) else (n,k))::_)=_
  cases hx:x == n with
  | true =>
   simp only [List.lookup_cons,hx] at h;cases h
   by_cases hc:(NameKind.free == NameKind.free && env.scope.kind == .function && env.kindOf n == some .cell)=true
   ·rw [if_pos hc];left;simp only [List.lookup_cons,hx]
   ·rw [if_neg hc];right;simp only [List.lookup_cons,hx]
  | false =>
   simp only [List.lookup_cons,hx] at h;by_cases hc:(k == NameKind.free && env.scope.kind == .function && env.kindOf n == some .cell)=true
   ·rw [if_pos hc];simp only [List.lookup_cons,hx];exact ih h
   ·rw [if_neg hc];simp only [List.lookup_cons,hx];exact ih h
theorem qaI {env:Env}:∀ {names:List (Str×NameKind)} {x:Str} {k:NameKind},(∀ y∈names,y.2≠.cell) ->
  (names.map λ (n,k)=>if (k == NameKind.free && env.scope.kind == .function && env.kindOf n == some .cell) then (n,NameKind.cell) else (n,k)).lookup x=some k->(k=.cell∨k=.free)->names.lookup x=some .free
 | [],_,_,_,h,_=>by simp at h
 | (n,k0)::r,x,k,nc,h,hk=>by
  have ih:=@qaI env r x k (λ y hy=>nc y (Xn _ hy));replace h:List.lookup x ((if (k0 == NameKind.free && env.scope.kind == .function && env.kindOf n == some .cell)=true then (n,NameKind.cell) else (n,k0))::(r.map λ (n,k)=>if (k == NameKind.free && env.scope.kind == .function && env.kindOf n == some .cell) then (n,NameKind.cell) else (n,k)))=some k:=h;have n0:k0≠.cell:=nc (n,k0) Xp;cases hx:x == n with
  | true =>
   by_cases hc:(k0 == NameKind.free && env.scope.kind == .function && env.kindOf n == some .cell)=true
   ·have:k0=.free:=by
     simp only [Bool.and_eq_true] at hc;simpa using hc.1.1
    simp only [List.lookup_cons,hx,this]
   ·rw [if_neg hc] at h;simp only [List.lookup_cons,hx] at h ⊢;cases h
    rcases hk with e | e
    ·exact absurd e n0
    ·rw [e]
  | false =>
   by_cases hc:(k0 == NameKind.free && env.scope.kind == .function && env.kindOf n == some .cell)=true
   ·rw [if_pos hc] at h;simp only [List.lookup_cons,hx] at h ⊢;exact ih h hk
   ·rw [if_neg hc] at h;simp only [List.lookup_cons,hx] at h ⊢;exact ih h hk
theorem Un.but {fs ex:List Addr} {H H':Hp} {h h1 h2:Heap} {C:Addr} (u:Un fs ex H H' h h1) (hs:Heap.SameBut C h1 h2) (hC:h.objs.size<=C):Un fs ex H H' h h2:=by
 have ne:∀ b o,h.get? b=some o->b≠C:=λ b o e z=>by subst z;exact absurd (Nat.lt_of_lt_of_le (Xm e) hC) (XC _)
 refine ⟨λ b o e n hb hx=>(hs.2 b (ne b o e)).trans (u.keep b o e n hb hx),λ b o e n hb hx=>?_,u.free,λ b o e hx=>?_,u.tups,u.frzs,u.tbls⟩
 ·obtain ⟨sl,q⟩:=u.slot b o e n hb hx;exact ⟨sl,(hs.2 b (ne b o e)).trans q⟩
 ·obtain ⟨o',q⟩:=u.there b o e hx;exact ⟨o',(hs.2 b (ne b o e)).trans q⟩
theorem HOk.but {P:Program} {w:World} {H:Hp} {h h':Heap} {C:Addr} (ok:HOk P w H h) (hs:Heap.SameBut C h h') (hC:H C=none):HOk P w H h':=λ a o e=>by
 refine (ok a o e).stay (λ b u hb q=>(hs.2 b ?_).trans q) (λ _ q=>q) λ _ _ q=>q
 rcases hb with z | z
 ·rw [z];exact λ y=>by rw [y,hC] at e;cases e
 ·exact λ y=>by rw [y,hC] at z;cases z
abbrev Adv:=Nat->St->Hp->(St->Hp->Prop)->Prop
structure Walk (Y:Cx) (tg:Expr) (fp:List Addr) (it:Addr) (tn:Nat->Heap->Prop) (adv:Adv) (stop:Nat->Hp->Prop):Prop where
 obj:∀ i h,tn i h->∀ b∈fp,∃ o,h.get? b=some o/\∀ v,o.data≠.cell v
 keep:∀ i h h',tn i h->(∀ b∈fp,∀ o,h.get? b=some o->h'.get? b=some o)->tn i h'
 item:∀ (i:Nat) (pins:List (Addr×Obj)) (s:Shared) (σ:St) (H:Hp) (N:St->Hp->Prop),Inv Y pins σ H s->(∀ b∈fp,jy Y pins H b)->tn i s.heap->adv i σ H N ->
  wpAny (model Y.prog Y.w) Y.A (pyNext (.ref it)) (λ r s1=>∃ u,r=some u/\wpAny (model Y.prog Y.w) Y.A (letOwnedTupleGo tg (.ref it) u) (λ _ s2 =>
   wpAny (model Y.prog Y.w) Y.A (assign tg Y.env u) (λ _ s3=>∃ σ' H',Inv Y pins σ' H' s3/\N σ' H'/\tn (i+1) s3.heap/\∀ b∈fp,H' b=none) Y.xe s2) Y.xe s1) Y.xe s
 done:∀ (i:Nat) (pins:List (Addr×Obj)) (s:Shared) (σ:St) (H:Hp),Inv Y pins σ H s->(∀ b∈fp,jy Y pins H b)->tn i s.heap->stop i H ->
  wpAny (model Y.prog Y.w) Y.A (pyNext (.ref it)) (λ r s1=>r=none/\Inv Y pins σ H s1) Y.xe s
 self:∀ (A:Around) (i:Nat) (s:Shared) (Q:Value->Shared->Prop) (E:Value->Shared->Prop),tn i s.heap->Q (.ref it) s->wpAny (model Y.prog Y.w) A (pyIter (.ref it)) Q E s
theorem zE {Y:Cx} {tg:Expr} {fp:List Addr} {tn:Nat->Heap->Prop} {pins:List (Addr×Obj)} {s5 s6:Shared} {σ6:St} {H6:Hp} {i:Nat}
  (obj:∀ b∈fp,∃ o,s5.heap.get? b=some o/\∀ v,o.data≠.cell v) (keep:∀ h',(∀ b∈fp,∀ o,s5.heap.get? b=some o->h'.get? b=some o)->tn i h')
  (I6:Inv Y (pins++vT fp s5.heap) σ6 H6 s6):Inv Y pins σ6 H6 s6/\tn i s6.heap/\∀ b∈fp,H6 b=none:=by
 refine ⟨I6.unpinned,keep _ λ b hb o e=>(I6.pin (b,o) (List.mem_append_right _ (List.mem_append_right _ (yD hb e)))).1,λ b hb=>?_⟩;obtain ⟨o,e,d⟩:=obj b hb;exact (I6.pin (b,o) (List.mem_append_right _ (List.mem_append_right _ (yD hb e)))).2.1
def qe0 (J:It) (g:TG):Adv:=λ i σ H N=>J.go i H/\∀ x H',J.yld i H x H'->g x σ H' N
theorem Turn.walk {Y:Cx} {tg:Expr} {J:It} {fp:List Addr} {it:Addr} {tn:Nat->Heap->Prop} {g:TG} (hc:Y.calm=true) (T:Turn Y.prog Y.w Y.K tg J fp it tn) (hg:PG Y tg g):Walk Y tg fp it tn (qe0 J g) J.stop where
 obj:=T.obj
 keep:=T.keep
 item:=by
  intro i pins s σ H N I hf st ⟨go,step⟩;refine thn (T.item Y rfl rfl rfl hc i pins s σ H Y.xe I hf st go) λ r s4 ⟨u,hr,h4⟩=>⟨u,hr,?_⟩
  refine thn h4 λ _ s5 ⟨x,H5,I5,r5,y5,st5,fr5⟩=>?_
  have I5':=I5.pinned (fp:=fp) (λ b hb=>⟨fr5 b hb,(hf b hb).2⟩) (T.obj _ _ st5);refine thn (hg _ s5 σ H5 x u _ I5' r5 (step x H5 y5)) λ _ s6 ⟨σ6,H6,I6,q6⟩=>?_
  obtain ⟨J1,J2,J3⟩:=zE (tg:=tg) (tn:=tn) (i:=i+1) (T.obj _ _ st5) (λ h' k=>T.keep _ _ _ st5 k) I6;exact ⟨σ6,H6,J1,q6,J2,J3⟩
 done:=λ i pins s σ H I hf st hs=>T.done Y rfl rfl rfl hc i pins s σ H Y.xe I hf st hs
 self:=T.self
structure It2 where
 go:Nat->Hp->Prop
 yld:Nat->Hp->List V->Hp->Prop
 stop:Nat->Hp->Prop
structure Turn2 (P:Program) (w:World) (K:PySem.W.Frag) (tg:Expr) (J:It2) (fp:List Addr) (it:Addr) (tn:Nat->Heap->Prop):Prop where
 obj:∀ i h,tn i h->∀ b∈fp,∃ o,h.get? b=some o/\∀ v,o.data≠.cell v
 keep:∀ i h h',tn i h->(∀ b∈fp,∀ o,h.get? b=some o->h'.get? b=some o)->tn i h'
 item:∀ (X:Cx),X.prog=P->X.w=w->X.K=K->X.calm=true->∀ (i:Nat) (pins:List (Addr×Obj)) (s:Shared) (σ:St) (H:Hp) (E:Value->Shared->Prop),Inv X pins σ H s->(∀ b∈fp,jy X pins H b)->tn i s.heap->J.go i H ->
  wpAny (model P w) X.A (pyNext (.ref it)) (λ r s1=>∃ p,r=some (.ref p) /\
   wpAny (model P w) X.A (letOwnedTupleGo tg (.ref it) (.ref p)) (λ _ s2=>∃ xs us H',Inv X pins σ H' s2/\IsTup s2.heap p us.toArray/\qN xs us/\J.yld i H xs H'/\tn (i+1) s2.heap/\∀ b∈fp,H' b=none) E s1) E s
 done:∀ (X:Cx),X.prog=P->X.w=w->X.K=K->X.calm=true->∀ (i:Nat) (pins:List (Addr×Obj)) (s:Shared) (σ:St) (H:Hp) (E:Value->Shared->Prop),Inv X pins σ H s->(∀ b∈fp,jy X pins H b)->tn i s.heap->J.stop i H ->
  wpAny (model P w) X.A (pyNext (.ref it)) (λ r s1=>r=none/\Inv X pins σ H s1) E s
 self:∀ (A:Around) (i:Nat) (s:Shared) (Q:Value->Shared->Prop) (E:Value->Shared->Prop),tn i s.heap->Q (.ref it) s->wpAny (model P w) A (pyIter (.ref it)) Q E s
def qga (J:It2) (n:Nat) (t:TGs):Adv:=λ i σ H N=>J.go i H/\∀ xs H',J.yld i H xs H'->xs.length=n/\t xs σ H' N
theorem Turn2.walk {Y:Cx} {es:List Expr} {k:Nat} {pos:Pos} {J:It2} {fp:List Addr} {it:Addr} {tn:Nat->Heap->Prop} {t:TGs} {n:Nat} (hc:Y.calm=true) (T:Turn2 Y.prog Y.w Y.K (.Tuple es k pos) J fp it tn) (hg:PGs Y es t)
  (hn:(assignEach es Y.env).length=n:=by rfl) (hst:(assignEach es Y.env).findIdx? (·.1)=none:=by rfl):Walk Y (.Tuple es k pos) fp it tn (qga J n t) J.stop where
 obj:=T.obj
 keep:=T.keep
 item:=by
  intro i pins s σ H N I hf st ⟨go,step⟩;refine thn (T.item Y rfl rfl rfl hc i pins s σ H Y.xe I hf st go) λ r s4 ⟨p,hr,h4⟩=>⟨.ref p,hr,?_⟩
  refine thn h4 λ _ s5 ⟨xs,us,H5,I5,ht,r5,y5,st5,fr5⟩=>?_
  have I5':=I5.pinned (fp:=fp) (λ b hb=>⟨fr5 b hb,(hf b hb).2⟩) (T.obj _ _ st5);obtain ⟨hl,hw⟩:=step xs H5 y5;refine assign_Tuple_tuple (I5.ok.hd hc) ht (by simp [hn,<- hl,r5.length]) hst λ h' hx=>?_
  have I6:Inv Y (pins++vT fp s5.heap) σ H5 { s5 with heap:=h' }:=I5'.kept (t':=s5.toks) λ b o e=>hx b o (Xo (Xm e)) e
  refine thn (hg _ _ σ H5 xs _ N I6 (by simpa using r5) hw) λ _ s6 ⟨σ6,H6,I7,q6⟩=>?_
  obtain ⟨J1,J2,J3⟩:=zE (tg:=.Tuple es k pos) (tn:=tn) (i:=i+1) (T.obj _ _ st5) (λ h' k=>T.keep _ _ _ st5 k) I7;exact ⟨σ6,H6,J1,q6,J2,J3⟩
 done:=λ i pins s σ H I hf st hs=>T.done Y rfl rfl rfl hc i pins s σ H Y.xe I hf st hs
 self:=T.self
abbrev TI2:=St->Hp->(It2->Hp->Prop)->Prop
def PI2 (X:Cx) (tg iter:Expr) (wi:TI2):Prop :=
 ∀ (pins:List (Addr×Obj)) (s:Shared) (σ:St) (H:Hp) (R:It2->Hp->Prop),Inv X pins σ H s->wi σ H R ->
  wpAny (model X.prog X.w) X.A (eval iter X.env) (λ v s1=>wpAny (model X.prog X.w) X.A (pyIter v) (λ itv s2 =>
   ∃ (it:Addr) (fp:List Addr) (tn:Nat->Heap->Prop) (J:It2) (H':Hp),itv=.ref it/\Inv X pins σ H' s2/\Turn2 X.prog X.w X.K tg J fp it tn/\tn 0 s2.heap/\(∀ b∈fp,jy X pins H' b)/\R J H') X.xe s1) X.xe s
def PTs (X:Cx) (ifs:List Expr) (tt:TT):Prop:=∀ (pins:List (Addr×Obj)) (s:Shared) (σ:St) (H:Hp) (Q:Bool->Hp->Prop),Inv X pins σ H s->tt σ H Q ->
 wpAny (model X.prog X.w) X.A (forIn ifs true λ c r=>if r=true then do let ok <- isTrue c X.env (eval c X.env);pure (ForInStep.yield ok) else pure (ForInStep.yield r)) (TP X pins σ Q) X.xe s
def qnB:TT:=λ _ H Q=>Q true H
theorem zL {X:Cx}:PTs X [] qnB:=λ _ _ _ H _ I h=>wpAny_tests_nil ⟨H,I,h⟩
theorem qbZ {X:Cx} {c:Expr} {tt:TT} (hc:PT X c tt):PTs X [c] tt:=λ pins s σ H Q I h=>wpAny_tests_one (hc pins s σ H Q I h)
section
variable {prog:Program} {w:World} {A:Around} {R:Result->Shared->Prop} {s:Shared}
theorem vm {elt target iter:Expr} {ifs:List Expr} {scope:Scope} {pos:Pos} {it acc:Value} {env:Env} (I:Nat->Shared->Prop)
  (turn:∀ n s,I n s->wpAny (model prog w) A (pyNext it) (λ r s₁=>match r with
   | none=>R (.ok .next) s₁
   | some v=>wpAny (model prog w) A (letOwnedTupleGo target it v) (λ _ s₁'=>wpAny (model prog w) A (assign target env v) (λ _ s₂ =>
     wpAny (model prog w) A (forIn ifs true λ c r=>if r=true then do let ok <- isTrue c env (eval c env);pure (ForInStep.yield ok) else pure (ForInStep.yield r)) (λ ok s₃ =>
      if ok=true then wpAny (model prog w) A (eval elt env) (λ x s₄ =>
       wpAny (model prog w) A (call (.builtin "list.append") [acc,x]) (λ _ s₅=>∃ m,m < n/\I m s₅) (λ _ _=>False) s₄) (λ _ _=>False) s₃
      else ∃ m,m < n/\I m s₃) (λ _ _=>False) s₂) (λ _ _=>False) s₁') (λ _ _=>False) s₁) (λ _ _=>False) s)
  (n:Nat) (h:I n s) :
  codeAny (model prog w) A (.compLoop (.ListComp elt [⟨target,iter,ifs,0⟩] scope pos) 0 it acc env) R s:=by
 refine codeAny_loop rfl I (λ n s hI=>?_) n h;show wpAny _ A ((compTurn (.ListComp elt [⟨target,iter,ifs,0⟩] scope pos) 0 it acc env).onRaise (λ x=>do noteFrame x env;theTreesLotGoes x)) _ _ s
 refine wpAny_noted ?_;rw [compTurn_list];have no:∀ {E:Value->Shared->Prop} (x:Value) (s':Shared),False->E x s':=λ _ _ f=>f.elim
 refine Xf (wpAny_standAt (Xf (wpAny_mono (turn n s hI) (λ r s₁ h₁=>?_) no)));cases r with
 | none=>exact Xg h₁
 | some v =>
  refine Xf (wpAny_mono h₁ (λ _ s₁' h₁'=>?_) no);refine Xf (wpAny_mono h₁' (λ _ s₂ h₂=>Xf (wpAny_mono h₂ (λ ok s₃ h₃=>?_) no)) no);cases ok with
  | false=>exact Xg ⟨rfl,h₃⟩
  | true =>
   exact Xf (Xf (wpAny_mono h₃ (λ x s₄ h₄=>Xf (wpAny_mono h₄ (λ _ s₅ h₅=>Xg (Xg ⟨rfl,h₅⟩)) no)) no))
end
def Kp (o:Nat) (σ0 σ:St):Prop:=σ.drop o=σ0.drop o/\σ.length=σ0.length
theorem Kp.get {o:Nat} {caps:List Nat} {σ σ2:St} (k:Kp o (stY o caps σ) σ2):∀ (j:Nat) (v:V),(stY o caps σ)[j]?=some (some v)->σ2[j]?=some (some v):=by
 intro j v e;by_cases hj:j < o
 ·unfold stY at e;rw [Xz (by simpa using hj),List.getElem?_replicate,if_pos hj] at e;cases e
 ·have e1:(σ2.drop o)[j - o]?=((stY o caps σ).drop o)[j - o]?:=by rw [k.1]
  rw [List.getElem?_drop,List.getElem?_drop,show o+(j - o)=j by omega] at e1;rw [e1];exact e
theorem qiz {o:Nat} {caps:List Nat} {σ:St} {j:Nat} {v:V} (e:(stY o caps σ)[j]?=some (some v)):∃ j' i,j=o+j'/\caps[j']?=some i/\σ[i]?=some (some v):=by
 unfold stY at e;by_cases hj:j < o
 ·rw [Xz (by simpa using hj),List.getElem?_replicate,if_pos hj] at e;cases e
 ·rw [Xy (by simpa using hj),XB,Xw] at e;cases q:caps[j - o]? with
  | none=>rw [q] at e;cases e
  | some i =>
   rw [q] at e;refine ⟨j - o,i,by omega,q,?_⟩;cases q2:σ[i]? with
   | none=>rw [Option.map_some,q2] at e;cases e
   | some z =>
    rw [Option.map_some,q2] at e;have e':z=some v:=Xs e;rw [e']
def ji (o:Nat) (caps:List Nat) (adv:Adv) (stop:Nat->Hp->Prop) (tt:TT) (te:TE) (σ:St) (H1:Hp) (Q:VK):Prop :=
 ∀ D,H1 D=none->∃ W:Nat->Nat->List V->Hp->Prop,(∃ m,W 0 m [] (upd H1 D (.lst [])))/\∀ i m ys H,W i m ys H ->
  (stop i H/\Q (.ref D) H)∨adv i (stY o caps σ) H λ σ2 H2=>Kp o (stY o caps σ) σ2/\tt σ2 H2 λ b H3=>if b=true then te σ2 H3 λ y H4=>H4 D=some (.lst ys)/\ys.length < sizeLine/\∃ m',m' < m/\W (i+1) m' (ys++[y]) (upd H4 D (.lst (ys++[y])))
   else ∃ m',m' < m/\W (i+1) m' ys H3
section
variable {X:Cx}
theorem qe1 {pins:List (Addr×Obj)} {σ:St} {H2:Hp} {s2:Shared} {NY:List Str} {o:Nat} {caps:List Nat} {scope:Scope} {fp:List Addr} {h₁:Heap} (S:CompScope X NY o caps scope) (I2:Inv X pins σ H2 s2)
  (hfp:∀ b∈fp,jy X pins H2 b) (hob:∀ b∈fp,∃ ob,s2.heap.get? b=some ob)
  (hns:h₁.Ns (s2.heap.objs.size+1) λ _=>none) (hkeep:∀ b ob,s2.heap.get? b=some ob->h₁.get? b=some ob)
  (hD:∃ n,h₁.get? s2.heap.objs.size=some { cls:=.type "list",data:=.seq ([]:List Value).toArray n }) (t':Nat) :
  Inv (zx X NY scope (s2.heap.objs.size+1) s2 H2 fp pins) [] (stY o caps σ) (upd H2 s2.heap.objs.size (.lst [])) { s2 with heap:=h₁,toks:=t' }:=by
 have frees:∀ y∈scope.names,y.2=.free->∃ c,X.env.cells.lookup y.1=some c:=λ y hy e=>I2.ok.has _ (S.frees y hy e)
 have sound:∀ x c,(zM X.env scope.names []).lookup x=some c->X.env.cells.lookup x=some c:=qaH X.env scope.names [] frees (λ x c e=>by simp at e);have hfr:H2 s2.heap.objs.size=none:=I2.hok.fresh (Xe _);have hfr1:H2 (s2.heap.objs.size+1)=none:=I2.hok.fresh (Nat.le_succ _);have ltC:∀ b ob,s2.heap.get? b=some ob->b≠s2.heap.objs.size+1:=λ b ob e=>Xo (Nat.lt_succ_of_lt (Xm e))
 have ltD:∀ b ob,s2.heap.get? b=some ob->b≠s2.heap.objs.size:=λ b ob e=>Xo (Xm e)
 have hok1:HOk X.prog X.w (upd H2 s2.heap.objs.size (.lst [])) h₁:=by
  obtain ⟨n,hD⟩:=hD;exact I2.hok.laid hkeep (Xe _) ⟨Nat.zero_le _,[],n,.nil,hD⟩
 refine ⟨?_,rfl,I2.bare,?_,?_,?_,?_,?_,?_,hok1,?_⟩
 ·refine ⟨I2.ok.mod,S.kind,I2.ok.glob,I2.ok.blt,Nat.le_succ _,λ x y c h1 h2=>I2.ok.inj x y c (sound x c h1) (sound y c h2),λ x hx=>?_,λ x c e=>absurd e Bool.false_ne_true,I2.ok.hd,I2.ok.frames,.inl rfl,λ b hb=>?_,
   I2.bs,Nat.le_trans I2.ok.bsz I2.sz,λ b ob e hb=>?_,λ b hb z=>?_,I2.stack,I2.stkFree⟩
  ·have hx':scope.names.lookup x=some .free:=by
    rcases hx with q | q
    ·exact qaI (env:=X.env) S.nocell q (.inl rfl)
    ·exact qaI (env:=X.env) S.nocell q (.inr rfl)
   exact Option.isSome_iff_exists.mp (v1 X.env scope.names [] x (PySem.mem_of_lookup hx'))
  ·obtain ⟨ob,e⟩:=hob b hb;exact ⟨ltC b ob e,λ x c q=>(hfp b hb).2.2.2.2.1 x c (sound x c q)⟩
  ·rcases (hfp b hb).2.2.2.1 with q | q
   ·exact I2.ok.noex b ob e q
   ·exact absurd (Nat.lt_of_lt_of_le (Xm e) (Nat.le_trans I2.ok.bsz q)) (XC _)
  ·rcases List.mem_cons.mp (I2.stkSub b z) with q | q
   ·exact (hfp b hb).2.1 q
   ·exact (hfp b hb).2.2.1 q
 ·exact Un.laid hkeep (Xe _) hfr
 ·refine ⟨_,hns,λ j x v e1 e2 e3=>?_⟩;obtain ⟨j',i,ej,ec,es⟩:=qiz e2;obtain ⟨x',n1,n2,n3⟩:=S.capOk j' i ec;rw [<- ej] at n1;have ex:x=x':=Xs ((show NY[j]?=some x from e1).symm.trans n1);subst ex;have hk:=S.frees (x,.free) (PySem.mem_of_lookup n3) rfl;obtain ⟨m,_,hl⟩:=I2.loc;have hv:Vis X.env.scope x:=hk.elim (λ q=>.inr (.inl q)) λ q=>.inr (.inr q)
  obtain ⟨u,ru,lk⟩:=hl i x v n2 es hv;refine ⟨u,ru,.inr ⟨vk (env:=X.env) n3,?_⟩⟩;rcases lk with ⟨q,_⟩ | ⟨_,c,ec,cell⟩
  ·rcases hk with z | z
   ·rw [show X.env.kindOf x=some .cell from z] at q;cases q
   ·rw [show X.env.kindOf x=some .free from z] at q;cases q
  ·obtain ⟨c',hc'⟩:=Option.isSome_iff_exists.mp (v1 X.env scope.names [] x (PySem.mem_of_lookup n3))
   have:=sound x c' hc'
   rw [ec] at this;cases this
   obtain ⟨ob,e,d⟩:=cell;exact ⟨c,hc',ob,hkeep c ob e,d⟩
 ·intro x c e;obtain ⟨v,ob,q,d⟩:=I2.cell x c (sound x c e);exact ⟨v,ob,hkeep c ob q,d⟩
 ·show upd H2 s2.heap.objs.size (.lst []) (s2.heap.objs.size+1)=none
  rw [qx (Nat.succ_ne_self _)];exact hfr1
 ·intro x c e;obtain ⟨v,ob,q,d⟩:=I2.cell x c (sound x c e);rw [qx (ltD c ob q)];exact I2.freeC x c (sound x c e)
 ·intro p hp;have hp':p∈X.pn++pins:=by
   have:p∈(X.pn++pins)++[]:=hp
   simpa using this
  obtain ⟨e,n,ne,nf,d⟩:=I2.pin p hp';refine ⟨hkeep _ _ e,by rw [qx (ltD _ _ e)];exact n,ltC _ _ e,λ z=>?_,d⟩;rcases List.mem_cons.mp (I2.stkSub p.1 z) with q | q
  ·exact ne q
  ·exact nf q
 ·show (stY o caps σ).length=NY.length
  unfold stY;rw [Xd,XB,Xa,S.len]
theorem qcE {pins:List (Addr×Obj)} {σ:St} {H2:Hp} {s2:Shared} {NY:List Str} {o:Nat} {caps:List Nat} {scope:Scope} {fp:List Addr} {it:Addr} {tn:Nat->Heap->Prop} {adv:Adv} {stop:Nat->Hp->Prop}
  {elt tg iter:Expr} {ifs:List Expr} {pos:Pos} {tt:TT} {te:TE} {Q:VK}
  (S:CompScope X NY o caps scope) (I2:Inv X pins σ H2 s2) (hfp:∀ b∈fp,jy X pins H2 b) (st2:tn 0 s2.heap)
  (Wk:∀ C,Walk (zx X NY scope C s2 H2 fp pins) tg fp it tn adv stop) (ht:∀ C,PTs (zx X NY scope C s2 H2 fp pins) ifs tt) (he:∀ C,PE (zx X NY scope C s2 H2 fp pins) elt te)
  (h:ji o caps adv stop tt te σ H2 Q) :
  wpAny (model X.prog X.w) X.A (newList []) (λ acc s₃=>wpAny (model X.prog X.w) X.A (newFunctionEnv scope X.env.globals (zM X.env scope.names []) [] X.env.qual none .none (some X.env)) (λ cenv s₄ =>
   codeAny (model X.prog X.w) X.A (.compStart (.ListComp elt [⟨tg,iter,ifs,0⟩] scope pos) 0 (.ref it) acc { cenv with scope:=relabel scope X.env }) (compPost (model X.prog X.w) X.A X.xe none (EP X pins σ Q) acc cenv.locals) s₄) X.xe s₃) X.xe s2:=by
 refine wpAny_newObj_type (wpAny_newFunctionEnv S.nocell (by intro y hy;simp at hy) (λ h₁ hns₁ hsb₁=>?_) S.kind);dsimp only at hns₁ hsb₁ ⊢;have hC:(s2.heap.push { cls:=.type "list",dict:=none,data:=.seq ([]:List Value).toArray }).objs.size=s2.heap.objs.size+1:=Heap.size_push _ _;rw [hC] at hns₁ hsb₁ ⊢;have hkeep:∀ b ob,s2.heap.get? b=some ob->h₁.get? b=some ob:=λ b ob e =>
  (hsb₁.2 b (Xo (Nat.lt_succ_of_lt (Xm e)))).trans (Xc _ (Xc _ e))
 have hD:∃ n,h₁.get? s2.heap.objs.size=some { cls:=.type "list",data:=.seq ([]:List Value).toArray n } :=
  ⟨_,(hsb₁.2 _ (Xo (Nat.lt_succ_self _))).trans (Xc _ (Xk _ rfl))⟩
 have hfr:H2 s2.heap.objs.size=none:=I2.hok.fresh (Xe _);obtain ⟨W,⟨m0,w0⟩,turn⟩:=h _ hfr;have ob0:=(Wk 0).obj 0 s2.heap st2;have I4:=qe1 S I2 hfp (λ b hb=>(ob0 b hb).imp λ _ q=>q.1) (hns:=hns₁) hkeep hD (s2.toks+([]:List (Str×Value)).length);have st4:tn 0 h₁:=(Wk 0).keep _ _ _ st2 λ b _ ob e=>hkeep b ob e
 have fr4:∀ b∈fp,upd H2 s2.heap.objs.size (.lst []) b=none:=λ b hb=>by
  obtain ⟨ob,e,_⟩:=ob0 b hb;rw [qx (Xo (Xm e))];exact (hfp b hb).1
 have loop:codeAny (model X.prog X.w) X.A (.compLoop (.ListComp elt [⟨tg,iter,ifs,0⟩] scope pos) 0 (.ref it) (.ref s2.heap.objs.size) (compEnvC scope (zM X.env scope.names []) (s2.heap.objs.size+1) X.env))
   (compPost (model X.prog X.w) X.A X.xe none (EP X pins σ Q) (.ref s2.heap.objs.size) (s2.heap.objs.size+1)) { s2 with heap:=h₁,toks:=s2.toks+([]:List (Str×Value)).length }:=by
  have Wk:=Wk (s2.heap.objs.size+1);have ht:=ht (s2.heap.objs.size+1);have he:=he (s2.heap.objs.size+1);generalize hY:zx X NY scope (s2.heap.objs.size+1) s2 H2 fp pins=Y at Wk ht he I4;have fpY:∀ {H':Hp},(∀ b∈fp,H' b=none)->∀ b∈fp,jy Y [] H' b:=λ {H'} hn b hb=>by
   subst hY;obtain ⟨ob,e,_⟩:=ob0 b hb;have k:=I4.ok.exf b hb;refine ⟨hn b hb,k.1,I4.ok.exfs b hb,.inl hb,k.2,λ p hp=>?_⟩;have hp':p∈X.pn++pins:=by
    have:p∈(X.pn++pins)++[]:=hp
    simpa using this
   exact (hfp b hb).2.2.2.2.2 p hp'
  refine vm (λ n s'=>∃ i ys H',Inv Y [] (stY o caps σ) H' s'/\tn i s'.heap/\(∀ b∈fp,H' b=none)/\W i n ys H') ?_ m0 ⟨0,[],_,I4,st4,fr4,w0⟩;rintro n s3 ⟨i,ys,H3,I3,st3,fr3,w3⟩;have eE:Y.xe=λ _ _=>False:=by subst hY;rfl
  have ePw:Y.prog=X.prog/\Y.w=X.w/\Y.A=X.A/\Y.env=compEnvC scope (zM X.env scope.names []) (s2.heap.objs.size+1) X.env:=by subst hY;exact ⟨rfl,rfl,rfl,rfl⟩
  obtain ⟨eP,ew,eA,ee⟩:=ePw;rw [<- eP,<- ew,<- eA,<- ee,<- eE];rcases turn i n ys H3 w3 with ⟨stp,qn⟩ | av
  ·refine thn (Wk.done i [] s3 _ H3 I3 (fpY fr3) st3 stp) λ r s4 ⟨hr,I5⟩=>?_
   subst hr;obtain ⟨m,hn,_⟩:=id I5.loc;have eC:Y.env.locals=s2.heap.objs.size+1:=by rw [ee];rfl
   rw [eC] at hn;refine ⟨m,hn,λ h' hs=>?_⟩;have u:=I5.base;have hokY:=I5.hok;have hfree:=I5.free;rw [eC] at hfree;have hbare:=I5.bare;have hos:=I5.os;subst hY;have u2:Un (frs X.stack) fp H2 H3 s2.heap h':=Un.but u hs (Nat.le_succ _);have hok2:HOk X.prog X.w H3 h':=HOk.but hokY hs hfree;refine ⟨.ref s2.heap.objs.size,H3,?_,rfl,qn⟩;obtain ⟨hh,g,d,t,os'⟩:=s4;obtain rfl:os'=s2.os:=hos;exact Inv.call (s:=s2) (h':=h') (g':=g) (d':=d) (t':=t) (ch:=fp) I2 u2 hok2 hbare λ b hb=>⟨(hfp b hb).2.2.2.1,(hfp b hb).2.1,(hfp b hb).2.2.2.2.1,(hfp b hb).2.2.2.2.2⟩
  ·refine thn (Wk.item i [] s3 _ H3 _ I3 (fpY fr3) st3 av) λ r s4 ⟨u,hr,h4⟩=>?_
   subst hr;refine thn h4 λ _ s5 h5=>thn h5 λ _ s6 ⟨σ6,H6,I6,⟨kp,q6⟩,st6,fr6⟩=>?_
   have I6':=I6.pinned (fp:=fp) (fpY fr6) (Wk.obj _ _ st6);refine thn (ht _ s6 σ6 H6 _ I6' q6) λ b s7 ⟨H7,I7,q7⟩=>?_
   cases b with
   | false =>
    obtain ⟨m',hm,w7⟩:=q7;obtain ⟨J1,J2,J3⟩:=zE (tg:=tg) (tn:=tn) (i:=i+1) (Wk.obj _ _ st6) (λ h' k=>Wk.keep _ _ _ st6 k) I7;exact ⟨m',hm,i+1,ys,H7,J1.weak kp.2.symm kp.get,J2,J3,w7⟩
   | true =>
    refine thn (he _ s7 σ6 H7 _ I7 q7) λ y s8 ⟨yv,H8,I8,r8,hD8,hz8,m',hm,w8⟩=>?_
    refine thn (zA (X:=Y) _ s8 σ6 H8 (.ref s2.heap.objs.size) [yv] _ _ (λ v H'=>v=.non/\H'=upd H8 s2.heap.objs.size (.lst (ys++[yv]))) I8 rfl (.cons r8 .nil) ⟨_,ys,yv,rfl,rfl,hD8,hz8,rfl,rfl⟩) λ v s9 ⟨_,H9,I9,_,_,e9⟩=>?_
    subst e9;obtain ⟨J1,J2,J3⟩:=zE (tg:=tg) (tn:=tn) (i:=i+1) (Wk.obj _ _ st6) (λ h' k=>Wk.keep _ _ _ st6 k) I9;exact ⟨m',hm,i+1,ys++[yv],_,J1.weak kp.2.symm kp.get,J2,J3,w8⟩
 exact codeAny_compStart_list loop ((Wk 0).self _ 0 _ _ _ st4 loop)
def qiA (o:Nat) (caps:List Nat) (wi:TI) (g:TG) (tt:TT) (te:TE):TE:=λ σ H Q=>wi σ H λ J H1=>ji o caps (qe0 J g) J.stop tt te σ H1 Q
theorem ye {elt iter tg:Expr} {ifs:List Expr} {scope:Scope} {pos:Pos} {NY:List Str} {o:Nat} {caps:List Nat} {wi:TI} {g:TG} {tt:TT} {te:TE}
  (S:CompScope X NY o caps scope) (hc:X.calm=true) (hi:PI X tg iter wi)
  (hg:∀ C s H fp pins,PG (zx X NY scope C s H fp pins) tg g) (ht:∀ C s H fp pins,PTs (zx X NY scope C s H fp pins) ifs tt) (he:∀ C s H fp pins,PE (zx X NY scope C s H fp pins) elt te)
  (hs:∀ x,foldedSetIterable iter X.env x=pure x:=by intro _;rfl):PE X (.ListComp elt [⟨tg,iter,ifs,0⟩] scope pos) (qiA o caps wi g tt te):=by
 intro pins s σ H Q I h;rw [eval_ListComp];refine wpAny_comprehension_free (use:=none) (g:=⟨tg,iter,ifs,0⟩) (gs:=[]) rfl hs (yH λ y hy e=>I.ok.has _ (S.frees y hy e)) S.kind S.locs ?_;show wpAny _ _ (eval iter X.env) _ _ s
 refine thn (hi pins s σ H _ I h) λ v s1 h1=>thn h1 λ itv s2 h2=>?_
 obtain ⟨it,fp,tn,J,H2,e,I2,T,st2,f2,hr⟩:=h2;subst e;exact qcE S I2 f2 st2 (λ C=>Turn.walk (Y:=zx X NY scope C s2 H2 fp pins) hc T (hg _ _ _ _ _)) (λ C=>ht _ _ _ _ _) (λ C=>he _ _ _ _ _) hr
def qlG (o:Nat) (caps:List Nat) (wi:TI2) (n:Nat) (t:TGs) (tt:TT) (te:TE):TE:=λ σ H Q=>wi σ H λ J H1=>ji o caps (qga J n t) J.stop tt te σ H1 Q
theorem qcF {elt iter:Expr} {es:List Expr} {k n:Nat} {tpos:Pos} {ifs:List Expr} {scope:Scope} {pos:Pos} {NY:List Str} {o:Nat} {caps:List Nat} {wi:TI2} {t:TGs} {tt:TT} {te:TE}
  (S:CompScope X NY o caps scope) (hc:X.calm=true) (hi:PI2 X (.Tuple es k tpos) iter wi)
  (hg:∀ C s H fp pins,PGs (zx X NY scope C s H fp pins) es t) (hn:∀ env,(assignEach es env).length=n) (hst:∀ env,(assignEach es env).findIdx? (·.1)=none)
  (ht:∀ C s H fp pins,PTs (zx X NY scope C s H fp pins) ifs tt) (he:∀ C s H fp pins,PE (zx X NY scope C s H fp pins) elt te)
  (hs:∀ x,foldedSetIterable iter X.env x=pure x:=by intro _;rfl):PE X (.ListComp elt [⟨.Tuple es k tpos,iter,ifs,0⟩] scope pos) (qlG o caps wi n t tt te):=by
 intro pins s σ H Q I h;rw [eval_ListComp];refine wpAny_comprehension_free (use:=none) (g:=⟨.Tuple es k tpos,iter,ifs,0⟩) (gs:=[]) rfl hs (yH λ y hy e=>I.ok.has _ (S.frees y hy e)) S.kind S.locs ?_;show wpAny _ _ (eval iter X.env) _ _ s
 refine thn (hi pins s σ H _ I h) λ v s1 h1=>thn h1 λ itv s2 h2=>?_
 obtain ⟨it,fp,tn,J,H2,e,I2,T,st2,f2,hr⟩:=h2;subst e;exact qcE S I2 f2 st2 (λ C=>Turn2.walk (Y:=zx X NY scope C s2 H2 fp pins) hc T (hg _ _ _ _ _) (hn _) (hst _)) (λ C=>ht _ _ _ _ _) (λ C=>he _ _ _ _ _) hr
end
def ItV (n:Nat) (val:Nat->V):It:=⟨λ i _=>i < n,λ i H x H'=>H'=H/\x=val i,λ i _=>i=n⟩
theorem qaJ {P:Program} {w:World} {K:PySem.W.Frag} {tg:Expr} {it:Addr} {n:Nat} {Pv:Nat->Value->Prop} {St:Nat->Heap->Prop} (val:Nat->V)
  (W:∀ A:Around,A.handled=none->Walks P w A it [it] [it] n Pv St) (hv:∀ i v,Pv i v->qV (val i) v)
  (ob:∀ i h,St i h->∃ o nm vs,h.get? it=some o/\o.cls=.type nm/\o.data=.fields vs/\["enumerate","zip","dict_itemiterator","dict_reverseitemiterator","odict_iterator","itertools.zip_longest","itertools.pairwise"].contains nm=false)
  (self:∀ (A:Around) (i:Nat) (s:Shared) (Q:Value->Shared->Prop) (E:Value->Shared->Prop),St i s.heap->Q (.ref it) s->wpAny (model P w) A (pyIter (.ref it)) Q E s) :
  Turn P w K tg (ItV n val) [it] it St where
 mem:=by simp
 obj:=λ i h st b hb=>by
  have e:b=it:=by simpa using hb
  subst e;obtain ⟨o,nm,vs,e,_,d,_⟩:=ob i h st;exact ⟨o,e,λ v z=>by rw [d] at z;cases z⟩
 keep:=λ i h h' st k=>by
  have ha:callerA.handled=none:=rfl;exact (W callerA ha).frame i h h' st k
 item:=by
  intro X hP hw hK hc i pins s σ H E I hf st hg;subst hP hw hK;obtain ⟨f0,f1,f2,f3,f4,f5⟩:=hf it (by simp);refine (W X.A (I.ok.hd hc)).item i s _ _ hg st λ v h' tk hv' st' kk=>?_
  have I1:Inv X pins σ H { s with heap:=h',toks:=tk }:=I.turned (λ b o hb e=>kk b o (by simpa using hb) e) f0 f1 f3 f4 f5;obtain ⟨o,nm,vs,e,c,d,nn⟩:=ob _ _ st';exact ⟨_,rfl,qgO (s:={ s with heap:=h',toks:=tk }) e c d nn ⟨val i,H,I1,hv i v hv',⟨rfl,rfl⟩,st',λ b hb=>(hf b hb).1⟩⟩
 done:=by
  intro X hP hw hK hc i pins s σ H E I hf st hg;subst hP hw hK;obtain ⟨f0,f1,f2,f3,f4,f5⟩:=hf it (by simp);have hg:i=n:=hg;subst hg;exact (W X.A (I.ok.hd hc)).done s _ _ st λ h' tk kk=>⟨rfl,I.turned (λ b o hb e=>kk b o (by simpa using hb) e) f0 f1 f3 f4 f5⟩
 self:=self
theorem qgX {n:Nat} {val:Nat->V} {g:TG} {tb:TS} {D:Ends} {σ:St} {H:Hp} (Pv:Nat->St->Hp->Prop) (h0:Pv 0 σ H)
  (hs:∀ i σ H,i < n->Pv i σ H->g (val i) σ H λ σ2 H2=>tb { D with nx:=Pv (i+1),ct:=Pv (i+1),bk:=D.nx } σ2 H2) (hd:∀ σ H,Pv n σ H->D.nx σ H) :
  ∃ W:Nat->Nat->St->Hp->Prop,(∃ m,W 0 m σ H)/\∀ i m σ H,W i m σ H ->
   ((ItV n val).stop i H/\D.nx σ H)∨((ItV n val).go i H/\∃ N:St->Hp->Prop,(∀ σ' H',N σ' H'->∃ m',m' < m/\W (i+1) m' σ' H')/\∀ x H',(ItV n val).yld i H x H'->g x σ H' λ σ2 H2=>tb { D with nx:=N,ct:=N,bk:=D.nx } σ2 H2):=by
 refine ⟨λ i m σ H=>m=n - i/\i<=n/\Pv i σ H,⟨n,by simp,Nat.zero_le _,h0⟩,?_⟩;rintro i m σ H ⟨rfl,hi,p⟩;by_cases hlt:i < n
 ·refine .inr ⟨hlt,Pv (i+1),λ σ' H' p'=>⟨n - (i+1),by omega,rfl,hlt,p'⟩,λ x H' y=>?_⟩;obtain ⟨e,y⟩:=y;subst e y;exact hs i σ _ hlt p
 ·have e:i=n:=by omega
  subst e;exact .inl ⟨rfl,hd σ H p⟩
def sgn (z:Str) (i:Nat):V:=.str ⟨#[z.cps.getD i 0]⟩
theorem qgb {z:Str} {i:Nat} {v:Value} (h:SignAt z i v):qV (sgn z i) v:=by
 obtain ⟨c,u,e,rfl⟩:=h;refine ⟨u,?_⟩
 have:z.cps.getD i 0=c:=by rw [Array.getD_eq_getD_getElem?,e];rfl
 rw [this]
def qnC (te:TE):TI:=λ σ H R=>te σ H λ x H1=>∃ z,x=.str z/\R (ItV z.cps.size (sgn z)) H1
theorem qd9 {X:Cx} {tg e:Expr} {te:TE} (he:PE X e te):PI X tg e (qnC te):=by
 intro pins s σ H R I h;refine thn (he pins s σ H _ I h) λ v s1 ⟨x,H1,I1,r1,z,ez,q⟩=>?_
 subst ez;obtain ⟨t,rfl⟩:=r1;cases ha:z.cps.all (· < 128) with
 | false =>
  refine wpAny_pyIter_wide ha ⟨s1.heap.objs.size,[s1.heap.objs.size],_,_,H1,rfl,I1.kept (t':=s1.toks) λ b o e=>Xc _ e,
   qaJ (sgn z) (λ A hA=>Walks.strWide hA _ z t) (λ i v=>qgb) (λ i h st=>?_) (λ _ _ _ _ _ st h=>wpAny_pyIter_striter_wide st h),⟨_,Xk _ rfl,rfl,rfl⟩,λ b hb=>?_,q⟩
  ·obtain ⟨o,e,c,d⟩:=st;exact ⟨o,_,_,e,c,d,by decide⟩
  ·have e:b=s1.heap.objs.size:=by simpa using hb
   subst e;exact I1.fpOk (Xe _) (I1.hok.fresh (Xe _))
 | true =>
  refine wpAny_pyIter_ascii ha ⟨s1.heap.objs.size,[s1.heap.objs.size],_,_,H1,rfl,I1.kept (t':=s1.toks) λ b o e=>Xc _ e,
   qaJ (sgn z) (λ A hA=>Walks.strAscii hA _ z t) (λ i v=>qgb) (λ i h st=>?_) (λ _ _ _ _ _ st h=>wpAny_pyIter_striter_ascii st h),⟨_,Xk _ rfl,rfl,rfl⟩,λ b hb=>?_,q⟩
  ·obtain ⟨o,e,c,d⟩:=st;exact ⟨o,_,_,e,c,d,by decide⟩
  ·have e:b=s1.heap.objs.size:=by simpa using hb
   subst e;exact I1.fpOk (Xe _) (I1.hok.fresh (Xe _))
theorem qcG {X:Cx} {T:String} {x:Str} {a:Expr} {ta:TA} {p pos:Pos} {pins:List (Addr×Obj)} {s:Shared} {σ:St} {H:Hp} {Q:Value->Shared->Prop} {R:List V->Hp->Prop} (hg:Gl X x) (hm:X.mg x=none) (hv:bootBuiltins x=some (.type T))
  (ha:PA X [a] ta) (I:Inv X pins σ H s) (h:ta σ H R) (hk:∀ us s1 vs H1,Inv X pins σ H1 s1->qN vs us->R vs H1->wpAny (model X.prog X.w) X.A (call (.type T) us) Q X.xe s1)
  (hn:x≠"__name__":=by decide) (hd:(x == ("__debug__":Str))=false:=by decide) (hs:starEach [a] X.env=[(false,eval a X.env)]:=by rfl):wpAny (model X.prog X.w) X.A (eval (.Call (.Name x p) [a] [] pos) X.env) Q X.xe s:=by
 refine Call_ (qbp I hg hm hv (PyProof.Rows.callWith_type1 (thn (ha pos pins s σ H _ I h) λ us s1 ⟨vs,H1,I1,r1,q1⟩=>hk us s1 vs H1 I1 r1 q1) hs rfl) hn hd)
def qhG (K:PySem.W.Frag) (a:Addr):It2 :=
 ⟨λ i H=>∃ xs x,SqL K H a xs/\xs[i]?=some x,λ i H ys H'=>H'=H/\∃ x,ys=[.int i,x]/\∀ xs,SqL K H a xs->xs[i]?=some x,λ i H=>∃ xs,SqL K H a xs/\xs.length<=i⟩
def qlH (e it a:Addr) (i:Nat) (h:Heap):Prop:=(∃ old,IsEnum h e it i old)/\h.IsListIter it a i
theorem qhH {P:Program} {w:World} {K:PySem.W.Frag} {es:List Expr} {k:Nat} {pos:Pos} (a e it:Addr) (hne:e≠it):Turn2 P w K (.Tuple es k pos) (qhG K a) [e,it] e (qlH e it a) where
 obj:=λ i h st b hb=>by
  obtain ⟨⟨old,he⟩,o,ho,c,d⟩:=st;have hb:b=e∨b=it:=by simpa using hb
  rcases hb with z | z
  ·subst z;exact ⟨_,he,λ v q=>by cases q⟩
  ·subst z;exact ⟨o,ho,λ v q=>by rw [d] at q;cases q⟩
 keep:=λ i h h' st k=>by
  obtain ⟨⟨old,he⟩,hit⟩:=st;exact ⟨⟨old,k e (by simp) _ he⟩,hit.at λ o q=>k it (by simp) o q⟩
 item:=by
  intro X hP hw hK hc i pins s σ H E I hf st hg;subst hP hw hK;obtain ⟨xs,x,hq,hx⟩:=hg;obtain ⟨its,rv,p,hz⟩:=I.list hq;obtain ⟨u,hu,ru⟩:=rv.get hx;obtain ⟨⟨old,he⟩,hit⟩:=st;have fe:=hf e (by simp);have fi:=hf it (by simp);refine wpAny_pyNext_enum_item he hit p.isList (x:=u) (by simpa using hu) hne λ h' heo hit' ht hsz hk=>?_
  refine ⟨s.heap.objs.size,rfl,wpAny_letOwnedTupleGo_enum heo λ h2 he2 hs2=>?_⟩;replace hs2:Heap.SameBut e h' h2:=hs2;have hel:e < s.heap.objs.size:=Xm he;have k2:∀ b o,b≠e->b≠it->s.heap.get? b=some o->h2.get? b=some o:=λ b o h1 h3 q=>hs2.extBut b o h1 (hk b o h1 h3 q)
  have I1:Inv X pins σ H { s with heap:=h2,toks:=s.toks+1 }:=by
   refine I.step (g':=s.gens) (d':=s.drawn) (ch:=[e,it]) (λ b hb=>?_) (λ b o _ _ hcc q _=>k2 b o (λ z=>hcc (by simp [z])) (λ z=>hcc (by simp [z])) q)
    (λ b o _ _ hcc q _=>⟨o.slots,k2 b o (λ z=>hcc (by simp [z])) (λ z=>hcc (by simp [z])) q⟩) (λ _ _ _ _ n=>n) (λ b o hcc q=>⟨o,k2 b o (λ z=>hcc (by simp [z])) (λ z=>hcc (by simp [z])) q⟩)
    (λ _ _ q=>q) (λ _ _ _ q=>q) (λ b ps q=>⟨#[],by rw [q];simp⟩) (λ m hm=>?_) (λ b u q=>?_) I.bare
   ·have hb:b=e∨b=it:=by simpa using hb
    rcases hb with z | z
    ·subst z;exact ⟨fe.2.2.2.1,fe.2.1,fe.2.2.2.2.1,fe.2.2.2.2.2⟩
    ·subst z;exact ⟨fi.2.2.2.1,fi.2.1,fi.2.2.2.2.1,fi.2.2.2.2.2⟩
   ·obtain ⟨o,es',ep,ho,r⟩:=hm;exact ⟨o,es',ep,k2 _ o (Ne.symm fe.2.1) (Ne.symm fi.2.1) ho,r⟩
   ·refine (I.hok b u q).stay (λ c v hcc z=>k2 c v (λ y=>?_) (λ y=>?_) z) (λ _ z=>z) λ _ _ z=>z
    ·rcases hcc with y' | y'
     ·rw [<- y',y,fe.1] at q;cases q
     ·rw [y,fe.1] at y';cases y'
    ·rcases hcc with y' | y'
     ·rw [<- y',y,fi.1] at q;cases q
     ·rw [y,fi.1] at y';cases y'
  refine ⟨[.int i,x],[.int i s.toks,u],H,I1,⟨_,(hs2.extBut _ _ (Nat.ne_of_gt hel) ht),rfl,_,rfl⟩,.cons ⟨_,rfl⟩ (.cons ru .nil),⟨rfl,x,rfl,λ ys hy=>by rw [I.list_inj hy hq];exact hx⟩,⟨⟨u,?_⟩,hit'.extBut hs2.extBut (Ne.symm hne)⟩,λ b hb=>(hf b hb).1⟩
  ·have:((i:Int)+1)=((i+1:Nat):Int):=by omega
   rw [<- this];exact he2
 done:=by
  intro X hP hw hK hc i pins s σ H E I hf st hg;subst hP hw hK;obtain ⟨xs,hq,hx⟩:=hg;obtain ⟨its,rv,p,hz⟩:=I.list hq;obtain ⟨⟨old,he⟩,hit⟩:=st;obtain ⟨f0,f1,f2,f3,f4,f5⟩:=hf it (by simp);have hl:=rv.length;exact wpAny_pyNext_enum_end (I.ok.hd hc) he hit p.isList (by simp;omega) λ h' eb=>⟨rfl,I.turned (t':=s.toks) (λ b o hb e=>eb b o hb e) f0 f1 f3 f4 f5⟩
 self:=λ A i s Q E st h=>by
  obtain ⟨⟨old,he⟩,hit⟩:=st;exact wpAny_pyIter_enum he h
def qmI (K:PySem.W.Frag) (ta:TA):TI2:=λ σ H R=>ta σ H λ vs H1=>∃ a,vs=[.ref a]/\(∃ xs,SqL K H1 a xs)/\R (qhG K a) H1
theorem qkg {X:Cx} {es:List Expr} {k:Nat} {tpos:Pos} {l:Expr} {ta:TA} {p pos:Pos} (hg:Gl X "enumerate") (hm:X.mg "enumerate"=none) (ha:PA X [l] ta) (hs:starEach [l] X.env=[(false,eval l X.env)]:=by rfl) :
  PI2 X (.Tuple es k tpos) (.Call (.Name "enumerate" p) [l] [] pos) (qmI X.K ta):=by
 intro pins s σ H R I h;refine qcG (R:=λ vs H1=>∃ a,vs=[.ref a]/\(∃ xs,SqL X.K H1 a xs)/\R (qhG X.K a) H1) hg hm boot_enumerate ha I h (λ us s1 vs H1 I1 r1 q1=>?_) (hs:=hs);obtain ⟨a,e,⟨xs,hq⟩,q⟩:=q1;subst e;obtain ⟨u,rfl,ru⟩:=yr r1;cases ru
 obtain ⟨its,rv,pl,hz⟩:=I1.list hq;refine call_enumerate_list pl.isList λ h' he hit hsz hk=>wpAny_pyIter_enum he ?_
 refine ⟨s1.heap.objs.size+1,[s1.heap.objs.size+1,s1.heap.objs.size],_,_,H1,rfl,I1.kept (t':=s1.toks) hk,qhH a _ _ (Nat.succ_ne_self _),⟨⟨_,he⟩,hit⟩,λ b hb=>?_,q⟩;have hb:b=s1.heap.objs.size+1∨b=s1.heap.objs.size:=by simpa using hb
 rcases hb with z | z
 ·subst z;exact I1.fpOk (Nat.le_succ _) (I1.hok.fresh (Nat.le_succ _))
 ·subst z;exact I1.fpOk (Xe _) (I1.hok.fresh (Xe _))
def ItZ (K:PySem.W.Frag) (a b:Addr):It2 :=
 ⟨λ i H=>∃ xs ys x y,SqL K H a xs/\SqL K H b ys/\xs[i]?=some x/\ys[i]?=some y,λ i H zs H'=>H'=H/\∃ x y,zs=[x,y]/\(∀ xs,SqL K H a xs->xs[i]?=some x)/\(∀ ys,SqL K H b ys->ys[i]?=some y),
  λ i H=>∃ xs ys,SqL K H a xs/\SqL K H b ys/\(xs.length<=i∨ys.length<=i)⟩
def qmJ (z TI TO i1 i2 a b:Addr) (i:Nat) (h:Heap):Prop:=IsZip h z TI TO .none/\IsPair h TI (.ref i1) (.ref i2)/\(∃ c d,IsPair h TO c d)/\h.IsListIter i1 a i/\h.IsListIter i2 b i
theorem qiB {P:Program} {w:World} {K:PySem.W.Frag} {es:List Expr} {k:Nat} {pos:Pos} {a b z TI TO i1 i2:Addr} (D:ZipApart z TI TO i1 i2 a b) :
  Turn2 P w K (.Tuple es k pos) (ItZ K a b) [z,TI,TO,i1,i2] z (qmJ z TI TO i1 i2 a b) where
 obj:=λ i h st c hc=>by
  obtain ⟨hz,hTI,⟨c1,d1,hTO⟩,⟨o1,ho1,cc1,dd1⟩,⟨o2,ho2,cc2,dd2⟩⟩:=st;have hc:c=z∨c=TI∨c=TO∨c=i1∨c=i2:=by simpa using hc
  rcases hc with e | e | e | e | e
  ·subst e;exact ⟨_,hz,λ v q=>by cases q⟩
  ·subst e;exact ⟨_,hTI,λ v q=>by cases q⟩
  ·subst e;exact ⟨_,hTO,λ v q=>by cases q⟩
  ·subst e;exact ⟨o1,ho1,λ v q=>by rw [dd1] at q;cases q⟩
  ·subst e;exact ⟨o2,ho2,λ v q=>by rw [dd2] at q;cases q⟩
 keep:=λ i h h' st k=>by
  obtain ⟨hz,hTI,⟨c1,d1,hTO⟩,h1,h2⟩:=st;exact ⟨k z (by simp) _ hz,k TI (by simp) _ hTI,⟨c1,d1,k TO (by simp) _ hTO⟩,h1.at λ o q=>k i1 (by simp) o q,h2.at λ o q=>k i2 (by simp) o q⟩
 item:=by
  intro X hP hw hK hc i pins s σ H E I hf st hg;subst hP hw hK;obtain ⟨xs,ys,x,y,hq1,hq2,hx,hy⟩:=hg;obtain ⟨its1,rv1,p1,hz1⟩:=I.list hq1;obtain ⟨its2,rv2,p2,hz2⟩:=I.list hq2;obtain ⟨u1,hu1,ru1⟩:=rv1.get hx;obtain ⟨u2,hu2,ru2⟩:=rv2.get hy;obtain ⟨hz,hTI,⟨c1,d1,hTO⟩,h1,h2⟩:=st;refine wpAny_pyNext_zip_item D hz hTI hTO h1 h2 p1.isList p2.isList (x:=u1) (y:=u2) (by simpa using hu1) (by simpa using hu2) λ h' hz' hTO' h1' h2' hp hsz hk=>?_
  refine ⟨s.heap.objs.size,rfl,wpAny_letOwnedTupleGo_zip hz' λ h2' hz2' hs2=>?_⟩;rename_i g2';replace hs2:Heap.SameBut z h' h2':=hs2;have hzl:z < s.heap.objs.size:=Xm hz;have k2:∀ c o,c≠z->c≠TO->c≠i1->c≠i2->s.heap.get? c=some o->h2'.get? c=some o:=λ c o a1 a2 a3 a4 q=>hs2.extBut c o a1 (hk c o a1 a2 a3 a4 q)
  have fz:=hf z (by simp);have fO:=hf TO (by simp);have f1:=hf i1 (by simp);have f2:=hf i2 (by simp);have nn:∀ c,c ∉ [z,TO,i1,i2]->c≠z/\c≠TO/\c≠i1/\c≠i2:=λ c hcc=>by simpa using hcc
  have I1:Inv X pins σ H { s with heap:=h2' }:=by
   refine I.step (g':=s.gens) (d':=s.drawn) (t':=s.toks) (ch:=[z,TO,i1,i2]) (λ c hcc=>?_) (λ c o _ _ hcc q _=>k2 c o (nn c hcc).1 (nn c hcc).2.1 (nn c hcc).2.2.1 (nn c hcc).2.2.2 q)
    (λ c o _ _ hcc q _=>⟨o.slots,k2 c o (nn c hcc).1 (nn c hcc).2.1 (nn c hcc).2.2.1 (nn c hcc).2.2.2 q⟩) (λ _ _ _ _ n=>n) (λ c o hcc q=>⟨o,k2 c o (nn c hcc).1 (nn c hcc).2.1 (nn c hcc).2.2.1 (nn c hcc).2.2.2 q⟩)
    (λ _ _ q=>q) (λ _ _ _ q=>q) (λ c ps q=>⟨#[],by rw [q];simp⟩) (λ m hm=>?_) (λ c u q=>?_) I.bare
   ·have:jy X pins H c:=by
     have hcc:c=z∨c=TO∨c=i1∨c=i2:=by simpa using hcc
     rcases hcc with e | e | e | e <;> subst e <;> assumption
    exact ⟨this.2.2.2.1,this.2.1,this.2.2.2.2.1,this.2.2.2.2.2⟩
   ·obtain ⟨o,es',ep,ho,r⟩:=hm;exact ⟨o,es',ep,k2 _ o (Ne.symm fz.2.1) (Ne.symm fO.2.1) (Ne.symm f1.2.1) (Ne.symm f2.2.1) ho,r⟩
   ·have no:∀ b',H b'=none->∀ c',(c'=c∨H c'=some (.own c))->c'≠b':=λ b' hb' c' hc' e=>by
     subst e;rcases hc' with e | e
     ·subst e;rw [hb'] at q;cases q
     ·rw [hb'] at e;cases e
    exact (I.hok c u q).stay (λ c' v hcc r=>k2 c' v (no z fz.1 c' hcc) (no TO fO.1 c' hcc) (no i1 f1.1 c' hcc) (no i2 f2.1 c' hcc) r) (λ _ r=>r) λ _ _ r=>r
  have hpt:IsPair h2' s.heap.objs.size u1 u2:=hs2.extBut _ _ (Nat.ne_of_gt hzl) hp;refine ⟨[x,y],[u1,u2],H,I1,⟨_,hpt,rfl,_,rfl⟩,.cons ru1 (.cons ru2 .nil),⟨rfl,x,y,rfl,λ ws hw=>by rw [I.list_inj hw hq1];exact hx,λ ws hw=>by rw [I.list_inj hw hq2];exact hy⟩,?_,λ c hcc=>(hf c hcc).1⟩;refine ⟨hz2',hs2.extBut _ _ D.TIz (hk _ _ D.TIz D.TITO D.TIi1 D.TIi2 hTI),⟨_,_,hs2.extBut _ _ D.TOz hTO'⟩,h1'.extBut hs2.extBut D.i1z,g2'.extBut hs2.extBut D.i2z⟩
 done:=by
  intro X hP hw hK hc i pins s σ H E I hf st hg;subst hP hw hK;obtain ⟨xs,ys,hq1,hq2,hx⟩:=hg;obtain ⟨its1,rv1,p1,hz1⟩:=I.list hq1;obtain ⟨its2,rv2,p2,hz2⟩:=I.list hq2;obtain ⟨hz,hTI,⟨c1,d1,hTO⟩,h1,h2⟩:=st;have hl1:=rv1.length;have hl2:=rv2.length;have fz:=hf z (by simp);have fO:=hf TO (by simp);have f1:=hf i1 (by simp);have f2:=hf i2 (by simp);have nn:∀ c,c ∉ [z,TO,i1,i2]->c≠z/\c≠TO/\c≠i1/\c≠i2:=λ c hcc=>by simpa using hcc
  refine wpAny_pyNext_zip_end (I.ok.hd hc) D hz hTI hTO h1 h2 p1.isList p2.isList (by rcases hx with q | q;left;simp;omega;right;simp;omega) λ h' k2=>⟨rfl,?_⟩
  refine I.step (g':=s.gens) (d':=s.drawn) (t':=s.toks) (ch:=[z,TO,i1,i2]) (λ c hcc=>?_) (λ c o _ _ hcc q _=>k2 c o (nn c hcc).1 (nn c hcc).2.1 (nn c hcc).2.2.1 (nn c hcc).2.2.2 q)
   (λ c o _ _ hcc q _=>⟨o.slots,k2 c o (nn c hcc).1 (nn c hcc).2.1 (nn c hcc).2.2.1 (nn c hcc).2.2.2 q⟩) (λ _ _ _ _ n=>n) (λ c o hcc q=>⟨o,k2 c o (nn c hcc).1 (nn c hcc).2.1 (nn c hcc).2.2.1 (nn c hcc).2.2.2 q⟩)
   (λ _ _ q=>q) (λ _ _ _ q=>q) (λ c ps q=>⟨#[],by rw [q];simp⟩) (λ m hm=>?_) (λ c u q=>?_) I.bare
  ·have:jy X pins H c:=by
    have hcc:c=z∨c=TO∨c=i1∨c=i2:=by simpa using hcc
    rcases hcc with e | e | e | e <;> subst e <;> assumption
   exact ⟨this.2.2.2.1,this.2.1,this.2.2.2.2.1,this.2.2.2.2.2⟩
  ·obtain ⟨o,es',ep,ho,r⟩:=hm;exact ⟨o,es',ep,k2 _ o (Ne.symm fz.2.1) (Ne.symm fO.2.1) (Ne.symm f1.2.1) (Ne.symm f2.2.1) ho,r⟩
  ·have no:∀ b',H b'=none->∀ c',(c'=c∨H c'=some (.own c))->c'≠b':=λ b' hb' c' hc' e=>by
    subst e;rcases hc' with e | e
    ·subst e;rw [hb'] at q;cases q
    ·rw [hb'] at e;cases e
   exact (I.hok c u q).stay (λ c' v hcc r=>k2 c' v (no z fz.1 c' hcc) (no TO fO.1 c' hcc) (no i1 f1.1 c' hcc) (no i2 f2.1 c' hcc) r) (λ _ r=>r) λ _ _ r=>r
 self:=λ A i s Q E st h=>wpAny_pyIter_zip st.1 h
def qnD (K:PySem.W.Frag) (ta:TA):TI2:=λ σ H R=>ta σ H λ vs H1=>∃ a b,vs=[.ref a,.ref b]/\(∃ xs,SqL K H1 a xs)/\(∃ ys,SqL K H1 b ys)/\R (ItZ K a b) H1
theorem qgc {X:Cx} {es:List Expr} {k:Nat} {tpos:Pos} {l1 l2:Expr} {ta:TA} {p pos:Pos} (hg:Gl X "zip") (hm:X.mg "zip"=none) (ha:PA X [l1,l2] ta)
  (hs:starEach [l1,l2] X.env=[(false,eval l1 X.env),(false,eval l2 X.env)]:=by rfl) (hs2:starEach [l2] X.env=[(false,eval l2 X.env)]:=by rfl) :
  PI2 X (.Tuple es k tpos) (.Call (.Name "zip" p) [l1,l2] [] pos) (qnD X.K ta):=by
 intro pins s σ H R I h;refine Call_ (qbp I hg hm boot_zip (PyProof.Rows.callWith_type1 (thn (ha pos pins s σ H _ I h) λ us s1 ⟨vs,H1,I1,r1,q1⟩=>?_) (by rw [hs,hs2]) (by rw [hs2];rfl)));obtain ⟨a,b,e,⟨xs,hq1⟩,⟨ys,hq2⟩,q⟩:=q1;subst e;obtain ⟨u1,u2,rfl,ru1,ru2⟩:=qgS r1;cases ru1
 cases ru2
 obtain ⟨its1,rv1,p1,hz1⟩:=I1.list hq1;obtain ⟨its2,rv2,p2,hz2⟩:=I1.list hq2;have a1:a < s1.heap.objs.size:=by obtain ⟨_,e,_⟩:=p1.isList;exact Xm e
 have a2:b < s1.heap.objs.size:=by obtain ⟨_,e,_⟩:=p2.isList;exact Xm e
 refine call_zip_2 p1.isList p2.isList λ h' hz hTI hTO hi1 hi2 hsz hk=>wpAny_pyIter_zip hz ?_
 refine ⟨s1.heap.objs.size+4,[s1.heap.objs.size+4,s1.heap.objs.size+2,s1.heap.objs.size+3,s1.heap.objs.size,s1.heap.objs.size+1],_,_,H1,rfl,I1.kept (t':=s1.toks) hk,qiB (zipApart_new a1 a2),⟨hz,hTI,⟨_,_,hTO⟩,hi1,hi2⟩,λ c hc=>?_,q⟩;have hc:c=s1.heap.objs.size+4∨c=s1.heap.objs.size+2∨c=s1.heap.objs.size+3∨c=s1.heap.objs.size∨c=s1.heap.objs.size+1:=by simpa using hc
 have hle:s1.heap.objs.size<=c:=by rcases hc with e | e | e | e | e <;> rw [e] <;> omega
 exact I1.fpOk hle (I1.hok.fresh hle)
abbrev cs (z:Str):List Nat:=z.cps.toList
def qj (l:List Nat):Str:=⟨l.toArray⟩
theorem qiC (z:Str):qj (cs z)=z:=rfl
theorem qgd {a b:Str} (h:cs a=cs b):a=b:=by rw [<- qiC a,<- qiC b,h]
abbrev vS (l:List Nat):V:=.str (qj l)
theorem qge {a b:List Nat} (h:vS a=vS b):a=b:=by
 injection h with h
 have:=congrArg cs h
 exact this
theorem vo:∀ {ss:List Str} {us:List Value},qN (ss.map V.str) us->StrsAre us ss
 | [],_,r=>by cases r;exact .nil
 | x::ss,_,r=>by
  rw [List.map_cons] at r;cases r with
  | cons h t =>
   obtain ⟨t',rfl⟩:=h;exact .cons _ _ (vo t)
theorem vp:∀ {ss:List Str} {us:List Value},StrsAre us ss->qN (ss.map V.str) us
 | _,_,.nil=>.nil
 | _,_,.cons x t h=>.cons ⟨t,rfl⟩ (vp h)
section
variable {X:Cx}
def qmK (K:PySem.W.Frag):V->List V->Hp->VK->Prop:=λ x vs H Q=>∃ z p ss,x=.str z/\vs=[.ref p]/\(SqL K H p (ss.map V.str)∨SqT K H p (ss.map V.str))/\(ss.map (·.length)).sum+ss.length * z.length<=16777216/\Q (.str (Txt.join z ss)) H
theorem qa3:MtR X "str.join" (qmK X.K):=by
 intro pins s σ H x vs v us Q I rx rv h;obtain ⟨z,p,ss,rfl,rfl,hq,hz,q⟩:=h;obtain ⟨t,rfl⟩:=rx;obtain ⟨u,rfl,ru⟩:=yr rv;cases ru
 rcases hq with hq | hq
 ·obtain ⟨its,r,pl,_⟩:=I.list hq;exact join_list pl.isList (vo (by simpa using r)) hz λ t' k=>⟨.str (Txt.join z ss),H,I.tok _,⟨_,rfl⟩,q⟩
 ·obtain ⟨its,r,pl,_⟩:=I.tuple hq;exact join_tuple pl (vo (by simpa using r)) hz λ t' k=>⟨.str (Txt.join z ss),H,I.tok _,⟨_,rfl⟩,q⟩
def qa4 (ss:List Str):List Str:=(Fs.srt (ss.map cs)).map qj
theorem qhI (a b:List Nat):ltCps a b=decide (a < b):=ltCps_eq a b
theorem qea {ss ss':List Str} (hp:ss'.Perm ss) (hs:sortedS ss'=true):ss'=qa4 ss:=by
 have key:∀ (p:Str) (l:List Str),risingS p l=true->(∀ x∈l,¬ cs x < cs p)/\(l.map cs).Pairwise (λ x y=>¬ y < x):=by
  intro p l;induction l generalizing p with
  | nil=>intro _;exact ⟨by simp,by simp⟩
  | cons a l ih =>
   intro h;simp only [risingS,Bool.and_eq_true,Bool.not_eq_true'] at h;obtain ⟨h1,h2⟩:=h;have ha:¬ cs a < cs p:=by
    have:=h1
    rw [qhI] at this;exact of_decide_eq_false this
   obtain ⟨i1,i2⟩:=ih a h2;refine ⟨λ x hx=>?_,?_⟩
   ·rcases List.mem_cons.mp hx with e | e
    ·rw [e];exact ha
    ·intro hlt
     have:=i1 x e
     by_cases hpa:cs p < cs a
     ·exact this (List.lt_trans hlt hpa)
     ·have e':=Fs.plt_total hpa ha;rw [e'] at hlt;exact this hlt
   ·rw [List.map_cons];exact List.pairwise_cons.mpr ⟨λ y hy=>by
     obtain ⟨x,hx,rfl⟩:=List.mem_map.mp hy;exact i1 x hx,i2⟩
 have hpw:(ss'.map cs).Pairwise (λ x y=>¬ y < x):=by
  cases ss' with
  | nil=>simp
  | cons a l =>
   have h:risingS a l=true:=hs;obtain ⟨i1,i2⟩:=key a l h;rw [List.map_cons];exact List.pairwise_cons.mpr ⟨λ y hy=>by
    obtain ⟨x,hx,rfl⟩:=List.mem_map.mp hy;exact i1 x hx,i2⟩
 have e:=Fs.srt_of (hp.map cs) hpw;unfold qa4;rw [<- e,List.map_map]
 have:qj ∘ cs=id:=funext λ z=>qiC z
 rw [this,List.map_id]
structure Kind {α:Type} (f:α->V):Prop where
 flat:∀ a,qis (f a)=true
 eq:∀ a b,eqV (f a) (f b)=true ↔ a=b
theorem v8:Kind V.str:=⟨λ _=>rfl,λ a b=>by show (a == b)=true ↔ a=b;exact beq_iff_eq⟩
def qbI {α:Type} (f:α->V) (as bs:List α) (j:Nat):Bool:=match as[j]?,bs[j]? with
 | some a,some b=>eqV (f a) (f b)
 | _,_=>true
theorem jV {α:Type} [DecidableEq α] {f:α->V} (k:Kind f):∀ (as bs:List α),((List.range (min as.length bs.length)).all (qbI f as bs) && as.length == bs.length)=decide (as=bs):=by
 intro as bs;rw [Bool.eq_iff_iff,Bool.and_eq_true,decide_eq_true_iff,List.all_eq_true];constructor
 ·rintro ⟨h1,h2⟩;have hl:as.length=bs.length:=by simpa using h2
  refine List.ext_getElem? λ j=>?_
  by_cases hj:j < as.length
  ·have:=h1 j (by rw [List.mem_range];omega)
   have ea:as[j]?=some as[j]:=Xb hj;have eb:bs[j]?=some (bs[j]'(by omega)):=Xb (by omega);unfold qbI at this;rw [ea,eb] at this;rw [ea,eb,(k.eq _ _).mp this]
  ·rw [List.getElem?_eq_none (by omega),List.getElem?_eq_none (by omega)]
 ·rintro rfl;refine ⟨λ j hj=>?_,by simp⟩;unfold qbI;cases e:as[j]? with
  | none=>rfl
  | some a=>exact (k.eq a a).mpr rfl
theorem kc {α:Type} {f:α->V} (k:Kind f) {A:Around} {s:Shared} {as bs:List α} {us vs:List Value} (ra:qN (as.map f) us) (rb:qN (bs.map f) vs) (j:Nat) (h1:j < us.toArray.size) (h2:j < vs.toArray.size) :
  SeqAt.EqAt A s us.toArray[j] vs.toArray[j] (qbI f as bs j):=by
 have l1:=ra.length;have l2:=rb.length;rw [Xa] at l1 l2;rw [Xl] at h1 h2;have ea:as[j]?=some (as[j]'(by omega)):=Xb (by omega);have eb:bs[j]?=some (bs[j]'(by omega)):=Xb (by omega);obtain ⟨u,hu,ru⟩:=ra.get (i:=j) (x:=f (as[j]'(by omega))) (by rw [Xw,ea];rfl);obtain ⟨v,hv,rv⟩:=rb.get (i:=j) (x:=f (bs[j]'(by omega))) (by rw [Xw,eb];rfl);have hu':us.toArray[j]=u:=by
  have:us[j]?=some us[j]:=Xb h1
  rw [hu] at this;simpa using (Xs this).symm
 have hv':vs.toArray[j]=v:=by
  have:vs[j]?=some vs[j]:=Xb h2
  rw [hv] at this;simpa using (Xs this).symm
 rw [hu',hv'];unfold qbI;rw [ea,eb];exact qlC ru rv (k.flat _) (k.flat _)
def qk9 {α:Type} [DecidableEq α] (K:PySem.W.Frag) (f:α->V) (neg:Bool):R2:=λ x y H Q=>∃ (a b:Addr) (as bs:List α),x=.ref a/\y=.ref b/\((SqT K H a (as.map f)/\SqT K H b (bs.map f))∨(SqL K H a (as.map f)/\SqL K H b (bs.map f)))/\Q (.bl (if neg then !decide (as=bs) else decide (as=bs))) H
theorem qkh {α:Type} [DecidableEq α] {f:α->V} (k:Kind f) (hu:X.A.units < cLine):OpR X (compareOp .Eq) (qk9 X.K f false):=by
 intro pins s σ H x y v u Q I rx ry h;obtain ⟨a,b,as,bs,rfl,rfl,hq,q⟩:=h;cases rx
 cases ry
 have q:Q (.bl (decide (as=bs))) H:=q;rcases hq with ⟨h1,h2⟩ | ⟨h1,h2⟩
 ·obtain ⟨its,r1,p1,_⟩:=I.tuple h1;obtain ⟨its2,r2,p2,_⟩:=I.tuple h2;have l1:=r1.length;have l2:=r2.length;rw [Xa] at l1 l2;refine SeqAt.eq_tupleAt (show s.heap.IsTuple a its.toArray from p1) (show s.heap.IsTuple b its2.toArray from p2) hu (λ j h1 h2=>kc k r1 r2 j h1 h2) ⟨.bl (decide (as=bs)),H,I,?_,q⟩;rw [Xl,Xl,<- l1,<- l2,jV k];rfl
 ·obtain ⟨its,r1,p1,_⟩:=I.list h1;obtain ⟨its2,r2,p2,_⟩:=I.list h2;have l1:=r1.length;have l2:=r2.length;rw [Xa] at l1 l2;by_cases hs:its.toArray.size=its2.toArray.size
  ·refine SeqAt.eq_listAt p1.isList p2.isList hs hu (λ j h1 h2=>kc k r1 r2 j h1 h2) ⟨.bl (decide (as=bs)),H,I,?_,q⟩;have e:=jV k as bs;rw [Xl,Xl] at hs;rw [show as.length=bs.length by omega,Nat.min_self,beq_self_eq_true,Bool.and_true] at e;rw [Xl,show its.length=bs.length by omega,e];rfl
  ·refine SeqAt.eq_list_lengthsAt p1.isList p2.isList (by simpa using hs) hu ⟨.bl (decide (as=bs)),H,I,?_,q⟩;rw [Xu]
   ·rfl
   ·intro e;rw [Xl,Xl,<- l1,<- l2,e] at hs;exact hs rfl
theorem qgY {α:Type} [DecidableEq α] {f:α->V} (k:Kind f) (hu:X.A.units < cLine):OpR X (compareOp .NotEq) (qk9 X.K f true):=by
 intro pins s σ H x y v u Q I rx ry h;obtain ⟨a,b,as,bs,rfl,rfl,hq,q⟩:=h;cases rx
 cases ry
 have q:Q (.bl (!decide (as=bs))) H:=q;rcases hq with ⟨h1,h2⟩ | ⟨h1,h2⟩
 ·obtain ⟨its,r1,p1,_⟩:=I.tuple h1;obtain ⟨its2,r2,p2,_⟩:=I.tuple h2;have l1:=r1.length;have l2:=r2.length;rw [Xa] at l1 l2;refine SeqAt.RcNeAt.tuples (A:=X.A) (s:=s) (e:=qbI f as bs) (show s.heap.IsTuple a its.toArray from p1) (show s.heap.IsTuple b its2.toArray from p2) hu (λ j h1 h2=>kc k r1 r2 j h1 h2) X.prog X.w X.xe _ ⟨.bl (!decide (as=bs)),H,I,?_,q⟩;rw [Xl,Xl,<- l1,<- l2,jV k];rfl
 ·obtain ⟨its,r1,p1,_⟩:=I.list h1;obtain ⟨its2,r2,p2,_⟩:=I.list h2;have l1:=r1.length;have l2:=r2.length;rw [Xa] at l1 l2;by_cases hs:its.toArray.size=its2.toArray.size
  ·refine SeqAt.RcNeAt.lists (A:=X.A) (s:=s) (e:=qbI f as bs) p1.isList p2.isList hs hu (λ j h1 h2=>kc k r1 r2 j h1 h2) X.prog X.w X.xe _ ⟨.bl (!decide (as=bs)),H,I,?_,q⟩;have e:=jV k as bs;rw [Xl,Xl] at hs;rw [show as.length=bs.length by omega,Nat.min_self,beq_self_eq_true,Bool.and_true] at e;rw [Xl,show its.length=bs.length by omega,e];rfl
  ·refine SeqAt.RcNeAt.lists_lengths (A:=X.A) (s:=s) p1.isList p2.isList (by simpa using hs) hu X.prog X.w X.xe _ ⟨.bl (!decide (as=bs)),H,I,?_,q⟩;rw [Xu]
   ·rfl
   ·intro e;rw [Xl,Xl,<- l1,<- l2,e] at hs;exact hs rfl
def qlI (K:PySem.W.Frag):R2:=λ x y H Q=>∃ a b xs ys,x=.ref a/\y=.ref b/\SqT K H a xs/\SqT K H b ys/\xs.length+ys.length<=sizeLine /\
 ∀ p H',qh H H'->SqT K H' p (xs++ys)->Q (.ref p) H'
theorem qcH {H:Hp} {p:Addr} (h:H p=none) (o:HO):qh H (upd H p o):=λ b u q=>by rw [qx (zw q h)];exact q
theorem qki {prog:Program} {w:World} {A:Around} {E:Value->Shared->Prop} {s:Shared} {t b:Addr} {vs ws:List Value} {Q:Value->Shared->Prop} (ht:IsTup s.heap t vs.toArray) (hb:IsTup s.heap b ws.toArray)
  (h0:vs=[]->Q (.ref b) s) (h1:vs≠[]->ws=[]->Q (.ref t) s) (h2:vs≠[]->ws≠[]->Q (.ref s.heap.objs.size) { s with heap:=s.heap.push { cls:=.type "tuple",data:=.seq (vs++ws).toArray } })
  (hsz:vs.length+ws.length<=sizeLine):wpAny (model prog w) A (binaryOp .Add (.ref t) (.ref b)) Q E s:=by
 by_cases hv:vs=[]
 ·obtain ⟨⟨cls,dd,data,sl⟩,ho,hc,n,hd⟩:=id ht;obtain ⟨⟨cls2,dd2,data2,sl2⟩,ho2,hc2,n2,hd2⟩:=id hb;simp only at hc hd hc2 hd2;subst hc hd hc2 hd2;exact concat_meets ⟨_,ho,rfl⟩ ⟨_,ho2,rfl⟩ noFill_tuple_add seq_tuple_add PySem.F.slot_tuple_add PySem.F.entry_tuple_add (PySem.F.args_tuple_add_2 _ _)
   (tuple_addW0 t b vs.toArray ws.toArray n n2 dd dd2 sl sl2 (by simp [hv])) ⟨ho,ho2,h0 hv⟩
 ·exact HT.cat_tup ht hb hv (h1 hv) (h2 hv) hsz
theorem qiD:OpR X (binaryOp .Add) (qlI X.K):=by
 intro pins s σ H x y v u Q I rx ry h;obtain ⟨a,b,xs,ys,rfl,rfl,hq1,hq2,hz,q⟩:=h;cases rx
 cases ry
 obtain ⟨its,r1,p1,_⟩:=I.tuple hq1;obtain ⟨its2,r2,p2,_⟩:=I.tuple hq2;have l1:=r1.length;have l2:=r2.length;have e0:its=[]->xs=[]:=λ e=>by rw [e] at l1;exact List.eq_nil_of_length_eq_zero l1
 have e1:its2=[]->ys=[]:=λ e=>by rw [e] at l2;exact List.eq_nil_of_length_eq_zero l2
 refine qki p1 p2 (λ h=>⟨.ref b,H,I,rfl,?_⟩) (λ h h'=>⟨.ref a,H,I,rfl,?_⟩) (λ h h'=>⟨.ref s.heap.objs.size,_,I.laid (a:=s.heap.objs.size) (o:=.tup (xs++ys)) (t':=s.toks) (λ _ _ q=>Xc _ q) (Xe _) ⟨?_,its++its2,r1.append r2,?_⟩,rfl,?_⟩) (by omega)
 ·refine q b H (qh.refl H) ?_;rw [e0 h];exact hq2
 ·refine q a H (qh.refl H) ?_;rw [e1 h',List.append_nil];exact hq1
 ·rw [Xd];exact hz
 ·exact ⟨_,Xk _ rfl,rfl,_,rfl⟩
 ·have hf:=I.hok.fresh (Xe s.heap.objs.size);exact q _ _ (qcH hf _) (SqT.of qe)
theorem qbJ (hc:X.calm=true):jh X (.builtin "all") (λ xs H Q=>∃ (p:Addr) (bs:List Bool),xs=[.ref p]/\SqL X.K H p (bs.map V.bl)/\Q (.bl (bs.all id)) H):=by
 intro pins s σ H xs us Q I r h;obtain ⟨p,bs,rfl,hq,q⟩:=h;obtain ⟨u,rfl,ru⟩:=yr r;cases ru
 obtain ⟨its,rv,pl,hz⟩:=I.list hq;have hl:=rv.length;rw [Xa] at hl;have hh:X.A.in1.handled=none:=by simp [I.ok.hd hc]
 have plt:p < s.heap.objs.size:=by obtain ⟨_,e,_⟩:=pl.isList;exact Xm e
 refine call_all_walk (wpAny_pyIter_list pl.isList ⟨s.heap.objs.size,_,_,_,_,_,λ i=>bs.getD i true,rfl,Walks.list hh s.heap.objs.size p (Xo plt) its.toArray,
  ⟨⟨_,Xk _ rfl,rfl,rfl⟩,pl.isList.push _⟩,λ i v s Q E hv hQ=>?_,λ h' tk hk=>?_⟩)
 ·have e:its[i]?=some v:=by simpa using hv
  have hi:i < bs.length:=by rw [hl];exact (List.getElem?_eq_some_iff.mp e).1
  obtain ⟨u,hu,ru⟩:=rv.get (i:=i) (x:=.bl bs[i]) (by rw [Xw,Xb hi];rfl);rw [e] at hu;cases hu
  cases ru
  refine wpAny_truthy_bool ?_
  have:bs.getD i true=bs[i]:=by rw [List.getD_eq_getElem?_getD,Xb hi];rfl
  have hQ':Q (bs.getD i true) s:=hQ;rw [this] at hQ';exact hQ'
 ·have hf:=I.hok.fresh (Xe s.heap.objs.size);refine ⟨.bl (bs.all id),H,?_,?_,q⟩
  ·have I1:Inv X pins σ H { s with heap:=s.heap.push { cls:=.type "list_iterator",data:=.fields #[.ref p,.int 0 0] } }:=I.kept (t':=s.toks) λ _ _ e=>Xc _ e
   refine I.kept (t':=tk) λ b o e=>hk b o (λ z=>?_) (Xc _ e)
   have:b=s.heap.objs.size:=by simpa using z
   exact absurd (Xm e) (by rw [this];exact XC _)
  ·show Value.bool _=Value.bool _
   congr 1
   rw [Xl,<- hl,Bool.eq_iff_iff,List.all_eq_true,List.all_eq_true];constructor
   ·intro h b hb;obtain ⟨i,hi,e⟩:=List.getElem_of_mem hb
    have:=h i (List.mem_range.mpr hi)
    rw [List.getD_eq_getElem?_getD,Xb hi,e] at this;exact this
   ·intro h i hi;have hi:=List.mem_range.mp hi;rw [List.getD_eq_getElem?_getD,Xb hi];exact h _ (List.getElem_mem hi)
end
theorem qaK {α:Type}:∀ (l:List α) (i:Nat) (h:i < l.length),(l[i]::l.eraseIdx i).Perm l
 | x::l,0,_=>List.Perm.refl _
 | x::l,i+1,h=>by
  have:=qaK l i (by simpa using h)
  rw [List.getElem_cons_succ,List.eraseIdx_cons_succ];exact (List.Perm.swap _ _ _).trans (this.cons x)
section
variable {prog:Program} {w:World} {A:Around} {E:Value->Shared->Prop} {s:Shared}
theorem qeb {M:Model} {src:Source} {n:Nat} {Q:Nat->Shared->Prop} (hn:n≠0) (h:∀ i d,i < n->Q i { s with drawn:=d }):wpAny M A (choose src n) Q E s:=λ Γ p hΓ=>by
 show Sem.wp M Γ (Sem.choose src n Sem.pure) _ _ p s
 rw [Sem.wp];refine ⟨hn,?_⟩;rw [Sem.wp];exact h _ _ (Nat.mod_lt _ (Nat.pos_of_ne_zero hn))
theorem yX {M:Model} {α:Type}:∀ (n:Nat) (xs:List α) (s:Shared) (Q:List α->Shared->Prop),xs.length=n->(∀ ys d,ys.Perm xs->Q ys { s with drawn:=d })->wpAny M A (drawOrder n xs) Q E s
 | 0,xs,s,Q,hl,h=>by
  have:xs=[]:=List.eq_nil_of_length_eq_zero hl
  subst this;unfold drawOrder;have e:=h [] s.drawn (List.Perm.refl _);cases s
  exact Xg e
 | n+1,[],s,Q,hl,h=>by simp at hl
 | n+1,x::xs,s,Q,hl,h=>by
  unfold drawOrder;refine Xf (qeb (by simp) λ i d hi=>?_);have e:(x::xs)[i]?=some (x::xs)[i]:=Xb hi;rw [e];dsimp only;refine Xf (yX n ((x::xs).eraseIdx i) _ _ ?_ λ ys d' hp=>Xg ?_)
  ·rw [List.length_eraseIdx_of_lt hi];omega
  ·refine h _ d' ((hp.cons _).trans ?_);exact qaK (x::xs) i hi
def byT (w:World):Prop:=w.params.followText "set-order"=true
def qbu (P:Program) (w:World) (x:Str) (e:Int×Value):Prop:=e.1=(qC P w).hash (.inr x)/\∃ t,e.2=.str x t
def qP (P:Program) (w:World) (h:Heap) (a:Addr) (ys:List Str):Prop :=
 ∃ o es ep t,h.get? a=some o/\o.ExactSet/\o.data=.set es ep t/\Paired (qbu P w) ys es.toList/\ys.Nodup/\ys.length < scanBound/\t.fits es.size=true/\(t.led=true∨byT w)/\(ys=[]∨t.plain=false)
theorem qcI {P:Program} {w:World} {ys:List Str} {l:List (Int×Value)} (h:Paired (qbu P w) ys l):ElemsOf (qC P w) l:=by
 induction h with
 | nil=>intro e he;cases he
 | cons h _ ih =>
  intro e he;rcases List.mem_cons.mp he with z | z
  ·subst z;obtain ⟨h1,t,h2⟩:=h;exact ⟨⟨.inr _,by rw [h2];exact zu _ _ _ _,h1⟩,by rw [h2];rfl⟩
  ·exact ih e z
theorem qcJ {P:Program} {w:World} {ys:List Str} {l:List (Int×Value)} (h:Paired (qbu P w) ys l) (k:Key):(∃ e∈l,(qC P w).is k e.2=true) ↔ ∃ y∈ys,k=.inr y:=by
 induction h with
 | nil=>simp
 | @cons y e ys l h _ ih =>
  obtain ⟨h1,t,h2⟩:=h;have hk:(qC P w).is k e.2=true ↔ k=.inr y:=by
   rw [h2];constructor
   ·intro q;exact (qC P w).inj _ _ _ q (zu P w y t)
   ·rintro rfl;exact zu P w y t
  simp only [List.mem_cons,exists_eq_or_imp,ih,hk]
theorem yP {α β:Type} {F:α->β->Prop} {xs:List α} {l l':List β} (h:Paired F xs l) (p:l'.Perm l):∃ xs',xs'.Perm xs/\Paired F xs' l':=by
 induction p generalizing xs with
 | nil=>cases h;exact ⟨[],List.Perm.refl _,.nil⟩
 | cons b p ih =>
  cases h with
  | cons h t =>
   obtain ⟨xs',h1,h2⟩:=ih t;exact ⟨_::xs',h1.cons _,.cons h h2⟩
 | swap a b l =>
  cases h with
  | cons h t =>
   cases t with
   | cons h' t=>exact ⟨_,List.Perm.swap _ _ _,.cons h' (.cons h t)⟩
 | trans _ _ i1 i2 =>
  obtain ⟨xs',h1,h2⟩:=i2 h;obtain ⟨xs'',h3,h4⟩:=i1 h2;exact ⟨xs'',h3.trans h1,h4⟩
theorem q8 {α β:Type} {F:α->β->Prop}:∀ {xs ys:List α} {us vs:List β},Paired F xs us->Paired F ys vs->Paired F (xs++ys) (us++vs)
 | _,_,_,_,.nil,s=>s
 | _,_,_,_,.cons r t,s=>.cons r (q8 t s)
theorem qhJ (t:SetTable) (es:Array (Int×Value)) (h:Int) (x:Value):(layNew t es h x).2.1.led=t.led/\(t.plain=false->(layNew t es h x).2.1.plain=false):=by
 unfold layNew;split
 ·rename_i slot wd e;dsimp only;unfold SetTable.orStandIn;split
  ·exact ⟨rfl,λ h=>h⟩
  ·exact ⟨rfl,λ _=>rfl⟩
 ·exact ⟨rfl,λ _=>rfl⟩
theorem qgf {mask finger moves:Nat} {led plain:Bool} {hs:Array Int} {r:SetTable×Array Nat} (h:SetTable.laid mask finger moves led plain hs=some r):r.1.led=led/\r.1.plain=plain:=by
 unfold SetTable.laid at h;cases e:SetTable.layClean mask hs with
 | none=>rw [e] at h;cases h
 | some o=>rw [e] at h;cases h;exact ⟨rfl,rfl⟩
theorem qe2 (t:SetTable) (es:Array (Int×Value)) (n:Nat):(relayAll t es n).2.1.led=t.led/\(t.plain=false->(relayAll t es n).2.1.plain=false):=by
 unfold relayAll;split
 ·rename_i t' order e;have f:=qgf (show SetTable.laid _ _ _ _ _ _=some (t',order) from e);dsimp only;split
  ·exact ⟨f.1,λ h=>f.2.trans h⟩
  ·exact ⟨rfl,λ _=>rfl⟩
 ·exact ⟨rfl,λ _=>rfl⟩
theorem jf {P:Program} {w:World} {h:Heap} {a:Addr} {o:Obj} {es:Array (Int×Value)} {ep:Nat} {t:SetTable} (ho:h.get? a=some o) (hex:o.ExactSet) (hd:o.data=.set es ep t)
  {es':Array (Int×Value)} {t':SetTable} {ys:List Str} (hp:Paired (qbu P w) ys es'.toList) (nd:ys.Nodup) (hb:ys.length < scanBound) (hf:t'.fits es'.size=true) (hl:t'.led=true∨byT w) (hpl:ys=[]∨t'.plain=false) :
  (h.update a (Obj.putSet es' t')).get? a=some { o with data:=.set es' (ep+1) t' }/\qP P w (h.update a (Obj.putSet es' t')) a ys:=by
 have hg:(h.update a (Obj.putSet es' t')).get? a=some { o with data:=.set es' (ep+1) t' }:=by
  have:=Heap.get?_update_self (Obj.putSet es' t') ho (by rw [putSet_of es' t' hd];rfl)
  rw [putSet_of es' t' hd] at this;exact this
 exact ⟨hg,_,es',ep+1,t',hg,hex,rfl,hp,nd,hb,hf,hl,hpl⟩
theorem qe3 {g:Bool->Sem Unit} (hg:∀ (b:Bool) (s₁:Shared) (Q':Unit->Shared->Prop),Q' () s₁->wpAny (model prog w) A (g b) Q' E s₁)
  {a:Addr} {o:Obj} {es:Array (Int×Value)} {ep:Nat} {t:SetTable} (ho:s.heap.get? a=some o) (hex:o.ExactSet) (hd:o.data=.set es ep t)
  {es1:Array (Int×Value)} {t2:SetTable} {ys:List Str} (hp1:Paired (qbu prog w) ys es1.toList) (nd:ys.Nodup) (hb1:ys.length < scanBound) (hf2:t2.fits es1.size=true) (hl:t2.led=true∨byT w) (hpl:t2.plain=false)
  {wasDummy:Bool} {R:Option Bool->Shared->Prop}
  (h:∀ h' ys',Heap.SameBut a s.heap h'->ys'.Perm ys->qP prog w h' a ys'->R (some true) { s with heap:=h' }) :
  wpAny (model prog w) A (do
    storeSet a es1 t2
    if (!wasDummy && t2.tooFull)=true then do
        g (relayAll t2 es1 (SetTable.grown es1.size)).2.2
        storeSet a (relayAll t2 es1 (SetTable.grown es1.size)).1 (relayAll t2 es1 (SetTable.grown es1.size)).2.1
        pure (some true)
     else pure (some true)) R E s:=by
 have hlen:es1.size < scanBound:=by rw [<- Xh,<- hp1.length];exact hb1
 refine Xf (wpAny_storeSet_of ho hd ?_ (fits_of_scanBound hlen));obtain ⟨ho1,hS1⟩:=jf (P:=prog) (w:=w) ho hex hd hp1 nd hb1 hf2 hl (.inr hpl);have hsb1:=Heap.SameBut.update s.heap a (Obj.putSet es1 t2);split
 ·have hp:=relayAll_perm t2 es1 (SetTable.grown es1.size);have hfr:=relayAll_fits t2 es1 (SetTable.grown es1.size);have hfl:=qe2 t2 es1 (SetTable.grown es1.size);generalize hRl:relayAll t2 es1 (SetTable.grown es1.size)=Rl at hp hfr hfl ⊢;obtain ⟨es2,t3,gave2⟩:=Rl;dsimp only at hp hfr hfl ⊢;obtain ⟨ys',hy,hp2⟩:=yP hp1 hp;have hlen2:es2.size < scanBound:=by rw [<- Xh,hp.length_eq,Xh];exact hlen
  refine Xf (hg _ _ _ ?_);refine Xf (wpAny_storeSet_of ho1 rfl ?_ (fits_of_scanBound hlen2));obtain ⟨_,hS2⟩:=jf (P:=prog) (w:=w) ho1 hex rfl hp2 (hy.nodup_iff.mpr nd) (by rw [hy.length_eq];exact hb1) hfr (by rw [hfl.1];exact hl) (.inr (hfl.2 hpl));exact Xg (h _ ys' (hsb1.trans (Heap.SameBut.update _ a _)) hy hS2)
 ·exact Xg (h _ ys hsb1 (List.Perm.refl _) hS1)
theorem qe4 {a:Addr} {ys:List Str} {x:Str} {t0:Tok} {Q:Bool->Shared->Prop} (hS:qP prog w s.heap a ys) (hroom:ys.length+1 < scanBound)
  (h0:x∈ys->Q false s) (h1:x ∉ ys->∀ h' ys',Heap.SameBut a s.heap h'->ys'.Perm (ys++[x])->qP prog w h' a ys'->Q true { s with heap:=h' }) :
  wpAny (model prog w) A (setAddHashed a (.str x t0) ((qC prog w).hash (.inr x))) Q E s:=by
 obtain ⟨o,es,ep,t,ho,hex,hd,hp,nd,hb,hf,hl,hpl⟩:=hS;have hel:=qcI hp;have hkey:(qC prog w).is (.inr x) (.str x t0)=true:=zu _ _ _ _;have hsc:(Value.str x t0).scannable=true:=rfl;have hlen:es.size < scanBound:=by rw [<- Xh,<- hp.length];exact hb
 unfold setAddHashed setAddHashedIn;refine wpAny_holding (Xf (wpAny_setState_of ho hd hf ?_));dsimp only;rw [byScan_of hsc hlen hel];simp only [↓reduceIte];unfold setAddByScan;refine Xf ?_;refine Xf (wpAny_rule ?_);refine Xf (wpAny_setScan_of hkey ho hd hf hel ?_);cases hr:List.findIdx? (λ e=>(qC prog w).is (.inr x) e.2) es.toList with
 | some j =>
  dsimp only;obtain ⟨hj,hpj,_⟩:=List.findIdx?_eq_some_iff_getElem.mp hr;obtain ⟨y,hy,e⟩:=(qcJ hp (.inr x)).mp ⟨es.toList[j],List.getElem_mem hj,hpj⟩;cases e
  exact Xg (Xg (h0 hy))
 | none =>
  dsimp only;have hx:x ∉ ys:=λ hx=>by
   obtain ⟨e,he,q⟩:=(qcJ hp (.inr x)).mpr ⟨x,hx,rfl⟩
   have:=List.findIdx?_eq_none_iff.mp hr e he
   rw [q] at this;exact Bool.noConfusion this
  have hgw:∀ (b:Bool) {s₁:Shared} {Q':Unit->Shared->Prop},Q' () s₁->wpAny (model prog w) A (match b with | true=>rule "set.scan.the-table-gave-way" | false=>pure ()) Q' E s₁ :=
   λ b s₁ Q' hq=>by cases b <;> first | exact Xg hq | exact wpAny_rule hq
  have hperm:=layNew_perm t es ((qC prog w).hash (.inr x)) (.str x t0);have hfits:=layNew_fits t es ((qC prog w).hash (.inr x)) (.str x t0);have hfl:=qhJ t es ((qC prog w).hash (.inr x)) (.str x t0);generalize hL:layNew t es ((qC prog w).hash (.inr x)) (.str x t0)=L at hperm hfits hfl ⊢;obtain ⟨es1,t1,wasDummy,gave⟩:=L;dsimp only at hperm hfits hfl ⊢;rw [Array.toList_push] at hperm;obtain ⟨ys1,hy1,hp1⟩:=yP (q8 hp (.cons (F:=qbu prog w) (a:=x) (b:=((qC prog w).hash (.inr x),.str x t0)) ⟨rfl,t0,rfl⟩ .nil)) hperm;have nd1:ys1.Nodup:=by
   rw [hy1.nodup_iff];exact List.nodup_append.mpr ⟨nd,by simp,λ a ha b hb e=>by simp at hb;subst hb;subst e;exact hx ha⟩
  have hb1:ys1.length < scanBound:=by rw [hy1.length_eq,Xd];exact hroom
  refine Xf (hgw _ ?_);have hend:∀ h' ys',Heap.SameBut a s.heap h'->ys'.Perm ys1->qP prog w h' a ys'->Q true { s with heap:=h' }:=λ h' ys' hsb hq hS'=>h1 hx h' ys' hsb (hq.trans hy1) hS'
  split
  ·refine Xf ?_;rw [hashByValue_scannable 8 hsc];refine Xg ?_;refine qe3 (t2:=_) ?_ ho hex hd hp1 nd1 hb1 (SetTable.fits_plain_off hfits) (by show t1.led=true∨_;rw [hfl.1];exact hl) rfl ?_
   ·intro b s₁ Q' hq;cases b <;> first | exact Xg hq | exact wpAny_rule hq
   ·intro h' ys' hsb hq hS';dsimp only;exact Xg (hend h' ys' hsb hq hS')
  ·rename_i hnp;refine Xf (Xg ?_);simp only [↓reduceIte];refine qe3 ?_ ho hex hd hp1 nd1 hb1 hfits (by rw [hfl.1];exact hl) (by simpa using hnp) ?_
   ·intro b s₁ Q' hq;cases b <;> first | exact Xg hq | exact wpAny_rule hq
   ·intro h' ys' hsb hq hS';dsimp only;exact Xg (hend h' ys' hsb hq hS')
end
section
variable {prog:Program} {w:World} {A:Around} {E:Value->Shared->Prop} {s:Shared}
abbrev qK (w:World):Obj:={ cls:=.type "set",dict:=none,data:=.set #[] 0 (.fresh 0 0 (!(w.params.followText "set-order"))) }
theorem jD {h:Heap} {a:Addr} (e:h.get? a=some (qK w)):qP prog w h a [] :=
 ⟨_,#[],0,_,e,⟨rfl,rfl,rfl⟩,rfl,.nil,List.nodup_nil,by decide,rfl,by
  unfold byT;cases w.params.followText "set-order"
  ·exact .inl rfl
  ·exact .inr rfl,.inl rfl⟩
theorem qhK (a:Value) {Q₁:Value->Shared->Prop} (h:Q₁ (.ref s.heap.objs.size) { s with heap:=s.heap.push (qK w) }) :
  codeAny (model prog w) A (.call (.builtin "set.__new__") ⟨[.type "set",a],[]⟩) (wants Q₁ E) s:=by
 refine codeAny_of_tree ?_;show wpAny _ A.in1 (do checkBuiltinCall "set.__new__" ⟨[.type "set",a],[]⟩;again (.builtin "set.__new__" ⟨[.type "set",a],[]⟩)) _ _ s
 refine Xf (wpAny_of_eq (F.newCall_set_1 a) (Xg ⟨plainId_quiet F.plain_set_new _,codeAny_builtin F.entry_set_new ?_⟩));rw [Around.under_plainId F.plain_set_new _];unfold Builtin.«set.__new__» Builtin.Frozenset.newClass;have hsub:=sub_set_self;obtain ⟨hp,g,d,tk,os⟩:=s;dsimp only
 wp_walk
 refine wpAny_askSetting (Xg ?_);dsimp only;simp only [newObj];refine Xf (wpAny_alloc (Xg ?_));exact Xg h
set_option maxHeartbeats 3200000 in
theorem kh (a:Value) {Q:Value->Shared->Prop}
  (h:wpAny (model prog w) A.in1.in1 (Builtin.Frozenset.updateFrom "set.__init__" s.heap.objs.size a) (λ _ s2=>s2.TypeIs (.ref s.heap.objs.size) "set"/\Q (.ref s.heap.objs.size) s2) E { s with heap:=s.heap.push (qK w) }) :
  wpAny (model prog w) A (call (.type "set") [a]) Q E s:=by
 obtain ⟨c,tl,hmro⟩:=F.called_set.mro;have hmade:=F.called_set.made;have hsub:=F.called_set.sub;refine wpAny_call (codeAny_of_tree ?_);show wpAny _ _ (callAny (.type "set") _) _ _ _
 refine Xg ⟨Code.quiet_builtin _ (by decide +kernel),codeAny_builtin F.entry_type_call ?_⟩;rw [Around.under_plain (weight_type_call_type "set" [a] []) rfl];have h1:=F.called_set.notType;have h2:=F.called_set.canCreate;have hct:=F.typeCall_set_1 a
 repeat (any_goals (first | assumption | wp_step))
 refine codeAny_mono (qhK a (E:=E) (Q₁:=λ obj s₁=>obj=.ref s.heap.objs.size/\s₁={ s with heap:=s.heap.push (qK w) }) ⟨rfl,rfl⟩) λ r s₁ hr=>?_
 cases r with
 | error e=>exact hr
 | ok fl =>
  cases fl with
  | ret obj =>
   obtain ⟨rfl,rfl⟩:=hr;have hS:(s.heap.push (qK w)).get? s.heap.objs.size=some (qK w):=Xk _ rfl;have hT:Shared.TypeIs { s with heap:=s.heap.push (qK w) } (.ref s.heap.objs.size) "set":=⟨_,hS,rfl⟩;have hli:=F.called_set.init.lookup;have hbi:=F.called_set.init.bind (.ref s.heap.objs.size)
   repeat (any_goals (first | assumption | wp_step))
   refine codeAny_mono (codeAny_call_builtin (R:=wants (λ r s₂=>r=.none/\s₂.TypeIs (.ref s.heap.objs.size) "set"/\Q (.ref s.heap.objs.size) s₂) E) F.called_set.init.plain F.entry_set_init (check_set_init_1 hT ?_)) λ r₂ s₂ hr₂=>?_
   ·unfold Builtin.«set.__init__» noKeywords;generalize hUF:Builtin.Frozenset.updateFrom=UF at h ⊢
    wp_walk
    refine wpAny_mono h (λ _ s2 h2=>?_) (λ _ _ x=>x);show wpAny _ _ (ret Value.none) _ _ _
    exact Xg ⟨rfl,h2⟩
   ·cases r₂ with
    | error e=>exact hr₂
    | ok fl₂ =>
     cases fl₂ with
     | ret r =>
      obtain ⟨rfl,hT2,hq⟩:=hr₂
      repeat (any_goals (first | assumption | wp_step))
     | _=>exact hr₂.elim
  | _=>exact hr.elim
end
section
variable {prog:Program} {w:World} {A:Around} {E:Value->Shared->Prop} {s:Shared}
theorem qiE {x:Value} {T:String} {Q:Bool->Shared->Prop} (hT:s.TypeIs x T) (h1:isSubtype (.type T) (.type "set")=pure false) (h2:isSubtype (.type T) (.type "frozenset")=pure false) (h:Q false s) :
  wpAny (model prog w) A (Builtin.Frozenset.isAnySet x) Q E s:=by
 unfold Builtin.Frozenset.isAnySet;refine Xf (wpAny_isInstance hT h1 ?_);show wpAny _ _ (isInstance x (.type "frozenset")) _ _ s
 exact wpAny_isInstance hT h2 h
theorem qak {x:Value} {Q:Bool->Shared->Prop} (hT:s.TypeIs x "set") (h:Q true s):wpAny (model prog w) A (Builtin.Frozenset.isAnySet x) Q E s:=by
 unfold Builtin.Frozenset.isAnySet;refine Xf (wpAny_isInstance hT sub_set_self ?_);exact Xg h
theorem yY {id:String} {S:Addr} {x:Value} {T:String} {Q:Unit->Shared->Prop} (hT:s.TypeIs x T) (h1:isSubtype (.type T) (.type "set")=pure false) (h2:isSubtype (.type T) (.type "frozenset")=pure false)
  (h3:(Value.type T == Value.type "dict")=false)
  (h:wpAny (model prog w) A (pyIter x) (λ it s2=>codeAny (model prog w) A (.builtin "set.update.loop" ⟨[.ref S,it],[]⟩) (λ r s3=>r=.ok (.ret .none)/\Q () s3) s2) E s) :
  wpAny (model prog w) A (Builtin.Frozenset.updateFrom id S x) Q E s:=by
 unfold Builtin.Frozenset.updateFrom;refine Xf (qiE hT h1 h2 ?_);simp only [Bool.false_eq_true,if_false];refine Xf (wpAny_typeOf hT ?_);simp only [h3,Bool.false_eq_true,if_false];refine Xf (wpAny_mono h (λ it s2 h2=>?_) λ _ _ e=>e);refine Xf (wpAny_runValue (codeAny_mono h2 λ r s3 hr=>?_));obtain ⟨rfl,hq⟩:=hr;exact Xg hq
theorem ki {I:Addr} {fp wr:List Addr} {n:Nat} {P:Nat->Value->Prop} {St:Nat->Heap->Prop} {R:Result->Shared->Prop} (W:Walks prog w A.in1 I fp wr n P St) (S:Addr) (hSf:S ∉ fp) (val:Nat->Str)
  (hval:∀ i v,P i v->∃ t,v=.str (val i) t) (hb:n+1 < scanBound) :
  ∀ (k i:Nat) (s:Shared) (ys:List Str),n - i=k->i<=n->St i s.heap->qP prog w s.heap S ys->ys.length<=i->(∀ x,x∈ys ↔ ∃ j,j < i/\val j=x) ->
   (∀ h' tk ys',(∀ b o,b ∉ S::wr->s.heap.get? b=some o->h'.get? b=some o)->qP prog w h' S ys'->(∀ x,x∈ys' ↔ ∃ j,j < n/\val j=x)->R (.ok (.ret .none)) { s with heap:=h',toks:=tk }) ->
   codeAny (model prog w) A (.builtin "set.update.loop" ⟨[.ref S,.ref I],[]⟩) R s:=by
 have hSw:S ∉ wr:=λ h=>hSf (W.sub _ h)
 have stay:∀ {h h':Heap} {ys:List Str},qP prog w h S ys->(∀ o,h.get? S=some o->h'.get? S=some o)->qP prog w h' S ys:=λ hS k=>by
  obtain ⟨o,es,ep,t,ho,rest⟩:=hS;exact ⟨o,es,ep,t,k o ho,rest⟩
 intro k;induction k with
 | zero =>
  intro i s ys hk hi hst hS hl hm hR;have hin:i=n:=by omega
  subst hin;refine codeAny_builtin F.entry_set_update_loop ?_;rw [Around.under_plainId F.plain_set_update_loop _];show wpAny _ A.in1 (pyNext (.ref I) >>= _) _ _ s
  refine Xf (W.done s _ _ hst λ h' tk hkk=>?_);show wpAny _ A.in1 (ret Value.none) _ _ _
  exact Xg (hR h' tk ys (λ b o hb e=>hkk b o (λ z=>hb (Xn _ z)) e) (stay hS λ o e=>hkk S o hSw e) hm)
 | succ k ih =>
  intro i s ys hk hi hst hS hl hm hR;have hlt:i < n:=by omega
  refine codeAny_builtin F.entry_set_update_loop ?_;rw [Around.under_plainId F.plain_set_update_loop _];show wpAny _ A.in1 (pyNext (.ref I) >>= _) _ _ s
  refine Xf (W.item i s _ _ hlt hst λ v h1 tk hP hst' hkk=>?_);obtain ⟨t,rfl⟩:=hval i v hP;have hS1:qP prog w h1 S ys:=stay hS λ o e=>hkk S o hSw e
  refine Xf (wpAny_holding ?_);unfold setAdd;refine wpAny_holding ?_;refine Xf ((qC prog w).pyHash (k:=.inr (val i)) (zu _ _ _ _) ?_);have mem1:∀ x,(x∈ys∨x=val i) ↔ ∃ j,j < i+1/\val j=x:=λ x=>by
   rw [hm x];constructor
   ·rintro (⟨j,hj,e⟩ | e)
    ·exact ⟨j,by omega,e⟩
    ·exact ⟨i,by omega,e.symm⟩
   ·rintro ⟨j,hj,e⟩;by_cases hji:j=i
    ·subst hji;exact .inr e.symm
    ·exact .inl ⟨j,by omega,e⟩
  refine qe4 (s:={ s with heap:=h1,toks:=tk+1 }) hS1 (by omega) (λ hx=>?_) (λ hx h2 ys2 hsb hp hS2=>?_)
  ·refine Xg ⟨plainId_quiet F.plain_set_update_loop _,ih (i+1) _ ys (by omega) hlt hst' hS1 (by omega) (λ x=>?_) λ h3 tk3 ys3 hk3 hS3 hm3=>?_⟩
   ·rw [<- mem1 x];exact ⟨.inl,λ z=>z.elim id λ e=>e ▸ hx⟩
   ·exact hR h3 tk3 ys3 (λ b o hb e=>hk3 b o hb (hkk b o (λ z=>hb (Xn _ z)) e)) hS3 hm3
  ·refine Xg ⟨plainId_quiet F.plain_set_update_loop _,ih (i+1) _ ys2 (by omega) hlt (W.frame _ _ _ hst' λ b hb o e=>?_) hS2 (by rw [hp.length_eq,Xd];simp;omega) (λ x=>?_) λ h3 tk3 ys3 hk3 hS3 hm3=>?_⟩
   ·exact (hsb.2 b (λ z=>hSf (z ▸ hb))).trans e
   ·rw [<- mem1 x,hp.mem_iff,List.mem_append,List.mem_singleton]
   ·refine hR h3 tk3 ys3 (λ b o hb e=>hk3 b o hb ((hsb.2 b (λ z=>hb (z ▸ Xp))).trans (hkk b o (λ z=>hb (Xn _ z)) e))) hS3 hm3
end
def qec (P:Program) (w:World) (a:Addr) (xs:List Str):HO:=.ext λ h=>∃ ys,ys.Perm xs/\qP P w h a ys
theorem qgZ {P:Program} {w:World} {H:Hp} {h:Heap} {a:Addr} {xs ys:List Str} (hp:ys.Perm xs) (hS:qP P w h a ys):zy P w H h a (qec P w a xs):=by
 refine ⟨⟨ys,hp,hS⟩,?_,?_⟩
 ·obtain ⟨o,_,_,_,e,_⟩:=hS;exact ⟨o,e⟩
 ·rintro h1 h2 ⟨zs,hz,o,es,ep,t,e,rest⟩ k;exact ⟨zs,hz,o,es,ep,t,k o e,rest⟩
theorem Inv.set {X:Cx} {pins:List (Addr×Obj)} {σ:St} {H:Hp} {s:Shared} {a:Addr} {xs:List Str} (I:Inv X pins σ H s) (h:H a=some (qec X.prog X.w a xs)):∃ ys,ys.Perm xs/\qP X.prog X.w s.heap a ys :=
 (I.hok a _ h).1
theorem qP.typeIs {P:Program} {w:World} {s:Shared} {a:Addr} {ys:List Str} (h:qP P w s.heap a ys):s.TypeIs (.ref a) "set":=by
 obtain ⟨o,es,ep,t,e,hx,_⟩:=h;exact ⟨o,e,hx.1⟩
namespace F
theorem sub_tuple_set:isSubtype (.type "tuple") (.type "set")=pure false:=by rw [isSubtype_type];kernel_rfl
theorem sub_tuple_frozenset:isSubtype (.type "tuple") (.type "frozenset")=pure false:=by rw [isSubtype_type];kernel_rfl
theorem sub_str_set:isSubtype (.type "str") (.type "set")=pure false:=by rw [isSubtype_type];kernel_rfl
theorem sub_str_frozenset:isSubtype (.type "str") (.type "frozenset")=pure false:=by rw [isSubtype_type];kernel_rfl
end F
section
variable {X:Cx}
def qnE (K:PySem.W.Frag) (P:Program) (w:World):List V->Hp->VK->Prop:=λ xs H Q=>∃ ss:List Str,(((∃ p,xs=[.ref p]/\(SqL K H p (ss.map V.str)∨SqT K H p (ss.map V.str)))∨∃ z,xs=[.str z]/\ss=(cs z).map λ c=>qj [c]))/\ss.length+1 < scanBound /\
 ∀ l ys,H l=none->ys.Nodup->(∀ x,x∈ys ↔ x∈ss)->Q (.ref l) (upd H l (qec P w l ys))
theorem qa5 (hc:X.calm=true):jh X (.type "set") (qnE X.K X.prog X.w):=by
 intro pins s σ H xs us Q I r h;obtain ⟨ss,src,hb,q⟩:=h;have hf:H s.heap.objs.size=none:=I.hok.fresh (Xe _);have hh:X.A.in1.in1.in1.handled=none:=by simp [I.ok.hd hc]
 have hnew:(s.heap.push (qK X.w)).get? s.heap.objs.size=some (qK X.w):=Xk _ rfl;have fin:∀ (h':Heap) (tk:Nat) (ys':List Str),(∀ b o,b < s.heap.objs.size->s.heap.get? b=some o->h'.get? b=some o)->qP X.prog X.w h' s.heap.objs.size ys'->(∀ x,x∈ys' ↔ x∈ss) ->
   Shared.TypeIs { s with heap:=h',toks:=tk } (.ref s.heap.objs.size) "set"/\EP X pins σ Q (.ref s.heap.objs.size) { s with heap:=h',toks:=tk }:=by
  intro h' tk ys' hk hS hm;refine ⟨hS.typeIs (s:={ s with heap:=h',toks:=tk }),.ref s.heap.objs.size,_,I.laid (a:=s.heap.objs.size) (o:=qec X.prog X.w s.heap.objs.size ys') (t':=tk) (λ b o e=>hk b o (Xm e) e) (Xe _) (qgZ (List.Perm.refl _) hS),rfl,q _ ys' hf ?_ hm⟩;obtain ⟨_,_,_,_,_,_,_,_,nd,_⟩:=hS;exact nd
 have member:∀ (ys':List Str),(∀ x,x∈ys' ↔ ∃ j,j < ss.length/\ss.getD j default=x)->∀ x,x∈ys' ↔ x∈ss:=λ ys' hm x=>by
  rw [hm x];constructor
  ·rintro ⟨j,hj,e⟩;rw [List.getD_eq_getElem?_getD,Xb hj] at e;rw [<- e];exact List.getElem_mem hj
  ·intro hx;obtain ⟨j,hj,e⟩:=List.getElem_of_mem hx;exact ⟨j,hj,by rw [List.getD_eq_getElem?_getD,Xb hj];exact e⟩
 have getv:∀ {its:List Value},qN (ss.map V.str) its->∀ (i:Nat) (v:Value),its.toArray[i]?=some v->∃ t,v=.str (ss.getD i default) t:=λ {its} rv i v hv=>by
  have e:its[i]?=some v:=by simpa using hv
  have hl:=rv.length;rw [Xa] at hl;have hi:i < ss.length:=by rw [hl];exact (List.getElem?_eq_some_iff.mp e).1
  obtain ⟨u,hu,ru⟩:=rv.get (i:=i) (x:=.str ss[i]) (by rw [Xw,Xb hi];rfl);rw [e] at hu;cases hu
  obtain ⟨t,rfl⟩:=ru;exact ⟨t,by rw [List.getD_eq_getElem?_getD,Xb hi];rfl⟩
 rcases src with ⟨p,rfl,hq⟩ | ⟨z,rfl,ez⟩
 ·obtain ⟨u,rfl,ru⟩:=yr r;cases ru
  rcases hq with hq | hq
  ·obtain ⟨its,rv,pl,hz⟩:=I.list hq;have hl:=rv.length;rw [Xa] at hl;have plt:p < s.heap.objs.size:=by obtain ⟨_,e,_⟩:=pl.isList;exact Xm e
   have hl1:(s.heap.push (qK X.w)).IsList p its.toArray:=pl.isList.push _;have sz:(s.heap.push (qK X.w)).objs.size=s.heap.objs.size+1:=Heap.size_push _ _;refine kh (.ref p) (yY (s:={ s with heap:=s.heap.push (qK X.w) }) hl1.typeIs F.sub_list_set F.sub_list_frozenset (by decide) (wpAny_pyIter_list hl1 ?_));refine ki (Walks.list hh _ p (by rw [sz];exact Xo (Nat.lt_succ_of_lt plt)) its.toArray) s.heap.objs.size (by rw [sz];simp;exact Nat.ne_of_gt plt) (λ i=>ss.getD i default) (getv rv) (by rw [Xl,<- hl];exact hb)
    (its.toArray.size - 0) 0 _ [] rfl (Nat.zero_le _) ⟨⟨_,Xk _ rfl,rfl,rfl⟩,hl1.push _⟩ (jD (Xc _ hnew)) (Xe _) (by simp) λ h' tk ys' hk hS hm=>⟨rfl,?_⟩
   refine fin h' tk ys' (λ b o hb e=>hk b o (by simp [sz];exact ⟨Xo hb,Xo (Nat.lt_succ_of_lt hb)⟩) (Xc _ (Xc _ e))) hS (member ys' λ x=>?_);rw [hm x,Xl,<- hl]
  ·obtain ⟨its,rv,pl,hz⟩:=I.tuple hq;have hl:=rv.length;rw [Xa] at hl;have plt:p < s.heap.objs.size:=by obtain ⟨_,e,_⟩:=pl;exact Xm e
   have hl1:(s.heap.push (qK X.w)).IsTuple p its.toArray:=by
    obtain ⟨o,e,rest⟩:=pl;exact ⟨o,Xc _ e,rest⟩
   have sz:(s.heap.push (qK X.w)).objs.size=s.heap.objs.size+1:=Heap.size_push _ _;have hT:Shared.TypeIs { s with heap:=s.heap.push (qK X.w) } (.ref p) "tuple":=by
    obtain ⟨o,e,c,rest⟩:=hl1;exact ⟨o,e,c⟩
   refine kh (.ref p) (yY (s:={ s with heap:=s.heap.push (qK X.w) }) hT F.sub_tuple_set F.sub_tuple_frozenset (by decide) (wpAny_pyIter_tuple hl1 ?_));have hl2:((s.heap.push (qK X.w)).push { cls:=.type "tuple_iterator",data:=.fields #[.ref p,.int 0 0] }).IsTuple p its.toArray:=by
    obtain ⟨o,e,rest⟩:=hl1;exact ⟨o,Xc _ e,rest⟩
   refine ki (Walks.tuple hh _ p (by rw [sz];exact Xo (Nat.lt_succ_of_lt plt)) its.toArray) s.heap.objs.size (by rw [sz];simp;exact Nat.ne_of_gt plt) (λ i=>ss.getD i default) (getv rv) (by rw [Xl,<- hl];exact hb)
    (its.toArray.size - 0) 0 _ [] rfl (Nat.zero_le _) ⟨⟨_,Xk _ rfl,rfl,rfl⟩,hl2⟩ (jD (Xc _ hnew)) (Xe _) (by simp) λ h' tk ys' hk hS hm=>⟨rfl,?_⟩
   refine fin h' tk ys' (λ b o hb e=>hk b o (by simp [sz];exact ⟨Xo hb,Xo (Nat.lt_succ_of_lt hb)⟩) (Xc _ (Xc _ e))) hS (member ys' λ x=>?_);rw [hm x,Xl,<- hl]
 ·obtain ⟨u,rfl,ru⟩:=yr r;obtain ⟨t,rfl⟩:=ru;have hl:ss.length=z.cps.size:=by rw [ez,Xa];simp
  have sz:(s.heap.push (qK X.w)).objs.size=s.heap.objs.size+1:=Heap.size_push _ _;refine kh (.str z t) (yY (s:={ s with heap:=s.heap.push (qK X.w) }) (typeIs_str _ z t) F.sub_str_set F.sub_str_frozenset (by decide) (wpAny_pyIter_str λ o St W hst=>?_));refine ki (W _ hh) s.heap.objs.size (by rw [sz];simp) (λ i=>ss.getD i default) (λ i v hv=>?_) (by rw [<- hl];exact hb)
   (z.cps.size - 0) 0 _ [] rfl (Nat.zero_le _) hst (jD (Xc _ hnew)) (Xe _) (by simp) λ h' tk ys' hk hS hm=>⟨rfl,?_⟩
  ·obtain ⟨c,u,e,rfl⟩:=hv;refine ⟨u,?_⟩;have e':(cs z)[i]?=some c:=by rw [Array.getElem?_toList];exact e
   rw [List.getD_eq_getElem?_getD,ez,Xw,e'];rfl
  ·refine fin h' tk ys' (λ b o hb e=>hk b o (by simp [sz];exact ⟨Xo hb,Xo (Nat.lt_succ_of_lt hb)⟩) (Xc _ (Xc _ e))) hS (member ys' λ x=>?_);rw [hm x,<- hl]
end
def qiF (mask i:Nat):Nat:=(i * 5+1) % (mask+1)
def lit (mask:Nat):Nat->Nat->Nat
 | 0,i=>i
 | k+1,i=>lit mask k (qiF mask i)
theorem qb0 (mask:Nat):∀ a b i,lit mask (a+b) i=lit mask b (lit mask a i)
 | 0,b,i=>by rw [Nat.zero_add];rfl
 | a+1,b,i=>by rw [Nat.add_right_comm];exact qb0 mask a b (qiF mask i)
def kn (mask:Nat):Prop:=∀ i j,i<=mask->j<=mask->∃ k,k<=mask/\lit mask k i=j
def qiG (mask:Nat):Nat->Nat->List Nat
 | 0,_=>[]
 | n+1,i=>i::qiG mask n (qiF mask i)
theorem qe5 (mask:Nat):∀ n i j,j∈qiG mask n i->∃ k,k < n/\lit mask k i=j
 | 0,_,_,h=>by cases h
 | n+1,i,j,h=>by
  rcases List.mem_cons.mp h with e | e
  ·exact ⟨0,Nat.succ_pos _,e.symm⟩
  ·obtain ⟨k,hk,e⟩:=qe5 mask n _ _ e;exact ⟨k+1,Nat.succ_lt_succ hk,e⟩
theorem qkj {mask:Nat} (h:(List.range (mask+1)).all (λ j=>(qiG mask (mask+1) 0).contains j)=true) (hz:lit mask (mask+1) 0=0):kn mask:=by
 have cov:∀ j,j<=mask->∃ k,k<=mask/\lit mask k 0=j:=λ j hj=>by
  have:=List.all_eq_true.mp h j (List.mem_range.mpr (by omega))
  obtain ⟨k,hk,e⟩:=qe5 mask _ _ _ (List.contains_iff_mem.mp this);exact ⟨k,by omega,e⟩
 intro i j hi hj;obtain ⟨a,ha,ea⟩:=cov i hi;obtain ⟨b,hb,eb⟩:=cov j hj;by_cases hab:a<=b
 ·refine ⟨b - a,by omega,?_⟩;rw [<- ea,<- qb0,show a+(b - a)=b by omega,eb]
 ·refine ⟨mask+1 - a+b,by omega,?_⟩;rw [<- ea,<- qb0,show a+(mask+1 - a+b)=(mask+1)+b by omega,qb0,hz,eb]
theorem qdy:∀ (l:List Nat) (acc j:Nat),(l.foldl (λ a x=>a ||| (1 <<< x)) acc).testBit j=(acc.testBit j || l.contains j)
 | [],acc,j=>by simp
 | x::l,acc,j=>by
  rw [List.foldl_cons,qdy l,Nat.testBit_or,Nat.one_shiftLeft,Nat.testBit_two_pow,List.contains_cons,Bool.or_assoc];congr 1
  congr 1
  by_cases h:x=j
  ·subst h;simp
  ·rw [Xu h];exact (beq_eq_false_iff_ne.mpr (Ne.symm h)).symm
theorem y6 {mask:Nat} (h:(qiG mask (mask+1) 0).foldl (λ a x=>a ||| (1 <<< x)) 0=2 ^ (mask+1) - 1) (hz:lit mask (mask+1) 0=0):kn mask:=by
 refine qkj (List.all_eq_true.mpr λ j hj=>?_) hz;have hj:=List.mem_range.mp hj;have e:=qdy (qiG mask (mask+1) 0) 0 j;rw [h,Nat.testBit_two_pow_sub_one,Xv hj,Nat.zero_testBit,Bool.false_or] at e;exact e.symm
theorem qla:kn 7:=y6 (by decide +kernel) (by decide +kernel)
theorem qlJ:kn 15:=y6 (by decide +kernel) (by decide +kernel)
theorem qlK:kn 31:=y6 (by decide +kernel) (by decide +kernel)
theorem qlL:kn 63:=y6 (by decide +kernel) (by decide +kernel)
theorem qkk:kn 127:=y6 (by decide +kernel) (by decide +kernel)
theorem qkl:kn 255:=y6 (by decide +kernel) (by decide +kernel)
theorem qkm:kn 511:=y6 (by decide +kernel) (by decide +kernel)
theorem qiH:kn 1023:=y6 (by decide +kernel) (by decide +kernel)
theorem qiI:kn 2047:=y6 (by decide +kernel) (by decide +kernel)
theorem qa6 {α β:Type} {f g:α->Option β}:∀ {l:List α},(∀ x∈l,f x=g x)->l.filterMap f=l.filterMap g
 | [],_=>rfl
 | a::l,h=>by
  rw [List.filterMap_cons,List.filterMap_cons,h a Xp,qa6 λ x hx=>h x (Xn _ hx)]
def pos (mask:Nat):Nat->Nat->Nat->Nat
 | 0,i,_=>i
 | t+1,i,p=>pos mask t (SetTable.leap mask i p).1 (SetTable.leap mask i p).2
theorem qdz {mask:Nat} {owner:Array (Option Nat)}:∀ (fuel i p:Nat),SetTable.layClean.free mask owner fuel i p=none->∀ t,t < fuel->(owner.getD (pos mask t i p) (some 0)).isNone=false
 | 0,_,_,_,t,ht=>absurd ht (Nat.not_lt_zero _)
 | fuel+1,i,p,h,t,ht=>by
  unfold SetTable.layClean.free at h;cases e:(List.range (SetTable.runEnd mask i+1 - i)).find? λ k=>(owner.getD (i+k) (some 0)).isNone with
  | some k=>rw [e] at h;cases h
  | none =>
   rw [e] at h;cases t with
   | zero =>
    have hr:i<=SetTable.runEnd mask i:=by unfold SetTable.runEnd;split <;> omega
    have:=List.find?_eq_none.mp e 0 (List.mem_range.mpr (by omega))
    rw [Nat.add_zero] at this;show (owner.getD i (some 0)).isNone=false
    exact Bool.eq_false_iff.mpr this
   | succ t=>exact qdz fuel _ _ h t (by omega)
theorem qdA {mask:Nat} {owner:Array (Option Nat)}:∀ (fuel i p j:Nat),SetTable.layClean.free mask owner fuel i p=some j->owner.getD j (some 0)=none
 | 0,_,_,_,h=>by unfold SetTable.layClean.free at h;cases h
 | fuel+1,i,p,j,h=>by
  unfold SetTable.layClean.free at h;cases e:(List.range (SetTable.runEnd mask i+1 - i)).find? λ k=>(owner.getD (i+k) (some 0)).isNone with
  | some k =>
   rw [e] at h;cases h
   have:=List.find?_some e
   simpa using this
  | none=>rw [e] at h;exact qdA fuel _ _ _ h
theorem vq (mask:Nat):∀ (a b i p:Nat),∃ i',pos mask (a+b) i p=pos mask b i' (p / 32 ^ a)/\(i<=mask->i'<=mask)
 | 0,b,i,p=>⟨i,by simp,id⟩
 | a+1,b,i,p=>by
  obtain ⟨i',e,h⟩:=vq mask a b (SetTable.leap mask i p).1 (SetTable.leap mask i p).2;refine ⟨i',?_,λ _=>h ?_⟩
  ·rw [show a+1+b=(a+b)+1 by omega];show pos mask (a+b) _ _=_
   rw [e]
   have:(SetTable.leap mask i p).2 / 32 ^ a=p / 32 ^ (a+1):=by
    show p / 32 / 32 ^ a=_
    rw [Nat.div_div_eq_div_mul,Nat.pow_succ,Nat.mul_comm]
   rw [this]
  ·show (_ % _)<=_
   exact Nat.le_of_lt_succ (Nat.mod_lt _ (Nat.succ_pos _))
theorem qcK (mask:Nat):∀ (t i:Nat),pos mask t i 0=lit mask t i
 | 0,_=>rfl
 | t+1,i=>by
  show pos mask t ((i * 5+1+0 / 32) % (mask+1)) (0 / 32)=lit mask t ((i * 5+1) % (mask+1))
  rw [Nat.zero_div,Nat.add_zero];exact qcK mask t _
theorem qkn {mask:Nat} (g:kn mask) {owner:Array (Option Nat)} {i p j0:Nat} (hi:i<=mask) (hp:p < 2 ^ 64) (hj:j0<=mask) (h0:owner.getD j0 (some 0)=none) :
  ∃ j,SetTable.layClean.free mask owner (SetTable.turns mask) i p=some j:=by
 cases e:SetTable.layClean.free mask owner (SetTable.turns mask) i p with
 | some j=>exact ⟨j,rfl⟩
 | none =>
  exfalso
  obtain ⟨i',_,hi'⟩:=vq mask 13 0 i p;have hz:p / 32 ^ 13=0:=Nat.div_eq_of_lt (Nat.lt_of_lt_of_le hp (by decide));obtain ⟨i',ei,hi'⟩:=vq mask 13 0 i p;obtain ⟨k,hk,ek⟩:=g i' j0 (hi' hi) hj;obtain ⟨i2,e2,h2⟩:=vq mask 13 k i p;obtain ⟨k2,hk2,ek2⟩:=g i2 j0 (h2 hi) hj;have same:∀ b,∃ i',pos mask (13+b) i p=lit mask b i'/\i'=pos mask 13 i p:=λ b=>by
   obtain ⟨i3,e3,_⟩:=vq mask 13 b i p;obtain ⟨i4,e4,_⟩:=vq mask 13 0 i p;rw [hz,qcK] at e3 e4;exact ⟨pos mask 13 i p,by
    have gen:∀ (a b i p:Nat),pos mask (a+b) i p=pos mask b (pos mask a i p) (p / 32 ^ a):=by
     intro a;induction a with
     | zero=>intro b i p;simp [pos]
     | succ a ih =>
      intro b i p;rw [show a+1+b=(a+b)+1 by omega];show pos mask (a+b) _ _=pos mask b (pos mask a _ _) _
      rw [ih]
      have:(SetTable.leap mask i p).2 / 32 ^ a=p / 32 ^ (a+1):=by
       show p / 32 / 32 ^ a=_
       rw [Nat.div_div_eq_div_mul,Nat.pow_succ,Nat.mul_comm]
      rw [this]
    rw [gen 13 b i p,hz,qcK],rfl⟩
  have hle:pos mask 13 i p<=mask:=by
   obtain ⟨i4,e4,h4⟩:=vq mask 13 0 i p;rw [show 13+0=13 from rfl,hz] at e4;rw [e4];exact h4 hi
  obtain ⟨k,hk,ek⟩:=g _ j0 hle hj;obtain ⟨i5,e5,e6⟩:=same k
  have:=qdz _ _ _ e (13+k) (by unfold SetTable.turns;omega)
  rw [e5,e6,ek,h0] at this;cases this
def ow (owner:Array (Option Nat)) (mask:Nat):List Nat:=(List.range (mask+1)).filterMap λ j=>owner.getD j none
theorem qaB {f f':Nat->Option Nat} {j v:Nat} (h1:f j=none) (h2:f' j=some v) (h3:∀ i,i≠j->f' i=f i):∀ {l:List Nat},l.Nodup->j∈l->(l.filterMap f').Perm (v::l.filterMap f)
 | [],_,h=>by cases h
 | a::l,nd,h=>by
  have nd':=List.nodup_cons.mp nd;by_cases ha:a=j
  ·subst ha;rw [List.filterMap_cons_some h2,List.filterMap_cons_none h1]
   have:l.filterMap f'=l.filterMap f:=qa6 λ x hx=>h3 x λ e=>nd'.1 (e ▸ hx)
   rw [this]
  ·have hm:j∈l:=by
    rcases List.mem_cons.mp h with e | e
    ·exact absurd e.symm ha
    ·exact e
   have ih:=qaB h1 h2 h3 nd'.2 hm;cases e:f a with
   | none=>rw [List.filterMap_cons_none e,List.filterMap_cons_none ((h3 a ha).trans e)];exact ih
   | some b=>rw [List.filterMap_cons_some e,List.filterMap_cons_some ((h3 a ha).trans e)];exact (ih.cons b).trans (List.Perm.swap _ _ _)
theorem qed {owner:Array (Option Nat)} {j:Nat} (h:owner.getD j (some 0)=none):j < owner.size/\owner.getD j none=none:=by
 rw [Array.getD_eq_getD_getElem?] at h ⊢;cases e:owner[j]? with
 | none=>rw [e] at h;cases h
 | some o =>
  rw [e] at h;exact ⟨(Array.getElem?_eq_some_iff.mp e).1,h⟩
theorem qgg {owner:Array (Option Nat)} {mask:Nat} (hs:owner.size=mask+1) (h:(ow owner mask).length<=mask):∃ j,j<=mask/\owner.getD j (some 0)=none:=by
 by_cases hall:∃ j,j<=mask/\owner.getD j (some 0)=none
 ·exact hall
 ·exfalso
  have all:∀ j∈List.range (mask+1),∃ v,owner.getD j none=some v:=λ j hj=>by
   have hj:=List.mem_range.mp hj
   have:owner.getD j (some 0)≠none:=λ e=>hall ⟨j,by omega,e⟩
   rw [Array.getD_eq_getD_getElem?] at this ⊢;cases e:owner[j]? with
   | none=>have:=Array.getElem?_eq_none_iff.mp e;omega
   | some o =>
    rw [e] at this;cases o with
    | none=>exact absurd rfl this
    | some v=>exact ⟨v,rfl⟩
  have len:∀ l:List Nat,(∀ j∈l,∃ v,owner.getD j none=some v)->(l.filterMap λ j=>owner.getD j none).length=l.length:=by
   intro l;induction l with
   | nil=>intro _;rfl
   | cons a l ih =>
    intro h;obtain ⟨v,hv⟩:=h a Xp;have e1:(List.filterMap (λ j=>owner.getD j none) (a::l))=v::List.filterMap (λ j=>owner.getD j none) l:=by
     rw [List.filterMap_cons];rw [hv]
    rw [e1,Xt,Xt,ih λ j hj=>h j (Xn _ hj)]
  have:=len _ all
  rw [List.length_range] at this;unfold ow at h;omega
theorem qko (h:Int):SetTable.bits h < 2 ^ 64:=by
 unfold SetTable.bits;have h1:0<=h % (2 ^ 64:Int):=Int.emod_nonneg _ (by decide);have h2:h % (2 ^ 64:Int) < 2 ^ 64:=Int.emod_lt_of_pos _ (by decide);omega
def qkp (mask:Nat) (acc:Option (Array (Option Nat)×Nat)) (h:Int):Option (Array (Option Nat)×Nat):=do
  let (owner,k) <- acc
  let j <- SetTable.layClean.free mask owner (SetTable.turns mask) (SetTable.bits h % (mask+1)) (SetTable.bits h)
  pure (owner.setIfInBounds j (some k),k+1)
theorem qe6 {mask:Nat} (g:kn mask):∀ (hs:List Int) (owner:Array (Option Nat)) (k:Nat),owner.size=mask+1->(ow owner mask).Perm (List.range k)->k+hs.length<=mask ->
  ∃ o',hs.foldl (qkp mask) (some (owner,k))=some (o',k+hs.length)/\o'.size=mask+1/\(ow o' mask).Perm (List.range (k+hs.length))
 | [],owner,k,hs,hp,_=>⟨owner,rfl,hs,hp⟩
 | h::hs,owner,k,hsz,hp,hk=>by
  rw [Xt] at hk;obtain ⟨j0,hj0,e0⟩:=qgg hsz (by rw [hp.length_eq,List.length_range];omega);obtain ⟨j,ej⟩:=qkn g (owner:=owner) (i:=SetTable.bits h % (mask+1)) (p:=SetTable.bits h) (Nat.le_of_lt_succ (Nat.mod_lt _ (Nat.succ_pos _))) (qko h) hj0 e0;obtain ⟨hjs,hjn⟩:=qed (qdA _ _ _ _ ej);have step:qkp mask (some (owner,k)) h=some (owner.setIfInBounds j (some k),k+1):=by
   unfold qkp;show (SetTable.layClean.free mask owner (SetTable.turns mask) (SetTable.bits h % (mask+1)) (SetTable.bits h) >>= _)=_
   rw [ej];rfl
  have hp':(ow (owner.setIfInBounds j (some k)) mask).Perm (List.range (k+1)):=by
   have:=qaB (f:=λ j=>owner.getD j none) (f':=λ i=>(owner.setIfInBounds j (some k)).getD i none) (j:=j) (v:=k) hjn
    (by show (owner.setIfInBounds j (some k)).getD j none=_;rw [Array.getD_eq_getD_getElem?,Array.getElem?_setIfInBounds_self_of_lt hjs];rfl)
    (λ i hi=>by show (owner.setIfInBounds j (some k)).getD i none=_;rw [Array.getD_eq_getD_getElem?,Array.getElem?_setIfInBounds_ne (Ne.symm hi),<- Array.getD_eq_getD_getElem?])
    (l:=List.range (mask+1)) List.nodup_range (List.mem_range.mpr (by omega))
   refine this.trans ?_;rw [show List.range (k+1)=List.range k++[k] from List.range_succ];exact (List.Perm.cons k hp).trans (List.perm_append_comm (l₁:=[k]) (l₂:=List.range k))
  obtain ⟨o',e,h1,h2⟩:=qe6 g hs (owner.setIfInBounds j (some k)) (k+1) (by rw [Array.size_setIfInBounds];exact hsz) hp' (by omega);refine ⟨o',?_,h1,?_⟩
  ·rw [List.foldl_cons,step,e,Xt];congr 2;omega
  ·rw [Xt,show k+(hs.length+1)=k+1+hs.length by omega];exact h2
theorem qe7 {mask:Nat} (g:kn mask) (hs:Array Int) (hk:hs.size<=mask):∃ o',SetTable.layClean mask hs=some o'/\o'.size=mask+1/\(ow o' mask).Perm (List.range hs.size):=by
 have h0:(ow (Array.replicate (mask+1) none) mask).Perm (List.range 0):=by
  have:ow (Array.replicate (mask+1) none) mask=[]:=by
   unfold ow;rw [List.filterMap_eq_nil_iff];intro j hj;rw [Array.getD_eq_getD_getElem?,Array.getElem?_replicate];split <;> rfl
  rw [this];exact List.Perm.refl _
 obtain ⟨o',e,h1,h2⟩:=qe6 g hs.toList (Array.replicate (mask+1) none) 0 (by simp) h0 (by simpa using hk);refine ⟨o',?_,h1,by simpa using h2⟩;unfold SetTable.layClean;rw [<- Array.foldl_toList]
 have:(List.foldl (qkp mask) (some (Array.replicate (mask+1) none,0)) hs.toList).map (·.1)=some o':=by rw [e];rfl
 exact this
theorem qg0 {mask:Nat} (g:kn mask) (finger moves:Nat) (led plain:Bool) (hs:Array Int) (hk:hs.size<=mask) :
  ∃ t order,SetTable.laid mask finger moves led plain hs=some (t,order)/\t.fits hs.size=true/\t.led=led/\t.plain=plain/\t.mask=mask/\t.dummies=#[]/\t.place.size=hs.size/\order.toList.Perm (List.range hs.size):=by
 obtain ⟨o',e,h1,h2⟩:=qe7 g hs hk;have hlen:((List.range (mask+1)).filterMap λ j=>(o'.getD j none).map (j,·)).length=hs.size:=by
  rw [<- Xa (f:=(·.2)),List.map_filterMap]
  have:(List.range (mask+1)).filterMap (λ x=>Option.map (λ x=>x.2) ((o'.getD x none).map (x,·)))=ow o' mask:=by
   unfold ow;refine qa6 λ j _=>?_
   cases o'.getD j none with
   | none=>rfl
   | some v=>rfl
  rw [this,h2.length_eq,List.length_range]
 refine ⟨_,_,by unfold SetTable.laid;rw [e];rfl,?_,rfl,rfl,rfl,rfl,?_,?_⟩
 ·unfold SetTable.fits SetTable.fill;rw [Xl,Xa,hlen];simpa using hk
 ·dsimp only;rw [Xl,Xa,hlen]
 ·show (((List.range (mask+1)).filterMap λ j=>(o'.getD j none).map (j,·)).map (·.2)).Perm _
  rw [List.map_filterMap]
  have:(List.range (mask+1)).filterMap (λ x=>Option.map (λ x=>x.2) ((o'.getD x none).map (x,·)))=ow o' mask:=by
   unfold ow;refine qa6 λ j _=>?_
   cases o'.getD j none with
   | none=>rfl
   | some v=>rfl
  rw [this];exact h2
theorem qgh {α:Type} (es:Array α) {order:List Nat} (hp:order.Perm (List.range es.size)):(order.filterMap (es[·]?)).Perm es.toList:=by
 refine (hp.filterMap _).trans ?_
 have:∀ (l:List α),(List.range l.length).filterMap (λ i=>l[i]?)=l:=by
  intro l;induction l with
  | nil=>rfl
  | cons a l ih =>
   have e:(List.filterMap (λ i=>(a::l)[i]?) (0::List.map Nat.succ (List.range l.length)))=a::List.filterMap (λ i=>(a::l)[i]?) (List.map Nat.succ (List.range l.length)):=by
    rw [List.filterMap_cons];rfl
   rw [Xt,List.range_succ_eq_map,e,List.filterMap_map];exact congrArg (a::·) ih
 have h:=this es.toList;rw [Xh] at h;have e:(λ i=>es.toList[i]?)=λ i=>es[i]?:=funext λ i=>Array.getElem?_toList
 rw [e] at h;rw [h]
namespace F
theorem slot_set_iterator_next:Slot "set_iterator" "__next__" "set_iterator.__next__" :=
 .of (owner:="set_iterator") (n:="__next__") (by rw [typeLookup_type,builtinLookup_eq_fast];kernel_rfl) (by decide +kernel) (by decide +kernel) (by decide +kernel)
  (by first | exact .inl (by decide +kernel) | exact .inr (by decide +kernel)) (by rw [isSubtype_type];kernel_rfl)
theorem entry_set_iterator_next:entryFor table "set_iterator.__next__"=some Builtin.«set_iterator.__next__»:=entryFor_of_fast (by kernel_rfl)
theorem args_set_iterator_next_1 (a:Value):argsOk "set_iterator.__next__" ⟨[a],[]⟩:=by unfold argsOk;kernel_rfl
theorem slot_set_iterator_iter:Slot "set_iterator" "__iter__" "set_iterator.__iter__" :=
 .of (owner:="set_iterator") (n:="__iter__") (by rw [typeLookup_type,builtinLookup_eq_fast];kernel_rfl) (by decide +kernel) (by decide +kernel) (by decide +kernel)
  (by first | exact .inl (by decide +kernel) | exact .inr (by decide +kernel)) (by rw [isSubtype_type];kernel_rfl)
theorem entry_set_iterator_iter:entryFor table "set_iterator.__iter__"=some Builtin.«dict_keyiterator.__iter__» :=
 entryFor_alias (id':="dict_keyiterator.__iter__") (by kernel_rfl) rfl (by decide +kernel) (by kernel_rfl)
theorem args_set_iterator_iter_1 (a:Value):argsOk "set_iterator.__iter__" ⟨[a],[]⟩:=by unfold argsOk;kernel_rfl
theorem entry_set_iter:entryFor table "set.__iter__"=some Builtin.«frozenset.__iter__» :=
 entryFor_alias (id':="frozenset.__iter__") (by kernel_rfl) rfl (by decide +kernel) (by kernel_rfl)
theorem args_set_iter_1 (a:Value):argsOk "set.__iter__" ⟨[a],[]⟩:=by unfold argsOk;kernel_rfl
theorem entry_set_xor:entryFor table "set.__xor__"=some Builtin.«frozenset.__xor__» :=
 entryFor_alias (id':="frozenset.__xor__") (by kernel_rfl) rfl (by decide +kernel) (by kernel_rfl)
end F
theorem qa7 {α:Type} (next:Nat->Nat):∀ (fuel k:Nat) (left:List α) (out:Array α),fuel=left.length->(pickOrder.go next fuel k left out).toList.Perm (out.toList++left)
 | 0,k,left,out,h=>by
  have:left=[]:=List.eq_nil_of_length_eq_zero h.symm
  subst this;unfold pickOrder.go;rw [List.append_nil]
 | fuel+1,k,left,out,h=>by
  unfold pickOrder.go;have hlt:next k % left.length < left.length:=Nat.mod_lt _ (by omega);rw [Xb hlt];dsimp only;refine (qa7 next fuel (k+1) _ _ (by rw [List.length_eraseIdx_of_lt hlt];omega)).trans ?_;rw [Array.toList_push,Xq];exact List.Perm.append_left _ (qaK left _ hlt)
theorem qdB {α:Type} (next:Nat->Nat) (xs:Array α):(pickOrder next xs).toList.Perm xs.toList:=by
 unfold pickOrder
 have:=qa7 next xs.size 0 xs.toList #[] (by simp)
 simpa using this
section
variable {prog:Program} {w:World} {A:Around} {E:Value->Shared->Prop} {s:Shared}
theorem qhL {a:Addr} {o:Obj} {es:Array (Int×Value)} {ep:Nat} {t:SetTable} {Q:Array (Int×Value)->Shared->Prop} (ho:s.heap.get? a=some o) (hd:o.data=.set es ep t) (hf:t.fits es.size=true) (hl:t.led=true∨byT w)
  (h:∀ es' d,es'.toList.Perm es.toList->Q es' { s with drawn:=d }):wpAny (model prog w) A (setWalk a) Q E s:=by
 have h0:∀ es',es'.toList.Perm es.toList->Q es' s:=λ es' hp=>by
  have:=h es' s.drawn hp
  cases s;exact this
 unfold setWalk;refine Xf (wpAny_setState_of ho hd hf ?_);dsimp only;unfold setsByText;refine Xf (Xf (wpAny_askSetting (Xg ?_)));dsimp only;refine wpAny_ite_split (λ hb=>?_) (λ hb=>?_)
 ·refine Xf (wpAny_askSetting (Xg ?_));exact h0 _ (qdB _ _)
 ·refine wpAny_ite_split (λ hd'=>?_) (λ hd'=>?_)
  ·refine Xf (yX es.size es.toList _ _ (by simp) λ ys d hp=>Xg ?_);exact h _ d (by simpa using hp)
  ·refine Xf ?_;have hled:t.led=true:=hl.resolve_right hb;show wpAny _ _ (if (!t.led && decide (es.size > 1))=true then _ else _) _ _ s
   rw [hled];simp only [Bool.not_true,Bool.false_and,Bool.false_eq_true,if_false];exact Xg (Xg (h0 _ (List.Perm.refl _)))
abbrev itO (first:Value) (i:Nat) (S:Addr) (n ep:Nat):Obj:={ cls:=.type "set_iterator",data:=.fields #[first,.int i 0,.ref S,.int n 0,.int ep 0] }
theorem qe8 {I S:Addr} {sl i n ep nx:Nat} {x:Value} {o:Obj} {es:Array (Int×Value)} {t:SetTable} {Q:Option Value->Shared->Prop} (hit:s.heap.get? I=some (itO (.int sl 0) i S n ep)) (ho:s.heap.get? S=some o) (hd:o.data=.set es ep t)
  (hf:t.fits es.size=true) (hn:es.size=n) (hN:∀ (Q:Option (Value×Nat)->Shared->Prop) (E:Value->Shared->Prop),Q (some (x,nx)) s->wpAny (model prog w) A.in1 (setNext S sl i ep) Q E s)
  (hQ:∀ h',h'.get? I=some (itO (.int nx 0) (i+1) S n ep)->Heap.SameBut I s.heap h'->Q (some x) { s with heap:=h' }):wpAny (model prog w) A (pyNext (.ref I)) Q E s:=by
 have hT:s.TypeIs (.ref I) "set_iterator":=⟨_,hit,rfl⟩;unfold pyNext;refine Xf (wpAny_attempt (wpAny_callSpecial?_slot (name:=Str.ofString "__next__") hT F.slot_set_iterator_next
  (wpAny_call_entry F.slot_set_iterator_next hT F.entry_set_iterator_next ?_ (F.args_set_iterator_next_1 _))))
 unfold Builtin.«set_iterator.__next__»;show wpAny _ _ (fieldsOf (.ref I) >>= _) _ _ s
 refine Xf (wpAny_fieldsOf hit rfl ?_);show wpAny _ _ (setEntries S >>= _) _ _ s
 refine Xf (wpAny_setEntries_of ho hd hf ?_);rw [hn];simp only [bne_self_eq_false,Bool.false_eq_true,if_false];show wpAny _ _ (setNext S (sl:Int).toNat (i:Int).toNat (ep:Int).toNat >>= _) _ _ s
 simp only [Xx];refine Xf (hN _ _ ?_);dsimp only;refine Xf (wpAny_setField_rec hit (by simp) λ h1 hit1 hs1=>?_);refine Xf (wpAny_setField_rec hit1 (by simp) λ h2 hit2 hs2=>?_);refine Xg ⟨x,rfl,Xg (hQ h2 ?_ (hs1.trans hs2))⟩;rw [hit2];rfl
theorem qe9 {I S:Addr} {sl i n ep:Nat} {o:Obj} {es:Array (Int×Value)} {t:SetTable} {Q:Option Value->Shared->Prop} (hh:A.handled=none) (hit:s.heap.get? I=some (itO (.int sl 0) i S n ep)) (ho:s.heap.get? S=some o) (hd:o.data=.set es ep t)
  (hf:t.fits es.size=true) (hn:es.size=n) (hN:∀ (Q:Option (Value×Nat)->Shared->Prop) (E:Value->Shared->Prop),Q none s->wpAny (model prog w) A.in1 (setNext S sl i ep) Q E s)
  (hQ:∀ h',Heap.ExtBut I s.heap h'->Q none { s with heap:=h' }):wpAny (model prog w) A (pyNext (.ref I)) Q E s:=by
 have hT:s.TypeIs (.ref I) "set_iterator":=⟨_,hit,rfl⟩;unfold pyNext;refine Xf (wpAny_attempt (wpAny_callSpecial?_slot (name:=Str.ofString "__next__") hT F.slot_set_iterator_next
  (wpAny_call_entry F.slot_set_iterator_next hT F.entry_set_iterator_next ?_ (F.args_set_iterator_next_1 _))))
 unfold Builtin.«set_iterator.__next__»;show wpAny _ _ (fieldsOf (.ref I) >>= _) _ _ s
 refine Xf (wpAny_fieldsOf hit rfl ?_);show wpAny _ _ (setEntries S >>= _) _ _ s
 refine Xf (wpAny_setEntries_of ho hd hf ?_);rw [hn];simp only [bne_self_eq_false,Bool.false_eq_true,if_false];show wpAny _ _ (setNext S (sl:Int).toNat (i:Int).toNat (ep:Int).toNat >>= _) _ _ s
 simp only [Xx];refine Xf (hN _ _ ?_);dsimp only;refine Xf (wpAny_setField hit rfl (by simp) ?_);show wpAny _ _ (newExc (.type "StopIteration") [] >>= _) _ _ _
 refine Xf ?_;simp only [newExc,newTuple];refine Xf (wpAny_newObj_type ?_ (by size_fits));refine Xf (m:=firstArgMember _ _) (wpAny_of_eq (a:=Value.none) (by first | rfl | (simp only [firstArgMember];rfl)) ?_);refine wpAny_newObj_type ?_ (by size_fits);simp only [raiseNew];refine Xf (wpAny_handled ?_)
 first | rw [show A.in1.handled=none from hh] | rw [hh]
 refine Xf (Xg (wpAny_throw ?_));refine Xf (wpAny_isInstance (T:="StopIteration") (b:=true) ⟨_,Xk _ rfl,rfl⟩ isSubtype_stop ?_);exact Xg (hQ _ (((Heap.SameBut.update ..).extBut.push _).push _))
theorem qiJ {I S T:Addr} {i n ep k:Nat} {pl:Array Value} {x:Value} {hx:Int} {o:Obj} {es:Array (Int×Value)} {t:SetTable} {Q:Option Value->Shared->Prop} (hit:s.heap.get? I=some (itO (.ref T) i S n ep)) (hp:s.heap.IsTuple T pl) (ho:s.heap.get? S=some o) (hd:o.data=.set es ep t)
  (hf:t.fits es.size=true) (hn:es.size=n) (hk:pl[i]?=some (.int k 0)) (hx:es[k]?=some (hx,x))
  (hQ:∀ h',h'.get? I=some (itO (.ref T) (i+1) S n ep)->Heap.SameBut I s.heap h'->Q (some x) { s with heap:=h' }):wpAny (model prog w) A (pyNext (.ref I)) Q E s:=by
 have hT:s.TypeIs (.ref I) "set_iterator":=⟨_,hit,rfl⟩;obtain ⟨ot,hot,_,nt,hdt⟩:=hp;unfold pyNext;refine Xf (wpAny_attempt (wpAny_callSpecial?_slot (name:=Str.ofString "__next__") hT F.slot_set_iterator_next
  (wpAny_call_entry F.slot_set_iterator_next hT F.entry_set_iterator_next ?_ (F.args_set_iterator_next_1 _))))
 unfold Builtin.«set_iterator.__next__»;show wpAny _ _ (fieldsOf (.ref I) >>= _) _ _ s
 refine Xf (wpAny_fieldsOf hit rfl ?_);show wpAny _ _ (setEntries S >>= _) _ _ s
 refine Xf (wpAny_setEntries_of ho hd hf ?_);rw [hn];simp only [bne_self_eq_false,Bool.false_eq_true,if_false];show wpAny _ _ (seqItems? (.ref T) >>= _) _ _ s
 refine Xf (wpAny_seqItems hot hdt ?_);simp only [Xx,hk];show wpAny _ _ (setNextDrawn S (k:Int).toNat (ep:Int).toNat >>= _) _ _ s
 simp only [Xx];unfold setNextDrawn;refine Xf (Xf (wpAny_setState_of ho hd hf ?_));simp only [bne_self_eq_false,Bool.false_eq_true,if_false,hx];refine Xg ?_;refine Xf (wpAny_setField_rec hit (by simp) λ h1 hit1 hs1=>?_);refine Xg ⟨x,rfl,Xg (hQ h1 ?_ hs1)⟩;rw [hit1];rfl
theorem qiK {I S T:Addr} {i n ep:Nat} {pl:Array Value} {o:Obj} {es:Array (Int×Value)} {t:SetTable} {Q:Option Value->Shared->Prop} (hh:A.handled=none) (hit:s.heap.get? I=some (itO (.ref T) i S n ep)) (hp:s.heap.IsTuple T pl) (ho:s.heap.get? S=some o) (hd:o.data=.set es ep t)
  (hf:t.fits es.size=true) (hn:es.size=n) (hk:pl[i]?=none)
  (hQ:∀ h',Heap.ExtBut I s.heap h'->Q none { s with heap:=h' }):wpAny (model prog w) A (pyNext (.ref I)) Q E s:=by
 have hT:s.TypeIs (.ref I) "set_iterator":=⟨_,hit,rfl⟩;obtain ⟨ot,hot,_,nt,hdt⟩:=hp;unfold pyNext;refine Xf (wpAny_attempt (wpAny_callSpecial?_slot (name:=Str.ofString "__next__") hT F.slot_set_iterator_next
  (wpAny_call_entry F.slot_set_iterator_next hT F.entry_set_iterator_next ?_ (F.args_set_iterator_next_1 _))))
 unfold Builtin.«set_iterator.__next__»;show wpAny _ _ (fieldsOf (.ref I) >>= _) _ _ s
 refine Xf (wpAny_fieldsOf hit rfl ?_);show wpAny _ _ (setEntries S >>= _) _ _ s
 refine Xf (wpAny_setEntries_of ho hd hf ?_);rw [hn];simp only [bne_self_eq_false,Bool.false_eq_true,if_false];show wpAny _ _ (seqItems? (.ref T) >>= _) _ _ s
 refine Xf (wpAny_seqItems hot hdt ?_);simp only [Xx,hk];refine Xf (wpAny_setField_rec hit (by simp) λ h1 hit1 hs1=>?_);refine Xf (wpAny_setField hit1 rfl (by simp) ?_);show wpAny _ _ (newExc (.type "StopIteration") [] >>= _) _ _ _
 refine Xf ?_;simp only [newExc,newTuple];refine Xf (wpAny_newObj_type ?_ (by size_fits));refine Xf (m:=firstArgMember _ _) (wpAny_of_eq (a:=Value.none) (by first | rfl | (simp only [firstArgMember];rfl)) ?_);refine wpAny_newObj_type ?_ (by size_fits);simp only [raiseNew];refine Xf (wpAny_handled ?_)
 first | rw [show A.in1.handled=none from hh] | rw [hh]
 refine Xf (Xg (wpAny_throw ?_));refine Xf (wpAny_isInstance (T:="StopIteration") (b:=true) ⟨_,Xk _ rfl,rfl⟩ isSubtype_stop ?_);exact Xg (hQ _ ((((hs1.trans (Heap.SameBut.update ..))).extBut.push _).push _))
theorem qee {I S:Addr} {i n ep:Nat} {first:Value} {Q:Value->Shared->Prop} (hit:s.heap.get? I=some (itO first i S n ep)) (h:Q (.ref I) s):wpAny (model prog w) A (pyIter (.ref I)) Q E s:=by
 have hT:s.TypeIs (.ref I) "set_iterator":=⟨_,hit,rfl⟩;refine wpAny_pyIter_slot hT F.slot_set_iterator_iter (wpAny_call_entry F.slot_set_iterator_iter hT F.entry_set_iterator_iter ?_ (F.args_set_iterator_iter_1 _));show wpAny _ _ (ret (.ref I)) _ _ s
 exact Xg ⟨_,rfl,"set_iterator",_,hT,F.slot_set_iterator_next.lookup,h⟩
end
section
variable {prog:Program} {w:World} {A:Around} {E:Value->Shared->Prop} {s:Shared}
theorem qaL {α β:Type} {F:α->β->Prop}:∀ {xs:List α} {l:List β},Paired F xs l->∀ (k:Nat) (b:β),l[k]?=some b->∃ a,xs[k]?=some a/\F a b
 | _,_,.nil,k,b,h=>by simp at h
 | _,_,.cons r t,0,b,h=>by simp at h;subst h;exact ⟨_,rfl,r⟩
 | _,_,.cons r t,k+1,b,h=>by
  obtain ⟨a,h1,h2⟩:=qaL t k b (by simpa using h);exact ⟨a,by simpa using h1,h2⟩
theorem jE {α β:Type} {F:α->β->Prop}:∀ {xs:List α} {l:List β},Paired F xs l->∀ (k:Nat) (a:α),xs[k]?=some a->∃ b,l[k]?=some b/\F a b
 | _,_,.nil,k,b,h=>by simp at h
 | _,_,.cons r t,0,b,h=>by simp at h;subst h;exact ⟨_,rfl,r⟩
 | _,_,.cons r t,k+1,b,h=>by
  obtain ⟨a,h1,h2⟩:=jE t k b (by simpa using h);exact ⟨a,by simpa using h1,h2⟩
abbrev qcL (zs:List Str) (i:Nat) (v:Value):Prop:=∃ t,v=.str (zs.getD i default) t
theorem qdC {α:Type} [Inhabited α] {l:List α} {i:Nat} {x:α} (h:l[i]?=some x):l.getD i default=x:=by rw [List.getD_eq_getElem?_getD,h];rfl
theorem qcM {ys:List Str} {p:List Nat} (hp:p.Perm (List.range ys.length)):(p.map λ k=>ys.getD k default).Perm ys:=by
 refine (hp.map _).trans ?_
 have:∀ (l:List Str),(List.range l.length).map (λ k=>l.getD k default)=l:=by
  intro l;refine List.ext_getElem (by simp) λ i h1 h2=>?_
  simp at h1;simp [h1]
 rw [this]
theorem Walks.setDrawn (hh:A.handled=none) {I S T:Addr} (hIT:T≠I) (hIS:S≠I) {ys:List Str} {p:List Nat} (hp:p.Perm (List.range ys.length)) {o:Obj} {es:Array (Int×Value)} {ep:Nat} {t:SetTable} (hd:o.data=.set es ep t) (hf:t.fits es.size=true) (hpr:Paired (qbu prog w) ys es.toList) :
  Walks prog w A I [I,T,S] [I] ys.length (qcL (p.map λ k=>ys.getD k default)) (λ i h=>h.get? I=some (itO (.ref T) i S ys.length ep)/\h.IsTuple T ((p.map λ k=>(.int (k:Nat) 0:Value)).toArray)/\h.get? S=some o) where
 sub:=λ b hb=>by simp at hb;simp [hb]
 frame:=λ i h h' st k=>⟨k I (by simp) _ st.1,let ⟨o,ho,r⟩:=st.2.1;⟨o,k T (by simp) _ ho,r⟩,k S (by simp) _ st.2.2⟩
 item:=λ i s Q E hi st hQ=>by
  have hn:es.size=ys.length:=by rw [<- Xh,<- hpr.length]
  have hip:i < p.length:=by rw [hp.length_eq,List.length_range];exact hi
  have hk:p[i] < ys.length:=List.mem_range.mp (hp.mem_iff.mp (List.getElem_mem hip));obtain ⟨e,he,h1,t',h2⟩:=jE hpr p[i] ys[p[i]] (Xb hk);have hee:es[p[i]]?=some (e.1,e.2):=by rw [<- Array.getElem?_toList];exact he
  refine qiJ (k:=p[i]) (x:=e.2) (hx:=e.1) st.1 st.2.1 st.2.2 hd hf hn ?_ hee λ h' hit' hs'=>?_
  ·simp [hip]
  ·refine hQ _ h' s.toks ⟨t',?_⟩ ⟨hit',?_,?_⟩ λ b o hb e=>hs'.extBut b o (λ h=>hb (by simp [h])) e
   ·rw [h2];congr 1
    rw [List.getD_eq_getElem?_getD,Xw,Xb hip];show _=ys.getD p[i] default
    rw [List.getD_eq_getElem?_getD,Xb hk];rfl
   ·obtain ⟨o,ho,r⟩:=st.2.1;exact ⟨o,(hs'.2 T hIT).trans ho,r⟩
   ·exact (hs'.2 S hIS).trans st.2.2
 done:=λ s Q E st hQ=>by
  have hn:es.size=ys.length:=by rw [<- Xh,<- hpr.length]
  refine qiK hh st.1 st.2.1 st.2.2 hd hf hn ?_ λ h' he'=>hQ h' s.toks λ b o hb e=>he' b o (λ h=>hb (by simp [h])) e
  have:p.length=ys.length:=by rw [hp.length_eq,List.length_range]
  simp [this]
 self:=λ i s Q E st hQ=>qee st.1 hQ
theorem Walks.setText (hb:byT w) (hh:A.handled=none) {I S:Addr} (hIS:S≠I) {ys zs:List Str} {o:Obj} {es es':Array (Int×Value)} {ep:Nat} {t:SetTable} (hd:o.data=.set es ep t) (hf:t.fits es.size=true) (hn:es.size=ys.length) (he:es'=pickOrder (w.params.setOrder S ep) es) (hpr:Paired (qbu prog w) zs es'.toList) (hz:zs.length=ys.length) :
  Walks prog w A I [I,S] [I] ys.length (qcL zs) (λ i h=>h.get? I=some (itO (.int (0:Nat) 0) i S ys.length ep)/\h.get? S=some o) where
 sub:=λ b hb=>by simp at hb;simp [hb]
 frame:=λ i h h' st k=>⟨k I (by simp) _ st.1,k S (by simp) _ st.2⟩
 item:=λ i s Q E hi st hQ=>by
  obtain ⟨e,hee,h1,t',h2⟩:=jE hpr i (zs[i]'(by omega)) (Xb (by omega));refine qe8 (nx:=0) (x:=e.2) st.1 st.2 hd hf hn ?_ λ h' hit' hs'=>?_
  ·intro Q E h;unfold setNext;refine Xf (wpAny_setState_of st.2 hd hf ?_);dsimp only;unfold setsByText;refine Xf (Xf (wpAny_askSetting (Xg ?_)));dsimp only;refine wpAny_ite_split (λ _=>?_) (λ hnb=>absurd hb hnb);simp only [bne_self_eq_false,Bool.false_eq_true,if_false];unfold setWalk;refine Xf (Xf (wpAny_setState_of st.2 hd hf ?_));dsimp only;unfold setsByText;refine Xf (Xf (wpAny_askSetting (Xg ?_)));dsimp only;refine wpAny_ite_split (λ _=>?_) (λ hnb=>absurd hb hnb);refine Xf (wpAny_askSetting (Xg (Xg ?_)));have e1:(pickOrder (w.params.setOrder S ep) es)[i]?=some e:=by rw [<- he,<- Array.getElem?_toList];exact hee
   show Q (((pickOrder (w.params.setOrder S ep) es)[i]?).map λ e=>(e.2,0)) s
   rw [e1];exact h
  ·refine hQ _ h' s.toks ⟨t',?_⟩ ⟨hit',(hs'.2 S hIS).trans st.2⟩ λ b o hb e=>hs'.extBut b o (λ h=>hb (by simp [h])) e
   rw [h2,qdC (Xb (by omega))]
 done:=λ s Q E st hQ=>by
  refine qe9 hh st.1 st.2 hd hf hn ?_ λ h' he'=>hQ h' s.toks λ b o hb e=>he' b o (λ h=>hb (by simp [h])) e
  intro Q E h;unfold setNext;refine Xf (wpAny_setState_of st.2 hd hf ?_);dsimp only;unfold setsByText;refine Xf (Xf (wpAny_askSetting (Xg ?_)));dsimp only;refine wpAny_ite_split (λ _=>?_) (λ hnb=>absurd hb hnb);simp only [bne_self_eq_false,Bool.false_eq_true,if_false];unfold setWalk;refine Xf (Xf (wpAny_setState_of st.2 hd hf ?_));dsimp only;unfold setsByText;refine Xf (Xf (wpAny_askSetting (Xg ?_)));dsimp only;refine wpAny_ite_split (λ _=>?_) (λ hnb=>absurd hb hnb);refine Xf (wpAny_askSetting (Xg (Xg ?_)));have e1:(pickOrder (w.params.setOrder S ep) es)[ys.length]?=none:=by
   rw [<- he,<- Array.getElem?_toList,List.getElem?_eq_none];rw [<- hpr.length];omega
  show Q (((pickOrder (w.params.setOrder S ep) es)[ys.length]?).map λ e=>(e.2,0)) s
  rw [e1];exact h
 self:=λ i s Q E st hQ=>qee st.1 hQ
theorem Walks.setOne (hb:¬ byT w) (hh:A.handled=none) {I S:Addr} (hIS:S≠I) {ys:List Str} {o:Obj} {es:Array (Int×Value)} {ep:Nat} {t:SetTable} (hd:o.data=.set es ep t) (hf:t.fits es.size=true) (hl:t.led=true) (hpr:Paired (qbu prog w) ys es.toList) (h1:ys.length<=1) :
  Walks prog w A I [I,S] [I] ys.length (qcL ys) (λ i h=>h.get? I=some (itO (.int (if i=0 then 0 else t.place.getD 0 0+1:Nat) 0) i S ys.length ep)/\h.get? S=some o) where
 sub:=λ b hb=>by simp at hb;simp [hb]
 frame:=λ i h h' st k=>⟨k I (by simp) _ st.1,k S (by simp) _ st.2⟩
 item:=λ i s Q E hi st hQ=>by
  have hi0:i=0:=by omega
  subst hi0;have hn:es.size=ys.length:=by rw [<- Xh,<- hpr.length]
  obtain ⟨e,hee,q1,t',q2⟩:=jE hpr 0 (ys[0]'hi) (Xb hi);have hps:t.place.size=1:=by
   simp only [SetTable.fits,Bool.and_eq_true,beq_iff_eq] at hf;omega
  have hpl:t.place[0]?=some (t.place.getD 0 0):=by
   rw [Array.getD_eq_getD_getElem?,Array.getElem?_eq_getElem (by omega)];rfl
  refine qe8 (nx:=t.place.getD 0 0+1) (x:=e.2) st.1 st.2 hd hf hn ?_ λ h' hit' hs'=>?_
  ·intro Q E h;unfold setNext;refine Xf (wpAny_setState_of st.2 hd hf ?_);dsimp only;unfold setsByText;refine Xf (Xf (wpAny_askSetting (Xg ?_)));dsimp only;refine wpAny_ite_split (λ hbb=>absurd hbb hb) (λ _=>?_);refine wpAny_ite_split (λ hbb=>absurd hbb ?_) (λ _=>?_)
   ·show ¬ ((!t.plain && decide (es.size > 1))=true)
    rw [show decide (es.size > 1)=false from Xu (by omega),Bool.and_false];exact Bool.false_ne_true
   refine Xf ?_;show wpAny _ _ (if (!t.led && !es.isEmpty)=true then _ else _) _ _ s
   rw [hl];simp only [Bool.not_true,Bool.false_and,Bool.false_eq_true,if_false];refine Xg ?_;have eb:SetTable.below t.place 0=0:=by
    unfold SetTable.below;rw [hps];unfold SetTable.below.go;simp
    unfold SetTable.below.go;rfl
   refine Xg ?_;simp only [if_true,eb];have ee:es[0]?=some (e.1,e.2):=by rw [<- Array.getElem?_toList];exact hee
   rw [ee,hpl];exact h
  ·refine hQ _ h' s.toks ⟨t',?_⟩ ⟨?_,(hs'.2 S hIS).trans st.2⟩ λ b o hb e=>hs'.extBut b o (λ h=>hb (by simp [h])) e
   ·rw [q2,qdC (Xb hi)]
   ·rw [hit',if_neg (by omega)]
 done:=λ s Q E st hQ=>by
  have hn:es.size=ys.length:=by rw [<- Xh,<- hpr.length]
  refine qe9 hh st.1 st.2 hd hf hn ?_ λ h' he'=>hQ h' s.toks λ b o hb e=>he' b o (λ h=>hb (by simp [h])) e
  intro Q E h;unfold setNext;refine Xf (wpAny_setState_of st.2 hd hf ?_);dsimp only;unfold setsByText;refine Xf (Xf (wpAny_askSetting (Xg ?_)));dsimp only;refine wpAny_ite_split (λ hbb=>absurd hbb hb) (λ _=>?_);refine wpAny_ite_split (λ hbb=>absurd hbb ?_) (λ _=>?_)
  ·show ¬ ((!t.plain && decide (es.size > 1))=true)
   rw [show decide (es.size > 1)=false from Xu (by omega),Bool.and_false];exact Bool.false_ne_true
  refine Xf ?_;show wpAny _ _ (if (!t.led && !es.isEmpty)=true then _ else _) _ _ s
  rw [hl];simp only [Bool.not_true,Bool.false_and,Bool.false_eq_true,if_false];refine Xg (Xg ?_);have hps:t.place.size=ys.length:=by
   simp only [SetTable.fits,Bool.and_eq_true,beq_iff_eq] at hf;omega
  have key:es[SetTable.below t.place (if ys.length=0 then 0 else t.place.getD 0 0+1)]?=none:=by
   by_cases h0:ys.length=0
   ·rw [Array.getElem?_eq_none (by omega)]
   ·rw [if_neg h0];have hy1:ys.length=1:=by omega
    have eb:SetTable.below t.place (t.place.getD 0 0+1)=1:=by
     unfold SetTable.below;rw [hps,hy1];unfold SetTable.below.go
     have:t.place.getD 0 (t.place.getD 0 0+1) < t.place.getD 0 0+1:=by
      have e:t.place.getD 0 (t.place.getD 0 0+1)=t.place.getD 0 0:=by
       rw [Array.getD_eq_getD_getElem?,Array.getD_eq_getD_getElem?,Array.getElem?_eq_getElem (by omega)];rfl
      rw [e];exact Nat.lt_succ_self _
     simp only [Nat.zero_lt_one,if_true,Nat.reduceAdd,Nat.reduceDiv,this];unfold SetTable.below.go;rfl
    rw [eb,Array.getElem?_eq_none (by omega)]
  rw [key];exact h
 self:=λ i s Q E st hQ=>qee st.1 hQ
end
section
variable {prog:Program} {w:World} {A:Around} {E:Value->Shared->Prop} {s:Shared}
theorem qiL {S:Addr} {ys:List Str} {Q:Value->Shared->Prop} (hS:qP prog w s.heap S ys)
  (h:∀ (I:Addr) (h':Heap) (d:Drawn) (zs:List Str) (fp:List Addr) (St:Nat->Heap->Prop),zs.Perm ys->(∀ b o,s.heap.get? b=some o->h'.get? b=some o)->s.heap.objs.size<=I->I∈fp->(∀ b∈fp,b < h'.objs.size/\(b=S∨s.heap.objs.size<=b)) ->
   (∀ A:Around,A.handled=none->Walks prog w A I fp [I] ys.length (qcL zs) St)->St 0 h'->Q (.ref I) { s with heap:=h',drawn:=d }):wpAny (model prog w) A (pyIter (.ref S)) Q E s:=by
 have hTy:=hS.typeIs (s:=s);obtain ⟨o,es,ep,t,ho,hex,hd,hpr,nd,hb,hf,hl,hpl⟩:=hS;have hn:es.size=ys.length:=by rw [<- Xh,<- hpr.length]
 have hlt:S < s.heap.objs.size:=Xm ho;have hsz:ys.length<=sizeLine:=Nat.le_of_lt (Nat.lt_of_lt_of_le hb (by decide));refine wpAny_pyIter_slot hTy PySem.F.slot_set_iter (wpAny_call_entry PySem.F.slot_set_iter hTy F.entry_set_iter ?_ (F.args_set_iter_1 _));unfold Builtin.«frozenset.__iter__»;show wpAny _ _ (Builtin.Frozenset.sizeOf S >>= _) _ _ s
 unfold Builtin.Frozenset.sizeOf;refine Xf (Xf (wpAny_setEntries_of ho hd hf (Xg ?_)));unfold setDrawn;refine Xf (Xf (wpAny_setState_of ho hd hf ?_));dsimp only;unfold setsByText;refine Xf (Xf (wpAny_askSetting (Xg (Xg ?_))));show wpAny _ _ (if (!w.params.followText "set-order" && (!t.plain && decide (es.size > 1)))=true then _ else _) _ _ s
 refine wpAny_ite_split (λ hc=>?_) (λ hc=>?_)
 ·refine Xf (yX es.size (List.range es.size) _ _ (by simp) λ p d hp=>?_);rw [hn] at hp;have hpl':p.length=ys.length:=by rw [hp.length_eq,List.length_range]
  refine Xf (wpAny_newTuple (items:=p.map λ (i:Nat)=>rawInt i) ?_ (by rw [Xa,hpl'];exact hsz));refine Xf (wpAny_setEpoch_of (Xc _ ho) hd hf ?_);rw [hn];refine Xf (wpAny_newObj_type (Xg ⟨_,rfl,"set_iterator",_,⟨_,Xk _ rfl,rfl⟩,F.slot_set_iterator_next.lookup,?_⟩));have sz1:(s.heap.push { cls:=Value.type "tuple",data:=Data.seq (p.map λ (i:Nat)=>rawInt i).toArray }).objs.size=s.heap.objs.size+1:=Heap.size_push _ _;refine h _ _ d (p.map λ k=>ys.getD k default) [_,s.heap.objs.size,S] _ (qcM hp) (λ b o e=>Xc _ (Xc _ e)) ?_ (by simp) ?_ (λ A hA=>Walks.setDrawn hA (I:=(s.heap.push { cls:=Value.type "tuple",data:=Data.seq (p.map λ (i:Nat)=>rawInt i).toArray }).objs.size) (T:=s.heap.objs.size) (by rw [sz1];exact Xo (Nat.lt_succ_self _)) (by rw [sz1];exact Xo (Nat.lt_succ_of_lt hlt)) hp hd hf hpr) ⟨?_,?_,?_⟩
  ·show _<=(s.heap.push _).objs.size
   rw [sz1];omega
  ·intro b hb;rw [Heap.size_push,sz1];simp only [sz1,List.mem_cons,List.not_mem_nil,or_false] at hb;rcases hb with e | e | e <;> rw [e]
   ·exact ⟨Nat.lt_succ_self _,.inr (Nat.le_succ _)⟩
   ·exact ⟨Nat.lt_succ_of_lt (Nat.lt_succ_self _),.inr (Xe _)⟩
   ·exact ⟨Nat.lt_succ_of_lt (Nat.lt_succ_of_lt hlt),.inl rfl⟩
  ·exact Xk _ rfl
  ·exact ⟨_,Xc _ (Xk _ rfl),rfl,_,rfl⟩
  ·exact Xc _ (Xc _ ho)
 ·refine Xf (Xg ?_);refine Xf (wpAny_setEpoch_of ho hd hf ?_);rw [hn];refine Xf (wpAny_newObj_type (Xg ⟨_,rfl,"set_iterator",_,⟨_,Xk _ rfl,rfl⟩,F.slot_set_iterator_next.lookup,?_⟩));have szb:∀ b∈[s.heap.objs.size,S],b < (s.heap.push (itO (.int (0:Nat) 0) 0 S ys.length ep)).objs.size/\(b=S∨s.heap.objs.size<=b):=by
   intro b hb;rw [Heap.size_push];simp only [List.mem_cons,List.not_mem_nil,or_false] at hb;rcases hb with e | e <;> rw [e]
   ·exact ⟨Nat.lt_succ_self _,.inr (Xe _)⟩
   ·exact ⟨Nat.lt_succ_of_lt hlt,.inl rfl⟩
  by_cases hbt:byT w
  ·obtain ⟨zs,hz,hpz⟩:=yP hpr (qdB (w.params.setOrder S ep) es);exact h s.heap.objs.size _ s.drawn zs [s.heap.objs.size,S] _ hz (λ b o e=>Xc _ e) (Xe _) (by simp) szb (λ A hA=>Walks.setText hbt hA (Xo hlt) hd hf hn rfl hpz hz.length_eq) ⟨Xk _ rfl,Xc _ ho⟩
  ·have hlen:ys.length<=1:=by
    have hft:w.params.followText "set-order"=false:=Bool.eq_false_iff.mpr hbt;rw [hft] at hc;rcases hpl with e | e
    ·rw [e];simp
    ·rw [e] at hc;simp only [Bool.not_false,Bool.true_and,decide_eq_true_eq] at hc;omega
   exact h s.heap.objs.size _ s.drawn ys [s.heap.objs.size,S] _ (List.Perm.refl _) (λ b o e=>Xc _ e) (Xe _) (by simp) szb (λ A hA=>Walks.setOne hbt hA (Xo hlt) hd hf (hl.resolve_right hbt) hpr hlen) ⟨Xk _ rfl,Xc _ ho⟩
theorem qiM {r:Addr} {Q:Bool->Shared->Prop} (hT:s.TypeIs (.ref r) "set") (h:Q false s):wpAny (model prog w) A (Builtin.List.listLengthHint (.ref r)) Q E s:=by
 unfold Builtin.List.listLengthHint;refine Xf (wpAny_specialOf hT PySem.F.slot_set_len.lookup ?_);generalize hid:("set.__len__":String)=id0
 wp_delta
 rw [show splitId id0=some ("set","__len__") from by subst hid;decide +kernel];subst hid;refine Xf (wpAny_isInstance (T:="set") (b:=true) hT (by rw [isSubtype_type];kernel_rfl) ?_);refine wpAny_ite_split (λ hab=>absurd hab (by decide)) (λ _=>?_);refine wpAny_ite_split (λ _=>?_) (λ hab=>absurd (by decide +kernel) hab);refine Xf (wpAny_typeOf hT ?_);exact Xg h
theorem qdD {S:Addr} {ys:List Str} {R:List Value->Shared->Prop} (hh:A.handled=none) (hS:qP prog w s.heap S ys)
  (h:∀ (h':Heap) (tk:Nat) (d:Drawn) (acc:List Value) (zs:List Str),(∀ b o,s.heap.get? b=some o->h'.get? b=some o)->s.heap.objs.size < h'.objs.size->zs.Perm ys->StrsAre acc zs->R acc { s with heap:=h',toks:=tk,drawn:=d }) :
  wpAny (model prog w) A (collect (.ref S)) R E s:=by
 have hlt:S < s.heap.objs.size:=by obtain ⟨o,_,_,_,ho,_⟩:=hS;exact Xm ho
 have hsz:ys.length<=sizeLine:=by
  obtain ⟨_,_,_,_,_,_,_,_,_,hb,_⟩:=hS;exact Nat.le_of_lt (Nat.lt_of_lt_of_le hb (by decide))
 unfold collect;refine Xf (wpAny_runValue (codeAny_builtin entry_proto_collect' ?_));rw [Around.under_plainId PySem.F.plain_proto_collect _];show wpAny _ A.in1 (newList [] >>= λ l=>again (.builtin "list.__iadd__" ⟨[l,.ref S],[]⟩)) _ _ s
 refine Xf (wpAny_newObj_type ?_);refine Xg ⟨plainId_quiet PySem.F.plain_list_iadd _,codeAny_builtin entry_list_iadd' ?_⟩;rw [Around.under_plainId PySem.F.plain_list_iadd _];have hL:(s.heap.push { cls:=.type "list",data:=.seq ([]:List Value).toArray }).get? s.heap.objs.size=some { cls:=.type "list",data:=.seq #[] }:=Xk _ rfl;show wpAny _ A.in1 (Builtin.List.listExtendWith (.ref s.heap.objs.size) (.ref S) (.ref s.heap.objs.size)) _ _ _
 have hS1:qP prog w (s.heap.push { cls:=.type "list",data:=.seq ([]:List Value).toArray }) S ys:=by
  obtain ⟨o,es,ep,t,ho,rest⟩:=hS;exact ⟨o,es,ep,t,Xc _ ho,rest⟩
 unfold Builtin.List.listExtendWith;refine Xf (wpAny_typeOf (T:="set") (hS1.typeIs (s:={ s with heap:=s.heap.push { cls:=.type "list",data:=.seq ([]:List Value).toArray } })) ?_);have h1:Builtin.List.listSameRef (.ref s.heap.objs.size) (.ref S)=false:=by simp [Builtin.List.listSameRef];exact Nat.ne_of_gt hlt
 simp only [h1,show (Value.type "set" == Value.type "list")=false by decide,show (Value.type "set" == Value.type "tuple")=false by decide,Bool.or_false,Bool.false_eq_true,if_false];refine Xf (qiL (s:={ s with heap:=s.heap.push { cls:=.type "list",data:=.seq ([]:List Value).toArray } }) hS1 λ I h2 d zs fp St hz hk2 hI hIfp hfp W st=>?_);have sz1:(s.heap.push { cls:=.type "list",data:=.seq ([]:List Value).toArray }).objs.size=s.heap.objs.size+1:=Heap.size_push _ _;have hI':s.heap.objs.size+1<=I:=by have:(s.heap.push { cls:=.type "list",data:=.seq ([]:List Value).toArray }).objs.size<=I:=hI;omega
 have hL2:=hk2 _ _ hL;have hS2:qP prog w h2 S ys:=by
  obtain ⟨o,es,ep,t,ho,rest⟩:=hS1;exact ⟨o,es,ep,t,hk2 _ _ ho,rest⟩
 refine Xf (wpAny_holding (qiM (hS2.typeIs (s:={ s with heap:=h2,drawn:=d })) ?_));have hkk:∀ b o,s.heap.get? b=some o->h2.get? b=some o:=λ b o e=>hk2 b o (Xc _ e)
 have hnf:s.heap.objs.size ∉ fp:=λ hm=>by
  rcases (hfp _ hm).2 with e | e
  ·exact absurd hlt (by rw [<- e];exact XC _)
  ·have e:(s.heap.push { cls:=.type "list",data:=.seq ([]:List Value).toArray }).objs.size<=s.heap.objs.size:=e;rw [sz1] at e;exact absurd e (Nat.not_succ_le_self _)
 have key:∀ (h:Heap) (c₁:Nat),St 0 h->(∀ b o,b≠s.heap.objs.size->h2.get? b=some o->h.get? b=some o) ->
   h.get? s.heap.objs.size=some { cls:=.type "list",data:=.seq #[] c₁ } ->
   codeAny (model prog w) A (.builtin "list.extend.loop" ⟨[.ref s.heap.objs.size,.ref I,.ref s.heap.objs.size],[]⟩) (λ r s'=>∃ h' tk acc' c',r=.ok (.ret (.ref s.heap.objs.size))/\s'={ s with heap:=h',toks:=tk,drawn:=d } /\
    (∀ b o,s.heap.get? b=some o->h'.get? b=some o)/\h'.get? s.heap.objs.size=some { cls:=.type "list",dict:=none,data:=.seq acc' c',slots:=#[] }/\ItemsOf (qcL zs) acc' ys.length) { s with heap:=h,drawn:=d }:=by
  intro h c₁ hst hk hS₁;refine codeAny_extend_loopS (W _ (by simpa using hh)).toS hsz s.heap.objs.size hnf _ ys.length 0 _ #[] c₁ rfl (Nat.zero_le _) hst hS₁ (ItemsOf.nil _) λ s' acc' c' hm hS' hacc=>?_
  rw [Moved.eq_with hm];refine ⟨s'.heap,s'.toks,acc',c',rfl,rfl,λ b o e=>hm.heap b o (λ hmem=>?_) (hk b o (Xo (Xm e)) (hkk b o e)),hS',hacc⟩;have hlt:=Xm e;rcases List.mem_cons.mp hmem with e' | hmem
  ·rw [e'] at hlt;exact XC _ hlt
  ·rw [List.mem_singleton.mp hmem] at hlt;exact absurd (Nat.lt_of_lt_of_le hlt (Nat.le_of_succ_le hI')) (XC _)
 have fin:∀ r s',(∃ h' tk acc' c',r=(.ok (.ret (.ref s.heap.objs.size)):Result)/\s'={ s with heap:=h',toks:=tk,drawn:=d } /\
    (∀ b o,s.heap.get? b=some o->h'.get? b=some o)/\h'.get? s.heap.objs.size=some { cls:=.type "list",dict:=none,data:=.seq acc' c',slots:=#[] }/\ItemsOf (qcL zs) acc' ys.length) ->
   match r with | .ok (.ret v)=>wpAny (model prog w) A (do
    let .ref a:=v | unsupported "internal:collect"
    let o <- load a
    match o.data with
    | .seq xs _=>pure xs.toList
    | _=>unsupported "internal:collect") R E s' | _=>True:=by
  rintro r s' ⟨h',tk,acc',c',rfl,rfl,hk,hS',hacc⟩;show wpAny _ A (load s.heap.objs.size >>= _) _ _ _
  refine Xf (wpAny_load hS' (Xg (h h' tk d acc'.toList zs hk (Xm hS') hz ?_)));have hzl:zs.length=ys.length:=hz.length_eq
  have:∀ (as:List Value) (zs:List Str),as.length=zs.length->(∀ (j:Nat) v,as[j]?=some v->qcL zs j v)->StrsAre as zs:=by
   intro as;induction as with
   | nil=>intro zs hl _;cases zs with
    | nil=>exact .nil
    | cons _ _=>simp at hl
   | cons a as ih =>
    intro zs hl hh;cases zs with
    | nil=>simp at hl
    | cons z zs =>
     obtain ⟨t,e⟩:=hh 0 a rfl;have e:a=.str z t:=e;subst e;exact .cons _ _ (ih zs (by simpa using hl) λ j v e=>by
      obtain ⟨t,e2⟩:=hh (j+1) v (by simpa using e);exact ⟨t,by simpa using e2⟩)
  exact this _ _ (by rw [Xh,hacc.1,hzl]) λ j v e=>hacc.2 j v (by rw [<- Array.getElem?_toList];exact e)
 refine wpAny_ite_split (λ _=>?_) (λ _=>Xg ⟨plainId_quiet PySem.F.plain_extend_loop _,codeAny_mono (key _ _ st (λ b o _ e=>e) hL2) λ r s' hr=>?_⟩)
 ·refine Xf (wpAny_rule ?_);refine Xf ?_;show wpAny _ _ (updateSeq s.heap.objs.size (·.push .none) >>= λ _=>updateSeq s.heap.objs.size (·.pop)) _ _ _
  refine Xf (wpAny_updateSeq hL2 rfl ?_);have hS₂:=Heap.get?_update_self (Obj.mapSeq (·.push Value.none)) hL2 rfl;refine wpAny_updateSeq (hz:=by seq_fits) hS₂ rfl ?_;have hS₃:=Heap.get?_update_self (Obj.mapSeq (·.pop)) hS₂ rfl;refine Xg ⟨plainId_quiet PySem.F.plain_extend_loop _,codeAny_mono (key _ _ ?_ (λ b o hb e=>?_) hS₃) λ r s' hr=>?_⟩
  ·refine (W A hh).frame 0 _ _ st λ b hb o e=>?_
   have hbS:b≠s.heap.objs.size:=λ h=>hnf (h ▸ hb)
   exact (Heap.get?_update_other _ _ (Ne.symm hbS)).trans ((Heap.get?_update_other _ _ (Ne.symm hbS)).trans e)
  ·exact (Heap.get?_update_other _ _ (Ne.symm hb)).trans ((Heap.get?_update_other _ _ (Ne.symm hb)).trans e)
  ·have:=fin r s' hr
   obtain ⟨_,_,_,_,rfl,_⟩:=hr;exact this
 ·have:=fin r s' hr
  obtain ⟨_,_,_,_,rfl,_⟩:=hr;exact this
end
section
variable {prog:Program} {w:World} {A:Around} {E:Value->Shared->Prop} {s:Shared}
theorem qiN {S:Addr} {ys:List Str} {Q:Value->Shared->Prop} (hh:A.handled=none) (hS:qP prog w s.heap S ys) (h64:ys.length < 64)
  (h:∀ (l:Addr) (h':Heap) (tk e:Nat) (d:Drawn) (out:Array Value) (ss':List Str),(∀ b o,s.heap.get? b=some o->h'.get? b=some o)->s.heap.objs.size<=l->h'.get? l=some (seqObj "list" out e)->StrsAre out.toList ss'->ss'.Perm ys->sortedS ss'=true ->
   Q (.ref l) { s with heap:=h',toks:=tk,drawn:=d }):wpAny (model prog w) A (call (.builtin "sorted") [.ref S]) Q E s:=by
 refine Calls.call_function_entry kind_sorted plain_sorted entry_sorted (args_sorted1 _) ?_;unfold Builtin.«sorted»;refine Xf (m:=checkCount "sorted" 1 1 _) (Xg ?_);refine Xf (qdD (by simpa using hh) hS λ h1 tk d vs zs hk hle hz hA=>?_);have hl:vs.length < 64:=by
  have:vs.length=zs.length:=hA.length
  rw [this,hz.length_eq];exact h64
 refine Xf (wpAny_newList ?_);have hoL:(h1.push (seqObj "list" vs.toArray 0)).get? h1.objs.size=some (seqObj "list" vs.toArray 0):=Xk _ rfl;refine Xf (wpAny_holding (wpAny_call_entry slot_list_sort ⟨_,hoL,rfl⟩ entry_list_sort (list_sort_treeK strKind_oneLt hoL hA.keysOf (λ v₁ v₂ rest e=>keyKind_strs (by rw [<- e];exact hA)) hl λ st' a1 a2=>⟨_,rfl,?_⟩) (args_list_sort _)));obtain ⟨ss',b1,b2,b3⟩:=sorted_out_str hA a1 a2;obtain ⟨e,he⟩:=sortedHeap_at (out:=(arrOf st').map (·.2)) hoL;refine Xg ⟨_,rfl,h h1.objs.size _ tk e d _ ss' (λ b o q=>?_) (Nat.le_of_lt hle) he b1 (b2.trans hz) b3⟩;have q1:=hk b o q;have hb:=Xm q1;rw [sortedHeap_old (Xo hb) (by rw [Heap.size_push];exact Nat.lt_succ_of_lt hb)];exact Xc _ q1
end
section
variable {X:Cx}
theorem qde (hc:X.calm=true):jh X (.builtin "sorted") (λ xs H Q=>∃ p ys,xs=[.ref p]/\H p=some (qec X.prog X.w p ys)/\ys.length < 64/\∀ l,H l=none->Q (.ref l) (upd H l (.lst ((qa4 ys).map V.str)))):=by
 intro pins s σ H xs us Q I r h;obtain ⟨p,ys,rfl,hp,h64,q⟩:=h;obtain ⟨u,rfl,ru⟩:=yr r;cases ru
 obtain ⟨ys',hp',hS⟩:=I.set hp;refine qiN (I.ok.hd hc) hS (by rw [hp'.length_eq];exact h64) λ l h' tk e d out ss' hk hle he h1 h2 h3=>?_
 have es:=qea (h2.trans hp') h3;subst es;have hf:=I.hok.fresh hle;refine ⟨.ref l,upd H l (.lst ((qa4 ys).map V.str)),I.call' (s':={ s with heap:=h',toks:=tk,drawn:=d }) (ch:=[]) rfl (Un.laid hk hle hf) (I.hok.laid hk hle ⟨?_,out.toList,e,vp h1,he⟩) I.bare (λ _ z=>nomatch z),rfl,q _ hf⟩
 have:(qa4 ys).length=ys.length:=(h2.trans hp').length_eq
 rw [Xa,this];exact Nat.le_of_lt (Nat.lt_of_lt_of_le h64 (by decide))
end
theorem qlb:∀ n,n < 1024->((SetTable.sizeAbove (2 * n) - 1=7∨SetTable.sizeAbove (2 * n) - 1=15∨SetTable.sizeAbove (2 * n) - 1=31∨SetTable.sizeAbove (2 * n) - 1=63∨SetTable.sizeAbove (2 * n) - 1=127∨SetTable.sizeAbove (2 * n) - 1=255∨SetTable.sizeAbove (2 * n) - 1=511∨SetTable.sizeAbove (2 * n) - 1=1023∨SetTable.sizeAbove (2 * n) - 1=2047)/\n<=SetTable.sizeAbove (2 * n) - 1):=by decide +kernel
theorem qgi {n:Nat} (h:n < 1024):kn (SetTable.sizeAbove (2 * n) - 1):=by
 rcases (qlb n h).1 with e | e | e | e | e | e | e | e | e <;> rw [e]
 ·exact qla
 ·exact qlJ
 ·exact qlK
 ·exact qlL
 ·exact qkk
 ·exact qkl
 ·exact qkm
 ·exact qiH
 ·exact qiI
section
variable {prog:Program} {w:World} {A:Around} {E:Value->Shared->Prop} {s:Shared}
theorem jj {t:SetTable} {n:Nat}:t.fits n=true ↔ (t.place.size=n/\t.place.size+t.dummies.size<=t.mask):=by
 unfold SetTable.fits;rw [Bool.and_eq_true,beq_iff_eq];exact ⟨λ ⟨a,b⟩=>⟨a,of_decide_eq_true b⟩,λ ⟨a,b⟩=>⟨a,Xv b⟩⟩
theorem qa8 {α:Type} (xs:Array α) (i:Nat):(SetTable.eraseAt xs i).toList=xs.toList.eraseIdx i:=by
 unfold SetTable.eraseAt;rw [Array.toList_append,Array.toList_extract,Array.toList_extract,List.eraseIdx_eq_take_drop_succ,List.extract_eq_take_drop,List.extract_eq_take_drop,List.drop_zero,Nat.sub_zero];congr 1
 exact Xr (by simp)
theorem qa9 {α:Type} (xs:Array α) {i:Nat} (h:i < xs.size):(SetTable.eraseAt xs i).size+1=xs.size:=by
 rw [<- Xh,qa8,List.length_eraseIdx_of_lt (by simpa using h),Xh];omega
theorem qdf {α:Type} (xs:Array α) (p:Nat) (x:α):(SetTable.insertAt xs p x).size=xs.size+1:=by
 unfold SetTable.insertAt;simp
 omega
theorem qba {α β:Type} {F:α->β->Prop}:∀ {xs:List α} {l:List β} (i:Nat),Paired F xs l->Paired F (xs.eraseIdx i) (l.eraseIdx i)
 | _,_,_,.nil=>.nil
 | _,_,0,.cons _ t=>t
 | _,_,i+1,.cons r t=>.cons r (qba i t)
theorem jk {α:Type}:∀ {l:List α} {i:Nat} {x y:α},l.Nodup->l[i]?=some x->(y∈l.eraseIdx i ↔ (y∈l/\y≠x))
 | [],_,_,_,_,h=>by simp at h
 | a::l,0,x,y,nd,h=>by
  have ex:a=x:=by simpa using h
  subst ex;have nd':=List.nodup_cons.mp nd;show y∈l ↔ _
  constructor
  ·intro hy;exact ⟨Xn _ hy,λ e=>nd'.1 (e ▸ hy)⟩
  ·rintro ⟨hy,hne⟩;rcases List.mem_cons.mp hy with e | e
   ·exact absurd e hne
   ·exact e
 | a::l,i+1,x,y,nd,h=>by
  have nd':=List.nodup_cons.mp nd;have hx:l[i]?=some x:=by simpa using h
  have ih:=jk (y:=y) nd'.2 hx;rw [List.eraseIdx_cons_succ,List.mem_cons,ih,List.mem_cons];have hax:a≠x:=λ e=>nd'.1 (e ▸ XD hx)
  constructor
  ·rintro (e | ⟨h1,h2⟩)
   ·exact ⟨.inl e,e ▸ hax⟩
   ·exact ⟨.inr h1,h2⟩
  ·rintro ⟨e | h1,h2⟩
   ·exact .inl e
   ·exact .inr ⟨h1,h2⟩
theorem qef {a:Addr} {ys:List Str} {x:Str} {t0:Tok} {Q:Bool->Shared->Prop} (hS:qP prog w s.heap a ys)
  (h0:x ∉ ys->Q false s) (h1:x∈ys->∀ h' ys',Heap.SameBut a s.heap h'->(∀ y,y∈ys' ↔ (y∈ys/\y≠x))->ys'.length<=ys.length->qP prog w h' a ys'->Q true { s with heap:=h' }) :
  wpAny (model prog w) A (setDiscardHashed a (.str x t0) ((qC prog w).hash (.inr x))) Q E s:=by
 obtain ⟨o,es,ep,t,ho,hex,hd,hp,nd,hb,hf,hl,hpl⟩:=hS;have hel:=qcI hp;have hkey:(qC prog w).is (.inr x) (.str x t0)=true:=zu _ _ _ _;have hsc:(Value.str x t0).scannable=true:=rfl;have hlen:es.size < scanBound:=by rw [<- Xh,<- hp.length];exact hb
 unfold setDiscardHashed setFind setFindIn;refine Xf (Xf (wpAny_setState_of ho hd hf ?_));dsimp only;rw [byScan_of hsc hlen hel];simp only [↓reduceIte];refine Xf (wpAny_rule ?_);refine Xf (wpAny_setScan_of hkey ho hd hf hel ?_);cases hr:List.findIdx? (λ e=>(qC prog w).is (.inr x) e.2) es.toList with
 | none =>
  dsimp only;refine Xg (Xg (h0 λ hx=>?_));obtain ⟨e,he,q⟩:=(qcJ hp (.inr x)).mpr ⟨x,hx,rfl⟩
  have:=List.findIdx?_eq_none_iff.mp hr e he
  rw [q] at this;exact Bool.noConfusion this
 | some j =>
  dsimp only;refine Xg ?_;dsimp only;rw [Nat.zero_add];obtain ⟨hj,hpj,_⟩:=List.findIdx?_eq_some_iff_getElem.mp hr;have hjs:j < es.size:=by simpa using hj
  obtain ⟨y,hy,hye,t',hye2⟩:=qaL hp j es.toList[j] (Xb hj);have exy:y=x:=by
   have:=(qC prog w).inj _ _ _ hpj (by rw [hye2];exact zu prog w y t')
   exact (Sum.inr.inj this).symm
  subst exy;refine Xf (wpAny_setState_of ho hd hf ?_);dsimp only;have hsz:=qa9 es hjs;refine Xf (wpAny_storeSet_of ho hd ?_ (fits_of_scanBound (by omega)));have hp1:Paired (qbu prog w) (ys.eraseIdx j) (SetTable.eraseAt es j).toList:=by rw [qa8];exact qba j hp
  obtain ⟨hps,hfill⟩:=jj.mp hf;have hpj':t.place[j]?=some (t.place[j]'(by omega)):=Array.getElem?_eq_getElem (by omega);have edrop:t.drop j={ t with place:=SetTable.eraseAt t.place j,dummies:=SetTable.insertAt t.dummies (SetTable.below t.dummies (t.place[j]'(by omega))) (t.place[j]'(by omega)) }:=by
   unfold SetTable.drop;rw [hpj']
  have hf1:(t.drop j).fits (SetTable.eraseAt es j).size=true:=by
   rw [edrop];have e1:=qa9 t.place (i:=j) (by omega);have e2:=qdf t.dummies (SetTable.below t.dummies (t.place[j]'(by omega))) (t.place[j]'(by omega));refine jj.mpr ⟨?_,?_⟩
   ·show (SetTable.eraseAt t.place j).size=_
    omega
   ·show (SetTable.eraseAt t.place j).size+(SetTable.insertAt t.dummies (SetTable.below t.dummies (t.place[j]'(by omega))) (t.place[j]'(by omega))).size<=t.mask
    omega
  have hle:(ys.eraseIdx j).length<=ys.length:=List.length_eraseIdx_le _ _;obtain ⟨_,hS1⟩:=jf (P:=prog) (w:=w) ho hex hd hp1 (nd.sublist (List.eraseIdx_sublist _ _)) (Nat.lt_of_le_of_lt hle hb) hf1 (by rw [edrop];exact hl) (by
   rcases hpl with e | e
   ·rw [e];exact .inl rfl
   ·exact .inr (by rw [edrop];exact e))
  refine Xf (wpAny_point ?_);exact Xg (h1 (XD hy) _ _ (Heap.SameBut.update _ _ _) (λ z=>jk nd hy) hle hS1)
theorem qdE {M:Model} {α β:Type} (f:α->β->Sem (ForInStep β)) (I:List α->β->Shared->Prop) (Q:β->Shared->Prop)
  (turn:∀ x rest b s,I (x::rest) b s->wpAny M A (f x b) (λ r s'=>match r with | .yield b'=>I rest b' s' | .done b'=>Q b' s') E s)
  (fin:∀ b s,I [] b s->Q b s) (xs:Array α) (b:β) (h:I xs.toList b s):wpAny M A (forIn xs b f) Q E s:=by
 rw [<- Array.forIn_toList];exact wpAny_forIn_list f I Q turn fin _ b h
theorem qfa {a b:Addr} {ys zs:List Str} {Q:Bool->Shared->Prop} (hA:qP prog w s.heap a ys) (hB:qP prog w s.heap b zs) (h:Q true s):wpAny (model prog w) A (setsQuiet [a,b]) Q E s:=by
 have one:∀ {c:Addr} {us:List Str},qP prog w s.heap c us->∀ {R:Array (Int×Value)->Shared->Prop},(∀ es:Array (Int×Value),(∀ e∈es,∃ x t,e.2=.str x t)->R es s)->wpAny (model prog w) A (setEntries c) R E s:=by
  intro c us hC R hR;obtain ⟨o,es,ep,t,ho,hex,hd,hp,nd,hb,hf,hl,hpl⟩:=hC;refine wpAny_setEntries_of ho hd hf (hR es λ e he=>?_);have he':e∈es.toList:=by simpa using he
  obtain ⟨k,hk⟩:=List.mem_iff_getElem?.mp he';obtain ⟨y,_,_,t',e2⟩:=qaL hp k e hk;exact ⟨y,t',e2⟩
 unfold setsQuiet;refine Xf (wpAny_forIn_list _ (λ rest r s'=>s'=s/\r=⟨none,()⟩/\∀ c∈rest,c=a∨c=b) _ ?turn ?fin _ _ ⟨rfl,rfl,by simp⟩)
 case turn =>
  rintro c rest r s' ⟨rfl,rfl,hc⟩;have hC:∃ us,qP prog w s'.heap c us:=by
   rcases hc c Xp with e | e
   ·exact ⟨_,e ▸ hA⟩
   ·exact ⟨_,e ▸ hB⟩
  obtain ⟨us,hC⟩:=hC;refine Xf (one hC λ es hes=>?_);refine Xf (qdE _ (λ rest r s''=>s''=s'/\r=⟨none,()⟩/\∀ e∈rest,∃ x t,e.2=.str x t) _ ?turn2 ?fin2 _ _ ⟨rfl,rfl,λ e he=>hes e (by simpa using he)⟩)
  case turn2 =>
   rintro e rest2 r s'' ⟨rfl,rfl,he⟩;obtain ⟨x,t,ex⟩:=he e Xp;obtain ⟨e1,e2⟩:=e;have ex:e2=.str x t:=ex;subst ex;exact Xg ⟨rfl,rfl,λ e h=>he e (Xn _ h)⟩
  case fin2 =>
   rintro r s'' ⟨rfl,rfl,_⟩;exact Xg ⟨rfl,rfl,λ c h=>hc c (Xn _ h)⟩
 case fin =>
  rintro r s' ⟨rfl,rfl,_⟩;exact Xg h
theorem qbS {a f:Addr} {ys zs:List Str} {Q:Array (Int×Value)->Shared->Prop} (hne:f≠a) (hA:qP prog w s.heap a ys) (hF:qP prog w s.heap f zs)
  (h:∀ es' ys' h' d,ys'.Perm ys->Paired (qbu prog w) ys' es'.toList->Heap.SameBut f s.heap h'->qP prog w h' f zs->Q es' { s with heap:=h',drawn:=d }):wpAny (model prog w) A (setWalkUnseen a [f] (some f)) Q E s:=by
 obtain ⟨o,es,ep,t,ho,hex,hd,hp,nd,hb,hf,hl,hpl⟩:=id hA;have hlen:es.size=ys.length:=by rw [<- Xh,<- hp.length]
 have same:Heap.SameBut f s.heap s.heap:=⟨rfl,λ _ _=>rfl⟩;have walk:wpAny (model prog w) A (setWalk a) Q E s:=qhL ho hd hf hl λ es' d hpe=>by
  obtain ⟨ys',h1,h2⟩:=yP hp hpe;exact h es' ys' s.heap d h1 h2 same hF
 unfold setWalkUnseen;refine Xf (wpAny_setState_of ho hd hf ?_);dsimp only;unfold setsByText;refine Xf (Xf (wpAny_askSetting (Xg ?_)));dsimp only;refine wpAny_ite_split (λ _=>?_) (λ hc=>?_)
 ·exact walk
 ·refine Xf (qfa hA hF ?_);simp only [Bool.not_true,Bool.false_eq_true,if_false];refine Xf (wpAny_rule ?_);obtain ⟨o2,es2,ep2,t2,ho2,hex2,hd2,hp2,nd2,hb2,hf2,hl2,hpl2⟩:=id hF;have hlen2:es2.size < scanBound:=by rw [<- Xh,<- hp2.length];exact hb2
  refine Xf (wpAny_setState_of ho2 hd2 hf2 ?_);dsimp only;have hnb:¬ byT w:=λ hb=>hc (by
   have:w.params.followText "set-order"=true:=hb
   show (w.params.followText "set-order" || _ || _)=true
   rw [this];rfl)
  have hled:t.led=true:=hl.resolve_right hnb;have hled2:t2.led=true:=hl2.resolve_right hnb;refine wpAny_ite_split (λ _=>?_) (λ _=>?_)
  ·refine Xf (wpAny_storeSet_of ho2 hd2 ?_ (fits_of_scanBound hlen2));obtain ⟨_,hS2⟩:=jf (P:=prog) (w:=w) (t':={ t2 with led:=t2.led && t.led,plain:=t2.plain && t.plain }) ho2 hex2 hd2 hp2 nd2 hb2 (jj.mpr (jj.mp hf2)) (.inl (by show (t2.led && t.led)=true;rw [hled,hled2];rfl)) (by
    rcases hpl2 with e | e
    ·exact .inl e
    ·exact .inr (by show (t2.plain && t.plain)=false;rw [e];rfl))
   exact Xg (h es ys _ s.drawn (List.Perm.refl _) hp (Heap.SameBut.update _ _ _) hS2)
  ·exact Xg (h es ys s.heap s.drawn (List.Perm.refl _) hp same hF)
theorem qbT {nm:String} {r l:Addr} {ys zs:List Str} {Q:Unit->Shared->Prop} (hne:r≠l) (hL:qP prog w s.heap l ys) (hR:qP prog w s.heap r zs) (hb:ys.length+zs.length+1 < scanBound)
  (h:∀ us h' d,(∀ x,x∈us ↔ ((x∈zs/\x ∉ ys)∨(x∈ys/\x ∉ zs)))->Heap.SameBut r s.heap h'->qP prog w h' r us->Q () { s with heap:=h',drawn:=d }) :
  wpAny (model prog w) A (Builtin.Frozenset.symmetricDifferenceUpdate nm r (.ref l)) Q E s:=by
 have hTl:=hL.typeIs (s:=s);obtain ⟨o,es,ep,t,ho,hex,hd,hp,nd,hbl,hf,hl,hpl⟩:=id hL;unfold Builtin.Frozenset.symmetricDifferenceUpdate;have e1:(Value.ref l == Value.ref r)=false:=by
  have:¬ (Value.ref l=Value.ref r):=λ e=>hne (by injection e with e;exact e.symm)
  simpa using this
 rw [e1];simp only [Bool.false_eq_true,if_false];refine Xf (wpAny_typeOf hTl ?_);rw [show (Value.type "set" == Value.type "dict")=false by decide];simp only [Bool.false_eq_true,if_false];refine Xf (qak hTl ?_);simp only [if_true];refine Xf (Xg ?_);show wpAny _ _ (setEpoch l >>= _) _ _ s
 refine Xf (wpAny_setEpoch_of ho hd hf ?_);refine wpAny_holding ?_;refine Xf (qbS hne hL hR λ es' ys' h1 d hpy hpe hs1 hR1=>?_);have nd':ys'.Nodup:=hpy.nodup_iff.mpr nd;refine Xf (qdE _ (λ rest u s'=>∃ qs ps us h',ys'=qs++ps/\Paired (qbu prog w) ps rest/\s'={ s with heap:=h',drawn:=d }/\Heap.SameBut r s.heap h'/\qP prog w h' r us /\
   (∀ x,x∈us ↔ ((x∈zs/\x ∉ qs)∨(x∈qs/\x ∉ zs)))/\us.length<=zs.length+qs.length) _ ?turn ?fin _ _ ⟨[],ys',zs,h1,rfl,hpe,rfl,hs1,hR1,by simp,by simp⟩)
 case turn =>
  rintro ⟨eh,ex⟩ rest u s' ⟨qs,ps,us,h',e,hpp,rfl,hs',hU,hm,hul⟩;cases hpp with
  | @cons p _ ps _ hpe1 hpp =>
   obtain ⟨q1,t',q2⟩:=hpe1;have q1:eh=(qC prog w).hash (.inr p):=q1;have q2:ex=.str p t':=q2;subst q1 q2;have hpq:p ∉ qs:=λ hq=>by
    rw [e] at nd';exact (List.nodup_append.mp nd').2.2 p hq p Xp rfl
   have hlen:qs.length+ps.length+1=ys.length:=by
    have:=hpy.length_eq
    rw [e,Xd,Xt] at this;omega
   have go:∀ (h2:Heap) (us2:List Str),Heap.SameBut r h' h2->qP prog w h2 r us2->(∀ x,x∈us2 ↔ ((x∈zs/\x ∉ qs++[p])∨(x∈qs++[p]/\x ∉ zs)))->us2.length<=zs.length+(qs++[p]).length ->
     wpAny (model prog w) A (Builtin.Frozenset.unchanged nm l ep) (λ _ s'=>wpAny (model prog w) A (pure (ForInStep.yield PUnit.unit)) (λ r_1 s'_1=>match r_1 with
      | .yield b'=>∃ qs ps us h',ys'=qs++ps/\Paired (qbu prog w) ps rest/\s'_1={ s with heap:=h',drawn:=d }/\Heap.SameBut r s.heap h'/\qP prog w h' r us/\(∀ x,x∈us ↔ ((x∈zs/\x ∉ qs)∨(x∈qs/\x ∉ zs)))/\us.length<=zs.length+qs.length
      | .done b'=>wpAny (model prog w) A (pure ()) Q E s'_1) E s') E { s with heap:=h2,drawn:=d }:=by
    intro h2 us2 hs2 hU2 hm2 hl2;unfold Builtin.Frozenset.unchanged;have ho2:h2.get? l=some o:=(hs2.2 l (Ne.symm hne)).trans ((hs'.2 l (Ne.symm hne)).trans ho);refine Xf (wpAny_setEpoch_of ho2 hd hf ?_);simp only [bne_self_eq_false,Bool.false_eq_true,if_false];refine Xg (Xg ⟨qs++[p],ps,us2,h2,by rw [e,Xq];rfl,hpp,rfl,hs'.trans hs2,hU2,hm2,hl2⟩)
   refine Xf (wpAny_holding (Xf (qef (s:={ s with heap:=h',drawn:=d }) hU (λ hpu=>?_) (λ hpu h2 us2 hs2 hm2 hle2 hU2=>?_))))
   ·simp only [Bool.not_false,if_true];refine Xf (qe4 (s:={ s with heap:=h',drawn:=d }) hU (by omega) (λ hx=>absurd hx hpu) (λ _ h2 us2 hs2 hp2 hU2=>?_));refine Xg (Xf (go h2 us2 hs2 hU2 (λ x=>?_) ?_))
    ·rw [hp2.mem_iff,List.mem_append,List.mem_singleton,hm x,List.mem_append,List.mem_singleton];have hz:p ∉ zs:=λ hz=>hpu ((hm p).mpr (.inl ⟨hz,hpq⟩))
     by_cases hxp:x=p
     ·subst hxp;simp [hz]
     ·simp [hxp]
    ·rw [hp2.length_eq,Xd,Xd];simp;omega
   ·simp only [Bool.not_true,Bool.false_eq_true,if_false];refine Xg (Xf (go h2 us2 hs2 hU2 (λ x=>?_) ?_))
    ·rw [hm2 x,hm x,List.mem_append,List.mem_singleton];have hz:p∈zs:=by
      rcases (hm p).mp hpu with ⟨h1,_⟩ | ⟨h1,_⟩
      ·exact h1
      ·exact absurd h1 hpq
     by_cases hxp:x=p
     ·subst hxp;simp [hz]
     ·simp [hxp]
    ·rw [Xd];simp;omega
 case fin =>
  rintro u s' ⟨qs,ps,us,h',e,hpp,rfl,hs',hU,hm,hul⟩;cases hpp
  rw [List.append_nil] at e;refine Xg (h us h' d (λ x=>?_) hs' hU);rw [hm x,<- e,hpy.mem_iff]
end
section
variable {prog:Program} {w:World} {A:Around} {E:Value->Shared->Prop} {s:Shared}
theorem qkq {r o:Addr} {ys:List Str} {each:Sem Unit} {Q:Unit->Shared->Prop} (hne:r≠o) (hr:s.heap.get? r=some (qK w)) (hO:qP prog w s.heap o ys) (hn:ys.length < 1024)
  (h:∀ us h',us.Perm ys->Heap.SameBut r s.heap h'->qP prog w h' r us->Q () { s with heap:=h' }):wpAny (model prog w) A (setMerge r o each) Q E s:=by
 obtain ⟨ob,es,ep,t,ho,hex,hd,hp,nd,hb,hf,hl,hpl⟩:=id hO;have hlen:es.size=ys.length:=by rw [<- Xh,<- hp.length]
 have hled:((!(w.params.followText "set-order")) && t.led)=true∨byT w:=by
  by_cases hb:byT w
  ·exact .inr hb
  ·refine .inl ?_;have e1:w.params.followText "set-order"=false:=Bool.eq_false_iff.mpr hb;rw [e1,hl.resolve_right hb];rfl
 unfold setMerge;have e1:(r == o)=false:=by simpa using hne
 rw [e1];simp only [Bool.false_eq_true,if_false];refine Xf (wpAny_setState_of ho hd hf ?_);dsimp only;by_cases h0:es.isEmpty=true
 ·rw [h0];simp only [if_true];have e0:ys=[]:=by
   have:es.size=0:=by simpa using h0
   exact List.eq_nil_of_length_eq_zero (by omega)
  have:=h [] s.heap (by rw [e0]) ⟨rfl,λ _ _=>rfl⟩ (jD hr)
  cases s
  exact Xg this
 ·have h0':es.isEmpty=false:=Bool.eq_false_iff.mpr h0;have hpos:0 < es.size:=by
   rcases Nat.eq_zero_or_pos es.size with e | e
   ·exact absurd (by simpa using e) h0
   ·exact e
  have hplain:t.plain=false:=by
   rcases hpl with e | e
   ·have:ys.length=0:=by rw [e];rfl
    omega
   ·exact e
  rw [h0'];simp only [Bool.false_eq_true,if_false];have hlen2:es.size < scanBound:=by rw [hlen];exact hb
  have roads:∀ (s1:Shared) (T:SetTable) (ep1:Nat),s1.heap.get? r=some { cls:=.type "set",dict:=none,data:=.set #[] ep1 T }->Heap.SameBut r s.heap s1.heap->s1={ s with heap:=s1.heap }->T.place=#[]->T.dummies=#[]->T.led=(!(w.params.followText "set-order"))->kn T.mask->es.size<=T.mask ->
    wpAny (model prog w) A (do
     let (_,_,ts) <- setState r
     match ts.road t with
     | .slotForSlot=>storeSet r es { t with finger:=ts.finger,led:=ts.led && t.led,moves:=ts.moves,plain:=ts.plain && t.plain }
     | .clean =>
      let (es,t) <- (do
        let some (t,order):=(SetTable.laid ts.mask ts.finger ts.moves (led:=ts.led && t.led) (plain:=ts.plain && t.plain) (es.map (·.1))) | unsupported "internal:set-table-without-room"
        let es':=order.filterMap (es[·]?)
        if es'.size != es.size then unsupported "internal:set-table-lost-an-element"
        pure (es',t))
      storeSet r es t
     | .oneByOne =>
      for (h,x) in <- setWalkUnseen o [r] (some r) do
       let _ <- holding [x] (setAddHashed r x h)
       each
       if (<- setState o).2.1 != ep then unsupported "set.changed-during-merge") Q E s1:=by
   intro s1 T ep1 hr1 hs1 es1 hpl0 hdm0 hld hg hle;have hf1:T.fits (#[]:Array (Int×Value)).size=true:=jj.mpr ⟨by rw [hpl0];rfl,by rw [hpl0,hdm0];simp⟩;refine Xf (wpAny_setState_of hr1 rfl hf1 ?_);dsimp only;have hfill:T.fill=0:=by unfold SetTable.fill;rw [hpl0,hdm0];rfl
   unfold SetTable.road;rw [hfill];simp only [bne_self_eq_false,Bool.false_eq_true,if_false];by_cases hc:(T.mask == t.mask && t.dummies.isEmpty)=true
   ·rw [if_pos hc];dsimp only;refine wpAny_storeSet_of hr1 rfl ?_ (fits_of_scanBound hlen2);obtain ⟨_,hS⟩:=jf (P:=prog) (w:=w) (t':={ t with finger:=T.finger,led:=T.led && t.led,moves:=T.moves,plain:=T.plain && t.plain }) hr1 ⟨rfl,rfl,rfl⟩ rfl hp nd hb (jj.mpr (jj.mp hf)) (by rw [hld];exact hled) (.inr (by show (T.plain && t.plain)=false;rw [hplain,Bool.and_false]));rw [es1];exact h ys _ (List.Perm.refl _) (hs1.trans (Heap.SameBut.update _ _ _)) hS
   ·rw [if_neg hc];dsimp only;obtain ⟨t',order,el,q1,q2,q3,q4,q5,q6,q7⟩:=qg0 hg T.finger T.moves (T.led && t.led) (T.plain && t.plain) (es.map (·.1)) (by simpa using hle);rw [el];dsimp only;have hpe:(order.filterMap (es[·]?)).toList.Perm es.toList:=by
     rw [Array.toList_filterMap];exact qgh es (by simpa using q7)
    have hsz:(order.filterMap (es[·]?)).size=es.size:=by rw [<- Xh,hpe.length_eq,Xh]
    rw [hsz];simp only [bne_self_eq_false,Bool.false_eq_true,if_false];refine Xf (Xg ?_);dsimp only;obtain ⟨us,hu,hpu⟩:=yP hp hpe;refine wpAny_storeSet_of hr1 rfl ?_ (fits_of_scanBound (by rw [hsz];exact hlen2));obtain ⟨_,hS⟩:=jf (P:=prog) (w:=w) (t':=t') hr1 ⟨rfl,rfl,rfl⟩ rfl hpu (hu.nodup_iff.mpr nd) (by rw [hu.length_eq];exact hb) (by rw [hsz];simpa using q1) (by rw [q2,hld];exact hled) (.inr (by rw [q3,hplain,Bool.and_false]));rw [es1];exact h us _ hu (hs1.trans (Heap.SameBut.update _ _ _)) hS
  have hfr:(SetTable.fresh 0 0 (!(w.params.followText "set-order"))).fits (#[]:Array (Int×Value)).size=true:=rfl;unfold setRoomFor;refine Xf (Xf (wpAny_setState_of hr rfl hfr ?_));have hrf:(SetTable.fresh 0 0 (!(w.params.followText "set-order"))).roomFor es.size=if es.size * 5 ≥ 21 then some (es.size * 2) else none:=by
   unfold SetTable.roomFor SetTable.fill SetTable.fresh;simp
  dsimp only;rw [hrf];by_cases h5:es.size * 5 ≥ 21
  ·rw [if_pos h5];dsimp only;unfold setRelay;refine Xf (wpAny_setState_of hr rfl hfr ?_);dsimp only;have hn2:es.size < 1024:=by omega
   have hgm:=qgi hn2;have hmm:=qlb es.size hn2;rw [Nat.mul_comm es.size 2];have hsl:¬ SetTable.sizeAbove (2 * es.size) > sizeLine:=by
    have h256:SetTable.sizeAbove (2 * es.size)<=2048:=by
     rcases hmm.1 with e | e | e | e | e | e | e | e | e <;> omega
    have:(2048:Nat)<=sizeLine:=by decide
    omega
   rw [if_neg hsl];obtain ⟨t',order,el,q1,q2,q3,q4,q5,q6,q7⟩:=qg0 hgm (SetTable.fresh 0 0 (!(w.params.followText "set-order"))).finger ((SetTable.fresh 0 0 (!(w.params.followText "set-order"))).movedTo (SetTable.sizeAbove (2 * es.size) - 1)) (SetTable.fresh 0 0 (!(w.params.followText "set-order"))).led (SetTable.fresh 0 0 (!(w.params.followText "set-order"))).plain ((#[]:Array (Int×Value)).map (·.1)) (by simp);have er:(SetTable.fresh 0 0 (!(w.params.followText "set-order"))).relaid ((#[]:Array (Int×Value)).map (·.1)) (2 * es.size)=some (t',order):=el;rw [er];have eo:order=#[]:=by
    have:=q7.length_eq
    simp at this;exact this
   subst eo;refine Xf (m:=(do
        if ((#[]:Array Nat).filterMap ((#[]:Array (Int×Value))[·]?)).size != (#[]:Array (Int×Value)).size then unsupported "internal:set-table-lost-an-element"
        pure (((#[]:Array Nat).filterMap ((#[]:Array (Int×Value))[·]?)),t'):Sem (Array (Int×Value)×SetTable))) ?_
   rw [show ((#[]:Array Nat).filterMap ((#[]:Array (Int×Value))[·]?))=#[] from rfl];simp only [bne_self_eq_false,Bool.false_eq_true,if_false];refine Xg ?_;dsimp only;refine wpAny_storeSet_of hr rfl ?_ (by decide);have hg2:(s.heap.update r (Obj.putSet #[] t')).get? r=some { cls:=.type "set",dict:=none,data:=.set #[] (0+1) t' }:=by
    have:=Heap.get?_update_self (Obj.putSet (#[]:Array (Int×Value)) t') hr (by rw [putSet_of #[] t' rfl];rfl)
    rw [putSet_of #[] t' rfl] at this;exact this
   refine roads { s with heap:=s.heap.update r (Obj.putSet #[] t') } t' 1 hg2 (Heap.SameBut.update _ _ _) rfl ?_ q5 q2 (by rw [q4];exact hgm) (by rw [q4];exact hmm.2);exact Array.eq_empty_of_size_eq_zero (by simpa using q6)
  ·rw [if_neg h5];dsimp only;refine Xg ?_;exact roads s _ 0 hr ⟨rfl,λ _ _=>rfl⟩ rfl rfl rfl rfl qla (by show es.size<=7;omega)
theorem qiO {Q:Value->Shared->Prop} (h:Q (.ref s.heap.objs.size) { s with heap:=s.heap.push (qK w) }):wpAny (model prog w) A (newSet (.type "set")) Q E s:=by
 unfold newSet setsByText;refine Xf (Xf (wpAny_askSetting (Xg ?_)));dsimp only;simp only [newObj];exact Xf (wpAny_alloc (Xg h))
theorem qmL {l r:Addr} {ys zs:List Str} {Q:Value->Shared->Prop} (hL:qP prog w s.heap l ys) (hR:qP prog w s.heap r zs) (hn:zs.length < 1024) (hm:ys.length < 1024)
  (h:∀ us h' d,us.Nodup->(∀ x,x∈us ↔ ((x∈zs/\x ∉ ys)∨(x∈ys/\x ∉ zs)))->(∀ b o,s.heap.get? b=some o->h'.get? b=some o)->qP prog w h' s.heap.objs.size us->Q (.ref s.heap.objs.size) { s with heap:=h',drawn:=d }) :
  wpAny (model prog w) A (binaryOp .BitXor (.ref l) (.ref r)) Q E s:=by
 have hTl:=hL.typeIs (s:=s);have hTr:=hR.typeIs (s:=s);have hll:l < s.heap.objs.size:=by obtain ⟨_,_,_,_,e,_⟩:=hL;exact Xm e
 have hrl:r < s.heap.objs.size:=by obtain ⟨_,_,_,_,e,_⟩:=hR;exact Xm e
 refine wpAny_binaryOp_same (op:=.BitXor) hTl hTr PySem.F.fills_set_xor PySem.F.slot_set_xor (wpAny_call_entry PySem.F.slot_set_xor hTl F.entry_set_xor ?_ (PySem.F.args_set_xor_2 _ _));unfold Builtin.«frozenset.__xor__»;show wpAny _ _ ((Builtin.Frozenset.isAnySet (.ref l) <&&> Builtin.Frozenset.isAnySet (.ref r)) >>= _) _ _ s
 refine Xf (Xf (qak hTl ?_));show wpAny _ _ (Builtin.Frozenset.isAnySet (.ref r)) _ _ s
 refine qak hTr ?_;simp only [Bool.not_true,Bool.false_eq_true,if_false];refine Xf (Xg ?_);refine Xf ?_;show wpAny _ _ (Builtin.Frozenset.baseOf l >>= _) _ _ s
 unfold Builtin.Frozenset.baseOf;refine Xf ?_;refine Xf (wpAny_isInstance hTl sub_set_self (Xg ?_));show wpAny _ _ (Builtin.Frozenset.newFrom _ (.type "set") (.ref r) >>= _) _ _ s
 refine Xf ?_;unfold Builtin.Frozenset.newFrom;refine Xf (qiO ?_);have hk1:∀ b o,s.heap.get? b=some o->(s.heap.push (qK w)).get? b=some o:=λ b o e=>Xc _ e
 have up:∀ {h h':Heap} {a:Addr} {us:List Str},qP prog w h a us->(∀ o,h.get? a=some o->h'.get? a=some o)->qP prog w h' a us:=λ hS k=>by
  obtain ⟨o,es,ep,t,ho,rest⟩:=hS;exact ⟨o,es,ep,t,k o ho,rest⟩
 have hR1:qP prog w (s.heap.push (qK w)) r zs:=up hR λ o e=>hk1 r o e
 have hnew:(s.heap.push (qK w)).get? s.heap.objs.size=some (qK w):=Xk _ rfl;refine Xf (Xg ?_);refine Xf (wpAny_holding ?_);unfold Builtin.Frozenset.updateFrom;refine Xf (qak (hR1.typeIs (s:={ s with heap:=s.heap.push (qK w) })) ?_);simp only [if_true];show wpAny _ _ (Builtin.Frozenset.merge _ s.heap.objs.size r) _ _ _
 unfold Builtin.Frozenset.merge;obtain ⟨o,es,ep,t,ho,hex,hd,hp,nd,hb,hf,hl,hpl⟩:=id hR1;refine Xf (wpAny_setEpoch_of ho hd hf ?_);refine qkq (s:={ s with heap:=s.heap.push (qK w) }) (Ne.symm (Xo hrl)) hnew hR1 hn λ us h2 hu hs2 hU=>?_
 have hk2:∀ b o,s.heap.get? b=some o->h2.get? b=some o:=λ b o e=>(hs2.2 b (Xo (Xm e))).trans (hk1 b o e)
 refine Xg ?_;refine Xf (Xg ?_);refine Xf (wpAny_holding ?_);have hL2:qP prog w h2 l ys:=up hL λ o e=>hk2 l o e
 refine qbT (s:={ s with heap:=h2 }) (Ne.symm (Xo hll)) hL2 hU ?_ λ vs h3 d hm3 hs3 hV=>?_
 ·have:=hu.length_eq
  have hbd:(2048:Nat) < scanBound:=by decide
  omega
 ·refine Xg (Xg ⟨_,rfl,(λ e=>by cases e),?_⟩);refine h vs h3 d ?_ (λ x=>?_) (λ b o e=>(hs3.2 b (Xo (Xm e))).trans (hk2 b o e)) hV
  ·obtain ⟨_,_,_,_,_,_,_,_,nd,_⟩:=hV;exact nd
  ·rw [hm3 x,hu.mem_iff]
end
section
variable {X:Cx}
def qnF (P:Program) (w:World):R2:=λ x y H Q=>∃ a b ys zs,x=.ref a/\y=.ref b/\H a=some (qec P w a ys)/\H b=some (qec P w b zs)/\ys.length < 1024/\zs.length < 1024 /\
 ∀ l us,H l=none->us.Nodup->(∀ x,x∈us ↔ ((x∈ys/\x ∉ zs)∨(x∈zs/\x ∉ ys)))->Q (.ref l) (upd H l (qec P w l us))
theorem qiP:OpR X (binaryOp .BitXor) (qnF X.prog X.w):=by
 intro pins s σ H x y v u Q I rx ry h;obtain ⟨a,b,ys,zs,rfl,rfl,ha,hb,hn,hm,q⟩:=h;cases rx
 cases ry
 obtain ⟨ys',hy,hS1⟩:=I.set ha;obtain ⟨zs',hz,hS2⟩:=I.set hb;refine qmL hS1 hS2 (by rw [hz.length_eq];exact hm) (by rw [hy.length_eq];exact hn) λ us h' d nd hm hk hU=>?_
 have hf:=I.hok.fresh (Xe s.heap.objs.size);refine ⟨.ref s.heap.objs.size,_,I.call' (s':={ s with heap:=h',drawn:=d }) (ch:=[]) rfl (Un.laid hk (Xe _) hf) (I.hok.laid hk (Xe _) (qgZ (List.Perm.refl us) hU)) I.bare (λ _ z=>nomatch z),rfl,q _ us hf nd λ x=>?_⟩;rw [hm x,hy.mem_iff,hz.mem_iff];exact Or.comm
end
namespace F
theorem qaM:Slot "reversed" "__init__" "object.__init__" :=
 .of (owner:="object") (n:="__init__") (by rw [typeLookup_type,builtinLookup_eq_fast];kernel_rfl) (by decide +kernel) (by decide +kernel) (by decide +kernel)
  (by first | exact .inl (by decide +kernel) | exact .inr (by decide +kernel)) (by rw [isSubtype_type];kernel_rfl)
theorem called_reversed:TypeCalled "reversed" "reversed.__new__" "object.__init__" :=
 ⟨by decide +kernel,by decide +kernel,⟨_,_,PySem.F.mro_reversed⟩,PySem.F.made_reversed,by decide +kernel,by rw [isSubtype_type];kernel_rfl,qaM⟩
theorem no_str_reversed:typeLookup (.type "str") "__reversed__"=pure none:=by rw [typeLookup_type,builtinLookup_eq_fast];kernel_rfl
theorem sub_str_dict:isSubtype (.type "str") (.type "dict")=pure false:=by rw [isSubtype_type];kernel_rfl
theorem slot_reversed_next:Slot "reversed" "__next__" "reversed.__next__" :=
 .of (owner:="reversed") (n:="__next__") (by rw [typeLookup_type,builtinLookup_eq_fast];kernel_rfl) (by decide +kernel) (by decide +kernel) (by decide +kernel)
  (by first | exact .inl (by decide +kernel) | exact .inr (by decide +kernel)) (by rw [isSubtype_type];kernel_rfl)
theorem entry_reversed_next:entryFor table "reversed.__next__"=some Builtin.«reversed.__next__»:=entryFor_of_fast (by kernel_rfl)
theorem args_reversed_next_1 (a:Value):argsOk "reversed.__next__" ⟨[a],[]⟩:=by unfold argsOk;kernel_rfl
theorem slot_reversed_iter:Slot "reversed" "__iter__" "reversed.__iter__" :=
 .of (owner:="reversed") (n:="__iter__") (by rw [typeLookup_type,builtinLookup_eq_fast];kernel_rfl) (by decide +kernel) (by decide +kernel) (by decide +kernel)
  (by first | exact .inl (by decide +kernel) | exact .inr (by decide +kernel)) (by rw [isSubtype_type];kernel_rfl)
theorem entry_reversed_iter:entryFor table "reversed.__iter__"=some Builtin.«dict_keyiterator.__iter__» :=
 entryFor_alias (id':="dict_keyiterator.__iter__") (by kernel_rfl) (by first | rfl | decide +kernel) (by decide +kernel) (by kernel_rfl)
theorem args_reversed_iter_1 (a:Value):argsOk "reversed.__iter__" ⟨[a],[]⟩:=by unfold argsOk;kernel_rfl
theorem boot_reversed:bootBuiltins "reversed"=some (.type "reversed"):=by decide +kernel
end F
section
variable {prog:Program} {w:World} {A:Around} {E:Value->Shared->Prop} {s:Shared}
abbrev qdg (z:Str) (t:Tok) (i:Int):Obj:={ cls:=.type "reversed",data:=.fields #[.str z t,.int i 0] }
theorem qbU (z:Str) (t:Tok) (hz:z.length<=sizeLine):MeetsIn prog w (Builtin.«reversed.__new__» ⟨[.type "reversed",.str z t],[]⟩)
  (λ _ R s=>∀ tk,R (.ok (.ret (.ref s.heap.objs.size))) { s with heap:=s.heap.push (qdg z t ((z.length:Int) - 1)),toks:=tk }) :=
 .of_wp λ A R s h=>by
  have hn:=vU;unfold Builtin.«reversed.__new__»;refine Xf (wpAny_of_eq (newClass_reversed _) ?_)
  try dsimp only
  refine Xf (wpAny_of_eq (a:=()) (by first | rfl | kernel_rfl) ?_);refine Xf (wpAny_of_eq (a:=()) (by first | rfl | kernel_rfl) ?_)
  try dsimp only
  refine Xf (wpAny_specialOf (typeIs_str s z t) F.no_str_reversed ?_)
  try dsimp only
  refine Xf ?_;show wpAny _ _ (isInstance (.str z t) (.type "dict") >>= _) _ _ s
  refine Xf (wpAny_isInstance (typeIs_str s z t) F.sub_str_dict ?_);simp only [Bool.false_eq_true,if_false];refine Xf (wpAny_specialOf (typeIs_str s z t) slot_str_getitem.lookup ?_)
  try dsimp only
  refine wpAny_ite_split (λ _=>Xg ?_) (λ hab=>absurd (by decide +kernel) hab);simp only [Bool.not_true,Bool.false_eq_true,if_false];refine Xf (len_str (by omega) ?_);refine Xf (Xg ?_);dsimp only;refine Xf (m:=newObj (.type "reversed") (.fields #[.str z t,rawInt ((z.length:Int) - 1)])) (wpAny_newObj_type ?_);exact Xg ⟨_,rfl,h _⟩
theorem qbb {z:Str} {t:Tok} {Q:Value->Shared->Prop} (hz:z.length<=sizeLine) (h:∀ tk,Q (.ref s.heap.objs.size) { s with heap:=s.heap.push (qdg z t ((z.length:Int) - 1)),toks:=tk }) :
  wpAny (model prog w) A (call (.type "reversed") [.str z t]) Q E s :=
 callType_newIn F.called_reversed (by decide) (PySem.F.typeCall_reversed_1 _) (PySem.F.newCall_reversed_1 _) (λ obj=>PySem.F.args_object_init_2 obj _) PySem.F.entry_reversed_new (qbU z t hz)
  λ tk=>⟨⟨_,Xk _ rfl,rfl⟩,h tk⟩
theorem qiQ {I:Addr} {z:Str} {t:Tok} {i:Nat} {c:Nat} {Q:Option Value->Shared->Prop} (hit:s.heap.get? I=some (qdg z t (i:Int))) (hz:z.length<=sizeLine) (hc:z.cps[i]?=some c)
  (hQ:∀ h' tk u,h'.get? I=some (qdg z t ((i:Int) - 1))->Heap.SameBut I s.heap h'->Q (some (.str ⟨#[c]⟩ u)) { s with heap:=h',toks:=tk }):wpAny (model prog w) A (pyNext (.ref I)) Q E s:=by
 have hT:s.TypeIs (.ref I) "reversed":=⟨_,hit,rfl⟩;have hn:=vU;have hil:i < z.length:=(Array.getElem?_eq_some_iff.mp hc).1;unfold pyNext;refine Xf (wpAny_attempt (wpAny_callSpecial?_slot (name:=Str.ofString "__next__") hT F.slot_reversed_next
  (wpAny_call_entry F.slot_reversed_next hT F.entry_reversed_next ?_ (F.args_reversed_next_1 _))))
 unfold Builtin.«reversed.__next__»;refine Xf (wpAny_of_eq (a:=(Value.ref I,[])) rfl ?_)
 try dsimp only
 refine Xf (wpAny_field hit rfl (x:=.str z t) rfl ?_);refine Xf (wpAny_field hit rfl (x:=.int (i:Int) 0) rfl ?_);dsimp only;rw [if_neg (by omega)];refine Xf (wpAny_specialOf (typeIs_str s z t) slot_str_getitem.lookup ?_);simp only [Option.isNone_some,Bool.false_eq_true,if_false];refine Xf (wpAny_mkInt ?_);refine Xf (wpAny_attempt (getItem_str (c:=c) (by
  have e1:decide ((i:Int) < -(2 ^ 63:Int))=false:=Xu (by omega);have e2:decide ((i:Int) ≥ 2 ^ 63)=false:=Xu (by omega);rw [e1,e2,Bool.or_false]) (by
   have e:seqIndex? (i:Int) z.length=some i:=by
    have e1:(if (i:Int) < 0 then (i:Int)+(z.length:Int) else (i:Int))=(i:Int):=if_neg (by omega);unfold seqIndex?;dsimp only;rw [e1,if_pos (by
     rw [Bool.and_eq_true];exact ⟨Xv (by omega),Xv (by omega)⟩),Xx]
   rw [e];exact hc) ?_))
 dsimp only;refine Xf (wpAny_field hit rfl (x:=.int (i:Int) 0) rfl ?_);dsimp only;refine Xf (wpAny_setField_rec hit (by simp) λ h1 hit1 hs1=>?_);refine Xg ⟨_,rfl,Xg (hQ h1 _ _ ?_ hs1)⟩;rw [hit1];rfl
theorem qiR {I:Addr} {z:Str} {t:Tok} {Q:Option Value->Shared->Prop} (hh:A.handled=none) (hit:s.heap.get? I=some (qdg z t (-1)))
  (hQ:∀ h',Heap.ExtBut I s.heap h'->Q none { s with heap:=h' }):wpAny (model prog w) A (pyNext (.ref I)) Q E s:=by
 have hT:s.TypeIs (.ref I) "reversed":=⟨_,hit,rfl⟩;unfold pyNext;refine Xf (wpAny_attempt (wpAny_callSpecial?_slot (name:=Str.ofString "__next__") hT F.slot_reversed_next
  (wpAny_call_entry F.slot_reversed_next hT F.entry_reversed_next ?_ (F.args_reversed_next_1 _))))
 unfold Builtin.«reversed.__next__»;refine Xf (wpAny_of_eq (a:=(Value.ref I,[])) rfl ?_)
 try dsimp only
 refine Xf (wpAny_field hit rfl (x:=.str z t) rfl ?_);refine Xf (wpAny_field hit rfl (x:=.int (-1) 0) rfl ?_);dsimp only;rw [if_pos (by decide)];refine Xf (wpAny_rule ?_);refine Xf ?_;refine Xf (m:=setField (.ref I) 1 (rawInt (-1))) (wpAny_setField_rec hit (by simp) λ h1 hit1 hs1=>?_);refine wpAny_setField hit1 rfl (by simp) ?_;refine Xf ?_;show wpAny _ _ (newExc (.type "StopIteration") [] >>= _) _ _ _
 refine Xf ?_;simp only [newExc,newTuple];refine Xf (wpAny_newObj_type ?_ (by size_fits));refine Xf (m:=firstArgMember _ _) (wpAny_of_eq (a:=Value.none) (by first | rfl | (simp only [firstArgMember];rfl)) ?_);refine wpAny_newObj_type ?_ (by size_fits);simp only [raiseNew];refine Xf (wpAny_handled ?_)
 first | rw [show A.in1.handled=none from hh] | rw [hh]
 refine Xf (Xg (wpAny_throw ?_));refine Xf (wpAny_isInstance (T:="StopIteration") (b:=true) ⟨_,Xk _ rfl,rfl⟩ isSubtype_stop ?_);exact Xg (hQ _ ((((hs1.trans (Heap.SameBut.update ..))).extBut.push _).push _))
theorem qcN {I:Addr} {z:Str} {t:Tok} {i:Int} {Q:Value->Shared->Prop} (hit:s.heap.get? I=some (qdg z t i)) (h:Q (.ref I) s):wpAny (model prog w) A (pyIter (.ref I)) Q E s:=by
 have hT:s.TypeIs (.ref I) "reversed":=⟨_,hit,rfl⟩;refine wpAny_pyIter_slot hT F.slot_reversed_iter (wpAny_call_entry F.slot_reversed_iter hT F.entry_reversed_iter ?_ (F.args_reversed_iter_1 _));show wpAny _ _ (ret (.ref I)) _ _ s
 exact Xg ⟨_,rfl,"reversed",_,hT,F.slot_reversed_next.lookup,h⟩
def qiS (z:Str) (i:Nat):V:=.str ⟨#[z.cps.getD (z.length - 1 - i) 0]⟩
theorem Walks.rev (hh:A.handled=none) (I:Addr) (z:Str) (t:Tok) (hz:z.length<=sizeLine) :
  Walks prog w A I [I] [I] z.length (λ i v=>qV (qiS z i) v) (λ i h=>h.get? I=some (qdg z t ((z.length:Int) - 1 - i))) where
 sub:=λ _ hb=>hb
 frame:=λ _ _ _ st hk=>hk I (by simp) _ st
 item:=λ i s Q E hi st hQ=>by
  have e:(z.length:Int) - 1 - i=((z.length - 1 - i:Nat):Int):=by omega
  rw [e] at st;have hlt:z.length - 1 - i < z.cps.size:=by show _ < z.length;omega
  refine qiQ st hz (c:=z.cps.getD (z.length - 1 - i) 0) ?_ λ h' tk u hit' hs'=>?_
  ·rw [Array.getD_eq_getD_getElem?,Array.getElem?_eq_getElem hlt];rfl
  ·refine hQ _ h' tk ⟨u,rfl⟩ ?_ λ b o hb e=>hs'.extBut b o (λ h=>hb (by simp [h])) e
   rw [hit'];congr 1
   have:((z.length - 1 - i:Nat):Int) - 1=(z.length:Int) - 1 - ((i+1:Nat):Int):=by omega
   rw [this]
 done:=λ s Q E st hQ=>by
  have e:(z.length:Int) - 1 - (z.length:Nat)=-1:=by omega
  rw [e] at st;exact qiR hh st λ h' he'=>hQ h' s.toks λ b o hb e=>he' b o (λ h=>hb (by simp [h])) e
 self:=λ _ _ _ _ st hQ=>qcN st hQ
end
section
variable {X:Cx}
def qnG (ta:TA):TI:=λ σ H R=>ta σ H λ vs H1=>∃ z,vs=[.str z]/\z.length<=sizeLine/\R (ItV z.length (qiS z)) H1
theorem qlM {tg l:Expr} {ta:TA} {p pos:Pos} (hg:Gl X "reversed") (hm:X.mg "reversed"=none) (ha:PA X [l] ta) (hs:starEach [l] X.env=[(false,eval l X.env)]:=by rfl) :
  PI X tg (.Call (.Name "reversed" p) [l] [] pos) (qnG ta):=by
 intro pins s σ H R I h;refine qcG hg hm F.boot_reversed ha I h (λ us s1 vs H1 I1 r1 q1=>?_) (hs:=hs);obtain ⟨z,rfl,hz,q⟩:=q1;obtain ⟨u,rfl,ru⟩:=yr r1;obtain ⟨t,rfl⟩:=ru;refine qbb hz λ tk=>?_
 have hnew:(s1.heap.push (qdg z t ((z.length:Int) - 1))).get? s1.heap.objs.size=some (qdg z t ((z.length:Int) - 1)):=Xk _ rfl;refine qcN hnew ⟨s1.heap.objs.size,[s1.heap.objs.size],_,_,H1,rfl,I1.kept (t':=tk) λ b o e=>Xc _ e,
  qaJ (qiS z) (λ A hA=>Walks.rev hA _ z t hz) (λ i v h=>h) (λ i h st=>⟨_,_,_,st,rfl,rfl,by decide⟩) (λ _ _ _ _ _ st h=>qcN st h),?_,λ b hb=>?_,q⟩
 ·show (s1.heap.push _).get? _=some (qdg z t ((z.length:Int) - 1 - ((0:Nat):Int)))
  rw [hnew];congr 1;rw [show ((0:Nat):Int)=0 from rfl,Int.sub_zero]
 ·have e:b=s1.heap.objs.size:=by simpa using hb
  subst e;exact I1.fpOk (Xe _) (I1.hok.fresh (Xe _))
end
namespace F
theorem lk_list_keys:typeLookup (.type "list") "keys"=pure none:=by rw [typeLookup_type,builtinLookup_eq_fast];kernel_rfl
theorem entry_dict_update_loop:entryFor table "dict.update.loop"=some Builtin.«dict.update.loop»:=entryFor_of_fast (by kernel_rfl)
theorem plain_dict_update_loop:plainId "dict.update.loop"=true:=by decide +kernel
end F
section
variable {prog:Program} {w:World} {A:Around} {E:Value->Shared->Prop} {s:Shared}
theorem qhM {a:Addr} {o:Obj} {xs:Array Value} {k:Nat} {Q:Option Value->Shared->Prop} (hx:s.heap.get? a=some o) (hc:o.cls=.type "list") (hdat:o.data=.seq xs k) (hd:o.dict=none) (hA:A.handled=none)
  (h:∀ h' tk,(∀ b o,s.heap.get? b=some o->h'.get? b=some o)->Q none { s with heap:=h',toks:=tk }):wpAny (model prog w) A (getAttr? (.ref a) "keys") Q E s:=by
 obtain ⟨c,dct,dat,sl⟩:=o;simp only at hc hdat hd;subst hc hdat hd;obtain ⟨hp,g,d,tk,os⟩:=s;have hT:∀ tk',(⟨hp,g,d,tk',os⟩:Shared).TypeIs (.ref a) "list":=λ _=>⟨_,hx,rfl⟩
 have f1:=sub_AttributeError;have f3:=PySem.F.slot_list_getattribute.lookup;have f4:=PySem.F.slot_list_getattribute.bind (.ref a);have f5:=am_list_getattr_none;have hsz:("keys":Str).length+100<=sizeLine:=by decide
 unfold getAttr? getAttrBy? getAttrBy
 repeat (any_goals (first | assumption | exact hT _ | ((with_reducible show wpAny _ _ (call (Value.builtin "list.__getattribute__") _ _) _ _ _);refine call_meets PySem.F.slot_list_getattribute (hT _) am_entry_list_getattribute (PySem.F.args_list_getattribute_2 _ _) (meets_getattribute_miss_list a xs k sl "keys" _ F.lk_list_keys (by decide +kernel) hsz) ⟨hx,hA,λ h' tk' e hx'=>?_⟩) | wp_step))
 obtain ⟨t',u',he⟩:=hx'.there;show wpAny _ _ (getattributeRaised _ _ _ _ _ _ _) _ _ _
 unfold getattributeRaised
 repeat (any_goals (first | assumption | wp_step))
 exact h _ _ hx'.keeps
def kvK (l:List (Str×V)):List (Key×V):=l.map λ x=>(.inr x.1,x.2)
theorem qfb (a b:List (Key×V)) (x:Key×V):q9 a (b++[x])=jz (q9 a b) x.1 x.2:=by
 unfold q9;rw [List.foldl_append];rfl
theorem qhN {I l D:Addr} {items:Array Value} {zd:List (Str×V)} {s0:Shared} {R:Result->Shared->Prop} (hh:A.handled=none) (hlI:l≠I) (hDI:D≠I) (hDl:D≠l) (hn:items.size=zd.length) (hsz:zd.length<=sizeLine)
  (hp:∀ (j:Nat) kv,zd[j]?=some kv->∃ p its tk u,items[j]?=some (.ref p)/\s0.heap.IsTuple p its/\its=#[.str kv.1 tk,u]/\qV kv.2 u/\p≠D/\p≠I)
  (hR:∀ s' cur,s'.os=s0.os->s'.gens=s0.gens->s'.drawn=s0.drawn->(∀ b o,b≠D->b≠I->s0.heap.get? b=some o->s'.heap.get? b=some o)->s'.heap.DictOf (qC prog w) D cur->KV (q9 [] (kvK zd)) cur->R (.ok (.ret .none)) s') :
  ∀ (k i:Nat) (s:Shared) (cur:List (Key×Value)) (ti:Tok),zd.length - i=k->i<=zd.length->s.os=s0.os->s.gens=s0.gens->s.drawn=s0.drawn->(∀ b o,b≠D->b≠I->s0.heap.get? b=some o->s.heap.get? b=some o)->s.heap.IsListIter I l i->s.heap.IsList l items ->
   s.heap.DictOf (qC prog w) D cur->KV (q9 [] (kvK (zd.take i))) cur->cur.length<=i->codeAny (model prog w) A (.builtin "dict.update.loop" ⟨[.ref D,.ref I,.int i ti,.none],[]⟩) R s:=by
 intro k;induction k with
 | zero =>
  intro i s cur ti hk hi e1 e2 e3 hkp hit hl hD hKV hcl;have hin:i=zd.length:=by omega
  subst hin;refine codeAny_builtin F.entry_dict_update_loop ?_;rw [Around.under_plainId F.plain_dict_update_loop _];unfold Builtin.«dict.update.loop»;refine Xf ((Walks.list (A:=A.in1) (by simpa using hh) I l hlI items).done s _ _ (by rw [hn];exact ⟨hit,hl⟩) λ h' tk hkk=>?_);show wpAny _ _ (Builtin.Dict.addKeywords D [] >>= _) _ _ _
  refine Xf (Xg (Xg ?_));refine hR _ cur e1 e2 e3 (λ b o hb1 hb2 e=>hkk b o (by simpa using hb2) (hkp b o hb1 hb2 e)) ?_ (by rw [List.take_length] at hKV;exact hKV);obtain ⟨o,es,ep,ho,rest⟩:=hD;exact ⟨o,es,ep,hkk D o (by simpa using hDI) ho,rest⟩
 | succ k ih =>
  intro i s cur ti hk hi e1 e2 e3 hkp hit hl hD hKV hcl;have hlt:i < zd.length:=by omega
  refine codeAny_builtin F.entry_dict_update_loop ?_;rw [Around.under_plainId F.plain_dict_update_loop _];unfold Builtin.«dict.update.loop»;refine Xf ((Walks.list (A:=A.in1) (by simpa using hh) I l hlI items).item i s _ _ (by omega) ⟨hit,hl⟩ λ v h1 tk hP hst hkk=>?_);obtain ⟨p,its,tk',u,ei,hT,rfl,ru,hpD,hpI⟩:=hp i zd[i] (Xb hlt);have ev:v=.ref p:=by rw [ei] at hP;exact (Xs hP).symm
  subst ev;obtain ⟨ot,hot,hct,nt,hdt⟩:=hT;have hot1:h1.get? p=some ot:=hkk p ot (by simpa using hpI) (hkp p ot hpD hpI hot);have hD1:h1.DictOf (qC prog w) D cur:=by
   obtain ⟨o,es,ep,ho,rest⟩:=hD;exact ⟨o,es,ep,hkk D o (by simpa using hDI) ho,rest⟩
  refine Xf (wpAny_holding ?_);refine Xf (wpAny_tryCatch ?_);unfold Builtin.Dict.pairItems;refine Xf (wpAny_typeOf (T:="tuple") ⟨ot,hot1,hct⟩ ?_);simp only [show (Value.type "tuple" == Value.type "list")=false by decide,show (Value.type "tuple" == Value.type "tuple")=true by decide,Bool.or_true,Bool.false_or,if_true];refine Xf (wpAny_seqItems hot1 hdt ?_);refine Xg ?_;show wpAny _ _ (holding _ (dictSet D (.str zd[i].1 tk') u)) _ _ _
  refine wpAny_holding (wpAny_dictSet_pairs (hsz:=by omega) (k:=.inr zd[i].1) (zu prog w _ tk') hD1 λ h2 hD2 hs2=>?_);refine Xg ⟨plainId_quiet F.plain_dict_update_loop _,?_⟩;refine ih (i+1) { s with heap:=h2,toks:=tk+1 } (stored cur (.inr zd[i].1) u) 0 (by omega) hlt e1 e2 e3 (λ b o hb1 hb2 e=>(hs2.2 b hb1).trans (hkk b o (by simpa using hb2) (hkp b o hb1 hb2 e))) ?_ ?_ hD2 ?_ ?_
  ·exact hst.1.at λ o e=>(hs2.2 I (Ne.symm hDI)).trans e
  ·exact hst.2.at λ o e=>(hs2.2 l (Ne.symm hDl)).trans e
  ·have et:zd.take (i+1)=zd.take i++[zd[i]]:=by rw [List.take_succ,Xb hlt];rfl
   rw [et];unfold kvK;rw [XA,List.map_cons,List.map_nil,qfb];exact hKV.put _ ru
  ·have:=hKV.length
   have h2:=(hKV.put (.inr zd[i].1) ru).length;rw [<- h2];have h3:=yO (q9 [] (kvK (zd.take i))) (.inr zd[i].1) zd[i].2;omega
end
section
variable {X:Cx}
theorem qbK {α β:Type} {F:α->β->Prop}:∀ {xs:List α} {l:List β},Paired F xs l->∀ (k:Nat) (b:β),l[k]?=some b->∃ a,xs[k]?=some a/\F a b
 | _,_,.nil,k,b,h=>by simp at h
 | _,_,.cons r t,0,b,h=>by simp at h;subst h;exact ⟨_,rfl,r⟩
 | _,_,.cons r t,k+1,b,h=>by
  obtain ⟨a,h1,h2⟩:=qbK t k b (by simpa using h);exact ⟨a,by simpa using h1,h2⟩
def qlN (K:PySem.W.Frag):List V->Hp->VK->Prop:=λ xs H Q=>∃ (p:Addr) (ps:List Addr) (zd:List (Str×V)),xs=[.ref p]/\SqL K H p (ps.map V.ref)/\Paired (λ a kv=>SqT K H a [.str kv.1,kv.2]) ps zd /\
 ∀ d,H d=none->Q (.ref d) (upd H d (.dK (q9 [] (kvK zd))))
theorem qfc (hc:X.calm=true):jh X (.type "dict") (qlN X.K):=by
 intro pins s σ H xs us Q I r h;obtain ⟨l,ps,zd,rfl,hq,hpp,q⟩:=h;obtain ⟨u,rfl,ru⟩:=yr r;cases ru
 obtain ⟨its,rv,⟨ol,nl,hol,hcl,hdl,hsl⟩,hz⟩:=I.list hq;have hA:=I.ok.hd hc;have hll:l < s.heap.objs.size:=Xm hol;have hlen:ps.length=zd.length:=hpp.length;have hits:its.length=zd.length:=by rw [<- rv.length,Xa];exact hlen
 have hsz:zd.length<=sizeLine:=by rw [Xa] at hz;omega
 refine callType_codes (Q₁:=λ obj s₁=>obj=.ref s.heap.objs.size/\s₁={ s with heap:=s.heap.push { cls:=.type "dict",data:=.dict #[] } }) PySem.F.kt_called_dict (PySem.F.kt_typeCall_dict_1 _) PySem.F.entry_dict_init (kt_code_dict_new _ ⟨rfl,rfl⟩) ?_;rintro obj s₁ ⟨rfl,rfl⟩;have hnew:(s.heap.push { cls:=.type "dict",data:=.dict #[] }).DictOf (qC X.prog X.w) s.heap.objs.size []:=Heap.DictOf.new s.heap;refine ⟨hnew.typeIs,PySem.F.args_dict_init_2 _ _,?_⟩;unfold Builtin.«dict.__init__»;refine Xf ?_;unfold Builtin.Dict.selfAndRest;refine Xf (wpAny_notOrdered_dict hnew.typeIs ?_);show wpAny _ _ (pure (s.heap.objs.size,[Value.ref l])) _ _ _
 refine Xg ?_;show wpAny _ _ (Builtin.Dict.updateFrom "dict.__init__" s.heap.objs.size (.ref l) [] .none) _ _ _
 unfold Builtin.Dict.updateFrom;have hol1:(s.heap.push { cls:=.type "dict",data:=.dict #[] }).get? l=some ol:=Xc _ hol;refine Xf (wpAny_typeOf (T:="list") ⟨ol,hol1,hcl⟩ ?_);rw [if_pos (by decide)];refine Xf (qhM (s:={ s with heap:=s.heap.push { cls:=.type "dict",data:=.dict #[] } }) hol1 hcl hsl hdl (by simpa using hA) λ h2 tk2 hk2=>?_);simp only [Option.isNone_none,if_true];refine Xf (wpAny_rule ?_);have hol2:h2.get? l=some ol:=hk2 l ol hol1;have hl2:h2.IsList l its.toArray:=⟨ol,hol2,hcl,nl,hsl⟩;have hD2:h2.DictOf (qC X.prog X.w) s.heap.objs.size []:=by
  obtain ⟨o,es,ep,ho,rest⟩:=hnew;exact ⟨o,es,ep,hk2 _ o ho,rest⟩
 have hDlt:s.heap.objs.size < h2.objs.size:=by
  obtain ⟨o,es,ep,ho,rest⟩:=hD2;exact Xm ho
 have hllt:l < h2.objs.size:=Xm hol2;refine Xf (wpAny_pyIter_list (s:={ s with heap:=h2,toks:=tk2 }) hl2 ?_);refine Xg ⟨plainId_quiet F.plain_dict_update_loop _,?_⟩;have hk3:∀ b o,s.heap.get? b=some o->(h2.push { cls:=.type "list_iterator",data:=.fields #[.ref l,.int 0 0] }).get? b=some o:=λ b o e=>Xc _ (hk2 b o (Xc _ e))
 refine qhN (A:=X.A.in1) (I:=h2.objs.size) (l:=l) (D:=s.heap.objs.size) (items:=its.toArray) (zd:=zd) (s0:={ s with heap:=h2.push { cls:=.type "list_iterator",data:=.fields #[.ref l,.int 0 0] },toks:=tk2 })
  (by simpa using hA) (Xo hllt) (Xo hDlt) (Nat.ne_of_gt hll) (by rw [Xl];exact hits) hsz ?_ ?_ zd.length 0 _ [] 0 (by omega) (Nat.zero_le _) rfl rfl rfl (λ b o _ _ e=>e) ?_ ?_ ?_ (by rw [List.take_zero];exact .nil) (Xe _)
 ·intro j kv hkv;obtain ⟨p,hpj,hT⟩:=qbK hpp j kv hkv;obtain ⟨tis,rt,pt,_⟩:=I.tuple hT;obtain ⟨u1,u2,e2,r1,r2⟩:=qgS rt;obtain ⟨t1,rfl⟩:=r1;subst e2;obtain ⟨ot,hot,hct,nt,hdt⟩:=pt;have hplt:p < s.heap.objs.size:=Xm hot;obtain ⟨v,hv,rvv⟩:=rv.get (i:=j) (x:=.ref p) (by rw [Xw,hpj];rfl);cases rvv
  refine ⟨p,_,t1,u2,by simpa using hv,⟨ot,hk3 p ot hot,hct,nt,hdt⟩,rfl,r2,Xo hplt,Xo (Nat.lt_trans hplt hDlt)⟩
 ·intro s' cur e1 e2 e3 hkp hD hKV;refine ⟨rfl,?_⟩;have hf:=I.hok.fresh (Xe s.heap.objs.size);have hk4:∀ b o,s.heap.get? b=some o->s'.heap.get? b=some o:=λ b o e=>hkp b o (Xo (Xm e)) (Xo (Nat.lt_trans (Xm e) hDlt)) (hk3 b o e)
  have hmz:(q9 [] (kvK zd)).length<=sizeLine:=by
   have gen:∀ (ls acc:List (Key×V)),(q9 acc ls).length<=acc.length+ls.length:=by
    intro ls;induction ls with
    | nil=>intro acc;exact Xe _
    | cons x ls ih =>
     intro acc;show (q9 (jz acc x.1 x.2) ls).length<=_
     have:=ih (jz acc x.1 x.2)
     have h3:=yO acc x.1 x.2;rw [Xt];omega
   have:=gen (kvK zd) []
   have e:(kvK zd).length=zd.length:=by unfold kvK;rw [Xa]
   simp at this;omega
  refine ⟨.ref s.heap.objs.size,_,I.call' (s':=s') (ch:=[]) e1 (Un.laid hk4 (Xe _) hf) (I.hok.laid hk4 (Xe _) (qf3 hmz (beq_eq_false_iff_ne.mpr (Ne.symm (Xo I.big))) hKV hD)) (by rw [e2];exact I.bare) (λ _ z=>nomatch z),rfl,q _ hf⟩
 ·exact ⟨_,Xk _ rfl,rfl,rfl⟩
 ·exact hl2.push _
 ·obtain ⟨o,es,ep,ho,rest⟩:=hD2;exact ⟨o,es,ep,Xc _ ho,rest⟩
end
section
variable {X:Cx}
theorem qfd {pins:List (Addr×Obj)} {σ:St} {H2:Hp} {s2:Shared} {NY:List Str} {o:Nat} {caps:List Nat} {scope:Scope} {fp:List Addr} {it:Addr} {tn:Nat->Heap->Prop} {adv:Adv} {stop:Nat->Hp->Prop}
  {elt tg iter:Expr} {ifs:List Expr} {pos:Pos} {tt:TT} {te:TE} {Q:VK} {R:Result->Shared->Prop}
  (S:CompScope X NY o caps scope) (I2:Inv X pins σ H2 s2) (hfp:∀ b∈fp,jy X pins H2 b) (st2:tn 0 s2.heap)
  (Wk:∀ C,Walk (zx X NY scope C s2 H2 fp pins) tg fp it tn adv stop) (ht:∀ C,PTs (zx X NY scope C s2 H2 fp pins) ifs tt) (he:∀ C,PE (zx X NY scope C s2 H2 fp pins) elt te)
  (h:ji o caps adv stop tt te σ H2 Q) (fin:∀ (s4:Shared) (H3:Hp) (m:Str->Option Value),s4.heap.Ns (s2.heap.objs.size+1) m->Inv X pins σ H3 s4->H3 (s2.heap.objs.size+1)=none->Q (.ref s2.heap.objs.size) H3->R (.ok .next) s4) :
  wpAny (model X.prog X.w) X.A (newList []) (λ acc s₃=>wpAny (model X.prog X.w) X.A (newFunctionEnv scope X.env.globals (zM X.env scope.names []) [] X.env.qual none .none (some X.env)) (λ cenv s₄ =>
   acc=.ref s2.heap.objs.size/\cenv.locals=s2.heap.objs.size+1/\codeAny (model X.prog X.w) X.A (.compStart (.ListComp elt [⟨tg,iter,ifs,0⟩] scope pos) 0 (.ref it) acc { cenv with scope:=relabel scope X.env }) R s₄) X.xe s₃) X.xe s2:=by
 refine wpAny_newObj_type (wpAny_newFunctionEnv S.nocell (by intro y hy;simp at hy) (λ h₁ hns₁ hsb₁=>?_) S.kind);dsimp only at hns₁ hsb₁ ⊢;have hC:(s2.heap.push { cls:=.type "list",dict:=none,data:=.seq ([]:List Value).toArray }).objs.size=s2.heap.objs.size+1:=Heap.size_push _ _;rw [hC] at hns₁ hsb₁ ⊢;have hkeep:∀ b ob,s2.heap.get? b=some ob->h₁.get? b=some ob:=λ b ob e =>
  (hsb₁.2 b (Xo (Nat.lt_succ_of_lt (Xm e)))).trans (Xc _ (Xc _ e))
 have hD:∃ n,h₁.get? s2.heap.objs.size=some { cls:=.type "list",data:=.seq ([]:List Value).toArray n } :=
  ⟨_,(hsb₁.2 _ (Xo (Nat.lt_succ_self _))).trans (Xc _ (Xk _ rfl))⟩
 have hfr:H2 s2.heap.objs.size=none:=I2.hok.fresh (Xe _);obtain ⟨W,⟨m0,w0⟩,turn⟩:=h _ hfr;have ob0:=(Wk 0).obj 0 s2.heap st2;have I4:=qe1 S I2 hfp (λ b hb=>(ob0 b hb).imp λ _ q=>q.1) (hns:=hns₁) hkeep hD (s2.toks+([]:List (Str×Value)).length);have st4:tn 0 h₁:=(Wk 0).keep _ _ _ st2 λ b _ ob e=>hkeep b ob e
 have fr4:∀ b∈fp,upd H2 s2.heap.objs.size (.lst []) b=none:=λ b hb=>by
  obtain ⟨ob,e,_⟩:=ob0 b hb;rw [qx (Xo (Xm e))];exact (hfp b hb).1
 have loop:codeAny (model X.prog X.w) X.A (.compLoop (.ListComp elt [⟨tg,iter,ifs,0⟩] scope pos) 0 (.ref it) (.ref s2.heap.objs.size) (compEnvC scope (zM X.env scope.names []) (s2.heap.objs.size+1) X.env))
   R { s2 with heap:=h₁,toks:=s2.toks+([]:List (Str×Value)).length }:=by
  have Wk:=Wk (s2.heap.objs.size+1);have ht:=ht (s2.heap.objs.size+1);have he:=he (s2.heap.objs.size+1);generalize hY:zx X NY scope (s2.heap.objs.size+1) s2 H2 fp pins=Y at Wk ht he I4;have fpY:∀ {H':Hp},(∀ b∈fp,H' b=none)->∀ b∈fp,jy Y [] H' b:=λ {H'} hn b hb=>by
   subst hY;obtain ⟨ob,e,_⟩:=ob0 b hb;have k:=I4.ok.exf b hb;refine ⟨hn b hb,k.1,I4.ok.exfs b hb,.inl hb,k.2,λ p hp=>?_⟩;have hp':p∈X.pn++pins:=by
    have:p∈(X.pn++pins)++[]:=hp
    simpa using this
   exact (hfp b hb).2.2.2.2.2 p hp'
  refine vm (λ n s'=>∃ i ys H',Inv Y [] (stY o caps σ) H' s'/\tn i s'.heap/\(∀ b∈fp,H' b=none)/\W i n ys H') ?_ m0 ⟨0,[],_,I4,st4,fr4,w0⟩;rintro n s3 ⟨i,ys,H3,I3,st3,fr3,w3⟩;have eE:Y.xe=λ _ _=>False:=by subst hY;rfl
  have ePw:Y.prog=X.prog/\Y.w=X.w/\Y.A=X.A/\Y.env=compEnvC scope (zM X.env scope.names []) (s2.heap.objs.size+1) X.env:=by subst hY;exact ⟨rfl,rfl,rfl,rfl⟩
  obtain ⟨eP,ew,eA,ee⟩:=ePw;rw [<- eP,<- ew,<- eA,<- ee,<- eE];rcases turn i n ys H3 w3 with ⟨stp,qn⟩ | av
  ·refine thn (Wk.done i [] s3 _ H3 I3 (fpY fr3) st3 stp) λ r s4 ⟨hr,I5⟩=>?_
   subst hr;obtain ⟨m,hn,_⟩:=id I5.loc;have eC:Y.env.locals=s2.heap.objs.size+1:=by rw [ee];rfl
   rw [eC] at hn;have u:=I5.base;have hokY:=I5.hok;have hfree:=I5.free;rw [eC] at hfree;have hbare:=I5.bare;have hos:=I5.os;subst hY;have hs:Heap.SameBut (s2.heap.objs.size+1) s4.heap s4.heap:=⟨rfl,λ _ _=>rfl⟩;have u2:Un (frs X.stack) fp H2 H3 s2.heap s4.heap:=Un.but u hs (Nat.le_succ _);have hok2:HOk X.prog X.w H3 s4.heap:=HOk.but hokY hs hfree;refine fin s4 H3 m hn ?_ hfree qn;obtain ⟨hh,g,d,t,os'⟩:=s4;obtain rfl:os'=s2.os:=hos;exact Inv.call (s:=s2) (h':=hh) (g':=g) (d':=d) (t':=t) (ch:=fp) I2 u2 hok2 hbare λ b hb=>⟨(hfp b hb).2.2.2.1,(hfp b hb).2.1,(hfp b hb).2.2.2.2.1,(hfp b hb).2.2.2.2.2⟩
  ·refine thn (Wk.item i [] s3 _ H3 _ I3 (fpY fr3) st3 av) λ r s4 ⟨u,hr,h4⟩=>?_
   subst hr;refine thn h4 λ _ s5 h5=>thn h5 λ _ s6 ⟨σ6,H6,I6,⟨kp,q6⟩,st6,fr6⟩=>?_
   have I6':=I6.pinned (fp:=fp) (fpY fr6) (Wk.obj _ _ st6);refine thn (ht _ s6 σ6 H6 _ I6' q6) λ b s7 ⟨H7,I7,q7⟩=>?_
   cases b with
   | false =>
    obtain ⟨m',hm,w7⟩:=q7;obtain ⟨J1,J2,J3⟩:=zE (tg:=tg) (tn:=tn) (i:=i+1) (Wk.obj _ _ st6) (λ h' k=>Wk.keep _ _ _ st6 k) I7;exact ⟨m',hm,i+1,ys,H7,J1.weak kp.2.symm kp.get,J2,J3,w7⟩
   | true =>
    refine thn (he _ s7 σ6 H7 _ I7 q7) λ y s8 ⟨yv,H8,I8,r8,hD8,hz8,m',hm,w8⟩=>?_
    refine thn (zA (X:=Y) _ s8 σ6 H8 (.ref s2.heap.objs.size) [yv] _ _ (λ v H'=>v=.non/\H'=upd H8 s2.heap.objs.size (.lst (ys++[yv]))) I8 rfl (.cons r8 .nil) ⟨_,ys,yv,rfl,rfl,hD8,hz8,rfl,rfl⟩) λ v s9 ⟨_,H9,I9,_,_,e9⟩=>?_
    subst e9;obtain ⟨J1,J2,J3⟩:=zE (tg:=tg) (tn:=tn) (i:=i+1) (Wk.obj _ _ st6) (λ h' k=>Wk.keep _ _ _ st6 k) I9;exact ⟨m',hm,i+1,ys++[yv],_,J1.weak kp.2.symm kp.get,J2,J3,w8⟩
 exact ⟨rfl,rfl,codeAny_compStart_list loop ((Wk 0).self _ 0 _ _ _ st4 loop)⟩
theorem qbc {pins:List (Addr×Obj)} {σ:St} {H2:Hp} {s2:Shared} {i:Nat} {x:Str} {Q:St->Hp->Prop} {R:Flow->Shared->Prop} (I2:Inv X pins σ H2 s2) (hN:X.N.Nodup) (hi:X.N[i]?=some x) (hx:X.env.scope.names.lookup x=some .local)
  (hR:∀ s H,Inv X pins (σ.set i (some (.ref s2.heap.objs.size))) H s->Q (σ.set i (some (.ref s2.heap.objs.size))) H->R .next s) {s4:Shared} {H3:Hp} {m:Str->Option Value} {pos':Pos} (hn:s4.heap.Ns (s2.heap.objs.size+1) m) (I4:Inv X pins σ H3 s4) (hf:H3 (s2.heap.objs.size+1)=none) (q:Q (σ.set i (some (.ref s2.heap.objs.size))) H3) :
  wpAny (model X.prog X.w) X.A (assign (.Name x pos') X.env (.ref s2.heap.objs.size)) (λ _ s''=>∃ m,s''.heap.Ns (s2.heap.objs.size+1) m/\∀ h',Heap.SameBut (s2.heap.objs.size+1) s''.heap h'->R .next { s'' with heap:=h' }) X.xe s4:=by
 have hCL:s2.heap.objs.size+1≠X.env.locals:=Nat.ne_of_gt (Nat.lt_succ_of_lt I2.lt);have hcell:∀ y c,X.env.cells.lookup y=some c->c≠s2.heap.objs.size+1:=λ y c e=>by
  obtain ⟨v,o,ho,_⟩:=I2.cell y c e;exact Xo (Nat.lt_succ_of_lt (Xm ho))
 refine wpAny_assign_Name (qdo (v:=.ref s2.heap.objs.size) I4 hN hi (.inl hx) rfl (λ s5 I5 hsb=>?_) (.inr hx));obtain ⟨a,sb,ha⟩:=hsb;have hCa:s2.heap.objs.size+1≠a:=by
  rcases ha with e | e
  ·rw [e];exact hCL
  ·exact Ne.symm (hcell x a e)
 refine ⟨m,hn.sameBut sb hCa,λ h' hs=>hR _ H3 ?_ q⟩;refine I5.turned (it:=s2.heap.objs.size+1) (t':=s5.toks) (λ b o hb e=>(hs.2 b hb).trans e) hf hCL (.inr (Nat.le_succ_of_le I2.sz)) hcell λ p hp=>?_
 obtain ⟨e,_⟩:=I2.pin p hp;exact Xo (Nat.lt_succ_of_lt (Xm e))
theorem qg1 {i:Nat} {x:Str} {pos' pos:Pos} {elt iter tg:Expr} {ifs:List Expr} {scope:Scope} {cpos:Pos} {NY:List Str} {o:Nat} {caps:List Nat} {wi:TI} {g:TG} {tt:TT} {te:TE}
  (hN:X.N.Nodup) (hi:X.N[i]?=some x) (hx:X.env.scope.names.lookup x=some .local) (S:CompScope X NY o caps scope) (hc:X.calm=true) (hit:PI X tg iter wi)
  (hg:∀ C s H fp pins,PG (zx X NY scope C s H fp pins) tg g) (ht:∀ C s H fp pins,PTs (zx X NY scope C s H fp pins) ifs tt) (he:∀ C s H fp pins,PE (zx X NY scope C s H fp pins) elt te)
  (hsw:swapsWith (.ListComp elt [⟨tg,iter,ifs,0⟩] scope cpos) (some (.Name x pos')) pos.line X.env=pure true:=by rfl)
  (hs:∀ x,foldedSetIterable iter X.env x=pure x:=by intro _;rfl):PS X (.Assign [.Name x pos'] (.ListComp elt [⟨tg,iter,ifs,0⟩] scope cpos) pos) (qih (qiA o caps wi g tt te) (vN i)):=by
 intro pins s σ H D I h;rw [exec_Assign_Name_used _ _ _ _ hsw];refine Xf (wpAny_standAt (Xf ?_));refine Xf (wpAny_comprehension_free (env:=X.env) (use:=some (assign (.Name x pos') X.env)) (g:=⟨tg,iter,ifs,0⟩) (gs:=[]) rfl hs (yH λ y hy e=>I.ok.has _ (S.frees y hy e)) S.kind S.locs ?_);refine thn (hit pins s σ H _ I h) λ v s1 h1=>thn h1 λ itv s2 h2=>?_
 obtain ⟨it,fp,tn,J,H2,e,I2,T,st2,f2,hr⟩:=h2;subst e;refine thn (qfd (iter:=iter) (pos:=cpos) (R:=λ r s'=>r=.ok .next/\wpAny (model X.prog X.w) X.A (assign (.Name x pos') X.env (.ref s2.heap.objs.size)) (λ _ s''=>∃ m,s''.heap.Ns (s2.heap.objs.size+1) m/\∀ h',Heap.SameBut (s2.heap.objs.size+1) s''.heap h'->SP X pins D .next { s'' with heap:=h' }) X.xe s')
  S I2 f2 st2 (λ C=>Turn.walk (Y:=zx X NY scope C s2 H2 fp pins) hc T (hg _ _ _ _ _)) (λ C=>ht _ _ _ _ _) (λ C=>he _ _ _ _ _) hr λ s4 H3 m hn I4 hf q=>⟨rfl,qbc (Q:=D.nx) (R:=SP X pins D) I2 hN hi hx (λ s H I q=>⟨_,H,I,q⟩) hn I4 hf q⟩) λ acc s3 h3=>thn h3 λ cenv s4 h4=>?_
 obtain ⟨rfl,eC,h4⟩:=h4;refine codeAny_mono h4 λ r s5 ⟨er,h5⟩=>?_
 subst er;show wpAny _ _ (assign (.Name x pos') X.env (.ref s2.heap.objs.size)) _ _ s5
 rw [eC];refine thn h5 λ _ s6 ⟨m,hn,h6⟩=>⟨m,hn,λ h' hs'=>?_⟩
 exact Xg (Xg (h6 h' hs'))
end
theorem qh.seqT {K:PySem.W.Frag} {H H':Hp} {a:Addr} {xs:List V} (e:qh H H') (h:SqT K H a xs):SqT K H' a xs:=by
 rcases h with (h | ⟨o,h⟩) | h
 ·exact .inl (.inl (e _ _ h))
 ·exact .inl (.inr ⟨o,e _ _ h⟩)
 ·exact .inr h
theorem qh.up {H:Hp} {p:Addr} (h:H p=none) {o:HO}:qh H (upd H p o):=qcH h o
theorem qh.to {H H1:Hp} {p:Addr} (s:qh H H1) (h:H1 p=none) {o:HO}:qh H (upd H1 p o):=s.trans (qcH h o)
theorem qh.at {H H1:Hp} {p:Addr} (s:qh H H1) (h:H p=none) {o:HO}:qh H (upd H1 p o):=λ b u q=>by rw [qx (zw q h)];exact s b u q
theorem qQ {X:Cx} {NY:List Str} {o:Nat} {caps:List Nat} {scope:Scope} (frees:List Str) (k:scope.kind=.function) (nd:NY.Nodup) (nc:scope.names.all (λ y=>y.2 != .cell)=true)
  (lc:scope.names.all (λ y=>y.2 != .local || scope.names.lookup y.1 == some .local)=true) (fr:scope.names.all (λ y=>y.2 != .free || frees.contains y.1)=true)
  (fk:∀ x∈frees,X.env.kindOf x=some .cell∨X.env.kindOf x=some .free) (cap:∀ (j i:Nat),caps[j]?=some i->∃ x,NY[o+j]?=some x/\X.N[i]?=some x/\scope.names.lookup x=some .free) (len:NY.length=o+caps.length):CompScope X NY o caps scope where
 kind:=k
 nd:=nd
 nocell:=λ y hy e=>by have:=List.all_eq_true.mp nc y hy;rw [e] at this;cases this
 frees:=λ y hy e=>by
  have:=List.all_eq_true.mp fr y hy
  rw [e] at this;exact fk _ (List.contains_iff_mem.mp this)
 locs:=λ y hy e=>by
  have:=List.all_eq_true.mp lc y hy
  rw [e] at this;simpa using this
 capOk:=cap
 len:=len
theorem vP {X:Cx} {NY:List Str} {o:Nat} {scope:Scope}:∀ (j i:Nat),([]:List Nat)[j]?=some i->∃ x,NY[o+j]?=some x/\X.N[i]?=some x/\scope.names.lookup x=some .free:=λ j i h=>by simp at h
theorem qcO {X:Cx} {NY:List Str} {o a:Nat} {as:List Nat} {scope:Scope} {x:Str} (h0:NY[o]?=some x) (h1:X.N[a]?=some x) (h2:scope.names.lookup x=some .free)
  (hr:∀ (j i:Nat),as[j]?=some i->∃ x,NY[o+1+j]?=some x/\X.N[i]?=some x/\scope.names.lookup x=some .free) :
  ∀ (j i:Nat),(a::as)[j]?=some i->∃ x,NY[o+j]?=some x/\X.N[i]?=some x/\scope.names.lookup x=some .free
 | 0,i,h=>by simp at h;subst h;exact ⟨x,h0,h1,h2⟩
 | j+1,i,h=>by
  obtain ⟨y,q⟩:=hr j i (by simpa using h);exact ⟨y,by rw [show o+(j+1)=o+1+j by omega];exact q.1,q.2⟩
theorem qb1 {o:Nat} {caps:List Nat} {adv:Adv} {stop:Nat->Hp->Prop} {tt:TT} {te:TE} {σ:St} {H1:Hp} {Q:VK} (n:Nat) (out:Nat->List V) (h0:out 0=[]) (hlen:∀ i,i < n->(out i).length < sizeLine)
  (turn:∀ (i:Nat) (H:Hp) (D:Addr) (Y:V->Hp->Prop) (Z:Hp->Prop),i < n->H1 D=none->H D=some (.lst (out i))->qh H1 H ->
   (∀ y H4,H4 D=some (.lst (out i))->qh H1 H4->out (i+1)=out i++[y]->Y y H4)->(∀ H3,H3 D=some (.lst (out i))->qh H1 H3->out (i+1)=out i->Z H3) ->
   adv i (stY o caps σ) H λ σ2 H2=>Kp o (stY o caps σ) σ2/\tt σ2 H2 λ b H3=>if b=true then te σ2 H3 Y else Z H3)
  (stp:∀ H,qh H1 H->stop n H) (fin:∀ (D:Addr) (H:Hp),H1 D=none->qh H1 H->H D=some (.lst (out n))->Q (.ref D) H):ji o caps adv stop tt te σ H1 Q:=by
 intro D hD;refine ⟨λ i m ys H=>m=n - i/\i<=n/\ys=out i/\H D=some (.lst (out i))/\qh H1 H,⟨n,by simp,Nat.zero_le _,h0.symm,by rw [h0];exact qe,qh.up hD⟩,?_⟩;rintro i m ys H ⟨rfl,hi,rfl,hH,sm⟩;by_cases hlt:i < n
 ·refine .inr (turn i H D _ _ hlt hD hH sm (λ y H4 e1 e2 e3=>⟨e1,hlen i hlt,n - (i+1),by omega,rfl,hlt,e3.symm,by rw [e3];exact qe,e2.at hD⟩) (λ H3 e1 e2 e3=>⟨n - (i+1),by omega,rfl,hlt,e3.symm,by rw [e3];exact e1,e2⟩))
 ·have e:i=n:=by omega
  subst e;exact .inl ⟨stp H sm,fin D H hD sm hH⟩
theorem kq {o:Nat} {caps:List Nat} {adv:Adv} {stop:Nat->Hp->Prop} {tt:TT} {te:TE} {σ:St} {H1:Hp} {Q:VK} (n:Nat) (R:Nat->List V->Hp->Prop) (h0:∀ D,H1 D=none->R 0 [] (upd H1 D (.lst []))) (hlen:∀ i ys H,i < n->R i ys H->ys.length < sizeLine)
  (turn:∀ (i:Nat) (ys:List V) (H:Hp) (D:Addr) (Y:V->Hp->Prop) (Z:Hp->Prop),i < n->H1 D=none->H D=some (.lst ys)->qh H1 H->R i ys H ->
   (∀ y H4,H4 D=some (.lst ys)->qh H1 H4->R (i+1) (ys++[y]) (upd H4 D (.lst (ys++[y])))->Y y H4)->(∀ H3,H3 D=some (.lst ys)->qh H1 H3->R (i+1) ys H3->Z H3) ->
   adv i (stY o caps σ) H λ σ2 H2=>Kp o (stY o caps σ) σ2/\tt σ2 H2 λ b H3=>if b=true then te σ2 H3 Y else Z H3)
  (stp:∀ H,qh H1 H->stop n H) (fin:∀ (D:Addr) (H:Hp) (ys:List V),H1 D=none->qh H1 H->H D=some (.lst ys)->R n ys H->Q (.ref D) H):ji o caps adv stop tt te σ H1 Q:=by
 intro D hD;refine ⟨λ i m ys H=>m=n - i/\i<=n/\H D=some (.lst ys)/\qh H1 H/\R i ys H,⟨n,by simp,Nat.zero_le _,qe,qh.up hD,h0 D hD⟩,?_⟩;rintro i m ys H ⟨rfl,hi,hH,sm,r⟩;by_cases hlt:i < n
 ·refine .inr (turn i ys H D _ _ hlt hD hH sm r (λ y H4 e1 e2 e3=>⟨e1,hlen i ys H hlt r,n - (i+1),by omega,rfl,hlt,qe,e2.at hD,e3⟩) (λ H3 e1 e2 e3=>⟨n - (i+1),by omega,rfl,hlt,e1,e2,e3⟩))
 ·have e:i=n:=by omega
  subst e;exact .inl ⟨stp H sm,fin D H ys hD sm hH r⟩
section
variable {K:PySem.W.Frag} {o:Nat} {caps:List Nat} {g:TG} {tg:TGs} {tt:TT} {te:TE} {σ:St} {H1:Hp} {Q:VK}
abbrev qg2 (o:Nat) (caps:List Nat) (σ:St) (tt:TT) (te:TE) (Y:V->Hp->Prop) (Z:Hp->Prop):St->Hp->Prop:=λ σ2 H2=>Kp o (stY o caps σ) σ2/\tt σ2 H2 λ b H3=>if b=true then te σ2 H3 Y else Z H3
theorem qbv {a:Addr} {xs:List V} (hx:SqL K H1 a xs) (out:Nat->List V) (h0:out 0=[]) (hlen:∀ i,i < xs.length->(out i).length < sizeLine)
  (turn:∀ (i:Nat) (x:V) (H:Hp) (D:Addr) (Y:V->Hp->Prop) (Z:Hp->Prop),xs[i]?=some x->H1 D=none->H D=some (.lst (out i))->qh H1 H ->
   (∀ y H4,H4 D=some (.lst (out i))->qh H1 H4->out (i+1)=out i++[y]->Y y H4)->(∀ H3,H3 D=some (.lst (out i))->qh H1 H3->out (i+1)=out i->Z H3)->g x (stY o caps σ) H (qg2 o caps σ tt te Y Z))
  (fin:∀ (D:Addr) (H:Hp),H1 D=none->qh H1 H->H D=some (.lst (out xs.length))->Q (.ref D) H):ji o caps (qe0 (Itl K a) g) (Itl K a).stop tt te σ H1 Q :=
 qb1 xs.length out h0 hlen (λ i H D Y Z hi hD hH sm hy hz=>⟨⟨xs,xs[i],sm.seq hx,Xb hi⟩,λ x H' ⟨e,hx'⟩=>by subst e;exact turn i x _ D Y Z (hx' xs (sm.seq hx)) hD hH sm hy hz⟩) (λ H sm=>⟨xs,sm.seq hx,Xe _⟩) fin
theorem qlO {a:Addr} {xs:List V} (hx:SqT K H1 a xs) (out:Nat->List V) (h0:out 0=[]) (hlen:∀ i,i < xs.length->(out i).length < sizeLine)
  (turn:∀ (i:Nat) (x:V) (H:Hp) (D:Addr) (Y:V->Hp->Prop) (Z:Hp->Prop),xs[i]?=some x->H1 D=none->H D=some (.lst (out i))->qh H1 H ->
   (∀ y H4,H4 D=some (.lst (out i))->qh H1 H4->out (i+1)=out i++[y]->Y y H4)->(∀ H3,H3 D=some (.lst (out i))->qh H1 H3->out (i+1)=out i->Z H3)->g x (stY o caps σ) H (qg2 o caps σ tt te Y Z))
  (fin:∀ (D:Addr) (H:Hp),H1 D=none->qh H1 H->H D=some (.lst (out xs.length))->Q (.ref D) H):ji o caps (qe0 (Itt K a) g) (Itt K a).stop tt te σ H1 Q :=
 qb1 xs.length out h0 hlen (λ i H D Y Z hi hD hH sm hy hz=>⟨⟨xs,xs[i],sm.seqT hx,Xb hi⟩,λ x H' ⟨e,hx'⟩=>by subst e;exact turn i x _ D Y Z (hx' xs (sm.seqT hx)) hD hH sm hy hz⟩) (λ H sm=>⟨xs,sm.seqT hx,Xe _⟩) fin
theorem qgj {n:Nat} {val:Nat->V} (out:Nat->List V) (h0:out 0=[]) (hlen:∀ i,i < n->(out i).length < sizeLine)
  (turn:∀ (i:Nat) (H:Hp) (D:Addr) (Y:V->Hp->Prop) (Z:Hp->Prop),i < n->H1 D=none->H D=some (.lst (out i))->qh H1 H ->
   (∀ y H4,H4 D=some (.lst (out i))->qh H1 H4->out (i+1)=out i++[y]->Y y H4)->(∀ H3,H3 D=some (.lst (out i))->qh H1 H3->out (i+1)=out i->Z H3)->g (val i) (stY o caps σ) H (qg2 o caps σ tt te Y Z))
  (fin:∀ (D:Addr) (H:Hp),H1 D=none->qh H1 H->H D=some (.lst (out n))->Q (.ref D) H):ji o caps (qe0 (ItV n val) g) (ItV n val).stop tt te σ H1 Q :=
 qb1 n out h0 hlen (λ i H D Y Z hi hD hH sm hy hz=>⟨hi,λ x H' ⟨e,ex⟩=>by subst e ex;exact turn i _ D Y Z hi hD hH sm hy hz⟩) (λ H sm=>rfl) fin
theorem qgk {a b:Addr} {xs ys:List V} (hx:SqL K H1 a xs) (hy:SqL K H1 b ys) (hl:xs.length=ys.length) (out:Nat->List V) (h0:out 0=[]) (hlen:∀ i,i < xs.length->(out i).length < sizeLine)
  (turn:∀ (i:Nat) (x y:V) (H:Hp) (D:Addr) (Y:V->Hp->Prop) (Z:Hp->Prop),xs[i]?=some x->ys[i]?=some y->H1 D=none->H D=some (.lst (out i))->qh H1 H ->
   (∀ y H4,H4 D=some (.lst (out i))->qh H1 H4->out (i+1)=out i++[y]->Y y H4)->(∀ H3,H3 D=some (.lst (out i))->qh H1 H3->out (i+1)=out i->Z H3)->tg [x,y] (stY o caps σ) H (qg2 o caps σ tt te Y Z))
  (fin:∀ (D:Addr) (H:Hp),H1 D=none->qh H1 H->H D=some (.lst (out xs.length))->Q (.ref D) H):ji o caps (qga (ItZ K a b) 2 tg) (ItZ K a b).stop tt te σ H1 Q :=
 qb1 xs.length out h0 hlen (λ i H D Y Z hi hD hH sm hy' hz=>⟨⟨xs,ys,xs[i],ys[i]'(by omega),sm.seq hx,sm.seq hy,Xb hi,Xb (by omega)⟩,λ zs H' ⟨e,x,y,ez,hx',hy''⟩=>by
  subst e ez;exact ⟨rfl,turn i x y _ D Y Z (hx' xs (sm.seq hx)) (hy'' ys (sm.seq hy)) hD hH sm hy' hz⟩⟩) (λ H sm=>⟨xs,ys,sm.seq hx,sm.seq hy,.inl (Xe _)⟩) fin
end
theorem zz {n:Nat} (h:n<=100000):n < sizeLine:=Nat.lt_of_le_of_lt h (by decide)
theorem qu {n:Nat} (h:n<=100000):n<=sizeLine:=Nat.le_of_lt (zz h)
theorem ql {α β:Type} {f:α->β} {l:List α} {i:Nat} {y:β} (h:(l.map f)[i]?=some y):∃ x,l[i]?=some x/\y=f x:=by
 rw [Xw] at h;cases e:l[i]? with
 | none=>rw [e] at h;cases h
 | some x=>rw [e] at h;exact ⟨x,rfl,(Xs h).symm⟩
theorem zg {α:Type} {l:List α} {i:Nat} {x:α} (h:l[i]?=some x):l.take (i+1)=l.take i++[x]:=by rw [List.take_succ,h];rfl
theorem yQ {α β:Type} {f:α->β} {l:List α} {i:Nat} {x:α} (h:l[i]?=some x):(l.take (i+1)).map f=(l.take i).map f++[f x]:=by rw [zg h,XA];rfl
theorem qaN {α β γ:Type} {f:α->β->γ} {as:List α} {bs:List β} {i:Nat} {a:α} {b:β} (h1:as[i]?=some a) (h2:bs[i]?=some b):(List.zipWith f as bs)[i]?=some (f a b):=by
 rw [List.getElem?_zipWith,h1,h2]
theorem jl {α:Type} {l:List α} {i:Nat} {x:α} (h:l[i]?=some x):i < l.length:=(List.getElem?_eq_some_iff.mp h).1
theorem qg3 (a b:Bool):(!decide (V.bl a=V.bl b))=(a != b):=by cases a <;> cases b <;> rfl
theorem zr (a b:List Nat):qj a++qj b=qj (a++b):=by
 show (⟨a.toArray++b.toArray⟩:Str)=⟨(a++b).toArray⟩
 rw [List.append_toArray]
theorem qw (a:List Nat):(qj a).length=a.length:=by
 show a.toArray.size=a.length
 simp
theorem ku (F:List (List Nat)):Txt.join ("":Str) (F.map qj)=qj F.flatten:=by
 show (⟨((F.map qj).drop 1).foldl (λ acc p=>acc++("":Str).cps++p.cps) ((F.map qj).headD Str.empty).cps⟩:Str)=qj F.flatten
 have e0:("":Str).cps=#[]:=by decide
 rw [e0];have gen:∀ (G:List (List Nat)) (acc:Array Nat),(G.map qj).foldl (λ acc p=>acc++#[]++p.cps) acc=acc++(G.flatten).toArray:=by
  intro G;induction G with
  | nil=>intro acc;simp
  | cons g G ih =>
   intro acc;rw [List.map_cons,List.foldl_cons,ih,List.flatten_cons];show acc++#[]++g.toArray++G.flatten.toArray=acc++(g++G.flatten).toArray
   simp
 cases F with
 | nil=>rfl
 | cons f F =>
  show (⟨(F.map qj).foldl (λ acc p=>acc++#[]++p.cps) f.toArray⟩:Str)=qj (f++F.flatten)
  rw [gen F f.toArray,List.append_toArray];rfl
theorem zK (F:List (List Nat)):F.map vS=(F.map qj).map V.str:=by rw [List.map_map];rfl
theorem qcP (F:List (List Nat)):(F.map qj).map cs=F:=by
 rw [List.map_map]
 have:cs ∘ qj=id:=rfl
 rw [this,List.map_id]
theorem qbd {a b:List Nat} (h:qj a=qj b):a=b:=congrArg cs h
theorem kz {F:List (List Nat)} {x:Str}:x∈F.map qj ↔ cs x∈F:=by
 rw [List.mem_map];constructor
 ·rintro ⟨a,ha,rfl⟩;exact ha
 ·intro h;exact ⟨cs x,h,rfl⟩
theorem kC (F:List (List Nat)):((F.map qj).map (·.length)).sum=F.flatten.length:=by
 induction F with
 | nil=>rfl
 | cons f F ih =>
  rw [List.map_cons,List.map_cons,List.sum_cons,ih,qw,List.flatten_cons,Xd]
theorem qeg {us:List Str} {F:List (List Nat)} (h1:us.Nodup) (h2:F.Nodup) (h:∀ x,x∈us ↔ cs x∈F):(qa4 us).map V.str=(Fs.srt F).map vS:=by
 unfold qa4;rw [zK];have hp:(us.map cs).Perm F:=by
  refine (List.perm_ext_iff_of_nodup ?_ h2).mpr λ p=>?_
  ·exact List.pairwise_map.mpr (h1.imp λ {a b} hab e=>hab (qgd e))
  ·rw [List.mem_map];constructor
   ·rintro ⟨x,hx,rfl⟩;exact (h x).mp hx
   ·intro hp;exact ⟨qj p,(h _).mpr hp,rfl⟩
 rw [Fs.srt_perm_eq hp]
theorem kH {us:List Str} {F:List (List Nat)} (h1:us.Nodup) (h2:F.Nodup) (h:∀ x,x∈us ↔ cs x∈F):us.length=F.length:=by
 have hp:(us.map cs).Perm F:=by
  refine (List.perm_ext_iff_of_nodup ?_ h2).mpr λ p=>?_
  ·exact List.pairwise_map.mpr (h1.imp λ {a b} hab e=>hab (qgd e))
  ·rw [List.mem_map];constructor
   ·rintro ⟨x,hx,rfl⟩;exact (h x).mp hx
   ·intro hp;exact ⟨qj p,(h _).mpr hp,rfl⟩
 rw [<- hp.length_eq,Xa]
end L2
namespace Fs
structure On (ls:List Nat) (F:List Pr):Prop where
 vf:Vf F
 mem:∀ p∈F,∀ c∈p,c∈ls
theorem On.sub {ls:List Nat} {F:List Pr} (h:On ls F) (hl:ls.Pairwise (· < ·)):∀ p∈F,p.Sublist ls:=λ p hp=>jU hl (h.vf.prod p hp) (h.mem p hp)
theorem On.len {ls:List Nat} {F:List Pr} (h:On ls F) (hl:ls.Pairwise (· < ·)):F.length<=2 ^ ls.length:=by
 rw [<- qL];exact je h.vf.nodup λ p hp=>zJ.mpr (h.sub hl p hp)
theorem On.added {ls:List Nat} {F G:List Pr} (hF:On ls F) (hG:On ls G):On ls (added F G):=⟨qeY hF.vf hG.vf,λ p hp=>by
 rcases vY.mp (qai.mp hp) with h | h
 ·exact hF.mem p h.1
 ·exact hG.mem p h.1⟩
theorem qcQ {ls:List Nat} {F:List Pr} (h:∀ p∈F,∀ c∈p,c∈ls):∀ c∈qJ F,c∈ls:=λ c hc=>by
 obtain ⟨p,hp,hc⟩:=jC.mp hc;exact h p hp c hc
theorem qfe {ls:List Nat} {F:List Pr} (hl:ls.Pairwise (· < ·)) (h:∀ p∈F,∀ c∈p,c∈ls):(qJ F).length<=ls.length :=
 (jU hl (zG F) (qcQ h)).length_le
theorem On.mult {ls:List Nat} {F G:List Pr} (hF:On ls F) (hG:On ls G):On ls (mult F G):=⟨qgW F G,λ p hp c hc=>by
 have:=(qcB hp).subset hc
 refine qcQ (F:=F++G) (λ q hq=>?_) c this;rcases List.mem_append.mp hq with h | h
 ·exact hF.mem q h
 ·exact hG.mem q h⟩
theorem On.one (ls:List Nat):On ls [[]]:=⟨qiy,by simp⟩
theorem On.nil (ls:List Nat):On ls []:=⟨qlF,by simp⟩
theorem On.opp {ls:List Nat} {F:List Pr} (hF:On ls F):On ls (opp F):=hF.added (On.one ls)
theorem On.join {ls:List Nat} {F G:List Pr} (hF:On ls F) (hG:On ls G):On ls (join F G):=(hF.added hG).added (hF.mult hG)
end Fs
namespace L2
open PySem PySem.Spec PyProof.Rows
section
variable {X:Cx}
def qlP (K:PySem.W.Frag):List V->Hp->VK->Prop:=λ xs H Q=>∃ (x:V) (T:String),xs=[x,.ty T]/\TyOf K H x (.type T)/\Q (.bl true) H
theorem kJ:jh X (.builtin "isinstance") (qlP X.K):=by
 intro pins s σ H xs us Q I r h;obtain ⟨x,T,rfl,ty,q⟩:=h;obtain ⟨u1,u2,rfl,r1,r2⟩:=qgS r;cases r2
 refine qhy (c:=.type T) I r1 ty (b:=true) ?_ λ tk=>⟨.bl true,H,I.tok tk,rfl,q⟩
 unfold W.kitOne;rw [if_pos (by simp)]
theorem jW:OpR X (compareOp .In) (λ x y H Q=>∃ (c:Nat) (p:List Nat),x=vS [c]/\y=vS p/\Q (.bl (decide (c∈p))) H):=by
 intro pins s σ H x y v u Q I rx ry h;obtain ⟨c,p,rfl,rfl,q⟩:=h;refine qhs pins s σ H _ _ v u Q I rx ry ⟨_,_,rfl,rfl,?_⟩;rw [show qj [c]=(⟨#[c]⟩:Str) from rfl,empty_one,Bool.not_not];exact q
theorem vt:OpR X (compareOp .NotIn) (λ x y H Q=>∃ (c:Nat) (p:List Nat),x=vS [c]/\y=vS p/\Q (.bl (!decide (c∈p))) H):=by
 intro pins s σ H x y v u Q I rx ry h;obtain ⟨c,p,rfl,rfl,q⟩:=h;refine qd5 pins s σ H _ _ v u Q I rx ry ⟨_,_,rfl,rfl,?_⟩;rw [show qj [c]=(⟨#[c]⟩:Str) from rfl,empty_one,Bool.not_not];exact q
end
structure Mk0 (K:PySem.W.Frag) (C:Addr):Prop where
 makes:W.makesIn K C=true
 init:W.findIn K (.ref C) "__init__"=some (some (.builtin "object.__init__"))
 kp:W.keepIn K (.ref C)=true
def qlQ (C:Addr):TE:=λ σ H Q=>∀ x dx,H x=none->H dx=none->dx≠x->Q (.ref x) (upd (upd H dx (.own x)) x (.ins C dx []))
theorem qff {X:Cx} {C:Addr} {x:Str} {p pos:Pos} (M:Mk0 X.K C) (hg:Gl X x) (hm:X.mg x=some (.ref C)) (hdb:(x == ("__debug__":Str))=false:=by decide):PE X (.Call (.Name x p) [] [] pos) (qlQ C):=by
 intro pins s σ H Q I h;refine wpAny_Call_Name_kw (qbW I hg hm ?_ hdb);refine W.callWith_K0 I.kIn M.kp (wpAny_call (qhw I.kIn M.makes M.init (λ self=>PySem.W.Looks.of_pure (W.oi_bind self)) ?_));have Y:=W.makes_of (M:=model X.prog X.w) I.kIn M.makes;have hx:((s.heap.push W.emptyDict).push (W.instObj C s.heap.objs.size)).get? (s.heap.objs.size+1)=some (W.instObj C s.heap.objs.size):=by
  rw [<- Heap.size_push s.heap W.emptyDict];exact Xk _ rfl
 have t1:PySem.W.Looks (model X.prog X.w) ((s.heap.push W.emptyDict).push (W.instObj C s.heap.objs.size)) (typeOf (.ref (s.heap.objs.size+1))) (.ref C):=(PySem.W.Looks.ld hx).andThen .now;have t2:PySem.W.Looks (model X.prog X.w) ((s.heap.push W.emptyDict).push (W.instObj C s.heap.objs.size)) (isInstance (.ref (s.heap.objs.size+1)) (.type "object")) true:=t1.andThen (Y.top.keeps λ b o e=>Xc _ (Xc _ e));refine codeAny_call_builtin W.oi_plain W.entry_oi (@W.check_slot (model X.prog X.w) _ _ _ "object.__init__" "object" "__init__" (.ref (s.heap.objs.size+1)) [] [] _ W.oi_kind W.oi_split t2 (W.oi_args _) ?_);rw [W.oi_run];have hq:=h (s.heap.objs.size+1) s.heap.objs.size (I.hok.fresh (Nat.le_succ _)) (I.hok.fresh (Xe _)) (Xo (Nat.lt_succ_self _));exact Xg (And.intro rfl ⟨.ref (s.heap.objs.size+1),_,Inv.made (C:=C) I,rfl,hq⟩)
theorem PE.or {X:Cx} {e:Expr} {t u:TE} (h:PE X e t) (h':PE X e u):PE X e (λ σ H Q=>t σ H Q∨u σ H Q):=λ pins s σ H Q I hw=>hw.elim (h pins s σ H Q I) (h' pins s σ H Q I)
def qmM (wi:TI2) (n:Nat) (t:TGs) (tb:TS):TS:=λ D σ H=>wi σ H λ J H1=>∃ W:Nat->Nat->St->Hp->Prop,(∃ m,W 0 m σ H1)/\∀ i m σ H,W i m σ H ->
 (J.stop i H/\D.nx σ H)∨(J.go i H/\∃ N:St->Hp->Prop,(∀ σ' H',N σ' H'->∃ m',m' < m/\W (i+1) m' σ' H')/\∀ xs H',J.yld i H xs H'->xs.length=n/\t xs σ H' λ σ2 H2=>tb { D with nx:=N,ct:=N,bk:=D.nx } σ2 H2)
theorem qeh {X:Cx} {es:List Expr} {k n:Nat} {tpos:Pos} {iter:Expr} {body:List Stmt} {wi:TI2} {t:TGs} {tb:TS} {pos:Pos} (hp:PassesOwn (model X.prog X.w) X.A X.env X.xe) (hc:X.calm=true) (hi:PI2 X (.Tuple es k tpos) iter wi) (hg:PGs X es t) (hb:PSs X body tb)
  (hn:(assignEach es X.env).length=n:=by rfl) (hst:(assignEach es X.env).findIdx? (·.1)=none:=by rfl) (hs:∀ x,foldedSetIterable iter X.env x=pure x:=by intro _;rfl):PS X (.For (.Tuple es k tpos) iter body [] pos) (qmM wi n t tb):=by
 intro pins s σ H D I h;refine wpAny_For (thn (hi pins s σ H _ I h) λ v s1 h1=>thn h1 λ itv s2 h2=>?_) hs;obtain ⟨it,fp,tn,J,H2,e,I2,T,st2,f2,W,⟨m0,w0⟩,turn⟩:=h2;subst e;have stat:∀ {H':Hp},(∀ b∈fp,H' b=none)->∀ b∈fp,jy X pins H' b:=λ hn b hb=>⟨hn b hb,(f2 b hb).2⟩
 refine codeAny_forLoop_any (λ n s'=>∃ i σ' H',Inv X pins σ' H' s'/\tn i s'.heap/\(∀ b∈fp,H' b=none)/\W i n σ' H') ?_ m0 ⟨0,σ,H2,I2,st2,λ b hb=>(f2 b hb).1,w0⟩;rintro n' s3 ⟨i,σ3,H3,I3,st3,fr3,w3⟩;rcases turn i n' σ3 H3 w3 with ⟨stop,qn⟩ | ⟨go,N,hN,step⟩
 ·refine wpAny_passesOwn hp (thn (T.done X rfl rfl rfl hc i pins s3 σ3 H3 X.xe I3 (stat fr3) st3 stop) λ r s4 ⟨hr,I4⟩=>?_);subst hr;exact wpAny_execs_nil ⟨σ3,H3,I4,qn⟩
 ·refine wpAny_passesOwn hp (thn (T.item X rfl rfl rfl hc i pins s3 σ3 H3 X.xe I3 (stat fr3) st3 go) λ r s4 ⟨p,hr,h4⟩=>?_);subst hr;refine wpAny_passesOwn hp (thn h4 λ _ s5 ⟨xs,us,H5,I5,ht,r5,y5,st5,fr5⟩=>?_);have I5':=I5.pinned (stat fr5) (T.obj _ _ st5);obtain ⟨hl,hw⟩:=step xs H5 y5;refine wpAny_passesOwn hp (assign_Tuple_tuple (I5.ok.hd hc) ht (by simp [hn,<- hl,r5.length]) hst λ h' hx=>?_);have I6:Inv X (pins++vT fp s5.heap) σ3 H5 { s5 with heap:=h' }:=I5'.kept (t':=s5.toks) λ b o e=>hx b o (Xo (Xm e)) e
  refine thn (hg _ _ σ3 H5 xs _ _ I6 (by simpa using r5) hw) λ _ s6 ⟨σ6,H6,I7,q6⟩=>?_
  refine wpAny_passesOwn hp (thn (hb _ s6 σ6 H6 _ I7 q6) λ f s7 q7=>?_);have again:∀ {σ7:St} {H7:Hp},Inv X (pins++vT fp s5.heap) σ7 H7 s7->N σ7 H7->∃ m,m < n'/\∃ i σ' H',Inv X pins σ' H' s7/\tn i s7.heap/\(∀ b∈fp,H' b=none)/\W i m σ' H':=λ {σ7 H7} I7 n7=>by
   obtain ⟨m',hm,w7⟩:=hN σ7 H7 n7;refine ⟨m',hm,i+1,σ7,H7,I7.unpinned,T.keep _ _ _ st5 λ b hb o e=>(I7.pin (b,o) (List.mem_append_right _ (List.mem_append_right _ (yD hb e)))).1,λ b hb=>?_,w7⟩;obtain ⟨o,e,d⟩:=T.obj _ _ st5 b hb;exact (I7.pin (b,o) (List.mem_append_right _ (List.mem_append_right _ (yD hb e)))).2.1
  cases f with
  | next=>obtain ⟨σ7,H7,I7,n7⟩:=q7;exact again I7 n7
  | cont=>obtain ⟨σ7,H7,I7,n7⟩:=q7;exact again I7 n7
  | brk=>obtain ⟨σ7,H7,I7,q7⟩:=q7;exact ⟨σ7,H7,I7.unpinned,q7⟩
  | ret v=>obtain ⟨x7,σ7,H7,I7,r7,q7⟩:=q7;exact ⟨x7,σ7,H7,I7.unpinned,r7,q7⟩
theorem qiT {K:PySem.W.Frag} {a:Addr} {xs:List V} {t:TGs} {tb:TS} {D:Ends} {σ:St} {H:Hp} (Pv:Nat->St->Hp->Prop) (h0:Pv 0 σ H) (hl:∀ i σ H,i<=xs.length->Pv i σ H->SqL K H a xs)
  (hs:∀ i x σ H,xs[i]?=some x->Pv i σ H->t [.int i,x] σ H λ σ2 H2=>tb { D with nx:=Pv (i+1),ct:=Pv (i+1),bk:=D.nx } σ2 H2) (hd:∀ σ H,Pv xs.length σ H->D.nx σ H) :
  ∃ W:Nat->Nat->St->Hp->Prop,(∃ m,W 0 m σ H)/\∀ i m σ H,W i m σ H ->
   ((qhG K a).stop i H/\D.nx σ H)∨((qhG K a).go i H/\∃ N:St->Hp->Prop,(∀ σ' H',N σ' H'->∃ m',m' < m/\W (i+1) m' σ' H')/\∀ zs H',(qhG K a).yld i H zs H'->zs.length=2/\t zs σ H' λ σ2 H2=>tb { D with nx:=N,ct:=N,bk:=D.nx } σ2 H2):=by
 refine ⟨λ i m σ H=>m=xs.length - i/\i<=xs.length/\Pv i σ H,⟨xs.length,by simp,Nat.zero_le _,h0⟩,?_⟩;rintro i m σ H ⟨rfl,hi,p⟩;have q:=hl i σ H hi p;by_cases hlt:i < xs.length
 ·refine .inr ⟨⟨xs,xs[i],q,Xb hlt⟩,Pv (i+1),λ σ' H' p'=>⟨xs.length - (i+1),by omega,rfl,hlt,p'⟩,λ zs H' y=>?_⟩;obtain ⟨e,x,ez,hx⟩:=y;subst e ez;exact ⟨rfl,hs i x σ _ (hx xs q) p⟩
 ·have e:i=xs.length:=by omega
  subst e;exact .inl ⟨⟨xs,q,Xe _⟩,hd σ H p⟩
end L2
namespace FsS
open PySem PyProof.Rows
def ky (κ:KeyKind) (x:Keyed):κ.α:=(κ.keyOf x.1).getD κ.dflt
def Kd (κ:KeyKind) (x:Keyed):Prop:=∃ a,κ.keyOf x.1=some a
theorem Kd.eq {κ:KeyKind} {x:Keyed} (h:Kd κ x):κ.keyOf x.1=some (ky κ x):=by
 obtain ⟨a,h⟩:=h;unfold ky;rw [h];rfl
def zQ:Bool->Keyed->Array Keyed->Nat->Nat->Nat->StateT SortSt Sem (Option Nat):=sortPriv% PySem.Builtin.gallop
def bey (left:Bool) (key:Keyed) (arr:Array Keyed) (base i:Nat):StateT SortSt Sem (Option Bool):=do
 let x <- elem' arr (base+i)
 if left then lt' x key else return (<- lt' key x).map (!·)
theorem qhO (left:Bool) (key:Keyed) (arr:Array Keyed) (base n hint:Nat):zQ left key arr base n hint=(do
 let mut u:=0
 let mut v:=1
 let mut p:=0
 let mut q:=0
 let some r <- bey left key arr base hint | return none
 if r then
  let m:=n - hint
  for _ in [0:n] do
   if v ≥ m then break
   let some c <- bey left key arr base (hint+v) | return none
   if !c then break
   u:=v
   v:=2 * v+1
  p:=hint+u+1
  q:=hint+min v m
 else
  let m:=hint+1
  for _ in [0:n] do
   if v ≥ m then break
   let some c <- bey left key arr base (hint - v) | return none
   if c then break
   u:=v
   v:=2 * v+1
  p:=hint+1 - min v m
  q:=hint - u
 for _ in [0:n] do
  if p ≥ q then break
  let c:=p+(q - p) / 2
  let some d <- bey left key arr base c | return none
  if d then p:=c+1 else q:=c
 return some q):=rfl
section
variable {prog:Program} {w:World} {A:Around} {E:Value->Shared->Prop} {s:Shared} {κ:KeyKind}
theorem qR {arr:Array Keyed} {i:Nat} {p:Keyed} {st:SortSt} {Q:Keyed->SortSt->Prop} (h:arr[i]?=some p) (hq:Q p st):wpS (model prog w) A E s (elem' arr i) Q st:=by
 rw [elem'_eq,h];exact wpS_pure hq
theorem qcR (hO:κ.OneLt) {x y:Keyed} {st:SortSt} {Q:Option Bool->SortSt->Prop} (hk:kindOf st=oneType') (hx:Kd κ x) (hy:Kd κ y) (hq:Q (some (κ.blt (ky κ x) (ky κ y))) st):wpS (model prog w) A E s (lt' x y) Q st:=by
 rw [lt'_eq];refine wpS_bind (wpS_get ?_);rw [hk,keyLt'_oneType];refine wpS_bind (wpS_lift (wpAny_attempt (hO prog w A _ s x.1 y.1 _ _ hx.eq hy.eq ⟨rfl,?_⟩)));exact wpS_pure hq
def Bt (κ:KeyKind) (left:Bool) (key x:Keyed):Bool:=if left then κ.blt (ky κ x) (ky κ key) else !(κ.blt (ky κ key) (ky κ x))
theorem qkr (hO:κ.OneLt) {left:Bool} {key x:Keyed} {arr:Array Keyed} {base i:Nat} {st:SortSt} {Q:Option Bool->SortSt->Prop} (hk:kindOf st=oneType') (hkey:Kd κ key) (e:arr[base+i]?=some x) (hx:Kd κ x)
  (hq:Q (some (Bt κ left key x)) st):wpS (model prog w) A E s (bey left key arr base i) Q st:=by
 unfold bey;refine wpS_bind (qR e ?_);cases left with
 | true=>exact qcR hO hk hx hkey hq
 | false=>exact wpS_bind (qcR hO hk hkey hx (wpS_pure hq))
theorem qgl {left:Bool} {key:Keyed} {arr:Array Keyed} {base n hint:Nat} {st:SortSt} {Q:Option Nat->SortSt->Prop} (B:Nat->Bool)
  (hb:∀ i,i < n->∀ R:Option Bool->SortSt->Prop,R (some (B i)) st->wpS (model prog w) A E s (bey left key arr base i) R st)
  (mono:∀ i j,i<=j->j < n->B j=true->B i=true) (hn:hint < n)
  (h:∀ k,k<=n->(∀ i,i < k->B i=true)->(∀ i,k<=i->i < n->B i=false)->Q (some k) st):wpS (model prog w) A E s (zQ left key arr base n hint) Q st:=by
 have anti:∀ i j,i<=j->j < n->B i=false->B j=false:=λ i j hij hj hi=>by
  cases hB:B j with
  | false=>rfl
  | true=>rw [mono i j hij hj hB] at hi;exact absurd hi (by simp)
 have fin:∀ p q:Nat,p<=q->q<=n->(∀ i,i < p->B i=true)->(∀ i,q<=i->i < n->B i=false) ->
   wpS (model prog w) A E s (do
    let mut p:=p
    let mut q:=q
    for _ in [0:n] do
     if p ≥ q then break
     let c:=p+(q - p) / 2
     let some d <- bey left key arr base c | return none
     if d then p:=c+1 else q:=c
    return some q) Q st:=by
  intro p q hpq hqn h1 h2;refine wpS_bind (wpS_mono (wpS_forRange (I:=λ x c st'=>st'=st/\∃ p q,c=(none,p,q)/\p<=q/\q<=n/\q - p<=n - x/\(∀ i,i < p->B i=true)/\(∀ i,q<=i->i < n->B i=false))
   (Q:=λ c st'=>st'=st/\∃ p q,c=(none,p,q)/\q<=p/\p<=q/\q<=n/\(∀ i,i < p->B i=true)/\(∀ i,q<=i->i < n->B i=false)) ?step ?fin ⟨rfl,p,q,rfl,hpq,hqn,by omega,h1,h2⟩) ?post)
  case post =>
   rintro c st' ⟨rfl,p,q,rfl,hqp,hpq,hqn,h1,h2⟩
   have:p=q:=by omega
   subst this;exact wpS_pure (h p hqn h1 h2)
  case fin =>
   rintro c st' ⟨rfl,p,q,rfl,hpq,hqn,hm,h1,h2⟩;exact ⟨rfl,p,q,rfl,by omega,hpq,hqn,h1,h2⟩
  case step =>
   rintro x c st' _ hx ⟨rfl,p,q,rfl,hpq,hqn,hm,h1,h2⟩;dsimp only;by_cases hge:p ≥ q
   ·rw [if_pos hge];exact wpS_pure ⟨rfl,p,q,rfl,hge,hpq,hqn,h1,h2⟩
   ·rw [if_neg hge];refine wpS_bind (hb _ (by omega) _ ?_);cases hB:B (p+(q - p) / 2) with
    | true =>
     simp only [if_true];exact wpS_pure ⟨rfl,_,q,rfl,by omega,hqn,by omega,λ i hi=>mono i _ (by omega) (by omega) hB,h2⟩
    | false =>
     simp only [Bool.false_eq_true,if_false];exact wpS_pure ⟨rfl,p,_,rfl,by omega,by omega,by omega,h1,λ i hi hin=>anti _ i hi hin hB⟩
 rw [qhO];refine wpS_bind (hb hint hn _ ?_);dsimp only;cases hB:B hint with
 | true =>
  simp only [if_true];refine wpS_bind (wpS_mono (wpS_forRange (I:=λ x c st'=>st'=st/\∃ u v,c=(none,u,v)/\u < v/\x < v/\hint+u < n/\B (hint+u)=true)
   (Q:=λ c st'=>st'=st/\∃ u v,c=(none,u,v)/\u < v/\hint+u < n/\B (hint+u)=true/\(n - hint<=v∨(hint+v < n/\B (hint+v)=false))) ?step ?fin ⟨rfl,0,1,rfl,by omega,by omega,by omega,hB⟩) ?post)
  case post =>
   rintro c st' ⟨rfl,u,v,rfl,huv,hun,hu,hv⟩;refine fin (hint+u+1) (hint+min v (n - hint)) (by omega) (by omega) (λ i hi=>mono i _ (by omega) hun hu) (λ i hi hin=>?_);rcases hv with hv | ⟨h1,h2⟩
   ·omega
   ·exact anti _ i (by omega) hin h2
  case fin =>
   rintro c st' ⟨rfl,u,v,rfl,huv,hxv,hun,hu⟩;exact ⟨rfl,u,v,rfl,huv,hun,hu,.inl (by omega)⟩
  case step =>
   rintro x c st' _ hx ⟨rfl,u,v,rfl,huv,hxv,hun,hu⟩;dsimp only;by_cases hge:v ≥ n - hint
   ·rw [if_pos hge];exact wpS_pure ⟨rfl,u,v,rfl,huv,hun,hu,.inl hge⟩
   ·rw [if_neg hge];refine wpS_bind (hb _ (by omega) _ ?_);cases hB2:B (hint+v) with
    | true =>
     simp only [Bool.not_true,Bool.false_eq_true,if_false];exact wpS_pure ⟨rfl,v,_,rfl,by omega,by omega,by omega,hB2⟩
    | false =>
     simp only [Bool.not_false,if_true];exact wpS_pure ⟨rfl,u,v,rfl,huv,hun,hu,.inr ⟨by omega,hB2⟩⟩
 | false =>
  simp only [Bool.false_eq_true,if_false];refine wpS_bind (wpS_mono (wpS_forRange (I:=λ x c st'=>st'=st/\∃ u v,c=(none,u,v)/\u < v/\x < v/\u<=hint/\B (hint - u)=false)
   (Q:=λ c st'=>st'=st/\∃ u v,c=(none,u,v)/\u < v/\u<=hint/\B (hint - u)=false/\(hint+1<=v∨(v<=hint/\B (hint - v)=true))) ?step ?fin ⟨rfl,0,1,rfl,by omega,by omega,by omega,hB⟩) ?post)
  case post =>
   rintro c st' ⟨rfl,u,v,rfl,huv,hun,hu,hv⟩;refine fin (hint+1 - min v (hint+1)) (hint - u) (by omega) (by omega) (λ i hi=>?_) (λ i hi hin=>anti _ i hi hin hu);rcases hv with hv | ⟨h1,h2⟩
   ·omega
   ·exact mono i _ (by omega) (by omega) h2
  case fin =>
   rintro c st' ⟨rfl,u,v,rfl,huv,hxv,hun,hu⟩;exact ⟨rfl,u,v,rfl,huv,hun,hu,.inl (by omega)⟩
  case step =>
   rintro x c st' _ hx ⟨rfl,u,v,rfl,huv,hxv,hun,hu⟩;dsimp only;by_cases hge:v ≥ hint+1
   ·rw [if_pos hge];exact wpS_pure ⟨rfl,u,v,rfl,huv,hun,hu,.inl hge⟩
   ·rw [if_neg hge];refine wpS_bind (hb _ (by omega) _ ?_);cases hB2:B (hint - v) with
    | false =>
     simp only [Bool.false_eq_true,if_false];exact wpS_pure ⟨rfl,v,_,rfl,by omega,by omega,by omega,hB2⟩
    | true =>
     simp only [if_true];exact wpS_pure ⟨rfl,u,v,rfl,huv,hun,hu,.inr ⟨by omega,hB2⟩⟩
end
structure MI {α:Type} (r:α->α->Prop) (la lb O:List α) (i j:Nat):Prop where
 sa:(O++la.drop i).Pairwise r
 sb:(O++lb.drop j).Pairwise r
 pm:(O++(la.drop i++lb.drop j)).Perm (la++lb)
theorem MI.takeA {α:Type} {r:α->α->Prop} {la lb O:List α} {i j i':Nat} (h:MI r la lb O i j) {X:List α} (e:la.drop i=X++la.drop i') (hx:∀ x∈X,∀ y∈lb.drop j,r x y):MI r la lb (O++X) i' j:=by
 have h1:=h.sa;rw [e,<- Xq] at h1;have h2:=List.pairwise_append.mp h.sb;refine ⟨h1,List.pairwise_append.mpr ⟨(List.pairwise_append.mp h1).1,h2.2.1,λ x hx' y hy=>?_⟩,?_⟩
 ·rcases List.mem_append.mp hx' with hO | hX
  ·exact h2.2.2 x hO y hy
  ·exact hx x hX y hy
 ·have:=h.pm
  rw [e] at this;simpa [Xq] using this
theorem MI.takeB {α:Type} {r:α->α->Prop} {la lb O:List α} {i j j':Nat} (h:MI r la lb O i j) {X:List α} (e:lb.drop j=X++lb.drop j') (hx:∀ x∈X,∀ y∈la.drop i,r x y):MI r la lb (O++X) i j':=by
 have h1:=h.sb;rw [e,<- Xq] at h1;have h2:=List.pairwise_append.mp h.sa;refine ⟨List.pairwise_append.mpr ⟨(List.pairwise_append.mp h1).1,h2.2.1,λ x hx' y hy=>?_⟩,h1,?_⟩
 ·rcases List.mem_append.mp hx' with hO | hX
  ·exact h2.2.2 x hO y hy
  ·exact hx x hX y hy
 ·have:=h.pm
  rw [e] at this;rw [Xq];exact ((List.perm_append_comm_assoc X (la.drop i) (lb.drop j')).append_left O).trans this
def Gd {α:Type} (r:α->α->Prop) (la lb:List α) (o:List α):Prop:=o.Pairwise r/\o.Perm (la++lb)
theorem MI.endB {α:Type} {r:α->α->Prop} {la lb O:List α} {i j:Nat} (h:MI r la lb O i j) (e:lb.length<=j):Gd r la lb (O++la.drop i++lb.drop j):=by
 have:=h.sa
 have hp:=h.pm;rw [List.drop_of_length_le e] at hp ⊢;rw [List.append_nil] at hp ⊢;exact ⟨this,hp⟩
theorem MI.endA {α:Type} {r:α->α->Prop} {la lb O:List α} {i j:Nat} (h:MI r la lb O i j) (e:la.length<=i):Gd r la lb (O++la.drop i++lb.drop j):=by
 have:=h.sb
 have hp:=h.pm;rw [List.drop_of_length_le e] at hp ⊢;rw [List.nil_append] at hp;rw [List.append_nil];exact ⟨this,hp⟩
theorem MI.last {α:Type} {r:α->α->Prop} {la lb O:List α} {i j:Nat} (h:MI r la lb O i j) (hl:∀ x∈la.drop i,∀ y∈lb,r y x):Gd r la lb (O++lb.drop j++la.drop i):=by
 have ha:=List.pairwise_append.mp h.sa;refine ⟨List.pairwise_append.mpr ⟨h.sb,ha.2.1,λ x hx y hy=>?_⟩,?_⟩
 ·rcases List.mem_append.mp hx with hO | hX
  ·exact ha.2.2 x hO y hy
  ·exact hl y hy x (List.mem_of_mem_drop hX)
 ·rw [Xq];exact ((List.perm_append_comm).append_left O).trans h.pm
theorem yk {α:Type} {l:List α} {i:Nat} {x:α} (h:l[i]?=some x):l.drop i=[x]++l.drop (i+1):=by
 obtain ⟨hi,e⟩:=List.getElem?_eq_some_iff.mp h;rw [List.drop_eq_getElem_cons hi,e];rfl
theorem drop_take {α:Type} (l:List α) (i k:Nat):l.drop i=(l.drop i).take k++l.drop (i+k):=by
 have:=(List.take_append_drop k (l.drop i)).symm
 rwa [List.drop_drop] at this
abbrev kl (κ:KeyKind) (x y:Keyed):Prop:=κ.kle (ky κ x) (ky κ y)
abbrev So (κ:KeyKind) (l:List Keyed):Prop:=l.Pairwise (kl κ)
section
variable {prog:Program} {w:World} {A:Around} {E:Value->Shared->Prop} {s:Shared} {κ:KeyKind}
theorem qks {left:Bool} {key x y:Keyed} (h:kl κ x y) (hy:Bt κ left key y=true):Bt κ left key x=true:=by
 cases left with
 | true=>exact KeyOrd.klt_of_kle_of_klt h hy
 | false =>
  have hy':κ.blt (ky κ key) (ky κ y)=false:=by simpa [Bt] using hy
  have:κ.kle (ky κ x) (ky κ key):=KeyOrd.kle_trans h hy'
  show (!(κ.blt (ky κ key) (ky κ x)))=true
  rw [show κ.blt (ky κ key) (ky κ x)=false from this];rfl
theorem BtF {key x:Keyed} (h:Bt κ false key x=true):kl κ x key:=by
 have:κ.blt (ky κ key) (ky κ x)=false:=by simpa [Bt] using h
 exact this
theorem qlR {key x:Keyed} (h:Bt κ false key x=false):kl κ key x:=by
 have:κ.blt (ky κ key) (ky κ x)=true:=by simpa [Bt] using h
 exact KeyOrd.kle_of_klt this
theorem BtT {key x:Keyed} (h:Bt κ true key x=true):kl κ x key:=KeyOrd.kle_of_klt h
theorem qkt {key x:Keyed} (h:Bt κ true key x=false):kl κ key x:=h
theorem yl (hO:κ.OneLt) {left:Bool} {key:Keyed} {arr:Array Keyed} {base n hint:Nat} {st:SortSt} {Q:Option Nat->SortSt->Prop} (seg:List Keyed) (es:(arr.toList.drop base).take n=seg) (hk:kindOf st=oneType') (hkey:Kd κ key)
  (hs:base+n<=arr.size) (hd:∀ x∈seg,Kd κ x) (so:So κ seg) (hn:hint < n)
  (h:∀ k,k<=n->(∀ x∈seg.take k,Bt κ left key x=true)->(∀ x∈seg.drop k,Bt κ left key x=false)->Q (some k) st):wpS (model prog w) A E s (zQ left key arr base n hint) Q st:=by
 have ln:seg.length=n:=by rw [<- es,Xi,List.length_drop,Xh];omega
 have at_:∀ i,(hi:i < n)->arr[base+i]?=some (seg[i]'(by omega)):=λ i hi=>by
  have:seg[i]?=some (seg[i]'(by omega)):=Xb _
  rw [<- this,<- es,List.getElem?_take_of_lt hi,List.getElem?_drop,Array.getElem?_toList]
 refine qgl (λ i=>if hi:i < n then Bt κ left key (seg[i]'(by omega)) else false) ?_ ?_ hn ?_
 ·intro i hi R hR;rw [dif_pos hi] at hR;exact qkr hO hk hkey (at_ i hi) (hd _ (List.getElem_mem _)) hR
 ·intro i j hij hj hB;rw [dif_pos hj] at hB;rw [dif_pos (by omega)];rcases Nat.lt_or_ge i j with hlt | hge
  ·exact qks (List.pairwise_iff_getElem.mp so i j (by omega) (by omega) hlt) hB
  ·have:i=j:=by omega
   subst this;exact hB
 ·intro k hk1 h1 h2;refine h k hk1 (λ x hx=>?_) (λ x hx=>?_)
  ·obtain ⟨i,hi,rfl⟩:=List.getElem_of_mem hx;rw [Xi] at hi
   have:=h1 i (by omega)
   rw [dif_pos (by omega)] at this;rw [List.getElem_take];exact this
  ·obtain ⟨i,hi,rfl⟩:=List.getElem_of_mem hx;rw [List.length_drop] at hi
   have:=h2 (k+i) (by omega) (by omega)
   rw [dif_pos (by omega)] at this;rw [List.getElem_drop];exact this
end
abbrev vv (st:SortSt) (g:Nat):SortSt:=SortSt.mk' (kindOf st) (arrOf st) (pendingOf st) g (failedOf st)
abbrev SM:=StateT SortSt Sem
def qcS:Array Keyed->Array Keyed->SM (Array Keyed):=sortPriv% PySem.Builtin.mergeLo
def qhP (g:Nat):SM Unit:=modify λ st=>vv st g
def kK (a b o:Array Keyed) (i j:Nat):Array Keyed:=o++a.extract i a.size++b.extract j b.size
def qei (a b o:Array Keyed) (i j:Nat):Array Keyed:=o++b.extract j b.size++a.extract i a.size
abbrev C1:=Option (Array Keyed)×Array Keyed×Nat×Nat×Nat×Nat
abbrev C2:=Option (Array Keyed)×Array Keyed×Nat×Nat×Nat×Nat×Nat
abbrev C0:=Option (Array Keyed)×Array Keyed×Nat×Nat×Nat
def lo3 (a b o:Array Keyed) (i j g p q:Nat):SM (ForInStep C2):=do
 let x <- elem' a i
 if i+1+1 == a.size then pure (.done (some (qei a b (o.push x) (i+1) j),o.push x,i+1,j,g,p,q))
 else if p < 7 && q < 7 then pure (.done (none,o.push x,i+1,j,g,p,q))
 else pure (.yield (none,o.push x,i+1,j,g,p,q))
def lo2 (a b o:Array Keyed) (i j g p q:Nat):SM (ForInStep C2):=do
 let x <- elem' b j
 if j+1 == b.size then pure (.done (some (kK a b (o.push x) i (j+1)),o.push x,i,j+1,g,p,q))
 else do
  let y <- elem' a i
  let c <- zQ true y b (j+1) (b.size - (j+1)) 0
  match c with
  | some k =>
   if k > 0 then
    if j+1+k == b.size then pure (.done (some (kK a b (o.push x++b.extract (j+1) (j+1+k)) i (j+1+k)),o.push x++b.extract (j+1) (j+1+k),i,j+1+k,g,p,k))
    else lo3 a b (o.push x++b.extract (j+1) (j+1+k)) i (j+1+k) g p k
   else lo3 a b (o.push x) i (j+1) g p k
  | _=>pure (.done (some (kK a b (o.push x) i (j+1)),o.push x,i,j+1,g,p,q))
def lo1 (a b o:Array Keyed) (i j g p q:Nat):SM (ForInStep C2):=do
 qhP g
 let x <- elem' b j
 let c <- zQ false x a i (a.size - i) 0
 match c with
 | some k =>
  if k > 0 then
   if i+k+1 == a.size then pure (.done (some (qei a b (o++a.extract i (i+k)) (i+k) j),o++a.extract i (i+k),i+k,j,g,k,q))
   else if i+k == a.size then pure (.done (some (kK a b (o++a.extract i (i+k)) (i+k) j),o++a.extract i (i+k),i+k,j,g,k,q))
   else lo2 a b (o++a.extract i (i+k)) (i+k) j g k q
  else lo2 a b o i j g k q
 | _=>pure (.done (some (kK a b o i j),o,i,j,g,p,q))
def lo0 (a b:Array Keyed) (g:Nat) (r:C1):SM (ForInStep C1):=do
 let y <- elem' b r.2.2.2.1
 let x <- elem' a r.2.2.1
 let c <- lt' y x
 match c with
 | some c =>
  if c then do
   let z <- elem' b r.2.2.2.1
   if r.2.2.2.1+1 == b.size then pure (.done (some (kK a b (r.2.1.push z) r.2.2.1 (r.2.2.2.1+1)),r.2.1.push z,r.2.2.1,r.2.2.2.1+1,0,r.2.2.2.2.2+1))
   else if r.2.2.2.2.2+1 ≥ g then pure (.done (none,r.2.1.push z,r.2.2.1,r.2.2.2.1+1,0,r.2.2.2.2.2+1))
   else pure (.yield (none,r.2.1.push z,r.2.2.1,r.2.2.2.1+1,0,r.2.2.2.2.2+1))
  else do
   let z <- elem' a r.2.2.1
   if r.2.2.1+1+1 == a.size then pure (.done (some (qei a b (r.2.1.push z) (r.2.2.1+1) r.2.2.2.1),r.2.1.push z,r.2.2.1+1,r.2.2.2.1,r.2.2.2.2.1+1,0))
   else if r.2.2.2.2.1+1 ≥ g then pure (.done (none,r.2.1.push z,r.2.2.1+1,r.2.2.2.1,r.2.2.2.2.1+1,0))
   else pure (.yield (none,r.2.1.push z,r.2.2.1+1,r.2.2.2.1,r.2.2.2.2.1+1,0))
 | _=>pure (.done (some (kK a b r.2.1 r.2.2.1 r.2.2.2.1),r.2.1,r.2.2.1,r.2.2.2.1,r.2.2.2.2.1,r.2.2.2.2.2))
theorem qgm (a b:Array Keyed):qcS a b=(do
 rule "list.sort.merge-lo"
 let t:=a.size+b.size
 let mut o:Array Keyed:=#[<- elem' b 0]
 let mut i:=0
 let mut j:=1
 if j == b.size then return kK a b o i j
 if i+1 == a.size then return qei a b o i j
 let mut g:=gallopOf (<- get)
 for _ in [0:t] do
  let mut p:=0
  let mut q:=0
  for _ in [0:t] do
   let some c <- lt' (<- elem' b j) (<- elem' a i) | return kK a b o i j
   if c then
    o:=o.push (<- elem' b j);j:=j+1;q:=q+1;p:=0
    if j == b.size then return kK a b o i j
    if q ≥ g then break
   else
    o:=o.push (<- elem' a i);i:=i+1;p:=p+1;q:=0
    if i+1 == a.size then return qei a b o i j
    if p ≥ g then break
  rule "list.sort.gallop"
  g:=g+1
  for _ in [0:t] do
   if g > 1 then g:=g - 1
   qhP g
   let some k <- zQ false (<- elem' b j) a i (a.size - i) 0 | return kK a b o i j
   p:=k
   if k > 0 then
    o:=o++a.extract i (i+k);i:=i+k
    if i+1 == a.size then return qei a b o i j
    if i == a.size then return kK a b o i j
   o:=o.push (<- elem' b j);j:=j+1
   if j == b.size then return kK a b o i j
   let some k <- zQ true (<- elem' a i) b j (b.size - j) 0 | return kK a b o i j
   q:=k
   if k > 0 then
    o:=o++b.extract j (j+k);j:=j+k
    if j == b.size then return kK a b o i j
   o:=o.push (<- elem' a i);i:=i+1
   if i+1 == a.size then return qei a b o i j
   if p < 7 && q < 7 then break
  g:=g+1
  qhP g
 unsupported "internal:list.sort.merge-bound"):=rfl
def Ok {γ:Type} (κ:KeyKind) (a b:Array Keyed) (st:SortSt) (m:Nat) (c:Option (Array Keyed)×Array Keyed×Nat×Nat×γ) (st':SortSt):Prop :=
 (∃ g,st'=vv st g)/\((∃ r,c.1=some r/\Gd (kl κ) a.toList b.toList r.toList)∨(c.1=none/\MI (kl κ) a.toList b.toList c.2.1.toList c.2.2.1 c.2.2.2.1/\c.2.2.1+1 < a.size/\c.2.2.2.1 < b.size/\m<=c.2.2.1+c.2.2.2.1))
def qbw {γ:Type} (κ:KeyKind) (a b:Array Keyed) (st:SortSt) (m:Nat):ForInStep (Option (Array Keyed)×Array Keyed×Nat×Nat×γ)->SortSt->Prop
 | .done c,st'=>Ok κ a b st m c st'
 | .yield c,st'=>Ok κ a b st m c st'/\c.1=none
theorem qb2 (a:Array Keyed) (i:Nat):(a.extract i a.size).toList=a.toList.drop i:=by
 rw [Array.toList_extract,List.extract_eq_take_drop];exact Xr (by rw [List.length_drop,Xh];exact Xe _)
theorem qfg (a:Array Keyed) (i k:Nat):(a.extract i (i+k)).toList=(a.toList.drop i).take k:=by
 rw [Array.toList_extract,List.extract_eq_take_drop,Nat.add_sub_cancel_left]
theorem qcT (a b o:Array Keyed) (i j:Nat):(kK a b o i j).toList=o.toList++a.toList.drop i++b.toList.drop j:=by
 unfold kK;rw [Array.toList_append,Array.toList_append,qb2,qb2]
theorem qej (a b o:Array Keyed) (i j:Nat):(qei a b o i j).toList=o.toList++b.toList.drop j++a.toList.drop i:=by
 unfold qei;rw [Array.toList_append,Array.toList_append,qb2,qb2]
theorem qbe {a:Array Keyed} {i:Nat} (h:i < a.size):a.toList[i]?=some a[i]:=by
 rw [Array.getElem?_toList];exact getElem?_pos a i h
section
variable {prog:Program} {w:World} {A:Around} {E:Value->Shared->Prop} {s:Shared} {κ:KeyKind} {a b:Array Keyed} {st:SortSt}
variable (hO:κ.OneLt) (hk:kindOf st=oneType') (ka:∀ x∈a.toList,Kd κ x) (kb:∀ x∈b.toList,Kd κ x) (hl:∀ x∈a.toList.drop (a.size - 1),∀ y∈b.toList,kl κ y x)
include hO hk ka kb hl
theorem qb3 {i:Nat} (e:i+1=a.size):∀ x∈a.toList.drop i,∀ y∈b.toList,kl κ y x:=by
 have:a.size - 1=i:=by omega
 rw [<- this];exact hl
theorem MI.headA {O:List Keyed} {i j:Nat} (m:MI (kl κ) a.toList b.toList O i j) (hi:i < a.size):∀ y∈a.toList.drop i,kl κ a[i] y:=by
 have:=(List.pairwise_append.mp m.sa).2.1
 rw [yk (qbe hi)] at this ⊢;intro y hy;rcases List.mem_append.mp hy with h | h
 ·rw [List.mem_singleton.mp h];exact KeyOrd.kle_refl _
 ·exact (List.pairwise_cons.mp this).1 y h
theorem MI.headB {O:List Keyed} {i j:Nat} (m:MI (kl κ) a.toList b.toList O i j) (hj:j < b.size):∀ y∈b.toList.drop j,kl κ b[j] y:=by
 have:=(List.pairwise_append.mp m.sb).2.1
 rw [yk (qbe hj)] at this ⊢;intro y hy;rcases List.mem_append.mp hy with h | h
 ·rw [List.mem_singleton.mp h];exact KeyOrd.kle_refl _
 ·exact (List.pairwise_cons.mp this).1 y h
theorem qiU {o:Array Keyed} {i j g p q m:Nat} {st':SortSt} (hs:∃ g,st'=vv st g) (mi:MI (kl κ) a.toList b.toList o.toList i j) (hi:i+1 < a.size) (hj:j < b.size) (hm:m<=i+j)
  (hx:∀ y∈b.toList.drop j,kl κ a[i] y):wpS (model prog w) A E s (lo3 a b o i j g p q) (qbw κ a b st m) st':=by
 unfold lo3;refine wpS_bind (qR (p:=a[i]) (getElem?_pos a i (by omega)) ?_);have mi':MI (kl κ) a.toList b.toList (o.push a[i]).toList (i+1) j:=by
  rw [Array.toList_push];exact mi.takeA (yk (qbe (by omega))) (λ x hx' y hy=>by rw [List.mem_singleton.mp hx'];exact hx y hy)
 by_cases h1:i+1+1=a.size
 ·rw [if_pos (by simpa using h1)];refine wpS_pure ⟨hs,.inl ⟨_,rfl,?_⟩⟩;rw [qej];exact mi'.last (qb3 hO hk ka kb hl h1)
 ·rw [if_neg (by simpa using h1)];by_cases h2:(decide (p < 7) && decide (q < 7))=true
  ·rw [if_pos h2];exact wpS_pure ⟨hs,.inr ⟨rfl,mi',by show i+1+1 < a.size;omega,hj,by show m<=i+1+j;omega⟩⟩
  ·rw [if_neg h2];exact wpS_pure ⟨⟨hs,.inr ⟨rfl,mi',by show i+1+1 < a.size;omega,hj,by show m<=i+1+j;omega⟩⟩,rfl⟩
theorem qiV {o:Array Keyed} {i j g p q m:Nat} {st':SortSt} (hs:∃ g,st'=vv st g) (mi:MI (kl κ) a.toList b.toList o.toList i j) (hi:i+1 < a.size) (hj:j < b.size) (hm:m<=i+j)
  (hx:∀ y∈a.toList.drop i,kl κ b[j] y):wpS (model prog w) A E s (lo2 a b o i j g p q) (qbw κ a b st m) st':=by
 unfold lo2;refine wpS_bind (qR (p:=b[j]) (getElem?_pos b j (by omega)) ?_);have mi':MI (kl κ) a.toList b.toList (o.push b[j]).toList i (j+1):=by
  rw [Array.toList_push];exact mi.takeB (yk (qbe (by omega))) (λ x hx' y hy=>by rw [List.mem_singleton.mp hx'];exact hx y hy)
 by_cases h1:j+1=b.size
 ·rw [if_pos (by simpa using h1)];refine wpS_pure ⟨hs,.inl ⟨_,rfl,?_⟩⟩;rw [qcT];exact mi'.endB (by rw [Xh];omega)
 ·rw [if_neg (by simpa using h1)];refine wpS_bind (qR (p:=a[i]) (getElem?_pos a i (by omega)) ?_);have hk':kindOf st'=oneType':=by obtain ⟨g,rfl⟩:=hs;exact hk
  refine wpS_bind (yl hO (b.toList.drop (j+1)) (Xr (by rw [List.length_drop,Xh];exact Xe _)) hk' (ka _ (by simp)) (by omega) (λ x hx=>kb x (List.mem_of_mem_drop hx)) ((List.pairwise_append.mp mi'.sb).2.1) (by omega) λ k hk1 k1 k2=>?_);have ha:=mi.headA hO hk ka kb hl (show i < a.size by omega);have mk:MI (kl κ) a.toList b.toList (o.push b[j]++b.extract (j+1) (j+1+k)).toList i (j+1+k):=by
   rw [Array.toList_append,qfg];exact mi'.takeB (drop_take _ _ _) λ x hx y hy=>KeyOrd.kle_trans (BtT (k1 x hx)) (ha y hy)
  have hx3:∀ y∈b.toList.drop (j+1+k),kl κ a[i] y:=λ y hy=>qkt (k2 y (by rw [List.drop_drop];exact hy))
  dsimp only;by_cases hk0:k > 0
  ·rw [if_pos hk0];by_cases h3:j+1+k=b.size
   ·rw [if_pos (by simpa using h3)];refine wpS_pure ⟨hs,.inl ⟨_,rfl,?_⟩⟩;rw [qcT];exact mk.endB (by rw [Xh];omega)
   ·rw [if_neg (by simpa using h3)];exact qiU hO hk ka kb hl hs mk hi (by omega) (by omega) hx3
  ·rw [if_neg hk0]
   have:k=0:=by omega
   subst this;exact qiU hO hk ka kb hl hs mi' hi (by omega) (by omega) hx3
theorem qiW {o:Array Keyed} {i j g p q m:Nat} {st':SortSt} (hs:∃ g,st'=vv st g) (mi:MI (kl κ) a.toList b.toList o.toList i j) (hi:i+1 < a.size) (hj:j < b.size) (hm:m<=i+j):wpS (model prog w) A E s (lo1 a b o i j g p q) (qbw κ a b st m) st':=by
 unfold lo1;refine wpS_bind (wpS_modify ?_);have hs':∃ g',vv st' g=vv st g':=by obtain ⟨g1,rfl⟩:=hs;exact ⟨g,rfl⟩
 have hk':kindOf (vv st' g)=oneType':=by obtain ⟨g1,rfl⟩:=hs;exact hk
 refine wpS_bind (qR (p:=b[j]) (getElem?_pos b j (by omega)) ?_);refine wpS_bind (yl hO (a.toList.drop i) (Xr (by rw [List.length_drop,Xh];exact Xe _)) hk' (kb _ (by simp)) (by omega) (λ x hx=>ka x (List.mem_of_mem_drop hx)) ((List.pairwise_append.mp mi.sa).2.1) (by omega) λ k hk1 k1 k2=>?_);have hb:=mi.headB hO hk ka kb hl hj;have mk:MI (kl κ) a.toList b.toList (o++a.extract i (i+k)).toList (i+k) j:=by
  rw [Array.toList_append,qfg];exact mi.takeA (drop_take _ _ _) λ x hx y hy=>KeyOrd.kle_trans (BtF (k1 x hx)) (hb y hy)
 have hx2:∀ y∈a.toList.drop (i+k),kl κ b[j] y:=λ y hy=>qlR (k2 y (by rw [List.drop_drop];exact hy))
 dsimp only;by_cases hk0:k > 0
 ·rw [if_pos hk0];by_cases h3:i+k+1=a.size
  ·rw [if_pos (by simpa using h3)];refine wpS_pure ⟨hs',.inl ⟨_,rfl,?_⟩⟩;rw [qej];exact mk.last (qb3 hO hk ka kb hl h3)
  ·rw [if_neg (by simpa using h3)];by_cases h4:i+k=a.size
   ·rw [if_pos (by simpa using h4)];refine wpS_pure ⟨hs',.inl ⟨_,rfl,?_⟩⟩;rw [qcT];exact mk.endA (by rw [Xh];omega)
   ·rw [if_neg (by simpa using h4)];exact qiV hO hk ka kb hl hs' mk (by omega) hj (by omega) hx2
 ·rw [if_neg hk0]
  have:k=0:=by omega
  subst this;exact qiV hO hk ka kb hl hs' mi hi hj hm hx2
theorem qlS {g:Nat} {r:C1} {m:Nat} {st':SortSt} (ok:Ok κ a b st m r st') (hn:r.1=none):wpS (model prog w) A E s (lo0 a b g r) (qbw κ a b st (m+1)) st':=by
 obtain ⟨v,o,i,j,p,q⟩:=r;obtain ⟨hs,⟨r,h1,h2⟩ | ⟨_,mi,hi,hj,hm⟩⟩:=ok
 ·rw [hn] at h1;cases h1
 change MI (kl κ) a.toList b.toList o.toList i j at mi
 change i+1 < a.size at hi
 change j < b.size at hj
 change m<=i+j at hm
 unfold lo0;dsimp only;have hk':kindOf st'=oneType':=by obtain ⟨g,rfl⟩:=hs;exact hk
 refine wpS_bind (qR (p:=b[j]) (getElem?_pos b j (by omega)) ?_);refine wpS_bind (qR (p:=a[i]) (getElem?_pos a i (by omega)) ?_);refine wpS_bind (qcR hO hk' (kb _ (by simp)) (ka _ (by simp)) ?_);dsimp only;cases hc:κ.blt (ky κ b[j]) (ky κ a[i]) with
 | true =>
  rw [if_pos rfl];refine wpS_bind (qR (p:=b[j]) (getElem?_pos b j (by omega)) ?_);have ha:=mi.headA hO hk ka kb hl (show i < a.size by omega);have mi':MI (kl κ) a.toList b.toList (o.push b[j]).toList i (j+1):=by
   rw [Array.toList_push];exact mi.takeB (yk (qbe (by omega))) (λ x hx' y hy=>by rw [List.mem_singleton.mp hx'];exact KeyOrd.kle_trans (KeyOrd.kle_of_klt hc) (ha y hy))
  by_cases h1:j+1=b.size
  ·rw [if_pos (by simpa using h1)];refine wpS_pure ⟨hs,.inl ⟨_,rfl,?_⟩⟩;rw [qcT];exact mi'.endB (by rw [Xh];omega)
  ·rw [if_neg (by simpa using h1)];by_cases h2:q+1 ≥ g
   ·rw [if_pos h2];exact wpS_pure ⟨hs,.inr ⟨rfl,mi',hi,by show j+1 < b.size;omega,by show m+1<=i+(j+1);omega⟩⟩
   ·rw [if_neg h2];exact wpS_pure ⟨⟨hs,.inr ⟨rfl,mi',hi,by show j+1 < b.size;omega,by show m+1<=i+(j+1);omega⟩⟩,rfl⟩
 | false =>
  rw [if_neg (by simp)];refine wpS_bind (qR (p:=a[i]) (getElem?_pos a i (by omega)) ?_);have hb:=mi.headB hO hk ka kb hl hj;have mi':MI (kl κ) a.toList b.toList (o.push a[i]).toList (i+1) j:=by
   rw [Array.toList_push];exact mi.takeA (yk (qbe (by omega))) (λ x hx' y hy=>by rw [List.mem_singleton.mp hx'];exact KeyOrd.kle_trans hc (hb y hy))
  by_cases h1:i+1+1=a.size
  ·rw [if_pos (by simpa using h1)];refine wpS_pure ⟨hs,.inl ⟨_,rfl,?_⟩⟩;rw [qej];exact mi'.last (qb3 hO hk ka kb hl h1)
  ·rw [if_neg (by simpa using h1)];by_cases h2:p+1 ≥ g
   ·rw [if_pos h2];exact wpS_pure ⟨hs,.inr ⟨rfl,mi',by show i+1+1 < a.size;omega,hj,by show m+1<=i+1+j;omega⟩⟩
   ·rw [if_neg h2];exact wpS_pure ⟨⟨hs,.inr ⟨rfl,mi',by show i+1+1 < a.size;omega,hj,by show m+1<=i+1+j;omega⟩⟩,rfl⟩
end
section
variable {prog:Program} {w:World} {A:Around} {E:Value->Shared->Prop} {s:Shared} {κ:KeyKind} {a b:Array Keyed} {st:SortSt}
theorem Ok.mono {γ:Type} {m m':Nat} {c:Option (Array Keyed)×Array Keyed×Nat×Nat×γ} {st':SortSt} (h:Ok κ a b st m c st') (hm:m'<=m):Ok κ a b st m' c st':=by
 obtain ⟨hs,h | ⟨h1,h2,h3,h4,h5⟩⟩:=h
 ·exact ⟨hs,.inl h⟩
 ·exact ⟨hs,.inr ⟨h1,h2,h3,h4,Nat.le_trans hm h5⟩⟩
theorem qfh (hO:κ.OneLt) {Q:Array Keyed->SortSt->Prop} (hk:kindOf st=oneType') (ka:∀ x∈a.toList,Kd κ x) (kb:∀ x∈b.toList,Kd κ x)
  (h0:MI (kl κ) a.toList b.toList [] 0 0) (a1:0 < a.size) (b1:0 < b.size) (hd:∀ y∈a.toList,kl κ b[0] y) (hl:∀ x∈a.toList.drop (a.size - 1),∀ y∈b.toList,kl κ y x)
  (h:∀ (o:Array Keyed) (g:Nat),Gd (kl κ) a.toList b.toList o.toList->Q o (vv st g)):wpS (model prog w) A E s (qcS a b) Q st:=by
 rw [qgm];refine wpS_bind (wpS_lift (wpAny_rule ⟨rfl,?_⟩));refine wpS_bind (qR (p:=b[0]) (getElem?_pos b 0 b1) ?_);dsimp only;have mi:MI (kl κ) a.toList b.toList (#[b[0]]:Array Keyed).toList 0 1:=by
  have:=h0.takeB (yk (qbe b1)) (λ x hx y hy=>by rw [List.mem_singleton.mp hx];exact hd y (List.mem_of_mem_drop hy))
  simpa using this
 by_cases h1:1=b.size
 ·rw [if_pos (by simpa using h1)];refine wpS_pure (h _ (gallopOf st) ?_);rw [qcT];exact mi.endB (by rw [Xh];omega)
 rw [if_neg (by simpa using h1)];by_cases h2:0+1=a.size
 ·rw [if_pos (by simpa using h2)];refine wpS_pure (h _ (gallopOf st) ?_);rw [qej];exact mi.last (qb3 hO hk ka kb hl h2)
 rw [if_neg (by simpa using h2)];refine wpS_bind (wpS_get ?_);refine wpS_bind (wpS_mono (wpS_forRange (I:=λ x (c:C0) st'=>Ok κ a b st (x+1) c st'/\c.1=none) (Q:=λ c st'=>Ok κ a b st 0 c st'/\c.1≠none) ?step ?fin ⟨⟨⟨gallopOf st,rfl⟩,.inr ⟨rfl,mi,by show 0+1 < a.size;omega,by show 1 < b.size;omega,by show 0+1<=0+1;omega⟩⟩,rfl⟩) ?post)
 case post =>
  rintro ⟨v,c⟩ st' ⟨⟨⟨g,rfl⟩,ok⟩,hv⟩;rcases ok with ⟨r,e,gd⟩ | ⟨e,_⟩
  ·cases e
   exact wpS_pure (h r g gd)
  ·exact absurd e hv
 case fin =>
  rintro ⟨v,o,i,j,g⟩ st' ⟨⟨hs,ok⟩,hv⟩;rcases ok with ⟨r,e,gd⟩ | ⟨e,_,hi,hj,hm⟩
  ·rw [hv] at e;cases e
  ·change i+1 < a.size at hi
   change j < b.size at hj
   change _<=i+j at hm
   omega
 case step =>
  rintro x c st' _ hx ⟨ok,hn⟩;obtain ⟨v,o,i,j,g⟩:=c;cases hn
  have ok1:Ok κ a b st (x+1) ((none,o,i,j,0,0):C1) st':=ok;refine wpS_bind (wpS_mono (wpS_forRange (I:=λ y (c:C1) st'=>Ok κ a b st (x+1+y) c st'/\c.1=none) (Q:=λ c st'=>Ok κ a b st (x+2) c st') ?istep ?ifin ⟨ok1,rfl⟩) ?ipost)
  case istep =>
   rintro y c st2 _ hy ⟨ok2,hn2⟩;refine wpS_mono (show wpS (model prog w) A E s (lo0 a b g c) (qbw κ a b st (x+1+y+1)) st2 from qlS hO hk ka kb hl ok2 hn2) λ r st3 hr=>?_
   cases r with
   | done c=>exact Ok.mono hr (by omega)
   | yield c=>exact hr
  case ifin =>
   rintro ⟨v,o,i,j,p,q⟩ st2 ⟨⟨hs,ok2⟩,hv⟩;rcases ok2 with ⟨r,e,gd⟩ | ⟨e,_,hi,hj,hm⟩
   ·rw [hv] at e;cases e
   ·change i+1 < a.size at hi
    change j < b.size at hj
    change _<=i+j at hm
    omega
  case ipost =>
   rintro ⟨v,o,i,j,p,q⟩ st2 ⟨hs,ok2⟩;dsimp only;cases v with
   | some v =>
    rcases ok2 with ⟨r,e,gd⟩ | ⟨e,_⟩
    ·cases e
     exact wpS_pure ⟨⟨hs,.inl ⟨_,rfl,gd⟩⟩,by simp⟩
    ·cases e
   | none =>
    dsimp only;refine wpS_bind (wpS_lift (wpAny_rule ⟨rfl,?_⟩));have ok3:Ok κ a b st (x+2) ((none,o,i,j,g+1,p,q):C2) st2:=⟨hs,ok2⟩;refine wpS_bind (wpS_mono (wpS_forRange (I:=λ y (c:C2) st'=>Ok κ a b st (x+2) c st'/\c.1=none) (Q:=λ c st'=>Ok κ a b st (x+2) c st') ?jstep ?jfin ⟨ok3,rfl⟩) ?jpost)
    case jfin=>exact λ c st' hc=>hc.1
    case jstep =>
     rintro y ⟨v,o,i,j,g,p,q⟩ st3 _ hy ⟨⟨hs,ok4⟩,hn⟩;have hn':v=none:=hn;subst hn';rcases ok4 with ⟨r,e,gd⟩ | ⟨_,mi,hi,hj,hm⟩
     ·cases e
     change MI (kl κ) a.toList b.toList o.toList i j at mi
     change i+1 < a.size at hi
     change j < b.size at hj
     change _<=i+j at hm
     refine wpS_mono (Q:=qbw κ a b st (x+2)) ?_ λ r st3 hr=>?_
     ·by_cases hg:g > 1
      ·dsimp only;rw [if_pos hg];show wpS (model prog w) A E s (lo1 a b o i j (g - 1) p q) _ _
       exact qiW hO hk ka kb hl hs mi hi hj hm
      ·dsimp only;rw [if_neg hg];show wpS (model prog w) A E s (lo1 a b o i j g p q) _ _
       exact qiW hO hk ka kb hl hs mi hi hj hm
     ·cases r with
      | done c=>exact hr
      | yield c=>exact hr
    case jpost =>
     rintro ⟨v,o,i,j,g,p,q⟩ st3 ⟨hs,ok4⟩;dsimp only;cases v with
     | some v =>
      rcases ok4 with ⟨r,e,gd⟩ | ⟨e,_⟩
      ·cases e
       exact wpS_pure ⟨⟨hs,.inl ⟨_,rfl,gd⟩⟩,by simp⟩
      ·cases e
     | none =>
      refine wpS_bind (wpS_modify (wpS_pure ⟨⟨?_,ok4⟩,rfl⟩));obtain ⟨g1,rfl⟩:=hs;exact ⟨g+1,rfl⟩
end
structure MH {α:Type} (r:α->α->Prop) (la lb O:List α) (i j:Nat):Prop where
 sa:(la.take i++O).Pairwise r
 sb:(lb.take j++O).Pairwise r
 pm:(la.take i++(lb.take j++O)).Perm (la++lb)
theorem MH.takeA {α:Type} {r:α->α->Prop} {la lb O:List α} {i j i':Nat} (h:MH r la lb O i j) {X:List α} (e:la.take i=la.take i'++X) (hx:∀ x∈X,∀ y∈lb.take j,r y x):MH r la lb (X++O) i' j:=by
 have h1:=h.sa;rw [e,Xq] at h1;have h2:=List.pairwise_append.mp h.sb;refine ⟨h1,List.pairwise_append.mpr ⟨h2.1,(List.pairwise_append.mp h1).2.1,λ x hx' y hy=>?_⟩,?_⟩
 ·rcases List.mem_append.mp hy with hX | hO
  ·exact hx y hX x hx'
  ·exact h2.2.2 x hx' y hO
 ·have:=h.pm
  rw [e,Xq] at this;exact ((List.perm_append_comm_assoc (lb.take j) X O).append_left (la.take i')).trans this
theorem MH.takeB {α:Type} {r:α->α->Prop} {la lb O:List α} {i j j':Nat} (h:MH r la lb O i j) {X:List α} (e:lb.take j=lb.take j'++X) (hx:∀ x∈X,∀ y∈la.take i,r y x):MH r la lb (X++O) i j':=by
 have h1:=h.sb;rw [e,Xq] at h1;have h2:=List.pairwise_append.mp h.sa;refine ⟨List.pairwise_append.mpr ⟨h2.1,(List.pairwise_append.mp h1).2.1,λ x hx' y hy=>?_⟩,h1,?_⟩
 ·rcases List.mem_append.mp hy with hX | hO
  ·exact hx y hX x hx'
  ·exact h2.2.2 x hx' y hO
 ·have:=h.pm
  rw [e,Xq] at this;exact this
theorem MH.endA {α:Type} {r:α->α->Prop} {la lb O:List α} {i j:Nat} (h:MH r la lb O i j) (e:i=0):Gd r la lb (la.take i++lb.take j++O):=by
 subst e;exact ⟨h.sb,h.pm⟩
theorem MH.endB {α:Type} {r:α->α->Prop} {la lb O:List α} {i:Nat} (h:MH r la lb O i 0):Gd r la lb (la.take i++lb.take 0++O):=by
 have h1:=h.pm;rw [List.take_zero,List.append_nil];exact ⟨h.sa,h1⟩
theorem MH.first {α:Type} {r:α->α->Prop} {la lb O:List α} {i j:Nat} (h:MH r la lb O i j) (hl:∀ x∈lb.take j,∀ y∈la,r x y):Gd r la lb (lb.take j++la.take i++O):=by
 have hb:=List.pairwise_append.mp h.sb;refine ⟨?_,?_⟩
 ·rw [Xq];refine List.pairwise_append.mpr ⟨hb.1,h.sa,λ x hx y hy=>?_⟩;rcases List.mem_append.mp hy with hA | hO
  ·exact hl x hx y (List.mem_of_mem_take hA)
  ·exact hb.2.2 x hx y hO
 ·rw [Xq];exact (List.perm_append_comm_assoc (lb.take j) (la.take i) O).trans h.pm
theorem zg {α:Type} {l:List α} {i:Nat} {x:α} (h:l[i]?=some x):l.take (i+1)=l.take i++[x]:=by
 obtain ⟨hi,e⟩:=List.getElem?_eq_some_iff.mp h;rw [List.take_succ_eq_append_getElem hi,e]
theorem qdF {α:Type} (l:List α) {i k:Nat} (h:k<=i):l.take i=l.take k++(l.take i).drop k:=by
 have:=(List.take_append_drop k (l.take i)).symm
 rwa [List.take_take,Nat.min_eq_left h] at this
def qcU:Array Keyed->Array Keyed->SM (Array Keyed):=sortPriv% PySem.Builtin.mergeHi
def kM (a b o:Array Keyed) (i j:Nat):Array Keyed:=a.extract 0 i++b.extract 0 j++o.reverse
def qek (a b o:Array Keyed) (i j:Nat):Array Keyed:=b.extract 0 j++a.extract 0 i++o.reverse
abbrev D1:=Option (Array Keyed)×Nat×Nat×Array Keyed×Nat×Nat
abbrev D2:=Option (Array Keyed)×Nat×Nat×Array Keyed×Nat×Nat×Nat
abbrev D0:=Option (Array Keyed)×Nat×Nat×Array Keyed×Nat
theorem qgn (a b:Array Keyed):qcU a b=(do
 rule "list.sort.merge-hi"
 let t:=a.size+b.size
 let mut i:=a.size - 1
 let mut j:=b.size
 let mut o:Array Keyed:=#[<- elem' a i]
 if i == 0 then return kM a b o i j
 if j == 1 then return qek a b o i j
 let mut g:=gallopOf (<- get)
 for _ in [0:t] do
  let mut p:=0
  let mut q:=0
  for _ in [0:t] do
   let some c <- lt' (<- elem' b (j - 1)) (<- elem' a (i - 1)) | return kM a b o i j
   if c then
    i:=i - 1;o:=o.push (<- elem' a i);p:=p+1;q:=0
    if i == 0 then return kM a b o i j
    if p ≥ g then break
   else
    j:=j - 1;o:=o.push (<- elem' b j);q:=q+1;p:=0
    if j == 1 then return qek a b o i j
    if q ≥ g then break
  rule "list.sort.gallop"
  g:=g+1
  for _ in [0:t] do
   if g > 1 then g:=g - 1
   qhP g
   let some u <- zQ false (<- elem' b (j - 1)) a 0 i (i - 1) | return kM a b o i j
   let k:=i - u
   p:=k
   if k > 0 then
    o:=o++(a.extract u i).reverse;i:=u
    if i == 0 then return kM a b o i j
   j:=j - 1;o:=o.push (<- elem' b j)
   if j == 1 then return qek a b o i j
   let some u <- zQ true (<- elem' a (i - 1)) b 0 j (j - 1) | return kM a b o i j
   let k:=j - u
   q:=k
   if k > 0 then
    o:=o++(b.extract u j).reverse;j:=u
    if j == 1 then return qek a b o i j
    if j == 0 then return kM a b o i j
   i:=i - 1;o:=o.push (<- elem' a i)
   if i == 0 then return kM a b o i j
   if p < 7 && q < 7 then break
  g:=g+1
  qhP g
 unsupported "internal:list.sort.merge-bound"):=rfl
def hi3 (a b o:Array Keyed) (i j g p q:Nat):SM (ForInStep D2):=do
 let x <- elem' a (i - 1)
 if i - 1 == 0 then pure (.done (some (kM a b (o.push x) (i - 1) j),i - 1,j,o.push x,g,p,q))
 else if p < 7 && q < 7 then pure (.done (none,i - 1,j,o.push x,g,p,q))
 else pure (.yield (none,i - 1,j,o.push x,g,p,q))
def hi2 (a b o:Array Keyed) (i j g p q:Nat):SM (ForInStep D2):=do
 let x <- elem' b (j - 1)
 if j - 1 == 1 then pure (.done (some (qek a b (o.push x) i (j - 1)),i,j - 1,o.push x,g,p,q))
 else do
  let y <- elem' a (i - 1)
  let c <- zQ true y b 0 (j - 1) (j - 1 - 1)
  match c with
  | some u =>
   if j - 1 - u > 0 then
    if u == 1 then pure (.done (some (qek a b (o.push x++(b.extract u (j - 1)).reverse) i u),i,u,o.push x++(b.extract u (j - 1)).reverse,g,p,j - 1 - u))
    else if u == 0 then pure (.done (some (kM a b (o.push x++(b.extract u (j - 1)).reverse) i u),i,u,o.push x++(b.extract u (j - 1)).reverse,g,p,j - 1 - u))
    else hi3 a b (o.push x++(b.extract u (j - 1)).reverse) i u g p (j - 1 - u)
   else hi3 a b (o.push x) i (j - 1) g p (j - 1 - u)
  | _=>pure (.done (some (kM a b (o.push x) i (j - 1)),i,j - 1,o.push x,g,p,q))
def hi1 (a b o:Array Keyed) (i j g p q:Nat):SM (ForInStep D2):=do
 qhP g
 let x <- elem' b (j - 1)
 let c <- zQ false x a 0 i (i - 1)
 match c with
 | some u =>
  if i - u > 0 then
   if u == 0 then pure (.done (some (kM a b (o++(a.extract u i).reverse) u j),u,j,o++(a.extract u i).reverse,g,i - u,q))
   else hi2 a b (o++(a.extract u i).reverse) u j g (i - u) q
  else hi2 a b o i j g (i - u) q
 | _=>pure (.done (some (kM a b o i j),i,j,o,g,p,q))
def hi0 (a b:Array Keyed) (g:Nat) (r:D1):SM (ForInStep D1):=do
 let y <- elem' b (r.2.2.1 - 1)
 let x <- elem' a (r.2.1 - 1)
 let c <- lt' y x
 match c with
 | some c =>
  if c then do
   let z <- elem' a (r.2.1 - 1)
   if r.2.1 - 1 == 0 then pure (.done (some (kM a b (r.2.2.2.1.push z) (r.2.1 - 1) r.2.2.1),r.2.1 - 1,r.2.2.1,r.2.2.2.1.push z,r.2.2.2.2.1+1,0))
   else if r.2.2.2.2.1+1 ≥ g then pure (.done (none,r.2.1 - 1,r.2.2.1,r.2.2.2.1.push z,r.2.2.2.2.1+1,0))
   else pure (.yield (none,r.2.1 - 1,r.2.2.1,r.2.2.2.1.push z,r.2.2.2.2.1+1,0))
  else do
   let z <- elem' b (r.2.2.1 - 1)
   if r.2.2.1 - 1 == 1 then pure (.done (some (qek a b (r.2.2.2.1.push z) r.2.1 (r.2.2.1 - 1)),r.2.1,r.2.2.1 - 1,r.2.2.2.1.push z,0,r.2.2.2.2.2+1))
   else if r.2.2.2.2.2+1 ≥ g then pure (.done (none,r.2.1,r.2.2.1 - 1,r.2.2.2.1.push z,0,r.2.2.2.2.2+1))
   else pure (.yield (none,r.2.1,r.2.2.1 - 1,r.2.2.2.1.push z,0,r.2.2.2.2.2+1))
 | _=>pure (.done (some (kM a b r.2.2.2.1 r.2.1 r.2.2.1),r.2.1,r.2.2.1,r.2.2.2.1,r.2.2.2.2.1,r.2.2.2.2.2))
def OkH {γ:Type} (κ:KeyKind) (a b:Array Keyed) (st:SortSt) (m:Nat) (c:Option (Array Keyed)×Nat×Nat×Array Keyed×γ) (st':SortSt):Prop :=
 (∃ g,st'=vv st g)/\((∃ r,c.1=some r/\Gd (kl κ) a.toList b.toList r.toList)∨(c.1=none/\MH (kl κ) a.toList b.toList c.2.2.2.1.toList.reverse c.2.1 c.2.2.1/\0 < c.2.1/\c.2.1<=a.size/\1 < c.2.2.1/\c.2.2.1<=b.size/\c.2.1+c.2.2.1+m<=a.size+b.size))
def qdG {γ:Type} (κ:KeyKind) (a b:Array Keyed) (st:SortSt) (m:Nat):ForInStep (Option (Array Keyed)×Nat×Nat×Array Keyed×γ)->SortSt->Prop
 | .done c,st'=>OkH κ a b st m c st'
 | .yield c,st'=>OkH κ a b st m c st'/\c.1=none
theorem qel (a:Array Keyed) (i:Nat):(a.extract 0 i).toList=a.toList.take i:=by
 rw [Array.toList_extract,List.extract_eq_take_drop,List.drop_zero,Nat.sub_zero]
theorem qg4 (a:Array Keyed) (u i:Nat):((a.extract u i).reverse).toList.reverse=(a.toList.take i).drop u:=by
 rw [Array.toList_reverse,List.reverse_reverse,Array.toList_extract,List.extract_eq_take_drop,List.drop_take]
theorem qcV (a b o:Array Keyed) (i j:Nat):(kM a b o i j).toList=a.toList.take i++b.toList.take j++o.toList.reverse:=by
 unfold kM;rw [Array.toList_append,Array.toList_append,qel,qel,Array.toList_reverse]
theorem qem (a b o:Array Keyed) (i j:Nat):(qek a b o i j).toList=b.toList.take j++a.toList.take i++o.toList.reverse:=by
 unfold qek;rw [Array.toList_append,Array.toList_append,qel,qel,Array.toList_reverse]
theorem qbf (o:Array Keyed) (x:Keyed):(o.push x).toList.reverse=[x]++o.toList.reverse:=by
 rw [Array.toList_push,List.reverse_append];rfl
theorem qg5 (o u:Array Keyed):(o++u).toList.reverse=u.toList.reverse++o.toList.reverse:=by
 rw [Array.toList_append,List.reverse_append]
theorem yG {a:Array Keyed} {i:Nat} (h0:0 < i) (h:i<=a.size):a.toList.take i=a.toList.take (i - 1)++[a[i - 1]]:=by
 have:=zg (qbe (a:=a) (i:=i - 1) (by omega))
 rwa [Nat.sub_add_cancel h0] at this
section
variable {prog:Program} {w:World} {A:Around} {E:Value->Shared->Prop} {s:Shared} {κ:KeyKind} {a b:Array Keyed} {st:SortSt}
variable (hO:κ.OneLt) (hk:kindOf st=oneType') (ka:∀ x∈a.toList,Kd κ x) (kb:∀ x∈b.toList,Kd κ x) (hd:∀ x∈b.toList.take 1,∀ y∈a.toList,kl κ x y)
include hO hk ka kb hd
theorem MH.tailA {O:List Keyed} {i j:Nat} (m:MH (kl κ) a.toList b.toList O i j) (h0:0 < i) (hi:i<=a.size):∀ y∈a.toList.take i,kl κ y a[i - 1]:=by
 have:=(List.pairwise_append.mp m.sa).1
 rw [yG h0 hi] at this ⊢;intro y hy;rcases List.mem_append.mp hy with h | h
 ·exact (List.pairwise_append.mp this).2.2 y h _ (List.mem_singleton.mpr rfl)
 ·rw [List.mem_singleton.mp h];exact KeyOrd.kle_refl _
theorem MH.tailB {O:List Keyed} {i j:Nat} (m:MH (kl κ) a.toList b.toList O i j) (h0:0 < j) (hj:j<=b.size):∀ y∈b.toList.take j,kl κ y b[j - 1]:=by
 have:=(List.pairwise_append.mp m.sb).1
 rw [yG h0 hj] at this ⊢;intro y hy;rcases List.mem_append.mp hy with h | h
 ·exact (List.pairwise_append.mp this).2.2 y h _ (List.mem_singleton.mpr rfl)
 ·rw [List.mem_singleton.mp h];exact KeyOrd.kle_refl _
theorem qiX {o:Array Keyed} {i j g p q m:Nat} {st':SortSt} (hs:∃ g,st'=vv st g) (mi:MH (kl κ) a.toList b.toList o.toList.reverse i j) (i0:0 < i) (hi:i<=a.size) (j1:1 < j) (hj:j<=b.size) (hm:i+j+m<=a.size+b.size)
  (hx:∀ y∈b.toList.take j,kl κ y a[i - 1]):wpS (model prog w) A E s (hi3 a b o i j g p q) (qdG κ a b st m) st':=by
 unfold hi3;refine wpS_bind (qR (p:=a[i - 1]) (getElem?_pos a (i - 1) (by omega)) ?_);have mi':MH (kl κ) a.toList b.toList (o.push a[i - 1]).toList.reverse (i - 1) j:=by
  rw [qbf];exact mi.takeA (yG i0 hi) (λ x hx' y hy=>by rw [List.mem_singleton.mp hx'];exact hx y hy)
 by_cases h1:i - 1=0
 ·rw [if_pos (by simpa using h1)];refine wpS_pure ⟨hs,.inl ⟨_,rfl,?_⟩⟩;rw [qcV];exact mi'.endA h1
 ·rw [if_neg (by simpa using h1)];by_cases h2:(decide (p < 7) && decide (q < 7))=true
  ·rw [if_pos h2];exact wpS_pure ⟨hs,.inr ⟨rfl,mi',by show 0 < i - 1;omega,by show i - 1<=a.size;omega,j1,hj,by show i - 1+j+m<=_;omega⟩⟩
  ·rw [if_neg h2];exact wpS_pure ⟨⟨hs,.inr ⟨rfl,mi',by show 0 < i - 1;omega,by show i - 1<=a.size;omega,j1,hj,by show i - 1+j+m<=_;omega⟩⟩,rfl⟩
theorem qiY {o:Array Keyed} {i j g p q m:Nat} {st':SortSt} (hs:∃ g,st'=vv st g) (mi:MH (kl κ) a.toList b.toList o.toList.reverse i j) (i0:0 < i) (hi:i<=a.size) (j1:1 < j) (hj:j<=b.size) (hm:i+j+m<=a.size+b.size)
  (hx:∀ y∈a.toList.take i,kl κ y b[j - 1]):wpS (model prog w) A E s (hi2 a b o i j g p q) (qdG κ a b st m) st':=by
 unfold hi2;refine wpS_bind (qR (p:=b[j - 1]) (getElem?_pos b (j - 1) (by omega)) ?_);have mi':MH (kl κ) a.toList b.toList (o.push b[j - 1]).toList.reverse i (j - 1):=by
  rw [qbf];exact mi.takeB (yG (by omega) hj) (λ x hx' y hy=>by rw [List.mem_singleton.mp hx'];exact hx y hy)
 by_cases h1:j - 1=1
 ·rw [if_pos (by simpa using h1)];refine wpS_pure ⟨hs,.inl ⟨_,rfl,?_⟩⟩;rw [qem];exact mi'.first (by rw [h1];exact hd)
 ·rw [if_neg (by simpa using h1)];refine wpS_bind (qR (p:=a[i - 1]) (getElem?_pos a (i - 1) (by omega)) ?_);have hk':kindOf st'=oneType':=by obtain ⟨g,rfl⟩:=hs;exact hk
  refine wpS_bind (yl hO (b.toList.take (j - 1)) (by rw [List.drop_zero]) hk' (ka _ (by simp)) (by omega) (λ x hx=>kb x (List.mem_of_mem_take hx)) ((List.pairwise_append.mp mi'.sb).1) (by omega) λ u hu1 k1 k2=>?_);have ha:=mi.tailA hO hk ka kb hd i0 hi;have mk:MH (kl κ) a.toList b.toList (o.push b[j - 1]++(b.extract u (j - 1)).reverse).toList.reverse i u:=by
   rw [qg5,qg4];exact mi'.takeB (qdF _ hu1) λ x hx y hy=>KeyOrd.kle_trans (ha y hy) (qkt (k2 x hx))
  have hx3:∀ y∈b.toList.take u,kl κ y a[i - 1]:=λ y hy=>BtT (k1 y (by rw [List.take_take,Nat.min_eq_left hu1];exact hy))
  dsimp only;by_cases hk0:j - 1 - u > 0
  ·rw [if_pos hk0];by_cases h3:u=1
   ·rw [if_pos (by simpa using h3)];refine wpS_pure ⟨hs,.inl ⟨_,rfl,?_⟩⟩;rw [qem];exact mk.first (by rw [h3];exact hd)
   ·rw [if_neg (by simpa using h3)];by_cases h4:u=0
    ·rw [if_pos (by simpa using h4)];refine wpS_pure ⟨hs,.inl ⟨_,rfl,?_⟩⟩;rw [qcV];subst h4;exact mk.endB
    ·rw [if_neg (by simpa using h4)];exact qiX hO hk ka kb hd hs mk i0 hi (by omega) (by omega) (by omega) hx3
  ·rw [if_neg hk0]
   have:u=j - 1:=by omega
   subst this;exact qiX hO hk ka kb hd hs mi' i0 hi (by omega) (by omega) (by omega) hx3
theorem qiZ {o:Array Keyed} {i j g p q m:Nat} {st':SortSt} (hs:∃ g,st'=vv st g) (mi:MH (kl κ) a.toList b.toList o.toList.reverse i j) (i0:0 < i) (hi:i<=a.size) (j1:1 < j) (hj:j<=b.size) (hm:i+j+m<=a.size+b.size):wpS (model prog w) A E s (hi1 a b o i j g p q) (qdG κ a b st m) st':=by
 unfold hi1;refine wpS_bind (wpS_modify ?_);have hs':∃ g',vv st' g=vv st g':=by obtain ⟨g1,rfl⟩:=hs;exact ⟨g,rfl⟩
 have hk':kindOf (vv st' g)=oneType':=by obtain ⟨g1,rfl⟩:=hs;exact hk
 refine wpS_bind (qR (p:=b[j - 1]) (getElem?_pos b (j - 1) (by omega)) ?_);refine wpS_bind (yl hO (a.toList.take i) (by rw [List.drop_zero]) hk' (kb _ (by simp)) (by omega) (λ x hx=>ka x (List.mem_of_mem_take hx)) ((List.pairwise_append.mp mi.sa).1) (by omega) λ u hu1 k1 k2=>?_);have hb:=mi.tailB hO hk ka kb hd (by omega) hj;have mk:MH (kl κ) a.toList b.toList (o++(a.extract u i).reverse).toList.reverse u j:=by
  rw [qg5,qg4];exact mi.takeA (qdF _ hu1) λ x hx y hy=>KeyOrd.kle_trans (hb y hy) (qlR (k2 x hx))
 have hx2:∀ y∈a.toList.take u,kl κ y b[j - 1]:=λ y hy=>BtF (k1 y (by rw [List.take_take,Nat.min_eq_left hu1];exact hy))
 dsimp only;by_cases hk0:i - u > 0
 ·rw [if_pos hk0];by_cases h4:u=0
  ·rw [if_pos (by simpa using h4)];refine wpS_pure ⟨hs',.inl ⟨_,rfl,?_⟩⟩;rw [qcV];exact mk.endA h4
  ·rw [if_neg (by simpa using h4)];exact qiY hO hk ka kb hd hs' mk (by omega) (by omega) j1 hj (by omega) hx2
 ·rw [if_neg hk0]
  have:u=i:=by omega
  subst this;exact qiY hO hk ka kb hd hs' mi i0 hi j1 hj hm hx2
theorem qlT {g:Nat} {r:D1} {m:Nat} {st':SortSt} (ok:OkH κ a b st m r st') (hn:r.1=none):wpS (model prog w) A E s (hi0 a b g r) (qdG κ a b st (m+1)) st':=by
 obtain ⟨v,i,j,o,p,q⟩:=r;obtain ⟨hs,⟨r,h1,h2⟩ | ⟨_,mi,i0,hi,j1,hj,hm⟩⟩:=ok
 ·rw [hn] at h1;cases h1
 change MH (kl κ) a.toList b.toList o.toList.reverse i j at mi
 change 0 < i at i0
 change i<=a.size at hi
 change 1 < j at j1
 change j<=b.size at hj
 change i+j+m<=_ at hm
 unfold hi0;dsimp only;have hk':kindOf st'=oneType':=by obtain ⟨g,rfl⟩:=hs;exact hk
 refine wpS_bind (qR (p:=b[j - 1]) (getElem?_pos b (j - 1) (by omega)) ?_);refine wpS_bind (qR (p:=a[i - 1]) (getElem?_pos a (i - 1) (by omega)) ?_);refine wpS_bind (qcR hO hk' (kb _ (by simp)) (ka _ (by simp)) ?_);dsimp only;cases hc:κ.blt (ky κ b[j - 1]) (ky κ a[i - 1]) with
 | true =>
  rw [if_pos rfl];refine wpS_bind (qR (p:=a[i - 1]) (getElem?_pos a (i - 1) (by omega)) ?_);have hb:=mi.tailB hO hk ka kb hd (by omega) hj;have mi':MH (kl κ) a.toList b.toList (o.push a[i - 1]).toList.reverse (i - 1) j:=by
   rw [qbf];exact mi.takeA (yG i0 hi) (λ x hx' y hy=>by rw [List.mem_singleton.mp hx'];exact KeyOrd.kle_trans (hb y hy) (KeyOrd.kle_of_klt hc))
  by_cases h1:i - 1=0
  ·rw [if_pos (by simpa using h1)];refine wpS_pure ⟨hs,.inl ⟨_,rfl,?_⟩⟩;rw [qcV];exact mi'.endA h1
  ·rw [if_neg (by simpa using h1)];by_cases h2:p+1 ≥ g
   ·rw [if_pos h2];exact wpS_pure ⟨hs,.inr ⟨rfl,mi',by show 0 < i - 1;omega,by show i - 1<=a.size;omega,j1,hj,by show i - 1+j+(m+1)<=_;omega⟩⟩
   ·rw [if_neg h2];exact wpS_pure ⟨⟨hs,.inr ⟨rfl,mi',by show 0 < i - 1;omega,by show i - 1<=a.size;omega,j1,hj,by show i - 1+j+(m+1)<=_;omega⟩⟩,rfl⟩
 | false =>
  rw [if_neg (by simp)];refine wpS_bind (qR (p:=b[j - 1]) (getElem?_pos b (j - 1) (by omega)) ?_);have ha:=mi.tailA hO hk ka kb hd i0 hi;have mi':MH (kl κ) a.toList b.toList (o.push b[j - 1]).toList.reverse i (j - 1):=by
   rw [qbf];exact mi.takeB (yG (by omega) hj) (λ x hx' y hy=>by rw [List.mem_singleton.mp hx'];exact KeyOrd.kle_trans (ha y hy) hc)
  by_cases h1:j - 1=1
  ·rw [if_pos (by simpa using h1)];refine wpS_pure ⟨hs,.inl ⟨_,rfl,?_⟩⟩;rw [qem];exact mi'.first (by rw [h1];exact hd)
  ·rw [if_neg (by simpa using h1)];by_cases h2:q+1 ≥ g
   ·rw [if_pos h2];exact wpS_pure ⟨hs,.inr ⟨rfl,mi',i0,hi,by show 1 < j - 1;omega,by show j - 1<=b.size;omega,by show i+(j - 1)+(m+1)<=_;omega⟩⟩
   ·rw [if_neg h2];exact wpS_pure ⟨⟨hs,.inr ⟨rfl,mi',i0,hi,by show 1 < j - 1;omega,by show j - 1<=b.size;omega,by show i+(j - 1)+(m+1)<=_;omega⟩⟩,rfl⟩
end
section
variable {prog:Program} {w:World} {A:Around} {E:Value->Shared->Prop} {s:Shared} {κ:KeyKind} {a b:Array Keyed} {st:SortSt}
theorem OkH.mono {γ:Type} {m m':Nat} {c:Option (Array Keyed)×Nat×Nat×Array Keyed×γ} {st':SortSt} (h:OkH κ a b st m c st') (hm:m'<=m):OkH κ a b st m' c st':=by
 obtain ⟨hs,h | ⟨h1,h2,h3,h4,h5,h6,h7⟩⟩:=h
 ·exact ⟨hs,.inl h⟩
 ·exact ⟨hs,.inr ⟨h1,h2,h3,h4,h5,h6,by omega⟩⟩
theorem qfi (hO:κ.OneLt) {Q:Array Keyed->SortSt->Prop} (hk:kindOf st=oneType') (ka:∀ x∈a.toList,Kd κ x) (kb:∀ x∈b.toList,Kd κ x)
  (h0:MH (kl κ) a.toList b.toList [] a.size b.size) (a1:0 < a.size) (b1:0 < b.size) (hd:∀ x∈b.toList.take 1,∀ y∈a.toList,kl κ x y) (hl:∀ y∈b.toList,kl κ y a[a.size - 1])
  (h:∀ (o:Array Keyed) (g:Nat),Gd (kl κ) a.toList b.toList o.toList->Q o (vv st g)):wpS (model prog w) A E s (qcU a b) Q st:=by
 rw [qgn];refine wpS_bind (wpS_lift (wpAny_rule ⟨rfl,?_⟩));refine wpS_bind (qR (p:=a[a.size - 1]) (getElem?_pos a (a.size - 1) (by omega)) ?_);dsimp only;have mi:MH (kl κ) a.toList b.toList (#[a[a.size - 1]]:Array Keyed).toList.reverse (a.size - 1) b.size:=by
  have:=h0.takeA (yG a1 (Xe _)) (λ x hx y hy=>by rw [List.mem_singleton.mp hx];exact hl y (List.mem_of_mem_take hy))
  simpa using this
 by_cases h1:a.size - 1=0
 ·rw [if_pos (by simpa using h1)];refine wpS_pure (h _ (gallopOf st) ?_);rw [qcV];exact mi.endA h1
 rw [if_neg (by simpa using h1)];by_cases h2:b.size=1
 ·rw [if_pos (by simpa using h2)];refine wpS_pure (h _ (gallopOf st) ?_);rw [qem];exact mi.first (by rw [h2];exact hd)
 rw [if_neg (by simpa using h2)];refine wpS_bind (wpS_get ?_);refine wpS_bind (wpS_mono (wpS_forRange (I:=λ x (c:D0) st'=>OkH κ a b st (x+1) c st'/\c.1=none) (Q:=λ c st'=>OkH κ a b st 0 c st'/\c.1≠none) ?step ?fin ⟨⟨⟨gallopOf st,rfl⟩,.inr ⟨rfl,mi,by show 0 < a.size - 1;omega,by show a.size - 1<=a.size;omega,by show 1 < b.size;omega,Xe _,by show a.size - 1+b.size+(0+1)<=_;omega⟩⟩,rfl⟩) ?post)
 case post =>
  rintro ⟨v,c⟩ st' ⟨⟨⟨g,rfl⟩,ok⟩,hv⟩;rcases ok with ⟨r,e,gd⟩ | ⟨e,_⟩
  ·cases e
   exact wpS_pure (h r g gd)
  ·exact absurd e hv
 case fin =>
  rintro ⟨v,i,j,o,g⟩ st' ⟨⟨hs,ok⟩,hv⟩;rcases ok with ⟨r,e,gd⟩ | ⟨e,_,i0,hi,j1,hj,hm⟩
  ·rw [hv] at e;cases e
  ·change 0 < i at i0
   change i+j+_<=_ at hm
   omega
 case step =>
  rintro x c st' _ hx ⟨ok,hn⟩;obtain ⟨v,i,j,o,g⟩:=c;cases hn
  have ok1:OkH κ a b st (x+1) ((none,i,j,o,0,0):D1) st':=ok;refine wpS_bind (wpS_mono (wpS_forRange (I:=λ y (c:D1) st'=>OkH κ a b st (x+1+y) c st'/\c.1=none) (Q:=λ c st'=>OkH κ a b st (x+2) c st') ?istep ?ifin ⟨ok1,rfl⟩) ?ipost)
  case istep =>
   rintro y c st2 _ hy ⟨ok2,hn2⟩;refine wpS_mono (show wpS (model prog w) A E s (hi0 a b g c) (qdG κ a b st (x+1+y+1)) st2 from qlT hO hk ka kb hd ok2 hn2) λ r st3 hr=>?_
   cases r with
   | done c=>exact OkH.mono hr (by omega)
   | yield c=>exact hr
  case ifin =>
   rintro ⟨v,i,j,o,p,q⟩ st2 ⟨⟨hs,ok2⟩,hv⟩;rcases ok2 with ⟨r,e,gd⟩ | ⟨e,_,i0,hi,j1,hj,hm⟩
   ·rw [hv] at e;cases e
   ·change 0 < i at i0
    change i+j+_<=_ at hm
    omega
  case ipost =>
   rintro ⟨v,i,j,o,p,q⟩ st2 ⟨hs,ok2⟩;dsimp only;cases v with
   | some v =>
    rcases ok2 with ⟨r,e,gd⟩ | ⟨e,_⟩
    ·cases e
     exact wpS_pure ⟨⟨hs,.inl ⟨_,rfl,gd⟩⟩,by simp⟩
    ·cases e
   | none =>
    dsimp only;refine wpS_bind (wpS_lift (wpAny_rule ⟨rfl,?_⟩));have ok3:OkH κ a b st (x+2) ((none,i,j,o,g+1,p,q):D2) st2:=⟨hs,ok2⟩;refine wpS_bind (wpS_mono (wpS_forRange (I:=λ y (c:D2) st'=>OkH κ a b st (x+2) c st'/\c.1=none) (Q:=λ c st'=>OkH κ a b st (x+2) c st') ?jstep ?jfin ⟨ok3,rfl⟩) ?jpost)
    case jfin=>exact λ c st' hc=>hc.1
    case jstep =>
     rintro y ⟨v,i,j,o,g,p,q⟩ st3 _ hy ⟨⟨hs,ok4⟩,hn⟩;have hn':v=none:=hn;subst hn';rcases ok4 with ⟨r,e,gd⟩ | ⟨_,mi,i0,hi,j1,hj,hm⟩
     ·cases e
     change MH (kl κ) a.toList b.toList o.toList.reverse i j at mi
     change 0 < i at i0
     change i<=a.size at hi
     change 1 < j at j1
     change j<=b.size at hj
     change i+j+_<=_ at hm
     refine wpS_mono (Q:=qdG κ a b st (x+2)) ?_ λ r st3 hr=>?_
     ·by_cases hg:g > 1
      ·dsimp only;rw [if_pos hg];show wpS (model prog w) A E s (hi1 a b o i j (g - 1) p q) _ _
       exact qiZ hO hk ka kb hd hs mi i0 hi j1 hj hm
      ·dsimp only;rw [if_neg hg];show wpS (model prog w) A E s (hi1 a b o i j g p q) _ _
       exact qiZ hO hk ka kb hd hs mi i0 hi j1 hj hm
     ·cases r with
      | done c=>exact hr
      | yield c=>exact hr
    case jpost =>
     rintro ⟨v,i,j,o,g,p,q⟩ st3 ⟨hs,ok4⟩;dsimp only;cases v with
     | some v =>
      rcases ok4 with ⟨r,e,gd⟩ | ⟨e,_⟩
      ·cases e
       exact wpS_pure ⟨⟨hs,.inl ⟨_,rfl,gd⟩⟩,by simp⟩
      ·cases e
     | none =>
      refine wpS_bind (wpS_modify (wpS_pure ⟨⟨?_,ok4⟩,rfl⟩));obtain ⟨g1,rfl⟩:=hs;exact ⟨g+1,rfl⟩
end
theorem qku {M:Model} {A:Around} {E:Value->Shared->Prop} {s:Shared} {σ:Type} {x:σ} {Q:PUnit->σ->Prop} {st:σ} (h:Q ⟨⟩ x):wpS M A E s (set x:StateT σ Sem PUnit) Q st:=by
 unfold wpS;rw [StateT.run_set];exact Xg ⟨rfl,h⟩
theorem qgo (i:Nat):mergeAt' i=(do
 let st <- get
 let (some (sa,na,pw),some (sb,nb,_)):=((pendingOf st)[i]?,(pendingOf st)[i+1]?) | unsupported "internal:list.sort.pending"
 set (SortSt.mk' (kindOf st) (arrOf st) (((pendingOf st).setIfInBounds i (sa,na+nb,pw)).eraseIdxIfInBounds (i+1)) (gallopOf st) (failedOf st))
 let some k <- zQ false (<- elem' (arrOf st) sb) (arrOf st) sa na 0 | return false
 let (sa,na):=(sa+k,na - k)
 if na == 0 then return true
 let some nb <- zQ true (<- elem' (arrOf st) (sa+na - 1)) (arrOf st) sb nb (nb - 1) | return false
 if nb == 0 then return true
 let x:=(arrOf st).extract sa sb
 let y:=(arrOf st).extract sb (sb+nb)
 let m <- if na<=nb then qcS x y else qcU x y
 modify λ s=>setArr s (m.toList.zipIdx.foldl (λ a (p,j)=>a.setIfInBounds (sa+j) p) (arrOf s))
 return (failedOf (<- get)).isNone):=rfl
theorem qfj {U V:List Keyed} {sa:Nat}:∀ (l:List Keyed) (k:Nat) (M:List Keyed) (U:List Keyed) (arr:Array Keyed),arr.toList=U++(M++V)->U.length=sa+k->M.length=l.length ->
  ((l.zipIdx k).foldl (λ a (x:Keyed×Nat)=>a.setIfInBounds (sa+x.2) x.1) arr).toList=U++(l++V)
 | [],k,M,U,arr,e,hu,hm=>by
  have:M=[]:=List.length_eq_zero_iff.mp hm
  subst this;exact e
 | x::l,k,M,U,arr,e,hu,hm=>by
  obtain ⟨m,M,rfl⟩:∃ m M',M=m::M':=by
   cases M with
   | nil=>cases hm
   | cons m M=>exact ⟨m,M,rfl⟩
  rw [List.zipIdx_cons,List.foldl_cons]
  have:=qfj (V:=V) (U:=U) (sa:=sa) l (k+1) M (U++[x]) (arr.setIfInBounds (sa+k) x) (by
   rw [Array.toList_setIfInBounds,e,<- hu,List.set_append_right _ _ (Xe _),Nat.sub_self];simp) (by rw [Xd,hu];rfl) (by simpa using hm)
  rw [this];simp
section
variable {prog:Program} {w:World} {A:Around} {E:Value->Shared->Prop} {s:Shared} {κ:KeyKind} {st:SortSt}
theorem qfk (hO:κ.OneLt) {Q:Bool->SortSt->Prop} {i sa na sb nb pa pb:Nat} {L X Y R:List Keyed} (hk:kindOf st=oneType') (hf:failedOf st=none)
  (e1:(pendingOf st)[i]?=some (sa,na,pa)) (e2:(pendingOf st)[i+1]?=some (sb,nb,pb)) (hab:sb=sa+na) (ea:(arrOf st).toList=L++(X++(Y++R))) (hL:L.length=sa) (hX:X.length=na) (hY:Y.length=nb) (na0:0 < na) (nb0:0 < nb)
  (sx:So κ X) (sy:So κ Y) (kx:∀ x∈X,Kd κ x) (kY:∀ x∈Y,Kd κ x)
  (h:∀ (Z:List Keyed) (arr:Array Keyed) (g:Nat),Z.Perm (X++Y)->So κ Z->arr.toList=L++(Z++R) ->
   Q true (SortSt.mk' (kindOf st) arr (((pendingOf st).setIfInBounds i (sa,na+nb,pa)).eraseIdxIfInBounds (i+1)) g (failedOf st))):wpS (model prog w) A E s (mergeAt' i) Q st:=by
 have sz:(arrOf st).size=sa+na+nb+R.length:=by
  rw [<- Xh,ea];simp [hL,hX,hY];omega
 have gX:(arrOf st).toList.drop sa=X++(Y++R):=by rw [ea,<- hL,List.drop_left]
 have gY:(arrOf st).toList.drop sb=Y++R:=by rw [hab,<- List.drop_drop,gX,<- hX,List.drop_left]
 have y0:Y[0]?=some (Y[0]'(by omega)):=Xb _;have aY:(arrOf st)[sb]?=some (Y[0]'(by omega)):=by
  have e:(arrOf st).toList[sb+0]?=some (Y[0]'(by omega)):=by rw [<- List.getElem?_drop,gY,Xz (by omega),y0]
  rw [<- Array.getElem?_toList];exact e
 have hy0:∀ y∈Y,kl κ (Y[0]'(by omega)) y:=by
  cases Y with
  | nil=>simp at hY;omega
  | cons z Y =>
   intro y hy;rcases List.mem_cons.mp hy with e | e
   ·rw [e];exact KeyOrd.kle_refl _
   ·exact (List.pairwise_cons.mp sy).1 y e
 rw [qgo];refine wpS_bind (wpS_get ?_);rw [e1,e2];dsimp only;refine wpS_bind (qku ?_);refine wpS_bind (qR aY ?_);refine wpS_bind (yl hO X (by rw [gX,<- hX,List.take_left]) hk (kY _ (List.getElem_mem _)) (by omega) kx sx (by omega) λ k hk1 k1 k2=>?_);dsimp only;by_cases h0:na - k=0
 ·rw [if_pos (by simpa using h0)];refine wpS_pure (h (X++Y) (arrOf st) _ (List.Perm.refl _) (List.pairwise_append.mpr ⟨sx,sy,λ x hx y hy=>?_⟩) (by rw [ea,Xq]));have hk':k=X.length:=by omega
  rw [hk',List.take_length] at k1;exact KeyOrd.kle_trans (BtF (k1 x hx)) (hy0 y hy)
 rw [if_neg (by simpa using h0)];have xl:X[na - 1]?=some (X[na - 1]'(by omega)):=Xb _;have hxl:∀ x∈X,kl κ x (X[na - 1]'(by omega)):=by
  intro x hx;obtain ⟨j,hj,rfl⟩:=List.getElem_of_mem hx;rcases Nat.lt_or_ge j (na - 1) with h1 | h1
  ·exact List.pairwise_iff_getElem.mp sx j (na - 1) hj (by omega) h1
  ·have:j=na - 1:=by omega
   subst this;exact KeyOrd.kle_refl _
 have aX:(arrOf st)[sa+k+(na - k) - 1]?=some (X[na - 1]'(by omega)):=by
  have e:sa+k+(na - k) - 1=sa+(na - 1):=by omega
  rw [e,<- Array.getElem?_toList,<- List.getElem?_drop,gX,Xz (by omega),xl]
 refine wpS_bind (qR aX ?_);refine wpS_bind (yl hO Y (by rw [gY,<- hY,List.take_left]) hk (kx _ (List.getElem_mem _)) (by omega) kY sy (by omega) λ n hn1 n1 n2=>?_);dsimp only;by_cases h0':n=0
 ·rw [if_pos (by simpa using h0')];refine wpS_pure (h (X++Y) (arrOf st) _ (List.Perm.refl _) (List.pairwise_append.mpr ⟨sx,sy,λ x hx y hy=>?_⟩) (by rw [ea,Xq]));subst h0';exact KeyOrd.kle_trans (hxl x hx) (qkt (n2 y hy))
 rw [if_neg (by simpa using h0')];have ex:((arrOf st).extract (sa+k) sb).toList=X.drop k:=by
  rw [Array.toList_extract,List.extract_eq_take_drop,<- List.drop_drop,gX,List.drop_append_of_le_length (by omega)];rw [show sb - (sa+k)=(X.drop k).length by rw [List.length_drop];omega,List.take_left]
 have ey:((arrOf st).extract sb (sb+n)).toList=Y.take n:=by
  rw [Array.toList_extract,List.extract_eq_take_drop,gY,Nat.add_sub_cancel_left,List.take_append_of_le_length (by omega)]
 generalize hxe:(arrOf st).extract (sa+k) sb=x at ex ⊢;generalize hye:(arrOf st).extract sb (sb+n)=y at ey ⊢;have lx:x.size=na - k:=by rw [<- Xh,ex,List.length_drop,hX]
 have ly:y.size=n:=by rw [<- Xh,ey,Xi,hY];omega
 have sx':So κ (X.drop k):=sx.sublist (List.drop_sublist _ _);have sy':So κ (Y.take n):=sy.sublist (List.take_sublist _ _);have kx':∀ z∈x.toList,Kd κ z:=λ z hz=>kx z (List.mem_of_mem_drop (by rw [<- ex];exact hz))
 have ky':∀ z∈y.toList,Kd κ z:=λ z hz=>kY z (List.mem_of_mem_take (by rw [<- ey];exact hz))
 have yz:y[0]'(by omega)=Y[0]'(by omega):=by
  have h1:y.toList[0]?=some (y[0]'(by omega)):=qbe (by omega);rw [ey,List.getElem?_take_of_lt (by omega),y0] at h1;exact (Xs h1).symm
 have xz:x[x.size - 1]'(by omega)=X[na - 1]'(by omega):=by
  have h1:x.toList[x.size - 1]?=some (x[x.size - 1]'(by omega)):=qbe (by omega);rw [ex,List.getElem?_drop,show k+(x.size - 1)=na - 1 by omega,xl] at h1;exact (Xs h1).symm
 have hd:∀ z∈x.toList,kl κ (y[0]'(by omega)) z:=λ z hz=>by
  rw [yz];rw [ex] at hz;exact qlR (k2 z hz)
 have hl:∀ z∈y.toList,kl κ z (x[x.size - 1]'(by omega)):=λ z hz=>by
  rw [xz];rw [ey] at hz;exact BtT (n1 z hz)
 have post:∀ (o:Array Keyed) (g:Nat),Gd (kl κ) x.toList y.toList o.toList->wpS (model prog w) A E s (do
   modify λ s=>setArr s (o.toList.zipIdx.foldl (λ a (p,j)=>a.setIfInBounds (sa+k+j) p) (arrOf s))
   return (failedOf (<- get)).isNone) Q (vv (SortSt.mk' (kindOf st) (arrOf st) (((pendingOf st).setIfInBounds i (sa,na+nb,pa)).eraseIdxIfInBounds (i+1)) (gallopOf st) (failedOf st)) g):=by
  rintro o g ⟨so,po⟩;refine wpS_bind (wpS_modify (wpS_bind (wpS_get (wpS_pure ?_))));rw [ex,ey] at po;have lo:o.toList.length=(X.drop k++Y.take n).length:=po.length_eq
  have:=h (X.take k++(o.toList++Y.drop n)) (o.toList.zipIdx.foldl (λ a (x:Keyed×Nat)=>a.setIfInBounds (sa+k+x.2) x.1) (arrOf st)) g ?_ ?_ ?_
  ·have e:(failedOf (vv st g)).isNone=true:=by show (failedOf st).isNone=true;rw [hf];rfl
   show Q (failedOf st).isNone _
   rw [show (failedOf st).isNone=true from e];exact this
  ·refine (((po.append_right (Y.drop n)).append_left (X.take k))).trans (List.Perm.of_eq ?_);rw [Xq,List.take_append_drop,<- Xq,List.take_append_drop]
  ·have mo:∀ z∈o.toList,z∈X.drop k∨z∈Y.take n:=λ z hz=>List.mem_append.mp (po.mem_iff.mp hz)
   have sX:So κ (X.take k++X.drop k):=by rw [List.take_append_drop];exact sx
   have sY:So κ (Y.take n++Y.drop n):=by rw [List.take_append_drop];exact sy
   refine List.pairwise_append.mpr ⟨(List.pairwise_append.mp sX).1,List.pairwise_append.mpr ⟨so,(List.pairwise_append.mp sY).2.1,λ z hz u hu=>?_⟩,λ z hz u hu=>?_⟩
   ·rcases mo z hz with h1 | h1
    ·exact KeyOrd.kle_trans (hxl z (List.mem_of_mem_drop h1)) (qkt (n2 u hu))
    ·exact (List.pairwise_append.mp sY).2.2 z h1 u hu
   ·rcases List.mem_append.mp hu with h1 | h1
    ·rcases mo u h1 with h2 | h2
     ·exact (List.pairwise_append.mp sX).2.2 z hz u h2
     ·exact KeyOrd.kle_trans (BtF (k1 z hz)) (hy0 u (List.mem_of_mem_take h2))
    ·exact KeyOrd.kle_trans (BtF (k1 z hz)) (hy0 u (List.mem_of_mem_drop h1))
  ·have:=qfj (V:=Y.drop n++R) (U:=[]) (sa:=sa+k) o.toList 0 (X.drop k++Y.take n) (L++X.take k) (arrOf st) (by
    rw [ea]
    conv=>lhs;rw [<- List.take_append_drop k X,<- List.take_append_drop n Y]
    simp only [Xq]) (by rw [Xd,Xi];omega) lo.symm
   rw [this];simp only [Xq]
 by_cases hle:na - k<=n
 ·rw [if_pos hle];refine wpS_bind (qfh hO hk kx' ky' ⟨by simpa [ex] using sx',by simpa [ey] using sy',by simp⟩ (by omega) (by omega) hd (λ z hz u hu=>?_) post);rw [yk (qbe (by omega)),List.drop_of_length_le (by rw [Xh];omega),List.append_nil,List.mem_singleton] at hz;rw [hz];exact hl u hu
 ·rw [if_neg hle];refine wpS_bind (qfi hO hk kx' ky' ⟨?_,?_,?_⟩ (by omega) (by omega) (λ z hz u hu=>?_) hl post)
  ·rw [List.append_nil,Xr (by rw [Xh];exact Xe _),ex];exact sx'
  ·rw [List.append_nil,Xr (by rw [Xh];exact Xe _),ey];exact sy'
  ·rw [List.append_nil,Xr (by rw [Xh];exact Xe _),Xr (by rw [Xh];exact Xe _)]
  ·rw [show (1:Nat)=0+1 from rfl,zg (qbe (a:=y) (i:=0) (by omega)),List.take_zero,List.nil_append,List.mem_singleton] at hz;rw [hz];exact hd u hu
end
theorem qaO {α:Type} {r:α->α->Prop} (tr:∀ x y z,r x y->r y z->r x z) {T:List α} {x:Nat} (h:(T.take x).Pairwise r) (h1:1<=x) (hx:x < T.length) (hr:r (T[x - 1]'(by omega)) T[x]):(T.take (x+1)).Pairwise r:=by
 rw [List.take_succ_eq_append_getElem hx];refine List.pairwise_append.mpr ⟨h,List.pairwise_singleton _ _,λ y hy z hz=>?_⟩;rw [List.mem_singleton.mp hz];obtain ⟨j,hj,rfl⟩:=List.getElem_of_mem hy;rw [Xi] at hj;rw [List.getElem_take];rcases Nat.lt_or_ge j (x - 1) with h2 | h2
 ·have:=List.pairwise_iff_getElem.mp h j (x - 1) (by rw [Xi];omega) (by rw [Xi];omega) h2
  rw [List.getElem_take,List.getElem_take] at this;exact tr _ _ _ this hr
 ·have:j=x - 1:=by omega
  subst this;exact hr
theorem qbL {x:Keyed} {V:List Keyed}:∀ (T U:List Keyed) (arr:Array Keyed),arr.toList=U++(T++(x::V))->(bubble arr (U.length+T.length) T.length).toList=U++(x::(T++V))
 | [],U,arr,e=>e
 | t::T,U,arr,e=>by
  have ih:=qbL (x:=x) (V:=V) T (U++[t]) arr (by rw [e];simp);have e1:(U++[t]).length+T.length=U.length+(t::T).length:=by simp;omega
  rw [e1] at ih;show (bubble arr (U.length+(t::T).length) (T.length+1)).toList=_
  rw [bubble_succ];generalize bubble arr (U.length+(t::T).length) T.length=b at ih ⊢;have sz:b.size=U.length+1+(1+(T.length+V.length)):=by rw [<- Xh,ih];simp;omega
  have l1:U.length+(t::T).length - T.length=U.length+1:=by simp;omega
  rw [l1,show U.length+1 - 1=U.length by omega,Array.swapIfInBounds_def,dif_pos (by omega),dif_pos (by omega),Array.toList_swap];have a1:b[U.length]'(by omega)=t:=by
   have:b.toList[U.length]?=some (b[U.length]'(by omega)):=qbe (by omega)
   rw [ih] at this;simpa using this.symm
  have a2:b[U.length+1]'(by omega)=x:=by
   have:b.toList[U.length+1]?=some (b[U.length+1]'(by omega)):=qbe (by omega)
   rw [ih] at this;simpa using this.symm
  rw [a1,a2,ih];simp [List.set_append]
theorem qfl {L D R:List Keyed} {arr:Array Keyed} (e:arr.toList=L++(D++R)):(mirror arr L.length (L.length+D.length) ((L.length+D.length - L.length) / 2)).toList=L++(D.reverse++R):=by
 have sz:arr.size=L.length+(D.length+R.length):=by rw [<- Xh,e];simp
 refine List.ext_getElem? λ k=>?_
 rw [Array.getElem?_toList,getElem?_mirror_all (by omega)];by_cases h:L.length<=k/\k < L.length+D.length
 ·rw [if_pos h,<- Array.getElem?_toList,e,Xy (by omega),Xz (by omega),Xy (by omega),Xz (by rw [List.length_reverse];omega),List.getElem?_reverse (by omega)];congr 1;omega
 ·rw [if_neg h,<- Array.getElem?_toList,e];rcases Nat.lt_or_ge k L.length with h1 | h1
  ·rw [Xz h1,Xz h1]
  ·rw [Xy h1,Xy h1,Xy (by omega),Xy (by rw [List.length_reverse];omega),List.length_reverse]
section
variable {prog:Program} {w:World} {A:Around} {E:Value->Shared->Prop} {s:Shared} {κ:KeyKind} {st:SortSt}
theorem qbg (hO:κ.OneLt) {i j:Nat} {x y:Keyed} {Q:Option Bool->SortSt->Prop} (hk:kindOf st=oneType') (e1:(arrOf st)[i]?=some x) (e2:(arrOf st)[j]?=some y) (hx:Kd κ x) (hy:Kd κ y) (h:Q (some (κ.blt (ky κ x) (ky κ y))) st):wpS (model prog w) A E s (ltAt' i j) Q st:=by
 rw [ltAt'_eq];refine wpS_bind (wpS_get ?_);exact wpS_bind (qR e1 (wpS_bind (qR e2 (qcR hO hk hx hy h))))
theorem jF {L T:List Keyed} {arr:Array Keyed} (e:arr.toList=L++T) {i:Nat} (hi:i < T.length):arr[L.length+i]?=some T[i]:=by
 rw [<- Array.getElem?_toList,e,Xy (by omega),Nat.add_sub_cancel_left];exact Xb hi
theorem qi0 (x y z:Keyed) (h1:kl κ x y) (h2:kl κ y z):kl κ x z:=KeyOrd.kle_trans h1 h2
theorem qcW {r:Keyed->Keyed->Prop} (T:List Keyed):(T.take 1).Pairwise r:=by
 cases T with
 | nil=>simp
 | cons x T=>simp
theorem qcX (hO:κ.OneLt) {lo n ok:Nat} {L T:List Keyed} {Q:Bool->SortSt->Prop} (hk:kindOf st=oneType') (ea:(arrOf st).toList=L++T) (hL:L.length=lo) (hn:n<=T.length) (hok:ok<=n) (kT:∀ x∈T,Kd κ x) (so:So κ (T.take ok)) (n1:1<=n)
  (h:∀ (T':List Keyed) (arr:Array Keyed),T'.Perm T->arr.toList=L++T'->So κ (T'.take n)->Q true (setArr st arr)):wpS (model prog w) A E s (binarySort' lo n ok) Q st:=by
 subst hL;rw [binarySort'_eq];refine wpS_bind (wpS_mono (wpS_forRange
  (I:=λ k c st'=>c=(none,())/\∃ (T':List Keyed) (arr:Array Keyed),T'.Perm T/\arr.toList=L++T'/\So κ (T'.take (min k n))/\st'=setArr st arr)
  (Q:=λ c st'=>c=(none,())/\∃ (T':List Keyed) (arr:Array Keyed),T'.Perm T/\arr.toList=L++T'/\So κ (T'.take n)/\st'=setArr st arr) ?step ?fin ?init) ?post)
 case post =>
  rintro c st' ⟨rfl,T',arr,p,e,so',rfl⟩;exact wpS_pure (h T' arr p e so')
 case fin =>
  rintro c st' ⟨hc,T',arr,p,e,so',rfl⟩;rw [show min (max (max ok 1) n) n=n by omega] at so';exact ⟨hc,T',arr,p,e,so',rfl⟩
 case init =>
  refine ⟨rfl,T,arrOf st,List.Perm.refl _,ea,?_,rfl⟩;by_cases h1:ok=0
  ·subst h1;rw [show min (max 0 1) n=1 by omega];exact qcW T
  ·rw [show min (max ok 1) n=ok by omega];exact so
 case step =>
  rintro k c st' hak hkn ⟨rfl,T',arr,p,e,so',rfl⟩;rw [show min k n=k by omega] at so';have lT:T'.length=T.length:=p.length_eq;have kT':∀ x∈T',Kd κ x:=λ x hx=>kT x (p.mem_iff.mp hx)
  have hkl:k < T'.length:=by omega
  have hk':kindOf (setArr st arr)=oneType':=hk;refine wpS_bind (wpS_mono (wpS_forRange (I:=λ x c st2=>st2=setArr st arr/\∃ l r,c=(none,l,r)/\l<=r/\r<=k/\r - l<=k - x /\
    (∀ y∈(T'.take k).take l,kl κ y T'[k])/\(∀ y∈(T'.take k).drop r,kl κ T'[k] y))
   (Q:=λ c st2=>st2=setArr st arr/\∃ l r,c=(none,l,r)/\l<=k/\(∀ y∈(T'.take k).take l,kl κ y T'[k])/\(∀ y∈(T'.take k).drop l,kl κ T'[k] y)) ?istep ?ifin ?iinit) ?ipost)
  case iinit=>exact ⟨rfl,0,k,rfl,by omega,by omega,by omega,λ y hy=>by simp at hy,λ y hy=>by rw [List.drop_of_length_le (by rw [Xi];omega)] at hy;cases hy⟩
  case ifin =>
   rintro c st2 ⟨rfl,l,r,rfl,hlr,hrk,hm,h1,h2⟩
   have:l=r:=by omega
   subst this;exact ⟨rfl,l,l,rfl,hrk,h1,h2⟩
  case istep =>
   rintro x c st2 _ hxk ⟨rfl,l,r,rfl,hlr,hrk,hm,h1,h2⟩;dsimp only;by_cases hge:l ≥ r
   ·rw [if_pos hge]
    have:l=r:=by omega
    subst this;exact wpS_pure ⟨rfl,l,l,rfl,hrk,h1,h2⟩
   ·rw [if_neg hge];have hml:(l+r) / 2 < T'.length:=by omega
    have hmk:(l+r) / 2 < (T'.take k).length:=by rw [Xi];omega
    refine wpS_bind (qbg hO hk' (jF e hkl) (jF e hml) (kT' _ (List.getElem_mem _)) (kT' _ (List.getElem_mem _)) ?_);cases hc:κ.blt (ky κ T'[k]) (ky κ T'[(l+r) / 2])
    case true =>
     simp only [if_true];refine wpS_pure ⟨rfl,l,(l+r) / 2,rfl,by omega,by omega,by omega,h1,λ y hy=>?_⟩;obtain ⟨j,hj,rfl⟩:=List.getElem_of_mem hy;rw [List.length_drop] at hj;rw [List.getElem_drop];rcases Nat.eq_zero_or_pos j with h3 | h3
     ·subst h3;have e3:(T'.take k)[(l+r) / 2+0]'(by omega)=T'[(l+r) / 2]:=by rw [List.getElem_take];rfl
      rw [e3];exact KeyOrd.kle_of_klt hc
     ·have:=List.pairwise_iff_getElem.mp so' ((l+r) / 2) ((l+r) / 2+j) hmk (by omega) (by omega)
      rw [List.getElem_take] at this;exact KeyOrd.kle_trans (KeyOrd.kle_of_klt hc) this
    case false =>
     simp only [Bool.false_eq_true,if_false];refine wpS_pure ⟨rfl,(l+r) / 2+1,r,rfl,by omega,by omega,by omega,λ y hy=>?_,h2⟩;obtain ⟨j,hj,rfl⟩:=List.getElem_of_mem hy;rw [Xi] at hj;rw [List.getElem_take];rcases Nat.lt_or_ge j ((l+r) / 2) with h3 | h3
     ·have:=List.pairwise_iff_getElem.mp so' j ((l+r) / 2) (by omega) hmk h3
      rw [List.getElem_take (j:=k) (i:=(l+r) / 2)] at this;exact KeyOrd.kle_trans this hc
     ·have:j=(l+r) / 2:=by omega
      subst this;rw [List.getElem_take];exact hc
  case ipost =>
   rintro c st2 ⟨rfl,l,r,rfl,hlk,h1,h2⟩;show wpS _ _ _ _ (do moveDown' (L.length+k) (L.length+l);pure (ForInStep.yield (none,()))) _ _
   rw [moveDown'_eq];have eT:T'=(T'.take k).take l++((T'.take k).drop l++(T'[k]::T'.drop (k+1))):=by
    rw [<- Xq,List.take_append_drop,<- List.drop_eq_getElem_cons,List.take_append_drop]
   have lS:((T'.take k).drop l).length=k - l:=by rw [List.length_drop,Xi];omega
   have lU:(L++(T'.take k).take l).length=L.length+l:=by rw [Xd,Xi,Xi];omega
   have bl:=qbL (x:=T'[k]) (V:=T'.drop (k+1)) ((T'.take k).drop l) (L++(T'.take k).take l) arr (by rw [e,Xq];conv=>lhs;rw [eT]);rw [lU,lS] at bl;refine wpS_bind (wpS_modify (wpS_pure ⟨rfl,(T'.take k).take l++(T'[k]::((T'.take k).drop l++T'.drop (k+1))),bubble arr (L.length+k) (L.length+k - (L.length+l)),?_,?_,?_,rfl⟩))
   ·refine List.Perm.trans ?_ p
    conv=>rhs;rw [eT]
    exact (List.perm_middle.symm).append_left _
   ·rw [show L.length+k - (L.length+l)=k - l by omega];rw [show L.length+l+(k - l)=L.length+k by omega] at bl;rw [bl,Xq]
   ·rw [show min (k+1) n=k+1 by omega];have e3:((T'.take k).take l++(T'[k]::((T'.take k).drop l++T'.drop (k+1)))).take (k+1)=(T'.take k).take l++(T'[k]::(T'.take k).drop l):=by
     rw [show (T'.take k).take l++(T'[k]::((T'.take k).drop l++T'.drop (k+1)))=((T'.take k).take l++(T'[k]::(T'.take k).drop l))++T'.drop (k+1) by simp];rw [show k+1=((T'.take k).take l++(T'[k]::(T'.take k).drop l)).length by rw [Xd,Xt,lS,Xi,Xi];omega,List.take_left]
    rw [e3];have so2:So κ ((T'.take k).take l++(T'.take k).drop l):=by rw [List.take_append_drop];exact so'
    have so3:=List.pairwise_append.mp so2;refine List.pairwise_append.mpr ⟨so3.1,List.pairwise_cons.mpr ⟨h2,so3.2.1⟩,λ y hy z hz=>?_⟩;rcases List.mem_cons.mp hz with h4 | h4
    ·rw [h4];exact h1 y hy
    ·exact so3.2.2 y hy z h4
end
def asc (lo a nrem:Nat):SM (Option (Option Nat)×Nat):=forIn [a:nrem] ((none,a):Option (Option Nat)×Nat) λ _ r=>do
 let c <- ltAt' (lo+r.2) (lo+r.2 - 1)
 match c with
 | some c=>if c then pure (.done (none,r.2)) else pure (.yield (none,r.2+1))
 | _=>pure (.done (some none,r.2))
abbrev Nk (κ:KeyKind) (l:List Keyed):Prop:=l.Pairwise λ x y=>ky κ x≠ky κ y
section
variable {prog:Program} {w:World} {A:Around} {E:Value->Shared->Prop} {s:Shared} {κ:KeyKind} {st:SortSt}
theorem qi1 (hO:κ.OneLt) {lo a:Nat} {L T:List Keyed} {Q:(Option (Option Nat)×Nat)->SortSt->Prop} (hk:kindOf st=oneType') (ea:(arrOf st).toList=L++T) (hL:L.length=lo) (ha:1<=a) (haT:a<=T.length) (kT:∀ x∈T,Kd κ x) (so:So κ (T.take a))
  (h:∀ n,a<=n->n<=T.length->So κ (T.take n)->(∀ (hn:n < T.length),κ.klt (ky κ T[n]) (ky κ (T[n - 1]'(by omega))))->Q (none,n) st):wpS (model prog w) A E s (asc lo a T.length) Q st:=by
 subst hL;unfold asc;refine wpS_forRange (I:=λ x c st'=>st'=st/\c=(none,x)/\So κ (T.take x)) ?step ?fin ⟨rfl,rfl,so⟩
 case fin =>
  rintro c st' ⟨rfl,rfl,so'⟩;rw [show max a T.length=T.length by omega] at so' ⊢;exact h T.length haT (Xe _) so' (λ hn=>absurd hn (XC _))
 case step =>
  rintro x c st' hax hx ⟨rfl,rfl,so'⟩;dsimp only;have e2:(arrOf st')[L.length+x - 1]?=some (T[x - 1]'(by omega)):=by
   rw [show L.length+x - 1=L.length+(x - 1) by omega];exact jF ea (by omega)
  refine wpS_bind (qbg hO hk (jF ea hx) e2 (kT _ (List.getElem_mem _)) (kT _ (List.getElem_mem _)) ?_);cases hc:κ.blt (ky κ T[x]) (ky κ (T[x - 1]'(by omega)))
  case true =>
   simp only [if_true];exact wpS_pure (h x hax (by omega) so' (λ _=>hc))
  case false =>
   simp only [Bool.false_eq_true,if_false];exact wpS_pure ⟨rfl,rfl,qaO qi0 so' (by omega) hx hc⟩
theorem qen (hO:κ.OneLt) {lo:Nat} {L T:List Keyed} {Q:Option Nat->SortSt->Prop} (hk:kindOf st=oneType') (ea:(arrOf st).toList=L++T) (hL:L.length=lo) (h1:1<=T.length) (kT:∀ x∈T,Kd κ x) (nk:Nk κ T)
  (h:∀ (m:Nat) (T':List Keyed) (arr:Array Keyed),T'.Perm T->arr.toList=L++T'->1<=m->m<=T.length->So κ (T'.take m)->Q (some m) (setArr st arr)):wpS (model prog w) A E s (countRun' lo T.length) Q st:=by
 rw [countRun'_eq];refine wpS_bind (show wpS (model prog w) A E s (asc lo 1 T.length) _ _ from qi1 hO hk ea hL (Xe _) h1 kT (qcW T) λ n n1 n2 so hn=>?_);dsimp only;by_cases hnn:n=T.length
 ·rw [if_pos (by simpa using hnn)];exact wpS_pure (h n T (arrOf st) (List.Perm.refl _) ea n1 n2 so)
 rw [if_neg (by simpa using hnn)];by_cases hgt:n > 1
 ·rw [if_pos hgt];have e0:(arrOf st)[lo]?=some T[0]:=by rw [<- hL];exact jF (i:=0) ea (by omega)
  have e1:(arrOf st)[lo+n - 1]?=some (T[n - 1]'(by omega)):=by
   rw [<- hL,show L.length+n - 1=L.length+(n - 1) by omega];exact jF ea (by omega)
  refine wpS_bind (qbg hO hk e0 e1 (kT _ (List.getElem_mem _)) (kT _ (List.getElem_mem _)) ?_);have hlt:κ.blt (ky κ T[0]) (ky κ (T[n - 1]'(by omega)))=true:=by
   cases hc:κ.blt (ky κ T[0]) (ky κ (T[n - 1]'(by omega))) with
   | true=>rfl
   | false =>
    have h2:=List.pairwise_iff_getElem.mp so 0 (n - 1) (by rw [Xi];omega) (by rw [Xi];omega) (by omega);rw [List.getElem_take,List.getElem_take] at h2;exact absurd (KeyOrd.kle_antisymm (O:=κ.toKeyOrd) h2 hc) (List.pairwise_iff_getElem.mp nk 0 (n - 1) (by omega) (by omega) (by omega))
  rw [hlt];dsimp only;rw [if_pos rfl];exact wpS_pure (h n T (arrOf st) (List.Perm.refl _) ea n1 n2 so)
 rw [if_neg hgt];have hn1:n=1:=by omega
 subst hn1;refine wpS_bind (wpS_lift (wpAny_rule ⟨rfl,?_⟩));refine wpS_bind (wpS_mono (wpS_forRange (I:=λ x c st'=>st'=st/\c=(none,x,0)/\(T.take x).Pairwise (λ x y=>kl κ y x))
  (Q:=λ c st'=>st'=st/\∃ x,c=(none,x,0)/\2<=x/\x<=T.length/\(T.take x).Pairwise (λ x y=>kl κ y x)) ?step ?fin ⟨rfl,rfl,?init⟩) ?post)
 case init =>
  exact qaO (r:=λ x y=>kl κ y x) (λ x y z a b=>qi0 _ _ _ b a) (qcW T) (Xe _) (by omega) (KeyOrd.kle_of_klt (hn (by omega)))
 case fin =>
  rintro c st' ⟨rfl,rfl,hp⟩;rw [show max (1+1) T.length=T.length by omega] at hp ⊢;exact ⟨rfl,_,rfl,by omega,Xe _,hp⟩
 case step =>
  rintro x c st' hax hx ⟨rfl,rfl,hp⟩;dsimp only;have ex:(arrOf st')[lo+x]?=some T[x]:=by rw [<- hL];exact jF ea hx
  have ey:(arrOf st')[lo+x - 1]?=some (T[x - 1]'(by omega)):=by
   rw [<- hL,show L.length+x - 1=L.length+(x - 1) by omega];exact jF ea (by omega)
  refine wpS_bind (qbg hO hk ex ey (kT _ (List.getElem_mem _)) (kT _ (List.getElem_mem _)) ?_);cases hc:κ.blt (ky κ T[x]) (ky κ (T[x - 1]'(by omega)))
  case true =>
   simp only [if_true];rw [if_neg (by omega)];exact wpS_pure ⟨rfl,rfl,qaO (r:=λ x y=>kl κ y x) (λ x y z a b=>qi0 _ _ _ b a) hp (by omega) hx (KeyOrd.kle_of_klt hc)⟩
  case false =>
   simp only [Bool.false_eq_true,if_false];refine wpS_bind (qbg hO hk ey ex (kT _ (List.getElem_mem _)) (kT _ (List.getElem_mem _)) ?_);have hlt:κ.blt (ky κ (T[x - 1]'(by omega))) (ky κ T[x])=true:=by
    cases hc2:κ.blt (ky κ (T[x - 1]'(by omega))) (ky κ T[x]) with
    | true=>rfl
    | false=>exact absurd (KeyOrd.kle_antisymm (O:=κ.toKeyOrd) hc hc2) (List.pairwise_iff_getElem.mp nk (x - 1) x (by omega) (by omega) (by omega))
   rw [hlt];simp only [if_true];exact wpS_pure ⟨rfl,x,rfl,hax,by omega,hp⟩
 case post =>
  rintro c st' ⟨rfl,x,rfl,x2,xT,hp⟩;dsimp only;rw [if_neg (by omega)];rw [reverseSlice'_eq];have ml:=qfl (L:=L) (D:=T.take x) (R:=T.drop x) (arr:=arrOf st') (by rw [List.take_append_drop];exact ea);rw [Xi,show min x T.length=x by omega,hL] at ml;refine wpS_bind (wpS_modify ?_);have pT:((T.take x).reverse++T.drop x).Perm T:=by
   refine ((List.reverse_perm _).append_right _).trans (List.Perm.of_eq (List.take_append_drop x T))
  have lT:((T.take x).reverse++T.drop x).length=T.length:=pT.length_eq;rw [<- lT];refine wpS_bind (show wpS (model prog w) A E s (asc lo x ((T.take x).reverse++T.drop x).length) _ _ from qi1 (T:=(T.take x).reverse++T.drop x) hO hk ml hL (by omega) (by omega) (λ y hy=>kT y (pT.mem_iff.mp hy)) ?_ λ n n1 n2 so hn=>?_)
  ·have:x=(T.take x).reverse.length:=by rw [List.length_reverse,Xi];omega
   rw [List.take_append_of_le_length (by omega),Xr (by omega)];exact List.pairwise_reverse.mpr hp
  ·exact wpS_pure (h n _ _ pT ml (by omega) (by omega) so)
end
inductive Rs (κ:KeyKind):Nat->List (Nat×Nat×Nat)->List Keyed->Prop
 | nil (o:Nat):Rs κ o [] []
 | cons {o n p:Nat} {X:List Keyed} {ps:List (Nat×Nat×Nat)} {T:List Keyed}:X.length=n->0 < n->So κ X->Rs κ (o+n) ps T->Rs κ o ((o,n,p)::ps) (X++T)
theorem Rs.snoc {κ:KeyKind} {o:Nat} {ps:List (Nat×Nat×Nat)} {T X:List Keyed} {n p:Nat} (h:Rs κ o ps T) (hX:X.length=n) (hn:0 < n) (so:So κ X):Rs κ o (ps++[(o+T.length,n,p)]) (T++X):=by
 induction h with
 | nil o=>
  have:=Rs.cons (p:=p) (o:=o) hX hn so (Rs.nil (κ:=κ) (o+n))
  simpa using this
 | cons e1 e2 e3 _ ih =>
  rw [Xq,Xd,e1];refine Rs.cons e1 e2 e3 ?_;rw [<- Nat.add_assoc];exact ih
theorem Rs.len {κ:KeyKind} {o:Nat} {ps:List (Nat×Nat×Nat)} {T:List Keyed} (h:Rs κ o ps T):ps.length<=T.length:=by
 induction h with
 | nil o=>exact Xe _
 | cons e1 e2 _ _ ih=>rw [Xt,Xd];omega
theorem Rs.at2 {κ:KeyKind} {o:Nat} {ps:List (Nat×Nat×Nat)} {T:List Keyed} (h:Rs κ o ps T):∀ {i:Nat} {sa na pa sb nb pb:Nat},ps[i]?=some (sa,na,pa)->ps[i+1]?=some (sb,nb,pb) ->
  ∃ L X Y R,T=L++(X++(Y++R))/\o+L.length=sa/\X.length=na/\Y.length=nb/\0 < na/\0 < nb/\sb=sa+na/\So κ X/\So κ Y /\
   ∀ Z,Z.length=na+nb->So κ Z->Rs κ o ((ps.set i (sa,na+nb,pa)).eraseIdx (i+1)) (L++(Z++R)):=by
 induction h with
 | nil o=>intro i sa na pa sb nb pb h1 _;simp at h1
 | @cons o n p X ps T e1 e2 e3 hr ih =>
  intro i sa na pa sb nb pb h1 h2;cases i with
  | zero =>
   simp only [List.getElem?_cons_zero,Option.some.injEq,Prod.mk.injEq] at h1;obtain ⟨rfl,rfl,rfl⟩:=h1;cases hr with
   | nil=>simp at h2
   | @cons _ n2 p2 Y ps T e4 e5 e6 hr =>
    simp only [List.getElem?_cons_succ,List.getElem?_cons_zero,Option.some.injEq,Prod.mk.injEq] at h2;obtain ⟨rfl,rfl,rfl⟩:=h2;refine ⟨[],X,Y,T,rfl,rfl,e1,e4,e2,e5,rfl,e3,e6,λ Z hZ so=>?_⟩;show Rs κ o ((o,n+n2,p)::ps) (Z++T)
    refine Rs.cons hZ (by omega) so ?_;rw [<- Nat.add_assoc];exact hr
  | succ i =>
   rw [List.getElem?_cons_succ] at h1 h2;obtain ⟨L,X',Y,R,rfl,a1,a2,a3,a4,a5,a6,a7,a8,a9⟩:=ih h1 h2;refine ⟨X++L,X',Y,R,by rw [Xq],by rw [Xd];omega,a2,a3,a4,a5,a6,a7,a8,λ Z hZ so=>?_⟩;rw [Xq];exact Rs.cons e1 e2 e3 (a9 Z hZ so)
theorem Rs.repower {κ:KeyKind} {o:Nat} {ps:List (Nat×Nat×Nat)} {T:List Keyed} (h:Rs κ o ps T) (q:Nat):∀ i,Rs κ o (ps.modify i λ x=>(x.1,x.2.1,q)) T:=by
 induction h with
 | nil o=>intro i;cases i <;> exact Rs.nil _
 | cons e1 e2 e3 hr ih =>
  intro i;cases i with
  | zero=>exact Rs.cons e1 e2 e3 hr
  | succ i=>exact Rs.cons e1 e2 e3 (ih i)
theorem Rs.one {κ:KeyKind} {ps:List (Nat×Nat×Nat)} {T:List Keyed} (h:Rs κ 0 ps T) (hl:ps.length<=1):So κ T:=by
 cases h with
 | nil=>exact List.Pairwise.nil
 | cons e1 e2 e3 hr =>
  cases hr with
  | nil=>rw [List.append_nil];exact e3
  | cons _ _ _ _=>simp at hl
def Rt (κ:KeyKind) (a₀:List Keyed) (st:SortSt) (lo:Nat) (T:List Keyed):Prop :=
 kindOf st=oneType'/\failedOf st=none/\∃ D,(arrOf st).toList=D++T/\D.length=lo/\(D++T).Perm a₀/\Rs κ 0 (pendingOf st).toList D
section
variable {prog:Program} {w:World} {A:Around} {E:Value->Shared->Prop} {s:Shared} {κ:KeyKind} {st:SortSt}
theorem qaP (hO:κ.OneLt) {a₀ T:List Keyed} {lo i:Nat} {Q:Bool->SortSt->Prop} (k0:∀ x∈a₀,Kd κ x) (rt:Rt κ a₀ st lo T) (hi:i+1 < (pendingOf st).size)
  (h:∀ st',Rt κ a₀ st' lo T->(pendingOf st').size+1=(pendingOf st).size->Q true st'):wpS (model prog w) A E s (mergeAt' i) Q st:=by
 obtain ⟨hk,hf,D,ea,hD,pm,rs⟩:=rt;obtain ⟨⟨sa,na,pa⟩,e1⟩:∃ x,(pendingOf st).toList[i]?=some x:=⟨_,Xb (by rw [Xh];omega)⟩;obtain ⟨⟨sb,nb,pb⟩,e2⟩:∃ x,(pendingOf st).toList[i+1]?=some x:=⟨_,Xb (by rw [Xh];omega)⟩;obtain ⟨L,X,Y,R,rfl,a1,a2,a3,a4,a5,a6,a7,a8,a9⟩:=rs.at2 e1 e2;have kd:∀ x∈X++Y,Kd κ x:=λ x hx=>k0 x (pm.mem_iff.mp (by
  rcases List.mem_append.mp hx with h | h <;> simp [h]))
 refine qfk hO (L:=L) (X:=X) (Y:=Y) (R:=R++T) hk hf (by rw [<- Array.getElem?_toList];exact e1) (by rw [<- Array.getElem?_toList];exact e2) a6 (by rw [ea];simp only [Xq]) (by omega) a2 a3 a4 a5 a7 a8 (λ x hx=>kd x (List.mem_append_left _ hx)) (λ x hx=>kd x (List.mem_append_right _ hx)) λ Z arr g pz sz ez=>?_
 have lZ:Z.length=na+nb:=by rw [pz.length_eq,Xd,a2,a3]
 refine h _ ⟨hk,hf,L++(Z++R),?_,?_,?_,?_⟩ ?_
 ·show arr.toList=_
  rw [ez];simp only [Xq]
 ·rw [<- hD];simp only [Xd];omega
 ·refine List.Perm.trans ?_ pm;refine List.Perm.append_right T (List.Perm.append_left L ?_);rw [<- Xq X];exact pz.append_right R
 ·show Rs κ 0 (((pendingOf st).setIfInBounds i (sa,na+nb,pa)).eraseIdxIfInBounds (i+1)).toList _
  rw [show (((pendingOf st).setIfInBounds i (sa,na+nb,pa)).eraseIdxIfInBounds (i+1)).toList=((pendingOf st).toList.set i (sa,na+nb,pa)).eraseIdx (i+1) by simp [Array.eraseIdxIfInBounds,hi]];exact a9 Z lZ sz
 ·show (((pendingOf st).setIfInBounds i (sa,na+nb,pa)).eraseIdxIfInBounds (i+1)).size+1=_
  simp only [Array.eraseIdxIfInBounds,Array.size_setIfInBounds,hi,dif_pos,Array.size_eraseIdx];omega
end
section
variable {prog:Program} {w:World} {A:Around} {E:Value->Shared->Prop} {s:Shared} {κ:KeyKind} {st:SortSt}
theorem Rt.len {a₀ T:List Keyed} {lo:Nat} (h:Rt κ a₀ st lo T):lo+T.length=a₀.length:=by
 obtain ⟨_,_,D,_,hD,pm,_⟩:=h
 have:=pm.length_eq
 rw [Xd] at this;omega
theorem Rt.push {a₀ T:List Keyed} {lo n:Nat} (h:Rt κ a₀ st lo T) (n1:1<=n) (n2:n<=T.length) (so:So κ (T.take n)):Rt κ a₀ (setPending st ((pendingOf st).push (lo,n,0))) (lo+n) (T.drop n):=by
 obtain ⟨b1,b2,D,b3,b4,b5,b6⟩:=h;refine ⟨b1,b2,D++T.take n,?_,?_,?_,?_⟩
 ·show (arrOf st).toList=_
  rw [b3,Xq,List.take_append_drop]
 ·rw [Xd,Xi];omega
 ·rw [Xq,List.take_append_drop];exact b5
 ·show Rs κ 0 ((pendingOf st).push (lo,n,0)).toList _
  rw [Array.toList_push]
  have:=b6.snoc (p:=0) (X:=T.take n) (n:=n) (by rw [Xi];omega) (by omega) so
  rw [Nat.zero_add,b4] at this;exact this
theorem Rt.repower {a₀ T:List Keyed} {lo q:Nat} {f:Nat×Nat×Nat->Nat×Nat×Nat} (h:Rt κ a₀ st lo T) (hf:f=λ x=>(x.1,x.2.1,q)) (i:Nat):Rt κ a₀ (setPending st ((pendingOf st).modify i f)) lo T:=by
 subst hf;obtain ⟨b1,b2,D,b3,b4,b5,b6⟩:=h;refine ⟨b1,b2,D,b3,b4,b5,?_⟩;show Rs κ 0 ((pendingOf st).modify i λ x=>(x.1,x.2.1,q)).toList D
 rw [Array.toList_modify];exact b6.repower _ _
theorem qdh (hO:κ.OneLt) {a₀:Array Keyed} {Q:Unit->SortSt->Prop} (k0:∀ x∈a₀.toList,Kd κ x) (nk:Nk κ a₀.toList) (hk:kindOf st=oneType') (hf:failedOf st=none) (hp:pendingOf st=#[]) (ha:arrOf st=a₀)
  (h:∀ st',(arrOf st').Perm a₀->failedOf st'=none->So κ (arrOf st').toList->Q () st'):wpS (model prog w) A E s sortRuns' Q st:=by
 have nkp:∀ {l:List Keyed},l.Perm a₀.toList->Nk κ l:=λ p=>(p.pairwise_iff (λ {x y} hxy e=>hxy e.symm)).mpr nk
 rw [sortRuns'_eq];refine wpS_bind (wpS_get ?_);dsimp only;rw [ha];have rt0:Rt κ a₀.toList st 0 a₀.toList:=⟨hk,hf,[],by rw [ha];rfl,rfl,List.Perm.refl _,by rw [hp];exact Rs.nil _⟩;refine wpS_bind (wpS_mono (wpS_forRange
  (I:=λ x (c:Option Unit×Nat) st'=>c.1=none/\∃ T,Rt κ a₀.toList st' c.2 T/\(x<=c.2∨c.2=a₀.size))
  (Q:=λ c st'=>c.1=none/\Rt κ a₀.toList st' a₀.size []) ?step ?fin ⟨rfl,_,rt0,.inl (Xe _)⟩) ?post)
 case fin =>
  rintro ⟨v,lo⟩ st' ⟨hv,T,rt,hx⟩
  have:=rt.len
  have hl0:a₀.toList.length=a₀.size:=Xh;change lo+_=_ at this
  change max 0 a₀.size<=lo∨lo=a₀.size at hx
  have e:lo=a₀.size:=by omega
  have e2:T=[]:=List.length_eq_zero_iff.mp (by omega);subst e;subst e2;exact ⟨hv,rt⟩
 case step =>
  rintro x ⟨v,lo⟩ st' _ hx ⟨hv,T,rt,hxl⟩;have hv':v=none:=hv;subst hv';change x<=lo∨lo=a₀.size at hxl
  change Rt κ a₀.toList st' lo T at rt
  dsimp only;have hle:=rt.len;have hl0:a₀.toList.length=a₀.size:=Xh;by_cases hge:lo ≥ a₀.size
  ·rw [if_pos hge];have e:lo=a₀.size:=by omega
   have e2:T=[]:=List.length_eq_zero_iff.mp (by omega);subst e;subst e2;exact wpS_pure ⟨rfl,rt⟩
  rw [if_neg hge];obtain ⟨hk',hf',D,ea,hD,pm,rs⟩:=rt;have lT:a₀.size - lo=T.length:=by omega
  have kT:∀ x∈T,Kd κ x:=λ x hx=>k0 x (pm.mem_iff.mp (List.mem_append_right _ hx))
  have nT:Nk κ T:=(List.pairwise_append.mp (nkp pm)).2.1;rw [lT];refine wpS_bind (qen hO hk' ea hD (by omega) kT nT λ m T1 arr1 p1 ea1 m1 m2 so1=>?_);dsimp only;have l1:T1.length=T.length:=p1.length_eq;have rt1:∀ (T2:List Keyed) (arr2:Array Keyed),T2.Perm T->arr2.toList=D++T2->Rt κ a₀.toList (setArr st' arr2) lo T2:=λ T2 arr2 p2 ea2=>⟨hk',hf',D,ea2,hD,(p2.append_left D).trans pm,rs⟩
  by_cases hlt:m < minRun' a₀.size a₀.size 0
  ·rw [if_pos hlt];refine wpS_bind (wpS_lift (wpAny_rule ⟨rfl,?_⟩));refine wpS_bind (qcX hO (st:=setArr st' arr1) hk' ea1 hD (n:=min T.length (minRun' a₀.size a₀.size 0)) (by omega) (by omega) (λ y hy=>kT y (p1.mem_iff.mp hy)) so1 (by omega) λ T2 arr2 p2 ea2 so2=>?_);simp only [Bool.not_true,Bool.false_eq_true,if_false];have l2:T2.length=T.length:=(p2.trans p1).length_eq;refine wpS_bind (wpS_get ?_);cases (pendingOf (setArr st' arr2)).back? with
   | none =>
    dsimp only;exact wpS_bind (wpS_modify (wpS_pure ⟨rfl,_,Rt.push (rt1 T2 arr2 (p2.trans p1) ea2) (by omega) (by omega) so2,.inl (by show x+1<=lo+min T.length (minRun' a₀.size a₀.size 0);omega)⟩))
   | some u =>
    obtain ⟨s1,k1,z⟩:=u;dsimp only;refine wpS_bind (wpS_mono (wpS_forRange (I:=λ _ (c:Option Unit×Unit) st2=>c=(none,())/\Rt κ a₀.toList st2 lo T2) (Q:=λ c st2=>c=(none,())/\Rt κ a₀.toList st2 lo T2) ?cstep (λ _ _ hh=>hh) ⟨rfl,rt1 T2 arr2 (p2.trans p1) ea2⟩) ?cpost)
    case cstep =>
     rintro y c st2 _ _ ⟨rfl,rt2⟩;refine wpS_bind (wpS_get ?_);by_cases h2:(pendingOf st2).size > 1
     ·rw [if_pos h2];obtain ⟨⟨u,v,z⟩,e⟩:∃ x,(pendingOf st2)[(pendingOf st2).size - 2]?=some x:=⟨_,getElem?_pos _ _ (by omega)⟩;rw [e];dsimp only;by_cases h3:z<=power' a₀.size (2 * s1+k1) (2 * s1+k1+k1+min T.length (minRun' a₀.size a₀.size 0)) a₀.size
      ·rw [if_pos h3];exact wpS_pure ⟨rfl,rt2⟩
      ·rw [if_neg h3];refine wpS_bind (qaP hO k0 rt2 (by omega) λ st3 rt3 _=>?_);simp only [Bool.not_true,Bool.false_eq_true,if_false];exact wpS_pure ⟨rfl,rt3⟩
     ·rw [if_neg h2];exact wpS_pure ⟨rfl,rt2⟩
    case cpost =>
     rintro c st2 ⟨rfl,rt2⟩;dsimp only;refine wpS_bind (wpS_modify ?_);refine wpS_bind (wpS_modify (wpS_pure ⟨rfl,_,Rt.push (rt2.repower rfl _) (by omega) (by omega) so2,.inl (by show x+1<=lo+min T.length (minRun' a₀.size a₀.size 0);omega)⟩))
  ·rw [if_neg hlt];refine wpS_bind (wpS_get ?_);cases (pendingOf (setArr st' arr1)).back? with
   | none =>
    dsimp only;exact wpS_bind (wpS_modify (wpS_pure ⟨rfl,_,Rt.push (rt1 T1 arr1 p1 ea1) m1 (by omega) so1,.inl (by show x+1<=lo+m;omega)⟩))
   | some u =>
    obtain ⟨s1,k1,z⟩:=u;dsimp only;refine wpS_bind (wpS_mono (wpS_forRange (I:=λ _ (c:Option Unit×Unit) st2=>c=(none,())/\Rt κ a₀.toList st2 lo T1) (Q:=λ c st2=>c=(none,())/\Rt κ a₀.toList st2 lo T1) ?cstep (λ _ _ hh=>hh) ⟨rfl,rt1 T1 arr1 p1 ea1⟩) ?cpost)
    case cstep =>
     rintro y c st2 _ _ ⟨rfl,rt2⟩;refine wpS_bind (wpS_get ?_);by_cases h2:(pendingOf st2).size > 1
     ·rw [if_pos h2];obtain ⟨⟨u,v,z⟩,e⟩:∃ x,(pendingOf st2)[(pendingOf st2).size - 2]?=some x:=⟨_,getElem?_pos _ _ (by omega)⟩;rw [e];dsimp only;by_cases h3:z<=power' a₀.size (2 * s1+k1) (2 * s1+k1+k1+m) a₀.size
      ·rw [if_pos h3];exact wpS_pure ⟨rfl,rt2⟩
      ·rw [if_neg h3];refine wpS_bind (qaP hO k0 rt2 (by omega) λ st3 rt3 _=>?_);simp only [Bool.not_true,Bool.false_eq_true,if_false];exact wpS_pure ⟨rfl,rt3⟩
     ·rw [if_neg h2];exact wpS_pure ⟨rfl,rt2⟩
    case cpost =>
     rintro c st2 ⟨rfl,rt2⟩;dsimp only;refine wpS_bind (wpS_modify ?_);refine wpS_bind (wpS_modify (wpS_pure ⟨rfl,_,Rt.push (rt2.repower rfl _) m1 (by omega) so1,.inl (by show x+1<=lo+m;omega)⟩))
 case post =>
  rintro ⟨v,lo⟩ st' ⟨hv,rt⟩;have hv':v=none:=hv;subst hv';dsimp only;have fin:∀ st',Rt κ a₀.toList st' a₀.size []->(pendingOf st').size<=1->Q () st':=by
   rintro st' ⟨b1,b2,D,b3,b4,b5,b6⟩ hs;rw [List.append_nil] at b3 b5;exact h st' (Array.perm_iff_toList_perm.mpr (by rw [b3];exact b5)) b2 (by rw [b3];exact b6.one (by rw [Xh];exact hs))
  have hsz:(pendingOf st').size<=a₀.size:=by
   obtain ⟨b1,b2,D,b3,b4,b5,b6⟩:=rt
   have:=b6.len
   rw [Xh] at this;omega
  refine wpS_bind (wpS_mono (wpS_forRange (I:=λ x (c:Option Unit×Unit) st2=>c=(none,())/\Rt κ a₀.toList st2 a₀.size []/\((pendingOf st2).size<=1∨(pendingOf st2).size+x<=a₀.size))
   (Q:=λ c st2=>c=(none,())/\Rt κ a₀.toList st2 a₀.size []/\(pendingOf st2).size<=1) ?step2 ?fin2 ⟨rfl,rt,.inr hsz⟩) ?post2)
  case post2 =>
   rintro c st2 ⟨rfl,rt2,hs⟩;exact wpS_pure (fin st2 rt2 hs)
  case fin2 =>
   rintro c st2 ⟨rfl,rt2,hs⟩;exact ⟨rfl,rt2,by omega⟩
  case step2 =>
   rintro x c st2 _ hx ⟨rfl,rt2,hs⟩;refine wpS_bind (wpS_get ?_);by_cases h1:(pendingOf st2).size<=1
   ·rw [if_pos h1];exact wpS_pure ⟨rfl,rt2,h1⟩
   ·rw [if_neg h1];refine wpS_bind (qaP hO k0 rt2 ?_ λ st3 rt3 hs3=>?_)
    ·repeat' split
     all_goals omega
    ·simp only [Bool.not_true,Bool.false_eq_true,if_false];exact wpS_pure ⟨rfl,rt3,.inr (by omega)⟩
end
end FsS
namespace FsS
open PySem PyProof.Rows PySem.Spec
section
variable {prog:Program} {w:World} {A:Around} {E:Value->Shared->Prop} {s:Shared}
theorem So.to {κ:KeyKind} {xs:Array Keyed} (h:So κ xs.toList):SortedToK κ xs xs.size:=by
 intro i j hij hj;have kk:∀ k,(hk:k < xs.size)->KK κ xs k=ky κ xs[k]:=λ k hk=>by
  unfold KK ky;rw [getElem?_pos xs k hk]
 rw [kk i (by omega),kk j hj];rcases Nat.lt_or_ge i j with h1 | h1
 ·have:=List.pairwise_iff_getElem.mp h i j (by rw [Xh];omega) (by rw [Xh];omega) h1
  simpa using this
 ·have:i=j:=by omega
  subst this;exact KeyOrd.kle_refl _
theorem nk_strs:∀ {vs:List Value} {ss:List Str},StrsAre vs ss->ss.Nodup->Nk strKind (vs.zip vs)
 | _,_,.nil,_=>List.Pairwise.nil
 | _,_,.cons (ys:=ss) x t h,nd=>by
  have nd':=List.nodup_cons.mp nd;rw [List.zip_cons_cons];refine List.pairwise_cons.mpr ⟨λ p hp e=>?_,nk_strs h nd'.2⟩;have hm:=(mem_zip_self hp).2;obtain ⟨y,u,ey⟩:=h.all _ hm;have hy:y∈ss:=by
   rw [<- h.strs];exact List.mem_map.mpr ⟨p.1,hm,by rw [ey];rfl⟩
  have e1:ky strKind p=y.cps.toList:=by unfold ky;rw [ey];rfl
  have e2:x.cps.toList=y.cps.toList:=(show ky strKind (Value.str x t,Value.str x t)=_ from rfl).symm.trans (e.trans e1);have e3:x=y:=by
   cases x;cases y
   congr 1
   exact Array.toList_inj.mp e2
  exact nd'.1 (e3 ▸ hy)
theorem sort_method {κ:KeyKind} (one:κ.OneLt) {l:Addr} {vs:List Value} {c:Nat} {R:Fin->Shared->Prop} (at_:s.heap.get? l=some (seqObj "list" vs.toArray c)) (ks:KeysOf κ (pairsOf vs)) (un:Nk κ (pairsOf vs).toList)
  (kind:∀ u v r,vs=u::v::r->keyKind' (u::v::r).toArray=pure oneType') (few:vs.length < 100000)
  (fin:∀ st':SortSt,(arrOf st').Perm (pairsOf vs)->SortedToK κ (arrOf st') (pairsOf vs).size->R (.done (.ret .none)) { s with heap:=sortedHeap s.heap l vs ((arrOf st').map (·.2)) }) :
  wpAny (model prog w) A (Builtin.«list.sort» ⟨[.ref l],[]⟩) R E s:=by
 by_cases short:vs.length < 64
 ·exact list_sort_treeK one at_ ks kind short fin
 have lt0:l < s.heap.objs.size:=Xm at_;rw [list_sort_plain];refine Xf (listItems_at at_ rfl (Xf (listUpdate_at at_ rfl ?_ (by rw [sizeLine_eq,Xl];omega))));obtain ⟨e,h1⟩:∃ e,(s.heap.update l (Obj.mapSeq λ _=>#[])).get? l=some (seqObj "list" #[] e):=⟨_,get?_update_seq at_ (λ _=>#[])⟩;refine Xf (seqEpoch_at h1 rfl (Xf (wpAny_newTuple (Xf (wpAny_newList (wpAny_holding ?_))))));have h2:(((s.heap.update l (Obj.mapSeq λ _=>#[])).push (seqObj "tuple" vs.toArray 0)).push (seqObj "list" #[] 0)).get? l=some (seqObj "list" #[] e) :=
  (Heap.get?_push_ne _ _ _ (by rw [size_push',Heap.size_update];exact Xo (Nat.lt_succ_of_lt lt0))).trans ((Heap.get?_push_ne _ _ _ (by rw [Heap.size_update];exact Xo lt0)).trans h1)
 show wpAny (model prog w) A _ R E { s with heap:=((s.heap.update l (Obj.mapSeq λ _=>#[])).push (seqObj "tuple" vs.toArray 0)).push (seqObj "list" #[] 0) }
 have big:¬ vs.toArray.size < 2:=by simp;omega
 dsimp only;rw [if_neg big,if_neg big];obtain ⟨u,v,r,rfl⟩:∃ u v r,vs=u::v::r:=by
  match vs,short with
  | [],h=>simp at h
  | [_],h=>simp at h
  | u::v::r,_=>exact ⟨u,v,r,rfl⟩
 rw [kind u v r rfl];refine Xf (Xg (Xf (wpAny_mono (qdh one (a₀:=pairsOf (u::v::r)) (st:=SortSt.mk' oneType' (pairsOf (u::v::r)) #[] 7 none)
  (Q:=λ _ st'=>(arrOf st').Perm (pairsOf (u::v::r))/\failedOf st'=none/\So κ (arrOf st').toList) ks un rfl rfl rfl rfl λ st' p f o=>⟨p,f,o⟩) ?_ λ _ _ z=>z)))
 rintro ⟨⟨⟩,st'⟩ s' ⟨rfl,p,f,o⟩;have sz:(arrOf st').size=(u::v::r).length:=p.size_eq.trans (pairsOf_size _);dsimp only;refine Xf (seqEpoch_at h2 rfl (Xf (listUpdate_at h2 rfl ?_ (hsz2:=by rw [Array.size_map,sz,sizeLine_eq];omega))));rw [f];simp only [bne_self_eq_false,Bool.false_eq_true,if_false];refine Xg (fin st' p ?_);rw [<- p.size_eq];exact o.to
end
end FsS
namespace L2
open PySem PySem.Spec PyProof.Rows
section
variable {prog:Program} {w:World} {A:Around} {E:Value->Shared->Prop} {s:Shared}
theorem qhQ {S:Addr} {ys:List Str} {Q:Value->Shared->Prop} (hh:A.handled=none) (hS:qP prog w s.heap S ys) (few:ys.length < 4096) (un:ys.Nodup)
  (h:∀ (l:Addr) (h':Heap) (tk e:Nat) (d:Drawn) (out:Array Value) (ss':List Str),(∀ b o,s.heap.get? b=some o->h'.get? b=some o)->s.heap.objs.size<=l->h'.get? l=some (seqObj "list" out e)->StrsAre out.toList ss'->ss'.Perm ys->sortedS ss'=true ->
   Q (.ref l) { s with heap:=h',toks:=tk,drawn:=d }):wpAny (model prog w) A (call (.builtin "sorted") [.ref S]) Q E s:=by
 refine Calls.call_function_entry kind_sorted plain_sorted entry_sorted (args_sorted1 _) ?_;unfold Builtin.«sorted»;refine Xf (m:=checkCount "sorted" 1 1 _) (Xg ?_);refine Xf (qdD (by simpa using hh) hS λ h1 tk d vs zs hk hle hz hA=>?_);have nz:zs.Nodup:=hz.nodup_iff.mpr un;have hl:vs.length < 100000:=by
  have:vs.length=zs.length:=hA.length
  rw [this,hz.length_eq];omega
 refine Xf (wpAny_newList ?_);have hoL:(h1.push (seqObj "list" vs.toArray 0)).get? h1.objs.size=some (seqObj "list" vs.toArray 0):=Xk _ rfl;refine Xf (wpAny_holding (wpAny_call_entry slot_list_sort ⟨_,hoL,rfl⟩ entry_list_sort (FsS.sort_method strKind_oneLt hoL hA.keysOf (by rw [pairsOf_toList];exact FsS.nk_strs hA nz) (λ v₁ v₂ rest e=>keyKind_strs (by rw [<- e];exact hA)) hl λ st' a1 a2=>⟨_,rfl,?_⟩) (args_list_sort _)));obtain ⟨ss',b1,b2,b3⟩:=sorted_out_str hA a1 a2;obtain ⟨e,he⟩:=sortedHeap_at (out:=(arrOf st').map (·.2)) hoL;refine Xg ⟨_,rfl,h h1.objs.size _ tk e d _ ss' (λ b o q=>?_) (Nat.le_of_lt hle) he b1 (b2.trans hz) b3⟩;have q1:=hk b o q;have hb:=Xm q1;rw [sortedHeap_old (Xo hb) (by rw [Heap.size_push];exact Nat.lt_succ_of_lt hb)];exact Xc _ q1
theorem qhR {l:Addr} {vs:List Value} {ss:List Str} {Q:Value->Shared->Prop} (hl:s.heap.IsList l vs.toArray) (hA:StrsAre vs ss) (few:vs.length < 4096) (un:ss.Nodup)
  (h:∀ (out:Array Value) (ss':List Str),StrsAre out.toList ss'->ss'.Perm ss->sortedS ss'=true->Q (.ref (s.heap.objs.size+1)) { s with heap:=sortedAll s.heap vs out }) :
  wpAny (model prog w) A (call (.builtin "sorted") [.ref l]) Q E s:=by
 refine Calls.call_function_entry kind_sorted plain_sorted entry_sorted (args_sorted1 _) ?_;unfold Builtin.«sorted»;refine Xf (m:=checkCount "sorted" 1 1 _) (Xg ?_);refine Xf (collect_list hl (Xf (wpAny_newList ?_)));generalize hg:(s.heap.push (seqObj "list" #[] 0)).update s.heap.objs.size (Obj.mapSeq (·++vs.toArray))=g;have sz:g.objs.size=s.heap.objs.size+1:=by rw [<- hg,Heap.size_update,size_push']
 have at_:(g.push (seqObj "list" vs.toArray 0)).get? (s.heap.objs.size+1)=some (seqObj "list" vs.toArray 0):=by rw [<- sz];exact Xk _ rfl
 show wpAny _ _ _ _ _ { s with heap:=g.push (seqObj "list" vs.toArray 0) }
 rw [sz];refine Xf (wpAny_holding (wpAny_call_entry slot_list_sort ⟨_,at_,rfl⟩ entry_list_sort (FsS.sort_method strKind_oneLt at_ hA.keysOf (by rw [pairsOf_toList];exact FsS.nk_strs hA un) (λ v₁ v₂ rest e=>keyKind_strs (by rw [<- e];exact hA)) (by omega) λ st' a1 a2=>⟨_,rfl,?_⟩) (args_list_sort _)));obtain ⟨ss',b1,b2,b3⟩:=sorted_out_str hA a1 a2
 have:=h _ ss' b1 b2 b3
 refine Xg ⟨_,rfl,?_⟩;subst hg;exact this
end
section
variable {X:Cx}
theorem kQ (hc:X.calm=true):jh X (.builtin "sorted") (λ xs H Q=>∃ p ys,xs=[.ref p]/\H p=some (qec X.prog X.w p ys)/\ys.length < 4096/\ys.Nodup/\∀ l,H l=none->Q (.ref l) (upd H l (.lst ((qa4 ys).map V.str)))):=by
 intro pins s σ H xs us Q I r h;obtain ⟨p,ys,rfl,hp,h64,un,q⟩:=h;obtain ⟨u,rfl,ru⟩:=yr r;cases ru
 obtain ⟨ys',hp',hS⟩:=I.set hp;refine qhQ (I.ok.hd hc) hS (by rw [hp'.length_eq];exact h64) (hp'.nodup_iff.mpr un) λ l h' tk e d out ss' hk hle he h1 h2 h3=>?_
 have es:=qea (h2.trans hp') h3;subst es;have hf:=I.hok.fresh hle;refine ⟨.ref l,upd H l (.lst ((qa4 ys).map V.str)),I.call' (s':={ s with heap:=h',toks:=tk,drawn:=d }) (ch:=[]) rfl (Un.laid hk hle hf) (I.hok.laid hk hle ⟨?_,out.toList,e,vp h1,he⟩) I.bare (λ _ z=>nomatch z),rfl,q _ hf⟩
 have:(qa4 ys).length=ys.length:=(h2.trans hp').length_eq
 rw [Xa,this];exact Nat.le_of_lt (Nat.lt_of_lt_of_le h64 (by decide))
theorem kS:jh X (.builtin "sorted") (λ xs H Q=>∃ p ss,xs=[.ref p]/\SqL X.K H p (ss.map V.str)/\ss.length < 4096/\ss.Nodup/\∀ l,H l=none->Q (.ref l) (upd H l (.lst ((qa4 ss).map V.str)))):=by
 intro pins s σ H xs us Q I r h;obtain ⟨p,ss,rfl,hq,h64,un,q⟩:=h;obtain ⟨u,rfl,ru⟩:=yr r;cases ru
 obtain ⟨its,rv,pl,hz⟩:=I.list hq;have hl:=rv.length;rw [Xa] at hl;refine qhR pl.isList (vo rv) (by omega) un λ out ss' h1 h2 h3=>?_
 obtain ⟨e,he⟩:=sortedAll_at s.heap its out;have es:=qea h2 h3;subst es;refine ⟨.ref (s.heap.objs.size+1),_,I.laid (a:=s.heap.objs.size+1) (o:=.lst ((qa4 ss).map V.str)) (t':=s.toks) (λ _ _=>sortedAll_old) (Nat.le_succ _) ⟨?_,out.toList,e,vp h1,he⟩,rfl,q _ (I.hok.fresh (Nat.le_succ _))⟩;rw [Xa] at hz ⊢;rw [h2.length_eq];exact hz
end
end L2
namespace Fs
def vw (ρ:Nat->Bool):Nat->List Nat->Nat
 | n,[]=>n
 | n,c::ls=>vw ρ (2 * n+if ρ c then 1 else 0) ls
theorem kU (ρ:Nat->Bool):∀ (ls:List Nat) (n:Nat),vw ρ n ls=n * 2 ^ ls.length+vw ρ 0 ls
 | [],n=>by simp [vw]
 | c::ls,n=>by
  rw [vw,kU ρ ls,vw,kU ρ ls (2 * 0+_),Xt,Nat.pow_succ];rw [Nat.add_mul,Nat.add_mul,<- Nat.add_assoc,Nat.mul_zero,Nat.zero_mul,Nat.zero_add,Nat.mul_comm 2 n,Nat.mul_assoc,Nat.mul_comm 2]
theorem qb4 (ρ:Nat->Bool):∀ (ls:List Nat),vw ρ 0 ls < 2 ^ ls.length
 | []=>by simp [vw]
 | c::ls=>by
  rw [vw,kU,Xt,Nat.pow_succ]
  have:=qb4 ρ ls
  split <;> omega
theorem qcY (ρ:Nat->Bool):∀ (ls:List Nat) (t:List Bool),t.length=2 ^ ls.length->look ρ ls t=t.getD (vw ρ 0 ls) false
 | [],[b],_=>by simp [look,vw]
 | c::ls,t,h=>by
  rw [Xt,Nat.pow_succ] at h;have h1:(t.take (2 ^ ls.length)).length=2 ^ ls.length:=by rw [Xi];omega
  have h2:(t.drop (2 ^ ls.length)).length=2 ^ ls.length:=by rw [List.length_drop];omega
  have hl:=qb4 ρ ls;rw [look,vw,kU];cases ρ c with
  | true =>
   simp only [if_true,Nat.mul_zero,Nat.zero_add,Nat.one_mul];rw [qcY ρ ls _ h2];simp [List.getD_eq_getElem?_getD,List.getElem?_drop]
  | false =>
   simp only [Bool.false_eq_true,if_false,Nat.mul_zero,Nat.zero_add,Nat.zero_mul];rw [qcY ρ ls _ h1];simp [List.getD_eq_getElem?_getD,List.getElem?_take_of_lt hl]
theorem qbM {ρ τ:Nat->Bool}:∀ {F:List Pr},(∀ p∈F,∀ c∈p,ρ c=τ c)->qF ρ F=qF τ F
 | [],_=>rfl
 | p::F,h=>by
  show xor (p.all ρ) (qF ρ F)=xor (p.all τ) (qF τ F)
  rw [qbM λ q hq=>h q (Xn _ hq)];congr 1
  have h1:=h p Xp;revert h1;clear h;induction p with
  | nil=>intro _;rfl
  | cons c p ih=>intro h1;rw [List.all_cons,List.all_cons,h1 c Xp,ih λ d hd=>h1 d (Xn _ hd)]
end Fs
namespace L2
open PySem PySem.Spec PyProof.Rows
theorem Draws.strAny {prog:Program} {w:World} {A:Around} (hh:A.handled=none) (it:Addr) (x:Str) (t:Tok) :
  Draws prog w A it [it] x.cps.size (λ i v=>∃ c u,x.cps[i]?=some c/\v=.str ⟨#[c]⟩ u) (λ i h=>h.IsStrIter it (strIterType x) x t i):=by
 unfold strIterType;cases ha:x.cps.all (· < 128) with
 | true=>rw [if_pos (by simpa using ha)];exact Draws.strAscii hh it x t
 | false=>rw [if_neg (by simpa using ha)];exact Draws.strWide hh it x t
def qhS (z:Str):It2:=⟨λ i H=>i < z.cps.size,λ i H ys H'=>H'=H/\ys=[.int i,sgn z i],λ i H=>i=z.cps.size⟩
def qlU (z:Str) (t:Tok) (e it:Addr) (i:Nat) (h:Heap):Prop:=(∃ old,IsEnum h e it i old)/\h.IsStrIter it (strIterType z) z t i
theorem qgp {P:Program} {w:World} {K:PySem.W.Frag} {es:List Expr} {k:Nat} {pos:Pos} (z:Str) (t:Tok) (e it:Addr) (hne:e≠it):Turn2 P w K (.Tuple es k pos) (qhS z) [e,it] e (qlU z t e it) where
 obj:=λ i h st b hb=>by
  obtain ⟨⟨old,he⟩,o,ho,c,d⟩:=st;have hb:b=e∨b=it:=by simpa using hb
  rcases hb with y | y
  ·subst y;exact ⟨_,he,λ v q=>by cases q⟩
  ·subst y;exact ⟨o,ho,λ v q=>by rw [d] at q;cases q⟩
 keep:=λ i h h' st k=>by
  obtain ⟨⟨old,he⟩,hit⟩:=st;obtain ⟨o,ho,r⟩:=hit;exact ⟨⟨old,k e (by simp) _ he⟩,o,k it (by simp) o ho,r⟩
 item:=by
  intro X hP hw hK hc i pins s σ H E I hf st hg;subst hP hw hK;have hlt:i < z.cps.size:=hg;obtain ⟨⟨old,he⟩,hit⟩:=st;have fe:=hf e (by simp);have fi:=hf it (by simp);refine wpAny_pyNext_enum_itemD (Draws.strAny (A:=X.A.in1) (by simpa using I.ok.hd hc) it z t) he hit hlt hne (by simpa using hne) λ u h' tk hP heo hit' ht hsz hk=>?_
  refine ⟨s.heap.objs.size,rfl,wpAny_letOwnedTupleGo_enum heo λ h2 he2 hs2=>?_⟩;replace hs2:Heap.SameBut e h' h2:=hs2;have hel:e < s.heap.objs.size:=Xm he;have k2:∀ b o,b≠e->b≠it->s.heap.get? b=some o->h2.get? b=some o:=λ b o h1 h3 q=>hs2.extBut b o h1 (hk b o h1 h3 q)
  have I1:Inv X pins σ H { s with heap:=h2,toks:=tk+1 }:=by
   refine I.step (g':=s.gens) (d':=s.drawn) (ch:=[e,it]) (λ b hb=>?_) (λ b o _ _ hcc q _=>k2 b o (λ z=>hcc (by simp [z])) (λ z=>hcc (by simp [z])) q)
    (λ b o _ _ hcc q _=>⟨o.slots,k2 b o (λ z=>hcc (by simp [z])) (λ z=>hcc (by simp [z])) q⟩) (λ _ _ _ _ n=>n) (λ b o hcc q=>⟨o,k2 b o (λ z=>hcc (by simp [z])) (λ z=>hcc (by simp [z])) q⟩)
    (λ _ _ q=>q) (λ _ _ _ q=>q) (λ b ps q=>⟨#[],by rw [q];simp⟩) (λ m hm=>?_) (λ b u q=>?_) I.bare
   ·have hb:b=e∨b=it:=by simpa using hb
    rcases hb with z | z
    ·subst z;exact ⟨fe.2.2.2.1,fe.2.1,fe.2.2.2.2.1,fe.2.2.2.2.2⟩
    ·subst z;exact ⟨fi.2.2.2.1,fi.2.1,fi.2.2.2.2.1,fi.2.2.2.2.2⟩
   ·obtain ⟨o,es',ep,ho,r⟩:=hm;exact ⟨o,es',ep,k2 _ o (Ne.symm fe.2.1) (Ne.symm fi.2.1) ho,r⟩
   ·refine (I.hok b u q).stay (λ c v hcc z=>k2 c v (λ y=>?_) (λ y=>?_) z) (λ _ z=>z) λ _ _ z=>z
    ·rcases hcc with y' | y'
     ·rw [<- y',y,fe.1] at q;cases q
     ·rw [y,fe.1] at y';cases y'
    ·rcases hcc with y' | y'
     ·rw [<- y',y,fi.1] at q;cases q
     ·rw [y,fi.1] at y';cases y'
  obtain ⟨c,u',ec,rfl⟩:=hP;obtain ⟨o3,ho3,r3⟩:=hit';refine ⟨[.int i,sgn z i],[.int i tk,.str ⟨#[c]⟩ u'],H,I1,⟨_,(hs2.extBut _ _ (Nat.ne_of_gt hel) ht),rfl,_,rfl⟩,.cons ⟨_,rfl⟩ (.cons (qgb (v:=.str ⟨#[c]⟩ u') ⟨c,u',ec,rfl⟩) .nil),⟨rfl,rfl⟩,⟨⟨.str ⟨#[c]⟩ u',?_⟩,o3,hs2.extBut _ _ (Ne.symm hne) ho3,r3⟩,λ b hb=>(hf b hb).1⟩
  ·have:((i:Int)+1)=((i+1:Nat):Int):=by omega
   rw [<- this];exact he2
 done:=by
  intro X hP hw hK hc i pins s σ H E I hf st hg;subst hP hw hK;have hi:i=z.cps.size:=hg;subst hi;obtain ⟨⟨old,he⟩,hit⟩:=st;obtain ⟨f0,f1,f2,f3,f4,f5⟩:=hf it (by simp);exact wpAny_pyNext_enum_endD (Draws.strAny (A:=X.A.in1) (by simpa using I.ok.hd hc) it z t) he hit λ h' eb=>⟨rfl,I.turned (t':=s.toks) (λ b o hb e=>eb b o hb e) f0 f1 f3 f4 f5⟩
 self:=λ A i s Q E st h=>by
  obtain ⟨⟨old,he⟩,hit⟩:=st;exact wpAny_pyIter_enum he h
def qlV (ta:TA):TI2:=λ σ H R=>ta σ H λ vs H1=>∃ z,vs=[.str z]/\R (qhS z) H1
theorem qfm {X:Cx} {es:List Expr} {k:Nat} {tpos:Pos} {l:Expr} {ta:TA} {p pos:Pos} (hg:Gl X "enumerate") (hm:X.mg "enumerate"=none) (ha:PA X [l] ta) (hs:starEach [l] X.env=[(false,eval l X.env)]:=by rfl) :
  PI2 X (.Tuple es k tpos) (.Call (.Name "enumerate" p) [l] [] pos) (qlV ta):=by
 intro pins s σ H R I h;refine qcG (R:=λ vs H1=>∃ z,vs=[.str z]/\R (qhS z) H1) hg hm boot_enumerate ha I h (λ us s1 vs H1 I1 r1 q1=>?_) (hs:=hs);obtain ⟨z,e,q⟩:=q1;subst e;obtain ⟨u,rfl,t,rfl⟩:=yr r1;refine call_enumerate_str λ h' he hit hsz hk=>wpAny_pyIter_enum he ?_
 refine ⟨s1.heap.objs.size+1,[s1.heap.objs.size+1,s1.heap.objs.size],_,_,H1,rfl,I1.kept (t':=s1.toks) hk,qgp z t _ _ (Nat.succ_ne_self _),⟨⟨_,he⟩,hit⟩,λ b hb=>?_,q⟩;have hb:b=s1.heap.objs.size+1∨b=s1.heap.objs.size:=by simpa using hb
 rcases hb with z | z
 ·subst z;exact I1.fpOk (Nat.le_succ _) (I1.hok.fresh (Nat.le_succ _))
 ·subst z;exact I1.fpOk (Xe _) (I1.hok.fresh (Xe _))
theorem qfn:∀ {ss ss':List Str} {us:List Value},qN (ss.map V.str) us->qN (ss'.map V.str) us->ss=ss'
 | [],[],_,_,_=>rfl
 | [],_::_,_,.nil,h=>by cases h
 | _::_,[],_,.cons _ _,h=>by cases h
 | a::ss,b::ss',_,.cons r t,.cons r' t'=>by
  obtain ⟨u,rfl⟩:=r;obtain ⟨u',e⟩:=r';injection e with e1 e2
  rw [e1,qfn t t']
theorem qaQ {α β:Type} {F:α->β->Prop}:∀ {xs:List α} {l:List β},Paired F xs l->∀ (k:Nat) (a:α),xs[k]?=some a->∃ b,l[k]?=some b/\F a b
 | _,_,.nil,k,a,h=>by simp at h
 | _,_,.cons r t,0,a,h=>by simp at h;subst h;exact ⟨_,rfl,r⟩
 | _,_,.cons r t,k+1,a,h=>qaQ t k a (by simpa using h)
end L2
namespace Fs
structure Ok9 (ls:List Nat):Prop where
 rise:ls.Pairwise (· < ·)
 len:ls.length<=9
end Fs
namespace L2
open PySem PySem.Spec PyProof.Rows
theorem qdH {z:Str} {t:TGs} {tb:TS} {D:Ends} {σ:St} {H:Hp} (Pv:Nat->St->Hp->Prop) (h0:Pv 0 σ H)
  (hs:∀ i σ H,i < z.cps.size->Pv i σ H->t [.int i,sgn z i] σ H λ σ2 H2=>tb { D with nx:=Pv (i+1),ct:=Pv (i+1),bk:=D.nx } σ2 H2) (hd:∀ σ H,Pv z.cps.size σ H->D.nx σ H) :
  ∃ W:Nat->Nat->St->Hp->Prop,(∃ m,W 0 m σ H)/\∀ i m σ H,W i m σ H ->
   ((qhS z).stop i H/\D.nx σ H)∨((qhS z).go i H/\∃ N:St->Hp->Prop,(∀ σ' H',N σ' H'->∃ m',m' < m/\W (i+1) m' σ' H')/\∀ zs H',(qhS z).yld i H zs H'->zs.length=2/\t zs σ H' λ σ2 H2=>tb { D with nx:=N,ct:=N,bk:=D.nx } σ2 H2):=by
 refine ⟨λ i m σ H=>m=z.cps.size - i/\i<=z.cps.size/\Pv i σ H,⟨z.cps.size,by simp,Nat.zero_le _,h0⟩,?_⟩;rintro i m σ H ⟨rfl,hi,p⟩;by_cases hlt:i < z.cps.size
 ·refine .inr ⟨hlt,Pv (i+1),λ σ' H' p'=>⟨z.cps.size - (i+1),by omega,rfl,hlt,p'⟩,λ zs H' y=>?_⟩;obtain ⟨e,ez⟩:=y;subst e ez;exact ⟨rfl,hs i σ _ hlt p⟩
 ·have e:i=z.cps.size:=by omega
  subst e;exact .inl ⟨rfl,hd σ H p⟩
end L2
namespace Fs
theorem qhT (F G:List Pr):(added F G).length<=F.length+G.length:=by
 unfold added;rw [(zU _).length_eq,qct,Xd]
 have:=List.length_filter_le (λ p=>!G.contains p) F
 have:=List.length_filter_le (λ p=>!F.contains p) G
 omega
def uni (a b:Pr):Pr:=qJ [a++b]
theorem qg6 {a b:Pr} {c:Nat}:c∈uni a b ↔ c∈a∨c∈b:=by unfold uni;rw [jC];simp
end Fs
namespace L2
open PySem PySem.Spec PyProof.Rows
end L2
namespace L2
open PySem PySem.Spec PyProof.Rows PySem.StrLaws PySem.Builtin PySem.Builtin.Str
def qeo (c:Nat):Nat->List Nat->List Nat
 | _,[]=>[]
 | k,x::l=>if x=c then k::qeo c (k+1) l else qeo c (k+1) l
end L2
namespace L2
open PySem PySem.Spec PyProof.Rows
end L2
namespace Fs
theorem qg7 {α:Type} [DecidableEq α] (f:α->Nat):∀ {l m:List α},l.Nodup->(∀ x∈l,x∈m)->(l.map f).sum<=(m.map f).sum
 | [],_,_,_=>Nat.zero_le _
 | a::l,m,nd,h=>by
  have nd':=List.nodup_cons.mp nd;have ha:a∈m:=h a Xp;have ih:=qg7 f (l:=l) (m:=m.erase a) nd'.2 λ x hx=>(List.mem_erase_of_ne (λ (e:x=a)=>nd'.1 (by rw [<- e];exact hx))).mpr (h x (Xn _ hx))
  have e:(m.map f).sum=((a::m.erase a).map f).sum:=by
   have:=(List.perm_cons_erase ha).map f
   clear ih;generalize m.map f=u at this;generalize (a::m.erase a).map f=v at this;induction this with
   | nil=>rfl
   | cons x _ ih=>rw [List.sum_cons,List.sum_cons,ih]
   | swap x y l=>rw [List.sum_cons,List.sum_cons,List.sum_cons,List.sum_cons];omega
   | trans _ _ a b=>exact a.trans b
  rw [e,List.map_cons,List.map_cons,List.sum_cons,List.sum_cons];omega
theorem qbh (l:Nat):∀ P:List Pr,((P.map (l::·)).map List.length).sum=(P.map List.length).sum+P.length
 | []=>rfl
 | p::P=>by
  have ih:=qbh l P;rw [List.map_cons,List.map_cons,List.sum_cons,List.map_cons,List.sum_cons,ih,Xt,Xt];omega
theorem qkv (u v:List Nat):(u++v).sum=u.sum+v.sum:=by
 induction u with
 | nil=>simp
 | cons a u ih=>rw [List.cons_append,List.sum_cons,List.sum_cons,ih];omega
theorem qcZ:∀ ls:List Nat,2 * ((q0 ls).map List.length).sum=ls.length * 2 ^ ls.length
 | []=>rfl
 | l::ls=>by
  have ih:=qcZ ls;have pl:=qL ls;rw [q0,XA,qkv,qbh,Xt,Nat.pow_succ,pl];generalize 2 ^ ls.length=N at ih ⊢
  have:(ls.length+1) * (N * 2)=2 * (ls.length * N)+2 * N:=by
   rw [Nat.add_mul,Nat.one_mul,Nat.mul_comm N 2,<- Nat.mul_assoc,Nat.mul_comm ls.length 2,Nat.mul_assoc]
  rw [this];omega
theorem On.flat2 {ls:List Nat} {F:List Pr} (h:On ls F) (hl:ls.Pairwise (· < ·)):2 * F.flatten.length<=ls.length * 2 ^ ls.length:=by
 rw [<- qcZ,List.length_flatten]
 have:=qg7 List.length (l:=F) (m:=q0 ls) h.vf.nodup λ p hp=>zJ.mpr (h.sub hl p hp)
 omega
theorem Ok9.le {ls:List Nat} {F:List Pr} (o:Ok9 ls) (h:On ls F):F.length<=512:=by
 have h1:=h.len o.rise;have h2:2 ^ ls.length<=2 ^ 9:=Nat.pow_le_pow_right (by decide) o.len;omega
def zd (F G:List Pr):List Pr:=F.flatMap λ p=>G.map λ q=>uni p q
end Fs
namespace L2
open PySem PySem.Spec PyProof.Rows
section
variable {X:Cx}
abbrev rAS:R2:=λ x y H Q=>∃ i j,x=.str i/\y=.str j/\i.length+j.length<=sizeLine/\Q (.str (i++j)) H
theorem qG:OpR X (binaryOp .Add) rAS:=qcj
end
end L2
namespace L2
open PySem PySem.Spec PyProof.Rows PySem.StrLaws PySem.Builtin PySem.Builtin.Str
theorem qi2 (z:Str) (c:Nat):∀ (m k:Nat) (st:Array Nat×Nat),1<=st.1.size->(forIn (List.range' k m) st (occBody z ⟨#[c]⟩ z.length 1)).run.fst.toList=st.1.toList:=by
 intro m;induction m with
 | zero=>intro k st h;rfl
 | succ m ih =>
  intro k st h;rw [List.range'_succ,List.forIn_cons];unfold occBody;rw [if_neg (λ q=>by have:st.1.size < 1:=q.1.1.1;omega)];exact ih (k+1) (st.1,st.2) h
theorem qhU (z:Str) (c:Nat):∀ (m k:Nat) (st:Array Nat×Nat),st.2<=k->st.1.toList=[]->(forIn (List.range' k m) st (occBody z ⟨#[c]⟩ z.length 1)).run.fst.toList=(qeo c k ((cs z).drop k |>.take m)).take 1:=by
 intro m;induction m with
 | zero=>intro k st h1 h2;rw [List.take_zero];exact h2
 | succ m ih =>
  intro k st h1 h2;have hz:st.1.size=0:=by rw [<- Xh,h2];rfl
  rw [List.range'_succ,List.forIn_cons];unfold occBody;by_cases e:(cs z)[k]?=some c
  ·obtain ⟨c1,c2⟩:=(subAt_one z c k).mpr e;rw [if_pos ⟨⟨⟨by omega,h1⟩,c1⟩,c2⟩]
   have:=qi2 z c m (k+1) (st.1.push k,k+1) (by rw [Array.size_push];omega)
   refine Eq.trans this ?_;rw [Array.toList_push,h2];obtain ⟨hlt,ek⟩:=List.getElem?_eq_some_iff.mp e;rw [List.drop_eq_getElem_cons hlt,List.take_succ_cons,ek];show _=List.take 1 (if c=c then _ else _)
   rw [if_pos rfl];rfl
  ·rw [if_neg (λ q=>e ((subAt_one z c k).mp ⟨q.1.2,q.2⟩))]
   have:=ih (k+1) (st.1,st.2) (Nat.le_succ_of_le h1) h2
   refine Eq.trans this ?_;congr 1
   by_cases hlt:k < (cs z).length
   ·rw [List.drop_eq_getElem_cons hlt,List.take_succ_cons];show _=(if (cs z)[k]=c then _ else _)
    rw [if_neg (λ q=>e (by rw [Xb hlt,q]))]
   ·rw [List.drop_of_length_le (by omega),List.drop_of_length_le (by omega)];simp [qeo]
theorem qkw (z:Str) (c:Nat):occurrences z ⟨#[c]⟩ 0 z.length 1=(qeo c 0 (cs z)).take 1:=by
 rw [occ_eq,qhU z c _ 0 (#[],0) (Xe _) rfl,List.drop_zero];congr 2
 exact Xr (by simp [Str.length])
theorem qfo (c:Nat):∀ (w r:List Nat) (k:Nat),c ∉ w->qeo c k (w++c::r)=(k+w.length)::qeo c (k+w.length+1) r
 | [],r,k,_=>by show (if c=c then _ else _)=_;rw [if_pos rfl];rfl
 | x::w,r,k,h=>by
  have hx:¬ x=c:=λ e=>h (by rw [e];exact Xp ..)
  show (if x=c then _ else qeo c (k+1) (w++c::r))=_
  rw [if_neg hx,qfo c w r (k+1) (λ hm=>h (Xn _ hm))];simp [Nat.add_assoc,Nat.add_comm 1]
theorem qbx (l:List Nat) (i j:Nat):strSub (qj l) i j=qj ((l.drop i).take (j - i)):=by
 show (⟨(l.toArray).extract i j⟩:Str)=⟨((l.drop i).take (j - i)).toArray⟩
 congr 1
 apply Array.toList_inj.mp
 simp [List.extract_eq_drop_take]
section
variable {X:Cx}
def qmN:V->List V->Hp->VK->Prop:=λ x vs H Q=>∃ (w r:List Nat) (c:Nat),x=vS (w++c::r)/\vs=[vS [c]]/\c ∉ w/\w.length+r.length<=60000/\∀ p,H p=none->Q (.ref p) (upd H p (.tup [vS w,vS [c],vS r]))
theorem qkx:MtR X "str.partition" qmN:=by
 intro pins s σ H x vs v us Q I rx rv h;obtain ⟨w,r,c,rfl,rfl,hc,hz,q⟩:=h;obtain ⟨t,rfl⟩:=rx;obtain ⟨u,rfl,ru⟩:=yr rv;obtain ⟨tu,rfl⟩:=ru;have hl:(qj (w++c::r)).length=w.length+(r.length+1):=by rw [qw,Xd,Xt]
 refine call_meets PySem.F.slot_str_partition (typeIs_str _ _ _) PySem.F.entry_str_partition (PySem.F.args_str_partition_2 _ _) (meets_str_partition (qj (w++c::r)) (qj [c]) t tu rfl (by rw [hl];exact qu (by omega))) ?_;have ho:occurrences (qj (w++c::r)) (qj [c]) 0 (qj (w++c::r)).length 1=[w.length]:=by
  rw [show qj [c]=(⟨#[c]⟩:Str) from rfl,qkw];show (qeo c 0 (w++c::r)).take 1=_
  rw [qfo c w r 0 hc];simp
 rw [ho];have hf:=I.hok.fresh (Xe s.heap.objs.size);have e1:strSub (qj (w++c::r)) 0 w.length=qj w:=by rw [qbx];simp
 have e2:strSub (qj (w++c::r)) (w.length+(qj [c]).length) (qj (w++c::r)).length=qj r:=by
  rw [qbx,hl,qw,Xj]
  have:(w++c::r).drop (w.length+1)=r:=by rw [show w++c::r=(w++[c])++r by simp,List.drop_append_of_le_length (by simp)];simp
  rw [this,Xr (by omega)]
 dsimp only;rw [e1,e2];refine ⟨.ref s.heap.objs.size,_,I.laid (a:=s.heap.objs.size) (o:=.tup [vS w,vS [c],vS r]) (t':=s.toks+1+1) (λ _ _ h=>Xc _ h) (Xe _) ⟨qu (by show 3<=_;decide),_,.cons ⟨_,rfl⟩ (.cons ⟨_,rfl⟩ (.cons ⟨_,rfl⟩ .nil)),⟨_,Xk _ rfl,rfl,_,rfl⟩⟩,rfl,q _ hf⟩
def qlW:V->List V->Hp->VK->Prop:=λ x vs H Q=>∃ (i j:Nat) (w:List Nat),x=vS (List.replicate i 32++w++List.replicate j 32)/\vs=[vS [32]]/\w≠[]/\32 ∉ w/\i+w.length+j<=60000/\Q (vS w) H
theorem qfp (n:Nat) (l:List Nat) (h:∀ x,l.head?=some x->¬ x=32):((List.replicate n 32++l).takeWhile λ c=>(#[32]:Array Nat).contains c).length=n:=by
 induction n with
 | zero =>
  cases l with
  | nil=>rfl
  | cons x l =>
   have:¬ x=32:=h x rfl
   have e:(#[32]:Array Nat).contains x=false:=by simp [this]
   rw [List.replicate_zero,List.nil_append,List.takeWhile_cons,e];rfl
 | succ n ih =>
  rw [List.replicate_succ,List.cons_append,List.takeWhile_cons];have e:(#[32]:Array Nat).contains 32=true:=by simp
  rw [e,if_pos rfl,Xt,ih]
theorem qi3 (i j:Nat) (w:List Nat) (hw:w≠[]) (h:32 ∉ w):Txt.stripChars (qj (List.replicate i 32++w++List.replicate j 32)) (qj [32])=qj w:=by
 have lo:stripLo (#[32]:Array Nat).contains true (qj (List.replicate i 32++w++List.replicate j 32))=i:=by
  unfold stripLo;rw [if_pos rfl];show (((List.replicate i 32++w++List.replicate j 32)).takeWhile _).length=i
  rw [Xq];refine qfp i _ λ x hx=>?_
  cases w with
  | nil=>exact absurd rfl hw
  | cons a w=>simp at hx;subst hx;exact λ e=>h (by rw [e];exact Xp ..)
 have hl:(qj (List.replicate i 32++w++List.replicate j 32)).length=i+w.length+j:=by rw [qw];simp [Nat.add_assoc]
 have hi:stripHi (#[32]:Array Nat).contains true (qj (List.replicate i 32++w++List.replicate j 32)) i=i+w.length:=by
  unfold stripHi;rw [if_pos rfl,hl];show i+w.length+j - ((((List.replicate i 32++w++List.replicate j 32)).drop i).reverse.takeWhile _).length=_
  have e:((List.replicate i 32++w++List.replicate j 32)).drop i=w++List.replicate j 32:=by
   rw [Xq,List.drop_append_of_le_length (by simp)];simp
  rw [e,List.reverse_append,List.reverse_replicate,qfp j _ λ x hx=>λ e2=>?_]
  ·omega
  ·subst e2
   have:32∈w.reverse:=List.mem_of_mem_head? hx
   exact h (List.mem_reverse.mp this)
 have st:stripped (#[32]:Array Nat).contains true true (qj (List.replicate i 32++w++List.replicate j 32))=qj w:=by
  unfold stripped;rw [lo,hi,qbx];have e:((List.replicate i 32++w++List.replicate j 32)).drop i=w++List.replicate j 32:=by
   rw [Xq,List.drop_append_of_le_length (by simp)];simp
  rw [e,show i+w.length - i=w.length by omega];simp
 show Txt.stripBy (#[32]:Array Nat).contains true true _=_
 unfold Txt.stripBy;split
 ·rename_i hs;unfold stripSame at hs;rw [lo,hi,hl] at hs;have hs:i=0/\i+w.length=i+w.length+j:=by simpa using hs
  obtain ⟨h1,h2⟩:=hs;have hj:j=0:=by omega
  subst h1 hj;simp
 ·exact st
theorem qfq:MtR X "str.strip" qlW:=by
 intro pins s σ H x vs v us Q I rx rv h;obtain ⟨i,j,w,rfl,rfl,hw,hn,hz,q⟩:=h;obtain ⟨t,rfl⟩:=rx;obtain ⟨u,rfl,ru⟩:=yr rv;obtain ⟨tu,rfl⟩:=ru;have hl:(qj (List.replicate i 32++w++List.replicate j 32)).length=i+w.length+j:=by rw [qw];simp [Nat.add_assoc]
 refine SC.stripChars (y:=qj [32]) (λ t' k=>?_) (by rw [hl];exact qu (by omega));rw [qi3 i j w hw hn];exact ⟨vS w,H,I.tok k,⟨_,rfl⟩,q⟩
end
end L2
namespace Fs
theorem qi4 {k M N:Nat} (hM:M < 2 ^ k) (hN:N < 2 ^ k):M &&& (2 ^ k+N)=M &&& N:=by
 apply Nat.eq_of_testBit_eq
 intro i;rw [Nat.testBit_and,Nat.testBit_and];by_cases h:i < k
 ·rw [Nat.testBit_two_pow_add_gt h]
 ·have:M.testBit i=false:=Nat.testBit_lt_two_pow (Nat.lt_of_lt_of_le hM (Nat.pow_le_pow_right (by decide) (Nat.le_of_not_lt h)))
  rw [this];rfl
theorem qhV {k M N:Nat} (hM:M < 2 ^ k) (hN:N < 2 ^ k):(2 ^ k+M) &&& (2 ^ k+N)=2 ^ k+(M &&& N):=by
 have hMN:M &&& N < 2 ^ k:=Nat.lt_of_le_of_lt Nat.and_le_left hM;apply Nat.eq_of_testBit_eq
 intro i;rw [Nat.testBit_and];rcases Nat.lt_trichotomy i k with h | h | h
 ·rw [Nat.testBit_two_pow_add_gt h,Nat.testBit_two_pow_add_gt h,Nat.testBit_two_pow_add_gt h,Nat.testBit_and]
 ·subst h;rw [Nat.testBit_two_pow_add_eq,Nat.testBit_two_pow_add_eq,Nat.testBit_two_pow_add_eq,Nat.testBit_lt_two_pow hM,Nat.testBit_lt_two_pow hN,Nat.testBit_lt_two_pow hMN];rfl
 ·have up:∀ x,x < 2 ^ k->(2 ^ k+x).testBit i=false:=λ x hx=>Nat.testBit_lt_two_pow (by
   have:2 ^ (k+1)<=2 ^ i:=Nat.pow_le_pow_right (by decide) h
   rw [Nat.pow_succ] at this;omega)
  rw [up _ hM,up _ hMN];rfl
def prt (N M:Nat):Bool:=(M &&& N) == M
theorem qlX {N M:Nat} (h:prt N M=true):M<=N:=by
 have e:M &&& N=M:=by simpa [prt] using h
 rw [<- e];exact Nat.and_le_right
def vQ (l:List Bool):Bool:=l.foldl (λ a b=>xor a b) false
theorem qfr (l:List Bool) (a:Bool):l.foldl (λ a b=>xor a b) a=xor a (vQ l):=by
 induction l generalizing a with
 | nil=>simp [vQ]
 | cons x l ih=>unfold vQ;rw [List.foldl_cons,List.foldl_cons,ih,ih (xor false x)];cases a <;> cases x <;> simp
theorem kX (l m:List Bool):vQ (l++m)=xor (vQ l) (vQ m):=by unfold vQ;rw [List.foldl_append,qfr];rfl
theorem qhW {l:List Bool} (h:∀ b∈l,b=false):vQ l=false:=by
 induction l with
 | nil=>rfl
 | cons x l ih =>
  unfold vQ;rw [List.foldl_cons,qfr,h x (Xp ..),ih λ b hb=>h b (Xn _ hb)];rfl
def vy (t:List Bool) (N:Nat):Bool:=vQ ((List.range (N+1)).map λ M=>prt N M && t.getD M false)
theorem qi5 (t:List Bool) {N K:Nat} (h:N < K):vQ ((List.range K).map λ M=>prt N M && t.getD M false)=vy t N:=by
 obtain ⟨d,rfl⟩:∃ d,K=N+1+d:=⟨K - (N+1),by omega⟩;rw [List.range_add,XA,kX,qhW (l:=List.map _ (List.map _ _)) λ b hb=>?_]
 ·unfold vy;simp
 ·rw [List.map_map] at hb;obtain ⟨j,_,rfl⟩:=List.mem_map.mp hb;show (prt N (N+1+j) && _)=false
  have:prt N (N+1+j)=false:=by
   cases e:prt N (N+1+j) with
   | false=>rfl
   | true=>have:=qlX e;omega
  rw [this];rfl
theorem qi6 {low high:List Bool} {k N:Nat} (hl:low.length=2 ^ k) (hN:N < 2 ^ k):vy (low++high) N=vy low N:=by
 unfold vy;congr 1
 refine List.map_congr_left λ M hM=>?_
 have:M < low.length:=by have:=List.mem_range.mp hM;omega
 rw [List.getD_eq_getElem?_getD,List.getD_eq_getElem?_getD,Xz this]
theorem qhX {low high:List Bool} {k N:Nat} (hl:low.length=2 ^ k) (hN:N < 2 ^ k):vy (low++high) (2 ^ k+N)=xor (vy low N) (vy high N):=by
 have e:vy (low++high) (2 ^ k+N)=vQ ((List.range (2 ^ k+(N+1))).map λ M=>prt (2 ^ k+N) M && (low++high).getD M false):=by unfold vy;rw [Nat.add_assoc]
 rw [e,List.range_add,XA,kX];congr 1
 ·rw [<- qi5 low hN];congr 1
  refine List.map_congr_left λ M hM=>?_
  have hM:M < 2 ^ k:=List.mem_range.mp hM;have e1:prt (2 ^ k+N) M=prt N M:=by unfold prt;rw [qi4 hM hN]
  rw [e1,List.getD_eq_getElem?_getD,List.getD_eq_getElem?_getD,Xz (by omega)]
 ·unfold vy;rw [List.map_map];congr 1
  refine List.map_congr_left λ M hM=>?_
  have hM':M < 2 ^ k:=by have:=List.mem_range.mp hM;omega
  show (prt (2 ^ k+N) (2 ^ k+M) && (low++high).getD (2 ^ k+M) false)=_
  have e1:prt (2 ^ k+N) (2 ^ k+M)=prt N M:=by
   unfold prt;rw [qhV hM' hN];rw [Bool.eq_iff_iff,beq_iff_eq,beq_iff_eq];omega
  rw [e1,List.getD_eq_getElem?_getD,List.getD_eq_getElem?_getD,Xy (by omega),hl,Nat.add_sub_cancel_left]
theorem qb5:∀ (n:Nat) (t:List Bool),t.length=2 ^ n->∀ N,N < 2 ^ n->(zc n t)[N]?=some (vy t N)
 | 0,t,h,N,hN=>by
  have e:N=0:=by simpa using hN
  subst e
  match t,h with
  | [b],_=>cases b <;> rfl
 | n+1,t,h,N,hN=>by
  have hp:2 ^ (n+1)=2 ^ n+2 ^ n:=by rw [Nat.pow_succ];omega
  have h1:(t.take (2 ^ n)).length=2 ^ n:=by rw [Xi];omega
  have h2:(t.drop (2 ^ n)).length=2 ^ n:=by rw [List.length_drop];omega
  have l1:=qO n _ h1;have et:t=t.take (2 ^ n)++t.drop (2 ^ n):=(List.take_append_drop _ _).symm;rw [zc];by_cases hlt:N < 2 ^ n
  ·rw [Xz (by omega),qb5 n _ h1 N hlt]
   conv=>rhs;rw [et,qi6 h1 hlt]
  ·obtain ⟨N',rfl⟩:∃ N',N=2 ^ n+N':=⟨N - 2 ^ n,by omega⟩;have hN':N' < 2 ^ n:=by omega
   rw [Xy (by omega),l1,Nat.add_sub_cancel_left,List.getElem?_zipWith,qb5 n _ h1 N' hN',qb5 n _ h2 N' hN']
   conv=>rhs;rw [et,qhX h1 hN']
end Fs
namespace Fs
def zo (n N:Nat):List Bool:=(List.range n).map λ k=>decide (N / 2 ^ (n - 1 - k) % 2=1)
theorem qal (n N:Nat):(zo n N).length=n:=by unfold zo;rw [Xa,List.length_range]
theorem qi7 {n N k:Nat} (h:k < n):(zo n N)[k]?=some (decide (N / 2 ^ (n - 1 - k) % 2=1)):=by
 unfold zo;rw [Xw,List.getElem?_range h];rfl
theorem qc0 (n N:Nat):zo (n+1) N=decide (N / 2 ^ n % 2=1)::zo n N:=by
 unfold zo;rw [List.range_succ_eq_map,List.map_cons,List.map_map];congr 1
 refine List.map_congr_left λ k hk=>?_
 show decide (N / 2 ^ (n+1 - 1 - (k+1)) % 2=1)=_
 rw [show n+1 - 1 - (k+1)=n - 1 - k by omega]
theorem qdI (n N:Nat):zo n (N % 2 ^ n)=zo n N:=by
 unfold zo;refine List.map_congr_left λ k hk=>?_
 have hk:=List.mem_range.mp hk;rw [<- Nat.testBit_eq_decide_div_mod_eq,<- Nat.testBit_eq_decide_div_mod_eq,Nat.testBit_mod_two_pow,Xv (show n - 1 - k < n by omega)];rfl
def asg (ls:List Nat) (r:List Bool) (c:Nat):Bool:=(((ls.zip r).find? λ x=>decide (x.1=c)).map (·.2)).getD false
theorem qfs (c:Nat) (ls:List Nat) (b:Bool) (r:List Bool):asg (c::ls) (b::r) c=b:=by unfold asg;rw [List.zip_cons_cons,List.find?_cons];simp
theorem qft {c d:Nat} (ls:List Nat) (b:Bool) (r:List Bool) (h:¬ c=d):asg (c::ls) (b::r) d=asg ls r d:=by
 unfold asg;rw [List.zip_cons_cons,List.find?_cons,show decide ((c,b).1=d)=false from Xu h]
theorem qfu (ρ:Nat->Bool):∀ {ls:List Nat},ls.Nodup->∀ c∈ls,asg ls (zo ls.length (vw ρ 0 ls)) c=ρ c
 | [],_,c,h=>by simp at h
 | d::ls,nd,c,hc=>by
  have nd':=List.nodup_cons.mp nd;have hlt:=qb4 ρ ls;have hM:vw ρ 0 (d::ls)=(if ρ d then 1 else 0) * 2 ^ ls.length+vw ρ 0 ls:=by rw [vw,kU];simp
  have hp:0 < 2 ^ ls.length:=Nat.two_pow_pos _;have e1:vw ρ 0 (d::ls) / 2 ^ ls.length=if ρ d then 1 else 0:=by
   rw [hM,Nat.mul_comm,Nat.mul_add_div hp,Nat.div_eq_of_lt hlt,Nat.add_zero]
  have e2:vw ρ 0 (d::ls) % 2 ^ ls.length=vw ρ 0 ls:=by
   rw [hM,Nat.mul_comm,Nat.mul_add_mod,Nat.mod_eq_of_lt hlt]
  rw [Xt,qc0,e1,<- qdI,e2];by_cases h:d=c
  ·subst h;rw [qfs];cases ρ d <;> rfl
  ·rw [qft _ _ _ h];have hc':c∈ls:=by
    rcases List.mem_cons.mp hc with e | e
    ·exact absurd e.symm h
    ·exact e
   exact qfu ρ nd'.2 c hc'
def sel (ls:List Nat) (N:Nat):Pr:=ls.filter (asg ls (zo ls.length N))
theorem qi8 {d:Nat} {ls:List Nat} (nd:(d::ls).Nodup) (N:Nat):sel (d::ls) N=if N / 2 ^ ls.length % 2=1 then d::sel ls (N % 2 ^ ls.length) else sel ls (N % 2 ^ ls.length):=by
 have nd':=List.nodup_cons.mp nd;unfold sel;rw [Xt,qc0,qdI];have e:ls.filter (asg (d::ls) (decide (N / 2 ^ ls.length % 2=1)::zo ls.length N))=ls.filter (asg ls (zo ls.length N)) :=
  List.filter_congr λ c hc=>qft _ _ _ λ e=>nd'.1 (e ▸ hc)
 rw [List.filter_cons,qfs,e];by_cases h:N / 2 ^ ls.length % 2=1
 ·rw [if_pos h,Xv h,if_pos rfl]
 ·rw [if_neg h,Xu h,if_neg (by decide)]
theorem qc1:∀ {ls:List Nat},ls.Nodup->∀ {N:Nat},N < 2 ^ ls.length->(q0 ls)[N]?=some (sel ls N)
 | [],_,N,h=>by
  have e:N=0:=by simpa using h
  rw [e];rfl
 | d::ls,nd,N,h=>by
  have nd':=List.nodup_cons.mp nd;have hp:0 < 2 ^ ls.length:=Nat.two_pow_pos _;rw [Xt,Nat.pow_succ] at h;rw [q0,qi8 nd];by_cases hlt:N < 2 ^ ls.length
  ·rw [Xz (by rw [qL];exact hlt),Nat.div_eq_of_lt hlt,Nat.mod_eq_of_lt hlt,if_neg (by decide),qc1 nd'.2 hlt]
  ·have e1:N / 2 ^ ls.length=1:=by
    rw [Nat.div_eq_iff hp];omega
   have e2:N % 2 ^ ls.length=N - 2 ^ ls.length:=by
    rw [Nat.mod_eq_sub_mod (by omega),Nat.mod_eq_of_lt (by omega)]
   rw [Xy (by rw [qL];omega),qL,Xw,qc1 nd'.2 (N:=N - 2 ^ ls.length) (by omega),e1,e2,if_pos rfl];rfl
def qaC (ls:List Nat) (t:List Bool) (i:Nat):List Pr:=(List.range i).filterMap λ N=>if vy t N=true then some (sel ls N) else none
theorem qc2 (ls:List Nat) (t:List Bool) (i:Nat):qaC ls t (i+1)=qaC ls t i++(if vy t i=true then [sel ls i] else []):=by
 unfold qaC;rw [List.range_succ,List.filterMap_append];congr 1
 by_cases h:vy t i=true
 ·simp [h]
 ·simp [h]
theorem qdJ (ls:List Nat) (t:List Bool) (i:Nat):(qaC ls t i).length<=i:=by
 have:=List.length_filterMap_le (λ N=>if vy t N=true then some (sel ls N) else none) (List.range i)
 rw [List.length_range] at this;exact this
theorem qdK {ls:List Nat} {t:List Bool} (nd:ls.Nodup) (ht:t.length=2 ^ ls.length):qaC ls t (2 ^ ls.length)=zT ls (zc ls.length t):=by
 have e:(q0 ls).zip (zc ls.length t)=(List.range (2 ^ ls.length)).map λ N=>(sel ls N,vy t N):=by
  refine List.ext_getElem? λ N=>?_
  rw [Xw];by_cases h:N < 2 ^ ls.length
  ·have e1:((q0 ls).zip (zc ls.length t))[N]?=some (sel ls N,vy t N):=List.getElem?_zip_eq_some.mpr ⟨qc1 nd h,qb5 _ _ ht N h⟩;rw [List.getElem?_range h,e1];rfl
  ·rw [List.getElem?_eq_none (by rw [List.length_zip,qL];omega),List.getElem?_eq_none (by rw [List.length_range];omega)];rfl
 unfold zT qaC;rw [e,List.filterMap_map];rfl
theorem qi9 (l:List Bool) (b:Bool):vQ (l++[b])=xor (vQ l) b:=by rw [kX];congr 1;cases b <;> rfl
theorem qja {ls:List Nat} {F:List Pr} {t:List Bool} (hl:ls.Pairwise (· < ·)) (hF:Vf F) (hm:∀ p∈F,∀ c∈p,c∈ls) (ht:t.length=2 ^ ls.length) (h:∀ N,N < 2 ^ ls.length->t.getD N false=qF (asg ls (zo ls.length N)) F):vj ls t=F :=
 (qdx hl t).only hF λ ρ=>by
  rw [qa2 ρ ht,qcY ρ ls t ht,h _ (qb4 ρ ls)];exact qbM λ p hp c hc=>qfu ρ (zn XC hl) c (hm p hp c hc)
end Fs
namespace Fs
open PySem L2
theorem qE {α β:Type} {F G:α->β->Prop} (h:∀ a b,F a b->G a b):∀ {xs:List α} {ys:List β},Paired F xs ys->Paired G xs ys
 | _,_,.nil=>.nil
 | _,_,.cons r t=>.cons (h _ _ r) (qE h t)
theorem zk {α β:Type} {F:α->β->Prop}:∀ {xs:List α} {l:List β},Paired F xs l->∀ (k:Nat) (a:α),xs[k]?=some a->∃ b,l[k]?=some b/\F a b
 | _,_,.nil,k,a,h=>by simp at h
 | _,_,.cons r t,0,a,h=>by simp at h;subst h;exact ⟨_,rfl,r⟩
 | _,_,.cons r t,k+1,a,h=>zk t k a (by simpa using h)
theorem qbi (n:Nat):ixN (n+1) (-1)=some n:=by
 unfold ixN;rw [if_neg (by decide),if_pos (by omega)];congr 1;omega
theorem qky (M N:Nat):Builtin.bitAnd (M:Int) (N:Int)=((M &&& N:Nat):Int):=by
 unfold Builtin.bitAnd;rw [Xv (Int.natCast_nonneg M),Xv (Int.natCast_nonneg N)];rfl
theorem qlc (p:List Nat):decide (vS p=vS p)=true:=Xv rfl
theorem qbN {ls p:List Nat} (hl:ls.Pairwise (· < ·)) (hp:p.Pairwise (· < ·)) (h:∀ c∈p,c∈ls):(ls.filter λ c=>decide (c∈p))=p :=
 qaZ XC (λ a b h=>Nat.lt_asymm h) (hl.filter _) hp λ c=>by
  rw [List.mem_filter];exact ⟨λ h=>of_decide_eq_true h.2,λ hc=>⟨h c hc,Xv hc⟩⟩
theorem kZ {α:Type} {l:List α} {f:α->Bool} {i:Nat} (hi:i < l.length):(l.take (i+1)).filter f=(l.take i).filter f++(if f l[i]=true then [l[i]] else []):=by
 rw [List.take_succ_eq_append_getElem hi,List.filter_append];congr 1
 rw [List.filter_cons];rfl
theorem qaR (ls:List Nat):(ls.map λ c=>vS [c])=(ls.map λ c=>[c]).map vS:=by rw [List.map_map];rfl
end Fs
namespace L2
open PySem PySem.Spec PyProof.Rows
def eqG {α:Type} [DecidableEq α] (Fs Gs:List α) (j:Nat):Bool:=match Fs[j]?,Gs[j]? with
 | some F,some G=>decide (F=G)
 | _,_=>true
theorem qg8 {α:Type} [DecidableEq α] (Fs Gs:List α) (hl:Fs.length=Gs.length):(List.range Fs.length).all (eqG Fs Gs)=decide (Fs=Gs):=by
 rw [Bool.eq_iff_iff,decide_eq_true_iff,List.all_eq_true];constructor
 ·intro h1;refine List.ext_getElem? λ j=>?_
  by_cases hj:j < Fs.length
  ·have:=h1 j (by rw [List.mem_range];omega)
   have ea:Fs[j]?=some Fs[j]:=Xb hj;have eb:Gs[j]?=some (Gs[j]'(by omega)):=Xb (by omega);unfold eqG at this;rw [ea,eb] at this;rw [ea,eb,of_decide_eq_true this]
  ·rw [List.getElem?_eq_none (by omega),List.getElem?_eq_none (by omega)]
 ·rintro rfl j _;unfold eqG;cases Fs[j]? with
  | none=>rfl
  | some a=>exact Xv rfl
section
variable {X:Cx} {pins:List (Addr×Obj)} {σ:St} {H:Hp} {s:Shared}
theorem qg9 {α:Type} [DecidableEq α] {R:Addr->α->Prop} {A:Around} {as bs:List Addr} {Fs Gs:List α} {its its2:List Value} (r1:qN (as.map V.ref) its) (r2:qN (bs.map V.ref) its2) (pa:Paired R as Fs) (pb:Paired R bs Gs)
  (hR:∀ c d F G,R c F->R d G->SeqAt.EqAt A s (.ref c) (.ref d) (decide (F=G))) (j:Nat) (h1:j < its.toArray.size) (h2:j < its2.toArray.size):SeqAt.EqAt A s its.toArray[j] its2.toArray[j] (eqG Fs Gs j):=by
 have l1:=r1.length;have l2:=r2.length;rw [Xa] at l1 l2;have la:=PySem.Paired.length pa;have lb:=PySem.Paired.length pb;rw [Xl] at h1 h2;have ea:as[j]?=some (as[j]'(by omega)):=Xb (by omega);have eb:bs[j]?=some (bs[j]'(by omega)):=Xb (by omega);generalize as[j]'(by omega)=c at ea;generalize bs[j]'(by omega)=d at eb;obtain ⟨F,eF,hF⟩:=qaQ pa j c ea;obtain ⟨G,eG,hG⟩:=qaQ pb j d eb;obtain ⟨u,hu',ru⟩:=r1.get (i:=j) (x:=V.ref c) (by rw [Xw,ea];rfl);obtain ⟨v,hv',rv⟩:=r2.get (i:=j) (x:=V.ref d) (by rw [Xw,eb];rfl);cases ru
 cases rv
 have eu:its.toArray[j]=Value.ref c:=by
  have:its[j]?=some its[j]:=Xb h1
  rw [hu'] at this;simpa using (Xs this).symm
 have ev:its2.toArray[j]=Value.ref d:=by
  have:its2[j]?=some its2[j]:=Xb h2
  rw [hv'] at this;simpa using (Xs this).symm
 rw [eu,ev];have ee:eqG Fs Gs j=decide (F=G):=by unfold eqG;rw [eF,eG]
 rw [ee];exact hR c d F G hF hG
theorem qfv (I:Inv X pins σ H s) {c:Addr} {F G:List (List Nat)} (hF:SqT X.K H c (F.map vS)) (hG:SqT X.K H c (G.map vS)):F=G:=by
 rw [zK] at hF hG;obtain ⟨iF,rF,pF,_⟩:=I.tuple hF;obtain ⟨iG,rG,pG,_⟩:=I.tuple hG;have e1:iF=iG:=by
  obtain ⟨o,ho,_,n,hd⟩:=(show s.heap.IsTuple c iF.toArray from pF);obtain ⟨o',ho',_,n',hd'⟩:=(show s.heap.IsTuple c iG.toArray from pG);rw [ho] at ho';cases ho'
  rw [hd] at hd';injection hd' with e _
  exact List.toArray_inj e
 subst e1;have e2:=qfn rF rG
 have:=congrArg (List.map cs) e2
 rwa [qcP,qcP] at this
theorem qkz (I:Inv X pins σ H s) {A:Around} (hu:A.units < cLine) {c d:Addr} {F G:List (List Nat)} (hF:SqT X.K H c (F.map vS)) (hG:SqT X.K H d (G.map vS)):SeqAt.EqAt A s (.ref c) (.ref d) (decide (F=G)):=by
 by_cases hcd:c=d
 ·subst hcd;rw [Xv (qfv I hF hG)];exact SeqAt.EqAt.same _
 ·rw [zK] at hF hG;obtain ⟨iF,rF,pF,_⟩:=I.tuple hF;obtain ⟨iG,rG,pG,_⟩:=I.tuple hG;have lF:=rF.length;have lG:=rG.length;rw [Xa] at lF lG
  have:=SeqAt.RcAt.tuples (A:=A) (s:=s) (e:=qbI V.str (F.map qj) (G.map qj)) (show s.heap.IsTuple c iF.toArray from pF) (show s.heap.IsTuple d iG.toArray from pG) hu (λ j h1 h2=>kc v8 rF rG j h1 h2)
  rw [Xl,Xl,<- lF,<- lG,jV v8] at this;have e4:decide (F.map qj=G.map qj)=decide (F=G):=by
   by_cases h:F=G
   ·subst h;simp
   ·rw [Xu h,Xu];intro e
    have:=congrArg (List.map cs) e
    rw [qcP,qcP] at this;exact h this
  rw [e4] at this;exact SeqAt.EqAt.of_refs hcd this
theorem qkA (I:Inv X pins σ H s) {A:Around} (hu:A.units+1 < cLine) {p q:Addr} {xs ys:List Addr} {Fs Gs:List (List (List Nat))} (h1:SqT X.K H p (xs.map V.ref)) (h2:SqT X.K H q (ys.map V.ref)) (pa:Paired (λ c (F:List (List Nat))=>SqT X.K H c (F.map vS)) xs Fs) (pb:Paired (λ c (F:List (List Nat))=>SqT X.K H c (F.map vS)) ys Gs) (hl:Fs.length=Gs.length) :
  SeqAt.EqAt A s (.ref p) (.ref q) (decide (Fs=Gs)):=by
 obtain ⟨iF,rF,pF,_⟩:=I.tuple h1;obtain ⟨iG,rG,pG,_⟩:=I.tuple h2;have lF:=rF.length;have lG:=rG.length;rw [Xa] at lF lG;have la:=PySem.Paired.length pa;have lb:=PySem.Paired.length pb;by_cases hpq:p=q
 ·subst hpq;have e1:iF=iG:=by
   obtain ⟨o,ho,_,n,hd⟩:=(show s.heap.IsTuple p iF.toArray from pF);obtain ⟨o',ho',_,n',hd'⟩:=(show s.heap.IsTuple p iG.toArray from pG);rw [ho] at ho';cases ho'
   rw [hd] at hd';injection hd' with e _
   exact List.toArray_inj e
  subst e1;have e2:xs=ys:=by
   have key:∀ {xs ys:List Addr} {us:List Value},qN (xs.map V.ref) us->qN (ys.map V.ref) us->xs=ys:=by
    intro xs;induction xs with
    | nil=>intro ys us h1 h2;cases h1;cases ys with
     | nil=>rfl
     | cons=>cases h2
    | cons x xs ih=>intro ys us h1 h2;cases h1 with
     | cons r t=>cases ys with
      | nil=>cases h2
      | cons y ys=>cases h2 with
       | cons r' t'=>cases r;cases r';rw [ih t t']
   exact key rF rG
  subst e2;have e3:Fs=Gs:=by
   have key:∀ {xs:List Addr} {Fs Gs:List (List (List Nat))},Paired (λ c (F:List (List Nat))=>SqT X.K H c (F.map vS)) xs Fs->Paired (λ c (F:List (List Nat))=>SqT X.K H c (F.map vS)) xs Gs->Fs=Gs:=by
    intro xs;induction xs with
    | nil=>intro Fs Gs h1 h2;cases h1;cases h2;rfl
    | cons x xs ih=>intro Fs Gs h1 h2;cases h1 with
     | cons r t=>cases h2 with
      | cons r' t'=>rw [qfv I r r',ih t t']
   exact key pa pb
  rw [Xv e3];exact SeqAt.EqAt.same _
 ·have:=SeqAt.RcAt.tuples (A:=A) (s:=s) (e:=eqG Fs Gs) (show s.heap.IsTuple p iF.toArray from pF) (show s.heap.IsTuple q iG.toArray from pG) (by omega) (λ j h1 h2=>qg9 rF rG pa pb (λ c d F G hF hG=>qkz I (show A.in1.units < cLine from hu) hF hG) j h1 h2)
  rw [Xl,Xl,show iF.length=Fs.length by omega,show iG.length=Fs.length by omega,Nat.min_self,qg8 Fs Gs hl,beq_self_eq_true,Bool.and_true] at this;exact SeqAt.EqAt.of_refs hpq this
end
def rLG {α:Type} [DecidableEq α] (K:PySem.W.Frag) (R:Hp->Addr->α->Prop) (neg:Bool):R2:=λ x y H Q=>∃ (a b:Addr) (as bs:List Addr) (Fs Gs:List α),x=.ref a/\y=.ref b/\SqL K H a (as.map V.ref)/\SqL K H b (bs.map V.ref)/\Paired (R H) as Fs/\Paired (R H) bs Gs/\Fs.length=Gs.length/\Q (.bl (if neg then !decide (Fs=Gs) else decide (Fs=Gs))) H
theorem qkB {α:Type} [DecidableEq α] {X:Cx} {R:Hp->Addr->α->Prop} (hu:X.A.units < cLine) (hR:∀ {pins:List (Addr×Obj)} {σ:St} {H:Hp} {s:Shared},Inv X pins σ H s->∀ c d F G,R H c F->R H d G->SeqAt.EqAt X.A.in1 s (.ref c) (.ref d) (decide (F=G))):OpR X (compareOp .NotEq) (rLG X.K R true):=by
 intro pins s σ H x y v u Q I rx ry h;obtain ⟨a,b,as,bs,Fs,Gs,rfl,rfl,h1,h2,pa,pb,hl,q⟩:=h;cases rx
 cases ry
 obtain ⟨its,r1,p1,_⟩:=I.list h1;obtain ⟨its2,r2,p2,_⟩:=I.list h2;have l1:=r1.length;have l2:=r2.length;rw [Xa] at l1 l2;have la:=PySem.Paired.length pa;have lb:=PySem.Paired.length pb;have hs:its.toArray.size=its2.toArray.size:=by rw [Xl,Xl];omega
 refine SeqAt.RcNeAt.lists (A:=X.A) (s:=s) (e:=eqG Fs Gs) p1.isList p2.isList hs hu (λ j h1 h2=>qg9 r1 r2 pa pb (hR I) j h1 h2) X.prog X.w X.xe _ ⟨.bl (!decide (Fs=Gs)),H,I,?_,q⟩;rw [Xl,show its.length=Fs.length by omega,qg8 Fs Gs hl];rfl
def qld (K:PySem.W.Frag) (H:Hp) (p:Addr) (fg:List (List Nat)×List (List Nat)):Prop:=∃ x y:Addr,SqT K H p [.ref x,.ref y]/\SqT K H x (fg.1.map vS)/\SqT K H y (fg.2.map vS)
theorem qkC {X:Cx} (hu:X.A.units+2 < cLine):OpR X (compareOp .NotEq) (rLG X.K (qld X.K) true):=by
 refine qkB (by omega) λ {pins σ H s} I c d F G hF hG=>?_
 obtain ⟨x,y,h1,h2,h3⟩:=hF;obtain ⟨x',y',k1,k2,k3⟩:=hG
 have:=qkA I (A:=X.A.in1) (show X.A.in1.units+1 < cLine from hu) (xs:=[x,y]) (ys:=[x',y']) (Fs:=[F.1,F.2]) (Gs:=[G.1,G.2]) h1 k1 (.cons h2 (.cons h3 .nil)) (.cons k2 (.cons k3 .nil)) rfl
 have e:decide ([F.1,F.2]=[G.1,G.2])=decide (F=G):=by
  obtain ⟨F1,F2⟩:=F;obtain ⟨G1,G2⟩:=G;simp
 rw [e] at this;exact this
section
variable {X:Cx}
def qnH:R2:=λ x y H Q=>∃ n:Nat,x=vS [32]/\y=.int (n:Int)/\n<=3/\Q (vS (List.replicate n 32)) H
theorem qep:OpR X (binaryOp .Mult) qnH:=by
 intro pins s σ H x y v u Q I rx ry h;obtain ⟨n,rfl,rfl,hn,q⟩:=h;obtain ⟨t,rfl⟩:=rx;obtain ⟨t',rfl⟩:=ry;rcases (show n=0∨n=1∨n=2∨n=3 by omega) with rfl | rfl | rfl | rfl
 ·exact P.mul_str_none (by decide) (by decide) ⟨vS [],H,I.tok _,⟨_,rfl⟩,q⟩
 ·exact P.mul_str (by decide) (by decide) (by decide) ⟨vS [32],H,I,⟨_,rfl⟩,q⟩
 ·exact P.mul_str (by decide) (by decide) (by decide) ⟨by decide,vS [32,32],H,I.tok _,⟨_,rfl⟩,q⟩
 ·exact P.mul_str (by decide) (by decide) (by decide) ⟨by decide,vS [32,32,32],H,I.tok _,⟨_,rfl⟩,q⟩
end
theorem qc3:∀ (l:List (Str×NameKind)) (n:Nat) (acc:List (Str×Addr)) (x:Str) (c:Addr),(cellsFrom n l acc).lookup x=some c->((x,NameKind.cell)∈l/\n<=c)∨acc.lookup x=some c
 | [],n,acc,x,c,h=>.inr h
 | (nm,k)::r,n,acc,x,c,h=>by
  unfold cellsFrom at h;split at h
  ·rename_i hk;have hk:k=.cell:=by simpa using hk
   rcases qc3 r (n+1) _ x c h with ⟨h1,h2⟩ | h1
   ·exact .inl ⟨Xn _ h1,Nat.le_of_succ_le h2⟩
   ·rw [List.lookup_cons] at h1;cases hx:x == nm with
    | true =>
     rw [hx] at h1;have e1:x=nm:=beq_iff_eq.mp hx;have e2:n=c:=Xs h1;subst e1 hk;exact .inl ⟨Xp ..,Nat.le_of_eq e2⟩
    | false=>rw [hx] at h1;exact .inr h1
  ·rcases qc3 r n acc x c h with ⟨h1,h2⟩ | h1
   ·exact .inl ⟨Xn _ h1,h2⟩
   ·exact .inr h1
theorem qb6:∀ (l:List (Str×NameKind)) (n:Nat) (acc:List (Str×Addr)) (x:Str),(acc.lookup x).isSome=true->((cellsFrom n l acc).lookup x).isSome=true
 | [],n,acc,x,h=>h
 | (nm,k)::r,n,acc,x,h=>by
  unfold cellsFrom;split
  ·refine qb6 r _ _ x ?_;rw [List.lookup_cons];cases x == nm with
   | true=>rfl
   | false=>exact h
  ·exact qb6 r n acc x h
theorem qgq:∀ (l:List (Str×NameKind)) (n:Nat) (acc:List (Str×Addr)) (x:Str),(x,NameKind.cell)∈l->((cellsFrom n l acc).lookup x).isSome=true
 | (nm,k)::r,n,acc,x,h=>by
  unfold cellsFrom;rcases List.mem_cons.mp h with e | e
  ·cases e
   rw [if_pos (by decide)];refine qb6 r _ _ _ ?_;rw [List.lookup_cons];simp
  ·split
   ·exact qgq r _ _ x e
   ·exact qgq r n acc x e
theorem qeq:∀ (l:List (Str×NameKind)) (n:Nat) (acc:List (Str×Addr)) (x:Str),(x,NameKind.cell) ∉ l->(cellsFrom n l acc).lookup x=acc.lookup x
 | [],n,acc,x,_=>rfl
 | (nm,k)::r,n,acc,x,h=>by
  have hr:(x,NameKind.cell) ∉ r:=λ e=>h (Xn _ e)
  unfold cellsFrom;split
  ·rename_i hk;have hk:k=.cell:=by simpa using hk
   rw [qeq r _ _ x hr,List.lookup_cons];cases hx:x == nm with
   | true =>
    have e1:x=nm:=beq_iff_eq.mp hx;subst e1 hk;exact absurd (Xp ..) h
   | false=>rfl
  ·exact qeq r n acc x hr
theorem qgr:∀ (l:List (Str×NameKind)) (n:Nat) (acc:List (Str×Addr)),(∀ x c,acc.lookup x=some c->c < n)->(∀ x y c,acc.lookup x=some c->acc.lookup y=some c->x=y) ->
  ∀ x y c,(cellsFrom n l acc).lookup x=some c->(cellsFrom n l acc).lookup y=some c->x=y
 | [],n,acc,_,hi,x,y,c,h1,h2=>hi x y c h1 h2
 | (nm,k)::r,n,acc,hb,hi,x,y,c,h1,h2=>by
  unfold cellsFrom at h1 h2;split at h1
  ·rename_i hk;rw [if_pos hk] at h2;refine qgr r (n+1) ((nm,n)::acc) (λ x c e=>?_) (λ x y c e1 e2=>?_) x y c h1 h2
   ·rw [List.lookup_cons] at e;cases hx:x == nm with
    | true=>rw [hx] at e;cases e;exact Nat.lt_succ_self _
    | false=>rw [hx] at e;exact Nat.lt_succ_of_lt (hb x c e)
   ·rw [List.lookup_cons] at e1 e2;cases hx:x == nm with
    | true =>
     rw [hx] at e1;cases hy:y == nm with
     | true=>rw [beq_iff_eq.mp hx,beq_iff_eq.mp hy]
     | false=>rw [hy] at e2;cases e1;exact absurd (hb y _ e2) (XC _)
    | false =>
     rw [hx] at e1;cases hy:y == nm with
     | true=>rw [hy] at e2;cases e2;exact absurd (hb x _ e1) (XC _)
     | false=>rw [hy] at e2;exact hi x y c e1 e2
  ·rename_i hk;rw [if_neg hk] at h2;exact qgr r n acc hb hi x y c h1 h2
theorem qer:∀ (l:List (Str×NameKind)) (h:Heap) (acc:List (Str×Addr)) (x:Str) (c:Addr),(cellsFrom h.objs.size l acc).lookup x=some c->(pushCells h l).IsCell c none∨acc.lookup x=some c
 | [],h,acc,x,c,e=>.inr e
 | (nm,k)::r,h,acc,x,c,e=>by
  unfold cellsFrom at e;unfold pushCells;split at e
  ·rename_i hk;rw [if_pos hk];have e:(cellsFrom (h.push { cls:=.type "cell",data:=.cell none }).objs.size r ((nm,h.objs.size)::acc)).lookup x=some c:=by rw [Heap.size_push];exact e
   rcases qer r _ _ x c e with h1 | h1
   ·exact .inl h1
   ·rw [List.lookup_cons] at h1;cases hx:x == nm with
    | true =>
     rw [hx] at h1;have e2:h.objs.size=c:=Xs h1;subst e2;exact .inl ⟨_,pushCells_keeps r _ _ _ (Xk _ rfl),rfl⟩
    | false=>rw [hx] at h1;exact .inr h1
  ·rename_i hk;rw [if_neg hk];exact qer r h acc x c e
theorem qdL (env:Env):∀ (l:List (Str×NameKind)) (acc:List (Str×Addr)) (x:Str) (c:Addr),(zM env l acc).lookup x=some c->(x,NameKind.free)∈l∨acc.lookup x=some c
 | [],acc,x,c,h=>.inr h
 | (n,k)::r,acc,x,c,h=>by
  rw [zM] at h;rcases qdL env r _ x c h with h1 | h1
  ·exact .inl (Xn _ h1)
  ·by_cases hk:(k == NameKind.free)=true
   ·rw [if_pos hk,List.lookup_cons] at h1;have hk:k=.free:=by simpa using hk
    cases hx:x == n with
    | true =>
     have e1:x=n:=beq_iff_eq.mp hx;subst e1 hk;exact .inl (Xp ..)
    | false=>rw [hx] at h1;exact .inr h1
   ·rw [if_neg hk] at h1;exact .inr h1
theorem qaa {α:Type}:∀ {l:List (Str×α)},(l.map (·.1)).Nodup->∀ {x:Str} {k:α},(x,k)∈l->l.lookup x=some k
 | [],_,x,k,h=>by cases h
 | (n,j)::r,nd,x,k,h=>by
  have nd':=List.nodup_cons.mp nd;rw [List.lookup_cons];rcases List.mem_cons.mp h with e | e
  ·cases e;simp
  ·have:x≠n:=λ q=>nd'.1 (by subst q;exact List.mem_map.mpr ⟨_,e,rfl⟩)
   rw [beq_eq_false_iff_ne.mpr this];exact qaa nd'.2 e
theorem qab {env:Env}:∀ {names:List (Str×NameKind)} {x:Str} {k:NameKind},
  (names.map λ (n,k)=>if (k == NameKind.free && env.scope.kind == .function && env.kindOf n == some .cell) then (n,NameKind.cell) else (n,k)).lookup x=some k->(k=.cell∨k=.free)->names.lookup x=some .free∨names.lookup x=some .cell
 | [],_,_,h,_=>by simp at h
 | (n,k0)::r,x,k,h,hk=>by
  have ih:=@qab env r x k;replace h:List.lookup x ((if (k0 == NameKind.free && env.scope.kind == .function && env.kindOf n == some .cell)=true then (n,NameKind.cell) else (n,k0))::(r.map λ (n,k)=>if (k == NameKind.free && env.scope.kind == .function && env.kindOf n == some .cell) then (n,NameKind.cell) else (n,k)))=some k:=h;rw [List.lookup_cons];by_cases hc:(k0 == NameKind.free && env.scope.kind == .function && env.kindOf n == some .cell)=true
  ·rw [if_pos hc,List.lookup_cons] at h;have h0:k0=.free:=by
    rw [Bool.and_eq_true,Bool.and_eq_true] at hc;simpa using hc.1.1
   cases hx:x == n with
   | true=>left;rw [h0]
   | false=>rw [hx] at h;exact ih h hk
  ·rw [if_neg hc,List.lookup_cons] at h;cases hx:x == n with
   | true =>
    rw [hx] at h;have e:k0=k:=Xs h;rw [e];rcases hk with q | q
    ·right;rw [q]
    ·left;rw [q]
   | false=>rw [hx] at h;exact ih h hk
def y7 (X:Cx) (NY:List Str) (scope:Scope) (C:Addr) (s:Shared) (H:Hp) (fp:List Addr) (pins:List (Addr×Obj)):Cx :=
 { X with N:=NY,s₀:=s,H₀:=H,env:=compEnvC scope (cellsFrom (C+1) scope.names (zM X.env scope.names [])) C X.env,outer:=X.stack,ex:=fp,fn:=λ x=>scope.names.lookup x == some .cell,pn:=X.pn++pins,xe:=λ _ _=>False }
structure CompScopeC (X:Cx) (NY:List Str) (o:Nat) (caps:List Nat) (scope:Scope):Prop where
 kind:scope.kind=.function
 nd:NY.Nodup
 names:(scope.names.map (·.1)).Nodup
 frees:∀ y∈scope.names,y.2=.free->(X.env.kindOf y.1=some .cell∨X.env.kindOf y.1=some .free)
 locs:∀ y∈scope.names,y.2=.local->scope.names.lookup y.1=some .local
 capOk:∀ (j:Nat) (i:Nat),caps[j]?=some i->∃ x,NY[o+j]?=some x/\X.N[i]?=some x/\scope.names.lookup x=some .free
 len:NY.length=o+caps.length
theorem qfw {X:Cx} {NY:List Str} {o:Nat} {caps:List Nat} {scope:Scope} (frees:List Str) (k:scope.kind=.function) (nd:NY.Nodup) (nc:(scope.names.map (·.1)).Nodup)
  (lc:scope.names.all (λ y=>y.2 != .local || scope.names.lookup y.1 == some .local)=true) (fr:scope.names.all (λ y=>y.2 != .free || frees.contains y.1)=true)
  (fk:∀ x∈frees,X.env.kindOf x=some .cell∨X.env.kindOf x=some .free) (cap:∀ (j i:Nat),caps[j]?=some i->∃ x,NY[o+j]?=some x/\X.N[i]?=some x/\scope.names.lookup x=some .free) (len:NY.length=o+caps.length):CompScopeC X NY o caps scope where
 kind:=k
 nd:=nd
 names:=nc
 frees:=λ y hy e=>by
  have:=List.all_eq_true.mp fr y hy
  rw [e] at this;exact fk _ (List.contains_iff_mem.mp this)
 locs:=λ y hy e=>by
  have:=List.all_eq_true.mp lc y hy
  rw [e] at this;simpa using this
 capOk:=cap
 len:=len
section
variable {X:Cx}
theorem qhY {pins:List (Addr×Obj)} {σ:St} {H2:Hp} {s2:Shared} {NY:List Str} {o:Nat} {caps:List Nat} {scope:Scope} {fp:List Addr} {h₁:Heap} (S:CompScopeC X NY o caps scope) (I2:Inv X pins σ H2 s2)
  (hfp:∀ b∈fp,jy X pins H2 b) (hob:∀ b∈fp,∃ ob,s2.heap.get? b=some ob)
  (hns:h₁.Ns (s2.heap.objs.size+1) λ _=>none) (hkeep:∀ b ob,s2.heap.get? b=some ob->h₁.get? b=some ob)
  (hcl:∀ x c,(cellsFrom (s2.heap.objs.size+1+1) scope.names (zM X.env scope.names [])).lookup x=some c->h₁.IsCell c none∨(zM X.env scope.names []).lookup x=some c)
  (hD:∃ n,h₁.get? s2.heap.objs.size=some { cls:=.type "list",data:=.seq ([]:List Value).toArray n }) (t':Nat) :
  Inv (y7 X NY scope (s2.heap.objs.size+1) s2 H2 fp pins) [] (stY o caps σ) (upd H2 s2.heap.objs.size (.lst [])) { s2 with heap:=h₁,toks:=t' }:=by
 have frees:∀ y∈scope.names,y.2=.free->∃ c,X.env.cells.lookup y.1=some c:=λ y hy e=>I2.ok.has _ (S.frees y hy e)
 have sound:∀ x c,(zM X.env scope.names []).lookup x=some c->X.env.cells.lookup x=some c:=qaH X.env scope.names [] frees (λ x c e=>by simp at e);have old:∀ x c,(zM X.env scope.names []).lookup x=some c->c < s2.heap.objs.size:=λ x c e=>by
  obtain ⟨v,ob,q,d⟩:=I2.cell x c (sound x c e);exact Xm q
 have parts:∀ x c,(cellsFrom (s2.heap.objs.size+1+1) scope.names (zM X.env scope.names [])).lookup x=some c->s2.heap.objs.size+1+1<=c∨(zM X.env scope.names []).lookup x=some c:=λ x c e =>
  (qc3 _ _ _ x c e).imp (λ h=>h.2) id
 have hfr:H2 s2.heap.objs.size=none:=I2.hok.fresh (Xe _);have hfr1:H2 (s2.heap.objs.size+1)=none:=I2.hok.fresh (Nat.le_succ _);have ltC:∀ b ob,s2.heap.get? b=some ob->b≠s2.heap.objs.size+1:=λ b ob e=>Xo (Nat.lt_succ_of_lt (Xm e))
 have ltD:∀ b ob,s2.heap.get? b=some ob->b≠s2.heap.objs.size:=λ b ob e=>Xo (Xm e)
 have hok1:HOk X.prog X.w (upd H2 s2.heap.objs.size (.lst [])) h₁:=by
  obtain ⟨n,hD⟩:=hD;exact I2.hok.laid hkeep (Xe _) ⟨Nat.zero_le _,[],n,.nil,hD⟩
 refine ⟨?_,rfl,I2.bare,?_,?_,?_,?_,?_,?_,hok1,?_⟩
 ·refine ⟨I2.ok.mod,S.kind,I2.ok.glob,I2.ok.blt,Nat.le_succ _,λ x y c h1 h2=>?_,λ x hx=>?_,λ x c e h=>?_,I2.ok.hd,I2.ok.frames,.inl rfl,λ b hb=>?_,
   I2.bs,Nat.le_trans I2.ok.bsz I2.sz,λ b ob e hb=>?_,λ b hb z=>?_,I2.stack,I2.stkFree⟩
  ·exact qgr scope.names (s2.heap.objs.size+1+1) (zM X.env scope.names []) (λ x c e=>Nat.lt_succ_of_lt (Nat.lt_succ_of_lt (old x c e))) (λ x y c h1 h2=>I2.ok.inj x y c (sound x c h1) (sound y c h2)) x y c h1 h2
  ·have hx':scope.names.lookup x=some .free∨scope.names.lookup x=some .cell:=by
    rcases hx with q | q
    ·exact qab (env:=X.env) q (.inl rfl)
    ·exact qab (env:=X.env) q (.inr rfl)
   rcases hx' with q | q
   ·exact Option.isSome_iff_exists.mp (qb6 _ _ _ x (v1 X.env scope.names [] x (PySem.mem_of_lookup q)))
   ·exact Option.isSome_iff_exists.mp (qgq _ _ _ x (PySem.mem_of_lookup q))
  ·rcases parts x c h with q | q
   ·exact Nat.le_trans (Nat.le_trans (Nat.le_succ _) (Nat.le_succ _)) q
   ·rcases qdL X.env _ _ x c q with z | z
    ·have e1:=qaa S.names z;have e2:scope.names.lookup x=some .cell:=by simpa using (show (scope.names.lookup x == some .cell)=true from e)
     rw [e1] at e2;cases e2
    ·simp at z
  ·obtain ⟨ob,e⟩:=hob b hb;refine ⟨ltC b ob e,λ x c q=>?_⟩;rcases parts x c q with z | z
   ·exact λ y=>absurd (Xm e) (by rw [<- y];exact Nat.not_lt.mpr (Nat.le_trans (Nat.le_trans (Nat.le_succ _) (Nat.le_succ _)) z))
   ·exact (hfp b hb).2.2.2.2.1 x c (sound x c z)
  ·rcases (hfp b hb).2.2.2.1 with q | q
   ·exact I2.ok.noex b ob e q
   ·exact absurd (Nat.lt_of_lt_of_le (Xm e) (Nat.le_trans I2.ok.bsz q)) (XC _)
  ·rcases List.mem_cons.mp (I2.stkSub b z) with q | q
   ·exact (hfp b hb).2.1 q
   ·exact (hfp b hb).2.2.1 q
 ·exact Un.laid hkeep (Xe _) hfr
 ·refine ⟨_,hns,λ j x v e1 e2 e3=>?_⟩;obtain ⟨j',i,ej,ec,es⟩:=qiz e2;obtain ⟨x',n1,n2,n3⟩:=S.capOk j' i ec;rw [<- ej] at n1;have ex:x=x':=Xs ((show NY[j]?=some x from e1).symm.trans n1);subst ex;have hk:=S.frees (x,.free) (PySem.mem_of_lookup n3) rfl;obtain ⟨m,_,hl⟩:=I2.loc;have hv:Vis X.env.scope x:=hk.elim (λ q=>.inr (.inl q)) λ q=>.inr (.inr q)
  obtain ⟨u,ru,lk⟩:=hl i x v n2 es hv;refine ⟨u,ru,.inr ⟨vk (env:=X.env) n3,?_⟩⟩;rcases lk with ⟨q,_⟩ | ⟨_,c,ec,cell⟩
  ·rcases hk with z | z
   ·rw [show X.env.kindOf x=some .cell from z] at q;cases q
   ·rw [show X.env.kindOf x=some .free from z] at q;cases q
  ·obtain ⟨c',hc'⟩:=Option.isSome_iff_exists.mp (v1 X.env scope.names [] x (PySem.mem_of_lookup n3))
   have:=sound x c' hc'
   rw [ec] at this;cases this
   obtain ⟨ob,e,d⟩:=cell;refine ⟨c,?_,ob,hkeep c ob e,d⟩;show (cellsFrom (s2.heap.objs.size+1+1) scope.names (zM X.env scope.names [])).lookup x=some c
   rw [qeq _ _ _ x (λ z=>by have:=qaa S.names z;rw [n3] at this;cases this)];exact hc'
 ·intro x c e;rcases hcl x c e with q | q
  ·exact ⟨_,q⟩
  ·obtain ⟨v,ob,q,d⟩:=I2.cell x c (sound x c q);exact ⟨v,ob,hkeep c ob q,d⟩
 ·show upd H2 s2.heap.objs.size (.lst []) (s2.heap.objs.size+1)=none
  rw [qx (Nat.succ_ne_self _)];exact hfr1
 ·intro x c e;rcases parts x c e with z | z
  ·have hc:s2.heap.objs.size < c:=Nat.lt_of_lt_of_le (Nat.lt_succ_of_lt (Nat.lt_succ_self _)) z;rw [qx (Nat.ne_of_gt hc)];exact I2.hok.fresh (Nat.le_of_lt hc)
  ·obtain ⟨v,ob,q,d⟩:=I2.cell x c (sound x c z);rw [qx (ltD c ob q)];exact I2.freeC x c (sound x c z)
 ·intro p hp;have hp':p∈X.pn++pins:=by
   have:p∈(X.pn++pins)++[]:=hp
   simpa using this
  obtain ⟨e,n,ne,nf,d⟩:=I2.pin p hp';refine ⟨hkeep _ _ e,by rw [qx (ltD _ _ e)];exact n,ltC _ _ e,λ z=>?_,d⟩;rcases List.mem_cons.mp (I2.stkSub p.1 z) with q | q
  ·exact ne q
  ·exact nf q
 ·show (stY o caps σ).length=NY.length
  unfold stY;rw [Xd,XB,Xa,S.len]
theorem qkD {M:Model} {A:Around} {E:Value->Shared->Prop} {s:Shared} {scope:Scope} {globals:Addr} {closure:List (Str×Addr)} {qual:Str} {func:Option Addr} {code:Value} {outer:Env} {builtins:Addr} {Q:Env->Shared->Prop}
  (hQ:Q (newEnv scope s.heap.objs.size globals (cellsFrom (s.heap.objs.size+1) scope.names closure) qual func code (some outer) builtins) { s with heap:=pushCells (s.heap.push { cls:=.type "dict",data:=.dict #[] }) scope.names }) :
  wpAny M A (newFunctionEnv scope globals closure [] qual func code (some outer) builtins) Q E s:=by
 simp only [newFunctionEnv,Option.isSome_some,if_true];refine Xf (wpAny_alloc ?_);refine Xf (wpAny_layCells _ (λ name kind cells=>by cases hkc:kind == NameKind.cell <;> simp [hkc]) _ _ _ _ ?_);rw [show ({ s with heap:=s.heap.push { cls:=.type "dict",data:=.dict #[] } }:Shared).heap.objs.size=s.heap.objs.size+1 from Heap.size_push ..];rw [List.forIn_nil];exact Xf (Xg (Xg hQ))
end
section
variable {X:Cx}
theorem qes {pins:List (Addr×Obj)} {σ:St} {H2:Hp} {s2:Shared} {NY:List Str} {o:Nat} {caps:List Nat} {scope:Scope} {fp:List Addr} {it:Addr} {tn:Nat->Heap->Prop} {adv:Adv} {stop:Nat->Hp->Prop}
  {elt tg iter:Expr} {ifs:List Expr} {pos:Pos} {tt:TT} {te:TE} {Q:VK} {R:Result->Shared->Prop}
  (S:CompScopeC X NY o caps scope) (I2:Inv X pins σ H2 s2) (hfp:∀ b∈fp,jy X pins H2 b) (st2:tn 0 s2.heap)
  (Wk:∀ C,Walk (y7 X NY scope C s2 H2 fp pins) tg fp it tn adv stop) (ht:∀ C,PTs (y7 X NY scope C s2 H2 fp pins) ifs tt) (he:∀ C,PE (y7 X NY scope C s2 H2 fp pins) elt te)
  (h:ji o caps adv stop tt te σ H2 Q) (fin:∀ (s4:Shared) (H3:Hp) (m:Str->Option Value),s4.heap.Ns (s2.heap.objs.size+1) m->Inv X pins σ H3 s4->H3 (s2.heap.objs.size+1)=none->Q (.ref s2.heap.objs.size) H3->R (.ok .next) s4) :
  wpAny (model X.prog X.w) X.A (newList []) (λ acc s₃=>wpAny (model X.prog X.w) X.A (newFunctionEnv scope X.env.globals (zM X.env scope.names []) [] X.env.qual none .none (some X.env)) (λ cenv s₄ =>
   acc=.ref s2.heap.objs.size/\cenv.locals=s2.heap.objs.size+1/\codeAny (model X.prog X.w) X.A (.compStart (.ListComp elt [⟨tg,iter,ifs,0⟩] scope pos) 0 (.ref it) acc { cenv with scope:=relabel scope X.env }) R s₄) X.xe s₃) X.xe s2:=by
 refine wpAny_newObj_type (qkD ?_);have hC:(s2.heap.push { cls:=.type "list",dict:=none,data:=.seq ([]:List Value).toArray }).objs.size=s2.heap.objs.size+1:=Heap.size_push _ _;dsimp only;rw [hC];have hszD:((s2.heap.push { cls:=.type "list",dict:=none,data:=.seq ([]:List Value).toArray }).push { cls:=.type "dict",data:=.dict #[] }).objs.size=s2.heap.objs.size+1+1:=by rw [Heap.size_push,hC]
 have hcl:∀ x c,(cellsFrom (s2.heap.objs.size+1+1) scope.names (zM X.env scope.names [])).lookup x=some c->(pushCells ((s2.heap.push { cls:=.type "list",dict:=none,data:=.seq ([]:List Value).toArray }).push { cls:=.type "dict",data:=.dict #[] }) scope.names).IsCell c none∨(zM X.env scope.names []).lookup x=some c:=λ x c e =>
  qer scope.names _ _ x c (by rw [hszD];exact e)
 have hns₁:(pushCells ((s2.heap.push { cls:=.type "list",dict:=none,data:=.seq ([]:List Value).toArray }).push { cls:=.type "dict",data:=.dict #[] }) scope.names).Ns (s2.heap.objs.size+1) λ _=>none:=by
  have:=(Heap.Ns.new (s2.heap.push { cls:=.type "list",dict:=none,data:=.seq ([]:List Value).toArray }) (.type "dict")).keeps (pushCells_keeps scope.names _)
  rw [hC] at this;exact this
 have hkeep:∀ b ob,s2.heap.get? b=some ob->(pushCells ((s2.heap.push { cls:=.type "list",dict:=none,data:=.seq ([]:List Value).toArray }).push { cls:=.type "dict",data:=.dict #[] }) scope.names).get? b=some ob:=λ b ob e =>
  pushCells_keeps _ _ _ _ (Xc _ (Xc _ e))
 have hD:∃ n,(pushCells ((s2.heap.push { cls:=.type "list",dict:=none,data:=.seq ([]:List Value).toArray }).push { cls:=.type "dict",data:=.dict #[] }) scope.names).get? s2.heap.objs.size=some { cls:=.type "list",data:=.seq ([]:List Value).toArray n } :=
  ⟨_,pushCells_keeps _ _ _ _ (Xc _ (Xk _ rfl))⟩
 generalize pushCells ((s2.heap.push { cls:=.type "list",dict:=none,data:=.seq ([]:List Value).toArray }).push { cls:=.type "dict",data:=.dict #[] }) scope.names=h₁ at hns₁ hcl hkeep hD ⊢;have hfr:H2 s2.heap.objs.size=none:=I2.hok.fresh (Xe _);obtain ⟨W,⟨m0,w0⟩,turn⟩:=h _ hfr;have ob0:=(Wk 0).obj 0 s2.heap st2;have I4:=qhY S I2 hfp (λ b hb=>(ob0 b hb).imp λ _ q=>q.1) (hns:=hns₁) hkeep hcl hD s2.toks;have st4:tn 0 h₁:=(Wk 0).keep _ _ _ st2 λ b _ ob e=>hkeep b ob e
 have fr4:∀ b∈fp,upd H2 s2.heap.objs.size (.lst []) b=none:=λ b hb=>by
  obtain ⟨ob,e,_⟩:=ob0 b hb;rw [qx (Xo (Xm e))];exact (hfp b hb).1
 have loop:codeAny (model X.prog X.w) X.A (.compLoop (.ListComp elt [⟨tg,iter,ifs,0⟩] scope pos) 0 (.ref it) (.ref s2.heap.objs.size) (compEnvC scope (cellsFrom (s2.heap.objs.size+1+1) scope.names (zM X.env scope.names [])) (s2.heap.objs.size+1) X.env))
   R { s2 with heap:=h₁ }:=by
  have Wk:=Wk (s2.heap.objs.size+1);have ht:=ht (s2.heap.objs.size+1);have he:=he (s2.heap.objs.size+1);generalize hY:y7 X NY scope (s2.heap.objs.size+1) s2 H2 fp pins=Y at Wk ht he I4;have fpY:∀ {H':Hp},(∀ b∈fp,H' b=none)->∀ b∈fp,jy Y [] H' b:=λ {H'} hn b hb=>by
   subst hY;obtain ⟨ob,e,_⟩:=ob0 b hb;have k:=I4.ok.exf b hb;refine ⟨hn b hb,k.1,I4.ok.exfs b hb,.inl hb,k.2,λ p hp=>?_⟩;have hp':p∈X.pn++pins:=by
    have:p∈(X.pn++pins)++[]:=hp
    simpa using this
   exact (hfp b hb).2.2.2.2.2 p hp'
  refine vm (λ n s'=>∃ i ys H',Inv Y [] (stY o caps σ) H' s'/\tn i s'.heap/\(∀ b∈fp,H' b=none)/\W i n ys H') ?_ m0 ⟨0,[],_,I4,st4,fr4,w0⟩;rintro n s3 ⟨i,ys,H3,I3,st3,fr3,w3⟩;have eE:Y.xe=λ _ _=>False:=by subst hY;rfl
  have ePw:Y.prog=X.prog/\Y.w=X.w/\Y.A=X.A/\Y.env=compEnvC scope (cellsFrom (s2.heap.objs.size+1+1) scope.names (zM X.env scope.names [])) (s2.heap.objs.size+1) X.env:=by subst hY;exact ⟨rfl,rfl,rfl,rfl⟩
  obtain ⟨eP,ew,eA,ee⟩:=ePw;rw [<- eP,<- ew,<- eA,<- ee,<- eE];rcases turn i n ys H3 w3 with ⟨stp,qn⟩ | av
  ·refine thn (Wk.done i [] s3 _ H3 I3 (fpY fr3) st3 stp) λ r s4 ⟨hr,I5⟩=>?_
   subst hr;obtain ⟨m,hn,_⟩:=id I5.loc;have eC:Y.env.locals=s2.heap.objs.size+1:=by rw [ee];rfl
   rw [eC] at hn;have u:=I5.base;have hokY:=I5.hok;have hfree:=I5.free;rw [eC] at hfree;have hbare:=I5.bare;have hos:=I5.os;subst hY;have hs:Heap.SameBut (s2.heap.objs.size+1) s4.heap s4.heap:=⟨rfl,λ _ _=>rfl⟩;have u2:Un (frs X.stack) fp H2 H3 s2.heap s4.heap:=Un.but u hs (Nat.le_succ _);have hok2:HOk X.prog X.w H3 s4.heap:=HOk.but hokY hs hfree;refine fin s4 H3 m hn ?_ hfree qn;obtain ⟨hh,g,d,t,os'⟩:=s4;obtain rfl:os'=s2.os:=hos;exact Inv.call (s:=s2) (h':=hh) (g':=g) (d':=d) (t':=t) (ch:=fp) I2 u2 hok2 hbare λ b hb=>⟨(hfp b hb).2.2.2.1,(hfp b hb).2.1,(hfp b hb).2.2.2.2.1,(hfp b hb).2.2.2.2.2⟩
  ·refine thn (Wk.item i [] s3 _ H3 _ I3 (fpY fr3) st3 av) λ r s4 ⟨u,hr,h4⟩=>?_
   subst hr;refine thn h4 λ _ s5 h5=>thn h5 λ _ s6 ⟨σ6,H6,I6,⟨kp,q6⟩,st6,fr6⟩=>?_
   have I6':=I6.pinned (fp:=fp) (fpY fr6) (Wk.obj _ _ st6);refine thn (ht _ s6 σ6 H6 _ I6' q6) λ b s7 ⟨H7,I7,q7⟩=>?_
   cases b with
   | false =>
    obtain ⟨m',hm,w7⟩:=q7;obtain ⟨J1,J2,J3⟩:=zE (tg:=tg) (tn:=tn) (i:=i+1) (Wk.obj _ _ st6) (λ h' k=>Wk.keep _ _ _ st6 k) I7;exact ⟨m',hm,i+1,ys,H7,J1.weak kp.2.symm kp.get,J2,J3,w7⟩
   | true =>
    refine thn (he _ s7 σ6 H7 _ I7 q7) λ y s8 ⟨yv,H8,I8,r8,hD8,hz8,m',hm,w8⟩=>?_
    refine thn (zA (X:=Y) _ s8 σ6 H8 (.ref s2.heap.objs.size) [yv] _ _ (λ v H'=>v=.non/\H'=upd H8 s2.heap.objs.size (.lst (ys++[yv]))) I8 rfl (.cons r8 .nil) ⟨_,ys,yv,rfl,rfl,hD8,hz8,rfl,rfl⟩) λ v s9 ⟨_,H9,I9,_,_,e9⟩=>?_
    subst e9;obtain ⟨J1,J2,J3⟩:=zE (tg:=tg) (tn:=tn) (i:=i+1) (Wk.obj _ _ st6) (λ h' k=>Wk.keep _ _ _ st6 k) I9;exact ⟨m',hm,i+1,ys++[yv],_,J1.weak kp.2.symm kp.get,J2,J3,w8⟩
 exact ⟨rfl,rfl,codeAny_compStart_list loop ((Wk 0).self _ 0 _ _ _ st4 loop)⟩
theorem qjb {i:Nat} {x:Str} {pos' pos:Pos} {elt iter tg:Expr} {ifs:List Expr} {scope:Scope} {cpos:Pos} {NY:List Str} {o:Nat} {caps:List Nat} {wi:TI} {g:TG} {tt:TT} {te:TE}
  (hN:X.N.Nodup) (hi:X.N[i]?=some x) (hx:X.env.scope.names.lookup x=some .local) (S:CompScopeC X NY o caps scope) (hc:X.calm=true) (hit:PI X tg iter wi)
  (hg:∀ C s H fp pins,PG (y7 X NY scope C s H fp pins) tg g) (ht:∀ C s H fp pins,PTs (y7 X NY scope C s H fp pins) ifs tt) (he:∀ C s H fp pins,PE (y7 X NY scope C s H fp pins) elt te)
  (hsw:swapsWith (.ListComp elt [⟨tg,iter,ifs,0⟩] scope cpos) (some (.Name x pos')) pos.line X.env=pure true:=by rfl)
  (hs:∀ x,foldedSetIterable iter X.env x=pure x:=by intro _;rfl):PS X (.Assign [.Name x pos'] (.ListComp elt [⟨tg,iter,ifs,0⟩] scope cpos) pos) (qih (qiA o caps wi g tt te) (vN i)):=by
 intro pins s σ H D I h;rw [exec_Assign_Name_used _ _ _ _ hsw];refine Xf (wpAny_standAt (Xf ?_));refine Xf (wpAny_comprehension_free (env:=X.env) (use:=some (assign (.Name x pos') X.env)) (g:=⟨tg,iter,ifs,0⟩) (gs:=[]) rfl hs (yH λ y hy e=>I.ok.has _ (S.frees y hy e)) S.kind S.locs ?_);refine thn (hit pins s σ H _ I h) λ v s1 h1=>thn h1 λ itv s2 h2=>?_
 obtain ⟨it,fp,tn,J,H2,e,I2,T,st2,f2,hr⟩:=h2;subst e;refine thn (qes (iter:=iter) (pos:=cpos) (R:=λ r s'=>r=.ok .next/\wpAny (model X.prog X.w) X.A (assign (.Name x pos') X.env (.ref s2.heap.objs.size)) (λ _ s''=>∃ m,s''.heap.Ns (s2.heap.objs.size+1) m/\∀ h',Heap.SameBut (s2.heap.objs.size+1) s''.heap h'->SP X pins D .next { s'' with heap:=h' }) X.xe s')
  S I2 f2 st2 (λ C=>Turn.walk (Y:=y7 X NY scope C s2 H2 fp pins) hc T (hg _ _ _ _ _)) (λ C=>ht _ _ _ _ _) (λ C=>he _ _ _ _ _) hr λ s4 H3 m hn I4 hf q=>⟨rfl,qbc (Q:=D.nx) (R:=SP X pins D) I2 hN hi hx (λ s H I q=>⟨_,H,I,q⟩) hn I4 hf q⟩) λ acc s3 h3=>thn h3 λ cenv s4 h4=>?_
 obtain ⟨rfl,eC,h4⟩:=h4;refine codeAny_mono h4 λ r s5 ⟨er,h5⟩=>?_
 subst er;show wpAny _ _ (assign (.Name x pos') X.env (.ref s2.heap.objs.size)) _ _ s5
 rw [eC];refine thn h5 λ _ s6 ⟨m,hn,h6⟩=>⟨m,hn,λ h' hs'=>?_⟩
 exact Xg (Xg (h6 h' hs'))
end
end L2
namespace Law
open PySem L2 Fs
def top (i:Nat):Stmt:=PySem.Challenge.pw_fillsay_k31_tasks_made.main.body.getD i (.Pass ⟨0,0,0,0⟩)
abbrev qb7:Stmt:=top 10
abbrev y8:Stmt:=top 11
abbrev qbj:Stmt:=top 12
abbrev vz:Stmt:=top 13
abbrev y9:Stmt:=top 14
abbrev vA:Stmt:=top 15
abbrev qam:Stmt:=top 16
abbrev yf:Stmt:=top 17
abbrev qac:Stmt:=top 18
abbrev zV:Stmt:=qS (top 21) 0
abbrev zW:Stmt:=qS (top 21) 1
abbrev zX:Stmt:=qS (top 21) 4
abbrev yu:Stmt:=qS (top 22) 0
abbrev yw:Stmt:=qS (top 22) 1
abbrev yx:Stmt:=qS (top 22) 4
abbrev yI:Stmt:=qS (top 23) 0
abbrev zY:Stmt:=qS (top 23) 1
abbrev zZ:Stmt:=qS (top 23) 2
abbrev ya:Stmt:=qS (top 23) 5
abbrev vB:Stmt:=qS (top 24) 0
abbrev jm:Stmt:=qS (top 24) 1
abbrev jn:Stmt:=qS (top 24) 2
abbrev jo:Stmt:=qS (top 24) 5
abbrev jG:Stmt:=qS (top 25) 0
abbrev yR:Stmt:=qS (top 25) 1
abbrev jp:Stmt:=qS (top 26) 0
abbrev jq:Stmt:=qS (top 26) 2
abbrev jX:Stmt:=qS (top 27) 0
abbrev jY:Stmt:=qS (top 27) 2
abbrev yb:Stmt:=qS (top 28) 0
abbrev yc:Stmt:=qS (top 28) 2
abbrev qet:Stmt:=top 33
abbrev yy:Stmt:=top 34
abbrev qb8:Stmt:=top 35
abbrev jH:Stmt:=top 36
abbrev qan:Stmt:=top 37
abbrev jI:Stmt:=top 38
abbrev qbk:Stmt:=top 39
abbrev jJ:Stmt:=qS (top 45) 0
abbrev yJ:Stmt:=qS (top 45) 1
abbrev jK:Stmt:=qS (top 45) 2
abbrev yK:Stmt:=qS (top 45) 3
abbrev ja:Stmt:=qS (top 45) 4
abbrev jL:Stmt:=top 46
abbrev zR:Stmt:=top 47
abbrev vC:Stmt:=top 48
abbrev jM:Stmt:=top 50
abbrev vD:Stmt:=top 51
abbrev vE:Stmt:=top 52
abbrev jr:Stmt:=top 53
abbrev yS:Stmt:=top 54
abbrev qao:Stmt:=top 55
abbrev vF:Stmt:=top 56
abbrev vG:Stmt:=top 57
abbrev yg:Stmt:=top 58
abbrev yL:Stmt:=top 59
abbrev jb:Stmt:=top 60
abbrev jN:Stmt:=top 61
abbrev jO:Stmt:=top 62
abbrev qc4:Stmt:=top 63
structure Txt (mg:Str->Option Value):Prop where
 len:mg "len"=none
 list:mg "list"=none
 sorted:mg "sorted"=none
 set:mg "set"=none
 tuple:mg "tuple"=none
 dict:mg "dict"=none
 zip:mg "zip"=none
 reversed:mg "reversed"=none
 range:mg "range"=none
 enumerate:mg "enumerate"=none
 all:mg "all"=none
 min:mg "min"=none
 max:mg "max"=none
 isinstance:mg "isinstance"=none
 tup:mg "str"=none
 bool:mg "bool"=none
theorem vH:bootBuiltins "list"=some (.type "list"):=by decide +kernel
theorem qad:bootBuiltins "tuple"=some (.type "tuple"):=by decide +kernel
theorem qeu:bootBuiltins "set"=some (.type "set"):=by decide +kernel
theorem qkE:bootBuiltins "dict"=some (.type "dict"):=by decide +kernel
theorem jZ:bootBuiltins "sorted"=some (.builtin "sorted"):=by decide +kernel
theorem qjc:bootBuiltins "all"=some (.builtin "all"):=by decide +kernel
theorem qlY:bootBuiltins "min"=some (.builtin "min"):=by decide +kernel
section
variable {P:Program} {w:World} {K:PySem.W.Frag} {mg:Str->Option Value} {base:Heap}
def qfx (K:PySem.W.Frag) (n:Nat):Sp:=λ vs H Q _=>∃ (a:Addr) (t:List Bool) (m:Nat),vs=[.ref a]/\SqL K H a (t.map V.bl)/\t.length=2 ^ m/\m < n/\m<=9 /\
 ∀ r H',qh H H'->H' r=some (.lst ((zc m t).map V.bl))->Q (.ref r) H'
theorem qap:FnScope ["truths","half","low","high"] ["truths"] (qi qac):=scF
theorem qbl {m:Nat} (h:m<=9):2 ^ m<=512:=by
 have:2 ^ m<=2 ^ 9:=Nat.pow_le_pow_right (by decide) h
 exact this
theorem qha:(["left","right"]:List Str).Nodup:=by decide +kernel
theorem qfy {n:Nat} {f:Addr} {fd:FuncData} (F:Fun K "summed" "summed" qac f fd) (T:Txt mg) (bF:qf K fd ["truths"] []) (mF:mg "summed"=some (.ref f))
  (G:FnOk P w K mg base CX0 n f fd ["truths"] (qfx K n)):FnOk P w K mg base CX0 (n+1) f fd ["truths"] (qfx K (n+1)):=by
 refine F.ok qap (λ vs H Q E h=>?_) (λ cdv A outer s H vs Q E hr h=>?_)
 ·obtain ⟨a,t,m,rfl,_⟩:=h;rfl
 obtain ⟨a,t,m,rfl,hS,ht,hm,h9,q⟩:=h;have h512:=qbl h9;refine ⟨_,qc (qW (qp zv (qz qH rfl T.len PySem.boot_len (qa (pv 0) qb)) qg (qB _)) (qd (qm (zf yt rfl T.list vH (qa (pv 0) qb)))) qy)
  (qc (qv (i:=1) qap.nd rfl (Or.inl rfl) (qo zP (qz qH rfl T.len PySem.boot_len (qa (pv 0) qb)) qg))
  (qc (qv (i:=2) qap.nd rfl (Or.inl rfl) (zj G hr rfl mF F.kp bF .nil qI (qa (qcq qd4 (pv 0) qd0 (qd1 (pv 1))) qb)))
  (qc (qv (i:=3) qap.nd rfl (Or.inl rfl) (zj G hr rfl mF F.kp bF .nil qI (qa (qcq qd4 (pv 0) (qd1 (pv 1)) qd0) qb)))
  (qd (qm (qo qf7 (pv 2) (qcF (n:=2) (qQ (NY:=["left","right"]) (o:=2) (caps:=[]) [] rfl (by decide +kernel) (by decide +kernel) (by decide +kernel) (by decide +kernel) (by simp) vP rfl) rfl
   (qgc rfl T.zip (qa (pv 2) (qa (pv 3) qb)))
   (λ C s H fp pins=>qT (qt (i:=0) qha rfl (Or.inl rfl)) (qT (qt (i:=1) qha rfl (Or.inl rfl)) yp)) (λ _=>rfl) (λ _=>rfl)
   (λ C s H fp pins=>zL) (λ C s H fp pins=>j8 qeR (pv 0) (pv 1) (qB _))))))))),?_⟩
 have hl:(t.map V.bl).length=2 ^ m:=by rw [Xa,ht]
 refine ⟨_,rfl,a,_,rfl,.inl hS,rfl,_,rfl,?_⟩;refine qaF (λ c=>?_) (λ c=>?_)
 ·have c':V.int (((t.map V.bl).length:Nat):Int)=V.int 1:=of_decide_eq_true c;rw [hl] at c';have c2:((2 ^ m:Nat):Int)=1:=by injection c'
  have hm0:m=0:=by
   cases m with
   | zero=>rfl
   | succ k=>rw [Nat.pow_succ] at c2;omega
  subst hm0;refine ⟨_,rfl,a,_,rfl,.inl hS,λ r hr'=>?_⟩;exact q r _ (qh.up hr') qe
 ·have c':¬ V.int (((t.map V.bl).length:Nat):Int)=V.int 1:=of_decide_eq_false (Bool.eq_false_iff.mpr c);rw [hl] at c';obtain ⟨k,rfl⟩:∃ k,m=k+1:=by
   cases m with
   | zero=>exact absurd rfl c'
   | succ k=>exact ⟨k,rfl⟩
  have hp2:2 ^ (k+1)=2 ^ k+2 ^ k:=by rw [Nat.pow_succ];omega
  have h1:(t.take (2 ^ k)).length=2 ^ k:=by rw [Xi];omega
  have h2:(t.drop (2 ^ k)).length=2 ^ k:=by rw [List.length_drop];omega
  have ehalf:(((t.map V.bl).length:Nat):Int) / 2=((2 ^ k:Nat):Int):=by rw [hl];omega
  refine ⟨_,rfl,a,_,rfl,.inl hS,_,_,rfl,rfl,⟨by decide,by decide⟩,?_⟩;dsimp only;rw [ehalf];refine ⟨_,rfl,_,rfl,_,rfl,a,_,rfl,hS,λ p1 hp1=>?_⟩;have e1:qbQ (t.map V.bl) none (some ((2 ^ k:Nat):Int))=(t.take (2 ^ k)).map V.bl:=by
   unfold qbQ;rw [HT.sIx_nat,hl,hp2];show ((t.map V.bl).drop 0).take (min (2 ^ k) (2 ^ k+2 ^ k) - 0)=_
   rw [List.drop_zero,Nat.sub_zero,Nat.min_eq_left (by omega),List.map_take]
  rw [e1];refine ⟨p1,t.take (2 ^ k),k,rfl,SqL.of qe,h1,by omega,by omega,λ r1 H1 g1 e1=>?_⟩;have g1':qh H H1:=(qh.up hp1).trans g1;refine ⟨_,rfl,_,rfl,_,rfl,a,_,rfl,g1'.seq hS,λ p2 hp2'=>?_⟩;have e2:qbQ (t.map V.bl) (some ((2 ^ k:Nat):Int)) none=(t.drop (2 ^ k)).map V.bl:=by
   unfold qbQ;rw [HT.sIx_nat,hl,hp2,Nat.min_eq_left (by omega)];show ((t.map V.bl).drop (2 ^ k)).take (2 ^ k+2 ^ k - 2 ^ k)=_
   rw [<- List.map_drop,Xr (by rw [Xa,h2];omega)]
  rw [e2];refine ⟨p2,t.drop (2 ^ k),k,rfl,SqL.of qe,h2,by omega,by omega,λ r2 H2 g2 e3=>?_⟩;have g2':qh H1 H2:=(qh.up hp2').trans g2;have f1:H2 r1=some (.lst ((zc k (t.take (2 ^ k))).map V.bl)):=g2' _ _ e1;have l1:=qO k _ h1;have l2:=qO k _ h2;refine ⟨_,rfl,_,rfl,_,rfl,r1,r2,rfl,⟨_,SqL.of f1⟩,⟨_,SqL.of e3⟩,?_⟩;refine qgk (SqL.of f1) (SqL.of e3) (by rw [Xa,Xa,l1,l2]) (λ i=>((List.zipWith (· != ·) (zc k (t.take (2 ^ k))) (zc k (t.drop (2 ^ k)))).take i).map V.bl) rfl (λ i hi=>?_) ?_ ?_
  ·rw [Xa,Xi];rw [Xa,l1] at hi;exact zz (by omega)
  ·intro i x y H3 D Y Z hx hy hD hH3 sm hY hZ;obtain ⟨b1,hb1,rfl⟩:=ql hx;obtain ⟨b2,hb2,rfl⟩:=ql hy;refine ⟨_,_,rfl,_,_,rfl,rfl,⟨rfl,rfl⟩,?_⟩;refine ⟨_,rfl,_,rfl,rfl,?_⟩;rw [qg3];exact hY _ _ hH3 sm (yQ (qaN hb1 hb2))
  ·intro D H3 hD sm hH3;have e4:(((List.zipWith (· != ·) (zc k (t.take (2 ^ k))) (zc k (t.drop (2 ^ k)))).take ((zc k (t.take (2 ^ k))).map V.bl).length).map V.bl)=(List.zipWith (· != ·) (zc k (t.take (2 ^ k))) (zc k (t.drop (2 ^ k)))).map V.bl:=by
    rw [Xr (by rw [List.length_zipWith,Xa];omega)]
   rw [e4] at hH3;refine ⟨r1,D,_,_,rfl,rfl,sm _ _ f1,hH3,?_,λ r3 hr3=>?_⟩
   ·rw [Xa,Xa,List.length_zipWith,l1,l2];exact qu (by omega)
   ·refine q r3 _ ((g1'.trans g2').trans (sm.to hr3)) ?_;rw [qe,<- XA];rfl
theorem qdM {f:Addr} {fd:FuncData} (F:Fun K "summed" "summed" qac f fd) (T:Txt mg) (bF:qf K fd ["truths"] []) (mF:mg "summed"=some (.ref f)):∀ n,FnOk P w K mg base CX0 n f fd ["truths"] (qfx K n)
 | 0=>⟨λ vs H Q E h=>by obtain ⟨_,_,_,_,_,_,h,_⟩:=h;exact absurd h (Nat.not_lt_zero _),λ A outer s H args us vs Q E _ _ _ _ h=>by obtain ⟨_,_,_,_,_,_,h,_⟩:=h;exact absurd h (Nat.not_lt_zero _)⟩
 | n+1=>qfy F T bF mF (qdM F T bF mF n)
def qb9:Sp:=λ vs H Q _=>∃ (ls:List Nat),vs=[vS ls]/\ls.length<=9/\∀ r H',qh H H'->H' r=some (.lst ((q0 ls).map vS))->Q (.ref r) H'
theorem qbm:FnScope ["letters","products","letter"] ["letters"] (qi yf):=scF
theorem qmO:(["product","letter"]:List Str).Nodup:=by decide +kernel
theorem qjd {k:Nat} {f:Addr} {fd:FuncData} (F:Fun K "products_over" "products_over" yf f fd) (T:Txt mg):FnOk P w K mg base CX0 (k+1) f fd ["letters"] qb9:=by
 refine F.ok qbm (λ vs H Q E h=>?_) (λ cdv A outer s H vs Q E hr h=>?_)
 ·obtain ⟨ls,rfl,_⟩:=h;rfl
 obtain ⟨ls,rfl,h9,q⟩:=h;refine ⟨_,qc (qv (i:=1) qbm.nd rfl (Or.inl rfl) (yh (qa qk qb)))
  (qc (yE PassesOwn.never rfl (qlM rfl T.reversed (qa (pv 0) qb)) (qt (i:=2) qbm.nd rfl (Or.inr rfl))
   (qd (qv (i:=1) qbm.nd rfl (Or.inl rfl) (qo qf7 (pv 1) (ye (qQ (NY:=["product","letter"]) (o:=1) (caps:=[2]) ["letter"] rfl (by decide +kernel) (by decide +kernel) (by decide +kernel) (by decide +kernel)
    (by intro x hx;rw [List.mem_singleton.mp hx];exact .inl rfl) (qcO rfl rfl rfl vP) rfl) rfl
    (yq (pv 1)) (λ C s H fp pins=>qt (i:=0) qmO rfl (Or.inl rfl)) (λ C s H fp pins=>zL) (λ C s H fp pins=>qo qcj (pv 1) (pv 0)))))))
  (qd (qm (pv 1)))),?_⟩
 have hz:(qj ls).length=ls.length:=qw ls;refine ⟨qu (by show 1<=_;decide),λ p0 hp0=>?_⟩;refine ⟨_,rfl,_,rfl,by rw [hz];exact qu (by omega),?_⟩;refine qgX (λ i σ H1=>∃ (r:Addr) (v:Option V),σ=[some (vS ls),some (.ref r),v]/\qh H H1/\H1 r=some (.lst ((q0 (ls.drop (ls.length - i))).map vS))) ?_ ?_ ?_
 ·refine ⟨p0,none,rfl,qh.up hp0,?_⟩;rw [qe,Nat.sub_zero,List.drop_length];rfl
 ·rintro i σ H1 hi ⟨r,v,rfl,g1,e1⟩;rw [hz] at hi;have hlt:ls.length - 1 - i < ls.length:=by omega
  have ev:qiS (qj ls) i=vS [ls[ls.length - 1 - i]]:=by
   unfold qiS;rw [hz];show V.str ⟨#[ls.toArray.getD (ls.length - 1 - i) 0]⟩=V.str ⟨#[ls[ls.length - 1 - i]]⟩
   rw [Array.getD_eq_getD_getElem?];simp [hlt]
  have ed:ls.drop (ls.length - (i+1))=ls[ls.length - 1 - i]::ls.drop (ls.length - i):=by
   rw [show ls.length - (i+1)=ls.length - 1 - i by omega,List.drop_eq_getElem_cons hlt,show ls.length - 1 - i+1=ls.length - i by omega]
  rw [ev];have hpl:(q0 (ls.drop (ls.length - i))).length<=512:=by
   rw [qL,List.length_drop];exact qbl (by omega)
  refine ⟨_,rfl,_,rfl,r,rfl,⟨_,SqL.of e1⟩,?_⟩;refine qbv (SqL.of e1) (λ j=>((((q0 (ls.drop (ls.length - i))).map (ls[ls.length - 1 - i]::·)).take j).map vS)) rfl (λ j hj=>?_) ?_ ?_
  ·rw [Xa,Xi,Xa];exact zz (by omega)
  ·intro j x H2 D Y Z hx hD hH2 sm hY hZ;obtain ⟨p,hp,rfl⟩:=ql hx;have hpl2:p.length<=9:=by
    have:=(zJ.mp (XD hp)).length_le
    rw [List.length_drop] at this;omega
   refine ⟨⟨rfl,rfl⟩,?_⟩;refine ⟨_,rfl,_,rfl,_,_,rfl,rfl,by rw [qw,qw];exact qu (by simp;omega),?_⟩;rw [zr];refine hY _ _ hH2 sm ?_;exact yQ (f:=vS) (by rw [Xw,hp];rfl)
  ·intro D H2 hD sm hH2;rw [Xa,Xr (by rw [Xa];exact Xe _)] at hH2;refine ⟨r,D,_,_,rfl,rfl,sm _ _ e1,hH2,?_,λ r3 hr3=>?_⟩
   ·rw [Xa,Xa,Xa];exact qu (by omega)
   ·refine ⟨r3,_,rfl,g1.trans (sm.to hr3),?_⟩;rw [qe,ed,q0,XA]
 ·rintro σ H1 ⟨r,v,rfl,g1,e1⟩;rw [hz,Nat.sub_self,List.drop_zero] at e1;exact ⟨_,rfl,q r H1 g1 e1⟩
def qby (K:PySem.W.Frag):Sp:=λ vs H Q _=>∃ (a:Addr) (F:List Pr),vs=[.ref a]/\SqT K H a (F.map vS)/\F.flatten.length<=4000/\F.length<=2000/\(qJ F).length < 64/\∀ H',qh H H'->Q (vS (qJ F)) H'
theorem qgs:FnScope ["form"] ["form"] (qi y9):=scF
theorem ym (l:List Nat):(l.map λ c=>[c]).flatten=l:=by
 induction l with
 | nil=>rfl
 | cons a l ih=>rw [List.map_cons,List.flatten_cons,ih];rfl
theorem qgt {k:Nat} {f:Addr} {fd:FuncData} (F:Fun K "letters_of" "letters_of" y9 f fd) (T:Txt mg):FnOk P w K mg base CX0 (k+1) f fd ["form"] (qby K):=by
 refine F.ok qgs (λ vs H Q E h=>?_) (λ cdv A outer s H vs Q E hr h=>?_)
 ·obtain ⟨a,F,rfl,_⟩:=h;rfl
 obtain ⟨a,F,rfl,hS,h4,h2,h64,q⟩:=h;refine ⟨_,qd (qm (y2 PySem.F.plainAttrs_str PySem.F.slot_str_join PySem.F.type_str_join qa3 qk (qa (qz (qde rfl) rfl T.sorted jZ (qa (zf (qa5 rfl) rfl T.set qeu (qa
  (y2 PySem.F.plainAttrs_str PySem.F.slot_str_join PySem.F.type_str_join qa3 qk (qa (pv 0) qb)) qb)) qb)) qb))),?_⟩
 rw [zK] at hS;have hz:("":Str).length=0:=by decide
 refine ⟨rfl,rfl,?_⟩;refine ⟨_,rfl,_,a,F.map qj,rfl,rfl,.inr hS,?_,?_⟩
 ·rw [kC,hz];show F.flatten.length+_ * 0<=_;omega
 rw [ku];refine ⟨F.flatten.map λ c=>qj [c],.inr ⟨_,rfl,rfl⟩,by rw [Xa];show _ < 4096;omega,λ l ys hl nd hm=>?_⟩;have nd2:=vZ (F.flatten.map λ c=>[c]);have hm2:∀ x,x∈ys ↔ cs x∈qaA (F.flatten.map λ c=>[c]):=λ x=>by
  rw [hm x,qaj,List.mem_map,List.mem_map];constructor
  ·rintro ⟨c,hc,rfl⟩;exact ⟨c,hc,rfl⟩
  ·rintro ⟨c,hc,e⟩;exact ⟨c,hc,qgd e⟩
 have hlen:ys.length=(qJ F).length:=by
  rw [kH nd nd2 hm2,<- (zU _).length_eq,y4,Xa]
 refine ⟨l,ys,rfl,qe,by rw [hlen];exact h64,λ l2 hl2=>?_⟩;rw [qeg nd nd2 hm2,y4,zK];refine ⟨_,l2,((qJ F).map λ c=>[c]).map qj,rfl,rfl,.inl (SqL.of qe),?_,?_⟩
 ·rw [kC,hz,ym];show _+_ * 0<=_;omega
 rw [ku,ym];exact q _ ((qh.up hl).to hl2)
def qhb (K:PySem.W.Frag):Sp:=λ vs H Q _=>∃ (a:Addr) (F:List Pr) (ls:List Nat),vs=[.ref a,vS ls]/\SqT K H a (F.map vS)/\F.length<=2000/\ls.length<=9/\∀ r H',qh H H'->H' r=some (.lst ((vi F ls).map V.bl))->Q (.ref r) H'
theorem qfz:FnScope ["form","letters","standing"] ["form","letters"] (qi vA):=scF
theorem qnI:(["product"]:List Str).Nodup:=by decide +kernel
theorem qmP:(["product","standing"]:List Str).Nodup:=by decide +kernel
theorem qje (kvs:List (Key×V)) (k k':Key) (v:V):(yW (jz kvs k v) k').isSome=((yW kvs k').isSome || decide (k=k')):=by
 rw [<- vV,<- vV];unfold jz;split
 ·rename_i h;rw [List.any_map];have e:((λ kv:Key×V=>decide (kv.1=k')) ∘ λ kv=>if kv.1=k then (kv.1,v) else kv)=λ kv=>decide (kv.1=k'):=by
   funext kv
   show decide ((if kv.1=k then (kv.1,v) else kv).1=k')=_
   split <;> rfl
  rw [e];by_cases hk:k=k'
  ·subst hk;rw [h];simp
  ·simp [hk]
 ·rw [List.any_append];simp
theorem qdN (k':Key):∀ (ls acc:List (Key×V)),(yW (q9 acc ls) k').isSome=((yW acc k').isSome || ls.any λ kv=>decide (kv.1=k'))
 | [],acc=>by simp [q9]
 | x::ls,acc=>by
  show (yW (q9 (jz acc x.1 x.2) ls) k').isSome=_
  rw [qdN k' ls,qje,List.any_cons,Bool.or_assoc]
theorem qev (F:List Pr) (p:Pr):(yW (q9 [] (kvK (F.map λ p=>(qj p,V.bl true)))) (.inr (qj p))).isSome=F.contains p:=by
 rw [qdN];show (false || _)=_
 rw [Bool.false_or];unfold kvK;rw [List.map_map,List.any_map,Bool.eq_iff_iff,List.any_eq_true,List.contains_iff_mem];constructor
 ·rintro ⟨q,hq,e⟩;have e:(Sum.inr (qj q):Key)=.inr (qj p):=of_decide_eq_true e;rw [<- qbd (Sum.inr.inj e)];exact hq
 ·intro hp;exact ⟨p,hp,Xv rfl⟩
theorem qjf {f fp fs:Addr} {fd fdp fds:FuncData} (F:Fun K "table_of" "table_of" vA f fd) (T:Txt mg)
  (Gp:FnOk P w K mg base CX0 1 fp fdp ["letters"] qb9) (bp:qf K fdp ["letters"] []) (kp:W.keepIn K (.ref fp)=true) (mp:mg "products_over"=some (.ref fp))
  (Gs:FnOk P w K mg base CX0 10 fs fds ["truths"] (qfx K 10)) (bs:qf K fds ["truths"] []) (ks:W.keepIn K (.ref fs)=true) (ms:mg "summed"=some (.ref fs)):FnOk P w K mg base CX0 11 f fd ["form","letters"] (qhb K):=by
 refine F.ok qfz (λ vs H Q E h=>?_) (λ cdv A outer s H vs Q E hr h=>?_)
 ·obtain ⟨a,F,ls,rfl,_⟩:=h;rfl
 obtain ⟨a,F,ls,rfl,hS,hF,h9,q⟩:=h;have hu:=zb hr;have hr1:Room 1 _:=hr.mono (by decide);refine ⟨_,qc (qv (i:=2) qfz.nd rfl (Or.inr rfl) (zf (qfc rfl) rfl T.dict qkE (qa (ye (qQ (NY:=["product"]) (o:=1) (caps:=[]) [] rfl (by decide +kernel) (by decide +kernel) (by decide +kernel) (by decide +kernel) (by simp) vP rfl) rfl
   (qdW (pv 0)) (λ C s H fp pins=>qt (i:=0) qnI rfl (Or.inl rfl)) (λ C s H fp pins=>zL) (λ C s H fp pins=>zl (qa (pv 0) (qa vM qb)))) qb)))
  (qd (qm (zj Gs hr rfl ms ks bs .nil qI (qa (ye (qQ (NY:=["product","standing"]) (o:=1) (caps:=[2]) ["standing"] rfl (by decide +kernel) (by decide +kernel) (by decide +kernel) (by decide +kernel)
    (by intro x hx;rw [List.mem_singleton.mp hx];exact .inl rfl) (qcO rfl rfl rfl vP) rfl) rfl
   (yq (zj Gp hr1 rfl mp kp bp .nil qI (qa (pv 1) qb))) (λ C s H fp pins=>qt (i:=0) qmP rfl (Or.inl rfl)) (λ C s H fp pins=>zL) (λ C s H fp pins=>qlr (qlz hu (pv 0) (pv 1)))) qb)))),?_⟩
 have hFl:(F.map vS).length=F.length:=Xa _;refine ⟨_,rfl,a,rfl,⟨_,hS⟩,?_⟩;refine kq (F.map vS).length (λ i ys H2=>∃ ps:List Addr,ys=ps.map V.ref/\Paired (λ a (kv:Str×V)=>H2 a=some (.tup [.str kv.1,kv.2])) ps ((F.take i).map λ p=>(qj p,V.bl true))) ?_ ?_ ?_ ?_ ?_
 ·intro D hD;exact ⟨[],rfl,.nil⟩
 ·rintro i ys H2 hi ⟨ps,rfl,hp⟩
  have:=hp.length
  rw [Xa,Xi] at this;rw [Xa];rw [hFl] at hi;exact zz (by omega)
 ·rintro i ys H2 D Y Z hi hD hH2 sm ⟨ps,rfl,hp⟩ hY hZ;rw [hFl] at hi;refine ⟨⟨_,_,sm.seqT hS,Xb (by rw [hFl];exact hi)⟩,?_⟩;rintro x H' ⟨rfl,hx'⟩;have ex:=hx' _ (sm.seqT hS);obtain ⟨p,hp',rfl⟩:=ql ex;refine ⟨⟨rfl,rfl⟩,?_⟩;refine ⟨_,rfl,qu (by show 2<=_;decide),λ t ht=>?_⟩;have hDt:D≠t:=zw hH2 ht;refine hY _ _ (by rw [qx hDt];exact hH2) (sm.to ht) ⟨ps++[t],by rw [XA];rfl,?_⟩;rw [zg hp',XA];refine q8 (L2.Paired.mapP hp λ b kv e=>?_) (.cons ?_ .nil)
  ·have hbD:b≠D:=qk3 e hH2 (by intro z;cases z);rw [qx hbD,qx (zw e ht)];exact e
  ·rw [qx (Ne.symm hDt),qe]
 ·intro H2 sm;exact ⟨_,sm.seqT hS,Xe _⟩
 rintro D H2 ys hD sm hH2 ⟨ps,rfl,hp⟩;rw [hFl,List.take_length] at hp;refine ⟨D,ps,_,rfl,SqL.of hH2,L2.Paired.mapP hp λ b kv e=>SqT.of e,λ d hd=>?_⟩;have g3:qh H (upd H2 d (.dK (q9 [] (kvK (F.map λ p=>(qj p,V.bl true)))))):=sm.to hd;refine ⟨_,rfl,ls,rfl,h9,λ r1 H3 g4 e3=>?_⟩;have hd3:H3 d=some (.dK (q9 [] (kvK (F.map λ p=>(qj p,V.bl true))))):=g4 _ _ qe;have hpl:(q0 ls).length<=512:=by rw [qL];exact qbl h9
 refine ⟨r1,rfl,⟨_,SqL.of e3⟩,?_⟩;refine qbv (SqL.of e3) (λ j=>(((q0 ls).map λ p=>F.contains p).take j).map V.bl) rfl (λ j hj=>?_) ?_ ?_
 ·rw [Xa,Xi,Xa];exact zz (by omega)
 ·intro j x H4 D2 Y Z hx hD2 hH4 sm4 hY hZ;obtain ⟨p,hp',rfl⟩:=ql hx;refine ⟨⟨rfl,rfl⟩,?_⟩;refine ⟨_,rfl,_,rfl,d,_,rfl,qcn.k (k:=Sum.inr (qj p)) (sm4 _ _ hd3),?_⟩;rw [qev];exact hY _ _ hH4 sm4 (yQ (f:=V.bl) (by rw [Xw,hp'];rfl))
 ·intro D2 H4 hD2 sm4 hH4;rw [Xa,Xr (by rw [Xa];exact Xe _)] at hH4;refine ⟨D2,(q0 ls).map λ p=>F.contains p,ls.length,rfl,SqL.of hH4,by rw [Xa,qL],by omega,h9,λ r H5 g5 e5=>?_⟩;exact q r H5 (((g3.trans g4).trans sm4).trans g5) e5
def qjg (K:PySem.W.Frag):Sp:=λ vs H Q _=>∃ (a:Addr) (t:List Bool) (ls:List Nat),vs=[vS ls,.ref a]/\SqL K H a (t.map V.bl)/\t.length=2 ^ ls.length/\ls.length<=9/\ls.Nodup /\
 ∀ r H',qh H H'->H' r=some (.tup ((vj ls t).map vS))->Q (.ref r) H'
theorem qhc:FnScope ["letters","table","products"] ["letters","table"] (qi qam):=scF
theorem qjh:(["product","stands"]:List Str).Nodup:=by decide +kernel
theorem qlZ {α β:Type} {as:List α} {bs:List β} {i:Nat} {a:α} {b:β} (h1:as[i]?=some a) (h2:bs[i]?=some b):(as.zip bs)[i]?=some (a,b):=qaN h1 h2
theorem qbO {ss:List Str} {F:List Pr} (h:ss.map V.str=F.map vS):(qa4 ss).map V.str=(srt F).map vS:=by
 have e:ss=F.map qj:=by
  rw [zK] at h;exact List.map_inj_right (λ a b e=>by injection e) |>.mp h
 subst e;unfold qa4;rw [qcP,zK]
theorem qkF {f fp fs:Addr} {fd fdp fds:FuncData} (F:Fun K "form_of" "form_of" qam f fd) (T:Txt mg)
  (Gp:FnOk P w K mg base CX0 1 fp fdp ["letters"] qb9) (bp:qf K fdp ["letters"] []) (kp:W.keepIn K (.ref fp)=true) (mp:mg "products_over"=some (.ref fp))
  (Gs:FnOk P w K mg base CX0 10 fs fds ["truths"] (qfx K 10)) (bs:qf K fds ["truths"] []) (ks:W.keepIn K (.ref fs)=true) (ms:mg "summed"=some (.ref fs)):FnOk P w K mg base CX0 11 f fd ["letters","table"] (qjg K):=by
 refine F.ok qhc (λ vs H Q E h=>?_) (λ cdv A outer s H vs Q E hr h=>?_)
 ·obtain ⟨a,t,ls,rfl,_⟩:=h;rfl
 obtain ⟨a,t,ls,rfl,hS,ht,h9,nd,q⟩:=h;have hr1:Room 1 _:=hr.mono (by decide);refine ⟨_,qc (qv (i:=2) qhc.nd rfl (Or.inl rfl) (zj Gp hr1 rfl mp kp bp .nil qI (qa (pv 0) qb)))
  (qd (qm (zf jR rfl T.tuple qad (qa (qz kS rfl T.sorted jZ (qa (qcF (n:=2) (qQ (NY:=["product","stands"]) (o:=2) (caps:=[]) [] rfl (by decide +kernel) (by decide +kernel) (by decide +kernel) (by decide +kernel) (by simp) vP rfl) rfl
   (qgc rfl T.zip (qa (pv 2) (qa (zj Gs hr rfl ms ks bs .nil qI (qa (pv 1) qb)) qb)))
   (λ C s H fp pins=>qT (qt (i:=0) qjh rfl (Or.inl rfl)) (qT (qt (i:=1) qjh rfl (Or.inl rfl)) yp)) (λ _=>rfl) (λ _=>rfl)
   (λ C s H fp pins=>qbZ (yn (pv 1))) (λ C s H fp pins=>pv 0)) qb)) qb)))),?_⟩
 have hpl:(q0 ls).length<=512:=by rw [qL];exact qbl h9
 refine ⟨_,rfl,ls,rfl,h9,λ r1 H1 g1 e1=>?_⟩;refine ⟨_,rfl,_,rfl,a,t,ls.length,rfl,g1.seq hS,ht,by omega,h9,λ r2 H2 g2 e2=>?_⟩;have f1:=g2 _ _ e1;have sl:=qO _ _ ht;refine ⟨r1,r2,rfl,⟨_,SqL.of f1⟩,⟨_,SqL.of e2⟩,?_⟩;have pk:∀ i,((((q0 ls).zip (zc ls.length t)).take i).filterMap λ x=>if x.2=true then some x.1 else none).length<=512:=λ i=>by
  refine Nat.le_trans (List.length_filterMap_le _ _) ?_;rw [Xi,List.length_zip];omega
 refine qgk (SqL.of f1) (SqL.of e2) (by rw [Xa,Xa,sl,qL]) (λ i=>((((q0 ls).zip (zc ls.length t)).take i).filterMap λ x=>if x.2=true then some x.1 else none).map vS) rfl (λ i hi=>?_) ?_ ?_
 ·rw [Xa];exact zz (Nat.le_trans (pk i) (by decide))
 ·intro i x y H3 D Y Z hx hy hD hH3 sm hY hZ;obtain ⟨p,hp,rfl⟩:=ql hx;obtain ⟨b,hb,rfl⟩:=ql hy;refine ⟨_,_,rfl,_,_,rfl,rfl,⟨rfl,rfl⟩,?_⟩;refine ⟨_,rfl,b,rfl,?_⟩;have ez:(((q0 ls).zip (zc ls.length t)).take (i+1))=((q0 ls).zip (zc ls.length t)).take i++[(p,b)]:=zg (qlZ hp hb);cases b with
  | true =>
   refine qaw ?_;refine ⟨_,rfl,hY _ _ hH3 sm ?_⟩;rw [ez,List.filterMap_append,XA];rfl
  | false =>
   refine zB ?_;refine hZ _ hH3 sm ?_;rw [ez,List.filterMap_append,XA];exact List.append_nil _
 ·intro D H3 hD sm hH3;rw [Xr (by rw [List.length_zip,Xa];omega)] at hH3;have hps:(zT ls (zc ls.length t)).length<=512:=Nat.le_trans (vg _ _).length_le hpl;have hnd:((zT ls (zc ls.length t)).map qj).Nodup:=List.pairwise_map.mpr ((vh _ nd).imp λ {a b} hab e=>hab (qbd e));refine ⟨D,(zT ls (zc ls.length t)).map qj,rfl,SqL.of (by rw [<- zK];exact hH3),by rw [Xa];show _ < 4096;omega,hnd,λ l hl=>?_⟩;rw [qbO (zK _).symm];refine ⟨l,_,rfl,.inl ⟨SqL.of qe,λ r hr'=>?_⟩⟩;exact q r _ (((g1.trans g2).trans (sm.to hl)).to hr') qe
def qgu (K:PySem.W.Frag) (g:List Pr->List Pr->List Pr):Sp:=λ vs H Q _=>∃ (a b:Addr) (F G:List Pr) (ls:List Nat),vs=[.ref a,.ref b]/\SqT K H a (F.map vS)/\SqT K H b (G.map vS)/\Ok9 ls/\On ls F/\On ls G /\
 ∀ r H',qh H H'->H' r=some (.tup ((g F G).map vS))->Q (.ref r) H'
def sp2 (K:PySem.W.Frag) (g:List Pr->List Pr->List Pr):Sp:=λ vs H Q _=>∃ (a b:Addr) (F G:List Pr) (ls:List Nat),vs=[.ref a,.ref b]/\SqT K H a (F.map vS)/\SqT K H b (G.map vS)/\Ok9 ls/\On ls F/\On ls G/\F.flatten.length+G.flatten.length<=4000 /\
 ∀ r H',qh H H'->H' r=some (.tup ((g F G).map vS))->Q (.ref r) H'
theorem qji:FnScope ["one","other"] ["one","other"] (qi qb7):=scF
theorem qjj {k:Nat} {f:Addr} {fd:FuncData} (F:Fun K "added" "added" qb7 f fd) (T:Txt mg):FnOk P w K mg base CX0 (k+1) f fd ["one","other"] (qgu K added):=by
 refine F.ok qji (λ vs H Q E h=>?_) (λ cdv A outer s H vs Q E hr h=>?_)
 ·obtain ⟨a,b,F,G,ls,rfl,_⟩:=h;rfl
 obtain ⟨a,b,F,G,ls,rfl,hF,hG,o5,oF,oG,q⟩:=h;have lF:=o5.le oF;have lG:=o5.le oG;refine ⟨_,qd (qm (zf jR rfl T.tuple qad (qa (qz (kQ rfl) rfl T.sorted jZ (qa (qo qiP (zf (qa5 rfl) rfl T.set qeu (qa (pv 0) qb)) (zf (qa5 rfl) rfl T.set qeu (qa (pv 1) qb))) qb)) qb))),?_⟩;rw [zK] at hF hG;refine ⟨_,rfl,F.map qj,.inl ⟨a,rfl,.inr hF⟩,by rw [Xa];show _ < 4096;omega,λ l1 ys h1 nd1 m1=>?_⟩;refine ⟨_,rfl,G.map qj,.inl ⟨b,rfl,.inr ((qh.up h1).seqT hG)⟩,by rw [Xa];show _ < 4096;omega,λ l2 zs h2 nd2 m2=>?_⟩;have n12:l1≠l2:=zw qe h2;have y1:ys.length=F.length:=kH nd1 oF.vf.nodup λ x=>(m1 x).trans kz
 have z1:zs.length=G.length:=kH nd2 oG.vf.nodup λ x=>(m2 x).trans kz
 refine ⟨l1,l2,ys,zs,rfl,rfl,by rw [qx n12,qe],qe,by omega,by omega,λ l3 us h3 nd3 m3=>?_⟩;have ndd:=qaG oF.vf.nodup oG.vf.nodup;have md:∀ x,x∈us ↔ cs x∈qct F G:=λ x=>by rw [m3 x,m1 x,m2 x,kz,kz,vY]
 have ld:us.length=(added F G).length:=by rw [kH nd3 ndd md];exact ((zU _).length_eq).symm
 have l32:=qhT F G;refine ⟨l3,us,rfl,qe,by show _ < 4096;omega,nd3,λ l4 h4=>?_⟩;rw [qeg nd3 ndd md];refine ⟨l4,_,rfl,.inl ⟨SqL.of qe,λ r hr'=>?_⟩⟩;exact q r _ (((((qh.up h1).to h2).to h3).to h4).to hr') qe
theorem qca:FnScope ["one","other","letters","lefts","rights"] ["one","other"] (qi y8):=scF
theorem qkG {f fl ft ff:Addr} {fd fdl fdt fdf:FuncData} (F:Fun K "multiplied" "multiplied" y8 f fd) (T:Txt mg)
  (Gl:FnOk P w K mg base CX0 1 fl fdl ["form"] (qby K)) (bl:qf K fdl ["form"] []) (kl:W.keepIn K (.ref fl)=true) (ml:mg "letters_of"=some (.ref fl))
  (Gt:FnOk P w K mg base CX0 11 ft fdt ["form","letters"] (qhb K)) (bt:qf K fdt ["form","letters"] []) (kt:W.keepIn K (.ref ft)=true) (mt:mg "table_of"=some (.ref ft))
  (Gf:FnOk P w K mg base CX0 11 ff fdf ["letters","table"] (qjg K)) (bf:qf K fdf ["letters","table"] []) (kf:W.keepIn K (.ref ff)=true) (mf:mg "form_of"=some (.ref ff)):FnOk P w K mg base CX0 12 f fd ["one","other"] (sp2 K mult):=by
 refine F.ok qca (λ vs H Q E h=>?_) (λ cdv A outer s H vs Q E hr h=>?_)
 ·obtain ⟨a,b,F,G,ls,rfl,_⟩:=h;rfl
 obtain ⟨a,b,F,G,ls,rfl,hF,hG,o5,oF,oG,hfg,q⟩:=h;have hr1:Room 1 _:=hr.mono (by decide);have lF:=o5.le oF;have lG:=o5.le oG;refine ⟨_,qc (qv (i:=2) qca.nd rfl (Or.inl rfl) (zj Gl hr1 rfl ml kl bl .nil qI (qa (qo qiD (pv 0) (pv 1)) qb)))
  (qc (qv (i:=3) qca.nd rfl (Or.inl rfl) (zj Gt hr rfl mt kt bt .nil qI (qa (pv 0) (qa (pv 2) qb))))
  (qc (qv (i:=4) qca.nd rfl (Or.inl rfl) (zj Gt hr rfl mt kt bt .nil qI (qa (pv 1) (qa (pv 2) qb))))
  (qd (qm (zj Gf hr rfl mf kf bf .nil qI (qa (pv 2) (qa (qcF (n:=2) (qQ (NY:=["left","right"]) (o:=2) (caps:=[]) [] rfl (by decide +kernel) (by decide +kernel) (by decide +kernel) (by decide +kernel) (by simp) vP rfl) rfl
   (qgc rfl T.zip (qa (pv 3) (qa (pv 4) qb)))
   (λ C s H fp pins=>qT (qt (i:=0) qha rfl (Or.inl rfl)) (qT (qt (i:=1) qha rfl (Or.inl rfl)) yp)) (λ _=>rfl) (λ _=>rfl)
   (λ C s H fp pins=>zL) (λ C s H fp pins=>qie (pv 0) (qfU (pv 1)))) qb))))))),?_⟩
 have inls:∀ p∈F++G,∀ c∈p,c∈ls:=λ p hp=>by
  rcases List.mem_append.mp hp with h | h
  ·exact oF.mem p h
  ·exact oG.mem p h
 have lle:=qfe o5.rise inls;have l5:=o5.len;have lr:=zG (F++G);have hfl:(F++G).flatten.length<=4000:=by
  rw [List.flatten_append,Xd];omega
 refine ⟨_,rfl,_,rfl,a,b,_,_,rfl,rfl,hF,hG,by rw [Xa,Xa];exact qu (by omega),λ p H1 g1 hp=>?_⟩;rw [<- XA] at hp;refine ⟨p,F++G,rfl,hp,hfl,by rw [Xd];omega,by omega,λ H2 g2=>?_⟩;have g12:=g1.trans g2;refine ⟨_,rfl,_,rfl,a,F,qJ (F++G),rfl,g12.seqT hF,by omega,by omega,λ r1 H3 g3 e3=>?_⟩;have g13:=g12.trans g3;refine ⟨_,rfl,_,rfl,b,G,qJ (F++G),rfl,g13.seqT hG,by omega,by omega,λ r2 H4 g4 e4=>?_⟩;have f3:=g4 _ _ e3;have t1:=zC F (qJ (F++G));have t2:=zC G (qJ (F++G));have h512:2 ^ (qJ (F++G)).length<=512:=qbl (by omega);refine ⟨_,rfl,_,rfl,_,rfl,r1,r2,rfl,⟨_,SqL.of f3⟩,⟨_,SqL.of e4⟩,?_⟩;refine qgk (SqL.of f3) (SqL.of e4) (by rw [Xa,Xa,t1,t2]) (λ i=>((List.zipWith (· && ·) (vi F (qJ (F++G))) (vi G (qJ (F++G)))).take i).map V.bl) rfl (λ i hi=>?_) ?_ ?_
 ·rw [Xa,Xi];rw [Xa,t1] at hi;exact zz (by omega)
 ·intro i x y H5 D Y Z hx hy hD hH5 sm hY hZ;obtain ⟨b1,hb1,rfl⟩:=ql hx;obtain ⟨b2,hb2,rfl⟩:=ql hy;refine ⟨_,_,rfl,_,_,rfl,rfl,⟨rfl,rfl⟩,?_⟩;refine ⟨_,rfl,b1,rfl,?_⟩;have st:=yQ (f:=V.bl) (qaN (f:=(· && ·)) hb1 hb2);cases b1 with
  | true =>
   refine qaw ?_;exact ⟨_,rfl,hY _ _ hH5 sm st⟩
  | false =>
   refine zB ?_;exact hY _ _ hH5 sm st
 ·intro D H5 hD sm hH5;rw [Xr (by rw [List.length_zipWith,Xa];omega)] at hH5;refine ⟨D,_,qJ (F++G),rfl,SqL.of hH5,by rw [List.length_zipWith,t1,t2];exact Nat.min_self _,by omega,zn XC lr,λ r H6 g6 e6=>?_⟩;exact q r H6 (((g13.trans g4).trans sm).trans g6) e6
theorem qhZ:FnScope ["one","other"] ["one","other"] (qi qbj):=scF
theorem qh0 {f fa fm:Addr} {fd fda fdm:FuncData} (F:Fun K "joined" "joined" qbj f fd)
  (Ga:FnOk P w K mg base CX0 1 fa fda ["one","other"] (qgu K added)) (ba:qf K fda ["one","other"] []) (ka:W.keepIn K (.ref fa)=true) (ma:mg "added"=some (.ref fa))
  (Gm:FnOk P w K mg base CX0 12 fm fdm ["one","other"] (sp2 K mult)) (bm:qf K fdm ["one","other"] []) (km:W.keepIn K (.ref fm)=true) (mm:mg "multiplied"=some (.ref fm)):FnOk P w K mg base CX0 13 f fd ["one","other"] (sp2 K join):=by
 refine F.ok qhZ (λ vs H Q E h=>?_) (λ cdv A outer s H vs Q E hr h=>?_)
 ·obtain ⟨a,b,F,G,ls,rfl,_⟩:=h;rfl
 obtain ⟨a,b,F,G,ls,rfl,hF,hG,o5,oF,oG,hfg,q⟩:=h;have hr1:Room 1 _:=hr.mono (by decide);refine ⟨_,qd (qm (zj Ga hr1 rfl ma ka ba .nil qI (qa (zj Ga hr1 rfl ma ka ba .nil qI (qa (pv 0) (qa (pv 1) qb))) (qa (zj Gm hr rfl mm km bm .nil qI (qa (pv 0) (qa (pv 1) qb))) qb)))),?_⟩;refine ⟨_,rfl,_,rfl,a,b,F,G,ls,rfl,hF,hG,o5,oF,oG,λ r1 H1 g1 e1=>?_⟩;refine ⟨_,rfl,_,rfl,a,b,F,G,ls,rfl,g1.seqT hF,g1.seqT hG,o5,oF,oG,hfg,λ r2 H2 g2 e2=>?_⟩;refine ⟨r1,r2,_,_,ls,rfl,SqT.of (g2 _ _ e1),SqT.of e2,o5,oF.added oG,oF.mult oG,λ r H3 g3 e3=>?_⟩;exact q r H3 ((g1.trans g2).trans g3) e3
def sp1 (K:PySem.W.Frag) (g:List Pr->List Pr):Sp:=λ vs H Q _=>∃ (a:Addr) (F:List Pr) (ls:List Nat),vs=[.ref a]/\SqT K H a (F.map vS)/\Ok9 ls/\On ls F/\∀ r H',qh H H'->H' r=some (.tup ((g F).map vS))->Q (.ref r) H'
theorem ql0:FnScope ["form"] ["form"] (qi vz):=scF
theorem ql1 {f fa al:Addr} {fd fda:FuncData} (F:Fun K "opposite" "opposite" vz f fd) (mal:mg "ALWAYS"=some (.ref al)) (hal:∀ H,SqT K H al (([[]]:List Pr).map vS))
  (Ga:FnOk P w K mg base CX0 1 fa fda ["one","other"] (qgu K added)) (ba:qf K fda ["one","other"] []) (ka:W.keepIn K (.ref fa)=true) (ma:mg "added"=some (.ref fa)):FnOk P w K mg base CX0 2 f fd ["form"] (sp1 K opp):=by
 refine F.ok ql0 (λ vs H Q E h=>?_) (λ cdv A outer s H vs Q E hr h=>?_)
 ·obtain ⟨a,F,ls,rfl,_⟩:=h;rfl
 obtain ⟨a,F,ls,rfl,hF,o5,oF,q⟩:=h;refine ⟨_,qd (qm (zj Ga hr rfl ma ka ba .nil qI (qa (pv 0) (qa (yd (v:=.ref al) rfl mal rfl) qb)))),?_⟩;refine ⟨_,rfl,a,al,F,[[]],ls,rfl,hF,hal _,o5,oF,On.one ls,λ r H1 g1 e1=>?_⟩;exact q r H1 g1 e1
def zD:List Nat:=[97,98,99,112,113,114,120,121,122]
theorem qh1:zD.Pairwise (· < ·):=by decide
theorem qfA:("abcpqrxyz":Str)=qj zD:=by decide +kernel
theorem qbz {ls:List Nat} {i:Nat} (h:i < ls.length):sgn (qj ls) i=vS [ls[i]]:=by
 unfold sgn;show V.str ⟨#[ls.toArray.getD i 0]⟩=V.str ⟨#[ls[i]]⟩
 rw [Array.getD_eq_getD_getElem?];simp [h]
end
section
variable {P:Program} {w:World} {K:PySem.W.Frag} {mg:Str->Option Value} {base:Heap}
def Dv (Γ:St->Hp->Prop) (te:TE) (v:V):Prop:=∀ σ H Q,Γ σ H->(∀ H',qh H H'->Q v H')->te σ H Q
def Dt (Γ:St->Hp->Prop) (tt:TT) (b:Bool):Prop:=∀ σ H Q,Γ σ H->(∀ H',qh H H'->Q b H')->tt σ H Q
def Stb (Γ:St->Hp->Prop):Prop:=∀ σ H H',Γ σ H->qh H H'->Γ σ H'
section
variable {Γ:St->Hp->Prop} {t1 t2 t3:TE} {F G:List Pr} {ls:List Nat} {g:List Pr->List Pr->List Pr} {g1:List Pr->List Pr}
theorem qkH:([V.str ""]:List V)=([[]]:List Pr).map vS:=by
 have hz:("":Str)=qj []:=by decide +kernel
 rw [hz];rfl
theorem qnJ (st:Stb Γ) {a b:Bool} (h1:Dv Γ t1 (.bl a)) (h2:Dv Γ t2 (.bl b)):Dv Γ (tOp rNe t1 t2) (.bl (a != b)):=λ σ H Q hΓ q =>
 h1 σ H _ hΓ λ H1 g1=>h2 σ H1 _ (st _ _ _ hΓ g1) λ H2 g2=>⟨rfl,by rw [qg3];exact q H2 (g1.trans g2)⟩
theorem zq {b:Bool} (h:Dv Γ t1 (.bl b)):Dt Γ (qil t1) b:=λ σ H Q hΓ q=>h σ H _ hΓ λ H1 g1=>⟨b,rfl,q H1 g1⟩
end
def At (σ0:St) (H0:Hp):St->Hp->Prop:=λ σ H=>σ=σ0/\qh H0 H
theorem qA {σ0:St} {H0:Hp}:Stb (At σ0 H0):=λ _ _ _ h g=>⟨h.1,h.2.trans g⟩
theorem at0 {σ0:St} {H0:Hp}:At σ0 H0 σ0 H0:=⟨rfl,qh.refl _⟩
section
variable {Γ:St->Hp->Prop} {t1 t2 t3:TE}
theorem qnK (st:Stb Γ) {a b:Bool} (h1:Dv Γ t1 (.bl a)) (h2:Dv Γ t2 (.bl b)):Dv Γ (qmk t1 t2) (.bl (a || b)):=λ σ H Q hΓ q=>h1 σ H _ hΓ λ H1 g1=>⟨a,rfl,by
 cases a with
 | true=>exact qaw (q H1 g1)
 | false=>exact zB (h2 σ H1 _ (st _ _ _ hΓ g1) λ H2 g2=>q H2 (g1.trans g2))⟩
theorem qmQ (st:Stb Γ) {a b:Bool} (h1:Dv Γ t1 (.bl a)) (h2:Dv Γ t2 (.bl b)):Dv Γ (qk4 t1 t2) (.bl (a && b)):=λ σ H Q hΓ q=>h1 σ H _ hΓ λ H1 g1=>⟨a,rfl,by
 cases a with
 | true=>exact qaw (h2 σ H1 _ (st _ _ _ hΓ g1) λ H2 g2=>q H2 (g1.trans g2))
 | false=>exact zB (q H1 g1)⟩
theorem qmR {a:Bool} (h1:Dv Γ t1 (.bl a)):Dv Γ (qk5 t1) (.bl (!a)):=λ σ H Q hΓ q=>h1 σ H _ hΓ λ H1 g1=>⟨a,rfl,q H1 g1⟩
theorem js {K:PySem.W.Frag} {σ0:St} {H0:Hp} {i:Nat} {p:Addr} {xs:List V} {n:Int} {v:V} (e:σ0[i]?=some (some (.ref p))) (h:SqT K H0 p xs) (ha:atI xs n=some v):Dv (At σ0 H0) (tOp (qmG K) (qdT i) (tC (.int n))) v:=λ σ H Q g q =>
 ⟨_,by rw [g.1];exact e,p,xs,n,v,rfl,rfl,g.2.seqT h,ha,q H (qh.refl H)⟩
end
inductive Tr where
 | letter (c:Nat)
 | one
 | zero
 | neg (t:Tr)
 | bin (op:Nat) (t u:Tr)
def qew:List Nat:=[108,101,116,116,101,114]
theorem qaS:("letter":Str)=qj qew:=by decide +kernel
def zF (H H':Hp):Prop:=∀ b xs,H b=some (.tup xs)->H' b=some (.tup xs)
theorem qZ {H H':Hp} (g:qh H H'):zF H H':=λ _ _ e=>g _ _ e
theorem zF.updL {H:Hp} {l:Addr} {xs:List V} {o:HO} (h:H l=some (.lst xs)):zF H (upd H l o):=λ b ys e=>by
 have:b≠l:=λ q=>by rw [q,h] at e;cases e
 rw [qx this];exact e
theorem zF.trans {H H1 H2:Hp} (a:zF H H1) (b:zF H1 H2):zF H H2:=λ c xs e=>b _ _ (a _ _ e)
def Tr.ht:Tr->Nat
 | .neg t=>t.ht+1
 | .bin _ t u=>max t.ht u.ht+1
 | _=>1
def Tr.Of (ls:List Nat):Tr->Prop
 | .letter c=>c∈ls
 | .neg t=>t.Of ls
 | .bin op t u=>(op=38∨op=124∨op=43)/\t.Of ls/\u.Of ls
 | _=>True
section
variable {Γ:St->Hp->Prop} {t1 t2:TE} {u1 u2:TT}
theorem qnL (st:Stb Γ) {a b:Bool} (h1:Dt Γ u1 a) (h2:Dt Γ u2 b):Dt Γ (tOr u1 u2) (a || b):=λ σ H Q hΓ q=>h1 σ H _ hΓ λ H1 g1=>by
 cases a with
 | true=>exact qaw (q H1 g1)
 | false=>exact zB (h2 σ H1 _ (st _ _ _ hΓ g1) λ H2 g2=>q H2 (g1.trans g2))
theorem dI0 (st:Stb Γ) {g:Int->Int->V} {i j:Int} (h1:Dv Γ t1 (.int i)) (h2:Dv Γ t2 (.int j)):Dv Γ (tOp (rI0 g) t1 t2) (g i j):=λ σ H Q hΓ q =>
 h1 σ H _ hΓ λ H1 g1=>h2 σ H1 _ (st _ _ _ hΓ g1) λ H2 g2=>⟨i,j,rfl,rfl,q H2 (g1.trans g2)⟩
theorem dIE (st:Stb Γ) {i j:Int} (h1:Dv Γ t1 (.int i)) (h2:Dv Γ t2 (.int j)):Dv Γ (tOp rEq t1 t2) (.bl (decide (i=j))):=λ σ H Q hΓ q =>
 h1 σ H _ hΓ λ H1 g1=>h2 σ H1 _ (st _ _ _ hΓ g1) λ H2 g2=>⟨rfl,by rw [show decide (V.int i=V.int j)=decide (i=j) by simp];exact q H2 (g1.trans g2)⟩
theorem qle (st:Stb Γ) {i j:Int} (h1:Dv Γ t1 (.int i)) (hj:0 < j):Dv Γ (tOp (rI (λ _ j=>0 < j) λ i j=>.int (i % j)) t1 (tC (.int j))) (.int (i % j)):=λ σ H Q hΓ q =>
 h1 σ H _ hΓ λ H1 g1=>⟨i,j,rfl,rfl,hj,q H1 g1⟩
theorem qnM (st:Stb Γ) {i j:Int} (h1:Dv Γ t1 (.int i)) (h2:Dv Γ t2 (.int j)):Dt Γ (qil (tOp (rI0 λ i j=>.bl (decide (i < j))) t1 t2)) (decide (i < j)):=zq (dI0 st h1 h2)
theorem dC {v:V}:Dv Γ (tC v) v:=λ σ H Q hΓ q=>q H (qh.refl H)
theorem dvA {σ0:St} {H0:Hp} {i:Nat} {v:V} (e:σ0[i]?=some (some v)):Dv (At σ0 H0) (qdT i) v:=λ σ H Q g q=>⟨v,by rw [g.1];exact e,q H (qh.refl H)⟩
theorem qnN {σ0:St} {H0:Hp} {i:Nat} {p:Addr} {xs:List V} (e:σ0[i]?=some (some (.ref p))) (h:SqL K H0 p xs):Dv (At σ0 H0) (tCB (λ xs H Q=>∃ p ys,xs=[.ref p]/\(SqL K H p ys∨SqT K H p ys)/\Q (.int ys.length) H) (vO (qdT i) yM)) (.int xs.length):=λ σ H Q g q =>
 ⟨.ref p,by rw [g.1];exact e,p,xs,rfl,.inl (g.2.seq h),q H (qh.refl H)⟩
theorem yA {tc:TT} {A B:TS} {D:Ends} {σ:St} {H:Hp} {b:Bool} (h:Dt Γ tc b) (hΓ:Γ σ H) (kA:b=true->∀ H',qh H H'->A D σ H') (kB:b=false->∀ H',qh H H'->B D σ H'):qmo tc A B D σ H:=h σ H _ hΓ λ H' g=>by
 cases b with
 | true=>exact qaw (kA rfl H' g)
 | false=>exact zB (kB rfl H' g)
end
def Tr.wt:Tr->Nat
 | .neg t=>t.wt+1
 | .bin _ t u=>t.wt+u.wt
 | _=>1
theorem Tr.wt_pos:∀ t:Tr,1<=t.wt
 | .letter _=>Xe _
 | .one=>Xe _
 | .zero=>Xe _
 | .neg t=>by show 1<=t.wt+1;omega
 | .bin _ t u=>by have:=Tr.wt_pos t;show 1<=t.wt+u.wt;omega
theorem Tr.ht_wt:∀ t:Tr,t.ht<=t.wt
 | .letter _=>Xe _
 | .one=>Xe _
 | .zero=>Xe _
 | .neg t=>Nat.succ_le_succ (Tr.ht_wt t)
 | .bin _ t u=>by
  have a:=Tr.ht_wt t;have b:=Tr.ht_wt u;have c:=Tr.wt_pos t;have d:=Tr.wt_pos u;show max t.ht u.ht+1<=t.wt+u.wt
  omega
theorem Tr.ht1 (t:Tr):1<=t.ht:=by cases t <;> simp [Tr.ht]
theorem qaq {α:Type} (l:List α) (x:α):(l++[x])[(l++[x]).length - 1]?=some x:=by simp
theorem qmS:("&|+":Str)=qj [38,124,43]:=by decide +kernel
theorem ql2:("~":Str)=qj [126]:=by decide +kernel
theorem qmT {l:List Nat} {i:Int} (h0:0<=i) (h:i < (l.length:Int)):∃ c∈l,atI l i=some c:=by
 have hk:i.toNat < l.length:=by omega
 have:=va (xs:=l) (j:=i.toNat) (Xb hk)
 rw [show ((i.toNat:Nat):Int)=i by omega] at this;exact ⟨_,List.getElem_mem hk,this⟩
def Tr.Has (c:Nat):Tr->Prop
 | .letter l=>c=l
 | .neg t=>t.Has c
 | .bin _ t u=>t.Has c∨u.Has c
 | _=>False
theorem Tr.Of.has {ls:List Nat} {c:Nat}:∀ {t:Tr},t.Of ls->t.Has c->c∈ls
 | .letter l,h,e=>by rw [show c=l from e];exact h
 | .neg t,h,e=>Tr.Of.has (t:=t) h e
 | .bin _ t u,h,e=>e.elim (Tr.Of.has (t:=t) h.2.1) (Tr.Of.has (t:=u) h.2.2)
 | .one,_,e=>e.elim
 | .zero,_,e=>e.elim
theorem qjk:("1":Str)=qj [49]:=by decide +kernel
theorem qgv:("0":Str)=qj [48]:=by decide +kernel
theorem qjl:("&":Str)=qj [38]:=by decide +kernel
theorem qjm:("|":Str)=qj [124]:=by decide +kernel
section
variable {Γ:St->Hp->Prop} {t1 t2:TE}
theorem jS (st:Stb Γ) {p q:List Nat} (h1:Dv Γ t1 (vS p)) (h2:Dv Γ t2 (vS q)):Dv Γ (tOp rEq t1 t2) (.bl (decide (p=q))):=λ σ H Q hΓ k =>
 h1 σ H _ hΓ λ H1 g1=>h2 σ H1 _ (st _ _ _ hΓ g1) λ H2 g2=>⟨rfl,by
  have e:decide (vS p=vS q)=decide (p=q):=by
   by_cases h:p=q
   ·rw [h];simp
   ·rw [Xu h,Xu λ e=>h (qge e)]
  rw [e];exact k H2 (g1.trans g2)⟩
theorem qaD {σ0:St} {H0:Hp} {i:Nat} {p:Addr} {xs:List V} (e:σ0[i]?=some (some (.ref p))) (h:SqT K H0 p xs):Dv (At σ0 H0) (tCB (λ xs H Q=>∃ p ys,xs=[.ref p]/\(SqL K H p ys∨SqT K H p ys)/\Q (.int ys.length) H) (vO (qdT i) yM)) (.int xs.length):=λ σ H Q g q =>
 ⟨.ref p,by rw [g.1];exact e,p,xs,rfl,.inr (g.2.seqT h),q H (qh.refl H)⟩
theorem qax {D:Ends} {σ:St} {H:Hp} {v:V} (h:Dv Γ t1 v) (hΓ:Γ σ H) (k:∀ H',qh H H'->D.rt v H'):qj1 t1 D σ H:=h σ H _ hΓ k
theorem qjn {i:Nat} {D:Ends} {σ:St} {H:Hp} {v:V} (h:Dv Γ t1 v) (hΓ:Γ σ H) (k:∀ H',qh H H'->D.nx (σ.set i (some v)) H'):qih t1 (vN i) D σ H:=h σ H _ hΓ k
end
structure CA where
 always:Addr
 never:Addr
 letter:Addr
 not:Addr
 and:Addr
 or:Addr
 either:Addr
def CA.bin (c:CA) (op:Nat):Addr:=if op=38 then c.and else if op=124 then c.or else c.either
structure CTxt (K:PySem.W.Frag) (c:CA) (iL iN iP:Addr):Prop where
 always:Cls K c.always
 never:Cls K c.never
 letter:Cls K c.letter
 not:Cls K c.not
 and:Cls K c.and
 or:Cls K c.or
 either:Cls K c.either
 mAlways:Mk0 K c.always
 mNever:Mk0 K c.never
 mLetter:Mk K c.letter iL
 mNot:Mk K c.not iN
 mAnd:Mk K c.and iP
 mOr:Mk K c.or iP
 mEither:Mk K c.either iP
 aLetter:qY K c.letter "letter"
 aNot:qY K c.not "one"
 aAnd:qY K c.and "one"/\qY K c.and "other"
 aOr:qY K c.or "one"/\qY K c.or "other"
 aEither:qY K c.either "one"/\qY K c.either "other"
theorem CTxt.bin {K:PySem.W.Frag} {c:CA} {iL iN iP:Addr} (h:CTxt K c iL iN iP) (op:Nat):Cls K (c.bin op)/\qY K (c.bin op) "one"/\qY K (c.bin op) "other":=by
 unfold CA.bin;split
 ·exact ⟨h.and,h.aAnd⟩
 ·split
  ·exact ⟨h.or,h.aOr⟩
  ·exact ⟨h.either,h.aEither⟩
def qM (c:CA) (H:Hp):Tr->V->Prop
 | .letter l,v=>∃ a dx,v=.ref a/\H a=some (.ins c.letter dx [("letter",vS [l])])
 | .one,v=>∃ a dx,v=.ref a/\H a=some (.ins c.always dx [])
 | .zero,v=>∃ a dx,v=.ref a/\H a=some (.ins c.never dx [])
 | .neg t,v=>∃ a dx x,v=.ref a/\H a=some (.ins c.not dx [("one",x)])/\qM c H t x
 | .bin op t u,v=>∃ a dx x y,v=.ref a/\H a=some (.ins (c.bin op) dx [("one",x),("other",y)])/\qM c H t x/\qM c H u y
theorem qM.mono {c:CA} {H H':Hp} (g:qh H H'):∀ {t:Tr} {v:V},qM c H t v->qM c H' t v
 | .letter _,_,⟨a,dx,e,h⟩=>⟨a,dx,e,g _ _ h⟩
 | .one,_,⟨a,dx,e,h⟩=>⟨a,dx,e,g _ _ h⟩
 | .zero,_,⟨a,dx,e,h⟩=>⟨a,dx,e,g _ _ h⟩
 | .neg t,_,⟨a,dx,x,e,h,r⟩=>⟨a,dx,x,e,g _ _ h,qM.mono g r⟩
 | .bin op t u,_,⟨a,dx,x,y,e,h,r,r'⟩=>⟨a,dx,x,y,e,g _ _ h,qM.mono g r,qM.mono g r'⟩
def qar (K:PySem.W.Frag) (f:Str):Sp:=λ vs H Q _=>∃ (C x dx:Addr) (y:V),vs=[.ref x,y]/\H x=some (.ins C dx [])/\Cls K C/\qY K C f/\Q .non (upd H x (.ins C dx [(f,y)]))
def qex (K:PySem.W.Frag) (f g:Str):Sp:=λ vs H Q _=>∃ (C x dx:Addr) (y z:V),vs=[.ref x,y,z]/\H x=some (.ins C dx [])/\Cls K C/\qY K C f/\qY K C g/\Q .non (upd (upd H x (.ins C dx [(f,y)])) x (.ins C dx [(f,y),(g,z)]))
theorem qjo:FnScope ["self","letter"] ["self","letter"] (qi yI):=scF
theorem qjp:FnScope ["self","one"] ["self","one"] (qi vB):=scF
theorem qjq:FnScope ["self","one","other"] ["self","one","other"] (qi jG):=scF
theorem qjr {k:Nat} {f:Addr} {fd:FuncData} (F:Fun K "__init__" "Letter.__init__" yI f fd):FnOk P w K mg base CX0 (k+1) f fd ["self","letter"] (qar K "letter"):=by
 refine F.ok qjo (λ vs H Q E h=>?_) (λ cdv A outer s H vs Q E hr h=>?_)
 ·obtain ⟨C,x,dx,y,rfl,_⟩:=h;rfl
 obtain ⟨C,x,dx,y,rfl,hx,c,n,q⟩:=h;refine ⟨_,qd (j9 (pv 0) (pv 1) rfl),?_⟩;exact ⟨_,rfl,_,rfl,x,C,dx,[],rfl,hx,c,n,by decide,q⟩
theorem qjs {k:Nat} {f:Addr} {fd:FuncData} (F:Fun K "__init__" "Not.__init__" vB f fd):FnOk P w K mg base CX0 (k+1) f fd ["self","one"] (qar K "one"):=by
 refine F.ok qjp (λ vs H Q E h=>?_) (λ cdv A outer s H vs Q E hr h=>?_)
 ·obtain ⟨C,x,dx,y,rfl,_⟩:=h;rfl
 obtain ⟨C,x,dx,y,rfl,hx,c,n,q⟩:=h;refine ⟨_,qd (j9 (pv 0) (pv 1) rfl),?_⟩;exact ⟨_,rfl,_,rfl,x,C,dx,[],rfl,hx,c,n,by decide,q⟩
theorem qjt {k:Nat} {f:Addr} {fd:FuncData} (F:Fun K "__init__" "Pair.__init__" jG f fd):FnOk P w K mg base CX0 (k+1) f fd ["self","one","other"] (qex K "one" "other"):=by
 refine F.ok qjq (λ vs H Q E h=>?_) (λ cdv A outer s H vs Q E hr h=>?_)
 ·obtain ⟨C,x,dx,y,z,rfl,_⟩:=h;rfl
 obtain ⟨C,x,dx,y,z,rfl,hx,c,n,n2,q⟩:=h;refine ⟨_,qc (j9 (pv 0) (pv 1) rfl) (qd (j9 (pv 0) (pv 2) rfl)),?_⟩;exact ⟨_,rfl,_,rfl,x,C,dx,[],rfl,hx,c,n,by decide,_,rfl,_,rfl,x,C,dx,_,rfl,qe,c,n2,by show 1 < 1000;decide,q⟩
end
section
variable {P:Program} {w:World} {K:PySem.W.Frag} {mg:Str->Option Value} {base:Heap}
def Tr.text:Tr->List Nat
 | .letter c=>[c]
 | .one=>[49]
 | .zero=>[48]
 | .neg t=>[126]++t.text
 | .bin op t u=>[40]++t.text++[op]++u.text++[41]
def Tr.nodes:Tr->Int
 | .neg t=>1+t.nodes
 | .bin _ t u=>1+t.nodes+u.nodes
 | _=>1
def Tr.lets:Tr->List Nat
 | .letter c=>[c]
 | .neg t=>t.lets
 | .bin _ t u=>uni t.lets u.lets
 | _=>[]
theorem Tr.text_len':∀ t:Tr,t.text.length+3<=4 * t.wt
 | .letter _=>by show 1+3<=4 * 1;decide
 | .one=>by show 1+3<=4 * 1;decide
 | .zero=>by show 1+3<=4 * 1;decide
 | .neg t=>by
  have:=Tr.text_len' t
  show ([126]++t.text).length+3<=4 * (t.wt+1)
  rw [Xd,Xj];omega
 | .bin op t u=>by
  have h1:=Tr.text_len' t;have h2:=Tr.text_len' u;show ([40]++t.text++[op]++u.text++[41]).length+3<=4 * (t.wt+u.wt)
  simp only [Xd,Xj];omega
theorem Tr.text_len:∀ t:Tr,t.text.length<=4 * t.wt
 | .letter _=>by show 1<=4 * 1;decide
 | .one=>by show 1<=4 * 1;decide
 | .zero=>by show 1<=4 * 1;decide
 | .neg t=>by
  have:=Tr.text_len t
  show ([126]++t.text).length<=4 * (t.wt+1)
  rw [Xd,Xj];omega
 | .bin op t u=>by
  have h1:=Tr.text_len' t;have h2:=Tr.text_len' u;show ([40]++t.text++[op]++u.text++[41]).length<=4 * (t.wt+u.wt)
  simp only [Xd,Xj];omega
theorem qkI (p q:List Nat):(uni p q).length<=p.length+q.length:=by
 rw [<- Xd];exact je (m:=p++q) (zn XC (zG _)) λ c hc=>List.mem_append.mpr (qg6.mp hc)
theorem Tr.lets_len:∀ t:Tr,t.lets.length<=t.wt
 | .letter _=>Xe _
 | .one=>Nat.zero_le _
 | .zero=>Nat.zero_le _
 | .neg t=>Nat.le_succ_of_le (Tr.lets_len t)
 | .bin op t u=>Nat.le_trans (qkI _ _) (Nat.add_le_add (Tr.lets_len t) (Tr.lets_len u))
theorem Tr.lets_rise:∀ t:Tr,t.lets.Pairwise (· < ·)
 | .letter _=>by simp [Tr.lets]
 | .one=>by simp [Tr.lets]
 | .zero=>by simp [Tr.lets]
 | .neg t=>Tr.lets_rise t
 | .bin op t u=>zG _
theorem Tr.mem_lets {c:Nat}:∀ t:Tr,c∈t.lets ↔ t.Has c
 | .letter _=>List.mem_singleton
 | .one=>⟨λ h=>(by cases h),λ h=>h.elim⟩
 | .zero=>⟨λ h=>(by cases h),λ h=>h.elim⟩
 | .neg t=>Tr.mem_lets t
 | .bin op t u=>qg6.trans (or_congr (Tr.mem_lets t) (Tr.mem_lets u))
def kA (t:Tr):Prop:=t=.one
def kN (t:Tr):Prop:=t=.zero
def kL (t:Tr):Prop:=∃ l,t=.letter l
def kO (t:Tr):Prop:=∃ u,t=.neg u
def kD (t:Tr):Prop:=∃ u v,t=.bin 38 u v
def kR (t:Tr):Prop:=∃ u v,t=.bin 124 u v
def kE (t:Tr):Prop:=∃ u v,t=.bin 43 u v
def kP (t:Tr):Prop:=∃ op u v,t=.bin op u v
def spV (f:Tr->V) (c:CA) (n:Nat) (κ:Tr->Prop):Sp:=λ vs H Q _=>∃ (o:V) (t:Tr),vs=[o]/\qM c H t o/\t.ht<=n/\t.wt<=1000/\t.Of zD/\κ t/\∀ H',qh H H'->Q (f t) H'
abbrev tV (f:Tr->V) (c:CA) (n:Nat) (m:Str) (κd κr κe:Tr->Prop) (te:TE):TE:=(λ σ H Q=>yN c.always m (spV f c n kA) [] E0 te yM σ H Q∨(λ σ H Q=>yN c.never m (spV f c n kN) [] E0 te yM σ H Q∨(λ σ H Q=>yN c.letter m (spV f c n kL) [] E0 te yM σ H Q∨(λ σ H Q=>yN c.not m (spV f c n kO) [] E0 te yM σ H Q∨(λ σ H Q=>yN c.and m (spV f c n κd) [] E0 te yM σ H Q∨(λ σ H Q=>yN c.or m (spV f c n κr) [] E0 te yM σ H Q∨yN c.either m (spV f c n κe) [] E0 te yM σ H Q) σ H Q) σ H Q) σ H Q) σ H Q) σ H Q)
theorem dV {f:Tr->V} {n:Nat} {m:Str} {κd κr κe:Tr->Prop} {c:CA} {σ0:St} {H0:Hp} {te:TE} {o:V} {t:Tr} (hl:∀ x y:V,List.lookup m [(("letter":Str),x)]=none/\List.lookup m [(("one":Str),x)]=none/\List.lookup m [(("one":Str),x),(("other":Str),y)]=none)
  (hd:∀ u v,κd (.bin 38 u v)) (hr:∀ u v,κr (.bin 124 u v)) (he:∀ u v,κe (.bin 43 u v)) (h1:Dv (At σ0 H0) te o) (ob:qM c H0 t o) (ht:t.ht<=n) (hw:t.wt<=1000) (of:t.Of zD) :
  Dv (At σ0 H0) (tV f c n m κd κr κe te) (f t):=by
 intro σ H Q hΓ q;have go:∀ (κ:Tr->Prop) (C:Addr) (a dx:Addr) (fs:List (Str×V)),κ t->o=.ref a->H0 a=some (.ins C dx fs)->fs.lookup m=none->yN C m (spV f c n κ) [] E0 te yM σ H Q:=λ κ C a dx fs hκ eo ha hl =>
  h1 σ H _ hΓ λ H1 g1=>⟨a,dx,fs,eo,(hΓ.2.trans g1) _ _ ha,hl,o,t,rfl,ob.mono (hΓ.2.trans g1),ht,hw,of,hκ,λ H' g=>q H' (g1.trans g)⟩
 cases t with
 | one=>obtain ⟨a,dx,e,h⟩:=ob;exact .inl (go kA _ a dx _ rfl e h rfl)
 | zero=>obtain ⟨a,dx,e,h⟩:=ob;exact .inr (.inl (go kN _ a dx _ rfl e h rfl))
 | letter l=>obtain ⟨a,dx,e,h⟩:=ob;exact .inr (.inr (.inl (go kL _ a dx _ ⟨l,rfl⟩ e h (hl _ .non).1)))
 | neg u=>obtain ⟨a,dx,x,e,h,_⟩:=ob;exact .inr (.inr (.inr (.inl (go kO _ a dx _ ⟨u,rfl⟩ e h (hl _ .non).2.1))))
 | bin op u v =>
  obtain ⟨a,dx,x,y,e,h,_⟩:=ob;rcases of.1 with rfl | rfl | rfl
  ·exact .inr (.inr (.inr (.inr (.inl (go κd _ a dx _ (hd u v) e h (hl _ _).2.2)))))
  ·exact .inr (.inr (.inr (.inr (.inr (.inl (go κr _ a dx _ (hr u v) e h (hl _ _).2.2))))))
  ·exact .inr (.inr (.inr (.inr (.inr (.inr (go κe _ a dx _ (he u v) e h (hl _ _).2.2))))))
structure MTxt (K:PySem.W.Frag) (c:CA) (m:Str) (fA fN fL fO fD fR fE:Addr):Prop where
 always:Meth K c.always m fA
 never:Meth K c.never m fN
 letter:Meth K c.letter m fL
 not:Meth K c.not m fO
 and:Meth K c.and m fD
 or:Meth K c.or m fR
 either:Meth K c.either m fE
structure VOk (P:Program) (w:World) (K:PySem.W.Frag) (mg:Str->Option Value) (base:Heap) (f:Tr->V) (c:CA) (n:Nat) (κd κr κe:Tr->Prop) (fA fN fL fO fD fR fE:Addr) (dA dN dL dO dD dR dE:FuncData):Prop where
 always:FnOk P w K mg base CX0 n fA dA ["self"] (spV f c n kA)
 never:FnOk P w K mg base CX0 n fN dN ["self"] (spV f c n kN)
 letter:FnOk P w K mg base CX0 n fL dL ["self"] (spV f c n kL)
 not:FnOk P w K mg base CX0 n fO dO ["self"] (spV f c n kO)
 and:FnOk P w K mg base CX0 n fD dD ["self"] (spV f c n κd)
 or:FnOk P w K mg base CX0 n fR dR ["self"] (spV f c n κr)
 either:FnOk P w K mg base CX0 n fE dE ["self"] (spV f c n κe)
theorem qay {X:Cx} {f:Tr->V} {c:CA} {n:Nat} {m:Str} {κd κr κe:Tr->Prop} {iL iN iP fA fN fL fO fD fR fE:Addr} {dA dN dL dO dD dR dE:FuncData} {o:Expr} {ta:TE} {apos pos:Pos} {pl:Sem Bool} (he:PE X o ta) (C:CTxt X.K c iL iN iP) (M:MTxt X.K c m fA fN fL fO fD fR fE) (G:VOk X.prog X.w X.K X.mg X.base f c n κd κr κe fA fN fL fO fD fR fE dA dN dL dO dD dR dE) (hr:Room n X.A) (bA:qf X.K dA ["self"] []) (bN:qf X.K dN ["self"] []) (bL:qf X.K dL ["self"] []) (bO:qf X.K dO ["self"] []) (bD:qf X.K dD ["self"] []) (bR:qf X.K dR ["self"] []) (bE:qf X.K dE ["self"] [])
  (ht:eval (.Call (.Attribute o m apos) [] [] pos) X.env=(do
   let ov <- eval o X.env
   standAt apos.atName
   let (f,first) <- holding [ov] (getMethod ov m pl)
   callWith pos f first (backTo pos (starEach [] X.env)) (backToKw pos (keywordEach [] X.env))):=by rfl):PE X (.Call (.Attribute o m apos) [] [] pos) (tV f c n m κd κr κe ta) :=
 PE.or (qD he C.always M.always G.always hr bA .nil qI ht) (PE.or (qD he C.never M.never G.never hr bN .nil qI ht) (PE.or (qD he C.letter M.letter G.letter hr bL .nil qI ht) (PE.or (qD he C.not M.not G.not hr bO .nil qI ht) (PE.or (qD he C.and M.and G.and hr bD .nil qI ht) (PE.or (qD he C.or M.or G.or hr bR .nil qI ht) (qD he C.either M.either G.either hr bE .nil qI ht))))))
theorem vI {σ0:St} {H0:Hp} {a C dx:Addr} {fs:List (Str×V)} {f:Str} {v:V} (e:σ0[0]?=some (some (.ref a))) (h:H0 a=some (.ins C dx fs)) (c:Cls K C) (n:qY K C f) (l:fs.lookup f=some v):Dv (At σ0 H0) (qmv K (qdT 0) f) v:=λ σ H Q g q =>
 ⟨.ref a,by rw [g.1];exact e,a,C,dx,fs,v,rfl,g.2 _ _ h,c,n,l,q H (qh.refl H)⟩
theorem jt {Γ:St->Hp->Prop} {t1 t2:TE} (st:Stb Γ) {p q:List Nat} (h1:Dv Γ t1 (vS p)) (h2:Dv Γ t2 (vS q)) (hl:p.length+q.length<=100000):Dv Γ (tOp rAS t1 t2) (vS (p++q)):=λ σ H Q hΓ k =>
 h1 σ H _ hΓ λ H1 g1=>h2 σ H1 _ (st _ _ _ hΓ g1) λ H2 g2=>⟨qj p,qj q,rfl,rfl,by rw [qw,qw];exact qu hl,by rw [zr];exact k H2 (g1.trans g2)⟩
theorem qc5:("(":Str)=qj [40]:=by decide +kernel
theorem qas:(")":Str)=qj [41]:=by decide +kernel
theorem qju:("+":Str)=qj [43]:=by decide +kernel
theorem ql3:("":Str)=qj []:=by decide +kernel
abbrev zN (t:Tr):V:=vS t.text
abbrev vSz (t:Tr):V:=.int t.nodes
theorem qdi:FnScope ["self"] ["self"] (qi zV):=scF
theorem qey:FnScope ["self"] ["self"] (qi yu):=scF
theorem qdj:FnScope ["self"] ["self"] (qi zY):=scF
theorem qgw:FnScope ["self"] ["self"] (qi jm):=scF
theorem qgx:FnScope ["self"] ["self"] (qi jp):=scF
theorem qh2:FnScope ["self"] ["self"] (qi jX):=scF
theorem qdk:FnScope ["self"] ["self"] (qi yb):=scF
theorem qdl:FnScope ["self"] ["self"] (qi zW):=scF
theorem qez:FnScope ["self"] ["self"] (qi yw):=scF
theorem qdm:FnScope ["self"] ["self"] (qi zZ):=scF
theorem qgy:FnScope ["self"] ["self"] (qi jn):=scF
theorem qfB:FnScope ["self"] ["self"] (qi yR):=scF
section
variable {c:CA} {iL iN iP fA fN fL fO fD fR fE fP:Addr} {dA dN dL dO dD dR dE dP:FuncData} {n:Nat}
theorem qfC (F:Fun K "text" "Always.text" zV fA dA):FnOk P w K mg base CX0 (n+1) fA dA ["self"] (spV zN c (n+1) kA):=by
 refine F.ok qdi (λ vs H Q E h=>?_) (λ cdv A outer s H vs Q E hr h=>?_)
 ·obtain ⟨o,t,rfl,_⟩:=h;rfl
 obtain ⟨o,t,rfl,ob,ht,hw,of,rfl,q⟩:=h;refine ⟨_,qd (qm qk),?_⟩;rw [qjk];exact q H (qh.refl H)
theorem qgz (F:Fun K "text" "Never.text" yu fN dN):FnOk P w K mg base CX0 (n+1) fN dN ["self"] (spV zN c (n+1) kN):=by
 refine F.ok qey (λ vs H Q E h=>?_) (λ cdv A outer s H vs Q E hr h=>?_)
 ·obtain ⟨o,t,rfl,_⟩:=h;rfl
 obtain ⟨o,t,rfl,ob,ht,hw,of,rfl,q⟩:=h;refine ⟨_,qd (qm qk),?_⟩;rw [qgv];exact q H (qh.refl H)
theorem qfD (C:CTxt K c iL iN iP) (F:Fun K "text" "Letter.text" zY fL dL):FnOk P w K mg base CX0 (n+1) fL dL ["self"] (spV zN c (n+1) kL):=by
 refine F.ok qdj (λ vs H Q E h=>?_) (λ cdv A outer s H vs Q E hr h=>?_)
 ·obtain ⟨o,t,rfl,_⟩:=h;rfl
 obtain ⟨o,t,rfl,ob,ht,hw,of,⟨l,rfl⟩,q⟩:=h;refine ⟨_,qd (qm (zi (pv 0) (by rfl))),?_⟩;obtain ⟨a,dx,rfl,h⟩:=ob;exact qax (vI (K:=K) rfl h C.letter C.aLetter rfl) at0 q
theorem qjv (C:CTxt K c iL iN iP) (M:MTxt K c "text" fA fN fL fO fD fR fE) (G:VOk P w K mg base zN c n kD kR kE fA fN fL fO fD fR fE dA dN dL dO dD dR dE) (bA:qf K dA ["self"] []) (bN:qf K dN ["self"] []) (bL:qf K dL ["self"] []) (bO:qf K dO ["self"] []) (bD:qf K dD ["self"] []) (bR:qf K dR ["self"] []) (bE:qf K dE ["self"] []) (F:Fun K "text" "Not.text" jm fO dO):FnOk P w K mg base CX0 (n+1) fO dO ["self"] (spV zN c (n+1) kO):=by
 refine F.ok qgw (λ vs H Q E h=>?_) (λ cdv A outer s H vs Q E hr h=>?_)
 ·obtain ⟨o,t,rfl,_⟩:=h;rfl
 obtain ⟨o,t,rfl,ob,ht,hw,of,⟨u,rfl⟩,q⟩:=h;have hw':u.wt+1<=1000:=hw;refine ⟨_,qd (qm (qo qG qk (qay (zi (pv 0) (by rfl)) C M G hr bA bN bL bO bD bR bE))),?_⟩;rw [ql2];obtain ⟨a,dx,x,rfl,h,ou⟩:=ob;exact qax (jt qA dC (dV (f:=zN) (n:=n) (κd:=kD) (κr:=kR) (κe:=kE) (λ _ _=>⟨rfl,rfl,rfl⟩) (λ _ _=>⟨_,_,rfl⟩) (λ _ _=>⟨_,_,rfl⟩) (λ _ _=>⟨_,_,rfl⟩) (vI rfl h C.not C.aNot rfl) ou (Nat.le_of_succ_le_succ ht) (by omega) of) (by have:=u.text_len;rw [Xj];omega)) at0 q
theorem qjw (C:CTxt K c iL iN iP) (M:MTxt K c "text" fA fN fL fO fD fR fE) (G:VOk P w K mg base zN c n kD kR kE fA fN fL fO fD fR fE dA dN dL dO dD dR dE) (bA:qf K dA ["self"] []) (bN:qf K dN ["self"] []) (bL:qf K dL ["self"] []) (bO:qf K dO ["self"] []) (bD:qf K dD ["self"] []) (bR:qf K dR ["self"] []) (bE:qf K dE ["self"] []) (F:Fun K "text" "And.text" jp fD dD):FnOk P w K mg base CX0 (n+1) fD dD ["self"] (spV zN c (n+1) kD):=by
 refine F.ok qgx (λ vs H Q E h=>?_) (λ cdv A outer s H vs Q E hr h=>?_)
 ·obtain ⟨o,t,rfl,_⟩:=h;rfl
 obtain ⟨o,t,rfl,ob,ht,hw,of,⟨u,v,rfl⟩,q⟩:=h;refine ⟨_,qd (qm (qo qG (qo qG (qo qG (qo qG qk (qay (zi (pv 0) (by rfl)) C M G hr bA bN bL bO bD bR bE)) qk) (qay (zi (pv 0) (by rfl)) C M G hr bA bN bL bO bD bR bE)) qk)),?_⟩;rw [qc5,qas,qjl];obtain ⟨a,dx,x,y,rfl,h,ou,ov⟩:=ob;obtain ⟨op3,fu,fv⟩:=of;have hm:max u.ht v.ht<=n:=Nat.le_of_succ_le_succ ht;have hw':u.wt+v.wt<=1000:=hw;obtain ⟨cB,n1,n2⟩:=C.bin 38;have l1:=u.text_len;have l2:=v.text_len;exact qax (jt qA (jt qA (jt qA (jt qA dC (dV (f:=zN) (n:=n) (κd:=kD) (κr:=kR) (κe:=kE) (λ _ _=>⟨rfl,rfl,rfl⟩) (λ _ _=>⟨_,_,rfl⟩) (λ _ _=>⟨_,_,rfl⟩) (λ _ _=>⟨_,_,rfl⟩) (vI rfl h cB n1 rfl) ou (by omega) (by omega) fu) (by rw [Xj];omega)) dC (by simp only [Xd,Xj];omega)) (dV (f:=zN) (n:=n) (κd:=kD) (κr:=kR) (κe:=kE) (λ _ _=>⟨rfl,rfl,rfl⟩) (λ _ _=>⟨_,_,rfl⟩) (λ _ _=>⟨_,_,rfl⟩) (λ _ _=>⟨_,_,rfl⟩) (vI rfl h cB n2 rfl) ov (by omega) (by omega) fv) (by simp only [Xd,Xj];omega)) dC (by simp only [Xd,Xj];omega)) at0 q
theorem qkJ (C:CTxt K c iL iN iP) (M:MTxt K c "text" fA fN fL fO fD fR fE) (G:VOk P w K mg base zN c n kD kR kE fA fN fL fO fD fR fE dA dN dL dO dD dR dE) (bA:qf K dA ["self"] []) (bN:qf K dN ["self"] []) (bL:qf K dL ["self"] []) (bO:qf K dO ["self"] []) (bD:qf K dD ["self"] []) (bR:qf K dR ["self"] []) (bE:qf K dE ["self"] []) (F:Fun K "text" "Or.text" jX fR dR):FnOk P w K mg base CX0 (n+1) fR dR ["self"] (spV zN c (n+1) kR):=by
 refine F.ok qh2 (λ vs H Q E h=>?_) (λ cdv A outer s H vs Q E hr h=>?_)
 ·obtain ⟨o,t,rfl,_⟩:=h;rfl
 obtain ⟨o,t,rfl,ob,ht,hw,of,⟨u,v,rfl⟩,q⟩:=h;refine ⟨_,qd (qm (qo qG (qo qG (qo qG (qo qG qk (qay (zi (pv 0) (by rfl)) C M G hr bA bN bL bO bD bR bE)) qk) (qay (zi (pv 0) (by rfl)) C M G hr bA bN bL bO bD bR bE)) qk)),?_⟩;rw [qc5,qas,qjm];obtain ⟨a,dx,x,y,rfl,h,ou,ov⟩:=ob;obtain ⟨op3,fu,fv⟩:=of;have hm:max u.ht v.ht<=n:=Nat.le_of_succ_le_succ ht;have hw':u.wt+v.wt<=1000:=hw;obtain ⟨cB,n1,n2⟩:=C.bin 124;have l1:=u.text_len;have l2:=v.text_len;exact qax (jt qA (jt qA (jt qA (jt qA dC (dV (f:=zN) (n:=n) (κd:=kD) (κr:=kR) (κe:=kE) (λ _ _=>⟨rfl,rfl,rfl⟩) (λ _ _=>⟨_,_,rfl⟩) (λ _ _=>⟨_,_,rfl⟩) (λ _ _=>⟨_,_,rfl⟩) (vI rfl h cB n1 rfl) ou (by omega) (by omega) fu) (by rw [Xj];omega)) dC (by simp only [Xd,Xj];omega)) (dV (f:=zN) (n:=n) (κd:=kD) (κr:=kR) (κe:=kE) (λ _ _=>⟨rfl,rfl,rfl⟩) (λ _ _=>⟨_,_,rfl⟩) (λ _ _=>⟨_,_,rfl⟩) (λ _ _=>⟨_,_,rfl⟩) (vI rfl h cB n2 rfl) ov (by omega) (by omega) fv) (by simp only [Xd,Xj];omega)) dC (by simp only [Xd,Xj];omega)) at0 q
theorem qfE (C:CTxt K c iL iN iP) (M:MTxt K c "text" fA fN fL fO fD fR fE) (G:VOk P w K mg base zN c n kD kR kE fA fN fL fO fD fR fE dA dN dL dO dD dR dE) (bA:qf K dA ["self"] []) (bN:qf K dN ["self"] []) (bL:qf K dL ["self"] []) (bO:qf K dO ["self"] []) (bD:qf K dD ["self"] []) (bR:qf K dR ["self"] []) (bE:qf K dE ["self"] []) (F:Fun K "text" "Either.text" yb fE dE):FnOk P w K mg base CX0 (n+1) fE dE ["self"] (spV zN c (n+1) kE):=by
 refine F.ok qdk (λ vs H Q E h=>?_) (λ cdv A outer s H vs Q E hr h=>?_)
 ·obtain ⟨o,t,rfl,_⟩:=h;rfl
 obtain ⟨o,t,rfl,ob,ht,hw,of,⟨u,v,rfl⟩,q⟩:=h;refine ⟨_,qd (qm (qo qG (qo qG (qo qG (qo qG qk (qay (zi (pv 0) (by rfl)) C M G hr bA bN bL bO bD bR bE)) qk) (qay (zi (pv 0) (by rfl)) C M G hr bA bN bL bO bD bR bE)) qk)),?_⟩;rw [qc5,qas,qju];obtain ⟨a,dx,x,y,rfl,h,ou,ov⟩:=ob;obtain ⟨op3,fu,fv⟩:=of;have hm:max u.ht v.ht<=n:=Nat.le_of_succ_le_succ ht;have hw':u.wt+v.wt<=1000:=hw;obtain ⟨cB,n1,n2⟩:=C.bin 43;have l1:=u.text_len;have l2:=v.text_len;exact qax (jt qA (jt qA (jt qA (jt qA dC (dV (f:=zN) (n:=n) (κd:=kD) (κr:=kR) (κe:=kE) (λ _ _=>⟨rfl,rfl,rfl⟩) (λ _ _=>⟨_,_,rfl⟩) (λ _ _=>⟨_,_,rfl⟩) (λ _ _=>⟨_,_,rfl⟩) (vI rfl h cB n1 rfl) ou (by omega) (by omega) fu) (by rw [Xj];omega)) dC (by simp only [Xd,Xj];omega)) (dV (f:=zN) (n:=n) (κd:=kD) (κr:=kR) (κe:=kE) (λ _ _=>⟨rfl,rfl,rfl⟩) (λ _ _=>⟨_,_,rfl⟩) (λ _ _=>⟨_,_,rfl⟩) (λ _ _=>⟨_,_,rfl⟩) (vI rfl h cB n2 rfl) ov (by omega) (by omega) fv) (by simp only [Xd,Xj];omega)) dC (by simp only [Xd,Xj];omega)) at0 q
theorem qfF (F:Fun K "size" "Always.size" zW fA dA):FnOk P w K mg base CX0 (n+1) fA dA ["self"] (spV vSz c (n+1) kA):=by
 refine F.ok qdl (λ vs H Q E h=>?_) (λ cdv A outer s H vs Q E hr h=>?_)
 ·obtain ⟨o,t,rfl,_⟩:=h;rfl
 obtain ⟨o,t,rfl,ob,ht,hw,of,rfl,q⟩:=h;refine ⟨_,qd (qm qg),?_⟩;exact q H (qh.refl H)
theorem qgA (F:Fun K "size" "Never.size" yw fN dN):FnOk P w K mg base CX0 (n+1) fN dN ["self"] (spV vSz c (n+1) kN):=by
 refine F.ok qez (λ vs H Q E h=>?_) (λ cdv A outer s H vs Q E hr h=>?_)
 ·obtain ⟨o,t,rfl,_⟩:=h;rfl
 obtain ⟨o,t,rfl,ob,ht,hw,of,rfl,q⟩:=h;refine ⟨_,qd (qm qg),?_⟩;exact q H (qh.refl H)
theorem qfG (F:Fun K "size" "Letter.size" zZ fL dL):FnOk P w K mg base CX0 (n+1) fL dL ["self"] (spV vSz c (n+1) kL):=by
 refine F.ok qdm (λ vs H Q E h=>?_) (λ cdv A outer s H vs Q E hr h=>?_)
 ·obtain ⟨o,t,rfl,_⟩:=h;rfl
 obtain ⟨o,t,rfl,ob,ht,hw,of,⟨l,rfl⟩,q⟩:=h;exact ⟨_,qd (qm qg),q H (qh.refl H)⟩
theorem qjx (C:CTxt K c iL iN iP) (M:MTxt K c "size" fA fN fL fO fD fR fE) (G:VOk P w K mg base vSz c n kP kP kP fA fN fL fO fD fR fE dA dN dL dO dD dR dE) (bA:qf K dA ["self"] []) (bN:qf K dN ["self"] []) (bL:qf K dL ["self"] []) (bO:qf K dO ["self"] []) (bD:qf K dD ["self"] []) (bR:qf K dR ["self"] []) (bE:qf K dE ["self"] []) (F:Fun K "size" "Not.size" jn fO dO):FnOk P w K mg base CX0 (n+1) fO dO ["self"] (spV vSz c (n+1) kO):=by
 refine F.ok qgy (λ vs H Q E h=>?_) (λ cdv A outer s H vs Q E hr h=>?_)
 ·obtain ⟨o,t,rfl,_⟩:=h;rfl
 obtain ⟨o,t,rfl,ob,ht,hw,of,⟨u,rfl⟩,q⟩:=h;have hw':u.wt+1<=1000:=hw;refine ⟨_,qd (qm (qo zS qg (qay (zi (pv 0) (by rfl)) C M G hr bA bN bL bO bD bR bE))),?_⟩;obtain ⟨a,dx,x,rfl,h,ou⟩:=ob;exact qax (dI0 qA dC (dV (f:=vSz) (n:=n) (κd:=kP) (κr:=kP) (κe:=kP) (λ _ _=>⟨rfl,rfl,rfl⟩) (λ _ _=>⟨_,_,_,rfl⟩) (λ _ _=>⟨_,_,_,rfl⟩) (λ _ _=>⟨_,_,_,rfl⟩) (vI rfl h C.not C.aNot rfl) ou (Nat.le_of_succ_le_succ ht) (by omega) of)) at0 q
theorem qbA (C:CTxt K c iL iN iP) (M:MTxt K c "size" fA fN fL fO fD fR fE) (G:VOk P w K mg base vSz c n kP kP kP fA fN fL fO fD fR fE dA dN dL dO dD dR dE) (bA:qf K dA ["self"] []) (bN:qf K dN ["self"] []) (bL:qf K dL ["self"] []) (bO:qf K dO ["self"] []) (bD:qf K dD ["self"] []) (bR:qf K dR ["self"] []) (bE:qf K dE ["self"] []) (F:Fun K "size" "Pair.size" yR fP dP):FnOk P w K mg base CX0 (n+1) fP dP ["self"] (spV vSz c (n+1) kP):=by
 refine F.ok qfB (λ vs H Q E h=>?_) (λ cdv A outer s H vs Q E hr h=>?_)
 ·obtain ⟨o,t,rfl,_⟩:=h;rfl
 obtain ⟨o,t,rfl,ob,ht,hw,of,⟨op,u,v,rfl⟩,q⟩:=h;refine ⟨_,qd (qm (qo zS (qo zS qg (qay (zi (pv 0) (by rfl)) C M G hr bA bN bL bO bD bR bE)) (qay (zi (pv 0) (by rfl)) C M G hr bA bN bL bO bD bR bE))),?_⟩;obtain ⟨a,dx,x,y,rfl,h,ou,ov⟩:=ob;obtain ⟨op3,fu,fv⟩:=of;have hm:max u.ht v.ht<=n:=Nat.le_of_succ_le_succ ht;have hw':u.wt+v.wt<=1000:=hw;obtain ⟨cB,n1,n2⟩:=C.bin op;exact qax (dI0 qA (dI0 qA dC (dV (f:=vSz) (n:=n) (κd:=kP) (κr:=kP) (κe:=kP) (λ _ _=>⟨rfl,rfl,rfl⟩) (λ _ _=>⟨_,_,_,rfl⟩) (λ _ _=>⟨_,_,_,rfl⟩) (λ _ _=>⟨_,_,_,rfl⟩) (vI rfl h cB n1 rfl) ou (by omega) (by omega) fu)) (dV (f:=vSz) (n:=n) (κd:=kP) (κr:=kP) (κe:=kP) (λ _ _=>⟨rfl,rfl,rfl⟩) (λ _ _=>⟨_,_,_,rfl⟩) (λ _ _=>⟨_,_,_,rfl⟩) (λ _ _=>⟨_,_,_,rfl⟩) (vI rfl h cB n2 rfl) ov (by omega) (by omega) fv)) at0 q
theorem yB {f:Tr->V} {κ:Tr->Prop} {g:Addr} {fd:FuncData}:FnOk P w K mg base CX0 0 g fd ["self"] (spV f c 0 κ) :=
 ⟨λ vs H Q E h=>by obtain ⟨_,t,_,_,h,_⟩:=h;have:=t.ht1;omega,λ A outer s H args us vs Q E _ _ _ _ h=>by obtain ⟨_,t,_,_,h,_⟩:=h;have:=t.ht1;omega⟩
theorem qfH (C:CTxt K c iL iN iP) (M:MTxt K c "text" fA fN fL fO fD fR fE) (bA:qf K dA ["self"] []) (bN:qf K dN ["self"] []) (bL:qf K dL ["self"] []) (bO:qf K dO ["self"] []) (bD:qf K dD ["self"] []) (bR:qf K dR ["self"] []) (bE:qf K dE ["self"] [])
  (FA:Fun K "text" "Always.text" zV fA dA) (FN:Fun K "text" "Never.text" yu fN dN) (FL:Fun K "text" "Letter.text" zY fL dL) (FO:Fun K "text" "Not.text" jm fO dO) (FD:Fun K "text" "And.text" jp fD dD) (FR:Fun K "text" "Or.text" jX fR dR) (FE:Fun K "text" "Either.text" yb fE dE) :
  ∀ n,VOk P w K mg base zN c n kD kR kE fA fN fL fO fD fR fE dA dN dL dO dD dR dE
 | 0=>⟨yB,yB,yB,yB,yB,yB,yB⟩
 | n+1 =>
  have G:=qfH C M bA bN bL bO bD bR bE FA FN FL FO FD FR FE n
  ⟨qfC FA,qgz FN,qfD C FL,qjv C M G bA bN bL bO bD bR bE FO,qjw C M G bA bN bL bO bD bR bE FD,qkJ C M G bA bN bL bO bD bR bE FR,qfE C M G bA bN bL bO bD bR bE FE⟩
theorem qfI (C:CTxt K c iL iN iP) (M:MTxt K c "size" fA fN fL fO fP fP fP) (bA:qf K dA ["self"] []) (bN:qf K dN ["self"] []) (bL:qf K dL ["self"] []) (bO:qf K dO ["self"] []) (bP:qf K dP ["self"] [])
  (FA:Fun K "size" "Always.size" zW fA dA) (FN:Fun K "size" "Never.size" yw fN dN) (FL:Fun K "size" "Letter.size" zZ fL dL) (FO:Fun K "size" "Not.size" jn fO dO) (FP:Fun K "size" "Pair.size" yR fP dP) :
  ∀ n,VOk P w K mg base vSz c n kP kP kP fA fN fL fO fP fP fP dA dN dL dO dP dP dP
 | 0=>⟨yB,yB,yB,yB,yB,yB,yB⟩
 | n+1 =>
  have G:=qfI C M bA bN bL bO bP FA FN FL FO FP n
  ⟨qfF FA,qgA FN,qfG FL,qjx C M G bA bN bL bO bP bP bP FO,qbA C M G bA bN bL bO bP bP bP FP,qbA C M G bA bN bL bO bP bP bP FP,qbA C M G bA bN bL bO bP bP bP FP⟩
end
end
section
variable {P:Program} {w:World} {K:PySem.W.Frag} {mg:Str->Option Value} {base:Heap}
def Tr.val (ρ:Nat->Bool):Tr->Bool
 | .letter c=>ρ c
 | .one=>true
 | .zero=>false
 | .neg t=>!t.val ρ
 | .bin op t u=>if op=38 then t.val ρ && u.val ρ else if op=124 then t.val ρ || u.val ρ else t.val ρ != u.val ρ
def Tr.form:Tr->List Pr
 | .letter l=>[[l]]
 | .one=>[[]]
 | .zero=>[]
 | .neg t=>opp t.form
 | .bin op t u=>if op=38 then mult t.form u.form else if op=124 then join t.form u.form else added t.form u.form
theorem qh3 {ls:List Nat} {l:Nat} (h:l∈ls):On ls [[l]]:=⟨⟨by simp,by simp⟩,λ p hp c hc=>by
 rw [List.mem_singleton.mp hp] at hc;rw [List.mem_singleton.mp hc];exact h⟩
theorem Tr.on {ls:List Nat}:∀ {t:Tr},t.Of ls->On ls t.form
 | .letter _,h=>qh3 h
 | .one,_=>On.one ls
 | .zero,_=>On.nil ls
 | .neg t,h=>On.opp (Tr.on (t:=t) h)
 | .bin op t u,h=>by
  have h1:=Tr.on (t:=t) h.2.1;have h2:=Tr.on (t:=u) h.2.2;unfold Tr.form;split
  ·exact h1.mult h2
  ·split
   ·exact h1.join h2
   ·exact h1.added h2
theorem Tr.form_worth {ls:List Nat} (ρ:Nat->Bool):∀ {t:Tr},t.Of ls->qF ρ t.form=t.val ρ
 | .letter _,_=>by simp [Tr.form,Tr.val,qF]
 | .one,_=>by simp [Tr.form,Tr.val,qF]
 | .zero,_=>by simp [Tr.form,Tr.val,qF]
 | .neg t,h=>by
  have h1:=Tr.on (t:=t) h;show qF ρ (opp t.form)=!t.val ρ
  rw [qhF ρ h1.vf,Tr.form_worth ρ (t:=t) h]
 | .bin op t u,h=>by
  have h1:=Tr.on (t:=t) h.2.1;have h2:=Tr.on (t:=u) h.2.2;have e1:=Tr.form_worth ρ (t:=t) h.2.1;have e2:=Tr.form_worth ρ (t:=u) h.2.2;unfold Tr.form Tr.val;split
  ·rw [qcC ρ h1.vf h2.vf,e1,e2]
  ·split
   ·rw [qf9 ρ h1.vf h2.vf,e1,e2]
   ·rw [jB ρ h1.vf h2.vf,e1,e2]
theorem jc {t u:Tr} (h:∀ c,t.Has c->u.Has c):t.lets.length<=u.lets.length:=je (zn XC t.lets_rise) λ c hc=>u.mem_lets.mpr (h c (t.mem_lets.mp hc))
theorem Tr.Of.sub {ls us:List Nat}:∀ {t:Tr},t.Of ls->(∀ c,t.Has c->c∈us)->t.Of us
 | .letter l,_,h=>h l rfl
 | .neg t,o,h=>Tr.Of.sub (t:=t) o h
 | .bin _ t u,o,h=>⟨o.1,Tr.Of.sub (t:=t) o.2.1 λ c hc=>h c (.inl hc),Tr.Of.sub (t:=u) o.2.2 λ c hc=>h c (.inr hc)⟩
 | .one,_,_=>trivial
 | .zero,_,_=>trivial
def Szd (t:Tr):Prop:=t.Of zD/\(t.lets.length<=6∨t.wt<=10)
theorem Szd.neg {t:Tr} (h:Szd (.neg t)):Szd t:=⟨h.1,h.2.elim .inl λ x=>.inr (Nat.le_of_succ_le x)⟩
theorem Szd.l {op:Nat} {t u:Tr} (h:Szd (.bin op t u)):Szd t:=⟨h.1.2.1,h.2.elim (λ x=>.inl (Nat.le_trans (jc (t:=t) (u:=.bin op t u) λ c hc=>.inl hc) x)) λ x=>.inr (by have:t.wt+u.wt<=10:=x;omega)⟩
theorem Szd.r {op:Nat} {t u:Tr} (h:Szd (.bin op t u)):Szd u:=⟨h.1.2.2,h.2.elim (λ x=>.inl (Nat.le_trans (jc (t:=u) (u:=.bin op t u) λ c hc=>.inr hc) x)) λ x=>.inr (by have:t.wt+u.wt<=10:=x;omega)⟩
theorem Tr.onl {t:Tr} (h:t.Of zD):On t.lets t.form:=Tr.on (Tr.Of.sub h λ c hc=>t.mem_lets.mpr hc)
theorem qkK:∀ a,a<=9->∀ b,b<=9->a+b<=10->a * 2 ^ a+b * 2 ^ b<=8000:=by decide
theorem ql4:∀ a,a<=6->a * 2 ^ a<=384:=by decide
theorem Szd.flat {op:Nat} {t u:Tr} (h:Szd (.bin op t u)):t.form.flatten.length+u.form.flatten.length<=4000:=by
 have f1:=(Tr.onl h.1.2.1).flat2 t.lets_rise;have f2:=(Tr.onl h.1.2.2).flat2 u.lets_rise;have l1:=t.lets_len;have l2:=u.lets_len;rcases h.2 with x | x
 ·have a1:=ql4 t.lets.length (Nat.le_trans (jc (t:=t) (u:=.bin op t u) λ c hc=>.inl hc) x);have a2:=ql4 u.lets.length (Nat.le_trans (jc (t:=u) (u:=.bin op t u) λ c hc=>.inr hc) x);omega
 ·have hx:t.wt+u.wt<=10:=x;have p1:=t.wt_pos;have p2:=u.wt_pos
  have:=qkK t.lets.length (by omega) u.lets.length (by omega) (by omega)
  omega
theorem ql5:Ok9 zD:=⟨qh1,by decide⟩
def gA (t:Tr):Prop:=t=.one
def gN (t:Tr):Prop:=t=.zero
def gL (t:Tr):Prop:=∃ l,t=.letter l
def gO (t:Tr):Prop:=∃ u,t=.neg u
def gD (t:Tr):Prop:=∃ u v,t=.bin 38 u v
def gR (t:Tr):Prop:=∃ u v,t=.bin 124 u v
def gE (t:Tr):Prop:=∃ op u v,t=.bin op u v/\¬ op=38/\¬ op=124
def DT (Γ:St->Hp->Prop) (te:TE) (F:List Pr):Prop:=∀ σ H Q,Γ σ H->(∀ r H',qh H H'->H' r=some (.tup (F.map vS))->Q (.ref r) H')->te σ H Q
section
variable {Γ:St->Hp->Prop} {t1 t2:TE} {F G:List Pr} {g:List Pr->List Pr->List Pr} {g1:List Pr->List Pr}
theorem dT2 (st:Stb Γ) (h1:DT Γ t1 F) (h2:DT Γ t2 G) (oF:On zD F) (oG:On zD G) (hf:F.flatten.length+G.flatten.length<=4000):DT Γ (qck (sp2 K g) [] E0 (vO t1 (vO t2 yM))) (g F G):=λ σ H Q hΓ q =>
 h1 σ H _ hΓ λ r1 H1 g1 e1=>h2 σ H1 _ (st _ _ _ hΓ g1) λ r2 H2 g2 e2=>⟨r1,r2,F,G,zD,rfl,SqT.of (g2 _ _ e1),SqT.of e2,ql5,oF,oG,hf,λ r H' g e=>q r H' ((g1.trans g2).trans g) e⟩
theorem qnO (st:Stb Γ) (h1:DT Γ t1 F) (h2:DT Γ t2 G) (oF:On zD F) (oG:On zD G):DT Γ (qck (qgu K g) [] E0 (vO t1 (vO t2 yM))) (g F G):=λ σ H Q hΓ q =>
 h1 σ H _ hΓ λ r1 H1 g1 e1=>h2 σ H1 _ (st _ _ _ hΓ g1) λ r2 H2 g2 e2=>⟨r1,r2,F,G,zD,rfl,SqT.of (g2 _ _ e1),SqT.of e2,ql5,oF,oG,λ r H' g e=>q r H' ((g1.trans g2).trans g) e⟩
theorem dT1 (h1:DT Γ t1 F) (oF:On zD F):DT Γ (qck (sp1 K g1) [] E0 (vO t1 yM)) (g1 F):=λ σ H Q hΓ q =>
 h1 σ H _ hΓ λ r1 H1 g1 e1=>⟨r1,F,zD,rfl,SqT.of e1,ql5,oF,λ r H' g e=>q r H' (g1.trans g) e⟩
theorem qhd {D:Ends} {σ:St} {H:Hp} (h:DT Γ t1 F) (hΓ:Γ σ H) (k:∀ r H',qh H H'->H' r=some (.tup (F.map vS))->D.rt (.ref r) H'):qj1 t1 D σ H:=h σ H _ hΓ k
end
def ju (K:PySem.W.Frag) (c:CA) (n:Nat) (κ:Tr->Prop):Sp:=λ vs H Q _=>∃ (o:V) (t:Tr),vs=[o]/\qM c H t o/\t.ht<=n/\Szd t/\κ t/\∀ r H',qh H H'->H' r=some (.tup (t.form.map vS))->Q (.ref r) H'
abbrev tFm (K:PySem.W.Frag) (c:CA) (n:Nat) (te:TE):TE:=(λ σ H Q=>yN c.always "form" (ju K c n gA) [] E0 te yM σ H Q∨(λ σ H Q=>yN c.never "form" (ju K c n gN) [] E0 te yM σ H Q∨(λ σ H Q=>yN c.letter "form" (ju K c n gL) [] E0 te yM σ H Q∨(λ σ H Q=>yN c.not "form" (ju K c n gO) [] E0 te yM σ H Q∨(λ σ H Q=>yN c.and "form" (ju K c n gD) [] E0 te yM σ H Q∨(λ σ H Q=>yN c.or "form" (ju K c n gR) [] E0 te yM σ H Q∨yN c.either "form" (ju K c n gE) [] E0 te yM σ H Q) σ H Q) σ H Q) σ H Q) σ H Q) σ H Q)
theorem dfm {n:Nat} {c:CA} {σ0:St} {H0:Hp} {te:TE} {o:V} {t:Tr} (h1:Dv (At σ0 H0) te o) (ob:qM c H0 t o) (ht:t.ht<=n) (sz:Szd t) :
  DT (At σ0 H0) (tFm K c n te) t.form:=by
 intro σ H Q hΓ q;have go:∀ (κ:Tr->Prop) (C:Addr) (a dx:Addr) (fs:List (Str×V)),κ t->o=.ref a->H0 a=some (.ins C dx fs)->fs.lookup ("form":Str)=none->yN C "form" (ju K c n κ) [] E0 te yM σ H Q:=λ κ C a dx fs hκ eo ha hl =>
  h1 σ H _ hΓ λ H1 g1=>⟨a,dx,fs,eo,(hΓ.2.trans g1) _ _ ha,hl,o,t,rfl,ob.mono (hΓ.2.trans g1),ht,sz,hκ,λ r H' g e=>q r H' (g1.trans g) e⟩
 cases t with
 | one=>obtain ⟨a,dx,e,h⟩:=ob;exact .inl (go gA _ a dx _ rfl e h rfl)
 | zero=>obtain ⟨a,dx,e,h⟩:=ob;exact .inr (.inl (go gN _ a dx _ rfl e h rfl))
 | letter l=>obtain ⟨a,dx,e,h⟩:=ob;exact .inr (.inr (.inl (go gL _ a dx _ ⟨l,rfl⟩ e h rfl)))
 | neg u=>obtain ⟨a,dx,x,e,h,_⟩:=ob;exact .inr (.inr (.inr (.inl (go gO _ a dx _ ⟨u,rfl⟩ e h rfl))))
 | bin op u v =>
  obtain ⟨a,dx,x,y,e,h,_⟩:=ob;by_cases e38:op=38
  ·rw [CA.bin,if_pos e38] at h;exact .inr (.inr (.inr (.inr (.inl (go gD _ a dx _ ⟨u,v,by rw [e38]⟩ e h rfl)))))
  ·by_cases e124:op=124
   ·rw [CA.bin,if_neg e38,if_pos e124] at h;exact .inr (.inr (.inr (.inr (.inr (.inl (go gR _ a dx _ ⟨u,v,by rw [e124]⟩ e h rfl))))))
   ·rw [CA.bin,if_neg e38,if_neg e124] at h;exact .inr (.inr (.inr (.inr (.inr (.inr (go gE _ a dx _ ⟨op,u,v,rfl,e38,e124⟩ e h rfl))))))
structure FTxt (K:PySem.W.Frag) (c:CA) (fA fN fL fO fD fR fE:Addr):Prop where
 always:Meth K c.always "form" fA
 never:Meth K c.never "form" fN
 letter:Meth K c.letter "form" fL
 not:Meth K c.not "form" fO
 and:Meth K c.and "form" fD
 or:Meth K c.or "form" fR
 either:Meth K c.either "form" fE
structure FOk (P:Program) (w:World) (K:PySem.W.Frag) (mg:Str->Option Value) (base:Heap) (c:CA) (n:Nat) (fA fN fL fO fD fR fE:Addr) (dA dN dL dO dD dR dE:FuncData):Prop where
 always:FnOk P w K mg base CX0 (n+13) fA dA ["self"] (ju K c n gA)
 never:FnOk P w K mg base CX0 (n+13) fN dN ["self"] (ju K c n gN)
 letter:FnOk P w K mg base CX0 (n+13) fL dL ["self"] (ju K c n gL)
 not:FnOk P w K mg base CX0 (n+13) fO dO ["self"] (ju K c n gO)
 and:FnOk P w K mg base CX0 (n+13) fD dD ["self"] (ju K c n gD)
 or:FnOk P w K mg base CX0 (n+13) fR dR ["self"] (ju K c n gR)
 either:FnOk P w K mg base CX0 (n+13) fE dE ["self"] (ju K c n gE)
theorem qc6 {X:Cx} {c:CA} {n:Nat} {iL iN iP fA fN fL fO fD fR fE:Addr} {dA dN dL dO dD dR dE:FuncData} {o:Expr} {ta:TE} {apos pos:Pos} {pl:Sem Bool} (he:PE X o ta) (C:CTxt X.K c iL iN iP) (M:FTxt X.K c fA fN fL fO fD fR fE) (G:FOk X.prog X.w X.K X.mg X.base c n fA fN fL fO fD fR fE dA dN dL dO dD dR dE) (hr:Room (n+13) X.A) (bA:qf X.K dA ["self"] []) (bN:qf X.K dN ["self"] []) (bL:qf X.K dL ["self"] []) (bO:qf X.K dO ["self"] []) (bD:qf X.K dD ["self"] []) (bR:qf X.K dR ["self"] []) (bE:qf X.K dE ["self"] [])
  (ht:eval (.Call (.Attribute o "form" apos) [] [] pos) X.env=(do
   let ov <- eval o X.env
   standAt apos.atName
   let (f,first) <- holding [ov] (getMethod ov "form" pl)
   callWith pos f first (backTo pos (starEach [] X.env)) (backToKw pos (keywordEach [] X.env))):=by rfl):PE X (.Call (.Attribute o "form" apos) [] [] pos) (tFm X.K c n ta) :=
 PE.or (qD he C.always M.always G.always hr bA .nil qI ht) (PE.or (qD he C.never M.never G.never hr bN .nil qI ht) (PE.or (qD he C.letter M.letter G.letter hr bL .nil qI ht) (PE.or (qD he C.not M.not G.not hr bO .nil qI ht) (PE.or (qD he C.and M.and G.and hr bD .nil qI ht) (PE.or (qD he C.or M.or G.or hr bR .nil qI ht) (qD he C.either M.either G.either hr bE .nil qI ht))))))
structure FFn (P:Program) (w:World) (K:PySem.W.Frag) (mg:Str->Option Value) (base:Heap) (fa fm fj fo:Addr) (da dm dj dp:FuncData):Prop where
 Ga:FnOk P w K mg base CX0 1 fa da ["one","other"] (qgu K added)
 ba:qf K da ["one","other"] []
 ka:W.keepIn K (.ref fa)=true
 ma:mg "added"=some (.ref fa)
 Gm:FnOk P w K mg base CX0 12 fm dm ["one","other"] (sp2 K mult)
 bm:qf K dm ["one","other"] []
 km:W.keepIn K (.ref fm)=true
 mm:mg "multiplied"=some (.ref fm)
 Gj:FnOk P w K mg base CX0 13 fj dj ["one","other"] (sp2 K join)
 bj:qf K dj ["one","other"] []
 kj:W.keepIn K (.ref fj)=true
 mj:mg "joined"=some (.ref fj)
 Go:FnOk P w K mg base CX0 2 fo dp ["form"] (sp1 K opp)
 bo:qf K dp ["form"] []
 ko:W.keepIn K (.ref fo)=true
 mo:mg "opposite"=some (.ref fo)
theorem qgB:FnScope ["self"] ["self"] (qi zX):=scF
theorem qh4:FnScope ["self"] ["self"] (qi yx):=scF
theorem qgC:FnScope ["self"] ["self"] (qi ya):=scF
theorem qkL:FnScope ["self"] ["self"] (qi jo):=scF
theorem qkM:FnScope ["self"] ["self"] (qi jq):=scF
theorem ql6:FnScope ["self"] ["self"] (qi jY):=scF
theorem qgD:FnScope ["self"] ["self"] (qi yc):=scF
section
variable {c:CA} {iL iN iP fA fN fL fO fD fR fE fa fm fj fo:Addr} {dA dN dL dO dD dR dE da dm dj dp:FuncData} {n:Nat}
theorem qjy (F:Fun K "form" "Always.form" zX fA dA):FnOk P w K mg base CX0 (n+1+13) fA dA ["self"] (ju K c (n+1) gA):=by
 refine F.ok qgB (λ vs H Q E h=>?_) (λ cdv A outer s H vs Q E hr h=>?_)
 ·obtain ⟨o,t,rfl,_⟩:=h;rfl
 obtain ⟨o,t,rfl,ob,ht,sz,rfl,q⟩:=h;refine ⟨_,qd (qm (zl (qa qk qb))),?_⟩;exact ⟨qu (by show 1<=_;decide),λ p hp=>q p _ (qh.up hp) (by rw [qe,qkH];rfl)⟩
theorem qkN (F:Fun K "form" "Never.form" yx fN dN):FnOk P w K mg base CX0 (n+1+13) fN dN ["self"] (ju K c (n+1) gN):=by
 refine F.ok qh4 (λ vs H Q E h=>?_) (λ cdv A outer s H vs Q E hr h=>?_)
 ·obtain ⟨o,t,rfl,_⟩:=h;rfl
 obtain ⟨o,t,rfl,ob,ht,sz,rfl,q⟩:=h;refine ⟨_,qd (qm (zl qb)),?_⟩;exact ⟨Nat.zero_le _,λ p hp=>q p _ (qh.up hp) qe⟩
theorem qjz (C:CTxt K c iL iN iP) (F:Fun K "form" "Letter.form" ya fL dL):FnOk P w K mg base CX0 (n+1+13) fL dL ["self"] (ju K c (n+1) gL):=by
 refine F.ok qgC (λ vs H Q E h=>?_) (λ cdv A outer s H vs Q E hr h=>?_)
 ·obtain ⟨o,t,rfl,_⟩:=h;rfl
 obtain ⟨o,t,rfl,ob,ht,sz,⟨l,rfl⟩,q⟩:=h;refine ⟨_,qd (qm (zl (qa (zi (pv 0) rfl) qb))),?_⟩;obtain ⟨a,dx,rfl,h⟩:=ob;exact vI (K:=K) rfl h C.letter C.aLetter rfl _ _ _ at0 λ H1 g1=>⟨qu (by show 1<=_;decide),λ p hp=>q p _ (g1.to hp) qe⟩
theorem qmU (C:CTxt K c iL iN iP) (M:FTxt K c fA fN fL fO fD fR fE) (G:FOk P w K mg base c n fA fN fL fO fD fR fE dA dN dL dO dD dR dE) (N:FFn P w K mg base fa fm fj fo da dm dj dp) (bA:qf K dA ["self"] []) (bN:qf K dN ["self"] []) (bL:qf K dL ["self"] []) (bO:qf K dO ["self"] []) (bD:qf K dD ["self"] []) (bR:qf K dR ["self"] []) (bE:qf K dE ["self"] []) (F:Fun K "form" "Not.form" jo fO dO):FnOk P w K mg base CX0 (n+1+13) fO dO ["self"] (ju K c (n+1) gO):=by
 refine F.ok qkL (λ vs H Q E h=>?_) (λ cdv A outer s H vs Q E hr h=>?_)
 ·obtain ⟨o,t,rfl,_⟩:=h;rfl
 obtain ⟨o,t,rfl,ob,ht,sz,⟨u,rfl⟩,q⟩:=h;have hr13:Room (n+13) _:=hr.mono (by omega);have hr2:Room 2 _:=hr.mono (by omega);refine ⟨_,qd (qm (zj N.Go hr2 (by rfl) N.mo N.ko N.bo .nil qI (qa (qc6 (zi (pv 0) (by rfl)) C M G hr13 bA bN bL bO bD bR bE) qb))),?_⟩;obtain ⟨a,dx,x,rfl,h,ou⟩:=ob;exact qhd (dT1 (dfm (n:=n) (vI rfl h C.not C.aNot rfl) ou (Nat.le_of_succ_le_succ ht) sz.neg) (Tr.on (t:=u) sz.1)) at0 q
theorem qmV (C:CTxt K c iL iN iP) (M:FTxt K c fA fN fL fO fD fR fE) (G:FOk P w K mg base c n fA fN fL fO fD fR fE dA dN dL dO dD dR dE) (N:FFn P w K mg base fa fm fj fo da dm dj dp) (bA:qf K dA ["self"] []) (bN:qf K dN ["self"] []) (bL:qf K dL ["self"] []) (bO:qf K dO ["self"] []) (bD:qf K dD ["self"] []) (bR:qf K dR ["self"] []) (bE:qf K dE ["self"] []) (F:Fun K "form" "And.form" jq fD dD):FnOk P w K mg base CX0 (n+1+13) fD dD ["self"] (ju K c (n+1) gD):=by
 refine F.ok qkM (λ vs H Q E h=>?_) (λ cdv A outer s H vs Q E hr h=>?_)
 ·obtain ⟨o,t,rfl,_⟩:=h;rfl
 obtain ⟨o,t,rfl,ob,ht,sz,⟨u,v,rfl⟩,q⟩:=h;have hr13:Room (n+13) _:=hr.mono (by omega);have hrg:Room 12 _:=hr.mono (by omega);refine ⟨_,qd (qm (zj N.Gm hrg (by rfl) N.mm N.km N.bm .nil qI (qa (qc6 (zi (pv 0) (by rfl)) C M G hr13 bA bN bL bO bD bR bE) (qa (qc6 (zi (pv 0) (by rfl)) C M G hr13 bA bN bL bO bD bR bE) qb)))),?_⟩;obtain ⟨a,dx,x,y,rfl,h,ou,ov⟩:=ob;have hb:c.bin 38=c.and:=by rw [CA.bin,if_pos rfl]
 rw [hb] at h;obtain ⟨_,fu,fv⟩:=sz.1;have hm:max u.ht v.ht<=n:=Nat.le_of_succ_le_succ ht;rw [Tr.form,if_pos rfl] at q;exact qhd (dT2 qA (dfm (n:=n) (vI rfl h C.and C.aAnd.1 rfl) ou (by omega) sz.l) (dfm (n:=n) (vI rfl h C.and C.aAnd.2 rfl) ov (by omega) sz.r) (Tr.on (t:=u) fu) (Tr.on (t:=v) fv) sz.flat) at0 q
theorem qnP (C:CTxt K c iL iN iP) (M:FTxt K c fA fN fL fO fD fR fE) (G:FOk P w K mg base c n fA fN fL fO fD fR fE dA dN dL dO dD dR dE) (N:FFn P w K mg base fa fm fj fo da dm dj dp) (bA:qf K dA ["self"] []) (bN:qf K dN ["self"] []) (bL:qf K dL ["self"] []) (bO:qf K dO ["self"] []) (bD:qf K dD ["self"] []) (bR:qf K dR ["self"] []) (bE:qf K dE ["self"] []) (F:Fun K "form" "Or.form" jY fR dR):FnOk P w K mg base CX0 (n+1+13) fR dR ["self"] (ju K c (n+1) gR):=by
 refine F.ok ql6 (λ vs H Q E h=>?_) (λ cdv A outer s H vs Q E hr h=>?_)
 ·obtain ⟨o,t,rfl,_⟩:=h;rfl
 obtain ⟨o,t,rfl,ob,ht,sz,⟨u,v,rfl⟩,q⟩:=h;have hr13:Room (n+13) _:=hr.mono (by omega);have hrg:Room 13 _:=hr.mono (by omega);refine ⟨_,qd (qm (zj N.Gj hrg (by rfl) N.mj N.kj N.bj .nil qI (qa (qc6 (zi (pv 0) (by rfl)) C M G hr13 bA bN bL bO bD bR bE) (qa (qc6 (zi (pv 0) (by rfl)) C M G hr13 bA bN bL bO bD bR bE) qb)))),?_⟩;obtain ⟨a,dx,x,y,rfl,h,ou,ov⟩:=ob;have hb:c.bin 124=c.or:=by rw [CA.bin,if_neg (by decide),if_pos rfl]
 rw [hb] at h;obtain ⟨_,fu,fv⟩:=sz.1;have hm:max u.ht v.ht<=n:=Nat.le_of_succ_le_succ ht;rw [Tr.form,if_neg (by decide),if_pos rfl] at q;exact qhd (dT2 qA (dfm (n:=n) (vI rfl h C.or C.aOr.1 rfl) ou (by omega) sz.l) (dfm (n:=n) (vI rfl h C.or C.aOr.2 rfl) ov (by omega) sz.r) (Tr.on (t:=u) fu) (Tr.on (t:=v) fv) sz.flat) at0 q
theorem qjA (C:CTxt K c iL iN iP) (M:FTxt K c fA fN fL fO fD fR fE) (G:FOk P w K mg base c n fA fN fL fO fD fR fE dA dN dL dO dD dR dE) (N:FFn P w K mg base fa fm fj fo da dm dj dp) (bA:qf K dA ["self"] []) (bN:qf K dN ["self"] []) (bL:qf K dL ["self"] []) (bO:qf K dO ["self"] []) (bD:qf K dD ["self"] []) (bR:qf K dR ["self"] []) (bE:qf K dE ["self"] []) (F:Fun K "form" "Either.form" yc fE dE):FnOk P w K mg base CX0 (n+1+13) fE dE ["self"] (ju K c (n+1) gE):=by
 refine F.ok qgD (λ vs H Q E h=>?_) (λ cdv A outer s H vs Q E hr h=>?_)
 ·obtain ⟨o,t,rfl,_⟩:=h;rfl
 obtain ⟨o,t,rfl,ob,ht,sz,⟨op,u,v,rfl,n38,n124⟩,q⟩:=h;have hr13:Room (n+13) _:=hr.mono (by omega);have hrg:Room 1 _:=hr.mono (by omega);refine ⟨_,qd (qm (zj N.Ga hrg (by rfl) N.ma N.ka N.ba .nil qI (qa (qc6 (zi (pv 0) (by rfl)) C M G hr13 bA bN bL bO bD bR bE) (qa (qc6 (zi (pv 0) (by rfl)) C M G hr13 bA bN bL bO bD bR bE) qb)))),?_⟩;obtain ⟨a,dx,x,y,rfl,h,ou,ov⟩:=ob;have hb:c.bin op=c.either:=by rw [CA.bin,if_neg n38,if_neg n124]
 rw [hb] at h;obtain ⟨_,fu,fv⟩:=sz.1;have hm:max u.ht v.ht<=n:=Nat.le_of_succ_le_succ ht;rw [Tr.form,if_neg n38,if_neg n124] at q;exact qhd (qnO qA (dfm (n:=n) (vI rfl h C.either C.aEither.1 rfl) ou (by omega) sz.l) (dfm (n:=n) (vI rfl h C.either C.aEither.2 rfl) ov (by omega) sz.r) (Tr.on (t:=u) fu) (Tr.on (t:=v) fv)) at0 q
theorem qaT {κ:Tr->Prop} {f:Addr} {fd:FuncData}:FnOk P w K mg base CX0 (0+13) f fd ["self"] (ju K c 0 κ) :=
 ⟨λ vs H Q E h=>by obtain ⟨_,t,_,_,h,_⟩:=h;have:=t.ht1;omega,λ A outer s H args us vs Q E _ _ _ _ h=>by obtain ⟨_,t,_,_,h,_⟩:=h;have:=t.ht1;omega⟩
theorem qjB (C:CTxt K c iL iN iP) (M:FTxt K c fA fN fL fO fD fR fE) (N:FFn P w K mg base fa fm fj fo da dm dj dp) (bA:qf K dA ["self"] []) (bN:qf K dN ["self"] []) (bL:qf K dL ["self"] []) (bO:qf K dO ["self"] []) (bD:qf K dD ["self"] []) (bR:qf K dR ["self"] []) (bE:qf K dE ["self"] [])
  (FA:Fun K "form" "Always.form" zX fA dA) (FN:Fun K "form" "Never.form" yx fN dN) (FL:Fun K "form" "Letter.form" ya fL dL) (FO:Fun K "form" "Not.form" jo fO dO) (FD:Fun K "form" "And.form" jq fD dD) (FR:Fun K "form" "Or.form" jY fR dR) (FE:Fun K "form" "Either.form" yc fE dE) :
  ∀ n,FOk P w K mg base c n fA fN fL fO fD fR fE dA dN dL dO dD dR dE
 | 0=>⟨qaT,qaT,qaT,qaT,qaT,qaT,qaT⟩
 | n+1 =>
  have G:=qjB C M N bA bN bL bO bD bR bE FA FN FL FO FD FR FE n
  ⟨qjy FA,qkN FN,qjz C FL,qmU C M G N bA bN bL bO bD bR bE FO,qmV C M G N bA bN bL bO bD bR bE FD,qnP C M G N bA bN bL bO bD bR bE FR,qjA C M G N bA bN bL bO bD bR bE FE⟩
end
end
section
variable {P:Program} {w:World} {K:PySem.W.Frag} {mg:Str->Option Value} {base:Heap}
abbrev Fr:=Nat×Option Tr
abbrev PSt:=List Fr×Option Tr
def wn:List Fr->Tr->List Fr×Tr
 | [],t=>([],t)
 | fr::fs,t=>if fr.1=126 then wn fs (.neg t) else (fr::fs,t)
def yT (s:PSt):List Nat:=match s.2 with
 | none=>[48,49]++zD++[126,40]
 | some _=>match s.1 with
  | []=>[]
  | fr::_=>if fr.1=40 then [38,124,43] else [41]
def jv (c:Nat):Tr:=if c=49 then .one else if c=48 then .zero else .letter c
def stp (s:PSt) (c:Nat):PSt :=
 if c∈[126,40] then ((c,none)::s.1,none)
 else if c∈[38,124,43] then (match s.1 with
  | []=>s
  | _::fs=>((c,s.2)::fs,none))
 else if c=41 then (match s.1,s.2 with
  | (op,some l)::fs,some r=>((wn fs (.bin op l r)).1,some (wn fs (.bin op l r)).2)
  | _,_=>s)
 else ((wn s.1 (jv c)).1,some (wn s.1 (jv c)).2)
def run:PSt->List Nat->Option PSt
 | s,[]=>some s
 | s,c::l=>if c∈yT s then run (stp s c) l else none
theorem qeA:∀ (l1 l2:List Nat) (s:PSt),run s (l1++l2)=(run s l1).bind λ s'=>run s' l2
 | [],_,_=>rfl
 | c::l1,l2,s=>by
  rw [List.cons_append,run,run];split
  ·exact qeA l1 l2 _
  ·rfl
theorem qc7:∀ c∈zD,c∈[48,49]++zD++[126,40]/\c ∉ [126,40]/\c ∉ [38,124,43]/\¬ c=41/\¬ c=49/\¬ c=48:=by decide
theorem qfJ {c:Nat} (h:c∈zD):jv c=.letter c:=by
 obtain ⟨_,_,_,_,h1,h2⟩:=qc7 c h;rw [jv,if_neg h1,if_neg h2]
theorem qaU {c:Nat} {fs:List Fr} {rest:List Nat} (h1:c∈[48,49]++zD++[126,40]) (h2:c ∉ [126,40]) (h3:c ∉ [38,124,43]) (h4:¬ c=41):run (fs,none) (c::rest)=run ((wn fs (jv c)).1,some (wn fs (jv c)).2) rest:=by
 rw [run,if_pos (show c∈yT (fs,none) from h1),stp,if_neg h2,if_neg h3,if_neg h4]
theorem qhe {fr:Fr} {fs:List Fr} {t:Tr} (h:¬ fr.1=126):wn (fr::fs) t=(fr::fs,t):=if_neg h
theorem qbn:∀ (t:Tr) (fs:List Fr) (rest:List Nat),t.Of zD->run (fs,none) (t.text++rest)=run ((wn fs t).1,some (wn fs t).2) rest
 | .letter c,fs,rest,h=>by
  obtain ⟨h1,h2,h3,h4,_,_⟩:=qc7 c h;show run (fs,none) (c::rest)=_
  rw [qaU h1 h2 h3 h4,qfJ h]
 | .one,fs,rest,_=>by
  show run (fs,none) (49::rest)=_
  rw [qaU (by decide) (by decide) (by decide) (by decide)];rfl
 | .zero,fs,rest,_=>by
  show run (fs,none) (48::rest)=_
  rw [qaU (by decide) (by decide) (by decide) (by decide)];rfl
 | .neg t,fs,rest,h=>by
  show run (fs,none) (126::(t.text++rest))=_
  rw [run,if_pos (show 126∈yT (fs,none) from (by decide:126∈[48,49]++zD++[126,40])),stp,if_pos (by decide),qbn t _ _ h];rfl
 | .bin op t u,fs,rest,h=>by
  obtain ⟨hop,ht,hu⟩:=h;have e:(Tr.bin op t u).text++rest=40::(t.text++(op::(u.text++(41::rest)))):=by simp [Tr.text]
  have no:op ∉ [126,40]/\op∈[38,124,43]/\¬ op=126/\¬ op=40:=by rcases hop with rfl | rfl | rfl <;> decide
  rw [e,run,if_pos (show 40∈yT (fs,none) from (by decide:40∈[48,49]++zD++[126,40])),stp,if_pos (by decide),qbn t _ _ ht,qhe (show ¬ ((40,none):Fr).1=126 from by decide)];rw [run,if_pos (show op∈yT ((40,none)::fs,some t) from no.2.1),stp,if_neg no.1,if_pos no.2.1];show run ((op,some t)::fs,none) (u.text++(41::rest))=_
  rw [qbn u _ _ hu,qhe (show ¬ ((op,some t):Fr).1=126 from no.2.2.1)];rw [run,if_pos (show 41∈yT ((op,some t)::fs,some u) from by show 41∈(if op=40 then [38,124,43] else [41]);rw [if_neg no.2.2.2];decide),stp,if_neg (by decide),if_neg (by decide),if_pos rfl]
theorem qh5 {t:Tr} (h:t.Of zD):run ([],none) t.text=some ([],some t):=by
 have:=qbn t [] [] h
 rw [List.append_nil] at this;rw [this];rfl
def Fok (fr:Fr):Prop:=(fr.2=none/\(fr.1=126∨fr.1=40))∨(∃ l,fr.2=some l/\(fr.1=38∨fr.1=124∨fr.1=43))
structure Wfs (s:PSt):Prop where
 all:∀ fr∈s.1,Fok fr
 top:∀ r fr fs,s.2=some r->s.1=fr::fs->¬ fr.1=126
theorem qjC:∀ {fs:List Fr} {t:Tr} {fr:Fr},fr∈(wn fs t).1->fr∈fs
 | [],_,_,h=>h
 | f::fs,t,fr,h=>by
  unfold wn at h;split at h
  ·exact Xn _ (qjC h)
  ·exact h
theorem qjD:∀ {fs:List Fr} {t:Tr} {fr:Fr} {gs:List Fr},(wn fs t).1=fr::gs->¬ fr.1=126
 | [],_,_,_,h=>by cases h
 | f::fs,t,fr,gs,h=>by
  unfold wn at h;split at h
  ·exact qjD h
  ·rename_i hn;cases h
   exact hn
theorem qjE {fs:List Fr} {t:Tr} (h:∀ fr∈fs,Fok fr):Wfs ((wn fs t).1,some (wn fs t).2):=⟨λ fr hf=>h fr (qjC hf),λ _ _ _ _ e=>qjD e⟩
theorem Wfs.step {s:PSt} {c:Nat} (h:Wfs s) (hl:c∈yT s):Wfs (stp s c):=by
 unfold stp;split
 ·rename_i hc;have hc:c=126∨c=40:=by simpa using hc
  refine ⟨λ fr hf=>?_,λ r fr fs e=>by cases e⟩;rcases List.mem_cons.mp hf with e | hf
  ·subst e;exact .inl ⟨rfl,hc⟩
  ·exact h.all fr hf
 ·split
  ·rename_i hc;have hc':c=38∨c=124∨c=43:=by simpa using hc
   obtain ⟨fs,e⟩:=s;cases fs with
   | nil=>exact h
   | cons f fs =>
    cases e with
    | none=>exact absurd hl (by show ¬ c∈[48,49]++zD++[126,40];rcases hc' with rfl | rfl | rfl <;> decide)
    | some r =>
     refine ⟨λ fr hf=>?_,λ r fr fs e=>by cases e⟩;rcases List.mem_cons.mp hf with e | hf
     ·subst e;exact .inr ⟨r,rfl,hc'⟩
     ·exact h.all fr (Xn _ hf)
  ·split
   ·obtain ⟨fs,e⟩:=s;split
    ·rename_i op l fs' r h1 h2;cases h1
     exact qjE λ fr hf=>h.all fr (Xn _ hf)
    ·exact h
   ·exact qjE h.all
theorem qnQ:Wfs ([],none):=⟨λ _ h=>(by cases h),λ _ _ _ e=>by cases e⟩
theorem qhf:∀ {l:List Nat} {s s':PSt},Wfs s->run s l=some s'->Wfs s'
 | [],_,_,h,e=>by cases e;exact h
 | c::l,s,s',h,e=>by
  rw [run] at e;split at e
  ·rename_i hl;exact qhf (h.step hl) e
  ·cases e
theorem ql7 {L:List Nat} {fin:PSt} (h:run ([],none) L=some fin) {i:Nat} (hi:i < L.length) {s:PSt} (hs:run ([],none) (L.take i)=some s):L[i]∈yT s/\run ([],none) (L.take (i+1))=some (stp s L[i]):=by
 have e:L=L.take i++(L[i]::L.drop (i+1)):=by rw [<- List.drop_eq_getElem_cons hi,List.take_append_drop]
 have h2:run s (L[i]::L.drop (i+1))=some fin:=by
  rw [e,qeA,hs] at h;exact h
 rw [run] at h2;have hl:L[i]∈yT s:=by
  by_cases hl:L[i]∈yT s
  ·exact hl
  ·rw [if_neg hl] at h2;cases h2
 refine ⟨hl,?_⟩;rw [List.take_succ_eq_append_getElem hi,qeA,hs];show run s [L[i]]=_
 rw [run,if_pos hl];rfl
theorem qh6 {s:PSt} (h:Wfs s) (hl:41∈yT s):∃ op l fs r,s=((op,some l)::fs,some r)/\(op=38∨op=124∨op=43):=by
 obtain ⟨fs,e⟩:=s;cases e with
 | none=>exact absurd hl (by show ¬ 41∈[48,49]++zD++[126,40];decide)
 | some r =>
  cases fs with
  | nil=>exact absurd hl (by simp [yT])
  | cons f fs =>
   obtain ⟨op,o⟩:=f;have h1:=h.all (op,o) (Xp ..);have h2:=h.top r (op,o) fs rfl rfl;have h3:¬ op=40:=λ e=>by subst e;exact absurd hl (by show ¬ 41∈(if (40:Nat)=40 then [38,124,43] else [41]);decide)
   rcases h1 with ⟨_,h1 | h1⟩ | ⟨l,h1,h4⟩
   ·exact absurd h1 h2
   ·exact absurd h1 h3
   ·exact ⟨op,l,fs,r,by rw [show o=some l from h1],h4⟩
theorem qfK {s:PSt} {c:Nat} (hc:c∈[38,124,43]) (hl:c∈yT s):∃ fr fs r,s=(fr::fs,some r):=by
 have hc':c=38∨c=124∨c=43:=by simpa using hc
 obtain ⟨fs,e⟩:=s;cases e with
 | none=>exact absurd hl (by show ¬ c∈[48,49]++zD++[126,40];rcases hc' with rfl | rfl | rfl <;> decide)
 | some r =>
  cases fs with
  | nil=>exact absurd hl (by simp [yT])
  | cons f fs=>exact ⟨f,fs,r,rfl⟩
theorem qgE:∀ (fs:List Fr) (t:Tr),(wn fs t).1.length<=fs.length
 | [],_=>Xe _
 | f::fs,t=>by
  unfold wn;split
  ·exact Nat.le_succ_of_le (qgE fs _)
  ·exact Xe _
theorem qkO (s:PSt) (c:Nat):(stp s c).1.length<=s.1.length+1:=by
 unfold stp;split
 ·exact Xe _
 ·split
  ·obtain ⟨fs,e⟩:=s;cases fs with
   | nil=>exact Nat.le_succ _
   | cons f fs=>exact Nat.le_succ _
  ·split
   ·obtain ⟨fs,e⟩:=s;split
    ·rename_i op l fs' r h1 h2;cases h1
     exact Nat.le_succ_of_le (Nat.le_succ_of_le (qgE _ _))
    ·exact Nat.le_succ _
   ·exact Nat.le_succ_of_le (qgE _ _)
end
section
variable {P:Program} {w:World} {K:PySem.W.Frag} {mg:Str->Option Value} {base:Heap}
def zH (H H':Hp):Prop:=∀ b o,H b=some o->(∀ xs,o≠.lst xs)->H' b=some o
theorem qae {H H':Hp} (g:qh H H'):zH H H':=λ _ _ e _=>g _ _ e
theorem zH.trans {H H1 H2:Hp} (a:zH H H1) (b:zH H1 H2):zH H H2:=λ _ _ e n=>b _ _ (a _ _ e n) n
theorem zH.updL {H:Hp} {l:Addr} {xs:List V} {o:HO} (h:H l=some (.lst xs)):zH H (upd H l o):=λ b p e n=>by
 have:b≠l:=λ q=>by rw [q,h] at e;cases e;exact n xs rfl
 rw [qx this];exact e
def But (a:Addr) (H H':Hp):Prop:=∀ b o,b≠a->H b=some o->H' b=some o
theorem But.refl (a:Addr) (H:Hp):But a H H:=λ _ _ _ e=>e
theorem But.trans {a:Addr} {H H1 H2:Hp} (h:But a H H1) (g:But a H1 H2):But a H H2:=λ _ _ n e=>g _ _ n (h _ _ n e)
theorem zI {a:Addr} {H H':Hp} (g:qh H H'):But a H H':=λ _ _ _ e=>g _ _ e
theorem But.upd {a:Addr} {H H':Hp} {o:HO} (g:But a H H'):But a H (upd H' a o):=λ b p n e=>by rw [qx n];exact g _ _ n e
theorem But.same {a:Addr} {H0 H H':Hp} (g:But a H H') (g0:qh H0 H) (f:H0 a=none):qh H0 H':=λ b o e=>g b o (λ q=>by rw [q,f] at e;cases e) (g0 _ _ e)
theorem qM.monoX {c:CA} {H H':Hp} (g:zH H H'):∀ {t:Tr} {v:V},qM c H t v->qM c H' t v
 | .letter _,_,⟨a,dx,e,h⟩=>⟨a,dx,e,g _ _ h (λ _ z=>nomatch z)⟩
 | .one,_,⟨a,dx,e,h⟩=>⟨a,dx,e,g _ _ h (λ _ z=>nomatch z)⟩
 | .zero,_,⟨a,dx,e,h⟩=>⟨a,dx,e,g _ _ h (λ _ z=>nomatch z)⟩
 | .neg t,_,⟨a,dx,x,e,h,r⟩=>⟨a,dx,x,e,g _ _ h (λ _ z=>nomatch z),qM.monoX g r⟩
 | .bin op t u,_,⟨a,dx,x,y,e,h,r,r'⟩=>⟨a,dx,x,y,e,g _ _ h (λ _ z=>nomatch z),qM.monoX g r,qM.monoX g r'⟩
def qaE (c:CA) (H:Hp):Option Tr->V->Prop
 | none,v=>v=.non
 | some t,v=>qM c H t v
theorem qaE.monoX {c:CA} {H H':Hp} (g:zH H H'):∀ {e:Option Tr} {v:V},qaE c H e v->qaE c H' e v
 | none,_,h=>h
 | some _,_,h=>qM.monoX g h
theorem qM.ref {c:CA} {H:Hp} {t:Tr} {v:V} (h:qM c H t v):∃ a,v=.ref a:=by
 cases t with
 | letter l=>obtain ⟨a,_,e,_⟩:=h;exact ⟨a,e⟩
 | one=>obtain ⟨a,_,e,_⟩:=h;exact ⟨a,e⟩
 | zero=>obtain ⟨a,_,e,_⟩:=h;exact ⟨a,e⟩
 | neg u=>obtain ⟨a,_,_,e,_⟩:=h;exact ⟨a,e⟩
 | bin op u w=>obtain ⟨a,_,_,_,e,_⟩:=h;exact ⟨a,e⟩
theorem qaE.non {c:CA} {H:Hp} {e:Option Tr} {v:V} (h:qaE c H e v):decide (v=.non)=e.isNone:=by
 cases e with
 | none=>rw [show v=.non from h];rfl
 | some t=>obtain ⟨a,rfl⟩:=qM.ref h;rfl
def qjF (c:CA) (H:Hp) (fr:Fr) (x:V):Prop:=∃ a v,x=.ref a/\H a=some (.tup [vS [fr.1],v])/\qaE c H fr.2 v
theorem qjF.monoX {c:CA} {H H':Hp} {fr:Fr} {x:V} (h:qjF c H fr x) (g:zH H H'):qjF c H' fr x:=let ⟨a,v,e,h,k⟩:=h;⟨a,v,e,g _ _ h (λ _ z=>nomatch z),k.monoX g⟩
inductive FrmI (c:CA) (H:Hp):List V->List Fr->Prop where
 | nil:FrmI c H [] []
 | snoc {ws:List V} {fs:List Fr} {x:V} {fr:Fr} (h:FrmI c H ws fs) (k:qjF c H fr x):FrmI c H (ws++[x]) (fr::fs)
theorem FrmI.monoX {c:CA} {H H':Hp} {vs:List V} {fs:List Fr} (h:FrmI c H vs fs) (g:zH H H'):FrmI c H' vs fs:=by
 induction h with
 | nil=>exact .nil
 | snoc h k ih=>exact ih.snoc (k.monoX g)
theorem FrmI.len {c:CA} {H:Hp} {vs:List V} {fs:List Fr} (h:FrmI c H vs fs):vs.length=fs.length:=by
 induction h with
 | nil=>rfl
 | snoc h k ih=>rw [Xd,Xj,Xt,ih]
theorem FrmI.top {c:CA} {H:Hp} {vs:List V} {fr:Fr} {fs:List Fr} (h:FrmI c H vs (fr::fs)):∃ ws x,vs=ws++[x]/\FrmI c H ws fs/\qjF c H fr x:=by
 cases h with
 | snoc h k=>exact ⟨_,_,rfl,h,k⟩
theorem FrmI.empty {c:CA} {H:Hp} {vs:List V} (h:FrmI c H vs []):vs=[]:=by
 have:=h.len
 exact List.length_eq_zero_iff.mp this
theorem qnR {c A B:Prop} [Decidable c] (hc:¬ c) (h:B):if c then A else B:=by rw [if_neg hc];exact h
theorem ifT {c A B:Prop} [Decidable c] (hc:c) (h:A):if c then A else B:=by rw [if_pos hc];exact h
def qmW (c:CA):Sp:=λ vs H Q _=>∃ s:Nat,vs=[vS [s]]/\∀ o H',qh H H'->qM c H' (jv s) o->Q o H'
def qmX (c:CA):Sp:=λ vs H Q _=>∃ (op:Nat) (x y:V) (t u:Tr),vs=[vS [op],x,y]/\(op=38∨op=124∨op=43)/\qM c H t x/\qM c H u y/\∀ o H',qh H H'->qM c H' (.bin op t u) o->Q o H'
theorem qmY:FnScope ["sign"] ["sign"] (qi jI):=scF
theorem qmZ:FnScope ["sign","one","other"] ["sign","one","other"] (qi qan):=scF
theorem qlf:FnScope ["opened","saying"] ["opened","saying"] (qi jH):=scF
theorem qm0:FnScope ["opened","ended"] ["opened","ended"] (qi yy):=scF
theorem qlg:FnScope ["opened","ended","sign","waiting"] ["opened","ended","sign"] (qi qb8):=scF
theorem qdO:FnScope ["text","opened","ended","place","sign"] ["text"] (qi qet):=scF
section
variable {c:CA} {iL iN iP f:Addr} {fdL fdN fdP fd:FuncData}
theorem qm1 (F:Fun K "single_of" "single_of" jI f fd) (C:CTxt K c iL iN iP) (mA:mg "Always"=some (.ref c.always)) (mN:mg "Never"=some (.ref c.never)) (mL:mg "Letter"=some (.ref c.letter))
  (GL:FnOk P w K mg base CX0 1 iL fdL ["self","letter"] (qar K "letter")) (bL:qf K fdL ["self","letter"] []):FnOk P w K mg base CX0 3 f fd ["sign"] (qmW c):=by
 refine F.ok qmY (λ vs H Q E h=>?_) (λ cdv A outer s H vs Q E hr h=>?_)
 ·obtain ⟨z,rfl,_⟩:=h;rfl
 obtain ⟨z,rfl,q⟩:=h;have hr2:Room 2 _:=hr.mono (by decide);refine ⟨_,(qc (qW (qp zv (pv 0) qk (qB _)) (qd (qm (qff C.mAlways (by rfl) mA))) qy)
  (qc (qW (qp zv (pv 0) qk (qB _)) (qd (qm (qff C.mNever (by rfl) mN))) qy)
  (qd (qm (qaf C.mLetter GL hr2 (by rfl) mL bL .nil qI (qa (pv 0) qb)))))),?_⟩
 rw [qjk,qgv];refine yA (zq (jS qA (dvA rfl) dC)) at0 (λ hb H1 g1=>?_) (λ hb H1 g1=>?_)
 ·have e:z=49:=by simpa using of_decide_eq_true hb
  exact λ x dx hx hdx ne=>q _ _ ((g1.at (g1.free hdx)).at (g1.free hx)) (by rw [jv,if_pos e];exact ⟨x,dx,rfl,qe⟩)
 have n1:¬ z=49:=λ e=>by simpa [e] using of_decide_eq_false hb
 refine yA (zq (jS qA (dvA rfl) dC)) at0 (λ hb H2 g2=>?_) (λ hb H2 g2=>?_)
 ·have e:z=48:=by simpa using of_decide_eq_true hb
  have g:=g1.trans g2;exact λ x dx hx hdx ne=>q _ _ ((g.at (g.free hdx)).at (g.free hx)) (by rw [jv,if_neg n1,if_pos e];exact ⟨x,dx,rfl,qe⟩)
 have n0:¬ z=48:=λ e=>by simpa [e] using of_decide_eq_false hb
 have g:=g1.trans g2;refine ⟨_,rfl,λ x dx hx hdx ne=>⟨c.letter,x,dx,_,rfl,qe,C.letter,C.aLetter,rfl,?_⟩⟩;exact q _ _ (((g.at (g.free hdx)).at (g.free hx)).at (g.free hx)) (by rw [jv,if_neg n1,if_neg n0];exact ⟨x,dx,rfl,qe⟩)
theorem qm2 (F:Fun K "pair_of" "pair_of" qan f fd) (C:CTxt K c iL iN iP) (mD:mg "And"=some (.ref c.and)) (mR:mg "Or"=some (.ref c.or)) (mE:mg "Either"=some (.ref c.either))
  (GP:FnOk P w K mg base CX0 1 iP fdP ["self","one","other"] (qex K "one" "other")) (bP:qf K fdP ["self","one","other"] []):FnOk P w K mg base CX0 3 f fd ["sign","one","other"] (qmX c):=by
 refine F.ok qmZ (λ vs H Q E h=>?_) (λ cdv A outer s H vs Q E hr h=>?_)
 ·obtain ⟨op,x,y,t,u,rfl,_⟩:=h;rfl
 obtain ⟨op,o,p,t,u,rfl,hop,ob,pb,q⟩:=h;have hr2:Room 2 _:=hr.mono (by decide);refine ⟨_,(qc (qW (qp zv (pv 0) qk (qB _)) (qd (qm (qaf C.mAnd GP hr2 (by rfl) mD bP .nil qI (qa (pv 1) (qa (pv 2) qb))))) qy)
  (qc (qW (qp zv (pv 0) qk (qB _)) (qd (qm (qaf C.mOr GP hr2 (by rfl) mR bP .nil qI (qa (pv 1) (qa (pv 2) qb))))) qy)
  (qd (qm (qaf C.mEither GP hr2 (by rfl) mE bP .nil qI (qa (pv 1) (qa (pv 2) qb))))))),?_⟩
 rw [qjl,qjm];have fin:∀ (Cl x dx:Addr) (H7:Hp),qh H H7->Cl=c.bin op->H7 x=none->H7 dx=none->Q (.ref x) (upd (upd (upd (upd H7 dx (.own x)) x (.ins Cl dx [])) x (.ins Cl dx [("one",o)])) x (.ins Cl dx [("one",o),("other",p)])):=λ Cl x dx H7 g7 e hx hdx=>by
  subst e;have k:=(((g7.at (g7.free hdx) (o:=.own x)).at (g7.free hx) (o:=.ins (c.bin op) dx [])).at (g7.free hx) (o:=.ins (c.bin op) dx [("one",o)])).at (g7.free hx) (o:=.ins (c.bin op) dx [("one",o),("other",p)]);exact q _ _ k ⟨x,dx,o,p,rfl,qe,ob.mono k,pb.mono k⟩
 refine yA (zq (jS qA (dvA rfl) dC)) at0 (λ hb H7 g7=>?_) (λ hb H7 g7=>?_)
 ·have e:op=38:=by simpa using of_decide_eq_true hb
  refine ⟨_,rfl,_,rfl,λ x dx hx hdx ne=>⟨c.and,x,dx,_,_,rfl,qe,C.and,C.aAnd.1,C.aAnd.2,rfl,?_⟩⟩;exact fin c.and x dx H7 g7 (by rw [CA.bin,if_pos e]) hx hdx
 have n38:¬ op=38:=λ e=>by simpa [e] using of_decide_eq_false hb
 refine yA (zq (jS qA (dvA rfl) dC)) at0 (λ hb H8 g8=>?_) (λ hb H8 g8=>?_)
 ·have e:op=124:=by simpa using of_decide_eq_true hb
  refine ⟨_,rfl,_,rfl,λ x dx hx hdx ne=>⟨c.or,x,dx,_,_,rfl,qe,C.or,C.aOr.1,C.aOr.2,rfl,?_⟩⟩;exact fin c.or x dx H8 (g7.trans g8) (by rw [CA.bin,if_neg n38,if_pos e]) hx hdx
 have n124:¬ op=124:=λ e=>by simpa [e] using of_decide_eq_false hb
 refine ⟨_,rfl,_,rfl,λ x dx hx hdx ne=>⟨c.either,x,dx,_,_,rfl,qe,C.either,C.aEither.1,C.aEither.2,rfl,?_⟩⟩;exact fin c.either x dx H8 (g7.trans g8) (by rw [CA.bin,if_neg n38,if_neg n124]) hx hdx
def qm3 (c:CA):Sp:=λ vs H Q _=>∃ (ao:Addr) (v:V) (ws:List V) (fs:List Fr) (t:Tr),vs=[.ref ao,v]/\H ao=some (.lst ws)/\FrmI c H ws fs/\qM c H t v/\∀ v' ws' H',But ao H H'->H' ao=some (.lst ws')->FrmI c H' ws' (wn fs t).1->qM c H' (wn fs t).2 v'->Q v' H'
theorem qm4 (F:Fun K "with_nots" "with_nots" jH f fd) (T:Txt mg) (C:CTxt K c iL iN iP) (mO:mg "Not"=some (.ref c.not))
  (GN:FnOk P w K mg base CX0 1 iN fdN ["self","one"] (qar K "one")) (bN:qf K fdN ["self","one"] []):FnOk P w K mg base CX0 3 f fd ["opened","saying"] (qm3 c):=by
 refine F.ok qlf (λ vs H Q E h=>?_) (λ cdv A outer s H vs Q E hr h=>?_)
 ·obtain ⟨ao,v,ws,fs,t,rfl,_⟩:=h;rfl
 obtain ⟨ao,v,ws,fs,t,rfl,ho,fm,ob,q⟩:=h;have hr2:Room 2 _:=hr.mono (by decide);refine ⟨_,(qc (qeQ PassesOwn.never (PW.pt (qdU (qp qaX (qz qH (by rfl) T.len PySem.boot_len (qa (pv 0) qb)) qg (qB _)) (qbX (qp zv (qU za (qU zp (pv 0) (qaW j7 qg) (λ _ _=>rfl)) qg (λ _ _=>rfl)) qk (qB _))))) (qc (yo (qcr PySem.F.plainAttrs_list PySem.F.slot_list_pop PySem.F.type_list_pop qd6 (pv 0)))
  (qd (qv (i:=1) qlf.nd rfl (Or.inl rfl) (qaf C.mNot GN hr2 (by rfl) mO bN .nil qI (qa (pv 1) qb))))))
  (qd (qm (pv 1)))),?_⟩
 rw [ql2];refine ⟨λ μ σ H'=>∃ (v':V) (ws':List V) (fs':List Fr) (t':Tr),σ=[some (.ref ao),some v']/\But ao H H'/\H' ao=some (.lst ws')/\FrmI c H' ws' fs'/\qM c H' t' v'/\wn fs' t'=wn fs t/\μ=fs'.length,⟨_,v,ws,fs,t,rfl,But.refl _ _,ho,fm,ob,rfl,rfl⟩,?_⟩;rintro μ σ H1 ⟨v',ws',fs',t',rfl,g1,ho1,fm1,ob1,ew,rfl⟩;refine ⟨_,rfl,ao,_,rfl,.inl (SqL.of ho1),_,_,rfl,rfl,_,rfl,?_⟩;cases fs' with
 | nil =>
  have e:=fm1.empty;subst e;refine zB ?_;refine zB ?_;rw [wn] at ew;exact ⟨_,rfl,q v' [] H1 g1 ho1 (by rw [<- ew];exact .nil) (by rw [<- ew];exact ob1)⟩
 | cons fr fs' =>
  obtain ⟨us,x,rfl,fu,kx⟩:=fm1.top;obtain ⟨ax,vx,rfl,hax,ke⟩:=kx;refine ifT (by rw [Xd,Xj];simp) ?_;refine ⟨_,rfl,_,rfl,ao,_,_,_,rfl,rfl,SqL.of ho1,vW us (.ref ax),ax,_,_,vS [fr.1],rfl,rfl,SqT.of hax,rfl,rfl,_,rfl,?_⟩;have ee:decide (vS [fr.1]=vS [126])=decide (fr.1=126):=by
   by_cases h:fr.1=126
   ·rw [h];simp
   ·rw [Xu h,Xu λ e=>h (by have:=qge e;simpa using this)]
  rw [show decide (vS [fr.1]=V.str (qj [126]))=decide (fr.1=126) from ee];rw [wn] at ew;by_cases h126:fr.1=126
  ·rw [if_pos h126] at ew;rw [Xv h126];refine qaw ?_;refine ⟨λ σ' H'=>∃ (v':V) (ws':List V) (t':Tr),σ'=[some (.ref ao),some v']/\But ao H H'/\H' ao=some (.lst ws')/\FrmI c H' ws' fs'/\qM c H' t' v'/\wn fs' t'=wn fs t,?_,?_⟩
   ·rintro σ' H' ⟨v2,ws2,t2,e,b1,b2,b3,b4,b5⟩;exact ⟨fs'.length,Nat.lt_succ_self _,v2,ws2,fs',t2,e,b1,b2,b3,b4,b5,rfl⟩
   refine ⟨_,rfl,.inl ⟨rfl,_,SqL.of ho1⟩,ao,_,.ref ax,rfl,rfl,ho1,qaq us (.ref ax),?_⟩;rw [List.dropLast_concat];have x1:zH H1 (upd H1 ao (.lst us)):=zH.updL ho1;refine ⟨_,rfl,λ x dx hx hdx ne=>⟨c.not,x,dx,_,rfl,qe,C.not,C.aNot,rfl,?_⟩⟩;have k2:=((((qh.refl (upd H1 ao (.lst us))).at hdx (o:=.own x)).at ((qh.refl _).free hx) (o:=.ins c.not dx [])).at ((qh.refl _).free hx) (o:=.ins c.not dx [("one",v')]));refine ⟨.ref x,us,.neg t',rfl,(g1.upd (o:=.lst us)).trans (zI k2),k2 _ _ qe,fu.monoX (x1.trans (qae k2)),⟨x,dx,v',rfl,qe,ob1.monoX (x1.trans (qae k2))⟩,ew⟩
  ·rw [if_neg h126] at ew;rw [Xu h126];refine zB ?_;exact ⟨_,rfl,q v' _ H1 g1 ho1 (by rw [<- ew];exact fm1) (by rw [<- ew];exact ob1)⟩
def qm5 (c:CA):Sp:=λ vs H Q _=>∃ (ao:Addr) (v:V) (ws:List V) (s:PSt),vs=[.ref ao,v]/\H ao=some (.lst ws)/\FrmI c H ws s.1/\qaE c H s.2 v/\∀ H',qh H H'->Q (vS (yT s)) H'
theorem qnS:("01":Str)=qj [48,49]:=by decide +kernel
theorem qlh:("~(":Str)=qj [126,40]:=by decide +kernel
theorem qm6 (F:Fun K "signs_behind" "signs_behind" yy f fd) (T:Txt mg) {t1 t2 t3:Tok} (mlet:mg "LETTERS"=some (.str "abcpqrxyz" t1)) (mope:mg "OPENING"=some (.str "~(" t2)) (mbet:mg "BETWEEN"=some (.str "&|+" t3)):FnOk P w K mg base CX0 1 f fd ["opened","ended"] (qm5 c):=by
 refine F.ok qm0 (λ vs H Q E h=>?_) (λ cdv A outer s H vs Q E hr h=>?_)
 ·obtain ⟨ao,v,ws,s,rfl,_⟩:=h;rfl
 obtain ⟨ao,v,ws,s,rfl,ho,fm,ea,q⟩:=h;refine ⟨_,(qc (qW (qp qik (pv 1) qbo (qB _)) (qd (qm (qo qG (qo qG qk (yd (v:=.str "abcpqrxyz") (by rfl) mlet ⟨_,rfl⟩)) (yd (v:=.str "~(") (by rfl) mope ⟨_,rfl⟩)))) qy)
  (qc (qW (qp zv (qz qH (by rfl) T.len PySem.boot_len (qa (pv 0) qb)) qg (qB _)) (qd (qm qk)) qy)
  (qd (qm (qig (qp zv (qU za (qU zp (pv 0) (qaW j7 qg) (λ _ _=>rfl)) qg (λ _ _=>rfl)) qk (qB _)) (yd (v:=.str "&|+") (by rfl) mbet ⟨_,rfl⟩) qk))))),?_⟩
 rw [qnS,qfA,qlh,ql3,qmS,qc5,qas];obtain ⟨fs,e⟩:=s;refine ⟨_,rfl,rfl,_,rfl,?_⟩;rw [ea.non];cases e with
 | none =>
  refine qaw ?_;refine ⟨_,_,rfl,rfl,qu (by show 2+9<=_;decide),_,_,rfl,rfl,qu (by show 11+2<=_;decide),?_⟩;exact q H (qh.refl H)
 | some r =>
  refine zB ?_;refine ⟨_,rfl,ao,_,rfl,.inl (SqL.of ho),rfl,_,rfl,?_⟩;cases fs with
  | nil =>
   have e:=fm.empty;subst e;refine qaw ?_;exact q H (qh.refl H)
  | cons fr fs =>
   obtain ⟨us,x,rfl,fu,kx⟩:=fm.top;obtain ⟨ax,vx,rfl,hax,ke⟩:=kx;refine qnR (by rw [Xd,Xj];simp;omega) ?_;refine ⟨_,rfl,_,rfl,ao,_,_,_,rfl,rfl,SqL.of ho,vW us (.ref ax),ax,_,_,vS [fr.1],rfl,rfl,SqT.of hax,rfl,rfl,_,rfl,?_⟩;have ee:decide (vS [fr.1]=vS [40])=decide (fr.1=40):=by
    by_cases h:fr.1=40
    ·rw [h];simp
    ·rw [Xu h,Xu λ e=>h (by have:=qge e;simpa using this)]
   rw [show decide (vS [fr.1]=V.str (qj [40]))=decide (fr.1=40) from ee];have el:yT (fr::fs,some r)=if fr.1=40 then [38,124,43] else [41]:=rfl
   by_cases h:fr.1=40
   ·rw [Xv h];rw [el,if_pos h] at q;exact qaw (q H (qh.refl H))
   ·rw [Xu h];rw [el,if_neg h] at q;exact zB (q H (qh.refl H))
def qm7 (c:CA):Sp:=λ vs H Q _=>∃ (ao:Addr) (v:V) (z:Nat) (ws:List V) (s:PSt),vs=[.ref ao,v,vS [z]]/\H ao=some (.lst ws)/\FrmI c H ws s.1/\qaE c H s.2 v/\Wfs s/\z∈yT s/\ws.length<=10000/\∀ v' ws' H',But ao H H'->H' ao=some (.lst ws')->FrmI c H' ws' (stp s z).1->qaE c H' (stp s z).2 v'->Q v' H'
theorem qm8 {fw fp fs_:Addr} {fdw fdp fds:FuncData} (F:Fun K "taken" "taken" qb8 f fd) {t2 t3:Tok} (mope:mg "OPENING"=some (.str "~(" t2)) (mbet:mg "BETWEEN"=some (.str "&|+" t3))
  (Gw:FnOk P w K mg base CX0 3 fw fdw ["opened","saying"] (qm3 c)) (bw:qf K fdw ["opened","saying"] []) (kw:W.keepIn K (.ref fw)=true) (mw:mg "with_nots"=some (.ref fw))
  (Gp:FnOk P w K mg base CX0 3 fp fdp ["sign","one","other"] (qmX c)) (bp:qf K fdp ["sign","one","other"] []) (kp:W.keepIn K (.ref fp)=true) (mp:mg "pair_of"=some (.ref fp))
  (Gs:FnOk P w K mg base CX0 3 fs_ fds ["sign"] (qmW c)) (bs:qf K fds ["sign"] []) (ks:W.keepIn K (.ref fs_)=true) (ms:mg "single_of"=some (.ref fs_)):FnOk P w K mg base CX0 4 f fd ["opened","ended","sign"] (qm7 c):=by
 refine F.ok qlg (λ vs H Q E h=>?_) (λ cdv A outer s H vs Q E hr h=>?_)
 ·obtain ⟨ao,v,z,ws,s,rfl,_⟩:=h;rfl
 obtain ⟨ao,v,z,ws,s,rfl,ho,fm,ea,wf,hl,l4,q⟩:=h;have hr3:Room 3 _:=hr.mono (by decide);refine ⟨_,(qc (qW (qp jW (pv 2) (yd (v:=.str "~(") (by rfl) mope ⟨_,rfl⟩) rfl) (qc (yo (y2 PySem.F.plainAttrs_list PySem.F.slot_list_append PySem.F.type_list_append zA (pv 0) (qa (zl (qa (pv 2) (qa qbo qb))) qb)))
  (qd (qm qbo))) qy)
  (qc (qW (qp jW (pv 2) (yd (v:=.str "&|+") (by rfl) mbet ⟨_,rfl⟩) rfl) (qc (qch (zl (qa (pv 2) (qa (pv 1) qb))) (qdV (pv 0) (qaW j7 qg) qaY))
  (qd (qm qbo))) qy)
  (qc (qW (qp zv (pv 2) qk (qB _)) (qc (qv (i:=3) qlg.nd rfl (Or.inl rfl) (qcr PySem.F.plainAttrs_list PySem.F.slot_list_pop PySem.F.type_list_pop qd6 (pv 0)))
  (qd (qm (zm Gw hr3 mw kw bw (qa (pv 0) (qa (zm Gp hr3 mp kp bp (qa (qU za (pv 3) qg (λ _ _=>rfl)) (qa (qU za (pv 3) qg (λ _ _=>rfl)) (qa (pv 1) qb)))) qb)))))) qy)
  (qd (qm (zm Gw hr3 mw kw bw (qa (pv 0) (qa (zm Gs hr3 ms ks bs (qa (pv 2) qb)) qb)))))))),?_⟩
 rw [qlh,qmS,qas];refine ⟨_,rfl,_,_,rfl,rfl,_,rfl,?_⟩;by_cases h1:z∈[126,40]
 ·rw [Xv h1];refine qaw ?_;rw [stp,if_pos h1] at q;refine ⟨_,rfl,.inl ⟨rfl,_,SqL.of ho⟩,_,rfl,qu (by show 2<=_;decide),λ p hp=>?_⟩;have hop:upd H p (.tup [vS [z],.non]) ao=some (.lst ws):=(qh.up hp) _ _ ho;refine ⟨ao,ws,_,rfl,rfl,hop,zz (by omega),?_⟩;have x1:zH H (upd (upd H p (.tup [vS [z],.non])) ao (.lst (ws++[.ref p]))):=(qae (qh.up hp)).trans (zH.updL hop);refine q .non _ _ ((zI (qh.up hp)).upd) qe ((fm.monoX x1).snoc ⟨p,.non,rfl,?_,rfl⟩) rfl;exact zH.updL hop _ _ qe (λ _ z=>nomatch z)
 rw [Xu h1];refine zB ?_;refine ⟨_,rfl,_,_,rfl,rfl,_,rfl,?_⟩;by_cases h2:z∈[38,124,43]
 ·rw [Xv h2];refine qaw ?_;obtain ⟨fr,fs,r,rfl⟩:=qfK h2 hl;rw [stp,if_neg h1,if_pos h2] at q;obtain ⟨us,x,rfl,fu,kx⟩:=fm.top;refine ⟨_,rfl,_,rfl,qu (by show 2<=_;decide),λ p hp=>?_⟩;have hop:upd H p (.tup [vS [z],v]) ao=some (.lst (us++[x])):=(qh.up hp) _ _ ho;refine ⟨_,rfl,1,rfl,ao,_,_,us.length,rfl,rfl,hop,by rw [Xd,Xj];exact qbi _,?_⟩;have es:(us++[x]).set us.length (.ref p)=us++[.ref p]:=by simp
  rw [es];have x1:zH H (upd (upd H p (.tup [vS [z],v])) ao (.lst (us++[.ref p]))):=(qae (qh.up hp)).trans (zH.updL hop);refine q .non _ _ ((zI (qh.up hp)).upd) qe ((fu.monoX x1).snoc ⟨p,v,rfl,?_,ea.monoX x1⟩) rfl;exact zH.updL hop _ _ qe (λ _ z=>nomatch z)
 rw [Xu h2];refine zB ?_;refine yA (zq (jS qA (dvA rfl) dC)) at0 (λ hb H1 g1=>?_) (λ hb H1 g1=>?_)
 ·have e:z=41:=by simpa using of_decide_eq_true hb
  subst e;obtain ⟨op,l,fs,r,rfl,hop⟩:=qh6 wf hl;rw [stp,if_neg h1,if_neg h2,if_pos rfl] at q;obtain ⟨us,x,rfl,fu,kx⟩:=fm.top;obtain ⟨ax,vx,rfl,hax,ke⟩:=kx;have ho1:=g1 _ _ ho;refine ⟨_,rfl,.inl ⟨rfl,_,SqL.of ho1⟩,ao,_,.ref ax,rfl,rfl,ho1,qaq us (.ref ax),?_⟩;rw [List.dropLast_concat];have x1:zH H (upd H1 ao (.lst us)):=(qae g1).trans (zH.updL ho1);have hax1:=x1 _ _ hax (λ _ z=>nomatch z);refine ⟨_,rfl,_,rfl,ax,_,_,vS [op],rfl,rfl,SqT.of hax1,rfl,_,rfl,ax,_,_,vx,rfl,rfl,SqT.of hax1,rfl,_,rfl,op,vx,v,l,r,rfl,hop,qM.monoX x1 ke,qM.monoX x1 ea,λ o H2 g2 ob=>?_⟩;refine ⟨ao,o,us,fs,.bin op l r,rfl,g2 _ _ qe,(fu.monoX x1).monoX (qae g2),ob,λ v' ws' H3 b3 e3 f3 o3=>?_⟩;exact q v' ws' H3 ((((zI g1).upd).trans (zI g2)).trans b3) e3 f3 o3
 ·have n41:¬ z=41:=λ e=>by simpa [e] using of_decide_eq_false hb
  rw [stp,if_neg h1,if_neg h2,if_neg n41] at q;refine ⟨_,rfl,_,rfl,z,rfl,λ o H2 g2 ob=>?_⟩;have g12:=g1.trans g2;refine ⟨ao,o,ws,s.1,jv z,rfl,g12 _ _ ho,fm.monoX (qae g12),ob,λ v' ws' H3 b3 e3 f3 o3=>?_⟩;exact q v' ws' H3 ((zI g12).trans b3) e3 f3 o3
def qm9 (c:CA):Sp:=λ vs H Q _=>∃ t:Tr,vs=[vS t.text]/\t.Of zD/\t.wt<=1000/\∀ o H',qh H H'->qM c H' t o->Q o H'
theorem qna {fg ft:Addr} {fdg fdt:FuncData} (F:Fun K "read" "read" qet f fd) (T:Txt mg)
  (Gg:FnOk P w K mg base CX0 1 fg fdg ["opened","ended"] (qm5 c)) (bg:qf K fdg ["opened","ended"] []) (kg:W.keepIn K (.ref fg)=true) (mg_:mg "signs_behind"=some (.ref fg))
  (Gt:FnOk P w K mg base CX0 4 ft fdt ["opened","ended","sign"] (qm7 c)) (bt:qf K fdt ["opened","ended","sign"] []) (kt:W.keepIn K (.ref ft)=true) (mt:mg "taken"=some (.ref ft)):FnOk P w K mg base CX0 5 f fd ["text"] (qm9 c):=by
 refine F.ok qdO (λ vs H Q E h=>?_) (λ cdv A outer s H vs Q E hr h=>?_)
 ·obtain ⟨t,rfl,_⟩:=h;rfl
 obtain ⟨t,rfl,of,hw,q⟩:=h;have hr1:Room 1 _:=hr.mono (by decide);have hr4:Room 4 _:=hr.mono (by decide);refine ⟨_,(qc (qv (i:=1) qdO.nd rfl (Or.inl rfl) (yh qb))
  (qc (qv (i:=2) qdO.nd rfl (Or.inl rfl) qbo)
  (qc (qeh PassesOwn.never rfl (qfm (by rfl) T.enumerate (qa (pv 0) qb)) (qT (qt (i:=3) qdO.nd rfl (Or.inl rfl)) (qT (qt (i:=4) qdO.nd rfl (Or.inl rfl)) yp))
  (qc (qW (qp vt (pv 4) (zm Gg hr1 mg_ kg bg (qa (pv 1) (qa (pv 2) qb))) rfl) (qd jg) qy)
   (qd (qv (i:=2) qdO.nd rfl (Or.inl rfl) (zm Gt hr4 mt kt bt (qa (pv 1) (qa (pv 2) (qa (pv 4) qb))))))))
   (qc (qW (PW.pt (vR (qp qik (pv 2) qbo (qB _))
   (jP (qp qaX (qz qH (by rfl) T.len PySem.boot_len (qa (pv 1) qb)) qg (qB _))))) (qd jg) qy)
   (qd (qm (pv 2))))))),?_⟩
 have tl:=t.text_len;have rw_:=qh5 of;have hs:(qj t.text).cps.size=t.text.length:=qw t.text;refine ⟨Nat.zero_le _,λ ao hao=>?_⟩;refine ⟨_,rfl,_,rfl,?_⟩;refine qdH (λ i σ H'=>∃ (v:V) (ws:List V) (s:PSt) (v3 v4:Option V),σ=[some (vS t.text),some (.ref ao),some v,v3,v4]/\qh H H'/\H' ao=some (.lst ws)/\FrmI c H' ws s.1/\qaE c H' s.2 v/\run ([],none) (t.text.take i)=some s/\ws.length<=i)
  ⟨.non,[],([],none),none,none,rfl,qh.up hao,qe,.nil,rfl,rfl,Xe _⟩ ?_ ?_
 ·rintro i σ H1 hi ⟨v,ws,s,v3,v4,rfl,g1,e1,fm,ea,hrun,lw⟩;rw [hs] at hi;rw [qbz hi];obtain ⟨hl,hrun'⟩:=ql7 rw_ hi hrun;have wf:=qhf qnQ hrun;refine ⟨_,_,rfl,_,_,rfl,rfl,?_⟩;refine ⟨_,rfl,_,rfl,_,rfl,ao,v,ws,s,rfl,e1,fm,ea,λ H2 g2=>?_⟩;refine ⟨_,_,rfl,rfl,_,rfl,?_⟩;rw [Xv hl];refine zB ?_;have x2:=qae g2;refine ⟨_,rfl,_,rfl,_,rfl,ao,v,_,ws,s,rfl,g2 _ _ e1,fm.monoX x2,ea.monoX x2,wf,hl,by omega,λ v' ws' H3 b3 e3 f3 o3=>?_⟩;have ln:=f3.len;have hst:(stp s t.text[i]).1.length<=i+1:=by have:=qkO s t.text[i];have:=fm.len;omega
  exact ⟨v',ws',stp s t.text[i],_,_,rfl,b3.same (g1.trans g2) hao,e3,f3,o3,hrun',by omega⟩
 ·rintro σ H1 ⟨v,ws,s,v3,v4,rfl,g1,e1,fm,ea,hrun,lw⟩;rw [hs,List.take_length,rw_] at hrun;cases hrun
  have e:=fm.empty;subst e;obtain ⟨a,rfl⟩:=qM.ref ea;refine ⟨_,rfl,rfl,_,rfl,zB ?_⟩;refine ⟨_,rfl,ao,_,rfl,.inl (SqL.of e1),_,_,rfl,rfl,_,rfl,zB ?_⟩;exact ⟨_,rfl,q _ H1 g1 ea⟩
end
end
section
variable {P:Program} {w:World} {K:PySem.W.Frag} {mg:Str->Option Value} {base:Heap}
theorem qjG:FnScope ["text","letters","sign"] ["text","letters"] (qi zR):=scF
theorem qhg:FnScope ["wish","letters","halves","left","right"] ["wish","letters"] (qi jL):=scF
theorem qfL:FnScope ["sides","fault","left","right"] ["sides"] (qi vC):=scF
def qli:Sp:=λ vs H Q _=>∃ x ls:List Nat,vs=[vS x,vS ls]/\(∀ c∈x,c∈zD->c∈ls)/\∀ H',qh H H'->Q .non H'
theorem ql8 {f:Addr} {fd:FuncData} (F:Fun K "refuse_strange" "refuse_strange" zR f fd) {t1:Tok} (mlet:mg "LETTERS"=some (.str "abcpqrxyz" t1)):FnOk P w K mg base CX0 1 f fd ["text","letters"] qli:=by
 refine F.ok qjG (λ vs H Q E h=>?_) (λ cdv A outer s H vs Q E hr h=>?_)
 ·obtain ⟨x,ls,rfl,_⟩:=h;rfl
 obtain ⟨x,ls,rfl,hx,q⟩:=h;refine ⟨_,(qd (yE PassesOwn.never rfl (qd9 (pv 0)) (qt (i:=2) qjG.nd rfl (Or.inl rfl))
  (qd (qW (PW.pt (qdU (qp jW (pv 2) (yd (v:=.str "abcpqrxyz") (by rfl) mlet ⟨_,rfl⟩) rfl) (qbX (qp vt (pv 2) (pv 1) rfl)))) (qd jg) qy)))),?_⟩
 rw [qfA];have hs:(qj x).cps.size=x.length:=qw x;refine ⟨_,rfl,_,rfl,?_⟩;refine qgX (λ j σ H'=>∃ v2:Option V,σ=[some (vS x),some (vS ls),v2]/\qh H H') ⟨none,rfl,qh.refl H⟩ ?_ ?_
 ·rintro j σ H1 hj ⟨v2,rfl,g1⟩;rw [hs] at hj;rw [qbz hj];refine ⟨_,rfl,_,_,rfl,rfl,_,rfl,?_⟩;by_cases h:x[j]∈zD
  ·rw [Xv h];refine qaw ?_;refine ⟨_,rfl,_,rfl,_,_,rfl,rfl,_,rfl,?_⟩;rw [Xv (hx _ (List.getElem_mem hj) h)];exact zB ⟨_,rfl,g1⟩
  ·rw [Xu h];refine zB ?_;exact zB ⟨_,rfl,g1⟩
 ·rintro σ H1 ⟨v2,rfl,g1⟩;exact q H1 g1
theorem zO:∀ {t:Tr} {c:Nat},t.Of zD->c∈t.text->¬ c=32/\¬ c=61/\(c∈zD->t.Has c)
 | .letter l,c,h,hc=>by
  have e:c=l:=List.mem_singleton.mp hc;subst e
  have:=(by decide:∀ c∈zD,¬ c=32/\¬ c=61) c h
  exact ⟨this.1,this.2,λ _=>rfl⟩
 | .one,c,_,hc=>by
  have e:c=49:=List.mem_singleton.mp hc;subst e;exact ⟨by decide,by decide,λ h=>absurd h (by decide)⟩
 | .zero,c,_,hc=>by
  have e:c=48:=List.mem_singleton.mp hc;subst e;exact ⟨by decide,by decide,λ h=>absurd h (by decide)⟩
 | .neg t,c,h,hc=>by
  rcases List.mem_append.mp hc with e | e
  ·have e:c=126:=List.mem_singleton.mp e;subst e;exact ⟨by decide,by decide,λ h=>absurd h (by decide)⟩
  ·exact zO (t:=t) h e
 | .bin op t u,c,h,hc=>by
  obtain ⟨hop,ht,hu⟩:=h;have hc:c∈[40]++t.text++[op]++u.text++[41]:=hc;rcases List.mem_append.mp hc with hc | e
  ·rcases List.mem_append.mp hc with hc | e
   ·rcases List.mem_append.mp hc with hc | e
    ·rcases List.mem_append.mp hc with e | e
     ·have e:c=40:=List.mem_singleton.mp e;subst e;exact ⟨by decide,by decide,λ h=>absurd h (by decide)⟩
     ·obtain ⟨a,b,d⟩:=zO ht e;exact ⟨a,b,λ h=>.inl (d h)⟩
    ·have e:c=op:=List.mem_singleton.mp e;subst e;rcases hop with rfl | rfl | rfl <;> exact ⟨by decide,by decide,λ h=>absurd h (by decide)⟩
   ·obtain ⟨a,b,d⟩:=zO hu e;exact ⟨a,b,λ h=>.inr (d h)⟩
  ·have e:c=41:=List.mem_singleton.mp e;subst e;exact ⟨by decide,by decide,λ h=>absurd h (by decide)⟩
theorem qhh (t:Tr):t.text≠[]:=by cases t <;> simp [Tr.text]
theorem j2:∀ t:Tr,(t.wt:Int)<=t.nodes
 | .letter _=>by show (1:Int)<=1;decide
 | .one=>by show (1:Int)<=1;decide
 | .zero=>by show (1:Int)<=1;decide
 | .neg t=>by have:=j2 t;show ((t.wt+1:Nat):Int)<=1+t.nodes;omega
 | .bin _ t u=>by have:=j2 t;have:=j2 u;show ((t.wt+u.wt:Nat):Int)<=1+t.nodes+u.nodes;omega
theorem Tr.Of.upL {ls us:List Nat}:∀ {t:Tr},t.Of ls->(∀ c,c∈ls->c∈us)->t.Of us
 | .letter l,h,g=>g l h
 | .neg t,o,h=>Tr.Of.upL (t:=t) o h
 | .bin _ t u,o,h=>⟨o.1,Tr.Of.upL (t:=t) o.2.1 h,Tr.Of.upL (t:=u) o.2.2 h⟩
 | .one,_,_=>trivial
 | .zero,_,_=>trivial
structure Wsh where
 i:Nat
 j:Nat
 k:Nat
 l:Nat
 t:Tr
 u:Tr
def Wsh.text (x:Wsh):List Nat:=(List.replicate x.i 32++x.t.text++List.replicate x.j 32)++61::(List.replicate x.k 32++x.u.text++List.replicate x.l 32)
structure Wsh.Ok (ls:List Nat) (x:Wsh):Prop where
 bl:x.i<=100/\x.j<=100/\x.k<=100/\x.l<=100
 t:x.t.Of ls
 u:x.u.Of ls
 tn:x.t.nodes<=20
 un:x.u.nodes<=20
def qnb (c:CA):Sp:=λ vs H Q _=>∃ (x:Wsh) (ls:List Nat),vs=[vS x.text,vS ls]/\x.Ok ls/\(∀ c∈ls,c∈zD)/\∀ r a b H',qh H H'->H' r=some (.tup [a,b])->qM c H' x.t a->qM c H' x.u b->Q (.ref r) H'
theorem qnc {c:CA} {iL iN iP ftA ftN ftL ftO ftD ftR ftE fsA fsN fsL fsO fsP f fr ff:Addr} {dtA dtN dtL dtO dtD dtR dtE dsA dsN dsL dsO dsP fd fdr fdf:FuncData} (F:Fun K "wish_read" "wish_read" jL f fd) (C:CTxt K c iL iN iP) {tp:Tok} (mprt:mg "MOST_PARTS"=some (.int 20 tp))
  (Mt:MTxt K c "text" ftA ftN ftL ftO ftD ftR ftE) (Vt:VOk P w K mg base zN c 21 kD kR kE ftA ftN ftL ftO ftD ftR ftE dtA dtN dtL dtO dtD dtR dtE)
  (Ms:MTxt K c "size" fsA fsN fsL fsO fsP fsP fsP) (Vs:VOk P w K mg base vSz c 21 kP kP kP fsA fsN fsL fsO fsP fsP fsP dsA dsN dsL dsO dsP dsP dsP)
  (btA:qf K dtA ["self"] []) (btN:qf K dtN ["self"] []) (btL:qf K dtL ["self"] []) (btO:qf K dtO ["self"] []) (btD:qf K dtD ["self"] []) (btR:qf K dtR ["self"] []) (btE:qf K dtE ["self"] [])
  (bsA:qf K dsA ["self"] []) (bsN:qf K dsN ["self"] []) (bsL:qf K dsL ["self"] []) (bsO:qf K dsO ["self"] []) (bsP:qf K dsP ["self"] [])
  (Gr:FnOk P w K mg base CX0 5 fr fdr ["text"] (qm9 c)) (br:qf K fdr ["text"] []) (kr:W.keepIn K (.ref fr)=true) (mr:mg "read"=some (.ref fr))
  (Gf:FnOk P w K mg base CX0 1 ff fdf ["text","letters"] qli) (bf:qf K fdf ["text","letters"] []) (kf:W.keepIn K (.ref ff)=true) (mf:mg "refuse_strange"=some (.ref ff)) :
  FnOk P w K mg base CX0 22 f fd ["wish","letters"] (qnb c):=by
 refine F.ok qhg (λ vs H Q E h=>?_) (λ cdv A outer s H vs Q E hr h=>?_)
 ·obtain ⟨x,ls,rfl,_⟩:=h;rfl
 obtain ⟨x,ls,rfl,ok,l9,q⟩:=h;have hr1:Room 1 _:=hr.mono (by decide);have hr5:Room 5 _:=hr.mono (by decide);have hr21:Room 21 _:=hr.mono (by decide);have bsD:=bsP;have bsR:=bsP;have bsE:=bsP;refine ⟨_,(qc (qW (qp vt qk (pv 0) rfl) (qd jg) qy)
  (qc (qv (i:=2) qhg.nd rfl (Or.inl rfl) (y2 PySem.F.plainAttrs_str PySem.F.slot_str_partition PySem.F.type_str_partition qkx (pv 0) (qa qk qb)))
  (qc (qv (i:=3) qhg.nd rfl (Or.inl rfl) (zm Gr hr5 mr kr br (qa (y2 PySem.F.plainAttrs_str PySem.F.slot_str_strip PySem.F.type_str_strip qfq (qU za (pv 2) qg (λ _ _=>rfl)) (qa qk qb)) qb)))
  (qc (qv (i:=4) qhg.nd rfl (Or.inl rfl) (zm Gr hr5 mr kr br (qa (y2 PySem.F.plainAttrs_str PySem.F.slot_str_strip PySem.F.type_str_strip qfq (qU za (pv 2) qg (λ _ _=>rfl)) (qa qk qb)) qb)))
  (qc (qW (PW.pt (vR (qp qaX (qay (pv 3) C Ms Vs hr21 bsA bsN bsL bsO bsD bsR bsE) (yd (v:=.int 20) (by rfl) mprt ⟨_,rfl⟩) (qB _))
   (jP (qp qaX (qay (pv 4) C Ms Vs hr21 bsA bsN bsL bsO bsD bsR bsE) (yd (v:=.int 20) (by rfl) mprt ⟨_,rfl⟩) (qB _))))) (qd jg) qy)
  (qc (yo (zm Gf hr1 mf kf bf (qa (qo qG (qay (pv 3) C Mt Vt hr21 btA btN btL btO btD btR btE) (qay (pv 4) C Mt Vt hr21 btA btN btL btO btD btR btE)) (qa (pv 1) qb))))
  (qd (qm (zl (qa (pv 3) (qa (pv 4) qb))))))))))),?_⟩
 rw [show ("=":Str)=qj [61] by decide +kernel,show (" ":Str)=qj [32] by decide +kernel];obtain ⟨i,j,k,l,t,u⟩:=x;obtain ⟨⟨bi,bj,bk,bl⟩,ot,ou,tn,un⟩:=ok;have bi:i<=100:=bi;have bj:j<=100:=bj;have bk:k<=100:=bk;have bl:l<=100:=bl;have ot:t.Of ls:=ot;have ou:u.Of ls:=ou;have ot9:=ot.upL l9;have ou9:=ou.upL l9;have wt1:=j2 t;have wt2:=j2 u;have tn:t.nodes<=20:=tn;have un:u.nodes<=20:=un;have lt1:=t.text_len;have lt2:=u.text_len;have ht1:=t.ht_wt;have ht2:=u.ht_wt;have hw1:t.wt<=20:=by omega
 have hw2:u.wt<=20:=by omega
 have nt:61 ∉ List.replicate i 32++t.text++List.replicate j 32:=λ h=>by
  rcases List.mem_append.mp h with h | h
  ·rcases List.mem_append.mp h with h | h
   ·exact absurd (List.eq_of_mem_replicate h) (by decide)
   ·exact (zO ot9 h).2.1 rfl
  ·exact absurd (List.eq_of_mem_replicate h) (by decide)
 refine ⟨_,rfl,_,_,rfl,rfl,_,rfl,?_⟩;rw [Xv (show 61∈Wsh.text ⟨i,j,k,l,t,u⟩ from List.mem_append_right _ (Xp ..))];refine zB ?_;refine ⟨_,rfl,rfl,_,_,_,rfl,rfl,nt,by simp only [Xd,XB];omega,λ p hp=>?_⟩;have g1:=qh.up hp (o:=.tup [vS (List.replicate i 32++t.text++List.replicate j 32),vS [61],vS (List.replicate k 32++u.text++List.replicate l 32)]);have e1:upd H p (.tup [vS (List.replicate i 32++t.text++List.replicate j 32),vS [61],vS (List.replicate k 32++u.text++List.replicate l 32)]) p=some (.tup [vS (List.replicate i 32++t.text++List.replicate j 32),vS [61],vS (List.replicate k 32++u.text++List.replicate l 32)]):=qe;generalize upd H p (.tup [vS (List.replicate i 32++t.text++List.replicate j 32),vS [61],vS (List.replicate k 32++u.text++List.replicate l 32)])=H1 at g1 e1;refine ⟨_,rfl,p,_,_,_,rfl,rfl,SqT.of e1,rfl,rfl,i,j,t.text,rfl,rfl,qhh t,λ h=>(zO ot9 h).1 rfl,by omega,t,rfl,ot9,by omega,λ a H2 g2 ob1=>?_⟩;refine ⟨_,rfl,p,_,_,_,rfl,rfl,SqT.of (g2 _ _ e1),rfl,rfl,k,l,u.text,rfl,rfl,qhh u,λ h=>(zO ou9 h).1 rfl,by omega,u,rfl,ou9,by omega,λ b H3 g3 ob2=>?_⟩;have ob1:=ob1.mono g3;refine dV (f:=vSz) (n:=21) (κd:=kP) (κr:=kP) (κe:=kP) (λ _ _=>⟨rfl,rfl,rfl⟩) (λ _ _=>⟨_,_,_,rfl⟩) (λ _ _=>⟨_,_,_,rfl⟩) (λ _ _=>⟨_,_,_,rfl⟩) (dvA rfl) ob1 (by omega) (by omega) ot9 _ _ _ at0 λ H4 g4=>?_
 refine ⟨_,_,rfl,rfl,_,rfl,?_⟩;rw [Xu (show ¬ (20:Int) < t.nodes by omega)];refine zB ?_;refine dV (f:=vSz) (n:=21) (κd:=kP) (κr:=kP) (κe:=kP) (λ _ _=>⟨rfl,rfl,rfl⟩) (λ _ _=>⟨_,_,_,rfl⟩) (λ _ _=>⟨_,_,_,rfl⟩) (λ _ _=>⟨_,_,_,rfl⟩) (dvA rfl) (ob2.mono g4) (by omega) (by omega) ou9 _ _ _ at0 λ H5 g5=>?_
 refine ⟨_,_,rfl,rfl,_,rfl,?_⟩;rw [Xu (show ¬ (20:Int) < u.nodes by omega)];refine zB ?_;have g35:=g4.trans g5;refine (jt qA (dV (f:=zN) (n:=21) (κd:=kD) (κr:=kR) (κe:=kE) (λ _ _=>⟨rfl,rfl,rfl⟩) (λ _ _=>⟨_,_,rfl⟩) (λ _ _=>⟨_,_,rfl⟩) (λ _ _=>⟨_,_,rfl⟩) (dvA rfl) (ob1.mono g35) (by omega) (by omega) ot9)
  (dV (f:=zN) (n:=21) (κd:=kD) (κr:=kR) (κe:=kE) (λ _ _=>⟨rfl,rfl,rfl⟩) (λ _ _=>⟨_,_,rfl⟩) (λ _ _=>⟨_,_,rfl⟩) (λ _ _=>⟨_,_,rfl⟩) (dvA rfl) (ob2.mono g35) (by omega) (by omega) ou9) (by omega)) _ _ _ at0 λ H6 g6=>?_
 refine ⟨_,rfl,_,ls,rfl,λ z hz hn=>?_,λ H7 g7=>?_⟩
 ·rcases List.mem_append.mp hz with h | h
  ·exact Tr.Of.has ot ((zO ot9 h).2.2 hn)
  ·exact Tr.Of.has ou ((zO ou9 h).2.2 hn)
 have g37:=(g35.trans g6).trans g7;refine ⟨_,rfl,_,rfl,qu (by show 2<=_;decide),λ r hr'=>?_⟩;have g38:=g37.to hr' (o:=.tup [a,b]);exact q r a b _ (((g1.trans g2).trans g3).trans g38) qe (ob1.mono g38) (ob2.mono g38)
def vJ (fgs:List (List Pr×List Pr)):List Pr:=fgs.foldl (λ acc fg=>join acc (added fg.1 fg.2)) []
theorem qfM (fgs:List (List Pr×List Pr)) (x:List Pr×List Pr):vJ (fgs++[x])=join (vJ fgs) (added x.1 x.2):=by unfold vJ;rw [List.foldl_append];rfl
theorem qh7 {ls:List Nat}:∀ (fgs:List (List Pr×List Pr)),(∀ x∈fgs,On ls x.1/\On ls x.2)->On ls (vJ fgs):=by
 intro fgs h;have key:∀ (l:List (List Pr×List Pr)) (acc:List Pr),On ls acc->(∀ x∈l,On ls x.1/\On ls x.2)->On ls (l.foldl (λ acc fg=>join acc (added fg.1 fg.2)) acc):=by
  intro l;induction l with
  | nil=>intro acc ha _;exact ha
  | cons x l ih =>
   intro acc ha hl;have hx:=hl x (Xp ..);exact ih _ (ha.join (hx.1.added hx.2)) λ y hy=>hl y (Xn _ hy)
 exact key fgs [] (On.nil ls) h
def ze (H:Hp) (p:Addr) (fg:List Pr×List Pr):Prop:=∃ x y:Addr,H p=some (.tup [.ref x,.ref y])/\H x=some (.tup (fg.1.map vS))/\H y=some (.tup (fg.2.map vS))
theorem ze.mono {H H':Hp} {p:Addr} {fg:List Pr×List Pr} (h:ze H p fg) (g:qh H H'):ze H' p fg:=let ⟨x,y,a,b,c⟩:=h;⟨x,y,g _ _ a,g _ _ b,g _ _ c⟩
def qnd (K:PySem.W.Frag):Sp:=λ vs H Q _=>∃ (a:Addr) (ps:List Addr) (fgs:List (List Pr×List Pr)) (ls:List Nat),vs=[.ref a]/\H a=some (.lst (ps.map V.ref))/\Paired (ze H) ps fgs/\ls.Pairwise (· < ·)/\ls.length<=6/\(∀ x∈fgs,On ls x.1/\On ls x.2)/\∀ r H',qh H H'->H' r=some (.tup ((vJ fgs).map vS))->Q (.ref r) H'
theorem qlj {ls:List Nat} {F:List Pr} (h:On ls F) (hl:ls.Pairwise (· < ·)) (l6:ls.length<=6):F.flatten.length<=192:=by
 have h1:=h.flat2 hl
 have:=ql4 ls.length l6
 omega
theorem qne {f fa fj:Addr} {fd fda fdj:FuncData} (F:Fun K "fault_of" "fault_of" vC f fd)
  (Ga:FnOk P w K mg base CX0 1 fa fda ["one","other"] (qgu K added)) (ba:qf K fda ["one","other"] []) (ka:W.keepIn K (.ref fa)=true) (ma:mg "added"=some (.ref fa))
  (Gj:FnOk P w K mg base CX0 13 fj fdj ["one","other"] (sp2 K join)) (bj:qf K fdj ["one","other"] []) (kj:W.keepIn K (.ref fj)=true) (mj:mg "joined"=some (.ref fj)):FnOk P w K mg base CX0 14 f fd ["sides"] (qnd K):=by
 refine F.ok qfL (λ vs H Q E h=>?_) (λ cdv A outer s H vs Q E hr h=>?_)
 ·obtain ⟨a,ps,fgs,ls,rfl,_⟩:=h;rfl
 obtain ⟨a,ps,fgs,ls,rfl,ha,pr,rl,l6,hon,q⟩:=h;have hr1:Room 1 _:=hr.mono (by decide);have hr13:Room 13 _:=hr.mono (by decide);have o9:Ok9 ls:=⟨rl,by omega⟩;refine ⟨_,(qc (qv (i:=1) qfL.nd rfl (Or.inl rfl) (zl qb))
  (qc (yE PassesOwn.never rfl (yq (pv 0)) (qcg (n:=2) rfl (qT (qt (i:=2) qfL.nd rfl (Or.inl rfl)) (qT (qt (i:=3) qfL.nd rfl (Or.inl rfl)) yp)))
  (qd (qv (i:=1) qfL.nd rfl (Or.inl rfl) (zm Gj hr13 mj kj bj (qa (pv 1) (qa (zm Ga hr1 ma ka ba (qa (pv 2) (qa (pv 3) qb))) qb))))))
  (qd (qm (pv 1))))),?_⟩
 refine ⟨Nat.zero_le _,λ f0 hf0=>?_⟩;refine ⟨_,rfl,a,rfl,⟨_,SqL.of ((qh.up hf0) _ _ ha)⟩,?_⟩;refine qci (K:=K) (xs:=ps.map V.ref) (λ i σ H'=>∃ (r:Addr) (v2 v3:Option V),σ=[some (.ref a),some (.ref r),v2,v3]/\qh H H'/\H' r=some (.tup ((vJ (fgs.take i)).map vS))) ⟨f0,none,none,rfl,qh.up hf0,qe⟩ (λ i σ H' _ ⟨_,_,_,_,g,_⟩=>SqL.of (g _ _ ha)) ?_ ?_
 ·rintro i x σ H1 hx ⟨r,v2,v3,rfl,g1,e1⟩;obtain ⟨p,hp,rfl⟩:=ql hx;obtain ⟨fg,hfg,sd⟩:=zk pr i p hp;obtain ⟨x,y,s1,s2,s3⟩:=sd.mono g1;obtain ⟨o1,o2⟩:=hon fg (XD hfg);have oT:On ls (vJ (fgs.take i)):=qh7 _ λ x hx=>hon x (List.mem_of_mem_take hx)
  refine ⟨p,_,rfl,SqT.of s1,rfl,_,_,rfl,_,_,rfl,rfl,?_⟩;refine ⟨_,rfl,_,rfl,_,rfl,x,y,fg.1,fg.2,ls,rfl,SqT.of s2,SqT.of s3,o9,o1,o2,λ r2 H2 g2 e2=>?_⟩;refine ⟨r,r2,vJ (fgs.take i),added fg.1 fg.2,ls,rfl,SqT.of (g2 _ _ e1),SqT.of e2,o9,oT,o1.added o2,?_,λ r3 H3 g3 e3=>?_⟩
  ·have a1:=qlj oT rl l6;have a2:=qlj (o1.added o2) rl l6;omega
  exact ⟨r3,_,_,rfl,(g1.trans g2).trans g3,by rw [zg hfg,qfM];exact e3⟩
 ·rintro σ H1 ⟨r,v2,v3,rfl,g1,e1⟩;rw [Xa,show ps.length=fgs.length from PySem.Paired.length pr,List.take_length] at e1;exact ⟨_,rfl,q r H1 g1 e1⟩
end
section
variable {P:Program} {w:World} {K:PySem.W.Frag} {mg:Str->Option Value} {base:Heap}
def qhi:Sp:=λ vs H Q _=>∃ (p ls:List Nat),vs=[vS p,vS ls]/\ls.length<=9/\p.length<=9/\p.Sublist ls/\ls.Pairwise (· < ·)/\∀ H',qh H H'->Q (.bl true) H'
theorem qhj:FnScope ["self","givens","gaps","wishes","pairs"] ["self","givens","gaps","wishes"] (qi jJ):=scF
structure NotC (c:CA) (X:Addr):Prop where
 a:X≠c.always
 n:X≠c.never
 l:X≠c.letter
 o:X≠c.not
 d:X≠c.and
 r:X≠c.or
 e:X≠c.either
theorem NotC.bin {c:CA} {X:Addr} (h:NotC c X) (op:Nat):X≠c.bin op:=by
 unfold CA.bin;split
 ·exact h.d
 ·split
  ·exact h.r
  ·exact h.e
theorem qc8 {H:Hp} {x a X C dx dy:Addr} {fs gs:List (Str×V)} (h:H x=some (.ins X dx fs)) (g:H a=some (.ins C dy gs)) (n:X≠C):a≠x:=λ e=>by rw [e,h] at g;cases g;exact n rfl
theorem qM.but {c:CA} {x X dx:Addr} {fs:List (Str×V)} {H H':Hp} (n:NotC c X) (h:H x=some (.ins X dx fs)) (g:But x H H'):∀ {t:Tr} {v:V},qM c H t v->qM c H' t v
 | .letter _,_,⟨a,dx,e,k⟩=>⟨a,dx,e,g _ _ (qc8 h k n.l) k⟩
 | .one,_,⟨a,dx,e,k⟩=>⟨a,dx,e,g _ _ (qc8 h k n.a) k⟩
 | .zero,_,⟨a,dx,e,k⟩=>⟨a,dx,e,g _ _ (qc8 h k n.n) k⟩
 | .neg t,_,⟨a,dx,y,e,k,r⟩=>⟨a,dx,y,e,g _ _ (qc8 h k n.o) k,qM.but n h g r⟩
 | .bin op t u,_,⟨a,dx,y,z,e,k,r,r'⟩=>⟨a,dx,y,z,e,g _ _ (qc8 h k (n.bin op)) k,qM.but n h g r,qM.but n h g r'⟩
def jT (c:CA) (H:Hp) (p:Addr) (x:Wsh):Prop:=∃ a b:V,H p=some (.tup [a,b])/\qM c H x.t a/\qM c H x.u b
theorem jT.mono {c:CA} {H H':Hp} {p:Addr} {x:Wsh} (h:jT c H p x) (g:qh H H'):jT c H' p x:=let ⟨a,b,e,o1,o2⟩:=h;⟨a,b,g _ _ e,o1.mono g,o2.mono g⟩
theorem jT.but {c:CA} {x X dx:Addr} {fs:List (Str×V)} {H H':Hp} {p:Addr} {y:Wsh} (n:NotC c X) (hx:H x=some (.ins X dx fs)) (g:But x H H') (h:jT c H p y):jT c H' p y :=
 let ⟨a,b,e,o1,o2⟩:=h;⟨a,b,g _ _ (λ q=>by rw [q,hx] at e;cases e) e,qM.but n hx g o1,qM.but n hx g o2⟩
theorem qcb {x X dx:Addr} {fs:List (Str×V)} {H H':Hp} {a:Addr} {vs:List V} (hx:H x=some (.ins X dx fs)) (g:But x H H') (h:H a=some (.tup vs)):H' a=some (.tup vs):=g _ _ (λ q=>by rw [q,hx] at h;cases h) h
theorem vK {x X dx:Addr} {fs:List (Str×V)} {H H':Hp} {a:Addr} {vs:List V} (hx:H x=some (.ins X dx fs)) (g:But x H H') (h:H a=some (.lst vs)):H' a=some (.lst vs):=g _ _ (λ q=>by rw [q,hx] at h;cases h) h
theorem ze.but {x X dx:Addr} {fs:List (Str×V)} {H H':Hp} {p:Addr} {fg:List Pr×List Pr} (hx:H x=some (.ins X dx fs)) (g:But x H H') (h:ze H p fg):ze H' p fg :=
 let ⟨a,b,e,o1,o2⟩:=h;⟨a,b,qcb hx g e,qcb hx g o1,qcb hx g o2⟩
def Wsh.said (x:Wsh):List Nat:=x.t.text++[32,61,32]++x.u.text
def Wsh.side (x:Wsh):List Pr×List Pr:=(x.t.form,x.u.form)
structure TaskAt (CT:Addr) (H:Hp) (o:Addr) (gv gp:List Nat) (ws:List Wsh) (dx a1 a2 a3:Addr) (ps:List Addr):Prop where
 ins:H o=some (.ins CT dx [("given_letters",vS gv),("gap_letters",vS gp),("wish_texts",.ref a1),("side_forms",.ref a2),("fault_form",.ref a3)])
 said:H a1=some (.lst (ws.map λ x=>vS x.said))
 sides:H a2=some (.lst (ps.map V.ref))
 side:Paired (ze H) ps (ws.map Wsh.side)
 fault:H a3=some (.tup ((vJ (ws.map Wsh.side)).map vS))
def abc:List Nat:=[97,98,99]
def xyz:List Nat:=[120,121,122]
theorem qkP:("abc":Str)=qj abc:=by decide +kernel
theorem qkQ:("xyz":Str)=qj xyz:=by decide +kernel
theorem qbB {gv gp:List Nat} (h1:gv.Sublist abc) (h2:gp.Sublist xyz):(gv++gp).Pairwise (· < ·)/\(gv++gp).length<=6/\∀ c∈gv++gp,c∈zD:=by
 have s:(gv++gp).Sublist (abc++xyz):=h1.append h2;have r:(abc++xyz).Pairwise (· < ·):=by decide
 exact ⟨r.sublist s,s.length_le,λ c hc=>(by decide:∀ c∈abc++xyz,c∈zD) c (s.subset hc)⟩
def qjH (K:PySem.W.Frag) (CT:Addr):Sp:=λ vs H Q _=>∃ (x dx wl:Addr) (gv gp:List Nat) (ws:List Wsh),vs=[.ref x,vS gv,vS gp,.ref wl]/\H x=some (.ins CT dx [])/\SqL K H wl (ws.map λ y=>vS y.text)/\gv.Sublist abc/\gp.Sublist xyz/\ws.length<=6/\(∀ y∈ws,y.Ok (gv++gp))/\∀ a1 a2 a3 ps H',But x H H'->H a1=none->H a2=none->TaskAt CT H' x gv gp ws dx a1 a2 a3 ps->Q .non H'
theorem qkR {c:CA} {CT iL iN iP ftA ftN ftL ftO ftD ftR ftE ffA ffN ffL ffO ffD ffR ffE f fI fW fF:Addr} {dtA dtN dtL dtO dtD dtR dtE dfA dfN dfL dfO dfD dfR dfE fd fdI fdW fdF:FuncData} (F:Fun K "__init__" "Task.__init__" jJ f fd) (T:Txt mg) (C:CTxt K c iL iN iP) (cT:Cls K CT) (nc:NotC c CT)
  (n1:qY K CT "given_letters") (n2:qY K CT "gap_letters") (n3:qY K CT "wish_texts") (n4:qY K CT "side_forms") (n5:qY K CT "fault_form")
  {t1 t2 t3:Tok} (mgiv:mg "GIVENS"=some (.str "abc" t1)) (mgap:mg "GAPS"=some (.str "xyz" t2)) (mmw:mg "MOST_WISHES"=some (.int 6 t3))
  (Mt:MTxt K c "text" ftA ftN ftL ftO ftD ftR ftE) (Vt:VOk P w K mg base zN c 21 kD kR kE ftA ftN ftL ftO ftD ftR ftE dtA dtN dtL dtO dtD dtR dtE)
  (Mf:FTxt K c ffA ffN ffL ffO ffD ffR ffE) (Gf:FOk P w K mg base c 21 ffA ffN ffL ffO ffD ffR ffE dfA dfN dfL dfO dfD dfR dfE)
  (btA:qf K dtA ["self"] []) (btN:qf K dtN ["self"] []) (btL:qf K dtL ["self"] []) (btO:qf K dtO ["self"] []) (btD:qf K dtD ["self"] []) (btR:qf K dtR ["self"] []) (btE:qf K dtE ["self"] [])
  (bfA:qf K dfA ["self"] []) (bfN:qf K dfN ["self"] []) (bfL:qf K dfL ["self"] []) (bfO:qf K dfO ["self"] []) (bfD:qf K dfD ["self"] []) (bfR:qf K dfR ["self"] []) (bfE:qf K dfE ["self"] [])
  (GI:FnOk P w K mg base CX0 1 fI fdI ["text","letters"] qhi) (bI:qf K fdI ["text","letters"] []) (kI:W.keepIn K (.ref fI)=true) (mI:mg "is_row"=some (.ref fI))
  (GW:FnOk P w K mg base CX0 22 fW fdW ["wish","letters"] (qnb c)) (bW:qf K fdW ["wish","letters"] []) (kW:W.keepIn K (.ref fW)=true) (mW:mg "wish_read"=some (.ref fW))
  (GF:FnOk P w K mg base CX0 14 fF fdF ["sides"] (qnd K)) (bF:qf K fdF ["sides"] []) (kF:W.keepIn K (.ref fF)=true) (mF:mg "fault_of"=some (.ref fF)) :
  FnOk P w K mg base CX0 35 f fd ["self","givens","gaps","wishes"] (qjH K CT):=by
 refine F.ok qhj (λ vs H Q E h=>?_) (λ cdv A outer s H vs Q E hr h=>?_)
 ·obtain ⟨x,dx,wl,gv,gp,ws,rfl,_⟩:=h;rfl
 obtain ⟨x,dx,wl,gv,gp,ws,rfl,hx,hw,sgv,sgp,l6,ok,q⟩:=h;have hr1:Room 1 _:=hr.mono (by decide);have hr14:Room 14 _:=hr.mono (by decide);have hr21:Room 21 _:=hr.mono (by decide);have hr22:Room 22 _:=hr.mono (by decide);have hr34:Room 34 _:=hr.mono (by decide);obtain ⟨rl,ll6,l9⟩:=qbB sgv sgp;have lgv:=sgv.length_le;have lgp:=sgp.length_le;have la:abc.length=3:=rfl;have lx:xyz.length=3:=rfl;refine ⟨_,(qc (qW (PW.pt (vR (jQ (yn (zm GI hr1 mI kI bI (qa (pv 1) (qa (yd (v:=.str "abc") (by rfl) mgiv ⟨_,rfl⟩) qb)))))
   (jP (jQ (yn (zm GI hr1 mI kI bI (qa (pv 2) (qa (yd (v:=.str "xyz") (by rfl) mgap ⟨_,rfl⟩) qb)))))))) (qd jg) qy)
  (qc (qW (qp qaX (qz qH (by rfl) T.len PySem.boot_len (qa (pv 3) qb)) (yd (v:=.int 6) (by rfl) mmw ⟨_,rfl⟩) (qB _)) (qd jg) qy)
  (qc (qg1 (i:=4) qhj.nd rfl rfl (qQ (NY:=["wish","givens","gaps"]) (o:=1) (caps:=[1,2]) ["givens","gaps"] rfl (by decide +kernel) (by decide +kernel) (by decide +kernel) (by decide +kernel)
    (by intro x hx;rcases List.mem_cons.mp hx with e | hx;· rw [e];exact .inl rfl
        rw [List.mem_singleton.mp hx];exact .inl rfl) (qcO rfl rfl rfl (qcO rfl rfl rfl vP)) rfl) rfl
    (yq (pv 3)) (λ C0 s H fp pins=>qt (i:=0) (show (["wish","givens","gaps"]:List Str).Nodup by decide +kernel) rfl (Or.inl rfl)) (λ C0 s H fp pins=>zL) (λ C0 s H fp pins=>(zm GW hr22 mW kW bW (qa (pv 0) (qa (qo qG (pv 1) (pv 2)) qb)))))
  (qc (j9 (pv 0) (pv 1) rfl)
  (qc (j9 (pv 0) (pv 2) rfl)
  (qc (j9 (pv 0) (ye (qQ (NY:=["left","right"]) (o:=2) (caps:=[]) [] rfl (by decide +kernel) (by decide +kernel) (by decide +kernel) (by decide +kernel) (by simp) vP rfl) rfl
    (yq (pv 4)) (λ C0 s H fp pins=>(show PG _ _ (qj3 K 2 (qcf (vN 0) (qcf (vN 1) qj2))) from qcg (n:=2) rfl (qT (qt (i:=0) (show (["left","right"]:List Str).Nodup by decide +kernel) rfl (Or.inl rfl) (hf:=Or.inr rfl)) (qT (qt (i:=1) (show (["left","right"]:List Str).Nodup by decide +kernel) rfl (Or.inl rfl) (hf:=Or.inr rfl)) yp)))) (λ C0 s H fp pins=>zL) (λ C0 s H fp pins=>(qo qG (qo qG (qay (pv 0) C Mt Vt hr21 btA btN btL btO btD btR btE) qk) (qay (pv 1) C Mt Vt hr21 btA btN btL btO btD btR btE)))) rfl)
  (qc (j9 (pv 0) (ye (qQ (NY:=["left","right"]) (o:=2) (caps:=[]) [] rfl (by decide +kernel) (by decide +kernel) (by decide +kernel) (by decide +kernel) (by simp) vP rfl) rfl
    (yq (pv 4)) (λ C0 s H fp pins=>(show PG _ _ (qj3 K 2 (qcf (vN 0) (qcf (vN 1) qj2))) from qcg (n:=2) rfl (qT (qt (i:=0) (show (["left","right"]:List Str).Nodup by decide +kernel) rfl (Or.inl rfl) (hf:=Or.inr rfl)) (qT (qt (i:=1) (show (["left","right"]:List Str).Nodup by decide +kernel) rfl (Or.inl rfl) (hf:=Or.inr rfl)) yp)))) (λ C0 s H fp pins=>zL) (λ C0 s H fp pins=>(zl (qa (PE.or (qD (pv 0) C.always Mf.always Gf.always hr34 bfA .nil qI)
   (PE.or (qD (pv 0) C.never Mf.never Gf.never hr34 bfN .nil qI)
   (PE.or (qD (pv 0) C.letter Mf.letter Gf.letter hr34 bfL .nil qI)
   (PE.or (qD (pv 0) C.not Mf.not Gf.not hr34 bfO .nil qI)
   (PE.or (qD (pv 0) C.and Mf.and Gf.and hr34 bfD .nil qI)
   (PE.or (qD (pv 0) C.or Mf.or Gf.or hr34 bfR .nil qI)
   (qD (pv 0) C.either Mf.either Gf.either hr34 bfE .nil qI))))))) (qa (PE.or (qD (pv 1) C.always Mf.always Gf.always hr34 bfA .nil qI)
   (PE.or (qD (pv 1) C.never Mf.never Gf.never hr34 bfN .nil qI)
   (PE.or (qD (pv 1) C.letter Mf.letter Gf.letter hr34 bfL .nil qI)
   (PE.or (qD (pv 1) C.not Mf.not Gf.not hr34 bfO .nil qI)
   (PE.or (qD (pv 1) C.and Mf.and Gf.and hr34 bfD .nil qI)
   (PE.or (qD (pv 1) C.or Mf.or Gf.or hr34 bfR .nil qI)
   (qD (pv 1) C.either Mf.either Gf.either hr34 bfE .nil qI))))))) qb))))) rfl)
  (qd (j9 (pv 0) (zm GF hr14 mF kF bF (qa (zi (pv 0) (by rfl)) qb)) rfl))))))))),?_⟩
 rw [qkP,qkQ,show (" = ":Str)=qj [32,61,32] by decide +kernel];refine ⟨_,rfl,gv,abc,rfl,by decide,by omega,sgv,by decide,λ H1 g1=>⟨true,rfl,zB ?_⟩⟩;refine ⟨_,rfl,gp,xyz,rfl,by decide,by omega,sgp,by decide,λ H2 g2=>⟨true,rfl,zB ?_⟩⟩;have g12:=g1.trans g2;refine ⟨_,rfl,wl,_,rfl,.inl (g12.seq hw),_,_,rfl,rfl,_,rfl,?_⟩;rw [Xa,Xu (show ¬ (6:Int) < (ws.length:Int) by omega)];refine zB ?_;refine ⟨_,rfl,wl,rfl,⟨_,g12.seq hw⟩,?_⟩;refine kq (ws.map λ y=>vS y.text).length (λ i ys H'=>∃ ps:List Addr,ys=ps.map V.ref/\Paired (jT c H') ps (ws.take i)) (λ D hD=>⟨[],rfl,.nil⟩) ?_ ?_ (λ H' sm=>⟨_,(g12.trans sm).seq hw,Xe _⟩) ?_
 ·rintro i ys H' hi ⟨ps,rfl,hp⟩
  have:=hp.length
  rw [Xi] at this;rw [Xa];exact zz (by omega)
 ·rintro i ys H' D Y Z hi hD hH' sm ⟨ps,rfl,hp⟩ hY hZ;rw [Xa] at hi;refine ⟨⟨_,_,(g12.trans sm).seq hw,Xb (by rw [Xa];exact hi)⟩,?_⟩;rintro v H'' ⟨rfl,hv⟩;have ev:=hv _ ((g12.trans sm).seq hw);obtain ⟨y,hy,rfl⟩:=ql ev;refine ⟨⟨rfl,rfl⟩,?_⟩;refine ⟨_,rfl,_,rfl,_,rfl,_,_,rfl,rfl,by rw [qw,qw];exact qu (by omega),?_⟩;rw [zr];refine ⟨y,gv++gp,rfl,ok y (XD hy),l9,λ r a b H3 g3 e3 o1 o2=>?_⟩;refine hY _ _ (g3 _ _ hH') (sm.trans g3) ⟨ps++[r],by rw [XA];rfl,?_⟩;have eD:=g3 _ _ hH';have gX:zH H3 (upd H3 D (.lst (ps.map V.ref++[.ref r]))):=zH.updL eD;rw [zg hy];refine q8 (qE (λ p z hz=>?_) hp) (.cons ⟨a,b,gX _ _ e3 (λ _ z=>nomatch z),qM.monoX gX o1,qM.monoX gX o2⟩ .nil);obtain ⟨a',b',k1,k2,k3⟩:=hz.mono g3;exact ⟨a',b',gX _ _ k1 (λ _ z=>nomatch z),qM.monoX gX k2,qM.monoX gX k3⟩
 rintro D H3 ys hD sm hH3 ⟨ps,rfl,hps⟩;rw [Xa,List.take_length] at hps;have g3:=g12.trans sm;have hx3:=g3 _ _ hx;have lps:ps.length=ws.length:=hps.length;have hD3:H3 D=some (.lst (ps.map V.ref)):=hH3;refine ⟨_,rfl,_,rfl,x,CT,dx,[],rfl,hx3,cT,n1,by decide,?_⟩;refine ⟨_,rfl,_,rfl,x,CT,dx,_,rfl,qe,cT,n2,by show 1 < 1000;decide,?_⟩;obtain ⟨H5,hH5⟩:∃ H5,H5=upd (upd H3 x (.ins CT dx [("given_letters",vS gv)])) x (.ins CT dx [("given_letters",vS gv),("gap_letters",vS gp)]):=⟨_,rfl⟩;have b5:But x H3 H5:=by rw [hH5];exact ((But.refl x H3).upd).upd
 have hx5:H5 x=some (.ins CT dx [("given_letters",vS gv),("gap_letters",vS gp)]):=by rw [hH5];exact qe
 have hD5:=vK hx3 b5 hD3;have hp5:=qE (λ p y h=>jT.but nc hx3 b5 h) hps;have go5:∀ G:Hp->Prop,G H5->G (upd (upd H3 x (.ins CT dx [("given_letters",vS gv)])) x (.ins CT dx [("given_letters",vS gv),("gap_letters",vS gp)])):=λ G h=>hH5 ▸ h
 refine go5 _ ?_;have szd:∀ y∈ws,∀ t,(t=y.t∨t=y.u)->t.Of (gv++gp)/\t.Of zD/\t.wt<=20/\t.ht<=21/\Szd t:=λ y hy t ht=>by
  have oy:=ok y hy;have h1:t.Of (gv++gp):=by rcases ht with rfl | rfl;exact oy.t;exact oy.u
  have h2:t.nodes<=20:=by rcases ht with rfl | rfl;exact oy.tn;exact oy.un
  have h3:=j2 t;have h4:t.wt<=20:=by omega
  have h5:=h1.upL l9;exact ⟨h1,h5,h4,by have:=t.ht_wt;omega,h5,.inl (Nat.le_trans (je (zn XC t.lets_rise) λ c hc=>Tr.Of.has h1 (t.mem_lets.mp hc)) ll6)⟩
 refine ⟨_,rfl,D,rfl,⟨_,SqL.of hD5⟩,?_⟩;refine qbv (SqL.of hD5) (λ i=>(ws.take i).map λ y=>vS y.said) rfl (λ i hi=>?_) ?_ ?_
 ·rw [Xa,Xi];exact zz (by omega)
 ·intro i v H' D2 Y Z hv hD2 hH' sm' hY hZ;obtain ⟨p,hp,rfl⟩:=ql hv;obtain ⟨y,hy,pr⟩:=zk hp5 i p hp;obtain ⟨a,b,e1,o1,o2⟩:=pr.mono sm';obtain ⟨_,t9,tw,th,_⟩:=szd y (XD hy) y.t (.inl rfl);obtain ⟨_,u9,uw,uh,_⟩:=szd y (XD hy) y.u (.inr rfl);have lt:=y.t.text_len;have lu:=y.u.text_len;refine ⟨p,_,rfl,SqT.of e1,rfl,_,_,rfl,_,_,rfl,rfl,⟨rfl,rfl⟩,?_⟩;refine (jt qA (jt qA (dV (f:=zN) (n:=21) (κd:=kD) (κr:=kR) (κe:=kE) (λ _ _=>⟨rfl,rfl,rfl⟩) (λ _ _=>⟨_,_,rfl⟩) (λ _ _=>⟨_,_,rfl⟩) (λ _ _=>⟨_,_,rfl⟩) (dvA rfl) o1 th (by omega) t9) dC (by show _+3<=_;omega))
   (dV (f:=zN) (n:=21) (κd:=kD) (κr:=kR) (κe:=kE) (λ _ _=>⟨rfl,rfl,rfl⟩) (λ _ _=>⟨_,_,rfl⟩) (λ _ _=>⟨_,_,rfl⟩) (λ _ _=>⟨_,_,rfl⟩) (dvA rfl) o2 uh (by omega) u9) (by rw [Xd];show _+3+_<=_;omega)) _ _ _ at0 λ H'' g''=>?_
  exact hY _ _ (g'' _ _ hH') (sm'.trans g'') (yQ (f:=λ y:Wsh=>vS y.said) hy)
 intro a1 H6 hA1 s6 h6;rw [Xa,lps,List.take_length] at h6;have hx6:=s6 _ _ hx5;refine ⟨_,rfl,x,CT,dx,_,rfl,hx6,cT,n3,by show 2 < 1000;decide,?_⟩;obtain ⟨H7,hH7⟩:∃ H7,H7=upd H6 x (.ins CT dx [("given_letters",vS gv),("gap_letters",vS gp),("wish_texts",.ref a1)]):=⟨_,rfl⟩;have b7:But x H6 H7:=by rw [hH7];exact (But.refl x H6).upd
 have hx7:H7 x=some (.ins CT dx [("given_letters",vS gv),("gap_letters",vS gp),("wish_texts",.ref a1)]):=by rw [hH7];exact qe
 have hD7:=vK hx6 b7 (s6 _ _ hD5);have hA7:=vK hx6 b7 h6;have hp7:=qE (λ p y h=>jT.but nc hx6 b7 (jT.mono h s6)) hp5;have go7:∀ G:Hp->Prop,G H7->G (upd H6 x (.ins CT dx [("given_letters",vS gv),("gap_letters",vS gp),("wish_texts",.ref a1)])):=λ G h=>hH7 ▸ h
 refine go7 _ ?_;refine ⟨_,rfl,D,rfl,⟨_,SqL.of hD7⟩,?_⟩;refine kq (ps.map V.ref).length (λ i ys H'=>∃ qs:List Addr,ys=qs.map V.ref/\Paired (ze H') qs ((ws.take i).map Wsh.side)) (λ D hD=>⟨[],rfl,.nil⟩) ?_ ?_ (λ H' sm'=>⟨_,sm'.seq (SqL.of hD7),Xe _⟩) ?_
 ·rintro i ys H' hi ⟨qs,rfl,hq⟩
  have:=hq.length
  rw [Xa,Xi] at this;rw [Xa];exact zz (by omega)
 ·rintro i ys H' D2 Y Z hi hD2 hH' sm' ⟨qs,rfl,hq⟩ hY hZ;have hi':i < ps.length:=by rw [Xa] at hi;exact hi
  refine ⟨⟨_,_,sm'.seq (SqL.of hD7),Xb hi⟩,?_⟩;rintro v H'' ⟨rfl,hv⟩;have ev:=hv _ (sm'.seq (SqL.of hD7));obtain ⟨p,hp,rfl⟩:=ql ev;obtain ⟨y,hy,pr⟩:=zk hp7 i p hp;obtain ⟨a,b,e1,o1,o2⟩:=pr.mono sm';obtain ⟨_,t9,tw,th,ts⟩:=szd y (XD hy) y.t (.inl rfl);obtain ⟨_,u9,uw,uh,us⟩:=szd y (XD hy) y.u (.inr rfl);refine ⟨p,_,rfl,SqT.of e1,rfl,_,_,rfl,_,_,rfl,rfl,⟨rfl,rfl⟩,?_⟩;refine dfm (n:=21) (dvA rfl) o1 th ts _ _ _ at0 λ r1 Ha ga ea=>?_
  refine dfm (n:=21) (dvA rfl) (o2.mono ga) uh us _ _ _ at0 λ r2 Hb gb eb=>⟨qu (by show 2<=_;decide),λ pp hpp=>?_⟩
  have gc:=(ga.trans gb).to hpp (o:=.tup [.ref r1,.ref r2]);have eD:=gc _ _ hH';have gX:zH (upd Hb pp (.tup [.ref r1,.ref r2])) (upd (upd Hb pp (.tup [.ref r1,.ref r2])) D2 (.lst (qs.map V.ref++[.ref pp]))):=zH.updL eD;refine hY _ _ eD (sm'.trans gc) ⟨qs++[pp],by rw [XA];rfl,?_⟩;rw [zg hy,XA];have tup':∀ {z:Addr} {vs:List V},upd Hb pp (.tup [.ref r1,.ref r2]) z=some (.tup vs)->upd (upd Hb pp (.tup [.ref r1,.ref r2])) D2 (.lst (qs.map V.ref++[.ref pp])) z=some (.tup vs):=λ h=>gX _ _ h (λ _ z=>nomatch z)
  refine q8 (qE (λ p' z hz=>?_) hq) (.cons ⟨r1,r2,tup' qe,tup' ((qh.up hpp) _ _ (gb _ _ ea)),tup' ((qh.up hpp) _ _ eb)⟩ .nil);obtain ⟨x1,x2,k1,k2,k3⟩:=ze.mono hz gc;exact ⟨x1,x2,tup' k1,tup' k2,tup' k3⟩
 rintro a2 H8 ys hA2 s8 h8 ⟨qs,rfl,hqs⟩;rw [Xa,lps,List.take_length] at hqs;have hx8:=s8 _ _ hx7;refine ⟨_,rfl,x,CT,dx,_,rfl,hx8,cT,n4,by show 3 < 1000;decide,?_⟩;obtain ⟨H9,hH9⟩:∃ H9,H9=upd H8 x (.ins CT dx [("given_letters",vS gv),("gap_letters",vS gp),("wish_texts",.ref a1),("side_forms",.ref a2)]):=⟨_,rfl⟩;have b9:But x H8 H9:=by rw [hH9];exact (But.refl x H8).upd
 have hx9:H9 x=some (.ins CT dx [("given_letters",vS gv),("gap_letters",vS gp),("wish_texts",.ref a1),("side_forms",.ref a2)]):=by rw [hH9];exact qe
 have hA9:=vK hx8 b9 (s8 _ _ hA7);have hB9:=vK hx8 b9 h8;have hs9:=qE (λ p y h=>ze.but hx8 b9 h) hqs;have go9:∀ G:Hp->Prop,G H9->G (upd H8 x (.ins CT dx [("given_letters",vS gv),("gap_letters",vS gp),("wish_texts",.ref a1),("side_forms",.ref a2)])):=λ G h=>hH9 ▸ h
 refine go9 _ ?_;have hon:∀ z∈ws.map Wsh.side,On (gv++gp) z.1/\On (gv++gp) z.2:=λ z hz=>by
  obtain ⟨y,hy,rfl⟩:=List.mem_map.mp hz;exact ⟨Tr.on (szd y hy y.t (.inl rfl)).1,Tr.on (szd y hy y.u (.inr rfl)).1⟩
 refine ⟨_,rfl,x,CT,dx,_,_,rfl,hx9,cT,n4,rfl,a2,qs,ws.map Wsh.side,gv++gp,rfl,hB9,hs9,rl,ll6,hon,λ a3 HA gA eA=>?_⟩;have hxA:=gA _ _ hx9;refine ⟨_,rfl,x,CT,dx,_,rfl,hxA,cT,n5,by show 4 < 1000;decide,?_⟩;have bB:But x HA (upd HA x (.ins CT dx [("given_letters",vS gv),("gap_letters",vS gp),("wish_texts",.ref a1),("side_forms",.ref a2),("fault_form",.ref a3)])):=(But.refl x HA).upd;have B5:But x H H5:=(zI g3).trans b5;have B7:But x H H7:=(B5.trans (zI s6)).trans b7;have fr:∀ {Ha:Hp} {z:Addr},But x H Ha->(∃ o,Ha x=some o)->Ha z=none->H z=none:=λ {Ha z} b hxa hz=>by
  cases e:H z with
  | none=>rfl
  | some o =>
   by_cases hzx:z=x
   ·obtain ⟨o',ho'⟩:=hxa;rw [hzx,ho'] at hz;cases hz
   ·rw [b z o hzx e] at hz;cases hz
 refine q a1 a2 a3 qs _ ?_ (fr B5 ⟨_,hx5⟩ hA1) (fr B7 ⟨_,hx7⟩ hA2) ⟨qe,vK hxA bB (gA _ _ hA9),vK hxA bB (gA _ _ hB9),qE (λ p y h=>ze.but hxA bB (ze.mono h gA)) hs9,qcb hxA bB eA⟩;exact ((((((zI g3).trans b5).trans (zI s6)).trans b7).trans (zI s8)).trans b9).trans ((zI gA).trans bB)
theorem qjI:FnScope ["text","letters"] ["text","letters"] (qi qbk):=scF
theorem qjJ {f :Addr} {fd :FuncData} (F:Fun K "is_row" "is_row" qbk f fd) (T:Txt mg)
  : FnOk P w K mg base CX0 1 f fd ["text","letters"] (qhi):=by
 refine F.ok qjI (λ vs H Q E h=>?_) (λ cdv A outer s H vs Q E hr h=>?_)
 ·obtain ⟨p,ls,rfl,_⟩:=h;rfl
 obtain ⟨p,ls,rfl,l9,p9,hp,hl,q⟩:=h;have hu:=Nat.lt_of_succ_lt (zb hr);have hu1:=zb hr;have hu2:=Nat.lt_of_le_of_lt (Nat.add_le_add_left (by decide:2<=64) _) hr.units;refine ⟨_,(qd (qm (j8 zv (pv 0) (y2 PySem.F.plainAttrs_str PySem.F.slot_str_join PySem.F.type_str_join qa3 qk (qa (ye (qQ (NY:=["letter","text"]) (o:=1) (caps:=[0]) ["text"] rfl (by decide +kernel) (by decide +kernel) (by decide +kernel) (by decide +kernel)
    (by intro x hx;rw [List.mem_singleton.mp hx];exact .inl rfl) (qcO rfl rfl rfl vP) rfl) rfl
    (qd9 (pv 1)) (λ C0 s H fp pins=>qt (i:=0) (show (["letter","text"]:List Str).Nodup by decide +kernel) rfl (Or.inl rfl)) (λ C0 s H fp pins=>(qbZ (qp jW (pv 0) (pv 1) rfl))) (λ C0 s H fp pins=>(pv 0))) qb)) (qB _)))),?_⟩
 have hz:("":Str).length=0:=by decide
 have hs:(qj ls).cps.size=ls.length:=qw ls;refine ⟨_,rfl,rfl,?_⟩;refine ⟨_,rfl,_,rfl,?_⟩;refine qgj (λ j=>((ls.take j).filter λ c=>decide (c∈p)).map λ c=>vS [c]) rfl (λ j hj=>?_) ?_ ?_
 ·rw [Xa];have:=List.length_filter_le (λ c=>decide (c∈p)) (ls.take j);rw [Xi] at this;exact zz (by omega)
 ·intro j H6 D6 Y Z hj hD6 hH6 sm6 hY hZ;rw [hs] at hj;rw [qbz hj];have fs:=kZ (f:=λ c=>decide (c∈p)) hj;refine ⟨⟨rfl,rfl⟩,?_⟩;refine ⟨_,rfl,_,rfl,_,_,rfl,rfl,_,rfl,?_⟩;refine qaF (λ c=>?_) (λ c=>?_)
  ·refine ⟨_,rfl,hY _ _ hH6 sm6 ?_⟩;show List.map _ ((ls.take (j+1)).filter _)=_
   rw [fs,if_pos c,XA];rfl
  ·refine hZ _ hH6 sm6 ?_;show List.map _ ((ls.take (j+1)).filter _)=_
   rw [fs,if_neg c,List.append_nil]
 ·intro D6 H6 hD6 sm6 hH6;rw [hs,List.take_length,qbN hl (hl.sublist hp) (λ c h=>hp.subset h)] at hH6;refine ⟨_,D6,(p.map λ c=>[c]).map qj,rfl,rfl,.inl (SqL.of (by rw [hH6,qaR,zK])),?_,?_⟩
  ·rw [kC,hz,ym];show _+_ * 0<=_;omega
  rw [ku,ym];refine ⟨rfl,?_⟩;rw [show decide (V.str (qj p)=V.str (qj p))=true from qlc p];exact q _ sm6
end
section
variable {P:Program} {w:World} {K:PySem.W.Frag} {mg:Str->Option Value} {base:Heap}
def Scr (K:PySem.W.Frag) (H:Hp) (a:Addr) (ns:List Int):Prop:=SqL K H a (ns.map V.int)/\ns.length<=63
theorem Scr.mono {K:PySem.W.Frag} {H H':Hp} {a:Addr} {ns:List Int} (h:Scr K H a ns) (g:qh H H'):Scr K H' a ns:=⟨g.seq h.1,h.2⟩
theorem qhk {ns:List Int} {k:Int} (h0:0<=k) (h:k < (ns.length:Int)):∃ v:Int,atI (ns.map V.int) k=some (.int v):=by
 have hk:k.toNat < ns.length:=by omega
 have ek:k=((k.toNat:Nat):Int):=by omega
 have:=va (xs:=ns.map V.int) (j:=k.toNat) (v:=.int ns[k.toNat]) (by rw [Xw,Xb hk];rfl)
 rw [<- ek] at this;exact ⟨_,this⟩
theorem qh8 {c:Prop} [Decidable c] {A B:Prop} (R:Int->Prop) (hA:c->(∀ z,R z)->A) (hB:¬ c->(∀ z,R z)->B) (hC:∀ z,R z):if c then A else B:=by
 by_cases h:c
 ·rw [if_pos h];exact hA h hC
 ·rw [if_neg h];exact hB h hC
def jw (K:PySem.W.Frag):Sp:=λ vs H Q _=>∃ (a:Addr) (ns:List Int) (k:Int),vs=[.ref a,.int k]/\Scr K H a ns/\0<=k/\k<=100000/\∀ z H',qh H H'->0<=z->z < 1000000->Q (.int z) H'
theorem j3:FnScope ["_law_script","_law_k","_law_cell","_law_turn"] ["_law_script","_law_k"] (qi jM):=scF
theorem qjK {f :Addr} {fd :FuncData} (F:Fun K "_law_mixed" "_law_mixed" jM f fd) (T:Txt mg)
  : FnOk P w K mg base CX0 1 f fd ["_law_script","_law_k"] (jw K):=by
 refine F.ok j3 (λ vs H Q E h=>?_) (λ cdv A outer s H vs Q E hr h=>?_)
 ·obtain ⟨a,ns,k,rfl,_⟩:=h;rfl
 obtain ⟨a,ns,k,rfl,hS0,k0,k1,q⟩:=h;have hu:=Nat.lt_of_succ_lt (zb hr);have hu1:=zb hr;have hu2:=Nat.lt_of_le_of_lt (Nat.add_le_add_left (by decide:2<=64) _) hr.units;refine ⟨_,(qc (qv (i:=2) j3.nd rfl (Or.inl rfl) qg)
  (qc (qW (qp qaX (qz qH (by rfl) T.len PySem.boot_len (qa (pv 0) qb)) qg (qB _))
   (qd (qv (i:=2) j3.nd rfl (Or.inl rfl) (qU zp (pv 0) (qo zh (pv 1) (qz qH (by rfl) T.len PySem.boot_len (qa (pv 0) qb))) (λ _ _=>rfl)))) qy)
  (qc (qW (PW.pt (qdU (qp qaX (qz qH (by rfl) T.len PySem.boot_len (qa (pv 0) qb)) qg (qB _))
   (qbX (qp zv (qo zh (qU zp (pv 0) qg (λ _ _=>rfl)) qg) qg (qB _)))))
   (qc (qv (i:=2) j3.nd rfl (Or.inl rfl) (qo zP (pv 2) qg))
  (qc (yE PassesOwn.never rfl (yj (by rfl) T.range (qa (qz (qht rfl) (by rfl) T.min qlY (qa (qo zP (pv 1) (qz qH (by rfl) T.len PySem.boot_len (qa (pv 0) qb))) (qa qg qb))) qb)) (qt (i:=3) j3.nd rfl (Or.inl rfl))
  (qd (qv (i:=2) j3.nd rfl (Or.inl rfl) (qo zP (pv 2) qg))))
  (qd (qm (qo zh (pv 2) qg))))) qy)
  (qd (qm (qo zh (qo qbq (qo zh (qo qbq (qo zS (qo zS (qo zh (pv 2) qg) (qo qbq qg (pv 1))) qg) qg) qg) qg) qg)))))),?_⟩
 obtain ⟨hS,h63⟩:=hS0;have hl:(ns.map V.int).length=ns.length:=Xa _;have q':∀ z:Int,0<=z->z < 1000000->Q (.int z) H:=λ z h1 h2=>q z H (qh.refl H) h1 h2
 refine ⟨_,rfl,a,_,rfl,.inl hS,_,_,rfl,rfl,_,rfl,?_⟩;rw [hl];refine qh8 ?R (λ c1 C=>?hA) (λ c1 C=>?hB) ?hC
 case hA =>
  have c1':(0:Int) < (ns.length:Int):=of_decide_eq_true c1;obtain ⟨v,hv⟩:=qhk (ns:=ns) (k:=k % (ns.length:Int)) (Int.emod_nonneg k (by omega)) (Int.emod_lt_of_pos k c1');refine ⟨_,rfl,_,rfl,_,rfl,a,_,rfl,.inl hS,?_⟩;rw [hl];refine ⟨_,_,rfl,rfl,c1',a,_,_,_,rfl,rfl,hS,hv,?_⟩;exact C v
 case hB=>exact C 0
 intro c;have fin:∀ z:Int,Q (.int (z % 999983)) H:=λ z=>q' _ (Int.emod_nonneg z (by decide)) (by have:=Int.emod_lt_of_pos z (b:=999983) (by decide);omega)
 refine ⟨_,rfl,a,_,rfl,.inl hS,_,_,rfl,rfl,_,rfl,?_⟩;rw [hl];have kb:-(2 ^ 64) < k/\k < 2 ^ 64:=⟨by omega,by omega⟩;refine qaF (λ c1=>?_) (λ c1=>?_)
 ·have c1':(0:Int) < (ns.length:Int):=of_decide_eq_true c1;obtain ⟨v0,hv0⟩:=qhk (ns:=ns) (k:=0) (by decide) c1';refine ⟨_,rfl,a,_,0,_,rfl,rfl,hS,hv0,_,_,rfl,rfl,(show (0:Int) < 2 by decide),rfl,_,rfl,?_⟩;refine qaF (λ c2=>?_) (λ c2=>?_)
  ·refine ⟨_,rfl,_,_,rfl,rfl,⟨by decide,by decide⟩,?_⟩;refine ⟨_,rfl,_,rfl,a,_,rfl,.inl hS,?_⟩;rw [hl];refine ⟨_,_,rfl,rfl,⟨by omega,by omega⟩,_,_,rfl,?_⟩;have d0:0<=k / (ns.length:Int):=Int.ediv_nonneg k0 (by omega);refine ⟨_,rfl,?_,?_,?_⟩
   ·show -(2 ^ 62)<=(if (24:Int) < k / (ns.length:Int) then (24:Int) else k / (ns.length:Int))
    split <;> omega
   ·show (if (24:Int) < k / (ns.length:Int) then (24:Int) else k / (ns.length:Int)) < 2 ^ 62
    split <;> omega
   refine yF (λ i σ H1=>∃ (c:Int) (v:Option V),σ=[some (.ref a),some (.int k),some (.int c),v]/\H1=H) ⟨_,none,rfl,rfl⟩ ?_ ?_
   ·rintro i σ H1 hi ⟨c,v,rfl,rfl⟩;refine ⟨_,rfl,_,_,rfl,rfl,⟨by decide,by decide⟩,?_⟩;exact ⟨_,_,rfl,rfl⟩
   ·rintro σ H1 ⟨c,v,rfl,rfl⟩;refine ⟨_,rfl,_,_,rfl,rfl,(show (0:Int) < 4096 by decide),?_⟩;exact q' _ (Int.emod_nonneg _ (by decide)) (by have:=Int.emod_lt_of_pos c (b:=4096) (by decide);omega)
  ·refine ⟨_,rfl,_,_,rfl,rfl,(show (0:Int) < 1000003 by decide),_,rfl,_,_,rfl,rfl,.inr kb,_,_,rfl,rfl,_,_,rfl,rfl,_,_,rfl,rfl,.inr ⟨by decide,by decide⟩,_,_,rfl,rfl,(show (0:Int) < 1000033 by decide),_,_,rfl,rfl,.inr ⟨by decide,by decide⟩,_,_,rfl,rfl,(show (0:Int) < 999983 by decide),?_⟩;exact fin _
 ·refine zB ?_;refine ⟨_,rfl,_,_,rfl,rfl,(show (0:Int) < 1000003 by decide),_,rfl,_,_,rfl,rfl,.inr kb,_,_,rfl,rfl,_,_,rfl,rfl,_,_,rfl,rfl,.inr ⟨by decide,by decide⟩,_,_,rfl,rfl,(show (0:Int) < 1000033 by decide),_,_,rfl,rfl,.inr ⟨by decide,by decide⟩,_,_,rfl,rfl,(show (0:Int) < 999983 by decide),?_⟩;exact fin _
def qgF:List (List Nat):=[[97,98,99],[97,98],[97],[],[98,99],[99],[97,99],[98]]
def qgG:List (List Nat):=[[120,121],[120,121,122],[120],[],[121,122],[122],[120,122],[120,121]]
theorem qgH:[V.str "abc",V.str "ab",V.str "a",V.str "",V.str "bc",V.str "c",V.str "ac",V.str "b"]=qgF.map vS:=by
 have e1:("abc":Str)=qj [97,98,99]:=by decide +kernel
 have e2:("ab":Str)=qj [97,98]:=by decide +kernel
 have e3:("a":Str)=qj [97]:=by decide +kernel
 have e4:("":Str)=qj []:=by decide +kernel
 have e5:("bc":Str)=qj [98,99]:=by decide +kernel
 have e6:("c":Str)=qj [99]:=by decide +kernel
 have e7:("ac":Str)=qj [97,99]:=by decide +kernel
 have e8:("b":Str)=qj [98]:=by decide +kernel
 rw [e1,e2,e3,e4,e5,e6,e7,e8];rfl
theorem qgI:[V.str "xy",V.str "xyz",V.str "x",V.str "",V.str "yz",V.str "z",V.str "xz",V.str "xy"]=qgG.map vS:=by
 have e1:("xy":Str)=qj [120,121]:=by decide +kernel
 have e2:("xyz":Str)=qj [120,121,122]:=by decide +kernel
 have e3:("x":Str)=qj [120]:=by decide +kernel
 have e4:("":Str)=qj []:=by decide +kernel
 have e5:("yz":Str)=qj [121,122]:=by decide +kernel
 have e6:("z":Str)=qj [122]:=by decide +kernel
 have e7:("xz":Str)=qj [120,122]:=by decide +kernel
 rw [e1,e2,e3,e4,e5,e6,e7];rfl
theorem qjL {l:List (List Nat)} {i:Int} (h0:0<=i) (h:i < (l.length:Int)):∃ c∈l,atI (l.map vS) i=some (vS c):=by
 have hk:i.toNat < l.length:=by omega
 have:=va (xs:=l.map vS) (j:=i.toNat) (v:=vS l[i.toNat]) (by rw [Xw,Xb hk];rfl)
 rw [show ((i.toNat:Nat):Int)=i by omega] at this;exact ⟨_,List.getElem_mem hk,this⟩
def qgJ (K:PySem.W.Frag):Sp:=λ vs H Q _=>∃ (a:Addr) (ns:List Int),vs=[.ref a]/\Scr K H a ns/\∀ r (gv gp:List Nat) H',qh H H'->H' r=some (.tup [vS gv,vS gp])->gv.Sublist [97,98,99]->gp.Sublist [120,121,122]->Q (.ref r) H'
theorem qeB:FnScope ["_law_script","_law_cell","_law_givens"] ["_law_script"] (qi yL):=scF
theorem qkS {f fw_mixed:Addr} {fd dw_mixed:FuncData} (F:Fun K "_law_letters" "_law_letters" yL f fd) (T:Txt mg)
  (Gw_mixed:FnOk P w K mg base CX0 1 fw_mixed dw_mixed ["_law_script","_law_k"] (jw K)) (bw_mixed:qf K dw_mixed ["_law_script","_law_k"] []) (kw_mixed:W.keepIn K (.ref fw_mixed)=true) (mw_mixed:mg "_law_mixed"=some (.ref fw_mixed))
  : FnOk P w K mg base CX0 2 f fd ["_law_script"] (qgJ K):=by
 refine F.ok qeB (λ vs H Q E h=>?_) (λ cdv A outer s H vs Q E hr h=>?_)
 ·obtain ⟨a,ns,rfl,_⟩:=h;rfl
 obtain ⟨a,ns,rfl,hS,q⟩:=h;have hu:=Nat.lt_of_succ_lt (zb hr);have hu1:=zb hr;have hu2:=Nat.lt_of_le_of_lt (Nat.add_le_add_left (by decide:2<=64) _) hr.units;have hr_1:Room 1 _:=hr.mono (by decide);refine ⟨_,(qc (qv (i:=1) qeB.nd rfl (Or.inl rfl) (zm Gw_mixed hr_1 mw_mixed kw_mixed bw_mixed (qa (pv 0) (qa qg qb))))
  (qc (qv (i:=2) qeB.nd rfl (Or.inl rfl) (qU zp (yh (qa qk (qa qk (qa qk (qa qk (qa qk (qa qk (qa qk (qa qk qb))))))))) (qo zh (pv 1) qg) (λ _ _=>rfl)))
  (qd (qm (zl (qa (pv 2) (qa (qU zp (yh (qa qk (qa qk (qa qk (qa qk (qa qk (qa qk (qa qk (qa qk qb))))))))) (qo zh (qo zP (pv 1) qg) qg) (λ _ _=>rfl)) qb))))))),?_⟩
 refine ⟨_,rfl,a,ns,0,rfl,hS,by decide,by decide,λ z H1 g1 z0 z1=>?_⟩;refine ⟨qu (by show 8<=_;decide),λ p hp=>?_⟩;have n0:=Int.emod_nonneg z (b:=8) (by decide);have n1:=Int.emod_lt_of_pos z (b:=8) (by decide);obtain ⟨gv,hgv,hat⟩:=qjL (l:=qgF) n0 n1;rw [<- qgH] at hat
 have s1:gv.Sublist [97,98,99]:=(by decide:∀ l∈qgF,l.Sublist [97,98,99]) gv hgv;refine ⟨_,rfl,_,_,rfl,rfl,(show (0:Int) < 8 by decide),p,_,_,_,rfl,rfl,SqL.of qe,hat,?_⟩;have g2:=g1.to hp (o:=.lst [V.str "abc",V.str "ab",V.str "a",V.str "",V.str "bc",V.str "c",V.str "ac",V.str "b"]);have m0:=Int.emod_nonneg (z / 8) (b:=8) (by decide);have m1:=Int.emod_lt_of_pos (z / 8) (b:=8) (by decide);obtain ⟨gp,hgp,hat2⟩:=qjL (l:=qgG) m0 m1;rw [<- qgI] at hat2;have s2:gp.Sublist [120,121,122]:=(by decide:∀ l∈qgG,l.Sublist [120,121,122]) gp hgp;refine ⟨_,rfl,qu (by show 8<=_;decide),λ p2 hp2=>?_⟩;have g3:=g2.to hp2 (o:=.lst [V.str "xy",V.str "xyz",V.str "x",V.str "",V.str "yz",V.str "z",V.str "xz",V.str "xy"]);refine ⟨_,rfl,_,_,rfl,rfl,⟨by decide,by decide⟩,_,_,rfl,rfl,(show (0:Int) < 8 by decide),p2,_,_,_,rfl,rfl,SqL.of qe,hat2,qu (by show 2<=_;decide),λ r hr'=>?_⟩;exact q r gv gp _ (g3.to hr') qe s1 s2
end
section
variable {P:Program} {w:World} {K:PySem.W.Frag} {mg:Str->Option Value} {base:Heap}
def qeC:List Nat:=[97,108,119,97,121,115]
def qeD:List Nat:=[110,101,118,101,114]
def qjM:List Nat:=[110,111,116]
def qbC:List Nat:=[97,110,100]
def wOr:List Nat:=[111,114]
def jd:List Nat:=[101,105,116,104,101,114]
theorem vL:("always":Str)=qj qeC:=by decide +kernel
theorem qdP:("never":Str)=qj qeD:=by decide +kernel
theorem qcc:("not":Str)=qj qjM:=by decide +kernel
theorem qeE:("and":Str)=qj qbC:=by decide +kernel
theorem qgK:("or":Str)=qj wOr:=by decide +kernel
theorem qc9:("either":Str)=qj jd:=by decide +kernel
def opW (op:Nat):List Nat:=if op=38 then qbC else if op=124 then wOr else jd
def TrW (H:Hp):Tr->V->Prop
 | .letter c,v=>∃ a,v=.ref a/\H a=some (.tup [vS qew,vS [c]])
 | .one,v=>∃ a,v=.ref a/\H a=some (.tup [vS qeC])
 | .zero,v=>∃ a,v=.ref a/\H a=some (.tup [vS qeD])
 | .neg t,v=>∃ a x,v=.ref a/\H a=some (.tup [vS qjM,x])/\TrW H t x
 | .bin op t u,v=>∃ a x y,v=.ref a/\H a=some (.tup [vS (opW op),x,y])/\TrW H t x/\TrW H u y
theorem TrW.mono {H H':Hp} (g:zF H H'):∀ {t:Tr} {v:V},TrW H t v->TrW H' t v
 | .letter c,_,⟨a,e,h⟩=>⟨a,e,g _ _ h⟩
 | .one,_,⟨a,e,h⟩=>⟨a,e,g _ _ h⟩
 | .zero,_,⟨a,e,h⟩=>⟨a,e,g _ _ h⟩
 | .neg t,_,⟨a,x,e,h,r⟩=>⟨a,x,e,g _ _ h,TrW.mono g r⟩
 | .bin op t u,_,⟨a,x,y,e,h,r,r'⟩=>⟨a,x,y,e,g _ _ h,TrW.mono g r,TrW.mono g r'⟩
def qcd:Sp:=λ vs H Q _=>∃ (m:Int) (ls:List Nat),vs=[.int m,vS ls]/\0<=m/\ls.length<=9/\∀ t v H',qh H H'->TrW H' t v->t.Of ls->t.wt=1->Q v H'
theorem qkT:FnScope ["_law_cell","_law_letters_here"] ["_law_cell","_law_letters_here"] (qi vD):=scF
theorem qkU {f :Addr} {fd :FuncData} (F:Fun K "_law_leaf" "_law_leaf" vD f fd) (T:Txt mg)
  : FnOk P w K mg base CX0 1 f fd ["_law_cell","_law_letters_here"] (qcd):=by
 refine F.ok qkT (λ vs H Q E h=>?_) (λ cdv A outer s H vs Q E hr h=>?_)
 ·obtain ⟨m,ls,rfl,_⟩:=h;rfl
 obtain ⟨m,ls,rfl,m0,l9,q⟩:=h;have hu:=Nat.lt_of_succ_lt (zb hr);have hu1:=zb hr;have hu2:=Nat.lt_of_le_of_lt (Nat.add_le_add_left (by decide:2<=64) _) hr.units;refine ⟨_,(qc (qW (qp zv (qo zh (pv 0) qg) qg (qB _))
   (qd (qm (zl (qa qk qb)))) qy)
  (qc (qW (PW.pt (vR (qp zv (qo zh (pv 0) qg) qg (qB _))
   (jP (qp zv (pv 1) qk (qB _)))))
   (qd (qm (zl (qa qk qb)))) qy)
  (qd (qm (zl (qa qk (qa (qU qlB (pv 1) (qo zh (qo zP (pv 0) qg) (qz y3 (by rfl) T.len PySem.boot_len (qa (pv 1) qb))) (λ _ _=>rfl)) qb))))))),?_⟩
 rw [vL,qdP,qaS,show ("":Str)=qj [] by decide +kernel];have hl:(qj ls).length=ls.length:=qw ls;refine ⟨_,rfl,_,_,rfl,rfl,(show (0:Int) < 9 by decide),rfl,_,rfl,?_⟩;refine qaF (λ c1=>?_) (λ c1=>?_)
 ·refine ⟨qu (by show 1<=_;decide),λ p hp=>?_⟩;exact q .one _ _ (qh.up hp) ⟨p,rfl,qe⟩ trivial rfl
 have never:qj1 (qmw (vO (tC (.str (qj qeD))) yM)) { nx:=λ x H'=>Q V.non H',rt:=Q } [some (.int m),some (vS ls)] H:=⟨qu (by show 1<=_;decide),λ p hp=>q .zero _ _ (qh.up hp) ⟨p,rfl,qe⟩ trivial rfl⟩;refine ⟨_,rfl,_,_,rfl,rfl,(show (0:Int) < 9 by decide),rfl,_,rfl,?_⟩;refine qaF (λ c2=>?_) (λ c2=>?_)
 ·exact qaw never
 refine ⟨_,rfl,rfl,_,rfl,?_⟩;refine qaF (λ c3=>?_) (λ c3=>?_)
 ·exact never
 have ne:0 < ls.length:=by
  cases ls with
  | nil=>exact absurd rfl c3
  | cons x l=>simp
 have i0:=Int.emod_nonneg (m / 9) (b:=(ls.length:Int)) (by omega);have i1:=Int.emod_lt_of_pos (m / 9) (b:=(ls.length:Int)) (by omega);obtain ⟨c,hc,hat⟩:=qmT (l:=ls) i0 i1;refine ⟨_,rfl,_,rfl,_,_,rfl,rfl,⟨by decide,by decide⟩,_,rfl,_,rfl,by rw [hl];exact qu (by omega),?_⟩;rw [hl];refine ⟨_,_,rfl,rfl,(by show (0:Int) < (ls.length:Int);omega),_,_,c,rfl,rfl,by rw [hl];exact qu (by omega),hat,qu (by show 2<=_;decide),λ p hp=>?_⟩;exact q (.letter c) _ _ (qh.up hp) ⟨p,rfl,qe⟩ hc rfl
inductive StW (ls:List Nat) (H:Hp):List V->Nat->Prop where
 | nil:StW ls H [] 0
 | snoc {ws:List V} {n:Nat} {x:V} {t:Tr} (h:StW ls H ws n) (tr:TrW H t x) (of:t.Of ls):StW ls H (ws++[x]) (n+t.wt)
theorem StW.mono {ls:List Nat} {H H':Hp} {vs:List V} {n:Nat} (h:StW ls H vs n) (g:zF H H'):StW ls H' vs n:=by
 induction h with
 | nil=>exact .nil
 | snoc h tr of ih=>exact ih.snoc (tr.mono g) of
theorem StW.len {ls:List Nat} {H:Hp} {vs:List V} {n:Nat} (h:StW ls H vs n):vs.length<=n:=by
 induction h with
 | nil=>exact Xe _
 | @snoc ws n x t h tr of ih=>rw [Xd,Xj];have:=t.wt_pos;omega
theorem StW.top {ls:List Nat} {n:Nat} {H:Hp} {vs:List V} (h:StW ls H vs n) (hl:0 < vs.length):∃ ws x t k,vs=ws++[x]/\TrW H t x/\t.Of ls/\StW ls H ws k/\n=k+t.wt:=by
 cases h with
 | nil=>cases hl
 | snoc h tr of=>exact ⟨_,_,_,_,rfl,tr,of,h,rfl⟩
theorem qda (ws:List V) (x y:V):(ws++[x]).set ws.length y=ws++[y]:=by simp
theorem qjN:[V.str (qj qbC),V.str (qj wOr),V.str (qj jd),V.str (qj qbC)]=([38,124,43,38].map opW).map vS:=rfl
theorem qh9:[V.str (qj jd),V.str (qj qbC),V.str (qj wOr)]=([43,38,124].map opW).map vS:=rfl
theorem qhl {l:List Nat} {i:Int} (h0:0<=i) (h:i < (l.length:Int)):∃ c∈l,atI ((l.map opW).map vS) i=some (vS (opW c)):=by
 have hk:i.toNat < l.length:=by omega
 have:=va (xs:=(l.map opW).map vS) (j:=i.toNat) (v:=vS (opW l[i.toNat])) (by rw [Xw,Xw,Xb hk];rfl)
 rw [show ((i.toNat:Nat):Int)=i by omega] at this;exact ⟨_,List.getElem_mem hk,this⟩
def qgL (K:PySem.W.Frag):Sp:=λ vs H Q _=>∃ (a:Addr) (ns:List Int) (at' m:Int) (ls:List Nat),vs=[.ref a,.int at',.int m,vS ls]/\Scr K H a ns/\0<=at'/\at'<=1000/\1<=m/\m<=100/\ls.length<=9 /\
 ∀ t v H',qh H H'->TrW H' t v->t.Of ls->(t.wt:Int)<=m->Q v H'
theorem qat:FnScope ["_law_script","_law_at","_law_many","_law_letters_here","_law_stack","_law_k","_law_cell","_law_other"] ["_law_script","_law_at","_law_many","_law_letters_here"] (qi vE):=scF
theorem qkV {fm fl f:Addr} {fdm fdl fd:FuncData} (F:Fun K "_law_tree" "_law_tree" vE f fd) (T:Txt mg)
  (Gm:FnOk P w K mg base CX0 1 fm fdm ["_law_script","_law_k"] (jw K)) (bm:qf K fdm ["_law_script","_law_k"] []) (km:W.keepIn K (.ref fm)=true) (mm:mg "_law_mixed"=some (.ref fm))
  (Gl:FnOk P w K mg base CX0 1 fl fdl ["_law_cell","_law_letters_here"] qcd) (bl:qf K fdl ["_law_cell","_law_letters_here"] []) (kl:W.keepIn K (.ref fl)=true) (ml:mg "_law_leaf"=some (.ref fl)):FnOk P w K mg base CX0 2 f fd ["_law_script","_law_at","_law_many","_law_letters_here"] (qgL K):=by
 refine F.ok qat (λ vs H Q E h=>?_) (λ cdv A outer s H vs Q E hr h=>?_)
 ·obtain ⟨a,ns,at',m,ls,rfl,_⟩:=h;rfl
 obtain ⟨a,ns,at',m,ls,rfl,hS,a0,a1,m0,m1,l9,q⟩:=h;have hr1:Room 1 _:=hr.mono (by decide);refine ⟨_,(qc (qv (i:=4) qat.nd rfl (Or.inl rfl) (yh qb))
  (qc (yE PassesOwn.never rfl (yj (by rfl) T.range (qa (pv 2) qb)) (qt (i:=5) qat.nd rfl (Or.inl rfl))
  (qc (qv (i:=6) qat.nd rfl (Or.inl rfl) (zm Gm hr1 mm km bm (qa (pv 0) (qa (qo zS (pv 1) (pv 5)) qb))))
  (qd (qW (PW.pt (vR (qp qmu (qo zh (pv 6) qg) qg (qB _)) (jP (qp zv (qz qH (by rfl) T.len PySem.boot_len (qa (pv 4) qb)) qg (qB _))))) (qd (yo (y2 PySem.F.plainAttrs_list PySem.F.slot_list_append PySem.F.type_list_append zA (pv 4) (qa (zm Gl hr1 ml kl bl (qa (qo zP (pv 6) qg) (qa (pv 3) qb))) qb)))) (qd (qW (qp zv (qo zh (pv 6) qg) qg (qB _)) (qd (qch (zl (qa qk (qa (qU zp (pv 4) (qaW j7 qg) (λ _ _=>rfl)) qb))) (qdV (pv 4) (qaW j7 qg) qaY))) (qd (qW (qp qaX (qz qH (by rfl) T.len PySem.boot_len (qa (pv 4) qb)) qg (qB _)) (qc (qv (i:=7) qat.nd rfl (Or.inl rfl) (qcr PySem.F.plainAttrs_list PySem.F.slot_list_pop PySem.F.type_list_pop qd6 (pv 4)))
  (qd (qch (zl (qa (qU zp (yh (qa qk (qa qk (qa qk (qa qk qb))))) (qo qfX (qo zh (pv 6) qg) qg) (λ _ _=>rfl)) (qa (qU zp (pv 4) (qaW j7 qg) (λ _ _=>rfl)) (qa (pv 7) qb)))) (qdV (pv 4) (qaW j7 qg) qaY)))) qy))))))))
  (qc (qeQ PassesOwn.never (qp qaX (qz qH (by rfl) T.len PySem.boot_len (qa (pv 4) qb)) qg (qB _)) (qc (qv (i:=7) qat.nd rfl (Or.inl rfl) (qcr PySem.F.plainAttrs_list PySem.F.slot_list_pop PySem.F.type_list_pop qd6 (pv 4)))
  (qd (qch (zl (qa (qU zp (yh (qa qk (qa qk (qa qk qb)))) (qo zh (qz qH (by rfl) T.len PySem.boot_len (qa (pv 4) qb)) qg) (λ _ _=>rfl)) (qa (qU zp (pv 4) (qaW j7 qg) (λ _ _=>rfl)) (qa (pv 7) qb)))) (qdV (pv 4) (qaW j7 qg) qaY)))))
  (qd (qm (qU zp (pv 4) qg (λ _ _=>rfl))))))),?_⟩
 rw [qcc,qeE,qgK,qc9];have eight:(0:Int) < 8:=by decide
 refine ⟨Nat.zero_le _,λ tb htb=>?_⟩;have fT:H tb=none:=htb;refine ⟨_,rfl,m,rfl,by omega,by omega,?_⟩;refine yF (λ i σ H'=>∃ (vs:List V) (n:Nat) (v5 v6 v7:Option V),σ=[some (.ref a),some (.int at'),some (.int m),some (vS ls),some (.ref tb),v5,v6,v7]/\qh H H'/\H' tb=some (.lst vs)/\StW ls H' vs n/\n<=i/\(0 < i->0 < vs.length))
  ⟨[],0,none,none,none,rfl,qh.up htb,qe,.nil,Xe _,λ h=>absurd h (XC _)⟩ ?_ ?_
 ·rintro i σ H3 hi ⟨vs,n,v5,v6,v7,rfl,g3,e3,sk,hn,hv⟩;have hi':(i:Int) < m:=by omega
  have lv:=sk.len;refine ⟨_,rfl,_,rfl,_,rfl,_,_,rfl,rfl,a,ns,_,rfl,hS.mono g3,?_,?_,λ z H4 g4 z0 z1=>?_⟩
  ·show (0:Int)<=at'+(0+(i:Int));omega
  ·show at'+(0+(i:Int))<=100000;omega
  have e4:=g4 _ _ e3;have g34:=g3.trans g4;have sk4:=sk.mono (qZ g4);dsimp only [vN];refine yA (qnL qA (qnM qA (qle qA (dvA rfl) eight) dC) (zq (dIE qA (qnN (K:=K) (by rfl) (SqL.of e4)) dC))) at0 (λ hb H5 g5=>?_) (λ hb H5 g5=>?_)
  ·have e5:=g5 _ _ e4;refine ⟨_,rfl,.inl ⟨rfl,_,SqL.of e5⟩,_,rfl,_,_,rfl,rfl,⟨by decide,by decide⟩,_,rfl,z / 8,ls,rfl,Int.ediv_nonneg z0 (by decide),l9,λ t' v' H6 g6 tr' tof' tw'=>⟨tb,vs,v',rfl,rfl,g6 _ _ e5,zz (by omega),?_⟩⟩;have e6:=g6 _ _ e5;refine ⟨vs++[v'],n+t'.wt,_,_,_,rfl,((g34.trans g5).trans g6).at fT,qe,?_,by omega,λ _=>by simp⟩;exact (((sk4.mono (qZ g5)).mono (qZ g6)).mono (zF.updL e6)).snoc (tr'.mono (zF.updL e6)) tof'
  have e5:=g5 _ _ e4;have g35:=g34.trans g5;rw [Bool.or_eq_false_iff] at hb;have hb1:¬ z % 8 < 3:=of_decide_eq_false hb.1;have hb2:¬ ((vs.length:Nat):Int)=0:=of_decide_eq_false hb.2;have z80:=Int.emod_nonneg z (b:=8) (by decide);have z81:=Int.emod_lt_of_pos z (b:=8) (by decide);obtain ⟨ws,x,t,k,rfl,tx,ox,skw,rfl⟩:=(sk4.mono (qZ g5)).top (by omega);refine yA (zq (dIE qA (qle qA (dvA rfl) eight) dC)) at0 (λ hb3 H6 g6=>?_) (λ hb3 H6 g6=>?_)
  ·have e6:=g6 _ _ e5;refine ⟨_,rfl,_,rfl,tb,_,_,_,rfl,rfl,SqL.of e6,vW ws x,qu (by show 2<=_;decide),λ p hp=>?_⟩;have e7:upd H6 p (.tup [vS qjM,x]) tb=some (.lst (ws++[x])):=(qh.up hp) _ _ e6;refine ⟨_,rfl,_,rfl,tb,_,_,ws.length,rfl,rfl,e7,by rw [Xd,Xj];exact qbi _,?_⟩;rw [qda];have cc:zF H5 (upd (upd H6 p (.tup [vS qjM,x])) tb (.lst (ws++[.ref p]))):=((qZ g6).trans (qZ (qh.up hp))).trans (zF.updL e7);refine ⟨ws++[.ref p],k+(t.wt+1),_,_,_,rfl,((g35.trans g6).to hp).at fT,qe,?_,by omega,λ _=>by simp⟩;exact StW.snoc (t:=.neg t) (skw.mono cc) ⟨p,x,rfl,(zF.updL e7) _ _ qe,tx.mono cc⟩ ox
  have hb3':¬ z % 8=3:=of_decide_eq_false hb3;have e6:=g6 _ _ e5;refine ⟨_,rfl,tb,_,rfl,.inl (SqL.of e6),_,_,rfl,rfl,_,rfl,?_⟩;refine qaF (λ cw=>?_) (λ cw=>?_)
  ·have cw':(1:Int) < (((ws++[x]).length:Nat):Int):=of_decide_eq_true cw;rw [Xd,Xj] at cw';obtain ⟨us,y,t',k',rfl,ty,oy,sku,rfl⟩:=skw.top (by omega);refine ⟨_,rfl,.inl ⟨rfl,_,SqL.of e6⟩,tb,_,x,rfl,rfl,e6,qaq _ x,?_⟩;rw [List.dropLast_concat];have e7:upd H6 tb (.lst (us++[y])) tb=some (.lst (us++[y])):=qe;obtain ⟨c,hc,hat⟩:=qhl (l:=[38,124,43,38]) (i:=z % 8 - 4) (by omega) (by show z % 8 - 4 < 4;omega);rw [<- qjN] at hat
   refine ⟨qu (by show 4<=_;decide),λ pl hpl=>?_⟩;have e8:upd (upd H6 tb (.lst (us++[y]))) pl (.lst [V.str (qj qbC),V.str (qj wOr),V.str (qj jd),V.str (qj qbC)]) tb=some (.lst (us++[y])):=(qh.up hpl) _ _ e7;refine ⟨_,rfl,_,_,rfl,rfl,eight,_,_,rfl,rfl,pl,_,_,_,rfl,rfl,SqL.of qe,hat,_,rfl,_,rfl,tb,_,_,_,rfl,rfl,SqL.of e8,vW us y,_,rfl,qu (by show 3<=_;decide),λ p hp=>?_⟩;have e9:=(qh.up hp (o:=.tup [vS (opW c),y,x])) _ _ e8;refine ⟨_,rfl,_,rfl,tb,_,_,us.length,rfl,rfl,e9,by rw [Xd,Xj];exact qbi _,?_⟩;rw [qda];have c1:zF H5 (upd H6 tb (.lst (us++[y]))):=(qZ g6).trans (zF.updL e6);have c2:=c1.trans (qZ (qh.up hpl (o:=.lst [V.str (qj qbC),V.str (qj wOr),V.str (qj jd),V.str (qj qbC)])));have c3:=c2.trans (qZ (qh.up hp (o:=.tup [vS (opW c),y,x])));have c4:=zF.updL e9 (o:=.lst (us++[.ref p]));have cc:=c3.trans c4;have hop:c=38∨c=124∨c=43:=by
    have:c=38∨c=124∨c=43∨c=38:=by simpa using hc
    rcases this with e | e | e | e <;> simp [e]
   refine ⟨us++[.ref p],k'+(t'.wt+t.wt),_,_,_,rfl,((((g35.trans g6).at fT).to hpl).to hp).at fT,qe,?_,by omega,λ _=>by simp⟩;exact StW.snoc (t:=.bin c t' t) (sku.mono cc) ⟨p,y,x,rfl,c4 _ _ qe,ty.mono cc,tx.mono cc⟩ ⟨hop,oy,ox⟩
  ·refine ⟨ws++[x],k+t.wt,_,_,_,rfl,g35.trans g6,e6,?_,by omega,λ _=>by simp⟩;exact (skw.mono (qZ g6)).snoc (tx.mono (qZ g6)) ox
 ·rintro σ H3 ⟨vs,n,v5,v6,v7,rfl,g3,e3,sk,hn,hv⟩;have lv:0 < vs.length:=hv (by omega);refine ⟨λ μ σ H'=>∃ (vs:List V) (n:Nat) (v7:Option V),σ=[some (.ref a),some (.int at'),some (.int m),some (vS ls),some (.ref tb),v5,v6,v7]/\qh H H'/\H' tb=some (.lst vs)/\0 < vs.length/\StW ls H' vs n/\n<=m.toNat/\μ=vs.length,⟨_,vs,n,v7,rfl,g3,e3,lv,sk,hn,rfl⟩,?_⟩;rintro μ σ H4 ⟨vs,n,v7,rfl,g4,e4,lv,sk,hn,rfl⟩;have lvn:=sk.len;refine ⟨_,rfl,tb,_,rfl,.inl (SqL.of e4),_,_,rfl,rfl,_,rfl,?_⟩;refine qaF (λ cw=>?_) (λ cw=>?_)
  ·have cw':(1:Int) < ((vs.length:Nat):Int):=of_decide_eq_true cw;obtain ⟨ws,x,t,k,rfl,tx,ox,skw,rfl⟩:=sk.top lv;rw [Xd,Xj] at cw';obtain ⟨us,y,t',k',rfl,ty,oy,sku,rfl⟩:=skw.top (by omega);refine ⟨λ σ' H'=>∃ (vs':List V) (n:Nat) (v7:Option V),σ'=[some (.ref a),some (.int at'),some (.int m),some (vS ls),some (.ref tb),v5,v6,v7]/\qh H H'/\H' tb=some (.lst vs')/\0 < vs'.length/\StW ls H' vs' n/\n<=m.toNat/\vs'.length < (us++[y]++[x]).length,?_,?_⟩
   ·rintro σ' H' ⟨vs',n,v7,e,b1,b2,b3,b4,b5,b6⟩;exact ⟨vs'.length,b6,vs',n,v7,e,b1,b2,b3,b4,b5,rfl⟩
   refine ⟨_,rfl,.inl ⟨rfl,_,SqL.of e4⟩,tb,_,x,rfl,rfl,e4,qaq _ x,?_⟩;rw [List.dropLast_concat];have e7:upd H4 tb (.lst (us++[y])) tb=some (.lst (us++[y])):=qe;have n0:=Int.emod_nonneg (((us++[y]).length:Nat):Int) (b:=3) (by decide);have n1:=Int.emod_lt_of_pos (((us++[y]).length:Nat):Int) (b:=3) (by decide);obtain ⟨c,hc,hat⟩:=qhl (l:=[43,38,124]) n0 n1;rw [<- qh9] at hat
   refine ⟨qu (by show 3<=_;decide),λ pl hpl=>?_⟩;have e8:upd (upd H4 tb (.lst (us++[y]))) pl (.lst [V.str (qj jd),V.str (qj qbC),V.str (qj wOr)]) tb=some (.lst (us++[y])):=(qh.up hpl) _ _ e7;refine ⟨_,rfl,tb,_,rfl,.inl (SqL.of e8),_,_,rfl,rfl,(show (0:Int) < 3 by decide),pl,_,_,_,rfl,rfl,SqL.of qe,hat,_,rfl,_,rfl,tb,_,_,_,rfl,rfl,SqL.of e8,vW us y,_,rfl,qu (by show 3<=_;decide),λ p hp=>?_⟩;have e9:=(qh.up hp (o:=.tup [vS (opW c),y,x])) _ _ e8;refine ⟨_,rfl,_,rfl,tb,_,_,us.length,rfl,rfl,e9,by rw [Xd,Xj];exact qbi _,?_⟩;rw [qda];have c1:zF H4 (upd H4 tb (.lst (us++[y]))):=zF.updL e4;have c2:=c1.trans (qZ (qh.up hpl (o:=.lst [V.str (qj jd),V.str (qj qbC),V.str (qj wOr)])));have c3:=c2.trans (qZ (qh.up hp (o:=.tup [vS (opW c),y,x])));have c4:=zF.updL e9 (o:=.lst (us++[.ref p]));have cc:=c3.trans c4;have hop:c=38∨c=124∨c=43:=by
    have:c=43∨c=38∨c=124:=by simpa using hc
    rcases this with e | e | e <;> simp [e]
   refine ⟨us++[.ref p],k'+(t'.wt+t.wt),_,rfl,(((g4.at fT).to hpl).to hp).at fT,qe,by simp,?_,by omega,by simp⟩;exact StW.snoc (t:=.bin c t' t) (sku.mono cc) ⟨p,y,x,rfl,c4 _ _ qe,ty.mono cc,tx.mono cc⟩ ⟨hop,oy,ox⟩
  ·have cw':¬ (1:Int) < ((vs.length:Nat):Int):=of_decide_eq_false (Bool.eq_false_iff.mpr cw);obtain ⟨ws,x,t,k,rfl,tx,ox,skw,rfl⟩:=sk.top lv;have hws:ws=[]:=by
    rw [Xd,Xj] at cw';exact List.length_eq_zero_iff.mp (by omega)
   subst hws;exact ⟨_,rfl,tb,_,_,x,rfl,rfl,SqL.of e4,rfl,q t x H4 g4 tx ox (by omega)⟩
end
section
variable {P:Program} {w:World} {K:PySem.W.Frag} {mg:Str->Option Value} {base:Heap}
theorem ql9:bootBuiltins "int"=some (.type "int"):=by decide +kernel
def qia (f:Tr->V) (n:Nat):Sp:=λ vs H Q _=>∃ (v:V) (t:Tr),vs=[v]/\TrW H t v/\t.ht<=n/\t.wt<=1000/\t.Of zD/\∀ H',qh H H'->Q (f t) H'
theorem dwv {f:Tr->V} {n:Nat} {σ0:St} {H0:Hp} {t1:TE} {x:V} {t:Tr} (h1:Dv (At σ0 H0) t1 x) (tr:TrW H0 t x) (ht:t.ht<=n) (hw:t.wt<=1000) (of:t.Of zD) :
  Dv (At σ0 H0) (qck (qia f n) [] E0 (vO t1 yM)) (f t):=λ σ H Q hΓ q =>
 h1 σ H _ hΓ λ H1 g1=>⟨x,t,rfl,tr.mono (qZ (hΓ.2.trans g1)),ht,hw,of,λ H' g=>q H' (g1.trans g)⟩
theorem qfN:FnScope ["_law_tree_here","_law_sign"] ["_law_tree_here"] (qi jr):=scF
def sgK:List (Key×V):=[(.inr (qj qbC),vS [38]),(.inr (qj wOr),vS [124]),(.inr (qj jd),vS [43])]
theorem qkW {op:Nat} (h:op=38∨op=124∨op=43):yW (q9 [] sgK) (.inr (qj (opW op)))=some (vS [op]):=by
 rcases h with rfl | rfl | rfl <;> rfl
theorem qjO {op:Nat} (h:op=38∨op=124∨op=43):opW op≠qew/\opW op≠qjM/\(opW op=qbC ↔ op=38)/\(opW op=wOr ↔ op=124):=by
 rcases h with rfl | rfl | rfl <;> decide
theorem qgM {n:Nat} {f:Addr} {fd:FuncData} (F:Fun K "_law_text" "_law_text" jr f fd) (T:Txt mg) (mx_int:mg "int"=none) (bG:qf K fd ["_law_tree_here"] []) (mG:mg "_law_text"=some (.ref f))
  (GG:FnOk P w K mg base CX0 n f fd ["_law_tree_here"] (qia zN n)):FnOk P w K mg base CX0 (n+1) f fd ["_law_tree_here"] (qia zN (n+1)):=by
 refine F.ok qfN (λ vs H Q E h=>?_) (λ cdv A outer s H vs Q E hr h=>?_)
 ·obtain ⟨v,t,rfl,_⟩:=h;rfl
 obtain ⟨v,t,rfl,tr,ht,hw,of,q⟩:=h;have kG:=F.kp;have hu1:=zb hr;refine ⟨_,(qc (qW (qp zv (qz qH (by rfl) T.len PySem.boot_len (qa (pv 0) qb)) qg (qB _)) (qd (qm (qU zp (yh (qa qk (qa qk qb))) (zf qhu (by rfl) mx_int ql9 (qa (j8 zv (qU za (pv 0) qg (λ _ _=>rfl)) qk (qB _)) qb)) (λ _ _=>rfl)))) qy)
  (qc (qW (qp zv (qU za (pv 0) qg (λ _ _=>rfl)) qk (qB _)) (qd (qm (qU za (pv 0) qg (λ _ _=>rfl)))) qy)
  (qc (qW (qp zv (qU za (pv 0) qg (λ _ _=>rfl)) qk (qB _)) (qd (qm (qo qG qk (zm GG hr mG kG bG (qa (qU za (pv 0) qg (λ _ _=>rfl)) qb))))) qy)
  (qc (qv (i:=1) qfN.nd rfl (Or.inl rfl) (qdZ hu1 (qkb (qco qk qk (qco qk qk (qco qk qk qka))) rfl rfl (by simp) (by simp)) (qU za (pv 0) qg (λ _ _=>rfl)) (λ _ _=>rfl)))
  (qd (qm (qo qG (qo qG (qo qG (qo qG qk (zm GG hr mG kG bG (qa (qU za (pv 0) qg (λ _ _=>rfl)) qb))) (pv 1)) (zm GG hr mG kG bG (qa (qU za (pv 0) qg (λ _ _=>rfl)) qb))) qk))))))),?_⟩
 rw [qaS,vL,qcc,qeE,qgK,qc9,ql2,qc5,qas,qjl,qjm,qju,qgv,qjk];cases t with
 | letter c =>
  obtain ⟨a,rfl,h⟩:=tr;have hT:SqT K H a _:=SqT.of h;refine yA (zq (dIE qA (qaD rfl hT) dC)) at0 (λ hb=>absurd hb (by simp)) (λ _ H1 g1=>?_);refine yA (zq (jS qA (js rfl (g1.seqT hT) rfl) dC)) at0 (λ _ H2 g2=>?_) (λ hb=>absurd hb (by simp));exact qax (js rfl ((g1.trans g2).seqT hT) rfl) at0 λ H3 g3=>q H3 ((g1.trans g2).trans g3)
 | one =>
  obtain ⟨a,rfl,h⟩:=tr;have hT:SqT K H a _:=SqT.of h;refine yA (zq (dIE qA (qaD rfl hT) dC)) at0 (λ _ H1 g1=>?_) (λ hb=>absurd hb (by simp));refine ⟨qu (by show 2<=_;decide),λ p hp=>?_⟩;have g2:=g1.to hp (o:=.lst [vS [48],vS [49]]);refine jS qA (js rfl (g2.seqT hT) rfl) dC _ _ _ at0 λ H3 g3=>.inr ⟨_,rfl,?_⟩
  refine ⟨p,_,1,vS [49],rfl,rfl,SqL.of (g3 _ _ qe),rfl,?_⟩;exact q H3 (g2.trans g3)
 | zero =>
  obtain ⟨a,rfl,h⟩:=tr;have hT:SqT K H a _:=SqT.of h;refine yA (zq (dIE qA (qaD rfl hT) dC)) at0 (λ _ H1 g1=>?_) (λ hb=>absurd hb (by simp));refine ⟨qu (by show 2<=_;decide),λ p hp=>?_⟩;have g2:=g1.to hp (o:=.lst [vS [48],vS [49]]);refine jS qA (js rfl (g2.seqT hT) rfl) dC _ _ _ at0 λ H3 g3=>.inr ⟨_,rfl,?_⟩
  refine ⟨p,_,0,vS [48],rfl,rfl,SqL.of (g3 _ _ qe),rfl,?_⟩;exact q H3 (g2.trans g3)
 | neg t =>
  obtain ⟨a,x,rfl,h,tx⟩:=tr;have hT:SqT K H a _:=SqT.of h;have ht':t.ht<=n:=Nat.le_of_succ_le_succ ht;have hw':t.wt+1<=1000:=hw;have l1:=t.text_len;refine yA (zq (dIE qA (qaD rfl hT) dC)) at0 (λ hb=>absurd hb (by simp)) (λ _ H1 g1=>?_);refine yA (zq (jS qA (js rfl (g1.seqT hT) rfl) dC)) at0 (λ hb=>absurd hb (by decide)) (λ _ H2 g2=>?_);have g12:=g1.trans g2;refine yA (zq (jS qA (js rfl (g12.seqT hT) rfl) dC)) at0 (λ _ H3 g3=>?_) (λ hb=>absurd hb (by decide));have g13:=g12.trans g3;exact qax (jt qA dC (dwv (f:=zN) (n:=n) (js rfl (g13.seqT hT) rfl) (tx.mono (qZ g13)) ht' (by omega) of) (by rw [Xj];omega)) at0 λ H4 g4=>q H4 (g13.trans g4)
 | bin op t u =>
  obtain ⟨a,x,y,rfl,h,tx,uy⟩:=tr;have hT:SqT K H a _:=SqT.of h;have hm:max t.ht u.ht+1<=n+1:=ht;have hw':t.wt+u.wt<=1000:=hw;obtain ⟨hop,ot,ou⟩:=of;obtain ⟨nl,nn,_,_⟩:=qjO hop;have l1:=t.text_len;have l2:=u.text_len;refine yA (zq (dIE qA (qaD rfl hT) dC)) at0 (λ hb=>absurd hb (by simp)) (λ _ H1 g1=>?_);refine yA (zq (jS qA (js rfl (g1.seqT hT) rfl) dC)) at0 (λ hb=>absurd (of_decide_eq_true hb) nl) (λ _ H2 g2=>?_);have g12:=g1.trans g2;refine yA (zq (jS qA (js rfl (g12.seqT hT) rfl) dC)) at0 (λ hb=>absurd (of_decide_eq_true hb) nn) (λ _ H3 g3=>?_);have g13:=g12.trans g3;refine λ p hp=>?_
  refine ⟨qe,sgK,rfl,by decide,?_⟩;have g4:qh H (upd (upd H3 p (.dK [])) p (.dK (q9 [] sgK))):=(g13.to hp).at (g13.free hp);have gd:=qcn.k (k:=Sum.inr (qj (opW op))) (show upd (upd H3 p (.dK [])) p (.dK (q9 [] sgK)) p=some (.dK (q9 [] sgK)) from qe);rw [qkW hop] at gd;generalize upd (upd H3 p (.dK [])) p (.dK (q9 [] sgK))=H4 at g4 gd;refine ⟨_,rfl,a,_,_,vS (opW op),rfl,rfl,g4.seqT hT,rfl,p,vS [op],rfl,gd,?_⟩;exact qax (jt qA (jt qA (jt qA (jt qA dC (dwv (f:=zN) (n:=n) (js rfl (g4.seqT hT) rfl) (tx.mono (qZ g4)) (by omega) (by omega) ot) (by rw [Xj];omega))
   (dvA rfl) (by simp only [Xd,Xj];omega)) (dwv (f:=zN) (n:=n) (js rfl (g4.seqT hT) rfl) (uy.mono (qZ g4)) (by omega) (by omega) ou) (by simp only [Xd,Xj];omega))
   dC (by simp only [Xd,Xj];omega)) at0 λ H5 g5=>q H5 (g4.trans g5)
theorem qfO {f:Addr} {fd:FuncData} (F:Fun K "_law_text" "_law_text" jr f fd) (T:Txt mg) (mx_int:mg "int"=none) (bG:qf K fd ["_law_tree_here"] []) (mG:mg "_law_text"=some (.ref f)):∀ n,FnOk P w K mg base CX0 n f fd ["_law_tree_here"] (qia zN n)
 | 0=>⟨λ vs H Q E h=>by obtain ⟨_,t,_,_,h,_⟩:=h;have:=t.ht1;omega,λ A outer s H args us vs Q E _ _ _ _ h=>by obtain ⟨_,t,_,_,h,_⟩:=h;have:=t.ht1;omega⟩
 | n+1=>qgM F T mx_int bG mG (qfO F T mx_int bG mG n)
def qjP (n:Nat):Sp:=λ vs H Q _=>∃ (v:V) (d:Addr) (t:Tr) (kvs:List (Key×V)) (ρ:Nat->Bool) (ls:List Nat),vs=[v,.ref d]/\TrW H t v/\t.ht<=n/\t.Of ls/\H d=some (.dK kvs)/\(∀ c∈ls,yW kvs (.inr (qj [c]))=some (.bl (ρ c)))/\∀ H',qh H H'->Q (.bl (t.val ρ)) H'
theorem qbD:FnScope ["_law_tree_here","_law_row_here","_law_one","_law_other"] ["_law_tree_here","_law_row_here"] (qi yS):=scF
theorem dwt {n:Nat} {σ0:St} {H0:Hp} {t1:TE} {x:V} {d:Addr} {t:Tr} {kvs:List (Key×V)} {ρ:Nat->Bool} {ls:List Nat} (h1:Dv (At σ0 H0) t1 x) (e1:σ0[1]?=some (some (.ref d))) (tr:TrW H0 t x) (ht:t.ht<=n) (of:t.Of ls) (hd:H0 d=some (.dK kvs)) (hv:∀ c∈ls,yW kvs (.inr (qj [c]))=some (.bl (ρ c))) :
  Dv (At σ0 H0) (qck (qjP n) [] E0 (vO t1 (vO (qdT 1) yM))) (.bl (t.val ρ)):=λ σ H Q hΓ q =>
 h1 σ H _ hΓ λ H1 g1=>⟨.ref d,by rw [hΓ.1];exact e1,x,d,t,kvs,ρ,ls,rfl,tr.mono (qZ (hΓ.2.trans g1)),ht,of,(hΓ.2.trans g1) _ _ hd,hv,λ H' g=>q H' (g1.trans g)⟩
theorem qfP {n:Nat} {f:Addr} {fd:FuncData} (F:Fun K "_law_truth" "_law_truth" yS f fd) (T:Txt mg) (bG:qf K fd ["_law_tree_here","_law_row_here"] []) (mG:mg "_law_truth"=some (.ref f))
  (GG:FnOk P w K mg base CX0 n f fd ["_law_tree_here","_law_row_here"] (qjP n)):FnOk P w K mg base CX0 (n+1) f fd ["_law_tree_here","_law_row_here"] (qjP (n+1)):=by
 refine F.ok qbD (λ vs H Q E h=>?_) (λ cdv A outer s H vs Q E hr h=>?_)
 ·obtain ⟨v,d,t,kvs,ρ,ls,rfl,_⟩:=h;rfl
 obtain ⟨v,d,t,kvs,ρ,ls,rfl,tr,ht,of,hd,hv,q⟩:=h;have hu1:=zb hr;have kG:=F.kp;refine ⟨_,(qc (qW (qp zv (qz qH (by rfl) T.len PySem.boot_len (qa (pv 0) qb)) qg (qB _)) (qd (qm (j8 zv (qU za (pv 0) qg (λ _ _=>rfl)) qk (qB _)))) qy)
  (qc (qW (qp zv (qU za (pv 0) qg (λ _ _=>rfl)) qk (qB _)) (qd (qm (qdZ hu1 (pv 1) (qU za (pv 0) qg (λ _ _=>rfl)) (λ _ _=>rfl)))) qy)
  (qc (qv (i:=2) qbD.nd rfl (Or.inl rfl) (zm GG hr mG kG bG (qa (qU za (pv 0) qg (λ _ _=>rfl)) (qa (pv 1) qb))))
  (qc (qW (qp zv (qU za (pv 0) qg (λ _ _=>rfl)) qk (qB _)) (qd (qm (qif (pv 2)))) qy)
  (qc (qv (i:=3) qbD.nd rfl (Or.inl rfl) (zm GG hr mG kG bG (qa (qU za (pv 0) qg (λ _ _=>rfl)) (qa (pv 1) qb))))
  (qc (qW (qp zv (qU za (pv 0) qg (λ _ _=>rfl)) qk (qB _)) (qd (qm (qie (pv 2) (qfU (pv 3))))) qy)
  (qc (qW (qp zv (qU za (pv 0) qg (λ _ _=>rfl)) qk (qB _)) (qd (qm (qml (pv 2) (qfU (pv 3))))) qy)
  (qd (qm (j8 qeR (pv 2) (pv 3) (qB _))))))))))),?_⟩
 rw [qaS,vL,qcc,qeE,qgK];cases t with
 | letter c =>
  obtain ⟨a,rfl,h⟩:=tr;have hT:SqT K H a _:=SqT.of h;refine yA (zq (dIE qA (qaD rfl hT) dC)) at0 (λ hb=>absurd hb (by simp)) (λ _ H1 g1=>?_);refine yA (zq (jS qA (js rfl (g1.seqT hT) rfl) dC)) at0 (λ _ H2 g2=>?_) (λ hb=>absurd hb (by simp));have g12:=g1.trans g2;have gd:=qcn.k (k:=Sum.inr (qj [c])) (g12 _ _ hd);rw [hv c of] at gd;exact ⟨_,rfl,_,rfl,a,_,_,_,rfl,rfl,g12.seqT hT,rfl,d,_,rfl,gd,q H2 g12⟩
 | one =>
  obtain ⟨a,rfl,h⟩:=tr;have hT:SqT K H a _:=SqT.of h;refine yA (zq (dIE qA (qaD rfl hT) dC)) at0 (λ _ H1 g1=>?_) (λ hb=>absurd hb (by simp));exact qax (jS qA (js rfl (g1.seqT hT) rfl) dC) at0 λ H3 g3=>q H3 (g1.trans g3)
 | zero =>
  obtain ⟨a,rfl,h⟩:=tr;have hT:SqT K H a _:=SqT.of h;refine yA (zq (dIE qA (qaD rfl hT) dC)) at0 (λ _ H1 g1=>?_) (λ hb=>absurd hb (by simp));exact qax (jS qA (js rfl (g1.seqT hT) rfl) dC) at0 λ H3 g3=>q H3 (g1.trans g3)
 | neg t =>
  obtain ⟨a,x,rfl,h,tx⟩:=tr;have hT:SqT K H a _:=SqT.of h;have ht':t.ht<=n:=Nat.le_of_succ_le_succ ht;refine yA (zq (dIE qA (qaD rfl hT) dC)) at0 (λ hb=>absurd hb (by simp)) (λ _ H1 g1=>?_);refine yA (zq (jS qA (js rfl (g1.seqT hT) rfl) dC)) at0 (λ hb=>absurd hb (by decide)) (λ _ H2 g2=>?_);have g12:=g1.trans g2;refine qjn (i:=2) (dwt (js rfl (g12.seqT hT) rfl) rfl (tx.mono (qZ g12)) ht' of (g12 _ _ hd) hv) at0 λ H3 g3=>?_
  have g13:=g12.trans g3;refine yA (zq (jS qA (js rfl (g13.seqT hT) rfl) dC)) at0 (λ _ H4 g4=>?_) (λ hb=>absurd hb (by decide));exact qax (qmR (dvA rfl)) at0 λ H5 g5=>q H5 ((g13.trans g4).trans g5)
 | bin op t u =>
  obtain ⟨a,x,y,rfl,h,tx,uy⟩:=tr;have hT:SqT K H a _:=SqT.of h;have hm:max t.ht u.ht+1<=n+1:=ht;obtain ⟨hop,ot,ou⟩:=of;obtain ⟨nl,nn,eA,eO⟩:=qjO hop;refine yA (zq (dIE qA (qaD rfl hT) dC)) at0 (λ hb=>absurd hb (by simp)) (λ _ H1 g1=>?_);refine yA (zq (jS qA (js rfl (g1.seqT hT) rfl) dC)) at0 (λ hb=>absurd (of_decide_eq_true hb) nl) (λ _ H2 g2=>?_);have g12:=g1.trans g2;refine qjn (i:=2) (dwt (js rfl (g12.seqT hT) rfl) rfl (tx.mono (qZ g12)) (by omega) ot (g12 _ _ hd) hv) at0 λ H3 g3=>?_
  have g13:=g12.trans g3;refine yA (zq (jS qA (js rfl (g13.seqT hT) rfl) dC)) at0 (λ hb=>absurd (of_decide_eq_true hb) nn) (λ _ H4 g4=>?_);have g14:=g13.trans g4;refine qjn (i:=3) (dwt (js rfl (g14.seqT hT) rfl) rfl (uy.mono (qZ g14)) (by omega) ou (g14 _ _ hd) hv) at0 λ H5 g5=>?_
  have g15:=g14.trans g5;refine yA (zq (jS qA (js rfl (g15.seqT hT) rfl) dC)) at0 (λ hb H6 g6=>?_) (λ hb H6 g6=>?_)
  ·have e:op=38:=eA.mp (of_decide_eq_true hb);refine qax (qmQ qA (dvA rfl) (dvA rfl)) at0 λ H7 g7=>?_
   have:=q H7 ((g15.trans g6).trans g7)
   rw [Tr.val,if_pos e] at this;exact this
  have n38:¬ op=38:=λ e=>of_decide_eq_false hb (eA.mpr e)
  have g16:=g15.trans g6;refine yA (zq (jS qA (js rfl (g16.seqT hT) rfl) dC)) at0 (λ hb H7 g7=>?_) (λ hb H7 g7=>?_)
  ·have e:op=124:=eO.mp (of_decide_eq_true hb);refine qax (qnK qA (dvA rfl) (dvA rfl)) at0 λ H8 g8=>?_
   have:=q H8 ((g16.trans g7).trans g8)
   rw [Tr.val,if_neg n38,if_pos e] at this;exact this
  have n124:¬ op=124:=λ e=>of_decide_eq_false hb (eO.mpr e)
  refine qax (qnJ qA (dvA rfl) (dvA rfl)) at0 λ H8 g8=>?_
  have:=q H8 ((g16.trans g7).trans g8)
  rw [Tr.val,if_neg n38,if_neg n124] at this;exact this
theorem qdQ {f:Addr} {fd:FuncData} (F:Fun K "_law_truth" "_law_truth" yS f fd) (T:Txt mg) (bG:qf K fd ["_law_tree_here","_law_row_here"] []) (mG:mg "_law_truth"=some (.ref f)):∀ n,FnOk P w K mg base CX0 n f fd ["_law_tree_here","_law_row_here"] (qjP n)
 | 0=>⟨λ vs H Q E h=>by obtain ⟨_,_,t,_,_,_,_,_,h,_⟩:=h;have:=t.ht1;omega,λ A outer s H args us vs Q E _ _ _ _ h=>by obtain ⟨_,_,t,_,_,_,_,_,h,_⟩:=h;have:=t.ht1;omega⟩
 | n+1=>qfP F T bG mG (qdQ F T bG mG n)
end
section
variable {P:Program} {w:World} {K:PySem.W.Frag} {mg:Str->Option Value} {base:Heap}
def qbV (ls:List Nat) (r:List Bool):List (Key×V):=(ls.zip r).map λ x=>(Sum.inr (qj [x.1]),V.bl x.2)
theorem qdb {ls:List Nat} {r:List Bool} (hl:ls.length=r.length) {c:Nat}:yW (qbV ls r) (.inr (qj [c]))=if c∈ls then some (.bl (asg ls r c)) else none:=by
 have key:∀ (l:List (Nat×Bool)),yW (l.map λ x=>((Sum.inr (qj [x.1]):Key),V.bl x.2)) (.inr (qj [c]))=((l.find? λ x=>decide (x.1=c)).map λ x=>V.bl x.2):=by
  intro l;induction l with
  | nil=>rfl
  | cons x l ih =>
   unfold yW at ih ⊢;rw [List.map_cons,List.find?_cons,List.find?_cons];have e:decide (((Sum.inr (qj [x.1]):Key))=.inr (qj [c]))=decide (x.1=c):=by
    by_cases h:x.1=c
    ·rw [h];simp
    ·rw [Xu h,Xu];intro e
     have:=qbd (Sum.inr.inj e)
     exact h (by simpa using this)
   dsimp only;rw [e];cases decide (x.1=c) with
   | true=>rfl
   | false=>exact ih
 unfold qbV;rw [key];have mem:∀ (ls:List Nat) (r:List Bool),ls.length=r.length->(((ls.zip r).find? λ x=>decide (x.1=c)).map λ x=>V.bl x.2)=if c∈ls then some (.bl (asg ls r c)) else none:=by
  intro ls;induction ls with
  | nil=>intro r h;simp
  | cons a ls ih =>
   intro r h;cases r with
   | nil=>simp at h
   | cons b r =>
    unfold asg;rw [List.zip_cons_cons,List.find?_cons];by_cases e:a=c
    ·subst e;simp
    ·have:=ih r (by simpa using h)
     rw [show decide ((a,b).1=c)=false from Xu e];dsimp only;rw [this];unfold asg;simp [Ne.symm e]
 exact mem ls r hl
theorem qfQ {ls:List Nat} (hl:ls.Nodup) {i:Nat} (hi:i < ls.length):ls[i] ∉ ls.take i:=λ h=>by
 obtain ⟨j,hj,e⟩:=List.getElem_of_mem h;rw [Xi] at hj;rw [List.getElem_take] at e;exact absurd ((List.getElem_inj hl).mp e) (by omega)
def qjQ:List Int:=[32,16,8,4,2,1]
theorem qkX {n k:Nat} (hn:n<=6) (hk:k < n):atI (qjQ.map V.int) ((6:Int) - (n:Int)+(k:Int))=some (.int ((2 ^ (n - 1 - k):Nat):Int)):=by
 have e:((6:Int) - (n:Int)+(k:Int))=((6 - n+k:Nat):Int):=by omega
 rw [e];refine va ?_;have key:∀ n,n<=6->∀ k,k < n->(qjQ.map V.int)[6 - n+k]?=some (V.int ((2 ^ (n - 1 - k):Nat):Int)):=by decide
 exact key n hn k hk
theorem qjR {j:Nat} (h:j<=9):qms 0 ((2 ^ j:Nat):Int):=by
 rcases (show j=0∨j=1∨j=2∨j=3∨j=4∨j=5∨j=6∨j=7∨j=8∨j=9 by omega) with rfl | rfl | rfl | rfl | rfl | rfl | rfl | rfl | rfl | rfl <;> exact ⟨by decide,by decide⟩
theorem qjS {ls:List Nat} {r:List Bool} {i c:Nat} {b:Bool} (hc:ls[i]?=some c) (hb:r[i]?=some b):qbV (ls.take (i+1)) (r.take (i+1))=qbV (ls.take i) (r.take i)++[(.inr (qj [c]),.bl b)]:=by
 unfold qbV;rw [zg hc,zg hb,List.zip_append (by
  have h1:=jl hc;have h2:=jl hb;rw [Xi,Xi];omega),XA]
 rfl
def qeF:Sp:=λ vs H Q _=>∃ (ls:List Nat) (N:Nat),vs=[vS ls,.int (N:Int)]/\ls.Nodup/\ls.length<=6/\∀ d H',qh H H'->H' d=some (.dK (qbV ls (zo ls.length N)))->Q (.ref d) H'
theorem qce:FnScope ["_law_letters_here","_law_number","_law_row_here","_law_k","_law_letter"] ["_law_letters_here","_law_number"] (qi qao):=scF
theorem qkY {f :Addr} {fd :FuncData} (F:Fun K "_law_row" "_law_row" qao f fd) (T:Txt mg)
  : FnOk P w K mg base CX0 1 f fd ["_law_letters_here","_law_number"] (qeF):=by
 refine F.ok qce (λ vs H Q E h=>?_) (λ cdv A outer s H vs Q E hr h=>?_)
 ·obtain ⟨ls,N,rfl,_⟩:=h;rfl
 obtain ⟨ls,N,rfl,nd,l6,q⟩:=h;have hu:=Nat.lt_of_succ_lt (zb hr);have hu1:=zb hr;have hu2:=Nat.lt_of_le_of_lt (Nat.add_le_add_left (by decide:2<=64) _) hr.units;refine ⟨_,(qc (qv (i:=2) qce.nd rfl (Or.inl rfl) qir)
  (qc (qeh (n:=2) PassesOwn.never rfl (qfm (by rfl) T.enumerate (qa (pv 0) qb)) (qT (qt (i:=3) qce.nd rfl (Or.inl rfl)) (qT (qt (i:=4) qce.nd rfl (Or.inl rfl)) yp))
  (qd (qj9 hu1 (pv 2) (pv 4) (j8 zv (qo zh (qo zP (pv 1) (qU zp (yh (qa qg (qa qg (qa qg (qa qg (qa qg (qa qg qb))))))) (qo zS (qo qfX qg (qz y3 (by rfl) T.len PySem.boot_len (qa (pv 0) qb))) (pv 3)) (λ _ _=>rfl))) qg) qg (qB _)) rfl)))
  (qd (qm (pv 2))))),?_⟩
 have hs:(qj ls).cps.size=ls.length:=qw ls;have hl:(qj ls).length=ls.length:=qw ls;refine λ d hd=>?_
 refine ⟨_,rfl,_,rfl,?_⟩;refine qdH (λ i σ H'=>∃ v3 v4:Option V,σ=[some (vS ls),some (.int (N:Int)),some (.ref d),v3,v4]/\qh H H'/\H' d=some (.dK (qbV (ls.take i) ((zo ls.length N).take i)))) ⟨none,none,rfl,qh.up hd,qe⟩ ?_ ?_
 ·rintro i σ H1 hi ⟨v3,v4,rfl,g1,e1⟩;rw [hs] at hi;rw [qbz hi];refine ⟨_,_,rfl,_,_,rfl,rfl,?_⟩;have hb:=qi7 (N:=N) hi;have ns_:ls[i] ∉ ls.take i:=qfQ nd hi;have lr:(ls.take i).length=((zo ls.length N).take i).length:=by rw [Xi,Xi,qal]
  have vn:yW (qbV (ls.take i) ((zo ls.length N).take i)) (.inr (qj [ls[i]]))=none:=by rw [qdb lr,if_neg ns_]
  have lk:(qbV (ls.take i) ((zo ls.length N).take i)).length < sizeLine:=by unfold qbV;rw [Xa,List.length_zip,Xi,Xi];exact zz (by omega)
  refine ⟨_,rfl,qu (by show 6<=_;decide),λ p hp=>?_⟩;refine ⟨_,rfl,_,rfl,by rw [hl];exact qu (by omega),?_⟩;rw [hl];refine ⟨_,_,rfl,rfl,_,rfl,_,_,rfl,rfl,p,_,_,_,rfl,rfl,SqL.of (show upd H1 p (.lst (qjQ.map V.int)) p=some (.lst (qjQ.map V.int)) from qe),qkX l6 hi,_,_,rfl,rfl,qjR (by omega),_,_,rfl,rfl,(show (0:Int) < 2 by decide),rfl,?_⟩;have e2:=(qh.up hp (o:=.lst (qjQ.map V.int))) _ _ e1;refine ⟨_,rfl,_,rfl,d,_,rfl,.inl ⟨_,.inr (qj [ls[i]]),e2,rfl,lk,rfl⟩,?_⟩;refine ⟨_,_,rfl,(g1.to hp).at hd,?_⟩;rw [qe,qiq _ vn,qjS (Xb hi) hb];congr 5
  have:decide (V.int ((N:Int) / ((2 ^ (ls.length - 1 - i):Nat):Int) % 2)=V.int 1)=decide (N / 2 ^ (ls.length - 1 - i) % 2=1):=by
   refine decide_eq_decide.mpr ?_;rw [V.int.injEq];constructor
   ·intro h;exact_mod_cast h
   ·intro h;exact_mod_cast h
  exact congrArg V.bl this
 ·rintro σ H1 ⟨v3,v4,rfl,g1,e1⟩;rw [hs,List.take_length,Xr (by rw [qal];exact Xe _)] at e1;exact ⟨_,rfl,q d H1 g1 e1⟩
def qkZ:List Int:=[1,2,4,8,16,32,64]
theorem qk0 {n:Nat} (hn:n<=6):atI (qkZ.map V.int) (n:Int)=some (.int ((2 ^ n:Nat):Int)):=by
 refine va ?_;have key:∀ n,n<=6->(qkZ.map V.int)[n]?=some (V.int ((2 ^ n:Nat):Int)):=by decide
 exact key n hn
def qeG:Sp:=λ vs H Q _=>∃ ls:List Nat,vs=[vS ls]/\ls.Nodup/\ls.length<=6/\∀ r ds H',qh H H'->H' r=some (.lst (ds.map V.ref))->Paired (λ d N=>H' d=some (.dK (qbV ls (zo ls.length N)))) ds (List.range (2 ^ ls.length))->Q (.ref r) H'
theorem qjT:FnScope ["_law_letters_here"] ["_law_letters_here"] (qi vF):=scF
theorem qjU {f fw_row:Addr} {fd dw_row:FuncData} (F:Fun K "_law_rows" "_law_rows" vF f fd) (T:Txt mg)
  (Gw_row:FnOk P w K mg base CX0 1 fw_row dw_row ["_law_letters_here","_law_number"] (qeF)) (bw_row:qf K dw_row ["_law_letters_here","_law_number"] []) (kw_row:W.keepIn K (.ref fw_row)=true) (mw_row:mg "_law_row"=some (.ref fw_row))
  : FnOk P w K mg base CX0 2 f fd ["_law_letters_here"] (qeG):=by
 refine F.ok qjT (λ vs H Q E h=>?_) (λ cdv A outer s H vs Q E hr h=>?_)
 ·obtain ⟨ls,rfl,_⟩:=h;rfl
 obtain ⟨ls,rfl,nd,l6,q⟩:=h;have hu:=Nat.lt_of_succ_lt (zb hr);have hu1:=zb hr;have hu2:=Nat.lt_of_le_of_lt (Nat.add_le_add_left (by decide:2<=64) _) hr.units;have hr_1:Room 1 _:=hr.mono (by decide);refine ⟨_,(qd (qm (ye (qQ (NY:=["_law_number","_law_letters_here"]) (o:=1) (caps:=[0]) ["_law_letters_here"] rfl (by decide +kernel) (by decide +kernel) (by decide +kernel) (by decide +kernel)
    (by intro x hx;rw [List.mem_singleton.mp hx];exact .inl rfl) (qcO rfl rfl rfl vP) rfl) rfl
    (yj (by rfl) T.range (qa (qU zp (yh (qa qg (qa qg (qa qg (qa qg (qa qg (qa qg (qa qg qb)))))))) (qz y3 (by rfl) T.len PySem.boot_len (qa (pv 0) qb)) (λ _ _=>rfl)) qb)) (λ C0 s H fp pins=>qt (i:=0) (show (["_law_number","_law_letters_here"]:List Str).Nodup by decide +kernel) rfl (Or.inl rfl)) (λ C0 s H fp pins=>zL) (λ C0 s H fp pins=>(zm Gw_row hr_1 mw_row kw_row bw_row (qa (pv 1) (qa (pv 0) qb))))))),?_⟩
 have hl:(qj ls).length=ls.length:=qw ls;have p64:2 ^ ls.length<=64:=Nat.le_trans (Nat.pow_le_pow_right (by decide) l6) (by decide);have c0:=Int.natCast_nonneg (2 ^ ls.length);have c1:((2 ^ ls.length:Nat):Int)<=64:=by exact_mod_cast p64
 refine ⟨qu (by show 7<=_;decide),λ p hp=>?_⟩;refine ⟨_,rfl,_,rfl,by rw [hl];exact qu (by omega),?_⟩;rw [hl];refine ⟨p,_,_,_,rfl,rfl,SqL.of (show upd H p (.lst (qkZ.map V.int)) p=some (.lst (qkZ.map V.int)) from qe),qk0 l6,_,rfl,Int.le_trans (by decide) c0,Int.lt_of_le_of_lt c1 (by decide),?_⟩;have en:(((2 ^ ls.length:Nat):Int)).toNat=2 ^ ls.length:=Xx _;refine kq (((2 ^ ls.length:Nat):Int)).toNat (λ i ys H2=>∃ ds:List Addr,ys=ds.map V.ref/\Paired (λ d N=>H2 d=some (.dK (qbV ls (zo ls.length N)))) ds (List.range i)) (λ D hD=>⟨[],rfl,.nil⟩) ?_ ?_ (λ H2 sm=>Xe _) ?_
 ·rintro i ys H2 hi ⟨ds,rfl,hp⟩
  have:=hp.length
  rw [List.length_range] at this;rw [Xa];exact zz (by omega)
 ·rintro i ys H2 D Y Z hi hD hH2 sm ⟨ds,rfl,hpd⟩ hY hZ;refine ⟨hi,?_⟩;rintro x H' ⟨rfl,rfl⟩;refine ⟨⟨rfl,rfl⟩,?_⟩;refine ⟨_,rfl,_,rfl,ls,i,(by show [vS ls,V.int (0+(i:Int))]=[vS ls,V.int (i:Int)];rw [Int.zero_add]),nd,l6,λ d H3 g3 e3=>?_⟩;have eD:=g3 _ _ hH2;refine hY _ _ eD (sm.trans g3) ⟨ds++[d],by rw [XA];rfl,?_⟩;rw [List.range_succ];have up:∀ {z:Addr} {kv:List (Key×V)},H3 z=some (.dK kv)->upd H3 D (.lst (ds.map V.ref++[.ref d])) z=some (.dK kv):=λ {z kv} h=>by
   have:z≠D:=λ q=>by rw [q,eD] at h;cases h
   rw [qx this];exact h
  exact q8 (L2.Paired.mapP hpd λ z N h=>up (g3 _ _ h)) (.cons (up e3) .nil)
 ·rintro D H2 ys hD sm hH2 ⟨ds,rfl,hpd⟩;rw [en] at hpd;exact q D ds H2 ((qh.up hp).trans sm) hH2 hpd
end
section
variable {P:Program} {w:World} {K:PySem.W.Frag} {mg:Str->Option Value} {base:Heap}
def yU (H:Hp) (p:Addr) (x:Tr×Tr):Prop:=∃ a b:V,H p=some (.tup [a,b])/\TrW H x.1 a/\TrW H x.2 b
theorem yU.mono {H H':Hp} {p:Addr} {x:Tr×Tr} (h:yU H p x) (g:zF H H'):yU H' p x:=let ⟨a,b,e,o1,o2⟩:=h;⟨a,b,g _ _ e,o1.mono g,o2.mono g⟩
def qdc (K:PySem.W.Frag):Sp:=λ vs H Q _=>∃ (a:Addr) (ns:List Int) (ls:List Nat) (most many:Int),vs=[.ref a,vS ls,.int most,.int many]/\Scr K H a ns/\ls.length<=9/\0<=most/\most<=6/\1<=many/\many<=20 /\
 ∀ r ps (xs:List (Tr×Tr)) H',qh H H'->H' r=some (.lst (ps.map V.ref))->Paired (yU H') ps xs->(xs.length:Int)<=most->(∀ x∈xs,x.1.Of ls/\x.2.Of ls/\(x.1.wt:Int)<=many/\(x.2.wt:Int)<=many)->Q (.ref r) H'
theorem j4:FnScope ["_law_script","_law_letters_here","_law_most","_law_many","_law_wishes_here","_law_k","_law_size","_law_left"] ["_law_script","_law_letters_here","_law_most","_law_many"] (qi jb):=scF
theorem qib {f fw_mixed fw_tree:Addr} {fd dw_mixed dw_tree:FuncData} (F:Fun K "_law_wishes" "_law_wishes" jb f fd) (T:Txt mg)
  (Gw_mixed:FnOk P w K mg base CX0 1 fw_mixed dw_mixed ["_law_script","_law_k"] (jw K)) (bw_mixed:qf K dw_mixed ["_law_script","_law_k"] []) (kw_mixed:W.keepIn K (.ref fw_mixed)=true) (mw_mixed:mg "_law_mixed"=some (.ref fw_mixed))
  (Gw_tree:FnOk P w K mg base CX0 2 fw_tree dw_tree ["_law_script","_law_at","_law_many","_law_letters_here"] (qgL K)) (bw_tree:qf K dw_tree ["_law_script","_law_at","_law_many","_law_letters_here"] []) (kw_tree:W.keepIn K (.ref fw_tree)=true) (mw_tree:mg "_law_tree"=some (.ref fw_tree))
  : FnOk P w K mg base CX0 3 f fd ["_law_script","_law_letters_here","_law_most","_law_many"] (qdc K):=by
 refine F.ok j4 (λ vs H Q E h=>?_) (λ cdv A outer s H vs Q E hr h=>?_)
 ·obtain ⟨a,ns,ls,most,many,rfl,_⟩:=h;rfl
 obtain ⟨a,ns,ls,most,many,rfl,hS,l9,s0,s6,n1,n20,q⟩:=h;have hu:=Nat.lt_of_succ_lt (zb hr);have hu1:=zb hr;have hu2:=Nat.lt_of_le_of_lt (Nat.add_le_add_left (by decide:2<=64) _) hr.units;have hr_1:Room 1 _:=hr.mono (by decide);have hr_2:Room 2 _:=hr.mono (by decide);refine ⟨_,(qc (qv (i:=4) j4.nd rfl (Or.inl rfl) (yh qb))
  (qc (yE PassesOwn.never rfl (yj (by rfl) T.range (qa (qo zh (zm Gw_mixed hr_1 mw_mixed kw_mixed bw_mixed (qa (pv 0) (qa qg qb))) (qo zS (pv 2) qg)) qb)) (qt (i:=5) j4.nd rfl (Or.inl rfl))
  (qc (qv (i:=6) j4.nd rfl (Or.inl rfl) (qo zS qg (qo zh (zm Gw_mixed hr_1 mw_mixed kw_mixed bw_mixed (qa (pv 0) (qa (qo zS qg (pv 5)) qb))) (pv 3))))
  (qc (qv (i:=7) j4.nd rfl (Or.inl rfl) (zm Gw_tree hr_2 mw_tree kw_tree bw_tree (qa (pv 0) (qa (qo zS qg (qo qbq qg (pv 5))) (qa (pv 6) (qa (pv 1) qb))))))
  (qd (yo (y2 PySem.F.plainAttrs_list PySem.F.slot_list_append PySem.F.type_list_append zA (pv 4) (qa (zl (qa (pv 7) (qa (zm Gw_tree hr_2 mw_tree kw_tree bw_tree (qa (pv 0) (qa (qo zS qg (qo qbq qg (pv 5))) (qa (qo zS qg (qo zh (qo zP (zm Gw_mixed hr_1 mw_mixed kw_mixed bw_mixed (qa (pv 0) (qa (qo zS qg (pv 5)) qb))) qg) (pv 3))) (qa (pv 1) qb))))) qb))) qb)))))))
  (qd (qm (pv 4))))),?_⟩
 refine ⟨Nat.zero_le _,λ p0 hp0=>?_⟩;have g0:=qh.up hp0 (o:=.lst []);refine ⟨_,rfl,a,ns,1,rfl,hS.mono g0,by decide,by decide,λ z H1 g1 z0 z1=>?_⟩;have m0:=Int.emod_nonneg z (b:=most+1) (by omega);have m1:=Int.emod_lt_of_pos z (b:=most+1) (by omega);refine ⟨_,rfl,_,_,rfl,rfl,_,_,rfl,rfl,(by show (0:Int) < most+1;omega),_,rfl,by show _<=z % (most+1);omega,by show z % (most+1) < _;omega,?_⟩;have g01:=g0.trans g1;refine yF (λ i σ H'=>∃ (ps:List Addr) (xs:List (Tr×Tr)) (v5 v6 v7:Option V),σ=[some (.ref a),some (vS ls),some (.int most),some (.int many),some (.ref p0),v5,v6,v7]/\qh H H'/\H' p0=some (.lst (ps.map V.ref))/\Paired (yU H') ps xs/\xs.length=i/\∀ x∈xs,x.1.Of ls/\x.2.Of ls/\(x.1.wt:Int)<=many/\(x.2.wt:Int)<=many)
  ⟨[],[],none,none,none,rfl,g01,g1 _ _ qe,.nil,rfl,by simp⟩ ?_ ?_
 ·rintro i σ H2 hi ⟨ps,xs,v5,v6,v7,rfl,g2,e2,pr,lx,ok⟩;have hi6:(i:Int) < 7:=by
   have:(i:Int) < z % (most+1):=by omega
   omega
  refine ⟨_,rfl,_,rfl,_,_,rfl,rfl,a,ns,_,rfl,hS.mono g2,?_,?_,λ y H3 g3 y0 y1=>?_⟩
  ·show (0:Int)<=2+(0+(i:Int));omega
  ·show 2+(0+(i:Int))<=100000;omega
  have c0:=Int.emod_nonneg y (b:=many) (by omega);have c1:=Int.emod_lt_of_pos y (b:=many) (by omega);refine ⟨_,rfl,_,_,rfl,rfl,(by show (0:Int) < many;omega),_,_,rfl,rfl,?_⟩;have g23:=g2.trans g3;refine ⟨_,rfl,_,rfl,_,_,rfl,rfl,.inl ⟨by decide,by decide⟩,_,_,rfl,rfl,_,rfl,_,rfl,a,ns,_,1+y % many,ls,rfl,hS.mono g23,?_,?_,by omega,by omega,l9,λ t v H4 g4 tr of wt=>?_⟩
  ·show (0:Int)<=10+20 * (0+(i:Int));omega
  ·show 10+20 * (0+(i:Int))<=1000;omega
  have e4:=(g3.trans g4) _ _ e2;have g24:=g23.trans g4;refine ⟨_,rfl,.inl ⟨rfl,_,SqL.of e4⟩,_,rfl,_,rfl,_,rfl,_,_,rfl,rfl,.inl ⟨by decide,by decide⟩,_,_,rfl,rfl,_,rfl,_,rfl,_,_,rfl,rfl,a,ns,_,rfl,hS.mono g24,?_,?_,λ y' H5 g5 y0' y1'=>?_⟩
  ·show (0:Int)<=2+(0+(i:Int));omega
  ·show 2+(0+(i:Int))<=100000;omega
  have d0:=Int.emod_nonneg (y' / 16) (b:=many) (by omega);have d1:=Int.emod_lt_of_pos (y' / 16) (b:=many) (by omega);have g25:=g24.trans g5;refine ⟨_,_,rfl,rfl,⟨by decide,by decide⟩,_,rfl,_,_,rfl,rfl,(by show (0:Int) < many;omega),_,_,rfl,rfl,_,rfl,a,ns,_,1+y' / 16 % many,ls,rfl,hS.mono g25,?_,?_,by omega,by omega,l9,λ t2 v2 H6 g6 tr2 of2 wt2=>?_⟩
  ·show (0:Int)<=20+20 * (0+(i:Int));omega
  ·show 20+20 * (0+(i:Int))<=1000;omega
  refine ⟨qu (by show 2<=_;decide),λ p hp=>?_⟩;have g46:=g5.trans g6;have e6:=(g46.to hp (o:=.tup [v,v2])) _ _ e4;have lp:ps.length=i:=by rw [pr.length,lx]
  refine ⟨p0,_,_,rfl,rfl,e6,by rw [Xa];exact zz (by omega),?_⟩;have cT:=(qZ ((g3.trans g4).trans (g46.to hp (o:=.tup [v,v2])))).trans (zF.updL e6 (o:=.lst (ps.map V.ref++[.ref p])));have cT4:=(qZ (g46.to hp (o:=.tup [v,v2]))).trans (zF.updL e6 (o:=.lst (ps.map V.ref++[.ref p])));have cT6:=(qZ (qh.up hp (o:=.tup [v,v2]))).trans (zF.updL e6 (o:=.lst (ps.map V.ref++[.ref p])));refine ⟨ps++[p],xs++[(t,t2)],_,_,_,rfl,((g25.trans g6).to hp).at hp0,by rw [qe,XA];rfl,?_,by rw [Xd,lx];rfl,λ x hx=>?_⟩
  ·exact q8 (qE (λ z w h=>yU.mono h cT) pr) (.cons ⟨v,v2,(zF.updL e6) _ _ qe,tr.mono cT4,tr2.mono cT6⟩ .nil)
  ·rcases List.mem_append.mp hx with hx | hx
   ·exact ok x hx
   ·rw [List.mem_singleton.mp hx];exact ⟨of,of2,by show (t.wt:Int)<=many;omega,by show (t2.wt:Int)<=many;omega⟩
 ·rintro σ H2 ⟨ps,xs,v5,v6,v7,rfl,g2,e2,pr,lx,ok⟩;exact ⟨_,rfl,q p0 ps xs H2 g2 e2 pr (by rw [lx];omega) ok⟩
end
section
variable {P:Program} {w:World} {K:PySem.W.Frag} {mg:Str->Option Value} {base:Heap}
theorem j5:bootBuiltins "isinstance"=some (.builtin "isinstance"):=by decide +kernel
theorem qma:bootBuiltins "str"=some (.type "str"):=by decide +kernel
def qeH:Sp:=λ vs H Q _=>∃ (a:Addr) (F:List Pr) (ls:List Nat),vs=[.ref a,vS ls]/\H a=some (.tup (F.map vS))/\On ls F/\ls.Pairwise (· < ·)/\ls.length<=9/\F.length<=600/\∀ H',qh H H'->Q (.bl true) H'
theorem qfR:FnScope ["_law_found","_law_letters_here","_law_one"] ["_law_found","_law_letters_here"] (qi yg):=scF
theorem qjV {f :Addr} {fd :FuncData} (F:Fun K "_law_form_like" "_law_form_like" yg f fd) (T:Txt mg)
  : FnOk P w K mg base CX0 1 f fd ["_law_found","_law_letters_here"] (qeH):=by
 refine F.ok qfR (λ vs H Q E h=>?_) (λ cdv A outer s H vs Q E hr h=>?_)
 ·obtain ⟨a,F,ls,rfl,_⟩:=h;rfl
 obtain ⟨a,F,ls,rfl,hF,oF,hl,l9,h64,q⟩:=h;have hu:=Nat.lt_of_succ_lt (zb hr);have hu1:=zb hr;have hu2:=Nat.lt_of_le_of_lt (Nat.add_le_add_left (by decide:2<=64) _) hr.units;refine ⟨_,(qc (qW (PW.pt (vR (jQ (yn (qz kJ (by rfl) T.isinstance j5 (qa (pv 0) (qa (qaV (v:=.ty "tuple") (by rfl) T.tuple qad rfl) qb)))))
   (jP (jQ (yn (qz (qbJ rfl) (by rfl) T.all qjc (qa (ye (qQ (NY:=["_law_one"]) (o:=1) (caps:=[]) [] rfl (by decide +kernel) (by decide +kernel) (by decide +kernel) (by decide +kernel)
    (by simp) vP rfl) rfl
    (qdW (pv 0)) (λ C0 s H fp pins=>qt (i:=0) (show (["_law_one"]:List Str).Nodup by decide +kernel) rfl (Or.inl rfl)) (λ C0 s H fp pins=>zL) (λ C0 s H fp pins=>(qz (r:=qlP K) kJ (by rfl) T.isinstance j5 (qa (pv 0) (qa (qaV (v:=.ty "str") (by rfl) T.tup qma rfl) qb))))) qb)))))))
   (qd (qm vM)) qy)
  (qc (yE PassesOwn.never rfl (qdW (pv 0)) (qt (i:=2) qfR.nd rfl (Or.inr rfl))
  (qd (qW (qp qeR (pv 2) (y2 PySem.F.plainAttrs_str PySem.F.slot_str_join PySem.F.type_str_join qa3 qk (qa (ye (qQ (NY:=["_law_letter","_law_one"]) (o:=1) (caps:=[2]) ["_law_one"] rfl (by decide +kernel) (by decide +kernel) (by decide +kernel) (by decide +kernel)
    (by intro x hx;rw [List.mem_singleton.mp hx];exact .inl rfl) (qcO rfl rfl rfl vP) rfl) rfl
    (qd9 (pv 1)) (λ C0 s H fp pins=>qt (i:=0) (show (["_law_letter","_law_one"]:List Str).Nodup by decide +kernel) rfl (Or.inl rfl)) (λ C0 s H fp pins=>(qbZ (qp jW (pv 0) (pv 1) rfl))) (λ C0 s H fp pins=>(pv 0))) qb)) (qB _))
   (qd (qm vM)) qy)))
  (qd (qm (j8 (qkh v8 hu) (zf yt (by rfl) T.list vH (qa (pv 0) qb)) (qz (kQ rfl) (by rfl) T.sorted jZ (qa (zf (qa5 rfl) (by rfl) T.set qeu (qa (pv 0) qb)) qb)) (qB _)))))),?_⟩
 have hz:("":Str).length=0:=by decide
 have hs:(qj ls).cps.size=ls.length:=qw ls;refine ⟨_,rfl,_,_,rfl,TyOf.tup hF,true,rfl,?_⟩;refine zB ?_;refine ⟨_,rfl,a,rfl,⟨_,SqT.of hF⟩,?_⟩;refine qlO (SqT.of hF) (λ j=>(F.take j).map λ _=>V.bl true) rfl (λ j hj=>?_) ?_ ?_
 ·rw [Xa,Xi];rw [Xa] at hj;exact zz (by omega)
 ·intro j x H2 D Y Z hx hD hH2 sm hY hZ;obtain ⟨p,hp,rfl⟩:=ql hx;refine ⟨⟨rfl,rfl⟩,?_⟩;refine ⟨_,rfl,_,_,rfl,TyOf.str _,?_⟩;exact hY _ _ hH2 sm (yQ (f:=λ _=>V.bl true) hp)
 intro D H2 hD sm hH2;rw [Xa,List.take_length] at hH2;refine ⟨D,F.map λ _=>true,rfl,SqL.of (by rw [hH2,List.map_map];rfl),_,rfl,?_⟩;rw [show ((F.map λ _=>true).all id)=true by rw [List.all_map];simp];refine zB ?_;refine ⟨_,rfl,a,rfl,⟨_,SqT.of (sm _ _ hF)⟩,?_⟩;refine qj4 (K:=K) (xs:=F.map vS) (λ i σ H5=>∃ v2:Option V,σ=[some (.ref a),some (vS ls),v2]/\qh H H5) ⟨none,rfl,sm⟩ (λ i σ H5 hi ⟨_,_,g⟩=>SqT.of (g _ _ hF)) ?_ ?_
 ·rintro i x σ H5 hx ⟨v2,rfl,g5⟩;obtain ⟨p,hp,rfl⟩:=ql hx;have hpm:=XD hp;have sp:=jU hl (oF.vf.prod p hpm) (oF.mem p hpm);have lp:=sp.length_le;refine ⟨_,rfl,rfl,?_⟩;refine ⟨_,rfl,_,rfl,?_⟩;refine qgj (λ j=>((ls.take j).filter λ c=>decide (c∈p)).map λ c=>vS [c]) rfl (λ j hj=>?_) ?_ ?_
  ·rw [Xa];have:=List.length_filter_le (λ c=>decide (c∈p)) (ls.take j);rw [Xi] at this;exact zz (by omega)
  ·intro j H6 D6 Y Z hj hD6 hH6 sm6 hY hZ;rw [hs] at hj;rw [qbz hj];have fs:=kZ (f:=λ c=>decide (c∈p)) hj;refine ⟨⟨rfl,rfl⟩,?_⟩;refine ⟨_,rfl,_,rfl,_,_,rfl,rfl,_,rfl,?_⟩;refine qaF (λ c=>?_) (λ c=>?_)
   ·refine ⟨_,rfl,hY _ _ hH6 sm6 ?_⟩;show List.map _ ((ls.take (j+1)).filter _)=_
    rw [fs,if_pos c,XA];rfl
   ·refine hZ _ hH6 sm6 ?_;show List.map _ ((ls.take (j+1)).filter _)=_
    rw [fs,if_neg c,List.append_nil]
  ·intro D6 H6 hD6 sm6 hH6;rw [hs,List.take_length,qbN hl (hl.sublist sp) (λ c h=>sp.subset h)] at hH6;refine ⟨_,D6,(p.map λ c=>[c]).map qj,rfl,rfl,.inl (SqL.of (by rw [hH6,qaR,zK])),?_,?_⟩
   ·rw [kC,hz,ym];show _+_ * 0<=_;omega
   rw [ku,ym];refine ⟨rfl,_,rfl,?_⟩;rw [show (!decide (V.str (qj p)=V.str (qj p)))=false by rw [show decide (V.str (qj p)=V.str (qj p))=true from qlc p];rfl];exact zB ⟨_,rfl,g5.trans sm6⟩
 ·rintro σ H5 ⟨v2,rfl,g5⟩;refine ⟨_,rfl,a,_,rfl,.inr (SqT.of (g5 _ _ hF)),λ l1 h1=>?_⟩;have hF3:upd H5 l1 (.lst (F.map vS)) a=some (.tup (F.map vS)):=(qh.up h1) _ _ (g5 _ _ hF);refine ⟨_,rfl,F.map qj,.inl ⟨a,rfl,.inr (by rw [<- zK];exact SqT.of hF3)⟩,by rw [Xa];show _ < 4096;omega,λ l2 ys h2 nd1 m1=>?_⟩;have md:∀ x,x∈ys ↔ cs x∈F:=λ x=>(m1 x).trans kz
  have y1:ys.length=F.length:=kH nd1 oF.vf.nodup md;refine ⟨l2,ys,rfl,qe,by show _ < 4096;omega,nd1,λ l3 h3=>?_⟩;rw [qeg nd1 oF.vf.nodup md,qix oF.vf.rise];refine ⟨l1,l3,F.map qj,F.map qj,rfl,rfl,.inr ⟨SqL.of (by rw [<- zK];exact (((qh.up h2).to h3) _ _ qe)),SqL.of (by rw [<- zK,qe])⟩,?_⟩
  have:=q _ (((g5.to h1).to h2).to h3 (o:=.lst (F.map vS)))
  simpa using this
structure TaskC (K:PySem.W.Frag) (CT:Addr):Prop where
 cls:Cls K CT
 n1:qY K CT "given_letters"
 n2:qY K CT "gap_letters"
 n3:qY K CT "wish_texts"
 n4:qY K CT "side_forms"
 n5:qY K CT "fault_form"
end
section
variable {P:Program} {w:World} {K:PySem.W.Frag} {mg:Str->Option Value} {base:Heap}
def qeI (K:PySem.W.Frag):Sp:=λ vs H Q _=>∃ (a:Addr) (t:List Bool) (ls:List Nat),vs=[vS ls,.ref a]/\SqL K H a (t.map V.bl)/\t.length=2 ^ ls.length/\ls.Pairwise (· < ·)/\ls.length<=6 /\
 ∀ r H',qh H H'->H' r=some (.tup ((vj ls t).map vS))->Q (.ref r) H'
theorem qk1 (i k:Nat):decide (V.int (Builtin.bitAnd (0+(k:Int)) (0+(i:Int)))=V.int (0+(k:Int)))=prt i k:=by
 rw [Int.zero_add,Int.zero_add,qky];unfold prt;by_cases h:k &&& i=k
 ·rw [h];simp
 ·rw [Xu (λ e=>h (by have:=V.int.inj e;exact_mod_cast this)),beq_eq_false_iff_ne.mpr h]
theorem qnf {t:List Bool} {k:Nat} (h:k < t.length):atI (t.map V.bl) (0+(k:Int))=some (.bl (t.getD k false)):=by
 rw [Int.zero_add];refine va ?_;rw [Xw,Xb h,List.getD_eq_getElem?_getD,Xb h];rfl
theorem qfS {ls:List Nat} {t:List Bool} (nd:ls.Nodup) (ht:t.length=2 ^ ls.length):(qaC ls t (2 ^ ls.length)).Nodup:=by rw [qdK nd ht];exact vh _ nd
theorem jx:FnScope ["_law_letters_here","_law_table","_law_found","_law_number","_law_odd","_law_other","_law_row_here"] ["_law_letters_here","_law_table"] (qi vG):=scF
theorem qjW {f fw_row:Addr} {fd dw_row:FuncData} (F:Fun K "_law_form" "_law_form" vG f fd) (T:Txt mg)
  (Gw_row:FnOk P w K mg base CX0 1 fw_row dw_row ["_law_letters_here","_law_number"] (qeF)) (bw_row:qf K dw_row ["_law_letters_here","_law_number"] []) (kw_row:W.keepIn K (.ref fw_row)=true) (mw_row:mg "_law_row"=some (.ref fw_row))
  : FnOk P w K mg base CX0 2 f fd ["_law_letters_here","_law_table"] (qeI K):=by
 refine F.ok jx (λ vs H Q E h=>?_) (λ cdv A outer s H vs Q E hr h=>?_)
 ·obtain ⟨a,t,ls,rfl,_⟩:=h;rfl
 obtain ⟨a,t,ls,rfl,hT,ht,hl,l6,q⟩:=h;have hu:=Nat.lt_of_succ_lt (zb hr);have hu1:=zb hr;have hu2:=Nat.lt_of_le_of_lt (Nat.add_le_add_left (by decide:2<=64) _) hr.units;have hr_1:Room 1 _:=hr.mono (by decide);refine ⟨_,(qc (qv (i:=2) jx.nd rfl (Or.inl rfl) (yh qb))
  (qc (yE PassesOwn.never rfl (yj (by rfl) T.range (qa (qz qH (by rfl) T.len PySem.boot_len (qa (pv 1) qb)) qb)) (qt (i:=3) jx.nd rfl (Or.inl rfl))
  (qc (qv (i:=4) jx.nd rfl (Or.inl rfl) vM)
  (qc (yE PassesOwn.never rfl (yj (by rfl) T.range (qa (qo zS (pv 3) qg) qb)) (qt (i:=5) jx.nd rfl (Or.inl rfl))
  (qd (qW (PW.pt (qdU (qp zv (qo qly (pv 5) (pv 3)) (pv 5) (qB _))
   (qbX (yn (qU zp (pv 1) (pv 5) (λ _ _=>rfl))))))
   (qd (qv (i:=4) jx.nd rfl (Or.inl rfl) (qif (pv 4)))) qy)))
  (qd (qW (yn (pv 4))
   (qc (qv (i:=6) jx.nd rfl (Or.inr rfl) (zm Gw_row hr_1 mw_row kw_row bw_row (qa (pv 0) (qa (pv 3) qb))))
  (qd (yo (y2 PySem.F.plainAttrs_list PySem.F.slot_list_append PySem.F.type_list_append zA (pv 2) (qa (y2 PySem.F.plainAttrs_str PySem.F.slot_str_join PySem.F.type_str_join qa3 qk (qa (ye (qQ (NY:=["_law_letter","_law_row_here"]) (o:=1) (caps:=[6]) ["_law_row_here"] rfl (by decide +kernel) (by decide +kernel) (by decide +kernel) (by decide +kernel)
    (by intro x hx;rw [List.mem_singleton.mp hx];exact .inl rfl) (qcO rfl rfl rfl vP) rfl) rfl
    (qd9 (pv 0)) (λ C0 s H fp pins=>qt (i:=0) (show (["_law_letter","_law_row_here"]:List Str).Nodup by decide +kernel) rfl (Or.inl rfl)) (λ C0 s H fp pins=>(qbZ (yn (qdZ hu1 (pv 1) (pv 0) (λ _ _=>rfl))))) (λ C0 s H fp pins=>(pv 0))) qb)) qb))))) qy)))))
  (qd (qm (zf jR (by rfl) T.tuple qad (qa (qz kS (by rfl) T.sorted jZ (qa (pv 2) qb)) qb)))))),?_⟩
 have nd:=zn XC hl;have hs:(qj ls).cps.size=ls.length:=qw ls;have hz:("":Str).length=0:=by decide
 have h64:2 ^ ls.length<=64:=Nat.pow_le_pow_right (n:=2) (by decide) l6;have hlen:(t.map V.bl).length=2 ^ ls.length:=by rw [Xa,ht]
 refine ⟨Nat.zero_le _,λ fb hfb=>?_⟩;have g0:=qh.up hfb (o:=.lst []);refine ⟨_,rfl,a,_,rfl,.inl (g0.seq hT),_,rfl,?_,?_,?_⟩
 ·rw [hlen];omega
 ·rw [hlen];omega
 refine yF (λ i σ H1=>∃ v3 v4 v5 v6:Option V,σ=[some (vS ls),some (.ref a),some (.ref fb),v3,v4,v5,v6]/\qh H H1/\H1 fb=some (.lst ((qaC ls t i).map vS))) ⟨none,none,none,none,rfl,g0,qe⟩ ?_ ?_
 ·rintro i σ H1 hi ⟨v3,v4,v5,v6,rfl,g1,e1⟩;have hi':i < 2 ^ ls.length:=by rw [hlen] at hi;omega
  refine ⟨_,rfl,_,_,rfl,rfl,_,rfl,?_,?_,?_⟩
  ·show -(2 ^ 62)<=(0:Int)+(i:Int)+1;omega
  ·show (0:Int)+(i:Int)+1 < 2 ^ 62;omega
  refine yF (λ k σ H2=>∃ v5:Option V,σ=[some (vS ls),some (.ref a),some (.ref fb),some (.int (0+(i:Int))),some (.bl (vQ ((List.range k).map λ M=>prt i M && t.getD M false))),v5,v6]/\H2=H1) ⟨v5,rfl,rfl⟩ ?_ ?_
  ·rintro k σ H2 hk ⟨v5',rfl,rfl⟩;have hk':k < t.length:=by omega
   have ex:vQ ((List.range (k+1)).map λ M=>prt i M && t.getD M false)=xor (vQ ((List.range k).map λ M=>prt i M && t.getD M false)) (prt i k && t.getD k false):=by
    rw [List.range_succ,XA,List.map_singleton,qi9]
   refine ⟨_,rfl,_,rfl,_,_,rfl,rfl,_,rfl,rfl,_,rfl,?_⟩;rw [qk1,ex];cases hp:prt i k with
   | false =>
    refine zB ?_;refine zB ?_;exact ⟨_,by rw [Bool.false_and,Bool.xor_false];rfl,rfl⟩
   | true =>
    refine qaw ?_;refine ⟨_,rfl,_,rfl,a,_,_,_,rfl,rfl,g1.seq hT,qnf hk',_,rfl,?_⟩;cases hb:t.getD k false with
    | false =>
     refine zB ?_;exact ⟨_,by rw [Bool.and_false,Bool.xor_false];rfl,rfl⟩
    | true =>
     refine qaw ?_;refine ⟨_,rfl,_,rfl,?_⟩;exact ⟨_,by rw [Bool.and_true,Bool.xor_true];rfl,rfl⟩
  ·rintro σ H2 ⟨v5',rfl,rfl⟩;have en:((0:Int)+(i:Int)+1).toNat=i+1:=by omega
   rw [en];have es:vQ ((List.range (i+1)).map λ M=>prt i M && t.getD M false)=vy t i:=rfl;rw [es];refine ⟨_,rfl,_,rfl,?_⟩;refine qaF (λ c=>?_) (λ c=>?_)
   ·refine ⟨_,rfl,_,rfl,ls,i,(by show [vS ls,V.int (0+(i:Int))]=[vS ls,V.int (i:Int)];rw [Int.zero_add]),nd,l6,λ d H3 g3 e3=>?_⟩;have eF:=g3 _ _ e1;have lr:ls.length=(zo ls.length i).length:=(qal _ _).symm;refine ⟨_,rfl,.inl ⟨rfl,_,SqL.of eF⟩,rfl,?_⟩;refine ⟨_,rfl,_,rfl,?_⟩;refine qgj (λ j=>((ls.take j).filter (asg ls (zo ls.length i))).map λ c=>vS [c]) rfl (λ j hj=>?_) ?_ ?_
    ·rw [Xa];have:=List.length_filter_le (asg ls (zo ls.length i)) (ls.take j);rw [Xi] at this;exact zz (by omega)
    ·intro j H6 D6 Y Z hj hD6 hH6 sm6 hY hZ;rw [hs] at hj;rw [qbz hj];have fs:=kZ (f:=asg ls (zo ls.length i)) hj;have gd:=qcn.k (k:=Sum.inr (qj [ls[j]])) (sm6 _ _ e3);rw [qdb lr,if_pos (List.getElem_mem hj)] at gd;refine ⟨⟨rfl,rfl⟩,?_⟩;refine ⟨_,rfl,_,rfl,d,_,rfl,gd,_,rfl,?_⟩;refine qaF (λ c=>?_) (λ c=>?_)
     ·refine ⟨_,rfl,hY _ _ hH6 sm6 ?_⟩;show List.map _ ((ls.take (j+1)).filter _)=_
      rw [fs,if_pos c,XA];rfl
     ·refine hZ _ hH6 sm6 ?_;show List.map _ ((ls.take (j+1)).filter _)=_
      rw [fs,if_neg c,List.append_nil]
    ·intro D6 H6 hD6 sm6 hH6;rw [hs,List.take_length] at hH6;have eS:ls.filter (asg ls (zo ls.length i))=sel ls i:=rfl;rw [eS] at hH6;have lS:(sel ls i).length<=ls.length:=List.length_filter_le _ _;refine ⟨_,D6,((sel ls i).map λ c=>[c]).map qj,rfl,rfl,.inl (SqL.of (by rw [hH6,qaR,zK])),?_,?_⟩
     ·rw [kC,hz,ym];show _+_ * 0<=_;omega
     rw [ku,ym];have eF6:=sm6 _ _ eF;have pl:=qdJ ls t i;refine ⟨fb,_,_,rfl,rfl,eF6,by rw [Xa];exact zz (by omega),?_⟩;refine ⟨_,_,_,_,rfl,((g1.trans g3).trans sm6).at hfb,?_⟩;rw [qe,qc2,if_pos c,XA];rfl
   ·refine ⟨_,_,_,_,rfl,g1,?_⟩;rw [e1,qc2,if_neg c,List.append_nil]
 ·rintro σ H1 ⟨v3,v4,v5,v6,rfl,g1,e1⟩;have en:(((t.map V.bl).length:Nat):Int).toNat=2 ^ ls.length:=by rw [hlen];omega
  rw [en] at e1;have pl:=qdJ ls t (2 ^ ls.length);have hnd:((qaC ls t (2 ^ ls.length)).map qj).Nodup:=List.pairwise_map.mpr ((qfS nd ht).imp λ {a b} hab e=>hab (qbd e));refine ⟨_,rfl,fb,(qaC ls t (2 ^ ls.length)).map qj,rfl,SqL.of (by rw [<- zK];exact e1),by rw [Xa];show _ < 4096;omega,hnd,λ l hl'=>?_⟩;rw [qbO (zK _).symm,qdK nd ht];refine ⟨l,_,rfl,.inl ⟨SqL.of qe,λ r hr'=>?_⟩⟩;exact q r _ ((g1.to hl').to hr') qe
end
section
variable {P:Program} {w:World} {K:PySem.W.Frag} {mg:Str->Option Value} {base:Heap}
theorem j6:∀ t:Tr,t.nodes<=2 * (t.wt:Int) - 1
 | .letter _=>by show (1:Int)<=2 * ((1:Nat):Int) - 1;decide
 | .one=>by show (1:Int)<=2 * ((1:Nat):Int) - 1;decide
 | .zero=>by show (1:Int)<=2 * ((1:Nat):Int) - 1;decide
 | .neg t=>by have:=j6 t;show 1+t.nodes<=2 * ((t.wt+1:Nat):Int) - 1;omega
 | .bin _ t u=>by have:=j6 t;have:=j6 u;show 1+t.nodes+u.nodes<=2 * ((t.wt+u.wt:Nat):Int) - 1;omega
theorem qic {H1 H2:Hp} {x dx:Addr} {o1 o2:HO} (hx:H1 x=none) (hd:H1 dx=none) (b:But x (upd (upd H1 dx o1) x o2) H2):qh H1 H2:=λ a o e=>by
 have n1:a≠x:=λ q=>by rw [q,hx] at e;cases e
 have n2:a≠dx:=λ q=>by rw [q,hd] at e;cases e
 exact b a o n1 (by rw [qx n1,qx n2];exact e)
end
section
variable {P:Program} {w:World} {K:PySem.W.Frag} {mg:Str->Option Value} {base:Heap}
def qng (CT:Addr):Sp:=λ vs H Q _=>∃ (o:Addr) (gv gp:List Nat) (ws:List Wsh) (dx a1 a2 a3:Addr) (ps:List Addr),vs=[.ref o]/\TaskAt CT H o gv gp ws dx a1 a2 a3 ps/\∀ H',qh H H'->Q (vS gv) H'
def qnh (CT:Addr):Sp:=λ vs H Q _=>∃ (o:Addr) (gv gp:List Nat) (ws:List Wsh) (dx a1 a2 a3:Addr) (ps:List Addr),vs=[.ref o]/\TaskAt CT H o gv gp ws dx a1 a2 a3 ps/\∀ H',qh H H'->Q (vS gp) H'
def qlk (CT:Addr):Sp:=λ vs H Q _=>∃ (o:Addr) (gv gp:List Nat) (ws:List Wsh) (dx a1 a2 a3:Addr) (ps:List Addr),vs=[.ref o]/\TaskAt CT H o gv gp ws dx a1 a2 a3 ps/\∀ l H',qh H H'->H l=none->H' l=some (.lst (ws.map λ x=>vS x.said))->Q (.ref l) H'
def qll (CT:Addr):Sp:=λ vs H Q _=>∃ (o:Addr) (gv gp:List Nat) (ws:List Wsh) (dx a1 a2 a3:Addr) (ps:List Addr),vs=[.ref o]/\TaskAt CT H o gv gp ws dx a1 a2 a3 ps/\∀ l H',qh H H'->H l=none->H' l=some (.lst (ps.map V.ref))->Q (.ref l) H'
theorem qmb:FnScope ["self"] ["self"] (qi yJ):=scF
theorem qmc {f CTask:Addr} {fd :FuncData} (F:Fun K "givens" "Task.givens" yJ f fd) (T:Txt mg)
  (tcTask:TaskC K CTask)
  : FnOk P w K mg base CX0 1 f fd ["self"] (qng CTask):=by
 refine F.ok qmb (λ vs H Q E h=>?_) (λ cdv A outer s H vs Q E hr h=>?_)
 ·obtain ⟨o,gv,gp,ws,dx,a1,a2,a3,ps,rfl,_⟩:=h;rfl
 obtain ⟨o,gv,gp,ws,dx,a1,a2,a3,ps,rfl,t,q⟩:=h;have hu:=Nat.lt_of_succ_lt (zb hr);have hu1:=zb hr;have hu2:=Nat.lt_of_le_of_lt (Nat.add_le_add_left (by decide:2<=64) _) hr.units;refine ⟨_,(qd (qm (zi (pv 0) (by rfl)))),?_⟩;exact ⟨_,rfl,o,CTask,dx,_,_,rfl,t.ins,tcTask.cls,tcTask.n1,rfl,q H (qh.refl H)⟩
theorem qmd:FnScope ["self"] ["self"] (qi jK):=scF
theorem qme {f CTask:Addr} {fd :FuncData} (F:Fun K "gaps" "Task.gaps" jK f fd) (T:Txt mg)
  (tcTask:TaskC K CTask)
  : FnOk P w K mg base CX0 1 f fd ["self"] (qnh CTask):=by
 refine F.ok qmd (λ vs H Q E h=>?_) (λ cdv A outer s H vs Q E hr h=>?_)
 ·obtain ⟨o,gv,gp,ws,dx,a1,a2,a3,ps,rfl,_⟩:=h;rfl
 obtain ⟨o,gv,gp,ws,dx,a1,a2,a3,ps,rfl,t,q⟩:=h;have hu:=Nat.lt_of_succ_lt (zb hr);have hu1:=zb hr;have hu2:=Nat.lt_of_le_of_lt (Nat.add_le_add_left (by decide:2<=64) _) hr.units;refine ⟨_,(qd (qm (zi (pv 0) (by rfl)))),?_⟩;exact ⟨_,rfl,o,CTask,dx,_,_,rfl,t.ins,tcTask.cls,tcTask.n2,rfl,q H (qh.refl H)⟩
theorem qmf:FnScope ["self"] ["self"] (qi yK):=scF
theorem qmg {f CTask:Addr} {fd :FuncData} (F:Fun K "wishes" "Task.wishes" yK f fd) (T:Txt mg)
  (tcTask:TaskC K CTask)
  : FnOk P w K mg base CX0 1 f fd ["self"] (qlk CTask):=by
 refine F.ok qmf (λ vs H Q E h=>?_) (λ cdv A outer s H vs Q E hr h=>?_)
 ·obtain ⟨o,gv,gp,ws,dx,a1,a2,a3,ps,rfl,_⟩:=h;rfl
 obtain ⟨o,gv,gp,ws,dx,a1,a2,a3,ps,rfl,t,q⟩:=h;have hu:=Nat.lt_of_succ_lt (zb hr);have hu1:=zb hr;have hu2:=Nat.lt_of_le_of_lt (Nat.add_le_add_left (by decide:2<=64) _) hr.units;refine ⟨_,(qd (qm (zf yt (by rfl) T.list vH (qa (zi (pv 0) (by rfl)) qb)))),?_⟩;exact ⟨_,rfl,o,CTask,dx,_,_,rfl,t.ins,tcTask.cls,tcTask.n3,rfl,a1,_,rfl,.inl (SqL.of t.said),λ l hl=>q l _ (qh.up hl) hl qe⟩
theorem qmh:FnScope ["self"] ["self"] (qi ja):=scF
theorem qmi {f CTask:Addr} {fd :FuncData} (F:Fun K "sides" "Task.sides" ja f fd) (T:Txt mg)
  (tcTask:TaskC K CTask)
  : FnOk P w K mg base CX0 1 f fd ["self"] (qll CTask):=by
 refine F.ok qmh (λ vs H Q E h=>?_) (λ cdv A outer s H vs Q E hr h=>?_)
 ·obtain ⟨o,gv,gp,ws,dx,a1,a2,a3,ps,rfl,_⟩:=h;rfl
 obtain ⟨o,gv,gp,ws,dx,a1,a2,a3,ps,rfl,t,q⟩:=h;have hu:=Nat.lt_of_succ_lt (zb hr);have hu1:=zb hr;have hu2:=Nat.lt_of_le_of_lt (Nat.add_le_add_left (by decide:2<=64) _) hr.units;refine ⟨_,(qd (qm (zf yt (by rfl) T.list vH (qa (zi (pv 0) (by rfl)) qb)))),?_⟩;exact ⟨_,rfl,o,CTask,dx,_,_,rfl,t.ins,tcTask.cls,tcTask.n4,rfl,a2,_,rfl,.inl (SqL.of t.sides),λ l hl=>q l _ (qh.up hl) hl qe⟩
def qeJ (K:PySem.W.Frag):Sp:=λ vs H Q _=>∃ (a:Addr) (ns:List Int) (r:Addr) (ps:List Addr) (xs:List (Tr×Tr)),vs=[.ref a,.ref r]/\Scr K H a ns/\H r=some (.lst (ps.map V.ref))/\Paired (yU H) ps xs/\xs.length<=10/\(∀ x∈xs,x.1.Of zD/\x.2.Of zD/\x.1.wt<=20/\x.2.wt<=20) /\
 ∀ r' (ws:List Wsh) H',qh H H'->H r'=none->H' r'=some (.lst (ws.map λ y=>vS y.text))->ws.map (λ y=>(y.t,y.u))=xs->(∀ y∈ws,y.i<=3/\y.j<=3/\y.k<=3/\y.l<=3)->Q (.ref r') H'
theorem qeK {z:Int}:V.int (z % 4)=V.int (((z % 4).toNat:Nat):Int):=by
 have:=Int.emod_nonneg z (b:=4) (by decide)
 congr 1;omega
theorem qeL (z:Int):(z % 4).toNat<=3:=by
 have:=Int.emod_lt_of_pos z (b:=4) (by decide)
 omega
theorem yi:FnScope ["_law_script","_law_wishes_here","_law_texts_here","_law_k","_law_wish","_law_cell","_law_left","_law_right_here"] ["_law_script","_law_wishes_here"] (qi jN):=scF
theorem qgN {f fw_mixed fw_text:Addr} {fd dw_mixed dw_text:FuncData} (F:Fun K "_law_texts" "_law_texts" jN f fd) (T:Txt mg)
  (Gw_mixed:FnOk P w K mg base CX0 1 fw_mixed dw_mixed ["_law_script","_law_k"] (jw K)) (bw_mixed:qf K dw_mixed ["_law_script","_law_k"] []) (kw_mixed:W.keepIn K (.ref fw_mixed)=true) (mw_mixed:mg "_law_mixed"=some (.ref fw_mixed))
  (Gw_text:FnOk P w K mg base CX0 20 fw_text dw_text ["_law_tree_here"] (qia zN 20)) (bw_text:qf K dw_text ["_law_tree_here"] []) (kw_text:W.keepIn K (.ref fw_text)=true) (mw_text:mg "_law_text"=some (.ref fw_text))
  : FnOk P w K mg base CX0 21 f fd ["_law_script","_law_wishes_here"] (qeJ K):=by
 refine F.ok yi (λ vs H Q E h=>?_) (λ cdv A outer s H vs Q E hr h=>?_)
 ·obtain ⟨a,ns,r,ps,xs,rfl,_⟩:=h;rfl
 obtain ⟨a,ns,r,ps,xs,rfl,hS,hr',pr,l10,ok,q⟩:=h;have hu:=Nat.lt_of_succ_lt (zb hr);have hu1:=zb hr;have hu2:=Nat.lt_of_le_of_lt (Nat.add_le_add_left (by decide:2<=64) _) hr.units;have hr_1:Room 1 _:=hr.mono (by decide);have hr_20:Room 20 _:=hr.mono (by decide);refine ⟨_,(qc (qv (i:=2) yi.nd rfl (Or.inl rfl) (yh qb))
  (qc (qeh (n:=2) PassesOwn.never rfl (qkg (by rfl) T.enumerate (qa (pv 1) qb)) (qT (qt (i:=3) yi.nd rfl (Or.inl rfl)) (qT (qt (i:=4) yi.nd rfl (Or.inl rfl)) yp))
  (qc (qv (i:=5) yi.nd rfl (Or.inl rfl) (zm Gw_mixed hr_1 mw_mixed kw_mixed bw_mixed (qa (pv 0) (qa (qo zS qg (pv 3)) qb))))
  (qc (qv (i:=6) yi.nd rfl (Or.inl rfl) (qo qG (qo qG (qo qep qk (qo zh (pv 5) qg)) (zm Gw_text hr_20 mw_text kw_text bw_text (qa (qU za (pv 4) qg (λ _ _=>rfl)) qb))) (qo qep qk (qo zh (qo zP (pv 5) qg) qg))))
  (qc (qv (i:=7) yi.nd rfl (Or.inl rfl) (qo qG (qo qep qk (qo zh (qo zP (pv 5) qg) qg)) (zm Gw_text hr_20 mw_text kw_text bw_text (qa (qU za (pv 4) qg (λ _ _=>rfl)) qb))))
  (qd (yo (y2 PySem.F.plainAttrs_list PySem.F.slot_list_append PySem.F.type_list_append zA (pv 2) (qa (qo qG (qo qG (qo qG (pv 6) qk) (pv 7)) (qo qep qk (qo zh (qo zP (pv 5) qg) qg))) qb))))))))
  (qd (qm (pv 2))))),?_⟩
 rw [show (" ":Str)=qj [32] by decide +kernel,show ("=":Str)=qj [61] by decide +kernel];have lps:ps.length=xs.length:=pr.length;refine ⟨Nat.zero_le _,λ tb htb=>?_⟩;have g0:=qh.up htb (o:=.lst []);have e0:=g0 _ _ hr';refine ⟨_,rfl,r,rfl,⟨_,SqL.of e0⟩,?_⟩;refine qiT (K:=K) (xs:=ps.map V.ref) (λ i σ H'=>∃ (ws:List Wsh) (v3 v4 v5 v6 v7:Option V),σ=[some (.ref a),some (.ref r),some (.ref tb),v3,v4,v5,v6,v7]/\qh H H'/\H' tb=some (.lst (ws.map λ y=>vS y.text))/\ws.map (λ y=>(y.t,y.u))=xs.take i/\(∀ y∈ws,y.i<=3/\y.j<=3/\y.k<=3/\y.l<=3))
  ⟨[],none,none,none,none,none,rfl,g0,qe,rfl,by simp⟩ (λ i σ H' hi ⟨_,_,_,_,_,_,_,g,_⟩=>SqL.of (g _ _ hr')) ?_ ?_
 ·rintro i y σ H1 hy ⟨ws,v3,v4,v5,v6,v7,rfl,g1,e1,hw,hb⟩;obtain ⟨p,hp,rfl⟩:=ql hy;obtain ⟨x,hx,wp⟩:=zk pr i p hp;obtain ⟨b1,b2,k1,k2,k3⟩:=wp.mono (qZ g1);obtain ⟨t9,u9,tw,uw⟩:=ok x (XD hx);have th:=x.1.ht_wt;have uh:=x.2.ht_wt;have lt:=x.1.text_len;have lu:=x.2.text_len;have hil:=jl hx;have lws:ws.length=i:=by have:=congrArg List.length hw;rw [Xa,Xi] at this;omega
  refine ⟨_,_,rfl,_,_,rfl,rfl,?_⟩;refine ⟨_,rfl,_,rfl,_,_,rfl,rfl,a,ns,_,rfl,hS.mono g1,?_,?_,λ z H2 g2 z0 z1=>?_⟩
  ·show (0:Int)<=150+(i:Int);omega
  ·show (150:Int)+(i:Int)<=100000;omega
  have m0:=qeL z;have m1:=qeL (z / 4);have m2:=qeL (z / 16);have m3:=qeL (z / 64);refine ⟨_,rfl,_,_,rfl,rfl,(show (0:Int) < 4 by decide),_,rfl,qeK,m0,_,rfl,p,_,_,_,rfl,rfl,SqT.of (g2 _ _ k1),rfl,b1,x.1,rfl,k2.mono (qZ g2),by omega,by omega,t9,λ H3 g3=>?_⟩;refine ⟨_,_,rfl,rfl,by rw [qw,qw,XB];exact qu (by omega),_,rfl,_,_,rfl,rfl,⟨by decide,by decide⟩,_,_,rfl,rfl,(show (0:Int) < 4 by decide),_,rfl,qeK,m1,?_⟩;rw [zr];refine ⟨_,_,rfl,rfl,by rw [qw,qw,XB,Xd,XB];exact qu (by omega),?_⟩;rw [zr];have g23:=g2.trans g3;refine ⟨_,rfl,_,_,rfl,rfl,⟨by decide,by decide⟩,_,_,rfl,rfl,(show (0:Int) < 4 by decide),_,rfl,qeK,m2,_,rfl,p,_,_,_,rfl,rfl,SqT.of (g23 _ _ k1),rfl,b2,x.2,rfl,k3.mono (qZ g23),by omega,by omega,u9,λ H4 g4=>?_⟩;refine ⟨_,_,rfl,rfl,by rw [qw,qw,XB];exact qu (by omega),?_⟩;rw [zr];have g24:=g23.trans g4;have e4:=g24 _ _ e1;refine ⟨_,rfl,.inl ⟨rfl,_,SqL.of e4⟩,_,rfl,_,_,rfl,rfl,by rw [qw,qw,Xd,Xd,XB,XB];exact qu (by show _+1<=_;omega),?_⟩;rw [zr];refine ⟨_,rfl,_,_,rfl,rfl,by rw [qw,qw,Xd,Xd,Xd,Xd,XB,XB,XB];exact qu (by show _+1+_<=_;omega),?_⟩;rw [zr];refine ⟨_,rfl,_,_,rfl,rfl,⟨by decide,by decide⟩,_,_,rfl,rfl,(show (0:Int) < 4 by decide),_,rfl,qeK,m3,?_⟩;refine ⟨_,_,rfl,rfl,by rw [qw,qw,Xd,Xd,Xd,Xd,Xd,XB,XB,XB,XB];exact qu (by show _+1+_+_<=_;omega),?_⟩;rw [zr];refine ⟨tb,_,_,rfl,rfl,e4,by rw [Xa];exact zz (by omega),?_⟩;refine ⟨ws++[⟨(z % 4).toNat,(z / 4 % 4).toNat,(z / 16 % 4).toNat,(z / 64 % 4).toNat,x.1,x.2⟩],_,_,_,_,_,rfl,(g1.trans g24).at htb,?_,by rw [zg hx,XA,hw];rfl,λ y hy=>?_⟩
  ·rw [qe,XA];congr 3
   show [vS _]=[vS _]
   congr 2
   unfold Wsh.text;simp
  ·rcases List.mem_append.mp hy with h | h
   ·exact hb y h
   ·rw [List.mem_singleton.mp h];exact ⟨m0,m1,m2,m3⟩
 ·rintro σ H1 ⟨ws,v3,v4,v5,v6,v7,rfl,g1,e1,hw,hb⟩;rw [Xa,lps,List.take_length] at hw;exact ⟨_,rfl,q tb ws H1 g1 htb e1 hw hb⟩
end
section
variable {P:Program} {w:World} {K:PySem.W.Frag} {mg:Str->Option Value} {base:Heap}
theorem qdR {H H':Hp} (g:qh H H') {c:Addr} (h:H' c=none):H c=none:=by
 cases e:H c with
 | none=>rfl
 | some u=>rw [g _ _ e] at h;cases h
theorem TaskAt.mono {CT:Addr} {H H':Hp} {o:Addr} {gv gp:List Nat} {ws:List Wsh} {dx a1 a2 a3:Addr} {ps:List Addr} (t:TaskAt CT H o gv gp ws dx a1 a2 a3 ps) (g:qh H H'):TaskAt CT H' o gv gp ws dx a1 a2 a3 ps :=
 ⟨g _ _ t.ins,g _ _ t.said,g _ _ t.sides,qE (λ p y h=>ze.mono h g) t.side,g _ _ t.fault⟩
theorem qjX {ls:List Nat} {t:Tr} (hl:ls.Pairwise (· < ·)) (of:t.Of ls):vj ls ((List.range (2 ^ ls.length)).map λ N=>t.val (asg ls (zo ls.length N)))=t.form:=by
 have o:=Tr.on of;refine qja hl o.vf o.mem (by rw [Xa,List.length_range]) λ N hN=>?_
 rw [List.getD_eq_getElem?_getD,Xw,List.getElem?_range hN,Tr.form_worth _ of];rfl
def yV (x:Tr×Tr):List Pr×List Pr:=(x.1.form,x.2.form)
theorem ze.updL {H:Hp} {p D:Addr} {fg:List Pr×List Pr} {l l':List V} (h:ze H p fg) (hD:H D=some (.lst l)):ze (upd H D (.lst l')) p fg:=by
 obtain ⟨x,y,h1,h2,h3⟩:=h;have ne:∀ {z:Addr} {vs:List V},H z=some (.tup vs)->z≠D:=λ h e=>by rw [e,hD] at h;cases h
 exact ⟨x,y,by rw [qx (ne h1)];exact h1,by rw [qx (ne h2)];exact h2,by rw [qx (ne h3)];exact h3⟩
def qeM (K:PySem.W.Frag) (CT:Addr):Sp:=λ vs H Q _=>∃ (o r:Addr) (gv gp:List Nat) (ws:List Wsh) (dx a1 a2 a3:Addr) (ps qs:List Addr) (xs:List (Tr×Tr)),vs=[.ref o,.ref r,vS (gv++gp)]/\TaskAt CT H o gv gp ws dx a1 a2 a3 ps/\H r=some (.lst (qs.map V.ref))/\Paired (yU H) qs xs/\ws.map (λ y=>(y.t,y.u))=xs/\xs.length<=6/\gv.Sublist abc/\gp.Sublist xyz /\
 (∀ x∈xs,x.1.Of (gv++gp)/\x.2.Of (gv++gp)/\x.1.wt<=20/\x.2.wt<=20)/\∀ H',qh H H'->Q (.bl true) H'
theorem yC:FnScope ["_law_task","_law_wishes_here","_law_letters_here","_law_rows_here","_law_due","_law_wish","_law_forms","_law_found","_law_told","_law_written","_law_pair"] ["_law_task","_law_wishes_here","_law_letters_here"] (qi jO):=scF
theorem qjY {f fw_rows fw_truth fw_form fw_text fw_form_like CTask fTask_sides fTask_wishes:Addr} {fd dw_rows dw_truth dw_form dw_text dw_form_like dTask_sides dTask_wishes:FuncData} (F:Fun K "_law_right" "_law_right" jO f fd) (T:Txt mg)
  (Gw_rows:FnOk P w K mg base CX0 2 fw_rows dw_rows ["_law_letters_here"] (qeG)) (bw_rows:qf K dw_rows ["_law_letters_here"] []) (kw_rows:W.keepIn K (.ref fw_rows)=true) (mw_rows:mg "_law_rows"=some (.ref fw_rows))
  (Gw_truth:FnOk P w K mg base CX0 20 fw_truth dw_truth ["_law_tree_here","_law_row_here"] (qjP 20)) (bw_truth:qf K dw_truth ["_law_tree_here","_law_row_here"] []) (kw_truth:W.keepIn K (.ref fw_truth)=true) (mw_truth:mg "_law_truth"=some (.ref fw_truth))
  (Gw_form:FnOk P w K mg base CX0 2 fw_form dw_form ["_law_letters_here","_law_table"] (qeI K)) (bw_form:qf K dw_form ["_law_letters_here","_law_table"] []) (kw_form:W.keepIn K (.ref fw_form)=true) (mw_form:mg "_law_form"=some (.ref fw_form))
  (Gw_text:FnOk P w K mg base CX0 20 fw_text dw_text ["_law_tree_here"] (qia zN 20)) (bw_text:qf K dw_text ["_law_tree_here"] []) (kw_text:W.keepIn K (.ref fw_text)=true) (mw_text:mg "_law_text"=some (.ref fw_text))
  (Gw_form_like:FnOk P w K mg base CX0 1 fw_form_like dw_form_like ["_law_found","_law_letters_here"] (qeH)) (bw_form_like:qf K dw_form_like ["_law_found","_law_letters_here"] []) (kw_form_like:W.keepIn K (.ref fw_form_like)=true) (mw_form_like:mg "_law_form_like"=some (.ref fw_form_like))
  (tcTask:TaskC K CTask)
  (MTask_sides:Meth K CTask "sides" fTask_sides) (GTask_sides:FnOk P w K mg base CX0 1 fTask_sides dTask_sides ["self"] (qll CTask)) (bTask_sides:qf K dTask_sides ["self"] [])
  (MTask_wishes:Meth K CTask "wishes" fTask_wishes) (GTask_wishes:FnOk P w K mg base CX0 1 fTask_wishes dTask_wishes ["self"] (qlk CTask)) (bTask_wishes:qf K dTask_wishes ["self"] [])
  : FnOk P w K mg base CX0 21 f fd ["_law_task","_law_wishes_here","_law_letters_here"] (qeM K CTask):=by
 refine F.ok yC (λ vs H Q E h=>?_) (λ cdv A outer s H vs Q E hr h=>?_)
 ·obtain ⟨o,r,gv,gp,ws,dx,a1,a2,a3,ps,qs,xs,rfl,_⟩:=h;rfl
 obtain ⟨o,r,gv,gp,ws,dx,a1,a2,a3,ps,qs,xs,rfl,tk,hr',pr,hws,l6,sgv,sgp,ok,q⟩:=h;have hu:=Nat.lt_of_succ_lt (zb hr);have hu1:=zb hr;have hu2:=Nat.lt_of_le_of_lt (Nat.add_le_add_left (by decide:2<=64) _) hr.units;have hr_1:Room 1 _:=hr.mono (by decide);have hr_2:Room 2 _:=hr.mono (by decide);have hr_20:Room 20 _:=hr.mono (by decide);refine ⟨_,(qc (qv (i:=3) yC.nd rfl (Or.inr rfl) (zm Gw_rows hr_2 mw_rows kw_rows bw_rows (qa (pv 2) qb)))
  (qc (qv (i:=4) yC.nd rfl (Or.inl rfl) (yh qb))
  (qc (yE PassesOwn.never rfl (yq (pv 1)) (qt (i:=5) yC.nd rfl (Or.inl rfl))
  (qc (qjb (i:=6) yC.nd rfl rfl (qfw (NY:=["_law_side","_law_letters_here","_law_rows_here"]) (o:=1) (caps:=[2,3]) ["_law_letters_here","_law_rows_here"] rfl (by decide +kernel) (by decide +kernel) (by decide +kernel) (by decide +kernel)
    (by intro x hx;rcases List.mem_cons.mp hx with e | hx;· rw [e];exact .inl rfl
        rw [List.mem_singleton.mp hx];exact .inl rfl) (qcO rfl rfl rfl (qcO rfl rfl rfl vP)) rfl) rfl
    (qdW (pv 5)) (λ C0 s H fp pins=>qt (i:=0) (show (["_law_side","_law_letters_here","_law_rows_here"]:List Str).Nodup by decide +kernel) rfl (Or.inr rfl)) (λ C0 s H fp pins=>zL) (λ C0 s H fp pins=>(zm Gw_form hr_2 mw_form kw_form bw_form (qa (pv 1) (qa (ye (qQ (NY:=["_law_row_here","_law_side"]) (o:=1) (caps:=[0]) ["_law_side"] rfl (by decide +kernel) (by decide +kernel) (by decide +kernel) (by decide +kernel)
    (by intro x hx;rw [List.mem_singleton.mp hx];exact .inl rfl) (qcO rfl rfl rfl vP) rfl) rfl
    (show PI _ _ _ (qk6 K (qdT 2)) from yq (pv 2)) (λ C0 s H fp pins=>qt (i:=0) (show (["_law_row_here","_law_side"]:List Str).Nodup by decide +kernel) rfl (Or.inl rfl)) (λ C0 s H fp pins=>zL) (λ C0 s H fp pins=>(zm Gw_truth hr_20 mw_truth kw_truth bw_truth (qa (pv 1) (qa (pv 0) qb))))) qb)))))
  (qd (yo (y2 PySem.F.plainAttrs_list PySem.F.slot_list_append PySem.F.type_list_append zA (pv 4) (qa (zl (qa (qU zp (pv 6) qg (λ _ _=>rfl)) (qa (qU zp (pv 6) qg (λ _ _=>rfl)) qb))) qb))))))
  (qc (qv (i:=7) yC.nd rfl (Or.inl rfl) (qD (pv 0) tcTask.cls MTask_sides GTask_sides hr_1 bTask_sides .nil qI))
  (qc (qW (PW.pt (vR (jQ (yn (qz kJ (by rfl) T.isinstance j5 (qa (pv 7) (qa (qaV (v:=.ty "list") (by rfl) T.list vH rfl) qb)))))
   (vR (qp (qkC hu2) (pv 7) (pv 4) (qB _))
   (jP (jQ (yn (qz (qbJ rfl) (by rfl) T.all qjc (qa (ye (qQ (NY:=["_law_one"]) (o:=1) (caps:=[]) [] rfl (by decide +kernel) (by decide +kernel) (by decide +kernel) (by decide +kernel)
    (by simp) vP rfl) rfl
    (yq (pv 7)) (λ C0 s H fp pins=>qt (i:=0) (show (["_law_one"]:List Str).Nodup by decide +kernel) rfl (Or.inl rfl)) (λ C0 s H fp pins=>zL) (λ C0 s H fp pins=>(qz (r:=qlP K) kJ (by rfl) T.isinstance j5 (qa (pv 0) (qa (qaV (v:=.ty "tuple") (by rfl) T.tuple qad rfl) qb))))) qb))))))))
   (qd (qm vM)) qy)
  (qc (qv (i:=8) yC.nd rfl (Or.inl rfl) (qD (pv 0) tcTask.cls MTask_wishes GTask_wishes hr_1 bTask_wishes .nil qI))
  (qc (qg1 (i:=9) yC.nd rfl rfl (qQ (NY:=["_law_one","_law_two"]) (o:=2) (caps:=[]) [] rfl (by decide +kernel) (by decide +kernel) (by decide +kernel) (by decide +kernel)
    (by simp) vP rfl) rfl
    (yq (pv 1)) (λ C0 s H fp pins=>(show PG _ _ (qj3 K 2 (qcf (vN 0) (qcf (vN 1) qj2))) from qcg (n:=2) rfl (qT (qt (i:=0) (show (["_law_one","_law_two"]:List Str).Nodup by decide +kernel) rfl (Or.inl rfl) (hf:=Or.inr rfl)) (qT (qt (i:=1) (show (["_law_one","_law_two"]:List Str).Nodup by decide +kernel) rfl (Or.inl rfl) (hf:=Or.inr rfl)) yp)))) (λ C0 s H fp pins=>zL) (λ C0 s H fp pins=>(qo qG (qo qG (zm Gw_text hr_20 mw_text kw_text bw_text (qa (pv 0) qb)) qk) (zm Gw_text hr_20 mw_text kw_text bw_text (qa (pv 1) qb)))))
  (qc (qW (PW.pt (vR (jQ (yn (qz kJ (by rfl) T.isinstance j5 (qa (pv 8) (qa (qaV (v:=.ty "list") (by rfl) T.list vH rfl) qb)))))
   (jP (qp (qgY v8 hu) (pv 8) (pv 9) (qB _)))))
   (qd (qm vM)) qy)
  (qc (yE PassesOwn.never rfl (yq (pv 7)) (qt (i:=10) yC.nd rfl (Or.inl rfl))
  (qd (qW (PW.pt (vR (jQ (yn (zm Gw_form_like hr_1 mw_form_like kw_form_like bw_form_like (qa (qU za (pv 10) qg (λ _ _=>rfl)) (qa (pv 2) qb)))))
   (jP (jQ (yn (zm Gw_form_like hr_1 mw_form_like kw_form_like bw_form_like (qa (qU za (pv 10) qg (λ _ _=>rfl)) (qa (pv 2) qb))))))))
   (qd (qm vM)) qy)))
  (qc (yo (y2 PySem.F.plainAttrs_list PySem.F.slot_list_append PySem.F.type_list_append zA (pv 7) (qa qg qb)))
  (qc (yo (y2 PySem.F.plainAttrs_list PySem.F.slot_list_append PySem.F.type_list_append zA (pv 8) (qa qk qb)))
  (qd (qm vM))))))))))))),?_⟩
 obtain ⟨hrl,ll6,l9⟩:=qbB sgv sgp;have ndl:=zn XC hrl;rw [show (" = ":Str)=qj [32,61,32] by decide +kernel];generalize hls:gv++gp=ls at hrl ll6 l9 ndl ok ⊢;have lqs:qs.length=xs.length:=pr.length;have hwl:ws.length=xs.length:=by rw [<- hws,Xa]
 have hside:ws.map Wsh.side=xs.map yV:=by rw [<- hws,List.map_map];rfl
 refine ⟨_,rfl,ls,rfl,ndl,ll6,λ rr ds H1 g1 e1 pd=>?_⟩;have lds:ds.length=2 ^ ls.length:=by rw [pd.length,List.length_range]
 have h64:2 ^ ls.length<=64:=Nat.pow_le_pow_right (n:=2) (by decide) ll6;refine ⟨Nat.zero_le _,λ du hdu=>?_⟩;have g2:=g1.to hdu (o:=.lst []);refine ⟨_,rfl,r,rfl,⟨_,SqL.of (g2 _ _ hr')⟩,?_⟩;refine qci (K:=K) (xs:=qs.map V.ref) (λ i σ H'=>∃ (as:List Addr) (v5 v6:Option V),σ=[some (.ref o),some (.ref r),some (vS ls),some (.ref rr),some (.ref du),v5,v6,none,none,none,none]/\qh H1 H'/\H' du=some (.lst (as.map V.ref))/\Paired (ze H') as ((xs.take i).map yV)) ⟨[],none,none,rfl,qh.up hdu,qe,.nil⟩ (λ i σ H' _ ⟨_,_,_,_,g,_⟩=>SqL.of ((g1.trans g) _ _ hr')) ?_ ?_
 ·rintro i y σ H3 hy ⟨as,v5,v6,rfl,g13,ed3,pa3⟩;have g3:=g1.trans g13;obtain ⟨p,hp,rfl⟩:=ql hy;obtain ⟨x,hx,wp⟩:=zk pr i p hp;obtain ⟨b1,b2,k1,k2,k3⟩:=wp.mono (qZ g3);obtain ⟨t9,u9,tw,uw⟩:=ok x (XD hx);have th:=x.1.ht_wt;have uh:=x.2.ht_wt;have hil:=jl hx;have las:as.length<=6:=by rw [pa3.length,Xa,Xi];omega
  have e13:=g13 _ _ e1;have two:∀ (j:Nat) (v:V),([b1,b2]:List V)[j]?=some v->∃ t:Tr,([x.1,x.2]:List Tr)[j]?=some t/\TrW H3 t v/\t.Of ls/\t.ht<=20:=λ j v hv=>by
   cases j with
   | zero=>have e:b1=v:=Xs hv;subst e;exact ⟨x.1,rfl,k2,t9,by omega⟩
   | succ j=>cases j with
    | zero=>have e:b2=v:=Xs hv;subst e;exact ⟨x.2,rfl,k3,u9,by omega⟩
    | succ j=>exact absurd hv (by show ¬ (none=some v);intro h;cases h)
  refine ⟨_,rfl,p,rfl,⟨_,SqT.of k1⟩,?_⟩;refine kq 2 (λ j ys H'=>∃ fs:List Addr,ys=fs.map V.ref/\Paired (λ c (t:Tr)=>H' c=some (.tup (t.form.map vS))) fs ([x.1,x.2].take j)) (λ D hD=>⟨[],rfl,.nil⟩) ?_ ?_ (λ H' sm'=>⟨_,sm'.seqT (SqT.of k1),Xe _⟩) ?_
  ·rintro j ys H' hj ⟨fs,rfl,hf⟩
   have:=hf.length
   rw [Xi] at this;rw [Xa];exact zz (by omega)
  ·rintro j ys H' D2 Y Z hj hD2 hH' sm' ⟨fs,rfl,hf⟩ hY hZ;have hj':j < ([b1,b2]:List V).length:=hj;refine ⟨⟨_,_,sm'.seqT (SqT.of k1),Xb hj'⟩,?_⟩;rintro v H'' ⟨rfl,hv⟩;have ev:=hv _ (sm'.seqT (SqT.of k1));obtain ⟨t,ht,kt,ot,hht⟩:=two j v ev;have kt':=kt.mono (qZ sm');refine ⟨⟨rfl,rfl⟩,?_⟩;have e14:=sm' _ _ e13;refine ⟨_,rfl,_,rfl,rr,rfl,⟨_,SqL.of e14⟩,?_⟩;refine qbv (SqL.of e14) (λ m=>((List.range m).map λ N=>t.val (asg ls (zo ls.length N))).map V.bl) rfl (λ m hm=>?_) ?_ ?_
   ·rw [Xa] at hm;rw [Xa,Xa,List.length_range];exact zz (by omega)
   ·intro m v2 H8 D Y2 Z2 hv2 hD hH8 sm hY2 hZ2;obtain ⟨d,hd,rfl⟩:=ql hv2;obtain ⟨N,hN,ed⟩:=zk pd m d hd;have eN:N=m:=by
     have:=jl hN
     rw [List.length_range] at this;rw [List.getElem?_range this] at hN;exact (Xs hN).symm
    subst eN;have lr:ls.length=(zo ls.length N).length:=(qal _ _).symm;refine ⟨⟨rfl,rfl⟩,?_⟩;refine ⟨_,rfl,_,rfl,v,d,t,_,asg ls (zo ls.length N),ls,rfl,kt'.mono (qZ sm),hht,ot,sm _ _ (sm' _ _ (g13 _ _ ed)),λ c hc=>by rw [qdb lr,if_pos hc],λ H9 g9=>?_⟩;refine hY2 _ _ (g9 _ _ hH8) (sm.trans g9) ?_;rw [List.range_succ,XA,XA];rfl
   intro D H8 hD s8 h8;rw [Xa,lds] at h8;refine ⟨D,_,ls,rfl,SqL.of h8,by rw [Xa,List.length_range],hrl,ll6,λ rF H9 g9 eF=>?_⟩;rw [qjX hrl ot] at eF;have eD:=g9 _ _ (s8 _ _ hH');have keepT:∀ {z:Addr} {vs:List V},H9 z=some (.tup vs)->upd H9 D2 (.lst (fs.map V.ref++[.ref rF])) z=some (.tup vs):=λ {z vs} h=>by
    rw [qx (λ e=>by rw [e,eD] at h;cases h)];exact h
   refine hY _ _ eD ((sm'.trans s8).trans g9) ⟨fs++[rF],by rw [XA];rfl,?_⟩;rw [zg ht];exact q8 (qE (λ c t' h=>keepT (g9 _ _ (s8 _ _ h))) hf) (.cons (keepT eF) .nil)
  rintro D6 H6 ys hD6 s6 h6 ⟨fs,rfl,hfs⟩;obtain ⟨f1,f2,rfl,ef1,ef2⟩:∃ f1 f2,fs=[f1,f2]/\H6 f1=some (.tup (x.1.form.map vS))/\H6 f2=some (.tup (x.2.form.map vS)):=by
   have hfs:Paired (λ c (t:Tr)=>H6 c=some (.tup (t.form.map vS))) fs [x.1,x.2]:=hfs;cases hfs with
   | cons r t=>cases t with
    | cons r' t'=>cases t';exact ⟨_,_,rfl,r,r'⟩
  have ed6:=s6 _ _ ed3;refine ⟨_,rfl,.inl ⟨rfl,_,SqL.of ed6⟩,_,rfl,D6,_,_,_,rfl,rfl,SqL.of h6,rfl,_,rfl,D6,_,_,_,rfl,rfl,SqL.of h6,rfl,qu (by show 2<=_;decide),λ pp hpp=>?_⟩;have g7:=qh.up hpp (o:=.tup [.ref f1,.ref f2]);have ed7:=g7 _ _ ed6;refine ⟨du,_,_,rfl,rfl,ed7,by rw [Xa];exact zz (by omega),?_⟩;refine ⟨as++[pp],_,_,rfl,((g13.trans s6).trans g7).at hdu,by rw [qe,XA];rfl,?_⟩;rw [zg hx,XA];refine q8 (qE (λ c z h=>(ze.mono h (s6.trans g7)).updL ed7) pa3) (.cons ?_ .nil);exact ze.updL (⟨f1,f2,qe,g7 _ _ ef1,g7 _ _ ef2⟩:ze _ pp (x.1.form,x.2.form)) ed7
 rintro σ H3 ⟨as,v5,v6,rfl,g13,ed3,pa3⟩;rw [Xa,lqs,List.take_length] at pa3;have g3:=g1.trans g13;have tk3:=tk.mono g3;have lpsl:ps.length=xs.length:=by rw [tk.side.length,Xa,hwl]
 refine ⟨_,rfl,o,dx,_,rfl,tk3.ins,rfl,o,gv,gp,ws,dx,a1,a2,a3,ps,rfl,tk3,λ lf H4 g4 nlf elf=>?_⟩;have g34:=g3.trans g4;have side4:=qE (λ p y h=>ze.mono h g4) tk3.side;rw [hside] at side4;have pairF:∀ {H':Hp} {c:Addr} {fg:List Pr×List Pr},ze H' c fg->qld K H' c fg:=λ ⟨u,v,h1,h2,h3⟩=>⟨u,v,SqT.of h1,SqT.of h2,SqT.of h3⟩
 refine ⟨_,rfl,_,_,rfl,TyOf.lst elf,true,rfl,zB ?_⟩;refine ⟨_,rfl,_,rfl,lf,du,ps,as,xs.map yV,xs.map yV,rfl,rfl,SqL.of elf,SqL.of (g4 _ _ ed3),qE (λ c z h=>pairF h) side4,qE (λ c z h=>pairF (ze.mono h g4)) pa3,rfl,_,rfl,?_⟩;rw [show (if true=true then !decide (xs.map yV=xs.map yV) else decide (xs.map yV=xs.map yV))=false by simp];refine zB ?_;refine ⟨_,rfl,lf,rfl,⟨_,SqL.of elf⟩,?_⟩;refine qbv (SqL.of elf) (λ m=>(ps.take m).map λ _=>V.bl true) rfl (λ m hm=>?_) ?_ ?_
 ·rw [Xa,Xi];exact zz (by omega)
 ·intro m v HB D Y Z hv hD hHB sm hY hZ;obtain ⟨c,hc,rfl⟩:=ql hv;obtain ⟨z,hz,u,v,h1,h2,h3⟩:=zk side4 m c hc;refine ⟨⟨rfl,rfl⟩,?_⟩;refine ⟨_,rfl,_,_,rfl,TyOf.tup (sm _ _ h1),?_⟩;exact hY _ _ hHB sm (yQ (f:=λ _=>V.bl true) hc)
 intro D HB hD smB hHB;rw [Xa,List.take_length] at hHB;refine ⟨D,ps.map λ _=>true,rfl,SqL.of (by rw [hHB,List.map_map];rfl),_,rfl,?_⟩;rw [show ((ps.map λ _=>true).all id)=true by rw [List.all_map];simp];refine zB ?_;have g3B:=g34.trans smB;have tkB:=tk.mono g3B;have elfB:=smB _ _ elf;refine ⟨_,rfl,o,dx,_,rfl,tkB.ins,rfl,o,gv,gp,ws,dx,a1,a2,a3,ps,rfl,tkB,λ lt H5 g5 nlt elt=>?_⟩;have g35:=g3B.trans g5;have hrr:=g35 _ _ hr';have pr5:=qE (λ p x h=>yU.mono h (qZ g35)) pr;refine ⟨_,rfl,r,rfl,⟨_,SqL.of hrr⟩,?_⟩;refine qbv (SqL.of hrr) (λ i=>(xs.take i).map λ x=>vS (x.1.text++[32,61,32]++x.2.text)) rfl (λ i hi=>?_) ?_ ?_
 ·rw [Xa,Xi];exact zz (by omega)
 ·intro i v H' D2 Y Z hv hD2 hH' sm' hY hZ;obtain ⟨p,hp,rfl⟩:=ql hv;obtain ⟨x,hx,wp⟩:=zk pr5 i p hp;obtain ⟨b1,b2,k1,k2,k3⟩:=wp.mono (qZ sm');obtain ⟨t9,u9,tw,uw⟩:=ok x (XD hx);have th:=x.1.ht_wt;have uh:=x.2.ht_wt;have lt:=x.1.text_len;have lu:=x.2.text_len;refine ⟨p,_,rfl,SqT.of k1,rfl,_,_,rfl,_,_,rfl,rfl,⟨rfl,rfl⟩,?_⟩;refine (jt qA (jt qA (dwv (f:=zN) (n:=20) (dvA rfl) k2 (by omega) (by omega) (t9.upL l9)) dC (by show _+3<=_;omega)) (dwv (f:=zN) (n:=20) (dvA rfl) k3 (by omega) (by omega) (u9.upL l9)) (by rw [Xd];show _+3+_<=_;omega)) _ _ _ at0 λ H'' g''=>?_
  exact hY _ _ (g'' _ _ hH') (sm'.trans g'') (yQ (f:=λ x:Tr×Tr=>vS (x.1.text++[32,61,32]++x.2.text)) hx)
 intro Dw H6 hDw s6 h6;rw [Xa,lqs,List.take_length] at h6;have elt6:=s6 _ _ elt;have esaid:(ws.map λ x=>vS x.said)=(xs.map λ x=>qj (x.1.text++[32,61,32]++x.2.text)).map V.str:=by rw [<- hws,List.map_map,List.map_map];rfl
 have ewr:(xs.map λ x:Tr×Tr=>vS (x.1.text++[32,61,32]++x.2.text))=(xs.map λ x=>qj (x.1.text++[32,61,32]++x.2.text)).map V.str:=by rw [List.map_map];rfl
 rw [esaid] at elt6;rw [ewr] at h6;have lsd:(ws.map λ x=>vS x.said).length<=6:=by rw [Xa];omega
 rw [esaid] at lsd;generalize (xs.map λ x=>qj (x.1.text++[32,61,32]++x.2.text))=SS at elt6 h6 lsd;refine ⟨_,rfl,_,_,rfl,TyOf.lst elt6,true,rfl,zB ?_⟩;refine ⟨_,rfl,_,rfl,lt,Dw,SS,SS,rfl,rfl,.inr ⟨SqL.of elt6,SqL.of h6⟩,_,rfl,?_⟩;rw [show (if true=true then !decide (SS=SS) else decide (SS=SS))=false by simp];refine zB ?_;have g36:=g35.trans s6;have g46:=(smB.trans g5).trans s6;have elf6:=g46 _ _ elf;have side6:=qE (λ p y h=>ze.mono h g46) side4;refine ⟨_,rfl,lf,rfl,⟨_,SqL.of elf6⟩,?_⟩;refine qci (K:=K) (xs:=ps.map V.ref) (λ m σ H'=>∃ (v5 v6 v10:Option V),σ=[some (.ref o),some (.ref r),some (vS ls),some (.ref rr),some (.ref du),v5,v6,some (.ref lf),some (.ref lt),some (.ref Dw),v10]/\qh H6 H') ⟨_,_,none,rfl,qh.refl _⟩ (λ m σ H' _ ⟨_,_,_,_,g⟩=>SqL.of (g _ _ elf6)) ?_ ?_
 ·rintro m v σ H7 hv ⟨v5,v6,v10,rfl,g7⟩;obtain ⟨c,hc,rfl⟩:=ql hv;obtain ⟨fg,hfg,u,w2,h1,h2,h3⟩:=zk side6 m c hc;obtain ⟨x,hx,rfl⟩:=ql hfg;obtain ⟨t9,u9,tw,uw⟩:=ok x (XD hx);have o1:=Tr.on t9;have o2:=Tr.on u9;have n1:=o1.len hrl;have n2:=o2.len hrl;refine ⟨_,rfl,c,_,_,_,rfl,rfl,SqT.of (g7 _ _ h1),rfl,_,rfl,u,x.1.form,ls,rfl,g7 _ _ h2,o1,hrl,by omega,by omega,λ H8 g8=>⟨true,rfl,zB ?_⟩⟩;have g78:=g7.trans g8;refine ⟨_,rfl,c,_,_,_,rfl,rfl,SqT.of (g78 _ _ h1),rfl,_,rfl,w2,x.2.form,ls,rfl,g78 _ _ h3,o2,hrl,by omega,by omega,λ H9 g9=>⟨true,rfl,zB ?_⟩⟩;exact ⟨_,_,_,rfl,g78.trans g9⟩
 ·rintro σ H7 ⟨v5,v6,v10,rfl,g7⟩;have elf7:=g7 _ _ elf6;have elt7:=g7 _ _ elt6;have flf:H lf=none:=qdR g3 nlf;have flt:H lt=none:=qdR g3B nlt;refine ⟨_,rfl,.inl ⟨rfl,_,SqL.of elf7⟩,lf,_,_,rfl,rfl,elf7,by rw [Xa];exact zz (by omega),?_⟩;have nll:lt≠lf:=λ e=>by rw [e,elfB] at nlt;cases nlt
  have elt8:upd H7 lf (.lst (ps.map V.ref++[.int 0])) lt=some (.lst (SS.map V.str)):=by rw [qx nll];exact elt7
  refine ⟨_,rfl,.inl ⟨rfl,_,SqL.of elt8⟩,lt,_,_,rfl,rfl,elt8,zz (by omega),?_⟩;exact q _ (((g36.trans g7).at flf).at flt)
end
section
variable {P:Program} {w:World} {K:PySem.W.Frag} {mg:Str->Option Value} {base:Heap}
def qhm (K:PySem.W.Frag):Sp:=λ vs H Q _=>∃ (a:Addr) (ns:List Int),vs=[.ref a]/\SqL K H a (ns.map V.int)/\ns.length<=63/\∀ H',Q (.bl true) H'
theorem qk2 {G:Prop} (R:Addr->List Addr->List (Tr×Tr)->Option V->Option V->Hp->Prop) (I:Addr->List Addr->List (Tr×Tr)->Option V->Option V->Hp->Prop) (main:(∀ r ps xs u v H',I r ps xs u v H'->R r ps xs u v H')->G) (rest:∀ r ps xs u v H',I r ps xs u v H'->R r ps xs u v H'):G:=main rest
theorem qnT (xs:List V):qbQ xs none (some 4)=xs.take 4:=by
 unfold qbQ;rw [HT.sIx_none,show (4:Int)=((4:Nat):Int) from rfl,HT.sIx_nat,List.drop_zero,Nat.sub_zero];by_cases h:4<=xs.length
 ·rw [Nat.min_eq_left h]
 ·rw [Nat.min_eq_right (by omega),List.take_length,Xr (by omega)]
theorem qbP {α β:Type} {F:α->β->Prop}:∀ {xs:List α} {ys:List β},Paired F xs ys->∀ n,Paired F (xs.take n) (ys.take n)
 | _,_,.nil,n=>by rw [List.take_nil,List.take_nil];exact .nil
 | _,_,.cons _ _,0=>.nil
 | _,_,.cons r t,n+1=>.cons r (qbP t n)
theorem qfT {H:Hp} {p:Addr} {o:HO} (hp:H p=none):∃ H',H'=upd H p o/\qh H H'/\H' p=some o:=⟨_,rfl,qh.up hp,qe⟩
theorem yZ:FnScope ["_law_script","_law_givens","_law_gaps","_law_wishes_here","_law_tall","_law_k","_law_handed","_law_kept","_law_task","_law_again"] ["_law_script"] (qi qc4):=scF
theorem qmj {f fw_letters fw_wishes fw_mixed fw_leaf fw_texts fw_right CTask fiTask fTask_givens fTask_gaps:Addr} {fd dw_letters dw_wishes dw_mixed dw_leaf dw_texts dw_right diTask dTask_givens dTask_gaps:FuncData} (F:Fun K "law" "law" qc4 f fd) (T:Txt mg) (mx_int:mg "int"=none)
  (Gw_letters:FnOk P w K mg base CX0 2 fw_letters dw_letters ["_law_script"] (qgJ K)) (bw_letters:qf K dw_letters ["_law_script"] []) (kw_letters:W.keepIn K (.ref fw_letters)=true) (mw_letters:mg "_law_letters"=some (.ref fw_letters))
  (Gw_wishes:FnOk P w K mg base CX0 3 fw_wishes dw_wishes ["_law_script","_law_letters_here","_law_most","_law_many"] (qdc K)) (bw_wishes:qf K dw_wishes ["_law_script","_law_letters_here","_law_most","_law_many"] []) (kw_wishes:W.keepIn K (.ref fw_wishes)=true) (mw_wishes:mg "_law_wishes"=some (.ref fw_wishes))
  (Gw_mixed:FnOk P w K mg base CX0 1 fw_mixed dw_mixed ["_law_script","_law_k"] (jw K)) (bw_mixed:qf K dw_mixed ["_law_script","_law_k"] []) (kw_mixed:W.keepIn K (.ref fw_mixed)=true) (mw_mixed:mg "_law_mixed"=some (.ref fw_mixed))
  (Gw_leaf:FnOk P w K mg base CX0 1 fw_leaf dw_leaf ["_law_cell","_law_letters_here"] (qcd)) (bw_leaf:qf K dw_leaf ["_law_cell","_law_letters_here"] []) (kw_leaf:W.keepIn K (.ref fw_leaf)=true) (mw_leaf:mg "_law_leaf"=some (.ref fw_leaf))
  (Gw_texts:FnOk P w K mg base CX0 21 fw_texts dw_texts ["_law_script","_law_wishes_here"] (qeJ K)) (bw_texts:qf K dw_texts ["_law_script","_law_wishes_here"] []) (kw_texts:W.keepIn K (.ref fw_texts)=true) (mw_texts:mg "_law_texts"=some (.ref fw_texts))
  (Gw_right:FnOk P w K mg base CX0 21 fw_right dw_right ["_law_task","_law_wishes_here","_law_letters_here"] (qeM K CTask)) (bw_right:qf K dw_right ["_law_task","_law_wishes_here","_law_letters_here"] []) (kw_right:W.keepIn K (.ref fw_right)=true) (mw_right:mg "_law_right"=some (.ref fw_right))
  (tcTask:TaskC K CTask)
  (MkTask:Mk K CTask fiTask) (GiTask:FnOk P w K mg base CX0 35 fiTask diTask ["self","givens","gaps","wishes"] (qjH K CTask)) (biTask:qf K diTask ["self","givens","gaps","wishes"] []) (mTask:mg "Task"=some (.ref CTask))
  (MTask_givens:Meth K CTask "givens" fTask_givens) (GTask_givens:FnOk P w K mg base CX0 1 fTask_givens dTask_givens ["self"] (qng CTask)) (bTask_givens:qf K dTask_givens ["self"] [])
  (MTask_gaps:Meth K CTask "gaps" fTask_gaps) (GTask_gaps:FnOk P w K mg base CX0 1 fTask_gaps dTask_gaps ["self"] (qnh CTask)) (bTask_gaps:qf K dTask_gaps ["self"] [])
  : FnOk P w K mg base CX0 37 f fd ["_law_script"] (qhm K):=by
 refine F.ok yZ (λ vs H Q E h=>?_) (λ cdv A outer s H vs Q E hr h=>?_)
 ·obtain ⟨a,ns,rfl,_⟩:=h;rfl
 obtain ⟨a,ns,rfl,hS,h63,q⟩:=h;have hu:=Nat.lt_of_succ_lt (zb hr);have hu1:=zb hr;have hr_1:Room 1 _:=hr.mono (by decide);have hr_2:Room 2 _:=hr.mono (by decide);have hr_3:Room 3 _:=hr.mono (by decide);have hr_21:Room 21 _:=hr.mono (by decide);have hr_36:Room 36 _:=hr.mono (by decide);refine ⟨_,(qc (qch (zm Gw_letters hr_2 mw_letters kw_letters bw_letters (qa (pv 0) qb)) (qcg (n:=2) rfl (qT (qt (i:=1) yZ.nd rfl (Or.inl rfl)) (qT (qt (i:=2) yZ.nd rfl (Or.inl rfl)) yp))))
  (qc (qv (i:=3) yZ.nd rfl (Or.inl rfl) (zm Gw_wishes hr_3 mw_wishes kw_wishes bw_wishes (qa (pv 0) (qa (qo qG (pv 1) (pv 2)) (qa (qo qfX qg (qo qbq (qo zP (qz y3 (by rfl) T.len PySem.boot_len (qa (qo qG (pv 1) (pv 2)) qb)) qg) qg)) (qa qg qb))))))
  (qc (qW (qp zv (qo zh (zm Gw_mixed hr_1 mw_mixed kw_mixed bw_mixed (qa (pv 0) (qa qg qb))) qg) qg (qB _))
   (qc (qv (i:=4) yZ.nd rfl (Or.inl rfl) (zm Gw_leaf hr_1 mw_leaf kw_leaf bw_leaf (qa (zm Gw_mixed hr_1 mw_mixed kw_mixed bw_mixed (qa (pv 0) (qa qg qb))) (qa (qo qG (pv 1) (pv 2)) qb))))
  (qc (yE PassesOwn.never rfl (yj (by rfl) T.range (qa qg qb)) (qt (i:=5) yZ.nd rfl (Or.inl rfl))
  (qd (qv (i:=4) yZ.nd rfl (Or.inl rfl) (zl (qa qk (qa (pv 4) qb))))))
  (qd (qv (i:=3) yZ.nd rfl (Or.inl rfl) (qo qf7 (yh (qa (zl (qa (pv 4) (qa (zl (qa qk qb)) qb))) (qa (zl (qa (zl (qa qk qb)) (qa (pv 4) qb))) qb))) (qcq qd4 (pv 3) qd0 (qd1 qg))))))) qy)
  (qc (qv (i:=6) yZ.nd rfl (Or.inl rfl) (zm Gw_texts hr_21 mw_texts kw_texts bw_texts (qa (pv 0) (qa (pv 3) qb))))
  (qc (qv (i:=7) yZ.nd rfl (Or.inl rfl) (zf yt (by rfl) T.list vH (qa (pv 6) qb)))
  (qc (qv (i:=8) yZ.nd rfl (Or.inl rfl) (qaf MkTask GiTask hr_36 (by rfl) mTask biTask .nil qI (qa (pv 1) (qa (pv 2) (qa (pv 6) qb)))))
  (qc (qW (qp (qgY v8 hu) (pv 6) (pv 7) (qB _))
   (qd (qm vM)) qy)
  (qc (yo (qcr PySem.F.plainAttrs_list PySem.F.slot_list_clear PySem.F.type_list_clear qiu (pv 6)))
  (qc (yE PassesOwn.never rfl (yj (by rfl) T.range (qa qg qb)) (qt (i:=9) yZ.nd rfl (Or.inl rfl))
  (qc (qW (PW.pt (vR (qp qeR (qD (pv 8) tcTask.cls MTask_givens GTask_givens hr_1 bTask_givens .nil qI) (pv 1) (qB _))
   (jP (qp qeR (qD (pv 8) tcTask.cls MTask_gaps GTask_gaps hr_1 bTask_gaps .nil qI) (pv 2) (qB _)))))
   (qd (qm vM)) qy)
  (qd (qW (jQ (yn (zm Gw_right hr_21 mw_right kw_right bw_right (qa (pv 8) (qa (pv 3) (qa (qo qG (pv 1) (pv 2)) qb))))))
   (qd (qm vM)) qy))))
  (qd (qm vM))))))))))),?_⟩
 rw [vL,qdP,qcc];refine ⟨_,rfl,a,ns,rfl,⟨hS,h63⟩,λ rl gv gp H1 g1 el sgv sgp=>?_⟩;refine ⟨rl,_,rfl,SqT.of el,rfl,_,_,rfl,_,_,rfl,rfl,?_⟩;obtain ⟨hrl,ll6,l9⟩:=qbB sgv sgp;have lgv:gv.length<=3:=sgv.length_le;have lgp:gp.length<=3:=sgp.length_le;have hgg:(qj gv).length+(qj gp).length<=sizeLine:=by rw [qw,qw];exact qu (by omega)
 have hll:(qj (gv++gp)).length=gv.length+gp.length:=by rw [qw,Xd]
 refine ⟨_,rfl,_,rfl,_,rfl,_,_,rfl,rfl,hgg,?_⟩;refine ⟨_,rfl,_,rfl,_,_,rfl,rfl,hgg,?_⟩;rw [zr];refine ⟨_,rfl,by rw [hll];exact qu (by omega),_,_,rfl,rfl,⟨by decide,by decide⟩,_,_,rfl,rfl,.inr ⟨by decide,by decide⟩,_,_,rfl,rfl,a,ns,gv++gp,_,_,rfl,⟨g1.seq hS,h63⟩,by rw [Xd];omega,?_,?_,by decide,by decide,λ r0 ps0 xs0 H2 g2 e2 pr2 l2 ok2=>?_⟩
 ·rw [hll];show (0:Int)<=6 - ((gv.length+gp.length:Nat):Int) / 5 * 3;omega
 ·rw [hll];show 6 - ((gv.length+gp.length:Nat):Int) / 5 * 3<=6;omega
 have l6:xs0.length<=6:=by rw [hll] at l2;omega
 have ok0:∀ x∈xs0,x.1.Of (gv++gp)/\x.2.Of (gv++gp)/\x.1.wt<=20/\x.2.wt<=20/\x.1.nodes<=20/\x.2.nodes<=20:=λ x hx=>by
  obtain ⟨b1,b2,b3,b4⟩:=ok2 x hx;have n1:=j6 x.1;have n2:=j6 x.2;exact ⟨b1,b2,by omega,by omega,by omega,by omega⟩
 have g02:=g1.trans g2;refine qk2 ?R (λ r ps xs u v H'=>qh H H'/\H' r=some (.lst (ps.map V.ref))/\Paired (yU H') ps xs/\xs.length<=6/\∀ x∈xs,x.1.Of (gv++gp)/\x.2.Of (gv++gp)/\x.1.wt<=20/\x.2.wt<=20/\x.1.nodes<=20/\x.2.nodes<=20) (λ C=>?main) ?rest
 case main =>
  refine ⟨_,rfl,a,ns,151,rfl,⟨g02.seq hS,h63⟩,by decide,by decide,λ z H3 g3 z0 z1=>?_⟩;refine ⟨_,_,rfl,rfl,(show (0:Int) < 8 by decide),rfl,_,rfl,?_⟩;refine qaF (λ c=>?pos) (λ c=>?neg)
  case pos =>
   have g03:=g02.trans g3;have e3:=g3 _ _ e2;have pr3:=qE (λ p x h=>yU.mono h (qZ g3)) pr2;refine ⟨_,rfl,a,ns,152,rfl,⟨g03.seq hS,h63⟩,by decide,by decide,λ z' H4 g4 z0' z1'=>?_⟩;refine ⟨_,rfl,_,rfl,_,_,rfl,rfl,hgg,?_⟩;rw [zr];refine ⟨_,gv++gp,rfl,z0',by rw [Xd];omega,λ t0 tv H5 g5 k5 of5 wt5=>?_⟩;have g35:=g4.trans g5;refine ⟨_,rfl,by decide,by decide,?_⟩;refine yF (λ i σ H'=>∃ (t:Tr) (v:V) (v5:Option V),σ=[some (.ref a),some (vS gv),some (vS gp),some (.ref r0),some v,v5,none,none,none,none]/\qh H5 H'/\TrW H' t v/\t.Of (gv++gp)/\t.wt=i+1/\t.nodes<=(i:Int)+1) ⟨t0,tv,none,rfl,qh.refl _,k5,of5,wt5,by have:=j6 t0;rw [wt5] at this;omega⟩ ?_ ?_
   ·rintro i σ H6 hi ⟨t,v,v5,rfl,g6,k6,of6,wt6,n6⟩;refine ⟨_,rfl,qu (by show 2<=_;decide),λ p hp=>?_⟩;refine ⟨.neg t,_,_,rfl,g6.to hp,⟨p,_,rfl,qe,k6.mono (qZ (qh.up hp))⟩,of6,?_,?_⟩
    ·show t.wt+1=_;omega
    ·show 1+t.nodes<=_;omega
   ·rintro σ H6 ⟨t,v,v5,rfl,g6,k6,of6,wt6,n6⟩;have wt20:t.wt<=20:=by rw [wt6];decide
    have n20:t.nodes<=20:=n6;have g36:=g35.trans g6;have e6:=g36 _ _ e3;have pr6:=qE (λ p x h=>yU.mono h (qZ g36)) pr3;refine ⟨_,rfl,qu (by show 1<=_;decide),λ p1 hp1=>?_⟩;obtain ⟨Ha,ha,ga,ea⟩:=qfT (o:=.tup [.str (qj qeC)]) hp1;rw [<- ha];refine ⟨qu (by show 2<=_;decide),λ p2 hp2=>?_⟩;obtain ⟨Hb,hb,gb,eb⟩:=qfT (o:=.tup [v,.ref p1]) hp2;rw [<- hb];refine ⟨qu (by show 1<=_;decide),λ p3 hp3=>?_⟩;obtain ⟨Hc,hc,gc,ec⟩:=qfT (o:=.tup [.str (qj qeD)]) hp3;rw [<- hc];refine ⟨_,rfl,qu (by show 2<=_;decide),λ p4 hp4=>?_⟩;obtain ⟨Hd,hd,gd,ed⟩:=qfT (o:=.tup [.ref p3,v]) hp4;rw [<- hd];refine ⟨qu (by show 2<=_;decide),λ p5 hp5=>?_⟩;obtain ⟨He,he,ge,ee⟩:=qfT (o:=.lst [.ref p2,.ref p4]) hp5;rw [<- he];have gae:=(((ga.trans gb).trans gc).trans gd).trans ge;refine ⟨_,rfl,4,rfl,r0,_,rfl,SqL.of (gae _ _ e6),λ p6 hp6=>?_⟩;obtain ⟨Hf,hf,gf,ef⟩:=qfT (o:=.lst (qbQ (ps0.map V.ref) none (some 4))) hp6;rw [<- hf];refine ⟨p5,p6,_,_,rfl,rfl,gf _ _ ee,ef,?_,λ p7 hp7=>?_⟩
    ·have:=qbH (ps0.map V.ref) none (some 4)
     have lp:=pr2.length;rw [Xa] at this;exact qu (by show 2+_<=_;omega)
    obtain ⟨Hg,hg,gg,eg⟩:=qfT (o:=.lst ([.ref p2,.ref p4]++qbQ (ps0.map V.ref) none (some 4))) hp7;rw [<- hg];have gag:=(gae.trans gf).trans gg;have gdg:=(ge.trans gf).trans gg;obtain ⟨ps1,hps1⟩:∃ ps1,ps1=p2::p4::ps0.take 4:=⟨_,rfl⟩;obtain ⟨xs1,hxs1⟩:∃ xs1,xs1=(t,Tr.one)::(Tr.zero,t)::xs0.take 4:=⟨_,rfl⟩;obtain ⟨w4,hw4⟩:∃ w4,w4=some v:=⟨_,rfl⟩;rw [<- hw4];refine C p7 ps1 xs1 w4 v5 Hg ?_;rw [hps1,hxs1];have kg:=k6.mono (qZ gag);refine ⟨(g03.trans g36).trans gag,?_,.cons ⟨v,.ref p1,((gc.trans gd).trans gdg) _ _ eb,kg,⟨p1,rfl,(((gb.trans gc).trans gd).trans gdg) _ _ ea⟩⟩ (.cons ⟨.ref p3,v,gdg _ _ ed,⟨p3,rfl,(gd.trans gdg) _ _ ec⟩,kg⟩ (qbP (qE (λ p x h=>yU.mono h (qZ gag)) pr6) 4)),?_,λ x hx=>?_⟩
    ·rw [eg,qnT,<- List.map_take];rfl
    ·show (xs0.take 4).length+2<=6
     rw [Xi];omega
    ·rcases List.mem_cons.mp hx with h | hx
     ·subst h;exact ⟨of6,trivial,wt20,by show 1<=20;decide,n20,by show (1:Int)<=20;decide⟩
     ·rcases List.mem_cons.mp hx with h | hx
      ·subst h;exact ⟨trivial,of6,by show 1<=20;decide,wt20,by show (1:Int)<=20;decide,n20⟩
      ·exact ok0 x (List.mem_of_mem_take hx)
  case neg =>
   exact C r0 ps0 xs0 none none H3 ⟨g02.trans g3,g3 _ _ e2,qE (λ p x h=>yU.mono h (qZ g3)) pr2,l6,ok0⟩
 rintro r ps xs v4 v5 H7 ⟨g7,e7,pr7,l6',ok7⟩;refine ⟨_,rfl,_,rfl,a,ns,r,ps,xs,rfl,⟨g7.seq hS,h63⟩,e7,pr7,by omega,λ x hx=>?_,λ tb ws H8 g8 ntb e8 hws hb=>?_⟩
 ·obtain ⟨b1,b2,b3,b4,_⟩:=ok7 x hx;exact ⟨b1.upL l9,b2.upL l9,b3,b4⟩
 have lws:ws.length=xs.length:=by rw [<- hws,Xa]
 refine ⟨_,rfl,tb,_,rfl,.inl (SqL.of e8),λ kb hkb=>?_⟩;obtain ⟨H9,hh9,g9,e9k⟩:=qfT (o:=.lst (ws.map λ y=>vS y.text)) hkb;rw [<- hh9];have e9:=g9 _ _ e8;refine ⟨_,rfl,_,rfl,_,rfl,?_⟩;refine λ x dx hx hdx hne=>?_
 have etb:upd (upd H9 dx (.own x)) x (.ins CTask dx []) tb=some (.lst (ws.map λ y=>vS y.text)):=by
  rw [qx (λ q=>by rw [q,hx] at e9;cases e9),qx (λ q=>by rw [q,hdx] at e9;cases e9)];exact e9
 refine ⟨x,dx,tb,gv,gp,ws,rfl,qe,SqL.of etb,sgv,sgp,by omega,λ y hy=>?_,λ a1 a2 a3 qs H10 b10 na1 na2 tk=>⟨rfl,?_⟩⟩
 ·have hm:(y.t,y.u)∈xs:=by rw [<- hws];exact List.mem_map.mpr ⟨y,hy,rfl⟩
  obtain ⟨b1,b2,b3,b4,b5,b6⟩:=ok7 _ hm;obtain ⟨c1,c2,c3,c4⟩:=hb y hy;exact ⟨⟨by omega,by omega,by omega,by omega⟩,b1,b2,b5,b6⟩
 have g10:=qic hx hdx b10;have e10:=g10 _ _ e9;have e10k:=g10 _ _ e9k;have htx:(ws.map λ y=>vS y.text)=(ws.map λ y=>qj y.text).map V.str:=by rw [List.map_map];rfl
 refine ⟨_,rfl,_,rfl,tb,kb,ws.map (λ y=>qj y.text),ws.map (λ y=>qj y.text),rfl,rfl,.inr ⟨SqL.of (by rw [<- htx];exact e10),SqL.of (by rw [<- htx];exact e10k)⟩,_,rfl,?_⟩;rw [show (if true=true then !decide (ws.map (λ y=>qj y.text)=ws.map (λ y=>qj y.text)) else decide (ws.map (λ y=>qj y.text)=ws.map (λ y=>qj y.text)))=false by simp];refine zB ?_;refine ⟨_,rfl,.inl ⟨rfl,_,SqL.of e10⟩,tb,_,rfl,rfl,e10,?_⟩;have n1:a1≠tb:=λ q=>by rw [q,etb] at na1;cases na1
 have n2:a2≠tb:=λ q=>by rw [q,etb] at na2;cases na2
 have nr:r≠tb:=λ q=>by rw [q,ntb] at e7;cases e7
 have nx:x≠tb:=λ q=>by rw [q,e9] at hx;cases hx
 have ex10:=tk.ins;have ef10:=tk.fault;have tk11:TaskAt CTask (upd H10 tb (.lst [])) x gv gp ws dx a1 a2 a3 qs:=⟨by rw [qx nx];exact tk.ins,by rw [qx n1];exact tk.said,by rw [qx n2];exact tk.sides,qE (λ c z h=>ze.updL h e10) tk.side,by rw [qx (λ q=>by rw [q,e10] at ef10;cases ef10)];exact tk.fault⟩;have g710:=(g8.trans g9).trans g10;have er11:upd H10 tb (.lst []) r=some (.lst (ps.map V.ref)):=by rw [qx nr];exact g710 _ _ e7
 have pr11:Paired (yU (upd H10 tb (.lst []))) ps xs:=qE (λ p z h=>yU.mono h ((qZ g710).trans (zF.updL e10))) pr7;generalize upd H10 tb (.lst [])=H11 at tk11 er11 pr11 ⊢;refine ⟨_,rfl,by decide,by decide,?_⟩;refine yF (λ i σ H'=>∃ v9:Option V,σ=[some (.ref a),some (vS gv),some (vS gp),some (.ref r),v4,v5,some (.ref tb),some (.ref kb),some (.ref x),v9]/\qh H11 H') ⟨none,rfl,qh.refl _⟩ ?_ ?_
 ·rintro i σ H12 hi ⟨v9,rfl,g12⟩;have tk12:=tk11.mono g12;refine ⟨_,rfl,x,dx,_,rfl,tk12.ins,rfl,x,gv,gp,ws,dx,a1,a2,a3,qs,rfl,tk12,λ H13 g13=>?_⟩;have tk13:=tk12.mono g13;refine ⟨_,rfl,rfl,_,rfl,?_⟩;refine qaF (λ c=>absurd c (by simp)) (λ _=>?_);refine ⟨_,rfl,x,dx,_,rfl,tk13.ins,rfl,x,gv,gp,ws,dx,a1,a2,a3,qs,rfl,tk13,λ H14 g14=>?_⟩;refine ⟨_,rfl,rfl,_,rfl,?_⟩;refine qaF (λ c=>absurd c (by simp)) (λ _=>?_);have g1114:=(g12.trans g13).trans g14;refine ⟨_,rfl,_,rfl,_,rfl,_,rfl,_,_,rfl,rfl,hgg,?_⟩;rw [zr];refine ⟨x,r,gv,gp,ws,dx,a1,a2,a3,qs,ps,xs,rfl,tk13.mono g14,g1114 _ _ er11,qE (λ p z h=>yU.mono h (qZ g1114)) pr11,hws,l6',sgv,sgp,λ z hz=>?_,λ H15 g15=>⟨_,rfl,zB ?_⟩⟩
  ·obtain ⟨b1,b2,b3,b4,_⟩:=ok7 z hz;exact ⟨b1,b2,b3,b4⟩
  exact ⟨_,rfl,g1114.trans g15⟩
 ·rintro σ H12 ⟨v9,rfl,g12⟩;exact q H12
end
abbrev fo (oc:Value) (od:Option Addr) (n q:Str) (st:Stmt) (kV dc pm:Value) (an:Option Addr) (cd ct:Value) (sl:Array (Option Value)):Obj:=⟨oc,od,.func (W.fnOf n q (qag st) (vb st) (qi st) .none kV dc pm an cd ct),sl⟩
theorem all_mk {l:PySem.W.OpenLaw} {w:World} {K:PySem.W.Frag} {h:Heap} {mg:Str->Option Value} {fa al f1 f2 f3 f4 f5 f6 f7 f8 f9 f10 f11 f12 f13 f14 f15 f16 f17 f18 f19 f20 f21 f22 f23 f24 f25 f26 f27 f28 f29 f30 f31 f32 f33 ftA ftN ftL ftO ftD ftR ftE fsA fsN fsL fsO fsP ffA ffN ffL ffO ffD ffR ffE fiLetter fiNot fiPair fiTask fTask_givens fTask_gaps fTask_wishes fTask_sides CAlways CNever CLetter CNot CAnd COr CEither CTask:Addr} (X:K.In h) (G:h.Ns mainGlobals mg) (hfa:mg "law"=some (.ref fa))
  {tka tkLETTERS tkOPENING tkBETWEEN tkGIVENS tkGAPS tkMOST_WISHES tkMOST_PARTS:Tok} {na:Nat} {oda od1 an1 od2 an2 od3 an3 od4 an4 od5 an5 od6 an6 od7 an7 od8 an8 od9 an9 od10 an10 od11 an11 od12 an12 od13 an13 od14 an14 od15 an15 od16 an16 od17 an17 od18 an18 od19 an19 od20 an20 od21 an21 od22 an22 od23 an23 od24 an24 od25 an25 od26 an26 od27 an27 od28 an28 od29 an29 od30 an30 od31 an31 od32 an32 od33 an33 odtA antA odtN antN odtL antL odtO antO odtD antD odtR antR odtE antE odsA ansA odsN ansN odsL ansL odsO ansO odsP ansP odfA anfA odfN anfN odfL anfL odfO anfO odfD anfD odfR anfR odfE anfE odiLetter aniLetter odiNot aniNot odiPair aniPair odiTask aniTask odTask_givens anTask_givens odTask_gaps anTask_gaps odTask_wishes anTask_wishes odTask_sides anTask_sides:Option Addr} {sla sl1 sl2 sl3 sl4 sl5 sl6 sl7 sl8 sl9 sl10 sl11 sl12 sl13 sl14 sl15 sl16 sl17 sl18 sl19 sl20 sl21 sl22 sl23 sl24 sl25 sl26 sl27 sl28 sl29 sl30 sl31 sl32 sl33 sltA sltN sltL sltO sltD sltR sltE slsA slsN slsL slsO slsP slfA slfN slfL slfO slfD slfR slfE sliLetter sliNot sliPair sliTask slTask_givens slTask_gaps slTask_wishes slTask_sides:Array (Option Value)} {oc1 kV1 dc1 pm1 cd1 ct1 oc2 kV2 dc2 pm2 cd2 ct2 oc3 kV3 dc3 pm3 cd3 ct3 oc4 kV4 dc4 pm4 cd4 ct4 oc5 kV5 dc5 pm5 cd5 ct5 oc6 kV6 dc6 pm6 cd6 ct6 oc7 kV7 dc7 pm7 cd7 ct7 oc8 kV8 dc8 pm8 cd8 ct8 oc9 kV9 dc9 pm9 cd9 ct9 oc10 kV10 dc10 pm10 cd10 ct10 oc11 kV11 dc11 pm11 cd11 ct11 oc12 kV12 dc12 pm12 cd12 ct12 oc13 kV13 dc13 pm13 cd13 ct13 oc14 kV14 dc14 pm14 cd14 ct14 oc15 kV15 dc15 pm15 cd15 ct15 oc16 kV16 dc16 pm16 cd16 ct16 oc17 kV17 dc17 pm17 cd17 ct17 oc18 kV18 dc18 pm18 cd18 ct18 oc19 kV19 dc19 pm19 cd19 ct19 oc20 kV20 dc20 pm20 cd20 ct20 oc21 kV21 dc21 pm21 cd21 ct21 oc22 kV22 dc22 pm22 cd22 ct22 oc23 kV23 dc23 pm23 cd23 ct23 oc24 kV24 dc24 pm24 cd24 ct24 oc25 kV25 dc25 pm25 cd25 ct25 oc26 kV26 dc26 pm26 cd26 ct26 oc27 kV27 dc27 pm27 cd27 ct27 oc28 kV28 dc28 pm28 cd28 ct28 oc29 kV29 dc29 pm29 cd29 ct29 oc30 kV30 dc30 pm30 cd30 ct30 oc31 kV31 dc31 pm31 cd31 ct31 oc32 kV32 dc32 pm32 cd32 ct32 oc33 kV33 dc33 pm33 cd33 ct33 octA kVtA dctA pmtA cdtA cttA octN kVtN dctN pmtN cdtN cttN octL kVtL dctL pmtL cdtL cttL octO kVtO dctO pmtO cdtO cttO octD kVtD dctD pmtD cdtD cttD octR kVtR dctR pmtR cdtR cttR octE kVtE dctE pmtE cdtE cttE ocsA kVsA dcsA pmsA cdsA ctsA ocsN kVsN dcsN pmsN cdsN ctsN ocsL kVsL dcsL pmsL cdsL ctsL ocsO kVsO dcsO pmsO cdsO ctsO ocsP kVsP dcsP pmsP cdsP ctsP ocfA kVfA dcfA pmfA cdfA ctfA ocfN kVfN dcfN pmfN cdfN ctfN ocfL kVfL dcfL pmfL cdfL ctfL ocfO kVfO dcfO pmfO cdfO ctfO ocfD kVfD dcfD pmfD cdfD ctfD ocfR kVfR dcfR pmfR cdfR ctfR ocfE kVfE dcfE pmfE cdfE ctfE ociLetter kViLetter dciLetter pmiLetter cdiLetter ctiLetter ociNot kViNot dciNot pmiNot cdiNot ctiNot ociPair kViPair dciPair pmiPair cdiPair ctiPair ociTask kViTask dciTask pmiTask cdiTask ctiTask ocTask_givens kVTask_givens dcTask_givens pmTask_givens cdTask_givens ctTask_givens ocTask_gaps kVTask_gaps dcTask_gaps pmTask_gaps cdTask_gaps ctTask_gaps ocTask_wishes kVTask_wishes dcTask_wishes pmTask_wishes cdTask_wishes ctTask_wishes ocTask_sides kVTask_sides dcTask_sides pmTask_sides cdTask_sides ctTask_sides:Value}
  (a1:W.nsIn K mainGlobals "added"=some (some (.ref f1)))
  (a2:W.nsIn K mainGlobals "multiplied"=some (some (.ref f2)))
  (a3:W.nsIn K mainGlobals "joined"=some (some (.ref f3)))
  (a4:W.nsIn K mainGlobals "opposite"=some (some (.ref f4)))
  (a5:W.nsIn K mainGlobals "letters_of"=some (some (.ref f5)))
  (a6:W.nsIn K mainGlobals "table_of"=some (some (.ref f6)))
  (a7:W.nsIn K mainGlobals "form_of"=some (some (.ref f7)))
  (a8:W.nsIn K mainGlobals "products_over"=some (some (.ref f8)))
  (a9:W.nsIn K mainGlobals "summed"=some (some (.ref f9)))
  (a10:W.nsIn K mainGlobals "read"=some (some (.ref f10)))
  (a11:W.nsIn K mainGlobals "signs_behind"=some (some (.ref f11)))
  (a12:W.nsIn K mainGlobals "taken"=some (some (.ref f12)))
  (a13:W.nsIn K mainGlobals "with_nots"=some (some (.ref f13)))
  (a14:W.nsIn K mainGlobals "pair_of"=some (some (.ref f14)))
  (a15:W.nsIn K mainGlobals "single_of"=some (some (.ref f15)))
  (a16:W.nsIn K mainGlobals "is_row"=some (some (.ref f16)))
  (a17:W.nsIn K mainGlobals "wish_read"=some (some (.ref f17)))
  (a18:W.nsIn K mainGlobals "refuse_strange"=some (some (.ref f18)))
  (a19:W.nsIn K mainGlobals "fault_of"=some (some (.ref f19)))
  (a20:W.nsIn K mainGlobals "_law_mixed"=some (some (.ref f20)))
  (a21:W.nsIn K mainGlobals "_law_leaf"=some (some (.ref f21)))
  (a22:W.nsIn K mainGlobals "_law_tree"=some (some (.ref f22)))
  (a23:W.nsIn K mainGlobals "_law_text"=some (some (.ref f23)))
  (a24:W.nsIn K mainGlobals "_law_truth"=some (some (.ref f24)))
  (a25:W.nsIn K mainGlobals "_law_row"=some (some (.ref f25)))
  (a26:W.nsIn K mainGlobals "_law_rows"=some (some (.ref f26)))
  (a27:W.nsIn K mainGlobals "_law_form"=some (some (.ref f27)))
  (a28:W.nsIn K mainGlobals "_law_form_like"=some (some (.ref f28)))
  (a29:W.nsIn K mainGlobals "_law_letters"=some (some (.ref f29)))
  (a30:W.nsIn K mainGlobals "_law_wishes"=some (some (.ref f30)))
  (a31:W.nsIn K mainGlobals "_law_texts"=some (some (.ref f31)))
  (a32:W.nsIn K mainGlobals "_law_right"=some (some (.ref f32)))
  (a33:W.nsIn K mainGlobals "law"=some (some (.ref f33)))
  (l1:K.lookup f1=some (fo oc1 od1 "added" "added" qb7 kV1 dc1 pm1 an1 cd1 ct1 sl1))
  (c1:W.codeIn K cd1 "added"=true)
  (k1:W.keepIn K (.ref f1)=true)
  (l2:K.lookup f2=some (fo oc2 od2 "multiplied" "multiplied" y8 kV2 dc2 pm2 an2 cd2 ct2 sl2))
  (c2:W.codeIn K cd2 "multiplied"=true)
  (k2:W.keepIn K (.ref f2)=true)
  (l3:K.lookup f3=some (fo oc3 od3 "joined" "joined" qbj kV3 dc3 pm3 an3 cd3 ct3 sl3))
  (c3:W.codeIn K cd3 "joined"=true)
  (k3:W.keepIn K (.ref f3)=true)
  (l4:K.lookup f4=some (fo oc4 od4 "opposite" "opposite" vz kV4 dc4 pm4 an4 cd4 ct4 sl4))
  (c4:W.codeIn K cd4 "opposite"=true)
  (k4:W.keepIn K (.ref f4)=true)
  (l5:K.lookup f5=some (fo oc5 od5 "letters_of" "letters_of" y9 kV5 dc5 pm5 an5 cd5 ct5 sl5))
  (c5:W.codeIn K cd5 "letters_of"=true)
  (k5:W.keepIn K (.ref f5)=true)
  (l6:K.lookup f6=some (fo oc6 od6 "table_of" "table_of" vA kV6 dc6 pm6 an6 cd6 ct6 sl6))
  (c6:W.codeIn K cd6 "table_of"=true)
  (k6:W.keepIn K (.ref f6)=true)
  (l7:K.lookup f7=some (fo oc7 od7 "form_of" "form_of" qam kV7 dc7 pm7 an7 cd7 ct7 sl7))
  (c7:W.codeIn K cd7 "form_of"=true)
  (k7:W.keepIn K (.ref f7)=true)
  (l8:K.lookup f8=some (fo oc8 od8 "products_over" "products_over" yf kV8 dc8 pm8 an8 cd8 ct8 sl8))
  (c8:W.codeIn K cd8 "products_over"=true)
  (k8:W.keepIn K (.ref f8)=true)
  (l9:K.lookup f9=some (fo oc9 od9 "summed" "summed" qac kV9 dc9 pm9 an9 cd9 ct9 sl9))
  (c9:W.codeIn K cd9 "summed"=true)
  (k9:W.keepIn K (.ref f9)=true)
  (l10:K.lookup f10=some (fo oc10 od10 "read" "read" qet kV10 dc10 pm10 an10 cd10 ct10 sl10))
  (c10:W.codeIn K cd10 "read"=true)
  (k10:W.keepIn K (.ref f10)=true)
  (l11:K.lookup f11=some (fo oc11 od11 "signs_behind" "signs_behind" yy kV11 dc11 pm11 an11 cd11 ct11 sl11))
  (c11:W.codeIn K cd11 "signs_behind"=true)
  (k11:W.keepIn K (.ref f11)=true)
  (l12:K.lookup f12=some (fo oc12 od12 "taken" "taken" qb8 kV12 dc12 pm12 an12 cd12 ct12 sl12))
  (c12:W.codeIn K cd12 "taken"=true)
  (k12:W.keepIn K (.ref f12)=true)
  (l13:K.lookup f13=some (fo oc13 od13 "with_nots" "with_nots" jH kV13 dc13 pm13 an13 cd13 ct13 sl13))
  (c13:W.codeIn K cd13 "with_nots"=true)
  (k13:W.keepIn K (.ref f13)=true)
  (l14:K.lookup f14=some (fo oc14 od14 "pair_of" "pair_of" qan kV14 dc14 pm14 an14 cd14 ct14 sl14))
  (c14:W.codeIn K cd14 "pair_of"=true)
  (k14:W.keepIn K (.ref f14)=true)
  (l15:K.lookup f15=some (fo oc15 od15 "single_of" "single_of" jI kV15 dc15 pm15 an15 cd15 ct15 sl15))
  (c15:W.codeIn K cd15 "single_of"=true)
  (k15:W.keepIn K (.ref f15)=true)
  (l16:K.lookup f16=some (fo oc16 od16 "is_row" "is_row" qbk kV16 dc16 pm16 an16 cd16 ct16 sl16))
  (c16:W.codeIn K cd16 "is_row"=true)
  (k16:W.keepIn K (.ref f16)=true)
  (l17:K.lookup f17=some (fo oc17 od17 "wish_read" "wish_read" jL kV17 dc17 pm17 an17 cd17 ct17 sl17))
  (c17:W.codeIn K cd17 "wish_read"=true)
  (k17:W.keepIn K (.ref f17)=true)
  (l18:K.lookup f18=some (fo oc18 od18 "refuse_strange" "refuse_strange" zR kV18 dc18 pm18 an18 cd18 ct18 sl18))
  (c18:W.codeIn K cd18 "refuse_strange"=true)
  (k18:W.keepIn K (.ref f18)=true)
  (l19:K.lookup f19=some (fo oc19 od19 "fault_of" "fault_of" vC kV19 dc19 pm19 an19 cd19 ct19 sl19))
  (c19:W.codeIn K cd19 "fault_of"=true)
  (k19:W.keepIn K (.ref f19)=true)
  (l20:K.lookup f20=some (fo oc20 od20 "_law_mixed" "_law_mixed" jM kV20 dc20 pm20 an20 cd20 ct20 sl20))
  (c20:W.codeIn K cd20 "_law_mixed"=true)
  (k20:W.keepIn K (.ref f20)=true)
  (l21:K.lookup f21=some (fo oc21 od21 "_law_leaf" "_law_leaf" vD kV21 dc21 pm21 an21 cd21 ct21 sl21))
  (c21:W.codeIn K cd21 "_law_leaf"=true)
  (k21:W.keepIn K (.ref f21)=true)
  (l22:K.lookup f22=some (fo oc22 od22 "_law_tree" "_law_tree" vE kV22 dc22 pm22 an22 cd22 ct22 sl22))
  (c22:W.codeIn K cd22 "_law_tree"=true)
  (k22:W.keepIn K (.ref f22)=true)
  (l23:K.lookup f23=some (fo oc23 od23 "_law_text" "_law_text" jr kV23 dc23 pm23 an23 cd23 ct23 sl23))
  (c23:W.codeIn K cd23 "_law_text"=true)
  (k23:W.keepIn K (.ref f23)=true)
  (l24:K.lookup f24=some (fo oc24 od24 "_law_truth" "_law_truth" yS kV24 dc24 pm24 an24 cd24 ct24 sl24))
  (c24:W.codeIn K cd24 "_law_truth"=true)
  (k24:W.keepIn K (.ref f24)=true)
  (l25:K.lookup f25=some (fo oc25 od25 "_law_row" "_law_row" qao kV25 dc25 pm25 an25 cd25 ct25 sl25))
  (c25:W.codeIn K cd25 "_law_row"=true)
  (k25:W.keepIn K (.ref f25)=true)
  (l26:K.lookup f26=some (fo oc26 od26 "_law_rows" "_law_rows" vF kV26 dc26 pm26 an26 cd26 ct26 sl26))
  (c26:W.codeIn K cd26 "_law_rows"=true)
  (k26:W.keepIn K (.ref f26)=true)
  (l27:K.lookup f27=some (fo oc27 od27 "_law_form" "_law_form" vG kV27 dc27 pm27 an27 cd27 ct27 sl27))
  (c27:W.codeIn K cd27 "_law_form"=true)
  (k27:W.keepIn K (.ref f27)=true)
  (l28:K.lookup f28=some (fo oc28 od28 "_law_form_like" "_law_form_like" yg kV28 dc28 pm28 an28 cd28 ct28 sl28))
  (c28:W.codeIn K cd28 "_law_form_like"=true)
  (k28:W.keepIn K (.ref f28)=true)
  (l29:K.lookup f29=some (fo oc29 od29 "_law_letters" "_law_letters" yL kV29 dc29 pm29 an29 cd29 ct29 sl29))
  (c29:W.codeIn K cd29 "_law_letters"=true)
  (k29:W.keepIn K (.ref f29)=true)
  (l30:K.lookup f30=some (fo oc30 od30 "_law_wishes" "_law_wishes" jb kV30 dc30 pm30 an30 cd30 ct30 sl30))
  (c30:W.codeIn K cd30 "_law_wishes"=true)
  (k30:W.keepIn K (.ref f30)=true)
  (l31:K.lookup f31=some (fo oc31 od31 "_law_texts" "_law_texts" jN kV31 dc31 pm31 an31 cd31 ct31 sl31))
  (c31:W.codeIn K cd31 "_law_texts"=true)
  (k31:W.keepIn K (.ref f31)=true)
  (l32:K.lookup f32=some (fo oc32 od32 "_law_right" "_law_right" jO kV32 dc32 pm32 an32 cd32 ct32 sl32))
  (c32:W.codeIn K cd32 "_law_right"=true)
  (k32:W.keepIn K (.ref f32)=true)
  (l33:K.lookup f33=some (fo oc33 od33 "law" "law" qc4 kV33 dc33 pm33 an33 cd33 ct33 sl33))
  (c33:W.codeIn K cd33 "law"=true)
  (k33:W.keepIn K (.ref f33)=true)
  (nAlways:W.nsIn K mainGlobals "Always"=some (some (.ref CAlways)))
  (pgAlways:W.plainGet K CAlways Str.empty=true)
  (hdAlways:W.hasDictIn K CAlways=true)
  (poAlways:W.plainOver K CAlways=true)
  (saAlways:W.findIn K (.ref CAlways) "__setattr__"=some (some (.builtin "object.__setattr__")))
  (mkAlways:W.makesIn K CAlways=true)
  (kpAlways:W.keepIn K (.ref CAlways)=true)
  (mtAlways:W.findIn K (.ref CAlways) "text"=some (some (.ref ftA)))
  (msAlways:W.findIn K (.ref CAlways) "size"=some (some (.ref fsA)))
  (mfAlways:W.findIn K (.ref CAlways) "form"=some (some (.ref ffA)))
  (nNever:W.nsIn K mainGlobals "Never"=some (some (.ref CNever)))
  (pgNever:W.plainGet K CNever Str.empty=true)
  (hdNever:W.hasDictIn K CNever=true)
  (poNever:W.plainOver K CNever=true)
  (saNever:W.findIn K (.ref CNever) "__setattr__"=some (some (.builtin "object.__setattr__")))
  (mkNever:W.makesIn K CNever=true)
  (kpNever:W.keepIn K (.ref CNever)=true)
  (mtNever:W.findIn K (.ref CNever) "text"=some (some (.ref ftN)))
  (msNever:W.findIn K (.ref CNever) "size"=some (some (.ref fsN)))
  (mfNever:W.findIn K (.ref CNever) "form"=some (some (.ref ffN)))
  (nLetter:W.nsIn K mainGlobals "Letter"=some (some (.ref CLetter)))
  (pgLetter:W.plainGet K CLetter Str.empty=true)
  (hdLetter:W.hasDictIn K CLetter=true)
  (poLetter:W.plainOver K CLetter=true)
  (saLetter:W.findIn K (.ref CLetter) "__setattr__"=some (some (.builtin "object.__setattr__")))
  (mkLetter:W.makesIn K CLetter=true)
  (kpLetter:W.keepIn K (.ref CLetter)=true)
  (mtLetter:W.findIn K (.ref CLetter) "text"=some (some (.ref ftL)))
  (msLetter:W.findIn K (.ref CLetter) "size"=some (some (.ref fsL)))
  (mfLetter:W.findIn K (.ref CLetter) "form"=some (some (.ref ffL)))
  (nNot:W.nsIn K mainGlobals "Not"=some (some (.ref CNot)))
  (pgNot:W.plainGet K CNot Str.empty=true)
  (hdNot:W.hasDictIn K CNot=true)
  (poNot:W.plainOver K CNot=true)
  (saNot:W.findIn K (.ref CNot) "__setattr__"=some (some (.builtin "object.__setattr__")))
  (mkNot:W.makesIn K CNot=true)
  (kpNot:W.keepIn K (.ref CNot)=true)
  (mtNot:W.findIn K (.ref CNot) "text"=some (some (.ref ftO)))
  (msNot:W.findIn K (.ref CNot) "size"=some (some (.ref fsO)))
  (mfNot:W.findIn K (.ref CNot) "form"=some (some (.ref ffO)))
  (nAnd:W.nsIn K mainGlobals "And"=some (some (.ref CAnd)))
  (pgAnd:W.plainGet K CAnd Str.empty=true)
  (hdAnd:W.hasDictIn K CAnd=true)
  (poAnd:W.plainOver K CAnd=true)
  (saAnd:W.findIn K (.ref CAnd) "__setattr__"=some (some (.builtin "object.__setattr__")))
  (mkAnd:W.makesIn K CAnd=true)
  (kpAnd:W.keepIn K (.ref CAnd)=true)
  (mtAnd:W.findIn K (.ref CAnd) "text"=some (some (.ref ftD)))
  (msAnd:W.findIn K (.ref CAnd) "size"=some (some (.ref fsP)))
  (mfAnd:W.findIn K (.ref CAnd) "form"=some (some (.ref ffD)))
  (nOr:W.nsIn K mainGlobals "Or"=some (some (.ref COr)))
  (pgOr:W.plainGet K COr Str.empty=true)
  (hdOr:W.hasDictIn K COr=true)
  (poOr:W.plainOver K COr=true)
  (saOr:W.findIn K (.ref COr) "__setattr__"=some (some (.builtin "object.__setattr__")))
  (mkOr:W.makesIn K COr=true)
  (kpOr:W.keepIn K (.ref COr)=true)
  (mtOr:W.findIn K (.ref COr) "text"=some (some (.ref ftR)))
  (msOr:W.findIn K (.ref COr) "size"=some (some (.ref fsP)))
  (mfOr:W.findIn K (.ref COr) "form"=some (some (.ref ffR)))
  (nEither:W.nsIn K mainGlobals "Either"=some (some (.ref CEither)))
  (pgEither:W.plainGet K CEither Str.empty=true)
  (hdEither:W.hasDictIn K CEither=true)
  (poEither:W.plainOver K CEither=true)
  (saEither:W.findIn K (.ref CEither) "__setattr__"=some (some (.builtin "object.__setattr__")))
  (mkEither:W.makesIn K CEither=true)
  (kpEither:W.keepIn K (.ref CEither)=true)
  (mtEither:W.findIn K (.ref CEither) "text"=some (some (.ref ftE)))
  (msEither:W.findIn K (.ref CEither) "size"=some (some (.ref fsP)))
  (mfEither:W.findIn K (.ref CEither) "form"=some (some (.ref ffE)))
  (nTask:W.nsIn K mainGlobals "Task"=some (some (.ref CTask)))
  (pgTask:W.plainGet K CTask Str.empty=true)
  (hdTask:W.hasDictIn K CTask=true)
  (poTask:W.plainOver K CTask=true)
  (saTask:W.findIn K (.ref CTask) "__setattr__"=some (some (.builtin "object.__setattr__")))
  (mkTask:W.makesIn K CTask=true)
  (kpTask:W.keepIn K (.ref CTask)=true)
  (ntTask:W.findIn K (.ref CTask) "text"=some none)
  (mmgivens:W.findIn K (.ref CTask) "givens"=some (some (.ref fTask_givens)))
  (mfngivens:W.isFn K (.ref fTask_givens)=true)
  (mmgaps:W.findIn K (.ref CTask) "gaps"=some (some (.ref fTask_gaps)))
  (mfngaps:W.isFn K (.ref fTask_gaps)=true)
  (mmwishes:W.findIn K (.ref CTask) "wishes"=some (some (.ref fTask_wishes)))
  (mfnwishes:W.isFn K (.ref fTask_wishes)=true)
  (mmsides:W.findIn K (.ref CTask) "sides"=some (some (.ref fTask_sides)))
  (mfnsides:W.isFn K (.ref fTask_sides)=true)
  (cstLETTERS:W.nsIn K mainGlobals "LETTERS"=some (some (.str "abcpqrxyz" tkLETTERS)))
  (cstOPENING:W.nsIn K mainGlobals "OPENING"=some (some (.str "~(" tkOPENING)))
  (cstBETWEEN:W.nsIn K mainGlobals "BETWEEN"=some (some (.str "&|+" tkBETWEEN)))
  (cstGIVENS:W.nsIn K mainGlobals "GIVENS"=some (some (.str "abc" tkGIVENS)))
  (cstGAPS:W.nsIn K mainGlobals "GAPS"=some (some (.str "xyz" tkGAPS)))
  (cstMOST_WISHES:W.nsIn K mainGlobals "MOST_WISHES"=some (some (.int 6 tkMOST_WISHES)))
  (cstMOST_PARTS:W.nsIn K mainGlobals "MOST_PARTS"=some (some (.int 20 tkMOST_PARTS)))
  (mgtA:W.isFn K (.ref ftA)=true)
  (mgtN:W.isFn K (.ref ftN)=true)
  (mgtL:W.isFn K (.ref ftL)=true)
  (mgtO:W.isFn K (.ref ftO)=true)
  (mgtD:W.isFn K (.ref ftD)=true)
  (mgtR:W.isFn K (.ref ftR)=true)
  (mgtE:W.isFn K (.ref ftE)=true)
  (mgsA:W.isFn K (.ref fsA)=true)
  (mgsN:W.isFn K (.ref fsN)=true)
  (mgsL:W.isFn K (.ref fsL)=true)
  (mgsO:W.isFn K (.ref fsO)=true)
  (mgsP:W.isFn K (.ref fsP)=true)
  (mgfA:W.isFn K (.ref ffA)=true)
  (mgfN:W.isFn K (.ref ffN)=true)
  (mgfL:W.isFn K (.ref ffL)=true)
  (mgfO:W.isFn K (.ref ffO)=true)
  (mgfD:W.isFn K (.ref ffD)=true)
  (mgfR:W.isFn K (.ref ffR)=true)
  (mgfE:W.isFn K (.ref ffE)=true)
  (inAlways:W.findIn K (.ref CAlways) "__init__"=some (some (.builtin "object.__init__")))
  (inNever:W.findIn K (.ref CNever) "__init__"=some (some (.builtin "object.__init__")))
  (inLetter:W.findIn K (.ref CLetter) "__init__"=some (some (.ref fiLetter)))
  (inNot:W.findIn K (.ref CNot) "__init__"=some (some (.ref fiNot)))
  (inAnd:W.findIn K (.ref CAnd) "__init__"=some (some (.ref fiPair)))
  (inOr:W.findIn K (.ref COr) "__init__"=some (some (.ref fiPair)))
  (inEither:W.findIn K (.ref CEither) "__init__"=some (some (.ref fiPair)))
  (inTask:W.findIn K (.ref CTask) "__init__"=some (some (.ref fiTask)))
  (ifiLetter:W.isFn K (.ref fiLetter)=true)
  (ifiNot:W.isFn K (.ref fiNot)=true)
  (ifiPair:W.isFn K (.ref fiPair)=true)
  (ifiTask:W.isFn K (.ref fiTask)=true)
  (naLetterletter:W.findIn K (.ref CLetter) "letter"=some none)
  (naNotone:W.findIn K (.ref CNot) "one"=some none)
  (naAndone:W.findIn K (.ref CAnd) "one"=some none)
  (naAndother:W.findIn K (.ref CAnd) "other"=some none)
  (naOrone:W.findIn K (.ref COr) "one"=some none)
  (naOrother:W.findIn K (.ref COr) "other"=some none)
  (naEitherone:W.findIn K (.ref CEither) "one"=some none)
  (naEitherother:W.findIn K (.ref CEither) "other"=some none)
  (naTaskgiven_letters:W.findIn K (.ref CTask) "given_letters"=some none)
  (naTaskgap_letters:W.findIn K (.ref CTask) "gap_letters"=some none)
  (naTaskwish_texts:W.findIn K (.ref CTask) "wish_texts"=some none)
  (naTaskside_forms:W.findIn K (.ref CTask) "side_forms"=some none)
  (naTaskfault_form:W.findIn K (.ref CTask) "fault_form"=some none)
  (ltA:K.lookup ftA=some (fo octA odtA "text" "Always.text" zV kVtA dctA pmtA antA cdtA cttA sltA))
  (ctA:W.codeIn K cdtA "Always.text"=true)
  (ktA:W.keepIn K (.ref ftA)=true)
  (ltN:K.lookup ftN=some (fo octN odtN "text" "Never.text" yu kVtN dctN pmtN antN cdtN cttN sltN))
  (ctN:W.codeIn K cdtN "Never.text"=true)
  (ktN:W.keepIn K (.ref ftN)=true)
  (ltL:K.lookup ftL=some (fo octL odtL "text" "Letter.text" zY kVtL dctL pmtL antL cdtL cttL sltL))
  (ctL:W.codeIn K cdtL "Letter.text"=true)
  (ktL:W.keepIn K (.ref ftL)=true)
  (ltO:K.lookup ftO=some (fo octO odtO "text" "Not.text" jm kVtO dctO pmtO antO cdtO cttO sltO))
  (ctO:W.codeIn K cdtO "Not.text"=true)
  (ktO:W.keepIn K (.ref ftO)=true)
  (ltD:K.lookup ftD=some (fo octD odtD "text" "And.text" jp kVtD dctD pmtD antD cdtD cttD sltD))
  (ctD:W.codeIn K cdtD "And.text"=true)
  (ktD:W.keepIn K (.ref ftD)=true)
  (ltR:K.lookup ftR=some (fo octR odtR "text" "Or.text" jX kVtR dctR pmtR antR cdtR cttR sltR))
  (ctR:W.codeIn K cdtR "Or.text"=true)
  (ktR:W.keepIn K (.ref ftR)=true)
  (ltE:K.lookup ftE=some (fo octE odtE "text" "Either.text" yb kVtE dctE pmtE antE cdtE cttE sltE))
  (ctE:W.codeIn K cdtE "Either.text"=true)
  (ktE:W.keepIn K (.ref ftE)=true)
  (lsA:K.lookup fsA=some (fo ocsA odsA "size" "Always.size" zW kVsA dcsA pmsA ansA cdsA ctsA slsA))
  (csA:W.codeIn K cdsA "Always.size"=true)
  (ksA:W.keepIn K (.ref fsA)=true)
  (lsN:K.lookup fsN=some (fo ocsN odsN "size" "Never.size" yw kVsN dcsN pmsN ansN cdsN ctsN slsN))
  (csN:W.codeIn K cdsN "Never.size"=true)
  (ksN:W.keepIn K (.ref fsN)=true)
  (lsL:K.lookup fsL=some (fo ocsL odsL "size" "Letter.size" zZ kVsL dcsL pmsL ansL cdsL ctsL slsL))
  (csL:W.codeIn K cdsL "Letter.size"=true)
  (ksL:W.keepIn K (.ref fsL)=true)
  (lsO:K.lookup fsO=some (fo ocsO odsO "size" "Not.size" jn kVsO dcsO pmsO ansO cdsO ctsO slsO))
  (csO:W.codeIn K cdsO "Not.size"=true)
  (ksO:W.keepIn K (.ref fsO)=true)
  (lsP:K.lookup fsP=some (fo ocsP odsP "size" "Pair.size" yR kVsP dcsP pmsP ansP cdsP ctsP slsP))
  (csP:W.codeIn K cdsP "Pair.size"=true)
  (ksP:W.keepIn K (.ref fsP)=true)
  (lfA:K.lookup ffA=some (fo ocfA odfA "form" "Always.form" zX kVfA dcfA pmfA anfA cdfA ctfA slfA))
  (cfA:W.codeIn K cdfA "Always.form"=true)
  (kfA:W.keepIn K (.ref ffA)=true)
  (lfN:K.lookup ffN=some (fo ocfN odfN "form" "Never.form" yx kVfN dcfN pmfN anfN cdfN ctfN slfN))
  (cfN:W.codeIn K cdfN "Never.form"=true)
  (kfN:W.keepIn K (.ref ffN)=true)
  (lfL:K.lookup ffL=some (fo ocfL odfL "form" "Letter.form" ya kVfL dcfL pmfL anfL cdfL ctfL slfL))
  (cfL:W.codeIn K cdfL "Letter.form"=true)
  (kfL:W.keepIn K (.ref ffL)=true)
  (lfO:K.lookup ffO=some (fo ocfO odfO "form" "Not.form" jo kVfO dcfO pmfO anfO cdfO ctfO slfO))
  (cfO:W.codeIn K cdfO "Not.form"=true)
  (kfO:W.keepIn K (.ref ffO)=true)
  (lfD:K.lookup ffD=some (fo ocfD odfD "form" "And.form" jq kVfD dcfD pmfD anfD cdfD ctfD slfD))
  (cfD:W.codeIn K cdfD "And.form"=true)
  (kfD:W.keepIn K (.ref ffD)=true)
  (lfR:K.lookup ffR=some (fo ocfR odfR "form" "Or.form" jY kVfR dcfR pmfR anfR cdfR ctfR slfR))
  (cfR:W.codeIn K cdfR "Or.form"=true)
  (kfR:W.keepIn K (.ref ffR)=true)
  (lfE:K.lookup ffE=some (fo ocfE odfE "form" "Either.form" yc kVfE dcfE pmfE anfE cdfE ctfE slfE))
  (cfE:W.codeIn K cdfE "Either.form"=true)
  (kfE:W.keepIn K (.ref ffE)=true)
  (liLetter:K.lookup fiLetter=some (fo ociLetter odiLetter "__init__" "Letter.__init__" yI kViLetter dciLetter pmiLetter aniLetter cdiLetter ctiLetter sliLetter))
  (ciLetter:W.codeIn K cdiLetter "Letter.__init__"=true)
  (kiLetter:W.keepIn K (.ref fiLetter)=true)
  (liNot:K.lookup fiNot=some (fo ociNot odiNot "__init__" "Not.__init__" vB kViNot dciNot pmiNot aniNot cdiNot ctiNot sliNot))
  (ciNot:W.codeIn K cdiNot "Not.__init__"=true)
  (kiNot:W.keepIn K (.ref fiNot)=true)
  (liPair:K.lookup fiPair=some (fo ociPair odiPair "__init__" "Pair.__init__" jG kViPair dciPair pmiPair aniPair cdiPair ctiPair sliPair))
  (ciPair:W.codeIn K cdiPair "Pair.__init__"=true)
  (kiPair:W.keepIn K (.ref fiPair)=true)
  (liTask:K.lookup fiTask=some (fo ociTask odiTask "__init__" "Task.__init__" jJ kViTask dciTask pmiTask aniTask cdiTask ctiTask sliTask))
  (ciTask:W.codeIn K cdiTask "Task.__init__"=true)
  (kiTask:W.keepIn K (.ref fiTask)=true)
  (lTask_givens:K.lookup fTask_givens=some (fo ocTask_givens odTask_givens "givens" "Task.givens" yJ kVTask_givens dcTask_givens pmTask_givens anTask_givens cdTask_givens ctTask_givens slTask_givens))
  (cTask_givens:W.codeIn K cdTask_givens "Task.givens"=true)
  (kTask_givens:W.keepIn K (.ref fTask_givens)=true)
  (lTask_gaps:K.lookup fTask_gaps=some (fo ocTask_gaps odTask_gaps "gaps" "Task.gaps" jK kVTask_gaps dcTask_gaps pmTask_gaps anTask_gaps cdTask_gaps ctTask_gaps slTask_gaps))
  (cTask_gaps:W.codeIn K cdTask_gaps "Task.gaps"=true)
  (kTask_gaps:W.keepIn K (.ref fTask_gaps)=true)
  (lTask_wishes:K.lookup fTask_wishes=some (fo ocTask_wishes odTask_wishes "wishes" "Task.wishes" yK kVTask_wishes dcTask_wishes pmTask_wishes anTask_wishes cdTask_wishes ctTask_wishes slTask_wishes))
  (cTask_wishes:W.codeIn K cdTask_wishes "Task.wishes"=true)
  (kTask_wishes:W.keepIn K (.ref fTask_wishes)=true)
  (lTask_sides:K.lookup fTask_sides=some (fo ocTask_sides odTask_sides "sides" "Task.sides" ja kVTask_sides dcTask_sides pmTask_sides anTask_sides cdTask_sides ctTask_sides slTask_sides))
  (cTask_sides:W.codeIn K cdTask_sides "Task.sides"=true)
  (kTask_sides:W.keepIn K (.ref fTask_sides)=true)
  (aal:W.nsIn K mainGlobals "ALWAYS"=some (some (.ref al)))
  (lal:K.lookup al=some ⟨.type "tuple",oda,.seq #[.str "" tka] na,sla⟩)
  (z1:W.nsIn K mainGlobals "len"=some none)
  (z2:W.nsIn K mainGlobals "list"=some none)
  (z3:W.nsIn K mainGlobals "sorted"=some none)
  (z4:W.nsIn K mainGlobals "set"=some none)
  (z5:W.nsIn K mainGlobals "tuple"=some none)
  (z6:W.nsIn K mainGlobals "dict"=some none)
  (z7:W.nsIn K mainGlobals "zip"=some none)
  (z8:W.nsIn K mainGlobals "reversed"=some none)
  (z9:W.nsIn K mainGlobals "range"=some none)
  (z10:W.nsIn K mainGlobals "enumerate"=some none)
  (z11:W.nsIn K mainGlobals "all"=some none)
  (z12:W.nsIn K mainGlobals "min"=some none)
  (z13:W.nsIn K mainGlobals "max"=some none)
  (z14:W.nsIn K mainGlobals "isinstance"=some none)
  (z15:W.nsIn K mainGlobals "str"=some none)
  (z16:W.nsIn K mainGlobals "bool"=some none)
  (z17:W.nsIn K mainGlobals "int"=some none)
  : ∃ fd:FuncData,(∀ (s:Shared) (v:Value),BindsTo s fd ⟨[v],[]⟩ [("_law_script",v)])/\∀ base:Heap,K.In base->base.Ns mainGlobals mg->FnOk l.prog w K mg base CX0 37 fa fd ["_law_script"] (qhm K):=by
 have e:=hfa.symm.trans (W.mg_of X G a33);cases e
 have T:Txt mg:=⟨W.mg_none_of X G z1,W.mg_none_of X G z2,W.mg_none_of X G z3,W.mg_none_of X G z4,W.mg_none_of X G z5,W.mg_none_of X G z6,W.mg_none_of X G z7,W.mg_none_of X G z8,W.mg_none_of X G z9,W.mg_none_of X G z10,W.mg_none_of X G z11,W.mg_none_of X G z12,W.mg_none_of X G z13,W.mg_none_of X G z14,W.mg_none_of X G z15,W.mg_none_of X G z16⟩;have mx_int:=W.mg_none_of X G z17;have F1:=qr (st:=qb7) l1 c1 k1;have b1:=F1.binds (ps:=["one","other"]);have F2:=qr (st:=y8) l2 c2 k2;have b2:=F2.binds (ps:=["one","other"]);have F3:=qr (st:=qbj) l3 c3 k3;have b3:=F3.binds (ps:=["one","other"]);have F4:=qr (st:=vz) l4 c4 k4;have b4:=F4.binds (ps:=["form"]);have F5:=qr (st:=y9) l5 c5 k5;have b5:=F5.binds (ps:=["form"]);have F6:=qr (st:=vA) l6 c6 k6;have b6:=F6.binds (ps:=["form","letters"]);have F7:=qr (st:=qam) l7 c7 k7;have b7:=F7.binds (ps:=["letters","table"]);have F8:=qr (st:=yf) l8 c8 k8;have b8:=F8.binds (ps:=["letters"]);have F9:=qr (st:=qac) l9 c9 k9;have b9:=F9.binds (ps:=["truths"]);have F10:=qr (st:=qet) l10 c10 k10;have b10:=F10.binds (ps:=["text"]);have F11:=qr (st:=yy) l11 c11 k11;have b11:=F11.binds (ps:=["opened","ended"]);have F12:=qr (st:=qb8) l12 c12 k12;have b12:=F12.binds (ps:=["opened","ended","sign"]);have F13:=qr (st:=jH) l13 c13 k13;have b13:=F13.binds (ps:=["opened","saying"]);have F14:=qr (st:=qan) l14 c14 k14;have b14:=F14.binds (ps:=["sign","one","other"]);have F15:=qr (st:=jI) l15 c15 k15;have b15:=F15.binds (ps:=["sign"]);have F16:=qr (st:=qbk) l16 c16 k16;have b16:=F16.binds (ps:=["text","letters"]);have F17:=qr (st:=jL) l17 c17 k17;have b17:=F17.binds (ps:=["wish","letters"]);have F18:=qr (st:=zR) l18 c18 k18;have b18:=F18.binds (ps:=["text","letters"]);have F19:=qr (st:=vC) l19 c19 k19;have b19:=F19.binds (ps:=["sides"]);have F20:=qr (st:=jM) l20 c20 k20;have b20:=F20.binds (ps:=["_law_script","_law_k"]);have F21:=qr (st:=vD) l21 c21 k21;have b21:=F21.binds (ps:=["_law_cell","_law_letters_here"]);have F22:=qr (st:=vE) l22 c22 k22;have b22:=F22.binds (ps:=["_law_script","_law_at","_law_many","_law_letters_here"]);have F23:=qr (st:=jr) l23 c23 k23;have b23:=F23.binds (ps:=["_law_tree_here"]);have F24:=qr (st:=yS) l24 c24 k24;have b24:=F24.binds (ps:=["_law_tree_here","_law_row_here"]);have F25:=qr (st:=qao) l25 c25 k25;have b25:=F25.binds (ps:=["_law_letters_here","_law_number"]);have F26:=qr (st:=vF) l26 c26 k26;have b26:=F26.binds (ps:=["_law_letters_here"]);have F27:=qr (st:=vG) l27 c27 k27;have b27:=F27.binds (ps:=["_law_letters_here","_law_table"]);have F28:=qr (st:=yg) l28 c28 k28;have b28:=F28.binds (ps:=["_law_found","_law_letters_here"]);have F29:=qr (st:=yL) l29 c29 k29;have b29:=F29.binds (ps:=["_law_script"]);have F30:=qr (st:=jb) l30 c30 k30;have b30:=F30.binds (ps:=["_law_script","_law_letters_here","_law_most","_law_many"]);have F31:=qr (st:=jN) l31 c31 k31;have b31:=F31.binds (ps:=["_law_script","_law_wishes_here"]);have F32:=qr (st:=jO) l32 c32 k32;have b32:=F32.binds (ps:=["_law_task","_law_wishes_here","_law_letters_here"]);have F33:=qr (st:=qc4) l33 c33 k33;have FtA:=qr (st:=zV) ltA ctA ktA;have btA:=FtA.binds (ps:=["self"]);have FtN:=qr (st:=yu) ltN ctN ktN;have btN:=FtN.binds (ps:=["self"]);have FtL:=qr (st:=zY) ltL ctL ktL;have btL:=FtL.binds (ps:=["self"]);have FtO:=qr (st:=jm) ltO ctO ktO;have btO:=FtO.binds (ps:=["self"]);have FtD:=qr (st:=jp) ltD ctD ktD;have btD:=FtD.binds (ps:=["self"]);have FtR:=qr (st:=jX) ltR ctR ktR;have btR:=FtR.binds (ps:=["self"]);have FtE:=qr (st:=yb) ltE ctE ktE;have btE:=FtE.binds (ps:=["self"]);have FsA:=qr (st:=zW) lsA csA ksA;have bsA:=FsA.binds (ps:=["self"]);have FsN:=qr (st:=yw) lsN csN ksN;have bsN:=FsN.binds (ps:=["self"]);have FsL:=qr (st:=zZ) lsL csL ksL;have bsL:=FsL.binds (ps:=["self"]);have FsO:=qr (st:=jn) lsO csO ksO;have bsO:=FsO.binds (ps:=["self"]);have FsP:=qr (st:=yR) lsP csP ksP;have bsP:=FsP.binds (ps:=["self"]);have FfA:=qr (st:=zX) lfA cfA kfA;have bfA:=FfA.binds (ps:=["self"]);have FfN:=qr (st:=yx) lfN cfN kfN
 have bfN:=FfN.binds (ps:=["self"]);have FfL:=qr (st:=ya) lfL cfL kfL;have bfL:=FfL.binds (ps:=["self"]);have FfO:=qr (st:=jo) lfO cfO kfO;have bfO:=FfO.binds (ps:=["self"]);have FfD:=qr (st:=jq) lfD cfD kfD;have bfD:=FfD.binds (ps:=["self"]);have FfR:=qr (st:=jY) lfR cfR kfR;have bfR:=FfR.binds (ps:=["self"]);have FfE:=qr (st:=yc) lfE cfE kfE;have bfE:=FfE.binds (ps:=["self"]);have FiLetter:=qr (st:=yI) liLetter ciLetter kiLetter;have biLetter:=FiLetter.binds (ps:=["self","letter"]);have FiNot:=qr (st:=vB) liNot ciNot kiNot;have biNot:=FiNot.binds (ps:=["self","one"]);have FiPair:=qr (st:=jG) liPair ciPair kiPair;have biPair:=FiPair.binds (ps:=["self","one","other"]);have FiTask:=qr (st:=jJ) liTask ciTask kiTask;have biTask:=FiTask.binds (ps:=["self","givens","gaps","wishes"]);have FTask_givens:=qr (st:=yJ) lTask_givens cTask_givens kTask_givens;have bTask_givens:=FTask_givens.binds (ps:=["self"]);have FTask_gaps:=qr (st:=jK) lTask_gaps cTask_gaps kTask_gaps;have bTask_gaps:=FTask_gaps.binds (ps:=["self"]);have FTask_wishes:=qr (st:=yK) lTask_wishes cTask_wishes kTask_wishes;have bTask_wishes:=FTask_wishes.binds (ps:=["self"]);have FTask_sides:=qr (st:=ja) lTask_sides cTask_sides kTask_sides;have bTask_sides:=FTask_sides.binds (ps:=["self"]);have m1:=W.mg_of X G a1;have m2:=W.mg_of X G a2;have m3:=W.mg_of X G a3;have m4:=W.mg_of X G a4;have m5:=W.mg_of X G a5;have m6:=W.mg_of X G a6;have m7:=W.mg_of X G a7;have m8:=W.mg_of X G a8;have m9:=W.mg_of X G a9;have m10:=W.mg_of X G a10;have m11:=W.mg_of X G a11;have m12:=W.mg_of X G a12;have m13:=W.mg_of X G a13;have m14:=W.mg_of X G a14;have m15:=W.mg_of X G a15;have m16:=W.mg_of X G a16;have m17:=W.mg_of X G a17;have m18:=W.mg_of X G a18;have m19:=W.mg_of X G a19;have m20:=W.mg_of X G a20;have m21:=W.mg_of X G a21;have m22:=W.mg_of X G a22;have m23:=W.mg_of X G a23;have m24:=W.mg_of X G a24;have m25:=W.mg_of X G a25;have m26:=W.mg_of X G a26;have m27:=W.mg_of X G a27;have m28:=W.mg_of X G a28;have m29:=W.mg_of X G a29;have m30:=W.mg_of X G a30;have m31:=W.mg_of X G a31;have m32:=W.mg_of X G a32;have m33:=W.mg_of X G a33;have mCAlways:=W.mg_of X G nAlways;have clAlways:Cls K CAlways:=⟨pgAlways,hdAlways,poAlways,saAlways⟩;have mCNever:=W.mg_of X G nNever;have clNever:Cls K CNever:=⟨pgNever,hdNever,poNever,saNever⟩;have mCLetter:=W.mg_of X G nLetter;have clLetter:Cls K CLetter:=⟨pgLetter,hdLetter,poLetter,saLetter⟩;have mCNot:=W.mg_of X G nNot;have clNot:Cls K CNot:=⟨pgNot,hdNot,poNot,saNot⟩;have mCAnd:=W.mg_of X G nAnd;have clAnd:Cls K CAnd:=⟨pgAnd,hdAnd,poAnd,saAnd⟩;have mCOr:=W.mg_of X G nOr;have clOr:Cls K COr:=⟨pgOr,hdOr,poOr,saOr⟩;have mCEither:=W.mg_of X G nEither;have clEither:Cls K CEither:=⟨pgEither,hdEither,poEither,saEither⟩;have mCTask:=W.mg_of X G nTask;have clTask:Cls K CTask:=⟨pgTask,hdTask,poTask,saTask⟩;let ca:CA:=⟨CAlways,CNever,CLetter,CNot,CAnd,COr,CEither⟩
 have C:CTxt K ca fiLetter fiNot fiPair:=⟨clAlways,clNever,clLetter,clNot,clAnd,clOr,clEither,⟨mkAlways,inAlways,kpAlways⟩,⟨mkNever,inNever,kpNever⟩,⟨mkLetter,inLetter,ifiLetter,kpLetter⟩,⟨mkNot,inNot,ifiNot,kpNot⟩,⟨mkAnd,inAnd,ifiPair,kpAnd⟩,⟨mkOr,inOr,ifiPair,kpOr⟩,⟨mkEither,inEither,ifiPair,kpEither⟩,naLetterletter,naNotone,⟨naAndone,naAndother⟩,⟨naOrone,naOrother⟩,⟨naEitherone,naEitherother⟩⟩;have Mt:MTxt K ca "text" ftA ftN ftL ftO ftD ftR ftE:=⟨⟨mtAlways,mgtA,ktA⟩,⟨mtNever,mgtN,ktN⟩,⟨mtLetter,mgtL,ktL⟩,⟨mtNot,mgtO,ktO⟩,⟨mtAnd,mgtD,ktD⟩,⟨mtOr,mgtR,ktR⟩,⟨mtEither,mgtE,ktE⟩⟩;have Ms:MTxt K ca "size" fsA fsN fsL fsO fsP fsP fsP:=⟨⟨msAlways,mgsA,ksA⟩,⟨msNever,mgsN,ksN⟩,⟨msLetter,mgsL,ksL⟩,⟨msNot,mgsO,ksO⟩,⟨msAnd,mgsP,ksP⟩,⟨msOr,mgsP,ksP⟩,⟨msEither,mgsP,ksP⟩⟩;have Mf:FTxt K ca ffA ffN ffL ffO ffD ffR ffE:=⟨⟨mfAlways,mgfA,kfA⟩,⟨mfNever,mgfN,kfN⟩,⟨mfLetter,mgfL,kfL⟩,⟨mfNot,mgfO,kfO⟩,⟨mfAnd,mgfD,kfD⟩,⟨mfOr,mgfR,kfR⟩,⟨mfEither,mgfE,kfE⟩⟩;have nc:NotC ca CTask:=⟨(λ e=>by rw [show CTask=CAlways from e,mtAlways] at ntTask;cases ntTask),(λ e=>by rw [show CTask=CNever from e,mtNever] at ntTask;cases ntTask),(λ e=>by rw [show CTask=CLetter from e,mtLetter] at ntTask;cases ntTask),(λ e=>by rw [show CTask=CNot from e,mtNot] at ntTask;cases ntTask),(λ e=>by rw [show CTask=CAnd from e,mtAnd] at ntTask;cases ntTask),(λ e=>by rw [show CTask=COr from e,mtOr] at ntTask;cases ntTask),(λ e=>by rw [show CTask=CEither from e,mtEither] at ntTask;cases ntTask)⟩;refine ⟨W.fnOf "law" "law" (qag qc4) (vb qc4) (qi qc4) .none kV33 dc33 pm33 an33 cd33 ct33,λ s v=>.of_eq rfl,λ base _ _=>?_⟩;have mcLETTERS:=W.mg_of X G cstLETTERS;have mcOPENING:=W.mg_of X G cstOPENING;have mcBETWEEN:=W.mg_of X G cstBETWEEN;have mcGIVENS:=W.mg_of X G cstGIVENS;have mcGAPS:=W.mg_of X G cstGAPS;have mcMOST_WISHES:=W.mg_of X G cstMOST_WISHES;have mcMOST_PARTS:=W.mg_of X G cstMOST_PARTS;have mal:=W.mg_of X G aal;have hal:∀ H,SqT K H al (([[]]:List Pr).map vS):=λ H=>.inr ⟨_,_,_,lal,rfl,rfl,qu (by show 1<=_;decide),.cons ⟨tka,by rw [show ("":Str)=qj [] by decide +kernel]⟩ .nil⟩
 have Gp:FnOk l.prog w K mg base CX0 1 f8 _ ["letters"] qb9:=qjd F8 T;have Gsummed:=qdM (P:=l.prog) (w:=w) (base:=base) F9 T b9 m9 10;have Gle:FnOk l.prog w K mg base CX0 1 f5 _ ["form"] (qby K):=qgt F5 T;have Gt:=qjf F6 T Gp b8 k8 m8 Gsummed b9 k9 m9;have Gfo:=qkF F7 T Gp b8 k8 m8 Gsummed b9 k9 m9;have GA:FnOk l.prog w K mg base CX0 1 f1 _ ["one","other"] (qgu K added):=qjj F1 T;have GM:=qkG F2 T Gle b5 k5 m5 Gt b6 k6 m6 Gfo b7 k7 m7;have GJ:=qh0 F3 GA b1 k1 m1 GM b2 k2 m2;have GOp:=ql1 F4 mal hal GA b1 k1 m1;have NN:FFn l.prog w K mg base f1 f2 f3 f4 _ _ _ _:=⟨GA,b1,k1,m1,GM,b2,k2,m2,GJ,b3,k3,m3,GOp,b4,k4,m4⟩;have GiL:FnOk l.prog w K mg base CX0 1 fiLetter _ ["self","letter"] (qar K "letter"):=qjr FiLetter;have GiN:FnOk l.prog w K mg base CX0 1 fiNot _ ["self","one"] (qar K "one"):=qjs FiNot;have GiP:FnOk l.prog w K mg base CX0 1 fiPair _ ["self","one","other"] (qex K "one" "other"):=qjt FiPair;have Gsn:=qm1 F15 C mCAlways mCNever mCLetter GiL biLetter;have Gpr:=qm2 F14 C mCAnd mCOr mCEither GiP biPair;have Gwn:=qm4 F13 T C mCNot GiN biNot;have Gsb:=qm6 (P:=l.prog) (w:=w) (mg:=mg) (base:=base) (c:=ca) F11 T mcLETTERS mcOPENING mcBETWEEN;have Gtk:=qm8 F12 mcOPENING mcBETWEEN Gwn b13 k13 m13 Gpr b14 k14 m14 Gsn b15 k15 m15;have Grd:=qna F10 T Gsb b11 k11 m11 Gtk b12 k12 m12;have Vt:=qfH (P:=l.prog) (w:=w) (mg:=mg) (base:=base) C Mt btA btN btL btO btD btR btE FtA FtN FtL FtO FtD FtR FtE 21;have Vs:=qfI (P:=l.prog) (w:=w) (mg:=mg) (base:=base) C Ms bsA bsN bsL bsO bsP FsA FsN FsL FsO FsP 21;have GF:=qjB (P:=l.prog) (w:=w) (mg:=mg) (base:=base) C Mf NN bfA bfN bfL bfO bfD bfR bfE FfA FfN FfL FfO FfD FfR FfE 21;have Gir:=qjJ (P:=l.prog) (w:=w) (mg:=mg) (base:=base) F16 T;have Gref:=ql8 (P:=l.prog) (w:=w) (mg:=mg) (base:=base) F18 mcLETTERS;have Gwr:=qnc F17 C mcMOST_PARTS Mt Vt Ms Vs btA btN btL btO btD btR btE bsA bsN bsL bsO bsP Grd b10 k10 m10 Gref b18 k18 m18;have Gfa:=qne F19 GA b1 k1 m1 GJ b3 k3 m3;have tcTask:TaskC K CTask:=⟨clTask,naTaskgiven_letters,naTaskgap_letters,naTaskwish_texts,naTaskside_forms,naTaskfault_form⟩;have MkTask:Mk K CTask fiTask:=⟨mkTask,inTask,ifiTask,kpTask⟩;have mTask:=mCTask;have GiTask:=qkR FiTask T C clTask nc naTaskgiven_letters naTaskgap_letters naTaskwish_texts naTaskside_forms naTaskfault_form mcGIVENS mcGAPS mcMOST_WISHES Mt Vt Mf GF btA btN btL btO btD btR btE bfA bfN bfL bfO bfD bfR bfE Gir b16 k16 m16 Gwr b17 k17 m17 Gfa b19 k19 m19;have Gproducts_over:=Gp;have Gletters_of:=Gle;have Gtable_of:=Gt;have Gform_of:=Gfo;have Gadded:=GA;have Gmultiplied:=GM;have Gjoined:=GJ;have Gopposite:=GOp;have MTask_givens:Meth K CTask "givens" fTask_givens:=⟨mmgivens,mfngivens,kTask_givens⟩;have GTask_givens:=qmc (P:=l.prog) (w:=w) (mg:=mg) (base:=base) FTask_givens T tcTask;have MTask_gaps:Meth K CTask "gaps" fTask_gaps:=⟨mmgaps,mfngaps,kTask_gaps⟩;have GTask_gaps:=qme (P:=l.prog) (w:=w) (mg:=mg) (base:=base) FTask_gaps T tcTask;have MTask_wishes:Meth K CTask "wishes" fTask_wishes:=⟨mmwishes,mfnwishes,kTask_wishes⟩;have GTask_wishes:=qmg (P:=l.prog) (w:=w) (mg:=mg) (base:=base) FTask_wishes T tcTask;have MTask_sides:Meth K CTask "sides" fTask_sides:=⟨mmsides,mfnsides,kTask_sides⟩;have GTask_sides:=qmi (P:=l.prog) (w:=w) (mg:=mg) (base:=base) FTask_sides T tcTask;have Gw_mixed:FnOk l.prog w K mg base CX0 1 f20 _ ["_law_script","_law_k"] (jw K):=qjK F20 T;have Gw_leaf:FnOk l.prog w K mg base CX0 1 f21 _ ["_law_cell","_law_letters_here"] (qcd):=qkU F21 T;have Gw_tree:FnOk l.prog w K mg base CX0 2 f22 _ ["_law_script","_law_at","_law_many","_law_letters_here"] (qgL K):=qkV F22 T Gw_mixed b20 k20 m20 Gw_leaf b21 k21 m21;have Gw_text:=qfO (P:=l.prog) (w:=w) (base:=base) F23 T mx_int b23 m23 20;have Gw_truth:=qdQ (P:=l.prog) (w:=w) (base:=base) F24 T b24 m24 20;have Gw_row:FnOk l.prog w K mg base CX0 1 f25 _ ["_law_letters_here","_law_number"] (qeF):=qkY F25 T;have Gw_rows:FnOk l.prog w K mg base CX0 2 f26 _ ["_law_letters_here"] (qeG):=qjU F26 T Gw_row b25 k25 m25
 have Gw_form:FnOk l.prog w K mg base CX0 2 f27 _ ["_law_letters_here","_law_table"] (qeI K):=qjW F27 T Gw_row b25 k25 m25;have Gw_form_like:FnOk l.prog w K mg base CX0 1 f28 _ ["_law_found","_law_letters_here"] (qeH):=qjV F28 T;have Gw_letters:FnOk l.prog w K mg base CX0 2 f29 _ ["_law_script"] (qgJ K):=qkS F29 T Gw_mixed b20 k20 m20;have Gw_wishes:FnOk l.prog w K mg base CX0 3 f30 _ ["_law_script","_law_letters_here","_law_most","_law_many"] (qdc K):=qib F30 T Gw_mixed b20 k20 m20 Gw_tree b22 k22 m22;have Gw_texts:FnOk l.prog w K mg base CX0 21 f31 _ ["_law_script","_law_wishes_here"] (qeJ K):=qgN F31 T Gw_mixed b20 k20 m20 Gw_text b23 k23 m23;have Gw_right:FnOk l.prog w K mg base CX0 21 f32 _ ["_law_task","_law_wishes_here","_law_letters_here"] (qeM K CTask):=qjY F32 T Gw_rows b26 k26 m26 Gw_truth b24 k24 m24 Gw_form b27 k27 m27 Gw_text b23 k23 m23 Gw_form_like b28 k28 m28 tcTask MTask_sides GTask_sides bTask_sides MTask_wishes GTask_wishes bTask_wishes;exact qmj F33 T mx_int Gw_letters b29 k29 m29 Gw_wishes b30 k30 m30 Gw_mixed b20 k20 m20 Gw_leaf b21 k21 m21 Gw_texts b31 k31 m31 Gw_right b32 k32 m32 tcTask MkTask GiTask biTask mTask MTask_givens GTask_givens bTask_givens MTask_gaps GTask_gaps bTask_gaps
theorem walk {l:PySem.W.OpenLaw} {q:Program} {loose:List Str} {XP:(Str->Option Value)->Heap->Prop} {YP:World->Heap->Prop} {d:DefRec} {K:Params->PySem.W.Frag} (hn:l.most=some 63) (hdf:d.params.defaults=[])
  (hY:∀ (w:World) (h:Heap),YP w h->(K w.params).In h)
  (F:∀ (w:World) (mg:Str->Option Value) (fa:Addr) (h:Heap),(K w.params).In h->h.Ns mainGlobals mg->mg d.name=some (.ref fa) ->
   ∃ fd:FuncData,(∀ (s:Shared) (u:Value),BindsTo s fd ⟨[u],[]⟩ [("_law_script",u)])/\∀ base:Heap,(K w.params).In base->base.Ns mainGlobals mg->FnOk l.prog w (K w.params) mg base CX0 37 fa fd ["_law_script"] (qhm (K w.params))) :
  PySem.W.WalkO q loose XP YP l.row.toRowW d [] (λ f vs=>PySem.call f vs) :=
 L2.walk_of (n:=63) (k:=37) (x:="_law_script") (CX:=λ _=>CX0) (sp:=λ w=>qhm (K w.params)) hn (by decide) hdf ⟨rfl,by decide,by decide⟩ hY F (λ _ _ a ns hl _ hS=>⟨a,ns,rfl,hS,hl,λ _=>rfl⟩) λ _ _ _ _ _ z=>z
end Law
open PySem PySem.W PyProof.Rows
namespace PySem.W.Fast
theorem tw10784233531703153142:True:=trivial
theorem tw3137171366694994299:True:=trivial
theorem tw12398896996866566532:True:=trivial
theorem tw14764292100928455720:True:=trivial
theorem tw3597490848569482116:True:=trivial
theorem tw13838448913919222385:True:=trivial
theorem tw11016291550533453262:True:=trivial
theorem tw6749484342031762189:True:=trivial
theorem tw7390501234051182621:True:=trivial
theorem tw8191268643412492973:True:=trivial
theorem tw16926836923859617429:True:=trivial
theorem tw1926894064083003679:True:=trivial
theorem tw14069694759399704629:True:=trivial
theorem tw16424000790633116681:True:=trivial
theorem tw8405812033388090617:True:=trivial
theorem tw8604682478310462755:True:=trivial
theorem tw5510342255670252451:True:=trivial
theorem tw14850155510740608025:True:=trivial
theorem tw17754158414628478504:True:=trivial
theorem tw7407579375991199318:True:=trivial
theorem tw5979843371782732297:True:=trivial
theorem tw10713793932184201787:True:=trivial
theorem tw15448549289232545372:True:=trivial
theorem tw18039400102456876987:True:=trivial
theorem tw11636074569008740530:True:=trivial
theorem tw6087462162539992022:True:=trivial
theorem tw16814059708865586627:True:=trivial
theorem tw18180911856284167335:True:=trivial
theorem tw15661962621567631911:True:=trivial
theorem tw16579126963940806370:True:=trivial
theorem tw15305276519788958235:True:=trivial
theorem tw16292994979293269600:True:=trivial
theorem tw3036695103999284536:True:=trivial
theorem tw13694904752215598970:True:=trivial
theorem tw1843910401160215187:True:=trivial
theorem tw7847299705723326762:True:=trivial
theorem tw18270105960192453832:True:=trivial
theorem tw7386869294118062946:True:=trivial
theorem tw15798897209780624593:True:=trivial
theorem tw7293132719864483815:True:=trivial
theorem tw5656143247826906555:True:=trivial
theorem tw12425801056900235721:True:=trivial
theorem tw1123743985288172696:True:=trivial
theorem tw16918719680085098862:True:=trivial
theorem tw2646590057970904537:True:=trivial
theorem tw1083711657846754744:True:=trivial
theorem tw3321340771624697704:True:=trivial
theorem tw9344444611559373908:True:=trivial
theorem tw17016411169691426896:True:=trivial
theorem tw6217452472699841944:True:=trivial
theorem tw3841697677478847432:True:=trivial
theorem tw1938960347413001532:True:=trivial
theorem tw5435782198849404991:True:=trivial
theorem tw10459896450226386090:True:=trivial
theorem tw8432617050680098749:True:=trivial
theorem tw13365145806481186070:True:=trivial
theorem tw10245646373436951098:True:=trivial
theorem tw13904009112649993742:True:=trivial
theorem tw3744817877460585684:True:=trivial
theorem tw2636230932671737811:True:=trivial
theorem tw9429944576804167899:True:=trivial
theorem tw4961869455662037399:True:=trivial
theorem tw151417303988660632:True:=trivial
theorem tw3410571400973709194:True:=trivial
theorem tw18210737108750393827:True:=trivial
theorem tw4011620567036027095:True:=trivial
theorem tw9079757422306468892:True:=trivial
theorem tw3749195244101806078:True:=trivial
theorem tw9318907242138331247:True:=trivial
theorem tw821501227020076666:True:=trivial
theorem tw3295234651112440809:True:=trivial
theorem tw3741426898048339098:True:=trivial
theorem tw11257522868165133474:True:=trivial
theorem tw8815704987140659882:True:=trivial
theorem tw335921506950771578:True:=trivial
theorem tw3167254586591202950:True:=trivial
theorem tw7557686510752966254:True:=trivial
theorem tw13156431532709042143:True:=trivial
theorem tw4842839154764364595:True:=trivial
theorem tw4010316745389884076:True:=trivial
theorem tw401239972905825133:True:=trivial
theorem tw14223706292179440828:True:=trivial
theorem tw8087826368375627719:True:=trivial
theorem tw9778280025265385777:True:=trivial
theorem tw13050852933520749681:True:=trivial
theorem tw5294966976575470276:True:=trivial
theorem tw1282746558983744425:True:=trivial
theorem tw1351066800751036189:True:=trivial
theorem tw9818640101656440803:True:=trivial
theorem tw3973350552666978362:True:=trivial
theorem tw7459054808383281575:True:=trivial
theorem tw8118091965826709912:True:=trivial
theorem tw9737554212871521595:True:=trivial
theorem tw11962218744029840227:True:=trivial
theorem tw13582614726233485781:True:=trivial
theorem tw1866939995484071553:True:=trivial
theorem tw10526648822509271407:True:=trivial
theorem tw7171357366505030901:True:=trivial
theorem tw5803661489153862314:True:=trivial
theorem tw3171679637190877856:True:=trivial
theorem tw14924938137013765212:True:=trivial
theorem tw18138260314522341293:True:=trivial
theorem tw10003802206485163197:True:=trivial
theorem tw10459452616950676723:True:=trivial
theorem tw13590633521419573336:True:=trivial
theorem tw3053673529437131527:True:=trivial
theorem tw5574021915412079833:True:=trivial
theorem tw7943551444260128904:True:=trivial
theorem tw9815565540182257542:True:=trivial
theorem tw8631926402551965772:True:=trivial
theorem tw15051462894517130521:True:=trivial
theorem tw4414645259783230949:True:=trivial
theorem tw1945142804856481518:True:=trivial
theorem tw338533371165112299:True:=trivial
theorem tw8621913331644837264:True:=trivial
theorem tw3832848806119439626:True:=trivial
theorem tw7574064959829861404:True:=trivial
theorem tw10374316061899970956:True:=trivial
theorem tw322616116274828792:True:=trivial
theorem tw4006260445696332167:True:=trivial
theorem tw11621517767350318161:True:=trivial
theorem tw14213114017000301961:True:=trivial
theorem tw3242476656844843860:True:=trivial
theorem tw9744893179180553427:True:=trivial
theorem tw7021392086886300041:True:=trivial
theorem tw13325202237607567864:True:=trivial
theorem tw13533827014642262971:True:=trivial
theorem tw7414058850115907904:True:=trivial
theorem tw14682739207436048457:True:=trivial
theorem tw9122510205654212051:True:=trivial
theorem tw1216333050683038871:True:=trivial
theorem tw6191793159645901419:True:=trivial
theorem tw8707753029642831502:True:=trivial
theorem tw14562555203184553306:True:=trivial
theorem tw12188781927741905583:True:=trivial
theorem tw2101029159018761605:True:=trivial
theorem tw11699909606041106161:True:=trivial
theorem tw7025703927587761585:True:=trivial
theorem tw9654540186578308268:True:=trivial
theorem tw14854991002808109855:True:=trivial
theorem tw14527523434316680794:True:=trivial
theorem tw14720820026654942387:True:=trivial
theorem tw17437356467831286082:True:=trivial
theorem tw12632956238048403337:True:=trivial
theorem tw4915539338672540134:True:=trivial
theorem tw9667004516446021445:True:=trivial
theorem tw8026451742560741371:True:=trivial
theorem tw635930873137513821:True:=trivial
theorem tw7534882158575491382:True:=trivial
theorem tw9538736817400616775:True:=trivial
theorem tw13684143238559466412:True:=trivial
theorem tw13424884360802597883:True:=trivial
theorem tw7938321337335153065:True:=trivial
theorem tw1056400008642154126:True:=trivial
theorem tw14004457345922779032:True:=trivial
theorem tw4741375896135636967:True:=trivial
theorem tw16507301992758439981:True:=trivial
theorem tw14257727771963810361:True:=trivial
end PySem.W.Fast
set_option maxRecDepth 100000 in
set_option maxHeartbeats 0 in
theorem PySem.Challenge.cw_fillsay_k31_tasks_made_holds : PySem.Challenge.rw_fillsay_k31_tasks_made.Holds := by
 w_on;o_law;k_head;(case hw=>w_witness2)
 k_fill
 refine Law.walk (l:=PySem.Challenge.rw_fillsay_k31_tasks_made) rfl rfl (λ w h Y=>W.kIn_of Y) ?F
 case F =>
  intro w mg fa h KX G hmg;refine' Law.all_mk KX G hmg ..
  any_goals k_is
