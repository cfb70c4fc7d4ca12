import PyProof.Rows.All
import Wide.All
import OpenK.AllK
import Wide.FinOn
import Lean
import PyProof.EqAt
import PyProof.EqKinds
import PyProof.TupleCall
import PyProof.FactsAll.set_1
import PyProof.FactsAll.set_2
import PyProof.Rows.Range3
import PyProof.AttrMissSeq
import KE.KDictOf
import PyProof.CompUse
import PyProof.Rows.RegReprOcc
import PyProof.FactsAll.list_4
import KE.KItemsList
import KE.KEqDict
import PyProof.Rows.SortRunsK
import PyProof.Rows.SortStr
import PyProof.Draws
import PyProof.EnumMake
import PyProof.SumWalkG
import PyProof.SeqI3
import PyProof.ExcInit
import PyProof.ExcClass3
import PyProof.ExcAttrAll.ValueError
import PyProof.ExcBaseAll.ValueError
import PyProof.InstStoreFacts
import OpenK.KOwn
import PySem.Challenge.RW_fillsay_k09_refusals_made
set_option Elab.async false
set_option linter.all false
set_option maxRecDepth 100000
namespace L2
open PySem PySem.Spec PyProof.Rows
abbrev Key := Sum Int Str
def keyIs : Key → Value → Bool
  | .inl k, v => Value.isInt k v
  | .inr x, v => Value.isStrOf x v
def keyH (w : World) : Key → Int
  | .inl k => hashInt k
  | .inr x => hashStr w x
theorem keyIs_shape : ∀ {k : Key} {v : Value}, keyIs k v = true → (∃ i t, k = Sum.inl i ∧ v = Value.int i t) ∨ (∃ x t, k = Sum.inr x ∧ v = Value.str x t)
  | .inl i, v, h => by
    obtain ⟨t, e⟩ := Value.isInt_shape (k := i) (v := v) h
    exact .inl ⟨i, t, rfl, e⟩
  | .inr x, v, h => by
    obtain ⟨t, e⟩ := Value.isStrOf_shape (x := x) (v := v) h
    exact .inr ⟨x, t, rfl, e⟩
theorem key_ll (a b : Int) : decide ((Sum.inl a : Key) = Sum.inl b) = (a == b) := by
  by_cases e : a = b
  · subst e; simp
  · have h : ¬ (Sum.inl a : Key) = Sum.inl b := fun q => e (Sum.inl.inj q)
    rw [decide_eq_false h]
    exact (beq_eq_false_iff_ne.mpr e).symm
theorem key_rr (a b : Str) : decide ((Sum.inr a : Key) = Sum.inr b) = decide (a = b) := by
  by_cases e : a = b
  · subst e; simp
  · have h : ¬ (Sum.inr a : Key) = Sum.inr b := fun q => e (Sum.inr.inj q)
    rw [decide_eq_false h, decide_eq_false e]
theorem key_lr (a : Int) (b : Str) : decide ((Sum.inl a : Key) = Sum.inr b) = false := decide_eq_false (fun q => nomatch q)
theorem key_rl (a : Str) (b : Int) : decide ((Sum.inr a : Key) = Sum.inl b) = false := decide_eq_false (fun q => nomatch q)
def mixKind (prog : Program) (w : World) : PySem.KeyKind prog w Key where
  is := keyIs
  hash := keyH w
  inj := fun v a b ha hb => by
    rcases keyIs_shape ha with ⟨i, t, rfl, rfl⟩ | ⟨x, t, rfl, rfl⟩
    · rcases keyIs_shape hb with ⟨j, u, rfl, e⟩ | ⟨y, u, rfl, e⟩
      · injection e with e1 _; rw [e1]
      · exact nomatch e
    · rcases keyIs_shape hb with ⟨j, u, rfl, e⟩ | ⟨y, u, rfl, e⟩
      · exact nomatch e
      · injection e with e1 _; rw [e1]
  byValue := fun k v h => by
    rcases keyIs_shape h with ⟨i, t, rfl, rfl⟩ | ⟨x, t, rfl, rfl⟩ <;> rfl
  pyHash := fun hv h => by
    rcases keyIs_shape hv with ⟨i, t, rfl, rfl⟩ | ⟨x, t, rfl, rfl⟩
    · exact wpAny_pyHash_int h
    · exact wpAny_pyHash_str h
  eqBool := fun hu hv h => by
    rcases keyIs_shape hu with ⟨i, t, rfl, rfl⟩ | ⟨x, t, rfl, rfl⟩
    · rcases keyIs_shape hv with ⟨j, u, rfl, rfl⟩ | ⟨y, u, rfl, rfl⟩
      · rw [key_ll] at h; exact wpAny_eqBool_int h
      · rw [key_lr] at h; exact SeqAt.EqAt.int_str i t y u _ _ _ _ h
    · rcases keyIs_shape hv with ⟨j, u, rfl, rfl⟩ | ⟨y, u, rfl, rfl⟩
      · rw [key_rl] at h; exact SeqAt.EqAt.str_int x t j u _ _ _ _ h
      · rw [key_rr] at h; exact wpAny_eqBool_str h
  «strs» := fun k x t v h => by
    rcases keyIs_shape h with ⟨i, u, rfl, e⟩ | ⟨y, u, rfl, e⟩
    · exact nomatch e
    · injection e with e1 _
      subst e1
      cases v <;> rfl
end L2
namespace L2
open PySem PySem.Spec PyProof.Rows
inductive V where
  | non | bl (b : Bool) | int (i : Int) | str (x : Str) | byt (b : Array UInt8) | flt (b : UInt64) | ref (a : Addr) | ty (n : String)
  deriving DecidableEq
def RelV : V → Value → Prop
  | .non, u => u = Value.none
  | .bl b, u => u = Value.bool b
  | .int i, u => ∃ t, u = Value.int i t
  | .str x, u => ∃ t, u = Value.str x t
  | .byt b, u => ∃ t, u = Value.bytes b t
  | .flt b, u => ∃ t, u = Value.float b t
  | .ref a, u => u = Value.ref a
  | .ty n, u => u = Value.type n
abbrev Vals : List V → List Value → Prop := Paired RelV
theorem Vals.length {xs : List V} {us : List Value} (r : Vals xs us) : xs.length = us.length := Paired.length r
theorem Vals.get : ∀ {xs : List V} {us : List Value} {i : Nat} {x : V}, Vals xs us → xs[i]? = some x → ∃ u, us[i]? = some u ∧ RelV x u
  | _, _, _, _, .nil, e => by simp at e
  | _, _, 0, _, .cons r _, e => by simp at e; subst e; exact ⟨_, rfl, r⟩
  | _, _, i + 1, x, .cons _ t, e => by
    obtain ⟨u, h1, h2⟩ := Vals.get (i := i) (x := x) t (by simpa using e)
    exact ⟨u, by simpa using h1, h2⟩
theorem Vals.set {x : V} {u : Value} (r : RelV x u) : ∀ {xs : List V} {us : List Value} (i : Nat), Vals xs us → Vals (xs.set i x) (us.set i u)
  | _, _, _, .nil => .nil
  | _, _, 0, .cons _ t => .cons r t
  | _, _, i + 1, .cons q t => .cons q (Vals.set r i t)
theorem Vals.append : ∀ {xs ys : List V} {us ws : List Value}, Vals xs us → Vals ys ws → Vals (xs ++ ys) (us ++ ws)
  | _, _, _, _, .nil, s => s
  | _, _, _, _, .cons r t, s => .cons r (Vals.append t s)
theorem Vals.take : ∀ {xs : List V} {us : List Value} (n : Nat), Vals xs us → Vals (xs.take n) (us.take n)
  | _, _, 0, _ => .nil
  | _, _, _ + 1, .nil => .nil
  | _, _, n + 1, .cons r t => .cons r (Vals.take n t)
theorem Vals.drop : ∀ {xs : List V} {us : List Value} (n : Nat), Vals xs us → Vals (xs.drop n) (us.drop n)
  | _, _, 0, r => r
  | _, _, _ + 1, .nil => .nil
  | _, _, n + 1, .cons _ t => Vals.drop n t
def RelO : Option V → Option Value → Prop
  | some v, some u => RelV v u
  | none, none => True
  | _, _ => False
def KV {κ : Type} : List (κ × V) → List (κ × Value) → Prop := Paired fun (p : κ × V) (q : κ × Value) => p.1 = q.1 ∧ RelV p.2 q.2
def kV : Key → V
  | .inl i => .int i
  | .inr x => .str x
inductive HO where
  /-- a list -/
  | lst (xs : List V)
  /-- a tuple (never changes) -/
  | tup (xs : List V)
  /-- a dict whose keys are ints and texts; one whose keys are tuples of ints and texts (the empty one is both) -/
  | dK (kvs : List (Key × V)) | dT (kvs : List (List Key × V))
  /-- a set of ints: its members, its size -/
  | set (S : Int → Bool) (n : Nat)
  /-- an instance of the class at C, its dict at dx, its attributes -/
  | ins (C dx : Addr) (fs : List (Str × V))
  /-- the dict of the instance at x -/
  | own (x : Addr)
  /-- the dict of an exception -/
  | xd (fs : List (Str × V))
  /-- a bound method, f of x -/
  | met (f x : Addr)
  /-- a range object lo, lo + 1, .. below hi -/
  | rng (lo hi : Int)
  /-- a thing that is known to the object (the script; a dict while a loop walks it): read, never written while it is so -/
  | frz (o : Obj) (u : HO)
  /-- a code object's table -/
  | tbl (ps : Array Value)
  /-- any other thing, by what is true of its one object (a def of one's own: SetO a S n := HO.ext fun h => ..) -/
  | ext (φ : Heap → Prop)
abbrev Hp := Addr → Option HO
def upd (H : Hp) (a : Addr) (o : HO) : Hp := fun b => if b = a then some o else H b
theorem upd_same {H : Hp} {a : Addr} {o : HO} : upd H a o a = some o := by unfold upd; rw [if_pos rfl]
theorem upd_ne {H : Hp} {a b : Addr} {o : HO} (h : b ≠ a) : upd H a o b = H b := by unfold upd; rw [if_neg h]
theorem ne_of {H : Hp} {a b : Addr} {o u : HO} (h : H a = some o) (h' : H b = some u) (d : o ≠ u) : a ≠ b := by
  intro e; subst e; rw [h] at h'; exact d (Option.some.inj h')
theorem ne_of_none {H : Hp} {a b : Addr} {o : HO} (h : H a = some o) (h' : H b = none) : a ≠ b := by
  intro e; subst e; rw [h] at h'; cases h'
section
variable (P : Program) (w : World)
def ObjOk (H : Hp) (h : Heap) (a : Addr) : HO → Prop
  | .lst xs => xs.length ≤ sizeLine ∧ ∃ (its : List Value) (n : Nat), Vals xs its ∧ h.get? a = some { cls := .type "list", data := .seq its.toArray n }
  | .tup xs => xs.length ≤ sizeLine ∧ ∃ its : List Value, Vals xs its ∧ IsTup h a its.toArray
  | .dK kvs => kvs.length ≤ sizeLine ∧ (a == sysModules) = false ∧ ∃ vs, KV kvs vs ∧ h.DictOf (mixKind P w) a vs
  | .dT kvs => kvs.length ≤ sizeLine ∧ (a == sysModules) = false ∧ ∃ xs : List (List Key × Addr × Value),
      Paired (fun (p : List Key × V) (q : List Key × Addr × Value) => p.1 = q.1 ∧ H q.2.1 = some (.tup (p.1.map kV)) ∧ RelV p.2 q.2.2) kvs xs ∧
      ∃ o es ep, h.get? a = some o ∧ o.ExactDict ∧ o.data = .dict es ep ∧ es.toList = xs.map (entryOfKey (tupleKind (mixKind P w))) ∧ (xs.map (·.1)).Nodup
  | .set S n => h.SetOf (intKind P w) a S n
  | .ins C dx fs => H dx = some (.own a) ∧ fs.length ≤ 1000 ∧ dx ≠ a ∧ h.get? a = some (PySem.W.instObj C dx) ∧
      ∃ mA, h.Ns1 dx mA ∧ (∀ f, RelO (fs.lookup f) (mA f)) ∧ PySem.Within mA (fs.map (·.1))
  | .own _ => ∃ o, h.get? a = some o
  | .xd fs => ∃ mA, h.Ns1 a mA ∧ ∀ f, RelO (fs.lookup f) (mA f)
  | .rng lo hi => ∃ t u v, h.get? a = some { cls := .type "range", data := .fields #[.int lo t, .int hi u, .int 1 v] }
  | .frz o u => h.get? a = some o ∧ ObjOk H h a u
  | .tbl ps => h.get? a = some { cls := .none, data := .fields ps }
  | .met f x => h.get? a = some (PySem.W.methodObj (.ref f) (.ref x))
  | .ext φ => φ h ∧ (∃ o, h.get? a = some o) ∧ ∀ h1 h2 : Heap, φ h1 → (∀ o, h1.get? a = some o → h2.get? a = some o) → φ h2
def HOk (H : Hp) (h : Heap) : Prop := ∀ a o, H a = some o → ObjOk P w H h a o
end
section
variable {P : Program} {w : World} {H H' : Hp} {h h' : Heap} {a : Addr} {o : HO}
theorem ObjOk.lt (x : ObjOk P w H h a o) : a < h.objs.size := by
  cases o with
  | lst xs => obtain ⟨_, _, _, _, e⟩ := x; exact Heap.lt_size e
  | tup xs => obtain ⟨_, _, _, p⟩ := x; exact p.lt
  | dK kvs => obtain ⟨_, _, _, _, o, _, _, e, _⟩ := x; exact Heap.lt_size e
  | dT kvs => obtain ⟨_, _, _, _, o, _, _, e, _⟩ := x; exact Heap.lt_size e
  | set S n => obtain ⟨o, _, _, _, e, _⟩ := x; exact Heap.lt_size e
  | ins C dx fs => obtain ⟨_, _, _, e, _⟩ := x; exact Heap.lt_size e
  | own y => obtain ⟨_, e⟩ := x; exact Heap.lt_size e
  | xd fs => obtain ⟨_, ⟨_, _, _, e, _⟩, _⟩ := x; exact Heap.lt_size e
  | rng lo hi => obtain ⟨_, _, _, e⟩ := x; exact Heap.lt_size e
  | frz ob u => obtain ⟨e, _⟩ := x; exact Heap.lt_size e
  | tbl ps => exact Heap.lt_size (show h.get? a = some _ from x)
  | met f y => exact Heap.lt_size (show h.get? a = some _ from x)
  | ext φ => obtain ⟨_, ⟨_, e⟩, _⟩ := x; exact Heap.lt_size e
theorem Paired.mapP {α β : Type} {F G : α → β → Prop} : ∀ {l₁ : List α} {l₂ : List β}, Paired F l₁ l₂ → (∀ a b, F a b → G a b) → Paired G l₁ l₂
  | _, _, .nil, _ => .nil
  | _, _, .cons r t, f => .cons (f _ _ r) (Paired.mapP t f)
theorem ObjOk.stay (x : ObjOk P w H h a o) (k : ∀ b u, (b = a ∨ H b = some (.own a)) → h.get? b = some u → h'.get? b = some u)
    (ho : ∀ b, H b = some (.own a) → H' b = some (.own a)) (ht : ∀ b xs, H b = some (.tup xs) → H' b = some (.tup xs)) : ObjOk P w H' h' a o := by
  induction o with
  | lst xs => obtain ⟨z, its, n, r, e⟩ := x; exact ⟨z, its, n, r, k _ _ (.inl rfl) e⟩
  | tup xs => obtain ⟨z, its, r, ob, e, c⟩ := x; exact ⟨z, its, r, ob, k _ _ (.inl rfl) e, c⟩
  | dK kvs => obtain ⟨z, y, vs, r, ob, es, ep, e, c⟩ := x; exact ⟨z, y, vs, r, ob, es, ep, k _ _ (.inl rfl) e, c⟩
  | dT kvs =>
    obtain ⟨z, y, xs, r, ob, es, ep, e, c⟩ := x
    exact ⟨z, y, xs, Paired.mapP r fun p q z => ⟨z.1, ht _ _ z.2.1, z.2.2⟩, ob, es, ep, k _ _ (.inl rfl) e, c⟩
  | set S n => obtain ⟨ob, es, ep, t, e, c⟩ := x; exact ⟨ob, es, ep, t, k _ _ (.inl rfl) e, c⟩
  | ins C dx fs =>
    obtain ⟨d, z, ne, e, mA, ⟨od, es, ep, e2, c⟩, r⟩ := x
    exact ⟨ho _ d, z, ne, k _ _ (.inl rfl) e, mA, ⟨od, es, ep, k _ _ (.inr d) e2, c⟩, r⟩
  | own y => obtain ⟨ob, e⟩ := x; exact ⟨ob, k _ _ (.inl rfl) e⟩
  | xd fs => obtain ⟨mA, ⟨od, es, ep, e, c⟩, r⟩ := x; exact ⟨mA, ⟨od, es, ep, k _ _ (.inl rfl) e, c⟩, r⟩
  | rng lo hi => obtain ⟨t, u, v, e⟩ := x; exact ⟨t, u, v, k _ _ (.inl rfl) e⟩
  | frz ob u ih => obtain ⟨e, q⟩ := x; exact ⟨k _ _ (.inl rfl) e, ih q⟩
  | tbl ps =>
    have e : h.get? a = some { cls := .none, data := .fields ps } := x
    show h'.get? a = some { cls := .none, data := .fields ps }
    exact k a _ (.inl rfl) e
  | met f y =>
    have e : h.get? a = some (PySem.W.methodObj (.ref f) (.ref y)) := x
    show h'.get? a = some (PySem.W.methodObj (.ref f) (.ref y))
    exact k a _ (.inl rfl) e
  | ext φ => obtain ⟨p, ⟨o, e⟩, st⟩ := x; exact ⟨st _ _ p fun o q => k _ _ (.inl rfl) q, ⟨o, k _ _ (.inl rfl) e⟩, st⟩
theorem HOk.lt (x : HOk P w H h) (e : H a = some o) : a < h.objs.size := (x a o e).lt
theorem HOk.fresh (x : HOk P w H h) (e : h.objs.size ≤ a) : H a = none := by
  cases q : H a with
  | none => rfl
  | some u => exact absurd (Nat.lt_of_lt_of_le (x.lt q) e) (Nat.lt_irrefl _)
theorem HOk.kept (x : HOk P w H h) (k : ∀ b u, h.get? b = some u → h'.get? b = some u) : HOk P w H h' := fun a o e =>
  (x a o e).stay (fun b u _ q => k b u q) (fun _ q => q) fun _ _ q => q
theorem HOk.laid (x : HOk P w H h) (k : ∀ b u, h.get? b = some u → h'.get? b = some u) (hp : h.objs.size ≤ a) (new : ObjOk P w (upd H a o) h' a o) : HOk P w (upd H a o) h' := fun b u e => by
  have hn := x.fresh hp
  by_cases hb : b = a
  · subst hb; rw [upd_same] at e; cases e; exact new
  · rw [upd_ne hb] at e
    exact (x b u e).stay (fun c v _ q => k c v q) (fun c q => by rw [upd_ne (ne_of_none q hn)]; exact q) fun c xs q => by rw [upd_ne (ne_of_none q hn)]; exact q
end
def Rd (H : Hp) (a : Addr) (u : HO) : Prop := H a = some u ∨ ∃ o, H a = some (.frz o u)
theorem Rd.of {H : Hp} {a : Addr} {u : HO} (h : H a = some u) : Rd H a u := .inl h
theorem Rd.ok {P : Program} {w : World} {H : Hp} {h : Heap} {a : Addr} {u : HO} (r : Rd H a u) (x : HOk P w H h) : ObjOk P w H h a u := by
  rcases r with r | ⟨o, r⟩
  · exact x a u r
  · obtain ⟨_, q⟩ := x a _ r
    exact q
def Mut : Option HO → Prop
  | some (.lst _) => True
  | some (.dK _) => True
  | some (.dT _) => True
  | some (.set _ _) => True
  | some (.ins _ _ _) => True
  | some (.ext _) => True
  | _ => False
section
variable {P : Program} {w : World} {H : Hp} {h h' : Heap} {x e : Addr} {o' : HO}
theorem HOk.write (ok : HOk P w H h) (mu : Mut (H x)) (he : e = x ∨ H e = some (.own x)) (k : ∀ b u, b ≠ e → h.get? b = some u → h'.get? b = some u) (heo : ∃ u, h'.get? e = some u)
    (new : ObjOk P w (upd H x o') h' x o') : HOk P w (upd H x o') h' := fun b u q => by
  have nown : ∀ c y, H c = some (.own y) → c ≠ x := fun c y r z => by subst z; rw [r] at mu; exact mu
  have ntup : ∀ c xs, H c = some (.tup xs) → c ≠ x := fun c xs r z => by subst z; rw [r] at mu; exact mu
  by_cases hb : b = x
  · subst hb; rw [upd_same] at q; cases q; exact new
  · rw [upd_ne hb] at q
    by_cases hbe : b = e
    · have q' : H b = some (.own x) := by
        rcases he with z | z
        · exact absurd (hbe.trans z) hb
        · rw [hbe]; exact z
      rw [q] at q'; cases q'
      obtain ⟨v, hv⟩ := heo
      exact ⟨v, by rw [hbe]; exact hv⟩
    · refine (ok b u q).stay (fun c v hc r => k c v ?_ r) (fun c r => by rw [upd_ne (nown c b r)]; exact r) fun c xs r => by rw [upd_ne (ntup c xs r)]; exact r
      rcases hc with rfl | hc
      · exact hbe
      · rintro rfl
        rcases he with z | z
        · exact nown c b hc z
        · rw [hc] at z; cases z; exact hb rfl
end
structure Un (fs ex : List Addr) (H H' : Hp) (h h' : Heap) : Prop where
  keep : ∀ b o, h.get? b = some o → H b = none → b ∉ fs → b ∉ ex → h'.get? b = some o
  slot : ∀ b o, h.get? b = some o → H b = none → b ∈ fs → b ∉ ex → ∃ sl, h'.get? b = some { o with slots := sl }
  free : ∀ b o, h.get? b = some o → H b = none → b ∉ ex → H' b = none
  there : ∀ b o, h.get? b = some o → b ∉ ex → ∃ o', h'.get? b = some o'
  tups : ∀ b xs, H b = some (.tup xs) → H' b = some (.tup xs)
  frzs : ∀ b o u, H b = some (.frz o u) → H' b = some (.frz o u)
  tbls : ∀ b ps, H b = some (.tbl ps) → ∃ more, H' b = some (.tbl (ps ++ more))
section
variable {fs fs' ex ex' : List Addr} {H H1 H2 : Hp} {h h1 h2 h' : Heap} {a x e : Addr} {o : HO}
theorem Un.any (u : Un fs ex H H1 h h1) {b : Addr} {ob : Obj} (q : h.get? b = some ob) (n : H b = none) (hx : b ∉ ex) : ∃ sl, h1.get? b = some { ob with slots := sl } := by
  by_cases hb : b ∈ fs
  · exact u.slot b ob q n hb hx
  · exact ⟨ob.slots, u.keep b ob q n hb hx⟩
theorem Un.trans (a : Un fs ex H H1 h h1) (b : Un fs ex H1 H2 h1 h2) : Un fs ex H H2 h h2 where
  keep := fun c ob q n hc hx => b.keep c ob (a.keep c ob q n hc hx) (a.free c ob q n hx) hc hx
  slot := fun c ob q n hc hx => by
    obtain ⟨sl, e1⟩ := a.slot c ob q n hc hx
    obtain ⟨sl', e2⟩ := b.slot c _ e1 (a.free c ob q n hx) hc hx
    exact ⟨sl', e2⟩
  free := fun c ob q n hx => by
    obtain ⟨o', e1⟩ := a.there c ob q hx
    exact b.free c o' e1 (a.free c ob q n hx) hx
  there := fun c ob q hx => by
    obtain ⟨o', e1⟩ := a.there c ob q hx
    exact b.there c o' e1 hx
  tups := fun c xs q => b.tups c xs (a.tups c xs q)
  frzs := fun c ob xs q => b.frzs c ob xs (a.frzs c ob xs q)
  tbls := fun c ps q => by
    obtain ⟨m1, e1⟩ := a.tbls c ps q
    obtain ⟨m2, e2⟩ := b.tbls c _ e1
    exact ⟨m1 ++ m2, by rw [e2, Array.append_assoc]⟩
theorem Un.kept (k : ∀ b u, h.get? b = some u → h'.get? b = some u) : Un fs ex H H h h' :=
  ⟨fun b ob q _ _ _ => k b ob q, fun b ob q _ _ _ => ⟨ob.slots, k b ob q⟩, fun _ _ _ n _ => n, fun b ob q _ => ⟨ob, k b ob q⟩, fun _ _ q => q, fun _ _ _ q => q, fun _ ps q => ⟨#[], by rw [q]; simp⟩⟩
theorem Un.refl : Un fs ex H H h h := Un.kept fun _ _ q => q
theorem Un.laid (k : ∀ b u, h.get? b = some u → h'.get? b = some u) (hp : h.objs.size ≤ a) (hn : H a = none) : Un fs ex H (upd H a o) h h' where
  keep := fun b u q _ _ _ => k b u q
  slot := fun b u q _ _ _ => ⟨u.slots, k b u q⟩
  free := fun b u q n _ => by rw [upd_ne (Nat.ne_of_lt (Nat.lt_of_lt_of_le (Heap.lt_size q) hp))]; exact n
  there := fun b u q _ => ⟨u, k b u q⟩
  tups := fun b xs q => by rw [upd_ne (ne_of_none q hn)]; exact q
  frzs := fun b u xs q => by rw [upd_ne (ne_of_none q hn)]; exact q
  tbls := fun b ps q => ⟨#[], by rw [upd_ne (ne_of_none q hn), q]; simp⟩
theorem Un.write (mu : Mut (H x)) (he : e = x ∨ H e = some (.own x)) (k : ∀ b u, b ≠ e → h.get? b = some u → h'.get? b = some u) (heo : ∃ u, h'.get? e = some u) : Un fs ex H (upd H x o) h h' := by
  have hx : ∀ b, H b = none → b ≠ x := fun b n z => by subst z; rw [n] at mu; exact mu
  have hb : ∀ b, H b = none → b ≠ e := fun b n z => by
    subst z
    rcases he with r | r
    · exact hx b n r
    · rw [n] at r; cases r
  have hm : ∀ b u, H b = some u → ¬ Mut (some u) → b ≠ x := fun b u q nm z => by subst z; rw [q] at mu; exact nm mu
  refine ⟨fun b u q n _ _ => k b u (hb b n) q, fun b u q n _ _ => ⟨u.slots, k b u (hb b n) q⟩, fun b u q n _ => by rw [upd_ne (hx b n)]; exact n, fun b u q _ => ?_,
    fun b xs q => by rw [upd_ne (hm b _ q fun z => z)]; exact q, fun b u xs q => by rw [upd_ne (hm b _ q fun z => z)]; exact q, fun b ps q => ⟨#[], by rw [upd_ne (hm b _ q fun z => z), q]; simp⟩⟩
  by_cases hbe : b = e
  · subst hbe; exact heo
  · exact ⟨u, k b u hbe q⟩
theorem Un.mono (u : Un fs ex H H1 h h1) (hs : ∀ b ∈ fs, b ∈ fs') (hx : ∀ b ∈ ex, b ∈ ex') : Un fs' ex' H H1 h h1 :=
  ⟨fun b ob q n hb he => u.keep b ob q n (fun z => hb (hs b z)) fun z => he (hx b z), fun _ _ q n _ he => u.any q n fun z => he (hx _ z), fun b ob q n he => u.free b ob q n fun z => he (hx b z), fun b ob q he => u.there b ob q fun z => he (hx b z), u.tups, u.frzs, u.tbls⟩
end
def trk (h : Heap) (H : Hp) : List Addr := (List.range h.objs.size).filter fun a => (H a).isSome
def hidT (h : Heap) (H : Hp) : Heap := PySem.W.hideAll h (trk h H)
theorem hidT_size (h : Heap) (H : Hp) : (hidT h H).objs.size = h.objs.size := PySem.W.hideAll_size _ _
theorem hidT_get {h : Heap} {H : Hp} {b : Addr} {o : Obj} (e : h.get? b = some o) (n : H b = none) : (hidT h H).get? b = some o :=
  PySem.W.hideAll_get _ e fun hm => by
    have q : (H b).isSome = true := (List.mem_filter.mp hm).2
    rw [n] at q; simp at q
theorem of_hidT {h : Heap} {H : Hp} {b : Addr} {o : Obj} (e : (hidT h H).get? b = some o) : h.get? b = some o ∧ H b = none := by
  have e' : h.get? b = some o := PySem.W.of_hideAll (trk h H) e
  refine ⟨e', ?_⟩
  cases q : H b with
  | none => rfl
  | some x =>
    have hm : b ∈ trk h H := List.mem_filter.mpr ⟨List.mem_range.mpr (Heap.lt_size e'), by simp [q]⟩
    have z : (hidT h H).get? b = none := PySem.W.hideAll_none (trk h H) hm
    rw [z] at e; cases e
def allNews (g h : Heap) (L : Addr) : List (Addr × Obj) := (List.range h.objs.size).filterMap fun a => if a = L ∨ (g.get? a).isSome = true then none else (h.get? a).map fun o => (a, o)
def rest (g h : Heap) (L d : Addr) : List (Addr × Obj) := (allNews g h L).filter fun p => decide (p.1 ≠ d)
end L2
namespace L2
open PySem PySem.Spec PyProof.Rows
structure Mod (K : PySem.W.Frag) (mg : Str → Option Value) (base : Heap) : Prop where
  kin : K.In base
  glob : base.Ns mainGlobals mg
  blt : ∃ mb, base.Ns builtinsNs mb ∧ ∀ x : Str, x ≠ "__name__" → mb x = bootBuiltins x
  nolimit : base.NoLimit
structure Cx where
  prog : Program
  w : World
  K : PySem.W.Frag
  mg : Str → Option Value
  base : Heap
  A : Around
  N : List Str
  s₀ : Shared
  H₀ : Hp
  env : Env
  outer : List Env
  stack : List Env
  ex : List Addr
  fn : Str → Bool
  calm : Bool
  pn : List (Addr × Obj)
  xe : Value → Shared → Prop
def frs (l : List Env) : List Addr := l.filterMap (·.frame)
abbrev Cx.fs (X : Cx) : List Addr := frs X.outer
def Vis (sc : Scope) (x : Str) : Prop := sc.names.lookup x = some .local ∨ sc.names.lookup x = some .cell ∨ sc.names.lookup x = some .free
def Loc (sc : Scope) (x : Str) : Prop := sc.names.lookup x = some .local ∨ sc.names.lookup x = some .cell
def Look (env : Env) (h : Heap) (m : Str → Option Value) (x : Str) (u : Value) : Prop :=
  (env.kindOf x = some .local ∧ m x = some u) ∨ ((env.kindOf x = some .cell ∨ env.kindOf x = some .free) ∧ ∃ c, env.cells.lookup x = some c ∧ h.IsCell c (some u))
structure Cx.Ok (X : Cx) : Prop where
  mod : Mod X.K X.mg X.base
  kind : X.env.scope.kind = .function
  glob : X.env.globals = mainGlobals
  blt : X.env.builtins = builtinsNs
  above : X.s₀.heap.objs.size ≤ X.env.locals
  inj : ∀ x y c, X.env.cells.lookup x = some c → X.env.cells.lookup y = some c → x = y
  has : ∀ x, (X.env.kindOf x = some .cell ∨ X.env.kindOf x = some .free) → ∃ c, X.env.cells.lookup x = some c
  cab : ∀ x c, X.fn x = true → X.env.cells.lookup x = some c → X.s₀.heap.objs.size ≤ c
  hd : X.calm = true → X.A.handled = none
  frames : X.A.frames = some X.stack
  stk : X.stack = X.outer ∨ (X.stack = X.env :: X.outer ∧ X.env.frame = some X.env.locals)
  exf : ∀ b ∈ X.ex, b ≠ X.env.locals ∧ ∀ x c, X.env.cells.lookup x = some c → c ≠ b
  bs : ∀ b o, X.base.get? b = some o → X.s₀.heap.get? b = some o ∧ X.H₀ b = none
  bsz : X.base.objs.size ≤ X.s₀.heap.objs.size
  noex : ∀ b o, X.base.get? b = some o → b ∉ X.ex
  exfs : ∀ b ∈ X.ex, b ∉ X.fs
  funs : X.s₀.heap.FunFrames X.base X.outer
  frf : ∀ b ∈ X.fs, X.H₀ b = none
structure Inv (X : Cx) (pins : List (Addr × Obj)) (σ : List (Option V)) (H : Hp) (s : Shared) : Prop where
  ok : X.Ok
  os : s.os = X.s₀.os
  bare : AllBare s.gens
  base : Un X.fs X.ex X.H₀ H X.s₀.heap s.heap
  loc : ∃ m, s.heap.Ns X.env.locals m ∧ ∀ (i : Nat) (x : Str) (v : V), X.N[i]? = some x → σ[i]? = some (some v) → Vis X.env.scope x → ∃ u, RelV v u ∧ Look X.env s.heap m x u
  cell : ∀ x c, X.env.cells.lookup x = some c → ∃ v, s.heap.IsCell c v
  free : H X.env.locals = none
  freeC : ∀ x c, X.env.cells.lookup x = some c → H c = none
  pin : ∀ p ∈ X.pn ++ pins, s.heap.get? p.1 = some p.2 ∧ H p.1 = none ∧ p.1 ≠ X.env.locals ∧ p.1 ∉ X.fs ∧ ∀ v, p.2.data ≠ .cell v
  hok : HOk X.prog X.w H s.heap
  len : σ.length = X.N.length
section
variable {X : Cx} {pins : List (Addr × Obj)} {σ : List (Option V)} {H H' : Hp} {s : Shared} {h' : Heap}
theorem Cx.Ok.nofr (ok : X.Ok) {b : Addr} {o : Obj} (e : X.base.get? b = some o) : b ∉ X.fs := fun hb => by
  have := (ok.funs.mem hb).1
  rw [e] at this; cases this
theorem Inv.bs (I : Inv X pins σ H s) : ∀ b o, X.base.get? b = some o → s.heap.get? b = some o ∧ H b = none := fun b o e =>
  ⟨I.base.keep b o (I.ok.bs b o e).1 (I.ok.bs b o e).2 (I.ok.nofr e) (I.ok.noex b o e), I.base.free b o (I.ok.bs b o e).1 (I.ok.bs b o e).2 (I.ok.noex b o e)⟩
theorem Inv.bk (I : Inv X pins σ H s) : ∀ b o, X.base.get? b = some o → s.heap.get? b = some o := fun b o e => (I.bs b o e).1
theorem Inv.mod (I : Inv X pins σ H s) : Mod X.K X.mg X.base := I.ok.mod
theorem Inv.kIn (I : Inv X pins σ H s) : X.K.In s.heap := I.ok.mod.kin.keeps I.bk
theorem Inv.nolimit (I : Inv X pins σ H s) : s.heap.NoLimit := I.ok.mod.nolimit.keeps I.bk
theorem Inv.fr (I : Inv X pins σ H s) : ∃ m, Fr X.base X.env.locals s.heap m :=
  let ⟨m, hn, _⟩ := I.loc
  ⟨m, hn, I.bk, Nat.le_trans I.ok.bsz I.ok.above⟩
theorem Inv.lt (I : Inv X pins σ H s) : X.env.locals < s.heap.objs.size := let ⟨_, hn, _⟩ := I.loc; hn.lt
theorem Inv.sz (I : Inv X pins σ H s) : X.s₀.heap.objs.size ≤ s.heap.objs.size := Nat.le_trans I.ok.above (Nat.le_of_lt I.lt)
theorem Inv.nofs (I : Inv X pins σ H s) {a : Addr} (h : s.heap.objs.size ≤ a) : a ∉ X.fs := fun hb => by
  obtain ⟨_, o, ho, _⟩ := I.ok.funs.mem hb
  exact absurd (Nat.lt_of_lt_of_le (Heap.lt_size ho) (Nat.le_trans I.sz h)) (Nat.lt_irrefl _)
theorem Inv.cne (I : Inv X pins σ H s) : ∀ x c, X.env.cells.lookup x = some c → c ≠ X.env.locals := fun x c e z => by
  obtain ⟨v, o, ho, hd⟩ := I.cell x c e
  obtain ⟨m, ⟨o', es, ep, ho', hd', _⟩, _⟩ := I.loc
  rw [z, ho'] at ho; cases ho; rw [hd'] at hd; cases hd
theorem Inv.funs (I : Inv X pins σ H s) : s.heap.FunFrames X.base X.outer := by
  have all : ∀ (l : List Env), (∀ b ∈ frs l, b ∈ X.fs) → X.s₀.heap.FunFrames X.base l → s.heap.FunFrames X.base l := by
    intro l
    induction l with
    | nil => intro _ _; trivial
    | cons env r ih =>
      intro hs hl
      obtain ⟨hk, ⟨L, o, hf, hn, ho, hd⟩, hr⟩ := hl
      have hL : L ∈ X.fs := hs L (by unfold frs; rw [List.filterMap_cons, hf]; exact List.mem_cons_self)
      obtain ⟨sl, e⟩ := I.base.slot L o ho (I.ok.frf L hL) hL fun z => I.ok.exfs L z hL
      exact ⟨hk, ⟨L, _, hf, hn, e, hd⟩, ih (fun b hb => hs b (by unfold frs; rw [List.filterMap_cons, hf]; exact List.mem_cons_of_mem _ hb)) hr⟩
  exact all X.outer (fun _ hb => hb) I.ok.funs
theorem Inv.stack (I : Inv X pins σ H s) : s.heap.FunFrames X.base X.stack := by
  rcases I.ok.stk with e | ⟨e, hf⟩
  · rw [e]; exact I.funs
  · rw [e]
    obtain ⟨m, hn, _⟩ := I.loc
    refine .cons (by rw [I.ok.kind]; decide) hf hn ?_ I.funs
    exact Heap.get?_none_of_le (Nat.le_trans I.ok.bsz I.ok.above)
theorem Inv.stkSub (I : Inv X pins σ H s) : ∀ b ∈ frs X.stack, b ∈ X.env.locals :: X.fs := fun b hb => by
  rcases I.ok.stk with e | ⟨e, hf⟩
  · rw [e] at hb; exact List.mem_cons_of_mem _ hb
  · rw [e] at hb
    unfold frs at hb
    rw [List.filterMap_cons, hf] at hb
    exact hb
theorem Inv.stkFree (I : Inv X pins σ H s) : ∀ b ∈ frs X.stack, H b = none := fun b hb => by
  rcases List.mem_cons.mp (I.stkSub b hb) with e | hb
  · rw [e]; exact I.free
  · obtain ⟨_, o, ho, _⟩ := I.ok.funs.mem hb
    exact I.base.free b o ho (I.ok.frf b hb) fun z => I.ok.exfs b z hb
theorem Inv.step {g' : Array GenState} {t' : Nat} {d' : Drawn} {ch : List Addr} (I : Inv X pins σ H s)
    (hch : ∀ b ∈ ch, (b ∈ X.ex ∨ X.s₀.heap.objs.size ≤ b) ∧ b ≠ X.env.locals ∧ (∀ x c, X.env.cells.lookup x = some c → c ≠ b) ∧ ∀ p ∈ X.pn ++ pins, p.1 ≠ b)
    (keep : ∀ b o, b ≠ X.env.locals → b ∉ X.fs → b ∉ ch → s.heap.get? b = some o → H b = none → h'.get? b = some o)
    (slot : ∀ b o, b ≠ X.env.locals → b ∈ X.fs → b ∉ ch → s.heap.get? b = some o → H b = none → ∃ sl, h'.get? b = some { o with slots := sl }) (free : ∀ b o, b ∉ ch → s.heap.get? b = some o → H b = none → H' b = none)
    (there : ∀ b o, b ∉ ch → s.heap.get? b = some o → ∃ o', h'.get? b = some o')
    (tups : ∀ b xs, H b = some (.tup xs) → H' b = some (.tup xs)) (frzs : ∀ b o u, H b = some (.frz o u) → H' b = some (.frz o u)) (tbls : ∀ b ps, H b = some (.tbl ps) → ∃ more, H' b = some (.tbl (ps ++ more)))
    (ns : ∀ m, s.heap.Ns X.env.locals m → h'.Ns X.env.locals m) (hok : HOk X.prog X.w H' h') (hg : AllBare g') :
    Inv X pins σ H' { s with heap := h', gens := g', drawn := d', toks := t' } := by
  have neL : ∀ b o, X.s₀.heap.get? b = some o → b ≠ X.env.locals := fun b o e => Nat.ne_of_lt (Nat.lt_of_lt_of_le (Heap.lt_size e) I.ok.above)
  have neC : ∀ b o, X.s₀.heap.get? b = some o → b ∉ X.ex → b ∉ ch := fun b o e hx hb => by
    rcases (hch b hb).1 with z | z
    · exact hx z
    · exact absurd (Nat.lt_of_lt_of_le (Heap.lt_size e) z) (Nat.lt_irrefl _)
  have cellK : ∀ x c, X.env.cells.lookup x = some c → ∀ v, s.heap.IsCell c v → h'.IsCell c v := fun x c e v ⟨o, ho, hd⟩ => by
    have nch : c ∉ ch := fun z => (hch c z).2.2.1 x c e rfl
    by_cases hc : c ∈ X.fs
    · obtain ⟨sl, q⟩ := slot c o (I.cne x c e) hc nch ho (I.freeC x c e)
      exact ⟨_, q, hd⟩
    · exact ⟨o, keep c o (I.cne x c e) hc nch ho (I.freeC x c e), hd⟩
  refine ⟨I.ok, I.os, hg, ⟨fun b o e n hb hx => ?_, fun b o e n hb hx => ?_, fun b o e n hx => ?_, fun b o e hx => ?_, fun b xs e => tups b xs (I.base.tups b xs e), fun b o xs e => frzs b o xs (I.base.frzs b o xs e), fun b ps e => ?_⟩, ?_, fun x c e => ?_, ?_, fun x c e => ?_, fun p hp => ?_, hok, I.len⟩
  · exact keep b o (neL b o e) hb (neC b o e hx) (I.base.keep b o e n hb hx) (I.base.free b o e n hx)
  · obtain ⟨sl, e1⟩ := I.base.slot b o e n hb hx
    obtain ⟨sl', e2⟩ := slot b _ (neL b o e) hb (neC b o e hx) e1 (I.base.free b o e n hx)
    exact ⟨sl', e2⟩
  · obtain ⟨o', e1⟩ := I.base.there b o e hx
    exact free b o' (neC b o e hx) e1 (I.base.free b o e n hx)
  · obtain ⟨o', e1⟩ := I.base.there b o e hx
    exact there b o' (neC b o e hx) e1
  · obtain ⟨m1, e1⟩ := I.base.tbls b ps e
    obtain ⟨m2, e2⟩ := tbls b _ e1
    exact ⟨m1 ++ m2, by rw [e2, Array.append_assoc]⟩
  · obtain ⟨m, hn, hl⟩ := I.loc
    refine ⟨m, ns m hn, fun i x v e1 e2 e3 => ?_⟩
    obtain ⟨u, r, l⟩ := hl i x v e1 e2 e3
    refine ⟨u, r, ?_⟩
    rcases l with l | ⟨k, c, e, z⟩
    · exact .inl l
    · exact .inr ⟨k, c, e, cellK x c e _ z⟩
  · obtain ⟨v, z⟩ := I.cell x c e
    exact ⟨v, cellK x c e v z⟩
  · obtain ⟨m, ⟨o, _, _, ho, _⟩, _⟩ := I.loc
    exact free _ o (fun z => (hch _ z).2.1 rfl) ho I.free
  · obtain ⟨v, o, ho, hd⟩ := I.cell x c e
    exact free c o (fun z => (hch c z).2.2.1 x c e rfl) ho (I.freeC x c e)
  · obtain ⟨e, n, ne, nf, d⟩ := I.pin p hp
    have nch : p.1 ∉ ch := fun z => (hch p.1 z).2.2.2 p hp rfl
    exact ⟨keep p.1 p.2 ne nf nch e n, free p.1 p.2 nch e n, ne, nf, d⟩
theorem Inv.un {t' : Nat} (I : Inv X pins σ H s) (u : Un X.fs [] H H' s.heap h') (hok : HOk X.prog X.w H' h') : Inv X pins σ H' { s with heap := h', toks := t' } := by
  obtain ⟨m, ⟨o, es, ep, ho, r⟩, _⟩ := id I.loc
  obtain ⟨sl, hL⟩ := u.any ho I.free (by simp)
  exact I.step (g' := s.gens) (d' := s.drawn) (ch := []) (fun _ z => nomatch z) (fun b o _ hb _ e n => u.keep b o e n hb (by simp)) (fun b o _ hb _ e n => u.slot b o e n hb (by simp)) (fun b o _ e n => u.free b o e n (by simp)) (fun b o _ e => u.there b o e (by simp)) u.tups u.frzs u.tbls (fun m' hm => by
    obtain ⟨o', es', ep', ho', r'⟩ := hm
    rw [ho] at ho'; cases ho'
    exact ⟨_, es', ep', hL, r'⟩) hok I.bare
theorem Inv.call {g' : Array GenState} {t' : Nat} {d' : Drawn} {ch : List Addr} (I : Inv X pins σ H s) (u : Un (frs X.stack) ch H H' s.heap h') (hok : HOk X.prog X.w H' h') (hg : AllBare g')
    (hch : ∀ b ∈ ch, (b ∈ X.ex ∨ X.s₀.heap.objs.size ≤ b) ∧ b ≠ X.env.locals ∧ (∀ x c, X.env.cells.lookup x = some c → c ≠ b) ∧ ∀ p ∈ X.pn ++ pins, p.1 ≠ b) :
    Inv X pins σ H' { s with heap := h', gens := g', drawn := d', toks := t' } := by
  obtain ⟨m, ⟨o, es, ep, ho, r⟩, _⟩ := id I.loc
  obtain ⟨sl, hL⟩ := u.any ho I.free fun z => (hch _ z).2.1 rfl
  exact I.step (ch := ch) hch (fun b o hL hb hc e n => u.keep b o e n (fun z => (List.mem_cons.mp (I.stkSub b z)).elim hL hb) hc) (fun b o _ _ hc e n => u.any e n hc) (fun b o hc e n => u.free b o e n hc) (fun b o hc e => u.there b o e hc) u.tups u.frzs u.tbls (fun m' hm => by
    obtain ⟨o', es', ep', ho', r'⟩ := hm
    rw [ho] at ho'; cases ho'
    exact ⟨_, es', ep', hL, r'⟩) hok hg
theorem Inv.turned {t' : Nat} {it : Addr} (I : Inv X pins σ H s) (k : ∀ b o, b ≠ it → s.heap.get? b = some o → h'.get? b = some o) (hn : H it = none) (hL : it ≠ X.env.locals)
    (h1 : it ∈ X.ex ∨ X.s₀.heap.objs.size ≤ it) (h2 : ∀ x c, X.env.cells.lookup x = some c → c ≠ it) (h3 : ∀ p ∈ X.pn ++ pins, p.1 ≠ it) : Inv X pins σ H { s with heap := h', toks := t' } := by
  have nit : ∀ b u, H b = some u → b ≠ it := fun b u e z => by rw [z, hn] at e; cases e
  refine I.step (g' := s.gens) (d' := s.drawn) (ch := [it]) (fun b hb => ?_) (fun b o _ _ hc e _ => k b o (fun z => hc (by simp [z])) e) (fun b o _ _ hc e _ => ⟨o.slots, k b o (fun z => hc (by simp [z])) e⟩) (fun _ _ _ _ n => n)
    (fun b o hc e => ⟨o, k b o (fun z => hc (by simp [z])) e⟩) (fun _ _ e => e) (fun _ _ _ e => e) (fun b ps e => ⟨#[], by rw [e]; simp⟩) (fun m hm => ?_) (fun b u e => ?_) I.bare
  · have e : b = it := by simpa using hb
    subst e
    exact ⟨h1, hL, h2, h3⟩
  · obtain ⟨o, es, ep, ho, r⟩ := hm
    exact ⟨o, es, ep, k _ o (Ne.symm hL) ho, r⟩
  · refine (I.hok b u e).stay (fun c v hc q => k c v ?_ q) (fun _ q => q) fun _ _ q => q
    rcases hc with z | z
    · rw [z]; exact nit b u e
    · exact nit c _ z
theorem Inv.tok (I : Inv X pins σ H s) (t : Nat) : Inv X pins σ H { s with toks := t } := I.un (h' := s.heap) (t' := t) Un.refl I.hok
theorem Inv.kept {t' : Nat} (I : Inv X pins σ H s) (k : ∀ b u, s.heap.get? b = some u → h'.get? b = some u) : Inv X pins σ H { s with heap := h', toks := t' } := I.un (Un.kept k) (I.hok.kept k)
theorem Inv.laid {a : Addr} {o : HO} {t' : Nat} (I : Inv X pins σ H s) (k : ∀ b u, s.heap.get? b = some u → h'.get? b = some u) (hp : s.heap.objs.size ≤ a) (new : ObjOk X.prog X.w (upd H a o) h' a o) :
    Inv X pins σ (upd H a o) { s with heap := h', toks := t' } := I.un (Un.laid k hp (I.hok.fresh hp)) (I.hok.laid k hp new)
theorem Inv.write {x e : Addr} {o : HO} {t' : Nat} (I : Inv X pins σ H s) (mu : Mut (H x)) (he : e = x ∨ H e = some (.own x)) (k : ∀ b u, b ≠ e → s.heap.get? b = some u → h'.get? b = some u) (heo : ∃ u, h'.get? e = some u)
    (new : ObjOk X.prog X.w (upd H x o) h' x o) : Inv X pins σ (upd H x o) { s with heap := h', toks := t' } := I.un (Un.write mu he k heo) (I.hok.write mu he k heo new)
theorem Inv.weak {σ' : List (Option V)} (I : Inv X pins σ H s) (hl : σ'.length = σ.length) (w : ∀ (i : Nat) v, σ'[i]? = some (some v) → σ[i]? = some (some v)) : Inv X pins σ' H s :=
  ⟨I.ok, I.os, I.bare, I.base, let ⟨m, hn, hl'⟩ := I.loc; ⟨m, hn, fun i x v e1 e2 e3 => hl' i x v e1 (w i v e2) e3⟩, I.cell, I.free, I.freeC, I.pin, I.hok, hl.trans I.len⟩
theorem Inv.pins_of {pins' : List (Addr × Obj)} (I : Inv X pins σ H s) (h : ∀ p ∈ pins', s.heap.get? p.1 = some p.2 ∧ H p.1 = none ∧ p.1 ≠ X.env.locals ∧ p.1 ∉ X.fs ∧ ∀ v, p.2.data ≠ .cell v) : Inv X pins' σ H s :=
  ⟨I.ok, I.os, I.bare, I.base, I.loc, I.cell, I.free, I.freeC, fun p hp => (List.mem_append.mp hp).elim (fun z => I.pin p (List.mem_append_left _ z)) (h p), I.hok, I.len⟩
theorem nodup_ix {N : List Str} (hN : N.Nodup) {i j : Nat} {x : Str} (a : N[i]? = some x) (b : N[j]? = some x) : i = j := by
  obtain ⟨h1, e1⟩ := List.getElem?_eq_some_iff.mp a
  obtain ⟨h2, e2⟩ := List.getElem?_eq_some_iff.mp b
  exact (List.getElem_inj hN).mp (e1.trans e2.symm)
theorem store_ok2 {M : Model} {A : Around} {E : Value → Shared → Prop} {i : Nat} {x : Str} {v : V} {u : Value} {Q : Unit → Shared → Prop} (I : Inv X pins σ H s) (hN : X.N.Nodup) (hi : X.N[i]? = some x) (hx : Loc X.env.scope x) (r : RelV v u)
    (h : ∀ s', Inv X pins (σ.set i (some v)) H s' → (∃ a, Heap.SameBut a s.heap s'.heap ∧ (a = X.env.locals ∨ X.env.cells.lookup x = some a)) → Q () s') (hf : X.fn x = true ∨ X.env.scope.names.lookup x = some .local := by first | exact .inl rfl | exact .inr rfl | assumption) : wpAny M A (storeName X.env x u) Q E s := by
  obtain ⟨m, hn, hl⟩ := id I.loc
  have hcls : (X.env.scope.kind == .class || (X.env.scope.kind == .module && X.env.locals != X.env.globals)) = false := by rw [I.ok.kind]; rfl
  have hiσ : i < σ.length := by rw [I.len]; exact (List.getElem?_eq_some_iff.mp hi).1
  have cne := I.cne
  have tracked : ∀ {a : Addr} {h' : Heap}, (∃ o, s.heap.get? a = some o ∧ H a = none) → Heap.SameBut a s.heap h' → HOk X.prog X.w H h' := fun {a h'} ha hs b ob e => by
    obtain ⟨_, _, hfree⟩ := ha
    refine (I.hok b ob e).stay (fun c w' hc q => (hs.2 c ?_).trans q) (fun _ q => q) fun _ _ q => q
    rintro rfl
    rcases hc with rfl | hc
    · rw [hfree] at e; cases e
    · rw [hfree] at hc; cases hc
  rcases hx with hk | hk
  · refine wpAny_storeName_local hk hn (fun h' hn' hs => ?_) hcls
    obtain ⟨oL, _, _, hoL, _⟩ := id hn
    refine h _ ⟨I.ok, I.os, I.bare, ⟨fun b o e n hb hx => ?_, fun b o e n hb hx => ?_, I.base.free, fun b o e hx => ?_, I.base.tups, I.base.frzs, I.base.tbls⟩, ⟨_, hn', fun j y v' e1 e2 e3 => ?_⟩, fun y c e => ?_, I.free, I.freeC, fun p hp => ?_, tracked ⟨oL, hoL, I.free⟩ hs, by simpa using I.len⟩ ⟨_, hs, .inl rfl⟩
    · exact (hs.2 b (Nat.ne_of_lt (Nat.lt_of_lt_of_le (Heap.lt_size e) I.ok.above))).trans (I.base.keep b o e n hb hx)
    · obtain ⟨sl, e1⟩ := I.base.slot b o e n hb hx
      exact ⟨sl, (hs.2 b (Nat.ne_of_lt (Nat.lt_of_lt_of_le (Heap.lt_size e) I.ok.above))).trans e1⟩
    · obtain ⟨o', e1⟩ := I.base.there b o e hx
      exact ⟨o', (hs.2 b (Nat.ne_of_lt (Nat.lt_of_lt_of_le (Heap.lt_size e) I.ok.above))).trans e1⟩
    · by_cases hj : j = i
      · subst hj
        rw [hi] at e1; cases e1
        rw [List.getElem?_set_self hiσ] at e2
        cases e2
        exact ⟨u, r, .inl ⟨hk, by simp⟩⟩
      · rw [List.getElem?_set_ne (Ne.symm hj)] at e2
        obtain ⟨u', r', q⟩ := hl j y v' e1 e2 e3
        refine ⟨u', r', ?_⟩
        rcases q with ⟨k, e⟩ | ⟨k, c, e, z⟩
        · refine .inl ⟨k, ?_⟩
          have : y ≠ x := fun e => hj (nodup_ix hN e1 (e ▸ hi))
          simp [this, e]
        · exact .inr ⟨k, c, e, z.sameBut hs (cne y c e)⟩
    · obtain ⟨w', z⟩ := I.cell y c e
      exact ⟨w', z.sameBut hs (cne y c e)⟩
    · obtain ⟨e, n, ne, nf, d⟩ := I.pin p hp
      exact ⟨(hs.2 p.1 ne).trans e, n, ne, nf, d⟩
  · have hfn : X.fn x = true := by
      rcases hf with z | z
      · exact z
      · rw [z] at hk; cases hk
    obtain ⟨c, hc⟩ := I.ok.has x (.inl hk)
    obtain ⟨w', z⟩ := I.cell x c hc
    refine wpAny_storeName_cell I.ok.kind hk hc z (fun h' hc' hs => ?_)
    obtain ⟨oc, hoc, hocd⟩ := id z
    refine h { s with heap := h' } ⟨I.ok, I.os, I.bare, ⟨fun b o e n hb hx => ?_, fun b o e n hb hx => ?_, I.base.free, fun b o e hx => ?_, I.base.tups, I.base.frzs, I.base.tbls⟩, ⟨m, hn.sameBut hs (Ne.symm (cne x c hc)), fun j y v' e1 e2 e3 => ?_⟩, fun y c' e => ?_, I.free, I.freeC, fun p hp => ?_, tracked ⟨oc, hoc, I.freeC x c hc⟩ hs, by simpa using I.len⟩ ⟨c, hs, .inr hc⟩
    · exact (hs.2 b (Nat.ne_of_lt (Nat.lt_of_lt_of_le (Heap.lt_size e) (I.ok.cab x c hfn hc)))).trans (I.base.keep b o e n hb hx)
    · obtain ⟨sl, e1⟩ := I.base.slot b o e n hb hx
      exact ⟨sl, (hs.2 b (Nat.ne_of_lt (Nat.lt_of_lt_of_le (Heap.lt_size e) (I.ok.cab x c hfn hc)))).trans e1⟩
    · obtain ⟨o', e1⟩ := I.base.there b o e hx
      exact ⟨o', (hs.2 b (Nat.ne_of_lt (Nat.lt_of_lt_of_le (Heap.lt_size e) (I.ok.cab x c hfn hc)))).trans e1⟩
    · by_cases hj : j = i
      · subst hj
        rw [hi] at e1; cases e1
        rw [List.getElem?_set_self hiσ] at e2
        cases e2
        exact ⟨u, r, .inr ⟨.inl hk, c, hc, hc'⟩⟩
      · rw [List.getElem?_set_ne (Ne.symm hj)] at e2
        obtain ⟨u', r', q⟩ := hl j y v' e1 e2 e3
        refine ⟨u', r', ?_⟩
        rcases q with q | ⟨k, c', e, z'⟩
        · exact .inl q
        · refine .inr ⟨k, c', e, z'.sameBut hs ?_⟩
          rintro rfl
          exact hj (nodup_ix hN e1 (I.ok.inj _ _ _ e hc ▸ hi))
    · by_cases hcc : c' = c
      · subst hcc; exact ⟨_, hc'⟩
      · obtain ⟨w2, z2⟩ := I.cell y c' e
        exact ⟨w2, z2.sameBut hs hcc⟩
    · obtain ⟨e, n, ne, nf, d⟩ := I.pin p hp
      refine ⟨(hs.2 p.1 ?_).trans e, n, ne, nf, d⟩
      intro q
      rw [q, hoc] at e
      have q' : oc = p.2 := Option.some.inj e
      exact d w' (by rw [← q']; exact hocd)
theorem store_ok {M : Model} {A : Around} {E : Value → Shared → Prop} {i : Nat} {x : Str} {v : V} {u : Value} {Q : Unit → Shared → Prop} (I : Inv X pins σ H s) (hN : X.N.Nodup) (hi : X.N[i]? = some x) (hx : Loc X.env.scope x) (r : RelV v u)
    (h : ∀ s', Inv X pins (σ.set i (some v)) H s' → Q () s') (hf : X.fn x = true ∨ X.env.scope.names.lookup x = some .local := by first | exact .inl rfl | exact .inr rfl | assumption) : wpAny M A (storeName X.env x u) Q E s :=
  store_ok2 I hN hi hx r (fun s' I' _ => h s' I') hf
end
abbrev XK := Value → Option Addr → Hp → Prop
abbrev St := List (Option V)
abbrev VK := V → Hp → Prop
abbrev TE := St → Hp → VK → Prop
abbrev TT := St → Hp → (Bool → Hp → Prop) → Prop
abbrev TA := St → Hp → (List V → Hp → Prop) → Prop
structure Ends where
  nx : St → Hp → Prop
  rt : VK
  bk : St → Hp → Prop := fun _ _ => False
  ct : St → Hp → Prop := fun _ _ => False
abbrev TS := Ends → St → Hp → Prop
def EP (X : Cx) (pins : List (Addr × Obj)) (σ : St) (Q : VK) (u : Value) (s' : Shared) : Prop := ∃ v H', Inv X pins σ H' s' ∧ RelV v u ∧ Q v H'
def TP (X : Cx) (pins : List (Addr × Obj)) (σ : St) (Q : Bool → Hp → Prop) (b : Bool) (s' : Shared) : Prop := ∃ H', Inv X pins σ H' s' ∧ Q b H'
def AP (X : Cx) (pins : List (Addr × Obj)) (σ : St) (Q : List V → Hp → Prop) (us : List Value) (s' : Shared) : Prop := ∃ vs H', Inv X pins σ H' s' ∧ Vals vs us ∧ Q vs H'
def SP (X : Cx) (pins : List (Addr × Obj)) (D : Ends) (f : Flow) (s' : Shared) : Prop :=
  match f with
  | .next => ∃ σ' H', Inv X pins σ' H' s' ∧ D.nx σ' H'
  | .brk => ∃ σ' H', Inv X pins σ' H' s' ∧ D.bk σ' H'
  | .cont => ∃ σ' H', Inv X pins σ' H' s' ∧ D.ct σ' H'
  | .ret u => ∃ v σ' H', Inv X pins σ' H' s' ∧ RelV v u ∧ D.rt v H'
def PE (X : Cx) (e : Expr) (t : TE) : Prop :=
  ∀ (pins : List (Addr × Obj)) (s : Shared) (σ : St) (H : Hp) (Q : VK), Inv X pins σ H s → t σ H Q → wpAny (model X.prog X.w) X.A (eval e X.env) (EP X pins σ Q) X.xe s
def PT (X : Cx) (e : Expr) (t : TT) : Prop :=
  ∀ (pins : List (Addr × Obj)) (s : Shared) (σ : St) (H : Hp) (Q : Bool → Hp → Prop), Inv X pins σ H s → t σ H Q → wpAny (model X.prog X.w) X.A (isTrue e X.env (eval e X.env)) (TP X pins σ Q) X.xe s
def PA (X : Cx) (es : List Expr) (t : TA) : Prop :=
  ∀ (pos : Pos) (pins : List (Addr × Obj)) (s : Shared) (σ : St) (H : Hp) (Q : List V → Hp → Prop), Inv X pins σ H s → t σ H Q → wpAny (model X.prog X.w) X.A (spliced (backTo pos (starEach es X.env))) (AP X pins σ Q) X.xe s
def PS (X : Cx) (st : Stmt) (t : TS) : Prop :=
  ∀ (pins : List (Addr × Obj)) (s : Shared) (σ : St) (H : Hp) (D : Ends), Inv X pins σ H s → t D σ H → wpAny (model X.prog X.w) X.A (exec st X.env) (SP X pins D) X.xe s
def PSs (X : Cx) (st : List Stmt) (t : TS) : Prop :=
  ∀ (pins : List (Addr × Obj)) (s : Shared) (σ : St) (H : Hp) (D : Ends), Inv X pins σ H s → t D σ H → wpAny (model X.prog X.w) X.A (execs st X.env) (SP X pins D) X.xe s
theorem thn {α : Type} {t : Sem α} {Q Q' : α → Shared → Prop} {M : Model} {A : Around} {E : Value → Shared → Prop} {s : Shared} (h : wpAny M A t Q E s) (hQ : ∀ a s, Q a s → Q' a s) : wpAny M A t Q' E s := wpAny_mono h hQ fun _ _ x => x
end L2
namespace L2
open PySem PySem.Spec PyProof.Rows
section
variable {X : Cx}
def tVar (i : Nat) : TE := fun σ H Q => ∃ v, σ[i]? = some (some v) ∧ Q v H
def tC (v : V) : TE := fun _ H Q => Q v H
theorem pe_var {i : Nat} {x : Str} {pos : Pos} (hN : X.N[i]? = some x) (hv : Vis X.env.scope x) (hd : (x == ("__debug__" : Str)) = false := by decide) (hcd : (x == ("__classdict__" : Str)) = false := by decide) : PE X (.Name x pos) (tVar i) := by
  intro pins s σ H Q I h
  obtain ⟨v, e, h⟩ := h
  obtain ⟨m, hn, hl⟩ := I.loc
  obtain ⟨u, r, l⟩ := hl i x v hN e hv
  have fin : EP X pins σ Q u s := ⟨v, H, I, r, h⟩
  rcases l with ⟨hk, hm⟩ | ⟨hk, c, hc, hcell⟩
  · exact wpAny_Name (wpAny_loadName_local I.ok.kind hk hn hm fin) hd
  · rcases hk with hk | hk
    · exact wpAny_Name (wpAny_loadName_cell I.ok.kind hk hc hcell fin) hd
    · exact wpAny_Name (wpAny_loadName_free I.ok.kind hk hc hcell fin hcd) hd
theorem pe_int {i j pos} : PE X (.Constant (.int i) j pos) (tC (.int i)) := fun _ _ _ H _ I h => wpAny_Constant_int ⟨.int i, H, I.tok _, ⟨_, rfl⟩, h⟩
theorem pe_bl {b j pos} : PE X (.Constant (.bool b) j pos) (tC (.bl b)) := fun _ _ _ H _ I h => Constant_bool ⟨.bl b, H, I, rfl, h⟩
theorem pe_str {x j pos} : PE X (.Constant (.str x) j pos) (tC (.str x)) := fun _ _ _ H _ I h => Calls.Constant_str ⟨.str x, H, I.tok _, ⟨_, rfl⟩, h⟩
def Gl (X : Cx) (x : Str) : Prop := X.env.kindOf x = some .globalImplicit
theorem ld_glob {E : Value → Shared → Prop} {pins : List (Addr × Obj)} {s : Shared} {σ : St} {H : Hp} {x : Str} {u : Value} {pos : Pos} {Q : Value → Shared → Prop} (I : Inv X pins σ H s) (hg : Gl X x) (hm : X.mg x = some u) (h : Q u s)
    (hd : (x == ("__debug__" : Str)) = false := by decide) : wpAny (model X.prog X.w) X.A (eval (.Name x pos) X.env) Q E s :=
  Calls.Name_function_global I.ok.kind hg (Calls.loadGlobal_global (by rw [I.ok.glob]; exact I.mod.glob.keeps I.bk) hm h) hd
theorem ld_blt {E : Value → Shared → Prop} {pins : List (Addr × Obj)} {s : Shared} {σ : St} {H : Hp} {x : Str} {u : Value} {pos : Pos} {Q : Value → Shared → Prop} (I : Inv X pins σ H s) (hg : Gl X x) (hm : X.mg x = none) (hv : bootBuiltins x = some u) (h : Q u s)
    (hn : x ≠ "__name__" := by decide) (hd : (x == ("__debug__" : Str)) = false := by decide) : wpAny (model X.prog X.w) X.A (eval (.Name x pos) X.env) Q E s := by
  obtain ⟨mb, h1, h2⟩ := I.mod.blt
  exact Calls.Name_function_global I.ok.kind hg (Calls.loadGlobal_builtin (by rw [I.ok.glob]; exact I.mod.glob.keeps I.bk) hm (by rw [I.ok.blt]; exact h1.keeps I.bk) ((h2 x hn).trans hv) h) hd
theorem pe_glob {x : Str} {v : V} {u : Value} {pos : Pos} (hg : Gl X x) (hm : X.mg x = some u) (r : RelV v u) (hd : (x == ("__debug__" : Str)) = false := by decide) : PE X (.Name x pos) (tC v) :=
  fun _ _ _ H _ I h => ld_glob I hg hm ⟨v, H, I, r, h⟩ hd
theorem pe_bltn {x : Str} {v : V} {u : Value} {pos : Pos} (hg : Gl X x) (hm : X.mg x = none) (hv : bootBuiltins x = some u) (r : RelV v u) (hn : x ≠ "__name__" := by decide) (hd : (x == ("__debug__" : Str)) = false := by decide) : PE X (.Name x pos) (tC v) :=
  fun _ _ _ H _ I h => ld_blt I hg hm hv ⟨v, H, I, r, h⟩ hn hd
variable {a b : Expr} {ta tb : TE} {pos : Pos}
def tB (t : TE) : TT := fun σ H Q => t σ H fun x H1 => ∃ c, x = .bl c ∧ Q c H1
theorem pt_val {e : Expr} {t : TE} (h : PE X e t) (he : ∀ whole, isTrue e X.env whole = (do let v ← whole; standAt e.pos; holding [v] (truthy v)) := by intro _; rfl) : PT X e (tB t) := by
  intro pins s σ H Q I hw
  refine isTrue_plain (thn (h pins s σ H _ I hw) fun v s1 ⟨x, H1, I1, r1, q1⟩ => ?_) (he _)
  obtain ⟨d, rfl, q⟩ := q1
  cases r1
  exact wpAny_truthy_bool ⟨H1, I1, q⟩
variable {tA tB' : TT} {rest : List Expr}
def tNot (t : TT) : TT := fun σ H Q => t σ H fun c H1 => Q (!c) H1
theorem pt_not (ha : PT X a tA) : PT X (.UnaryOp .Not a pos) (tNot tA) := by
  intro pins s σ H Q I h
  exact isTrue_not (ha pins s σ H (fun c H1 => Q (!c) H1) I h)
def tAndV (ta tb : TE) : TE := fun σ H Q => ta σ H fun x H1 => ∃ c, x = .bl c ∧ if c = true then tb σ H1 Q else Q (.bl false) H1
theorem pe_one {op} {t : TE} (h : PE X a t) : PE X (.BoolOp op [a] pos) t := fun pins s σ H Q I hw => BoolOp_one (h pins s σ H Q I hw)
theorem pe_and (ha : PE X a ta) (hb : PE X (.BoolOp .And (b :: rest) pos) tb) : PE X (.BoolOp .And (a :: b :: rest) pos) (tAndV ta tb) := by
  intro pins s σ H Q I h
  refine BoolOp_and (thn (ha pins s σ H _ I h) fun v s1 zz => ?_)
  obtain ⟨x, H1, I1, r1, q1⟩ := zz
  obtain ⟨c, rfl, q1⟩ := q1
  cases r1
  refine wpAny_truthy_bool ?_
  cases c with
  | true => exact hb pins s1 σ H1 Q I1 q1
  | false => exact ⟨.bl false, H1, I1, rfl, q1⟩
end
end L2
namespace L2
open PySem PySem.Spec PyProof.Rows
def SqL (K : PySem.W.Frag) (H : Hp) (a : Addr) (xs : List V) : Prop :=
  Rd H a (.lst xs) ∨
    ∃ (o : Obj) (its : Array Value) (n : Nat), K.lookup a = some o ∧ o.cls = .type "list" ∧ o.dict = none ∧ o.data = .seq its n ∧ its.size ≤ sizeLine ∧ Vals xs its.toList
def SqT (K : PySem.W.Frag) (H : Hp) (a : Addr) (xs : List V) : Prop :=
  Rd H a (.tup xs) ∨
    ∃ (o : Obj) (its : Array Value) (n : Nat), K.lookup a = some o ∧ o.cls = .type "tuple" ∧ o.data = .seq its n ∧ its.size ≤ sizeLine ∧ Vals xs its.toList
def absV : Value → Option V
  | .none => some .non
  | .bool b => some (.bl b)
  | .int i _ => some (.int i)
  | .str x _ => some (.str x)
  | .bytes b _ => some (.byt b)
  | .float b _ => some (.flt b)
  | .ref a => some (.ref a)
  | .type n => some (.ty n)
  | _ => none
theorem RelV.abs {x : V} {u : Value} (r : RelV x u) : absV u = some x := by
  cases x with
  | non => cases r; rfl
  | bl _ => cases r; rfl
  | int _ => obtain ⟨t, rfl⟩ := r; rfl
  | str _ => obtain ⟨t, rfl⟩ := r; rfl
  | byt _ => obtain ⟨t, rfl⟩ := r; rfl
  | flt _ => obtain ⟨t, rfl⟩ := r; rfl
  | ref _ => cases r; rfl
  | ty _ => cases r; rfl
theorem RelV.inj {x y : V} {u : Value} (r : RelV x u) (q : RelV y u) : x = y := Option.some.inj (r.abs.symm.trans q.abs)
theorem Vals.inj : ∀ {xs ys : List V} {us : List Value}, Vals xs us → Vals ys us → xs = ys
  | _, _, _, .nil, .nil => rfl
  | _, _, _, .cons r t, .cons r' t' => by rw [r.inj r', Vals.inj t t']
section
variable {X : Cx} {pins : List (Addr × Obj)} {σ : St} {H : Hp} {s : Shared} {a : Addr} {xs ys : List V}
theorem SqL.of {K : PySem.W.Frag} (h : H a = some (.lst xs)) : SqL K H a xs := .inl (.inl h)
theorem SqT.of {K : PySem.W.Frag} (h : H a = some (.tup xs)) : SqT K H a xs := .inl (.inl h)
theorem Inv.list (I : Inv X pins σ H s) (h : SqL X.K H a xs) : ∃ its : List Value, Vals xs its ∧ PlainL s.heap a its.toArray ∧ xs.length ≤ sizeLine := by
  rcases h with h | ⟨o, its, n, hk, hc, hd, hs, hz, r⟩
  · obtain ⟨z, its, n, r, e⟩ := h.ok I.hok
    exact ⟨its, r, ⟨_, n, e, rfl, rfl, rfl⟩, z⟩
  · refine ⟨its.toList, r, ⟨o, n, I.kIn a o hk, hc, hd, by simpa using hs⟩, ?_⟩
    have e := r.length
    simp only [Array.length_toList] at e
    omega
theorem Inv.tuple (I : Inv X pins σ H s) (h : SqT X.K H a xs) : ∃ its : List Value, Vals xs its ∧ IsTup s.heap a its.toArray ∧ xs.length ≤ sizeLine := by
  rcases h with h | ⟨o, its, n, hk, hc, hs, hz, r⟩
  · obtain ⟨z, its, r, p⟩ := h.ok I.hok
    exact ⟨its, r, p, z⟩
  · refine ⟨its.toList, r, ⟨o, I.kIn a o hk, hc, n, by simpa using hs⟩, ?_⟩
    have e := r.length
    simp only [Array.length_toList] at e
    omega
end
abbrev Cx.wish (X : Cx) (E : Value → Shared → Prop) : Cx := { X with xe := E }
abbrev Cx.nox (X : Cx) : Cx := X.wish fun _ _ => False
theorem Cx.Ok.wish {X : Cx} (ok : X.Ok) (E : Value → Shared → Prop) : (X.wish E).Ok :=
  ⟨ok.mod, ok.kind, ok.glob, ok.blt, ok.above, ok.inj, ok.has, ok.cab, ok.hd, ok.frames, ok.stk, ok.exf, ok.bs, ok.bsz, ok.noex, ok.exfs, ok.funs, ok.frf⟩
theorem Cx.Ok.unwish {X : Cx} {E : Value → Shared → Prop} (ok : (X.wish E).Ok) : X.Ok :=
  ⟨ok.mod, ok.kind, ok.glob, ok.blt, ok.above, ok.inj, ok.has, ok.cab, ok.hd, ok.frames, ok.stk, ok.exf, ok.bs, ok.bsz, ok.noex, ok.exfs, ok.funs, ok.frf⟩
section
variable {X : Cx} {pins : List (Addr × Obj)} {σ : St} {H : Hp} {s : Shared} {E : Value → Shared → Prop}
theorem Inv.wish (I : Inv X pins σ H s) (E : Value → Shared → Prop) : Inv (X.wish E) pins σ H s := ⟨I.ok.wish E, I.os, I.bare, I.base, I.loc, I.cell, I.free, I.freeC, I.pin, I.hok, I.len⟩
theorem Inv.unwish (I : Inv (X.wish E) pins σ H s) : Inv X pins σ H s := ⟨I.ok.unwish, I.os, I.bare, I.base, I.loc, I.cell, I.free, I.freeC, I.pin, I.hok, I.len⟩
theorem SP.unwish {D : Ends} {f : Flow} {s' : Shared} (h : SP (X.wish E) pins D f s') : SP X pins D f s' := by
  cases f with
  | next => obtain ⟨σ', H', I, q⟩ := h; exact ⟨σ', H', I.unwish, q⟩
  | brk => obtain ⟨σ', H', I, q⟩ := h; exact ⟨σ', H', I.unwish, q⟩
  | cont => obtain ⟨σ', H', I, q⟩ := h; exact ⟨σ', H', I.unwish, q⟩
  | ret u => obtain ⟨v, σ', H', I, r, q⟩ := h; exact ⟨v, σ', H', I.unwish, r, q⟩
theorem PE.nox {e : Expr} {t : TE} (h : PE X.nox e t) : PE X e t := fun pins s σ H Q I hw =>
  wpAny_mono (h pins s σ H Q (I.wish _) hw) (fun _ _ zz => (by obtain ⟨v, H', I', r, q⟩ := zz; exact ⟨v, H', I'.unwish, r, q⟩)) fun _ _ z => False.elim z
theorem PT.nox {e : Expr} {t : TT} (h : PT X.nox e t) : PT X e t := fun pins s σ H Q I hw =>
  wpAny_mono (h pins s σ H Q (I.wish _) hw) (fun _ _ ⟨H', I', q⟩ => ⟨H', I'.unwish, q⟩) fun _ _ z => False.elim z
theorem PSs.nox {st : List Stmt} {t : TS} (h : PSs X.nox st t) : PSs X st t := fun pins s σ H D I hw =>
  wpAny_mono (h pins s σ H D (I.wish _) hw) (fun _ _ q => q.unwish) fun _ _ z => False.elim z
end
section
variable {X : Cx} {st : Stmt} {rest : List Stmt} {t u : TS} {e : Expr} {te : TE} {pos : Pos}
def tNext : TS := fun D σ H => D.nx σ H
def tSeq (t u : TS) : TS := fun D σ H => t { D with nx := u D } σ H
theorem pss_nil : PSs X [] tNext := fun _ _ σ H _ I h => wpAny_execs_nil ⟨σ, H, I, h⟩
theorem pss_cons (h1 : PS X st t) (h2 : PSs X rest u) : PSs X (st :: rest) (tSeq t u) := by
  intro pins s σ H D I h
  refine wpAny_execs_cons (thn (h1 pins s σ H { D with nx := u D } I h) fun f s1 q => ?_)
  cases f with
  | next =>
    obtain ⟨σ', H', I', q⟩ := q
    exact h2 pins s1 σ' H' D I' q
  | ret v => exact q
  | brk => exact q
  | cont => exact q
theorem pss_one (h1 : PS X st t) : PSs X [st] t := by
  intro pins s σ H D I h
  refine wpAny_execs_cons (thn (h1 pins s σ H D I h) fun f s1 q => ?_)
  cases f with
  | next => exact wpAny_execs_nil q
  | ret v => exact q
  | brk => exact q
  | cont => exact q
theorem Inv.quiet {pins : List (Addr × Obj)} {σ : St} {H : Hp} {s : Shared} (I : Inv X pins σ H s) : interactive X.env = false := by simp [interactive, I.ok.kind]
def tDrop (te : TE) : TS := fun D σ H => te σ H fun _ H1 => D.nx σ H1
theorem ps_expr (he : PE X e te) (hs : swapsWith e none pos.line X.env = pure false := by rfl) : PS X (.Expr e pos) (tDrop te) := by
  intro pins s σ H D I h
  exact wpAny_Expr_any (thn (he pins s σ H _ I h) fun v s1 zz => (by obtain ⟨x, H1, I1, r1, q1⟩ := zz; exact ⟨σ, H1, I1, q1⟩)) I.quiet hs
def tRet (te : TE) : TS := fun D σ H => te σ H D.rt
theorem ps_ret (he : PE X e te) : PS X (.Return (some e) pos) (tRet te) := by
  intro pins s σ H D I h
  exact wpAny_Return_some (thn (he pins s σ H _ I h) fun v s1 zz => (by obtain ⟨x, H1, I1, r1, q1⟩ := zz; exact ⟨x, σ, H1, I1, r1, q1⟩))
def tIfS (c : TT) (t u : TS) : TS := fun D σ H => c σ H fun b H1 => if b = true then t D σ H1 else u D σ H1
theorem ps_if {c : Expr} {a b : List Stmt} {tc : TT} (hc : PT X c tc) (ha : PSs X a t) (hb : PSs X b u) : PS X (.If c a b pos) (tIfS tc t u) := by
  intro pins s σ H D I h
  refine wpAny_If (thn (hc pins s σ H _ I h) fun d s1 zz => ?_)
  obtain ⟨H1, I1, q1⟩ := zz
  cases d with
  | true => exact ha pins s1 σ H1 D I1 q1
  | false => exact hb pins s1 σ H1 D I1 q1
end
abbrev TG := V → St → Hp → (St → Hp → Prop) → Prop
abbrev TGs := List V → St → Hp → (St → Hp → Prop) → Prop
def PG (X : Cx) (target : Expr) (t : TG) : Prop :=
  ∀ (pins : List (Addr × Obj)) (s : Shared) (σ : St) (H : Hp) (v : V) (u : Value) (Q : St → Hp → Prop), Inv X pins σ H s → RelV v u → t v σ H Q →
    wpAny (model X.prog X.w) X.A (assign target X.env u) (fun _ s' => ∃ σ' H', Inv X pins σ' H' s' ∧ Q σ' H') X.xe s
def PGs (X : Cx) (ts : List Expr) (t : TGs) : Prop :=
  ∀ (pins : List (Addr × Obj)) (s : Shared) (σ : St) (H : Hp) (vs : List V) (us : List Value) (Q : St → Hp → Prop), Inv X pins σ H s → Vals vs us → t vs σ H Q →
    wpAny (model X.prog X.w) X.A (assignInOrder ((assignEach ts X.env).map (·.2)) us) (fun _ s' => ∃ σ' H', Inv X pins σ' H' s' ∧ Q σ' H') X.xe s
section
variable {X : Cx} {pos : Pos}
def gName (i : Nat) : TG := fun v σ H Q => Q (σ.set i (some v)) H
theorem pg_name {i : Nat} {x : Str} (hN : X.N.Nodup) (hi : X.N[i]? = some x) (hx : Loc X.env.scope x) (hf : X.fn x = true ∨ X.env.scope.names.lookup x = some .local := by first | exact .inl rfl | exact .inr rfl | assumption) : PG X (.Name x pos) (gName i) := by
  intro pins s σ H v u Q I r h
  exact wpAny_assign_Name (store_ok I hN hi hx r (fun s' I' => ⟨_, H, I', h⟩) hf)
def tAsg (te : TE) (g : TG) : TS := fun D σ H => te σ H fun x H1 => g x σ H1 D.nx
theorem ps_set {i : Nat} {x : Str} {e : Expr} {te : TE} {pos' : Pos} (hN : X.N.Nodup) (hi : X.N[i]? = some x) (hx : Loc X.env.scope x) (he : PE X e te) (hs : swapsWith e (some (.Name x pos')) pos.line X.env = pure false := by rfl) (hf : X.fn x = true ∨ X.env.scope.names.lookup x = some .local := by first | exact .inl rfl | exact .inr rfl | assumption) :
    PS X (.Assign [.Name x pos'] e pos) (tAsg te (gName i)) := by
  intro pins s σ H D I h
  refine wpAny_Assign_Name (thn (he pins s σ H _ I h) fun v s1 ⟨y, H1, I1, r1, q1⟩ => ?_) hs
  exact store_ok I1 hN hi hx r1 (fun s2 I2 => ⟨_, H1, I2, q1⟩) hf
end
structure It where
  go : Nat → Hp → Prop
  yld : Nat → Hp → V → Hp → Prop
  stop : Nat → Hp → Prop
def FpOk (X : Cx) (pins : List (Addr × Obj)) (H : Hp) (b : Addr) : Prop :=
  H b = none ∧ b ≠ X.env.locals ∧ b ∉ X.fs ∧ (b ∈ X.ex ∨ X.s₀.heap.objs.size ≤ b) ∧ (∀ x c, X.env.cells.lookup x = some c → c ≠ b) ∧ ∀ p ∈ X.pn ++ pins, p.1 ≠ b
theorem Inv.fpOk {X : Cx} {pins : List (Addr × Obj)} {σ : St} {H H' : Hp} {s : Shared} {b : Addr} (I : Inv X pins σ H s) (hb : s.heap.objs.size ≤ b) (hn : H' b = none) : FpOk X pins H' b := by
  refine ⟨hn, Nat.ne_of_gt (Nat.lt_of_lt_of_le I.lt hb), I.nofs hb, .inr (Nat.le_trans I.sz hb), fun x c e z => ?_, fun p hp z => ?_⟩
  · obtain ⟨v, q⟩ := I.cell x c e
    exact absurd (Nat.lt_of_lt_of_le q.lt (by rw [z]; exact hb)) (Nat.lt_irrefl _)
  · exact absurd (Nat.lt_of_lt_of_le (Heap.lt_size (I.pin p hp).1) (by rw [z]; exact hb)) (Nat.lt_irrefl _)
structure Turn (P : Program) (w : World) (K : PySem.W.Frag) (tg : Expr) (J : It) (fp : List Addr) (it : Addr) (tn : Nat → Heap → Prop) : Prop where
  mem : it ∈ fp
  obj : ∀ i h, tn i h → ∀ b ∈ fp, ∃ o, h.get? b = some o ∧ ∀ v, o.data ≠ .cell v
  keep : ∀ i h h', tn i h → (∀ b ∈ fp, ∀ o, h.get? b = some o → h'.get? b = some o) → tn i h'
  item : ∀ (X : Cx), X.prog = P → X.w = w → X.K = K → X.calm = true → ∀ (i : Nat) (pins : List (Addr × Obj)) (s : Shared) (σ : St) (H : Hp) (E : Value → Shared → Prop), Inv X pins σ H s → (∀ b ∈ fp, FpOk X pins H b) → tn i s.heap → J.go i H →
    wpAny (model P w) X.A (pyNext (.ref it)) (fun r s1 => ∃ u, r = some u ∧
      wpAny (model P w) X.A (letOwnedTupleGo tg (.ref it) u) (fun _ s2 => ∃ x H', Inv X pins σ H' s2 ∧ RelV x u ∧ J.yld i H x H' ∧ tn (i + 1) s2.heap ∧ ∀ b ∈ fp, H' b = none) E s1) E s
  done : ∀ (X : Cx), X.prog = P → X.w = w → X.K = K → X.calm = true → ∀ (i : Nat) (pins : List (Addr × Obj)) (s : Shared) (σ : St) (H : Hp) (E : Value → Shared → Prop), Inv X pins σ H s → (∀ b ∈ fp, FpOk X pins H b) → tn i s.heap → J.stop i H →
    wpAny (model P w) X.A (pyNext (.ref it)) (fun r s1 => r = none ∧ Inv X pins σ H s1) E s
  self : ∀ (A : Around) (i : Nat) (s : Shared) (Q : Value → Shared → Prop) (E : Value → Shared → Prop), tn i s.heap → Q (.ref it) s → wpAny (model P w) A (pyIter (.ref it)) Q E s
abbrev TI := St → Hp → (It → Hp → Prop) → Prop
def PIE (X : Cx) (pins : List (Addr × Obj)) (σ : St) (tg : Expr) (R : It → Hp → Prop) (itv : Value) (s2 : Shared) : Prop :=
  ∃ (it : Addr) (fp : List Addr) (tn : Nat → Heap → Prop) (J : It) (H' : Hp), itv = .ref it ∧ Inv X pins σ H' s2 ∧ Turn X.prog X.w X.K tg J fp it tn ∧ tn 0 s2.heap ∧ (∀ b ∈ fp, FpOk X pins H' b) ∧ R J H'
def PI (X : Cx) (tg iter : Expr) (wi : TI) : Prop :=
  ∀ (pins : List (Addr × Obj)) (s : Shared) (σ : St) (H : Hp) (R : It → Hp → Prop), Inv X pins σ H s → wi σ H R →
    wpAny (model X.prog X.w) X.A (eval iter X.env) (fun v s1 => wpAny (model X.prog X.w) X.A (pyIter v) (PIE X pins σ tg R) X.xe s1) X.xe s
theorem go_of {M : Model} {A : Around} {E : Value → Shared → Prop} {s : Shared} {tg : Expr} {it : Addr} {u : Value} {o : Obj} {n : String} {vs : Array Value} {Q : Unit → Shared → Prop} (ho : s.heap.get? it = some o) (hc : o.cls = .type n) (hd : o.data = .fields vs)
    (hn : ["enumerate", "zip", "dict_itemiterator", "dict_reverseitemiterator", "odict_iterator", "itertools.zip_longest", "itertools.pairwise"].contains n = false) (hQ : Q () s) : wpAny M A (letOwnedTupleGo tg (.ref it) u) Q E s := by
  unfold letOwnedTupleGo
  cases tg <;> first
    | exact wpAny_pure hQ
    | (cases u <;> first
        | exact wpAny_pure hQ
        | (refine wpAny_bind (wpAny_load ho ?_)
           rw [hc, hd]
           show wpAny M A (if (["enumerate", "zip", "dict_itemiterator", "dict_reverseitemiterator", "odict_iterator", "itertools.zip_longest", "itertools.pairwise"].contains n && vs[0]? == some (rawInt _)) = true then _ else _) Q E s
           rw [if_neg (by intro h; rw [hn, Bool.false_and] at h; cases h)]
           exact wpAny_pure hQ))
def Itr (lo : Int) (n : Nat) : It := ⟨fun i _ => i < n, fun i H x H' => H' = H ∧ x = .int (lo + i), fun i _ => n ≤ i⟩
theorem turn_range {P : Program} {w : World} {K : PySem.W.Frag} {tg : Expr} (it : Addr) (lo : Int) (n : Nat) : Turn P w K tg (Itr lo n) [it] it (fun i h => IsRangeIter h it (lo + (i : Nat) * 1) ((n : Int) - (i : Nat)) 1) where
  mem := by simp
  obj := fun i h st b hb => by
    have e : b = it := by simpa using hb
    subst e
    exact ⟨_, st, fun v z => by
      have z' : Data.fields _ = Data.cell v := z
      cases z'⟩
  keep := fun i h h' st k => k it (by simp) _ st
  item := by
    intro X hP hw hK hc i pins s σ H E I hf st hg
    subst hP hw hK
    obtain ⟨f0, f1, f2, f3, f4, f5⟩ := hf it (by simp)
    have W := Walks.range (prog := X.prog) (w := X.w) (I.ok.hd hc) it lo 1 n
    refine W.item i s _ _ hg st fun v h' tk hv st' kk => ?_
    obtain ⟨t, rfl⟩ := hv
    have I1 : Inv X pins σ H { s with heap := h', toks := tk } := I.turned (fun b o hb e => kk b o (by simpa using hb) e) f0 f1 f3 f4 f5
    refine ⟨_, rfl, go_of (s := { s with heap := h', toks := tk }) (n := "range_iterator") st' rfl rfl (by decide) ⟨.int (lo + i), H, I1, ⟨t, ?_⟩, ⟨rfl, rfl⟩, st', fun b hb => (hf b hb).1⟩⟩
    rw [Int.mul_one]
  done := by
    intro X hP hw hK hc i pins s σ H E I hf st hg
    subst hP hw hK
    obtain ⟨f0, f1, f2, f3, f4, f5⟩ := hf it (by simp)
    exact wpAny_pyNext_range_end (I.ok.hd hc) st (by have : n ≤ i := hg; omega) fun h' eb => ⟨rfl, I.turned (t' := s.toks) (fun b o hb e => eb b o hb e) f0 f1 f3 f4 f5⟩
  self := fun _ _ _ _ _ st h => wpAny_pyIter_rangeiter st h
end L2
namespace L2
open PySem PySem.Spec PyProof.Rows
section
variable {X : Cx} {tg : Expr}
theorem range_it {pins : List (Addr × Obj)} {σ : St} {H : Hp} {s : Shared} {R : It → Hp → Prop} {E : Value → Shared → Prop} {lo hi : Int} {t u v : Tok} {tk : Nat} (I : Inv X pins σ H s) (h1 : -(2 ^ 62) ≤ lo) (h2 : lo < 2 ^ 62) (h3 : -(2 ^ 62) ≤ hi) (h4 : hi < 2 ^ 62)
    (q : R (Itr lo (hi - lo).toNat) H) : wpAny (model X.prog X.w) X.A (pyIter (.ref s.heap.objs.size)) (PIE X pins σ tg R) E { s with heap := s.heap.push { cls := .type "range", data := .fields #[.int lo t, .int hi u, .int 1 v] }, toks := tk } := by
  refine wpAny_pyIter_range (IsRange.new ..) (small_one h1 h2 h3 h4) ?_
  have I1 : Inv X pins σ H { s with heap := s.heap.push { cls := .type "range", data := .fields #[.int lo t, .int hi u, .int 1 v] }, toks := tk } := I.kept fun b o e => Heap.get?_push_of_some _ e
  refine ⟨(s.heap.push { cls := .type "range", data := .fields #[.int lo t, .int hi u, .int 1 v] }).objs.size, [(s.heap.push { cls := .type "range", data := .fields #[.int lo t, .int hi u, .int 1 v] }).objs.size], _, _, H, rfl,
    I1.kept (t' := tk) fun b o e => Heap.get?_push_of_some _ e, turn_range _ lo (hi - lo).toNat, ?_, fun b hb => ?_, q⟩
  · have e1 : lo + ((0 : Nat) : Int) * 1 = lo := by simp
    have e2 : (((hi - lo).toNat : Nat) : Int) - ((0 : Nat) : Int) = Builtin.Range.rangeSize lo hi 1 := by rw [rangeSize_one]; split <;> omega
    show IsRangeIter _ _ (lo + ((0 : Nat) : Int) * 1) ((((hi - lo).toNat : Nat) : Int) - ((0 : Nat) : Int)) 1
    rw [e1, e2]
    exact Heap.get?_push_size _ rfl
  · have e : b = (s.heap.push { cls := .type "range", data := .fields #[.int lo t, .int hi u, .int 1 v] }).objs.size := by simpa using hb
    subst e
    exact I1.fpOk (Nat.le_refl _) (I1.hok.fresh (Nat.le_refl _))
def iRng1 (ta : TA) : TI := fun σ H R => ta σ H fun vs H1 => ∃ j : Int, vs = [.int j] ∧ -(2 ^ 62) ≤ j ∧ j < 2 ^ 62 ∧ R (Itr 0 j.toNat) H1
theorem pi_range1 {a : Expr} {ta : TA} {p pos : Pos} (hg : Gl X "range") (hm : X.mg "range" = none) (ha : PA X [a] ta) (hs : starEach [a] X.env = [(false, eval a X.env)] := by rfl) : PI X tg (.Call (.Name "range" p) [a] [] pos) (iRng1 ta) := by
  intro pins s σ H R I h
  refine Call_ (ld_blt I hg hm boot_range (PyProof.Rows.callWith_type1 (thn (ha pos pins s σ H _ I h) fun us s1 ⟨vs, H1, I1, r1, q1⟩ => ?_) hs rfl))
  obtain ⟨j, e, q1, q2, q⟩ := q1
  subst e
  cases r1 with
  | cons r rr =>
    cases rr
    obtain ⟨t, rfl⟩ := r
    exact call_range_1 (range_it I1 (by omega) (by omega) q1 q2 (by simpa using q))
def tFor (wi : TI) (g : TG) (tb : TS) : TS := fun D σ H => wi σ H fun J H1 => ∃ W : Nat → Nat → St → Hp → Prop, (∃ m, W 0 m σ H1) ∧ ∀ i m σ H, W i m σ H →
  (J.stop i H ∧ D.nx σ H) ∨ (J.go i H ∧ ∃ N : St → Hp → Prop, (∀ σ' H', N σ' H' → ∃ m', m' < m ∧ W (i + 1) m' σ' H') ∧ ∀ x H', J.yld i H x H' → g x σ H' fun σ2 H2 => tb { D with nx := N, ct := N, bk := D.nx } σ2 H2)
def pinsAt (fp : List Addr) (h : Heap) : List (Addr × Obj) := fp.filterMap fun b => (h.get? b).map fun o => (b, o)
theorem mem_pinsAt {fp : List Addr} {h : Heap} {b : Addr} {o : Obj} (hb : b ∈ fp) (e : h.get? b = some o) : (b, o) ∈ pinsAt fp h := List.mem_filterMap.mpr ⟨b, hb, by rw [e]; rfl⟩
theorem of_pinsAt {fp : List Addr} {h : Heap} {p : Addr × Obj} (hp : p ∈ pinsAt fp h) : p.1 ∈ fp ∧ h.get? p.1 = some p.2 := by
  obtain ⟨b, hb, e⟩ := List.mem_filterMap.mp hp
  cases q : h.get? b with
  | none => rw [q] at e; cases e
  | some o =>
    rw [q] at e
    have e' : (b, o) = p := Option.some.inj e
    subst e'
    exact ⟨hb, q⟩
theorem Inv.pinned {pins : List (Addr × Obj)} {σ : St} {H : Hp} {s : Shared} {fp : List Addr} (I : Inv X pins σ H s) (hf : ∀ b ∈ fp, FpOk X pins H b) (ho : ∀ b ∈ fp, ∃ o, s.heap.get? b = some o ∧ ∀ v, o.data ≠ .cell v) : Inv X (pins ++ pinsAt fp s.heap) σ H s :=
  I.pins_of fun p hp => (List.mem_append.mp hp).elim (fun z => I.pin p (List.mem_append_right _ z)) fun z => by
    obtain ⟨hb, e⟩ := of_pinsAt z
    obtain ⟨f0, f1, f2, _⟩ := hf p.1 hb
    obtain ⟨o, e', d⟩ := ho p.1 hb
    rw [e] at e'; cases e'
    exact ⟨e, f0, f1, f2, d⟩
theorem Inv.unpinned {pins pl : List (Addr × Obj)} {σ : St} {H : Hp} {s : Shared} (I : Inv X (pins ++ pl) σ H s) : Inv X pins σ H s := I.pins_of fun p hp => I.pin p (List.mem_append_right _ (List.mem_append_left _ hp))
theorem ps_for {iter : Expr} {body : List Stmt} {wi : TI} {g : TG} {tb : TS} {pos : Pos} (hp : PassesOwn (model X.prog X.w) X.A X.env X.xe) (hc : X.calm = true) (hi : PI X tg iter wi) (hg : PG X tg g) (hb : PSs X body tb)
    (hs : ∀ x, foldedSetIterable iter X.env x = pure x := by intro _; rfl) : PS X (.For tg iter body [] pos) (tFor wi g tb) := by
  intro pins s σ H D I h
  refine wpAny_For (thn (hi pins s σ H _ I h) fun v s1 h1 => thn h1 fun itv s2 h2 => ?_) hs
  obtain ⟨it, fp, tn, J, H2, e, I2, T, st2, f2, W, ⟨m0, w0⟩, turn⟩ := h2
  subst e
  -- what stays true of the iterator's objects through the loop
  have stat : ∀ {H' : Hp}, (∀ b ∈ fp, H' b = none) → ∀ b ∈ fp, FpOk X pins H' b := fun hn b hb => ⟨hn b hb, (f2 b hb).2⟩
  refine codeAny_forLoop_any (fun n s' => ∃ i σ' H', Inv X pins σ' H' s' ∧ tn i s'.heap ∧ (∀ b ∈ fp, H' b = none) ∧ W i n σ' H') ?_ m0 ⟨0, σ, H2, I2, st2, fun b hb => (f2 b hb).1, w0⟩
  rintro n s3 ⟨i, σ3, H3, I3, st3, fr3, w3⟩
  rcases turn i n σ3 H3 w3 with ⟨stop, qn⟩ | ⟨go, N, hN, step⟩
  · refine wpAny_passesOwn hp (thn (T.done X rfl rfl rfl hc i pins s3 σ3 H3 X.xe I3 (stat fr3) st3 stop) fun r s4 zz => ?_)
    obtain ⟨hr, I4⟩ := zz
    subst hr
    exact wpAny_execs_nil ⟨σ3, H3, I4, qn⟩
  · refine wpAny_passesOwn hp (thn (T.item X rfl rfl rfl hc i pins s3 σ3 H3 X.xe I3 (stat fr3) st3 go) fun r s4 zz => ?_)
    obtain ⟨u, hr, h4⟩ := zz
    subst hr
    refine wpAny_passesOwn hp (thn h4 fun _ s5 zz => ?_)
    obtain ⟨x, H5, I5, r5, y5, st5, fr5⟩ := zz
    have I5' := I5.pinned (stat fr5) (T.obj _ _ st5)
    refine wpAny_passesOwn hp (thn (hg _ s5 σ3 H5 x u _ I5' r5 (step x H5 y5)) fun _ s6 zz => ?_)
    obtain ⟨σ6, H6, I6, q6⟩ := zz
    refine wpAny_passesOwn hp (thn (hb _ s6 σ6 H6 _ I6 q6) fun f s7 q7 => ?_)
    have again : ∀ {σ7 : St} {H7 : Hp}, Inv X (pins ++ pinsAt fp s5.heap) σ7 H7 s7 → N σ7 H7 → ∃ m, m < n ∧ ∃ i σ' H', Inv X pins σ' H' s7 ∧ tn i s7.heap ∧ (∀ b ∈ fp, H' b = none) ∧ W i m σ' H' := fun {σ7 H7} I7 n7 => by
      obtain ⟨m', hm, w7⟩ := hN σ7 H7 n7
      refine ⟨m', hm, i + 1, σ7, H7, I7.unpinned, T.keep _ _ _ st5 fun b hb o e => (I7.pin (b, o) (List.mem_append_right _ (List.mem_append_right _ (mem_pinsAt hb e)))).1, fun b hb => ?_, w7⟩
      obtain ⟨o, e, d⟩ := T.obj _ _ st5 b hb
      exact (I7.pin (b, o) (List.mem_append_right _ (List.mem_append_right _ (mem_pinsAt hb e)))).2.1
    cases f with
    | next => obtain ⟨σ7, H7, I7, n7⟩ := q7; exact again I7 n7
    | cont => obtain ⟨σ7, H7, I7, n7⟩ := q7; exact again I7 n7
    | brk => obtain ⟨σ7, H7, I7, q7⟩ := q7; exact ⟨σ7, H7, I7.unpinned, q7⟩
    | ret v => obtain ⟨x7, σ7, H7, I7, r7, q7⟩ := q7; exact ⟨x7, σ7, H7, I7.unpinned, r7, q7⟩
end
theorem for_range {lo : Int} {n : Nat} {g : TG} {tb : TS} {D : Ends} {σ : St} {H : Hp} (Pv : Nat → St → Hp → Prop) (h0 : Pv 0 σ H)
    (hs : ∀ i σ H, i < n → Pv i σ H → g (.int (lo + i)) σ H fun σ2 H2 => tb { D with nx := Pv (i + 1), ct := Pv (i + 1), bk := D.nx } σ2 H2) (hd : ∀ σ H, Pv n σ H → D.nx σ H) :
    ∃ W : Nat → Nat → St → Hp → Prop, (∃ m, W 0 m σ H) ∧ ∀ i m σ H, W i m σ H →
      ((Itr lo n).stop i H ∧ D.nx σ H) ∨ ((Itr lo n).go i H ∧ ∃ N : St → Hp → Prop, (∀ σ' H', N σ' H' → ∃ m', m' < m ∧ W (i + 1) m' σ' H') ∧ ∀ x H', (Itr lo n).yld i H x H' → g x σ H' fun σ2 H2 => tb { D with nx := N, ct := N, bk := D.nx } σ2 H2) := by
  refine ⟨fun i m σ H => m = n - i ∧ i ≤ n ∧ Pv i σ H, ⟨n, by simp, Nat.zero_le _, h0⟩, ?_⟩
  rintro i m σ H ⟨rfl, hi, p⟩
  by_cases hlt : i < n
  · refine .inr ⟨hlt, Pv (i + 1), fun σ' H' p' => ⟨n - (i + 1), by omega, rfl, hlt, p'⟩, fun x H' y => ?_⟩
    obtain ⟨e, y⟩ := y
    subst e y
    exact hs i σ _ hlt p
  · have e : i = n := by omega
    subst e
    exact .inl ⟨Nat.le_refl _, hd σ H p⟩
end L2
namespace L2
open PySem PySem.Spec PyProof.Rows
abbrev R2 := V → V → Hp → VK → Prop
def OpR (X : Cx) (f : Value → Value → Sem Value) (r : R2) : Prop :=
  ∀ (pins : List (Addr × Obj)) (s : Shared) (σ : St) (H : Hp) (x y : V) (v u : Value) (Q : VK), Inv X pins σ H s → RelV x v → RelV y u → r x y H Q →
    wpAny (model X.prog X.w) X.A (f v u) (EP X pins σ Q) X.xe s
def CallR (X : Cx) (f : Value) (r : List V → Hp → VK → Prop) : Prop :=
  ∀ (pins : List (Addr × Obj)) (s : Shared) (σ : St) (H : Hp) (xs : List V) (us : List Value) (Q : VK), Inv X pins σ H s → Vals xs us → r xs H Q →
    wpAny (model X.prog X.w) X.A (call f us) (EP X pins σ Q) X.xe s
def tOp (r : R2) (ta tb : TE) : TE := fun σ H Q => ta σ H fun x H1 => tb σ H1 fun y H2 => r x y H2 Q
def rI (C : Int → Int → Prop) (g : Int → Int → V) : R2 := fun x y H Q => ∃ i j, x = .int i ∧ y = .int j ∧ C i j ∧ Q (g i j) H
def rI0 (g : Int → Int → V) : R2 := fun x y H Q => ∃ i j, x = .int i ∧ y = .int j ∧ Q (g i j) H
section
variable {X : Cx} {a b c : Expr} {ta tb tc : TE} {pos : Pos}
theorem binT (ha : PE X a ta) (hb : PE X b tb) {pins : List (Addr × Obj)} {s : Shared} {σ : St} {H : Hp} {R : V → V → Hp → Prop} (I : Inv X pins σ H s)
    (h : ta σ H fun x H1 => tb σ H1 fun y H2 => R x y H2) {Q : Value → Shared → Prop} {f : Value → Value → Sem Value}
    (hf : ∀ v u s2 x y H2, Inv X pins σ H2 s2 → RelV x v → RelV y u → R x y H2 → wpAny (model X.prog X.w) X.A (f v u) Q X.xe s2) :
    wpAny (model X.prog X.w) X.A (eval a X.env) (fun v s₁ => wpAny (model X.prog X.w) X.A (eval b X.env) (fun u s₂ => wpAny (model X.prog X.w) X.A (f v u) Q X.xe s₂) X.xe s₁) X.xe s := by
  refine thn (ha pins s σ H _ I h) fun v s1 zz => ?_
  obtain ⟨x, H1, I1, r1, q1⟩ := zz
  refine thn (hb pins s1 σ H1 _ I1 q1) fun u s2 zz => ?_
  obtain ⟨y, H2, I2, r2, q2⟩ := zz
  exact hf v u s2 x y H2 I2 r1 r2 q2
theorem pe_op {op : Operator} {r : R2} (ho : OpR X (binaryOp op) r) (ha : PE X a ta) (hb : PE X b tb) : PE X (.BinOp a op b pos) (tOp r ta tb) := by
  intro pins s σ H Q I h
  exact wpAny_BinOp (binT ha hb I h fun v u s2 x y H2 I2 rx ry q => ho pins s2 σ H2 x y v u Q I2 rx ry q)
theorem opI {f : Value → Value → Sem Value} {C : Int → Int → Prop} {g : Int → Int → Int}
    (rule : ∀ (i j : Int) (t u : Tok) (s : Shared) (Q : Value → Shared → Prop) (E : Value → Shared → Prop), C i j → Q (.int (g i j) s.toks) { s with toks := s.toks + 1 } → wpAny (model X.prog X.w) X.A (f (.int i t) (.int j u)) Q E s) :
    OpR X f (rI C fun i j => .int (g i j)) := by
  intro pins s σ H x y v u Q I rx ry h
  obtain ⟨i, j, rfl, rfl, hc, q⟩ := h
  obtain ⟨t, rfl⟩ := rx
  obtain ⟨t', rfl⟩ := ry
  exact rule i j t t' s _ _ hc ⟨.int (g i j), H, I.tok _, ⟨_, rfl⟩, q⟩
theorem opI0 {f : Value → Value → Sem Value} {g : Int → Int → Int}
    (rule : ∀ (i j : Int) (t u : Tok) (s : Shared) (Q : Value → Shared → Prop) (E : Value → Shared → Prop), Q (.int (g i j) s.toks) { s with toks := s.toks + 1 } → wpAny (model X.prog X.w) X.A (f (.int i t) (.int j u)) Q E s) :
    OpR X f (rI0 fun i j => .int (g i j)) := by
  intro pins s σ H x y v u Q I rx ry h
  obtain ⟨i, j, rfl, rfl, q⟩ := h
  obtain ⟨t, rfl⟩ := rx
  obtain ⟨t', rfl⟩ := ry
  exact rule i j t t' s _ _ ⟨.int (g i j), H, I.tok _, ⟨_, rfl⟩, q⟩
theorem opB0 {f : Value → Value → Sem Value} {g : Int → Int → Bool}
    (rule : ∀ (i j : Int) (t u : Tok) (s : Shared) (Q : Value → Shared → Prop) (E : Value → Shared → Prop), Q (.bool (g i j)) s → wpAny (model X.prog X.w) X.A (f (.int i t) (.int j u)) Q E s) :
    OpR X f (rI0 fun i j => .bl (g i j)) := by
  intro pins s σ H x y v u Q I rx ry h
  obtain ⟨i, j, rfl, rfl, q⟩ := h
  obtain ⟨t, rfl⟩ := rx
  obtain ⟨t', rfl⟩ := ry
  exact rule i j t t' s _ _ ⟨.bl (g i j), H, I, rfl, q⟩
def CDiv (i j : Int) : Prop := 0 < j ∧ j < 1073741824
def CMul (i j : Int) : Prop := (-(2 ^ 64) < i ∧ i < 2 ^ 64) ∨ (-(2 ^ 64) < j ∧ j < 2 ^ 64)
theorem CMul.ok {i j : Int} (h : CMul i j) : IntMulOk i j := by
  rcases h with ⟨h1, h2⟩ | ⟨h1, h2⟩
  · exact .of_left (intBits_le_64 h1 h2)
  · exact .of_right (intBits_le_64 h1 h2)
theorem op_add : OpR X (binaryOp .Add) (rI0 fun i j => .int (i + j)) := opI0 fun _ _ _ _ _ _ _ q => add_int q
theorem op_mul : OpR X (binaryOp .Mult) (rI CMul fun i j => .int (i * j)) := opI fun _ _ _ _ _ _ _ hc q => mul_int q hc.ok
theorem op_fdiv : OpR X (binaryOp .FloorDiv) (rI CDiv fun i j => .int (i / j)) := opI fun i j _ _ _ _ _ hc q => by
  have h1 : (0 : Int) < j := hc.1
  have h2 : j < 1073741824 := hc.2
  exact floordiv_int (by omega) (by rw [Int.fdiv_eq_ediv_of_nonneg i (by omega)]; exact q) (.inl (PyProof.noPylong_small (by omega)))
theorem op_mod : OpR X (binaryOp .Mod) (rI (fun _ j => 0 < j) fun i j => .int (i % j)) := opI fun i j _ _ _ _ _ hc q => by
  have h1 : (0 : Int) < j := hc
  exact mod_int' (by omega) (by rw [Int.fmod_eq_emod_of_nonneg i (by omega)]; exact q)
end
def scal : V → V → Bool
  | .non, .non => true | .non, .int _ => true | .int _, .non => true | .non, .bl _ => true | .bl _, .non => true | .non, .str _ => true | .str _, .non => true
  | .int _, .int _ => true | .bl _, .bl _ => true | .str _, .str _ => true | .byt _, .byt _ => true
  | .int _, .str _ => true | .str _, .int _ => true | .bl _, .str _ => true | .str _, .bl _ => true
  | _, _ => false
def rEq : R2 := fun x y H Q => scal x y = true ∧ Q (.bl (decide (x = y))) H
theorem dec_int {i j : Int} : decide (V.int i = V.int j) = (i == j) := by
  rw [Bool.eq_iff_iff]
  simp
theorem dec_bl {i j : Bool} : decide (V.bl i = V.bl j) = (i == j) := by
  rw [Bool.eq_iff_iff]
  simp
theorem dec_str {i j : Str} : decide (V.str i = V.str j) = (i == j) := by
  rw [Bool.eq_iff_iff]
  simp
theorem dec_byt {i j : Array UInt8} : decide (V.byt i = V.byt j) = (i.toList == j.toList) := by
  rw [Bool.eq_iff_iff]
  cases i
  cases j
  simp
section
variable {X : Cx} {a b c : Expr} {ta tb tc : TE} {pos : Pos}
theorem fin_bl {pins : List (Addr × Obj)} {σ : St} {H : Hp} {s : Shared} {Q : VK} {k k' : Bool} (I : Inv X pins σ H s) (q : Q (.bl k) H) (e : k = k') : EP X pins σ Q (.bool k') s := by
  subst e
  exact ⟨.bl k, H, I, rfl, q⟩
theorem op_eq : OpR X (compareOp .Eq) rEq := by
  intro pins s σ H x y v u Q I rx ry h
  obtain ⟨hs, q⟩ := h
  cases x with
  | non =>
    cases rx
    cases y with
    | non => cases ry; exact PySem.EqNone.eq_none_none (fin_bl I q (by simp))
    | bl j => cases ry; exact PySem.EqNone.eq_none_bool (fin_bl I q (by simp))
    | int j => obtain ⟨t', rfl⟩ := ry; exact PySem.EqNone.eq_none_int (fin_bl I q (by simp))
    | str j => obtain ⟨t', rfl⟩ := ry; exact PySem.EqNone.eq_none_str (fin_bl I q (by simp))
    | _ => exact absurd (show false = true from hs) Bool.false_ne_true
  | bl i =>
    cases rx
    cases y with
    | non => cases ry; exact PySem.EqNone.eq_bool_none (fin_bl I q (by simp))
    | bl j => cases ry; exact eq_bool (fin_bl I q dec_bl)
    | str j => obtain ⟨t', rfl⟩ := ry; exact PySem.EqMixed.eq_bool_str (fin_bl I q (by simp))
    | _ => exact absurd (show false = true from hs) Bool.false_ne_true
  | int i =>
    obtain ⟨t, rfl⟩ := rx
    cases y with
    | non => cases ry; exact PySem.EqNone.eq_int_none (fin_bl I q (by simp))
    | int j => obtain ⟨t', rfl⟩ := ry; exact eq_int (fin_bl I q dec_int)
    | str j => obtain ⟨t', rfl⟩ := ry; exact PySem.EqMixed.eq_int_str (fin_bl I q (by simp))
    | _ => exact absurd (show false = true from hs) Bool.false_ne_true
  | str i =>
    obtain ⟨t, rfl⟩ := rx
    cases y with
    | non => cases ry; exact PySem.EqNone.eq_str_none (fin_bl I q (by simp))
    | bl j => cases ry; exact PySem.EqMixed.eq_str_bool (fin_bl I q (by simp))
    | int j => obtain ⟨t', rfl⟩ := ry; exact PySem.EqMixed.eq_str_int (fin_bl I q (by simp))
    | str j => obtain ⟨t', rfl⟩ := ry; exact eq_str (fin_bl I q dec_str)
    | _ => exact absurd (show false = true from hs) Bool.false_ne_true
  | byt i =>
    obtain ⟨t, rfl⟩ := rx
    cases y with
    | byt j => obtain ⟨t', rfl⟩ := ry; exact PySem.W.eq_bytes (fin_bl I q dec_byt)
    | _ => exact absurd (show false = true from hs) Bool.false_ne_true
  | _ => cases y <;> exact absurd (show false = true from hs) Bool.false_ne_true
theorem op_gt : OpR X (compareOp .Gt) (rI0 fun i j => .bl (decide (j < i))) := opB0 fun _ _ _ _ _ _ _ q => gt_int q
theorem nomark (b : Expr) {op : CmpOp} (h : op ≠ .In := by decide) (h2 : op ≠ .NotIn := by decide) : behindInMarks op b = false := by
  have e1 : (op == CmpOp.In) = false := by cases op <;> first | rfl | exact absurd rfl h
  have e2 : (op == CmpOp.NotIn) = false := by cases op <;> first | rfl | exact absurd rfl h2
  cases b <;> simp [behindInMarks, e1, e2]
theorem pe_cmpR {op : CmpOp} {r : R2} (ho : OpR X (compareOp op) r) (ha : PE X a ta) (hb : PE X b tb) (hm : behindInMarks op b = false) : PE X (.Compare a [op] [b] pos) (tOp r ta tb) := by
  intro pins s σ H Q I h
  exact wpAny_Compare1 (binT ha hb I h fun v u s2 x y H2 I2 rx ry q => ho pins s2 σ H2 x y v u Q I2 rx ry q) hm
def tTest (t : TE) : TT := fun σ H Q => t σ H fun x H' => ∃ k, x = .bl k ∧ Q k H'
theorem pt_cmpR {op : CmpOp} {r : R2} (ho : OpR X (compareOp op) r) (ha : PE X a ta) (hb : PE X b tb) (hm : behindInMarks op b = false) : PT X (.Compare a [op] [b] pos) (tTest (tOp r ta tb)) := by
  intro pins s σ H Q I h
  refine wpAny_isTrue_Compare1 (thn (ha pins s σ H _ I h) fun v s1 ⟨x, H1, I1, r1, q1⟩ => thn (hb pins s1 σ H1 _ I1 q1) fun u s2 ⟨y, H2, I2, r2, q2⟩ =>
    thn (ho pins s2 σ H2 x y v u _ I2 r1 r2 q2) fun c s3 ⟨z, H3, I3, r3, k, e, q3⟩ => ?_) hm
  subst e
  cases r3
  exact wpAny_truthy_bool ⟨H3, I3, q3⟩
theorem line63 : (sizeLine : Nat) < 2 ^ 63 := by rw [sizeLine_eq]; decide
theorem vals1 {x : V} {us : List Value} (r : Vals [x] us) : ∃ u, us = [u] ∧ RelV x u := by
  cases r with
  | cons r1 r2 => cases r2; exact ⟨_, rfl, r1⟩
theorem vals2 {x y : V} {us : List Value} (r : Vals [x, y] us) : ∃ u w', us = [u, w'] ∧ RelV x u ∧ RelV y w' := by
  cases r with
  | cons r1 r2 =>
    cases r2 with
    | cons r3 r4 => cases r4; exact ⟨_, _, rfl, r1, r3⟩
theorem call_max2 (hc : X.calm = true) : CallR X (.builtin "max") (fun xs H Q => ∃ i j, xs = [.int i, .int j] ∧ Q (.int (if j > i then j else i)) H) := by
  intro pins s σ H xs us Q I r h
  obtain ⟨i, j, rfl, q⟩ := h
  obtain ⟨u, w', rfl, ⟨t, rfl⟩, ⟨t', rfl⟩⟩ := vals2 r
  refine max_two_ints (I.ok.hd hc) fun h' tk k => ⟨_, H, I.kept k, ?_, q⟩
  by_cases hj : j > i
  · rw [if_pos hj, if_pos hj]; exact ⟨_, rfl⟩
  · rw [if_neg hj, if_neg hj]; exact ⟨_, rfl⟩
theorem call_min2 (hc : X.calm = true) : CallR X (.builtin "min") (fun xs H Q => ∃ i j, xs = [.int i, .int j] ∧ Q (.int (if j < i then j else i)) H) := by
  intro pins s σ H xs us Q I r h
  obtain ⟨i, j, rfl, q⟩ := h
  obtain ⟨u, w', rfl, ⟨t, rfl⟩, ⟨t', rfl⟩⟩ := vals2 r
  refine min_two_ints (I.ok.hd hc) fun h' tk k => ⟨_, H, I.kept k, ?_, q⟩
  by_cases hj : j < i
  · rw [if_pos hj, if_pos hj]; exact ⟨_, rfl⟩
  · rw [if_neg hj, if_neg hj]; exact ⟨_, rfl⟩
end
end L2
namespace L2
open PySem PySem.Spec PyProof.Rows
theorem lookIn_ns {h : Heap} {dx : Addr} {mA : Str → Option Value} (n : h.Ns1 dx mA) : ∃ od, h.get? dx = some od ∧ ∀ name, PySem.W.lookIn name od = some (mA name) := by
  obtain ⟨o, es, ep, ho, hd, hk, _, hm⟩ := n
  refine ⟨o, ho, fun name => ?_⟩
  have e := hm name
  unfold nsFind findBy at e
  rw [← Array.find?_toList] at e
  unfold PySem.W.lookIn
  rw [hd]
  dsimp only
  split
  · rename_i y q
    rw [q] at e
    exact congrArg some e
  · rename_i q
    rw [q] at e
    have a : es.toList.any (·.refKey) = false := by
      rw [List.any_eq_false]
      intro y hy
      obtain ⟨z, t, hkey⟩ := hk y (Array.mem_toList_iff.mp hy)
      simp [DictEntry.refKey, hkey]
    have a' : ¬ es.toList.any (·.refKey) = true := by rw [a]; exact Bool.false_ne_true
    rw [if_neg a']
    exact congrArg some e
theorem RelO.some_of {v : V} {o : Option Value} (r : RelO (some v) o) : ∃ u, o = some u ∧ RelV v u := by
  cases o with
  | none => exact (show False from r).elim
  | some u => exact ⟨u, rfl, r⟩
theorem handed_of {v : V} {u : Value} (r : RelV v u) : PySem.W.handedIn u = true := by
  cases v with
  | non => cases (show u = Value.none from r); rfl
  | bl b => cases (show u = Value.bool b from r); rfl
  | int i => obtain ⟨t, e⟩ := (show ∃ t, u = Value.int i t from r); cases e; rfl
  | str x => obtain ⟨t, e⟩ := (show ∃ t, u = Value.str x t from r); cases e; rfl
  | byt b => obtain ⟨t, e⟩ := (show ∃ t, u = Value.bytes b t from r); cases e; rfl
  | flt b => obtain ⟨t, e⟩ := (show ∃ t, u = Value.float b t from r); cases e; rfl
  | ref a => cases (show u = Value.ref a from r); rfl
  | ty n => cases (show u = Value.type n from r); rfl
structure Cls (K : PySem.W.Frag) (C : Addr) : Prop where
  pg : PySem.W.plainGet K C Str.empty = true
  hd : PySem.W.hasDictIn K C = true
  po : PySem.W.plainOver K C = true
  sa : PySem.W.findIn K (.ref C) "__setattr__" = some (some (.builtin "object.__setattr__"))
theorem Cls.get {K : PySem.W.Frag} {C : Addr} (c : Cls K C) (f : Str) : PySem.W.plainGet K C f = true := c.pg
def NoAttr (K : PySem.W.Frag) (C : Addr) (f : Str) : Prop := PySem.W.findIn K (.ref C) f = some none
section
variable {X : Cx} {pins : List (Addr × Obj)} {σ : St} {H : Hp} {s : Shared} {a C dx : Addr} {fs : List (Str × V)} {f : Str} {v : V} {A : Around} {E : Value → Shared → Prop}
theorem Inv.made (I : Inv X pins σ H s) : Inv X pins σ (upd (upd H s.heap.objs.size (.own (s.heap.objs.size + 1))) (s.heap.objs.size + 1) (.ins C s.heap.objs.size []))
    { s with heap := (s.heap.push PySem.W.emptyDict).push (PySem.W.instObj C s.heap.objs.size) } := by
  have e1 : (s.heap.push PySem.W.emptyDict).get? s.heap.objs.size = some PySem.W.emptyDict := Heap.get?_push_size s.heap rfl
  have e2 : ((s.heap.push PySem.W.emptyDict).push (PySem.W.instObj C s.heap.objs.size)).get? (s.heap.objs.size + 1) = some (PySem.W.instObj C s.heap.objs.size) := by
    have := Heap.get?_push_size (s.heap.push PySem.W.emptyDict) (o := PySem.W.instObj C s.heap.objs.size) rfl
    rwa [Heap.size_push] at this
  have e3 : (s.heap.push PySem.W.emptyDict).Ns s.heap.objs.size (fun _ => none) := ⟨PySem.W.emptyDict, #[], _, e1, rfl, (fun e he => absurd he (by simp)), fun _ => rfl⟩
  have I1 := I.laid (a := s.heap.objs.size) (o := .own (s.heap.objs.size + 1)) (h' := s.heap.push PySem.W.emptyDict) (t' := s.toks) (fun b u q => Heap.get?_push_of_some _ q) (Nat.le_refl _) ⟨_, e1⟩
  refine I1.laid (a := s.heap.objs.size + 1) (o := .ins C s.heap.objs.size []) (t' := s.toks) (fun b u q => Heap.get?_push_of_some _ q) (Nat.le_of_eq (Heap.size_push _ _)) ?_
  have ne : s.heap.objs.size ≠ s.heap.objs.size + 1 := Nat.ne_of_lt (Nat.lt_succ_self _)
  refine ⟨by rw [upd_ne ne, upd_same], Nat.zero_le _, ne, e2, fun _ => none, (Heap.Ns1.of_empty e3).at fun o q => Heap.get?_push_of_some _ q, fun _ => True.intro, fun y hy => absurd rfl hy⟩
theorem attr_of {prog : Program} {w : World} {env : Env} {e : Expr} {f : Str} {pos : Pos} {s : Shared} {Q : Value → Shared → Prop} (hb : attributeBase e f env (eval e env) = eval e env)
    (h : wpAny (model prog w) A (eval e env) (fun o s₁ => wpAny (model prog w) A (getAttr o f true) Q E s₁) E s) : wpAny (model prog w) A (eval (.Attribute e f pos) env) Q E s :=
  Attribute_any_ h (by rw [arm_eval_Attribute, hb])
end
end L2
namespace L2
open PySem PySem.Spec PyProof.Rows
structure Room (k : Nat) (A : Around) : Prop where
  hd : A.handled = none
  dp : A.depth + 3 * k + 5 < recursionLimit
  un : A.units + 16 * k + 200 < cLine
theorem Room.mono {j k : Nat} {A : Around} (r : Room k A) (h : j ≤ k) : Room j A := ⟨r.hd, by have := r.dp; omega, by have := r.un; omega⟩
theorem Room.deeper {k : Nat} {A : Around} (r : Room (k + 1) A) (env : Env) : Room k (A.deeper env) :=
  ⟨r.hd, by have := r.dp; show A.depth + 1 + 3 * k + 5 < _; omega, by have := r.un; show A.units + 3 + 16 * k + 200 < _; omega⟩
theorem Room.in1 {k : Nat} {A : Around} (r : Room (k + 1) A) : Room k A.in1 :=
  ⟨r.hd, by have := r.dp; show A.depth + 3 * k + 5 < _; omega, by have := r.un; show A.units + 1 + 16 * k + 200 < _; omega⟩
theorem make_depth {A : Around} {C : Addr} {us : List Value} {kw : List (Str × Value)} : (A.under (.builtin "type.__call__" ⟨.ref C :: us, kw⟩)).depth = A.depth + 1 := by
  first | rfl | simp [Around.under, Code.weight, Code.isCreation, Code.isGuard, Code.isCaller, Code.frames, Code.isFrame, guardIds]
theorem make_units {A : Around} {C : Addr} {us : List Value} {kw : List (Str × Value)} : (A.under (.builtin "type.__call__" ⟨.ref C :: us, kw⟩)).units = A.units + 1 := by
  first | rfl | simp [Around.under, Code.cUnits, Code.frames, Code.isFrame]
theorem Room.make {k : Nat} {A : Around} (r : Room (k + 1) A) (C : Addr) (us : List Value) (kw : List (Str × Value)) : Room k (A.under (.builtin "type.__call__" ⟨.ref C :: us, kw⟩)) :=
  ⟨r.hd, by have := r.dp; rw [make_depth]; omega, by have := r.un; rw [make_units]; omega⟩
theorem Room.depth {k : Nat} {A : Around} (r : Room k A) : A.depth < recursionLimit := by have := r.dp; omega
theorem Room.units {k : Nat} {A : Around} (r : Room k A) : A.units + 64 < cLine := by have := r.un; omega
def tNil : TA := fun _ H Q => Q [] H
def tCons (ta : TE) (tr : TA) : TA := fun σ H Q => ta σ H fun x H1 => tr σ H1 fun xs H2 => Q (x :: xs) H2
section
variable {X : Cx} {e : Expr} {es : List Expr} {te : TE} {t : TA} {pos : Pos}
theorem pa_nil : PA X [] tNil := fun _ _ _ _ H Q I h => Calls.spliced_nil ⟨[], H, I, .nil, h⟩
theorem pa_cons (ha : PE X e te) (hr : PA X es t) (hs : starEach (e :: es) X.env = (false, eval e X.env) :: starEach es X.env := by rfl) : PA X (e :: es) (tCons te t) := by
  intro pos pins s σ H Q I h
  rw [hs]
  show wpAny _ _ (spliced ((false, eval e X.env) :: backTo pos (starEach es X.env))) _ _ s
  refine Calls.spliced_cons (thn (ha pins s σ H _ I h) fun u s1 zz => ?_)
  obtain ⟨x, H1, I1, r1, q1⟩ := zz
  exact thn (hr pos pins s1 σ H1 _ I1 q1) fun us s2 zz => (by obtain ⟨xs, H2, I2, r2, q2⟩ := zz; exact ⟨x :: xs, H2, I2, .cons r1 r2, q2⟩)
def tTup (t : TA) : TE := fun σ H Q => t σ H fun xs H1 => xs.length ≤ sizeLine ∧ ∀ p, H1 p = none → Q (.ref p) (upd H1 p (.tup xs))
def tLst (t : TA) : TE := fun σ H Q => t σ H fun xs H1 => xs.length ≤ sizeLine ∧ ∀ p, H1 p = none → Q (.ref p) (upd H1 p (.lst xs))
theorem pe_tup {x1} (h : PA X es t) : PE X (.Tuple es x1 pos) (tTup t) := by
  intro pins s σ H Q I hq
  refine wpAny_Tuple_spliced (thn (h pos pins s σ H _ I hq) fun us s1 ⟨xs, H1, I1, r, z, q⟩ => ⟨by rw [← r.length]; exact z, ?_⟩)
  have hf : H1 s1.heap.objs.size = none := I1.hok.fresh (Nat.le_refl _)
  refine ⟨.ref s1.heap.objs.size, upd H1 s1.heap.objs.size (.tup xs), I1.laid (t' := s1.toks) (fun b u e => Heap.get?_push_of_some _ e) (Nat.le_refl _) ?_, rfl, q _ hf⟩
  exact ⟨z, us, r, ⟨_, Heap.get?_push_size _ rfl, rfl, _, rfl⟩⟩
theorem pe_lst (h : PA X es t) : PE X (.List es pos) (tLst t) := by
  intro pins s σ H Q I hq
  refine wpAny_List_spliced (thn (h pos pins s σ H _ I hq) fun us s1 ⟨xs, H1, I1, r, z, q⟩ => ⟨by rw [← r.length]; exact z, ?_⟩)
  have hf : H1 s1.heap.objs.size = none := I1.hok.fresh (Nat.le_refl _)
  refine ⟨.ref s1.heap.objs.size, upd H1 s1.heap.objs.size (.lst xs), I1.laid (t' := s1.toks) (fun b u e => Heap.get?_push_of_some _ e) (Nat.le_refl _) ?_, rfl, q _ hf⟩
  exact ⟨z, us, 0, r, Heap.get?_push_size _ rfl⟩
end
abbrev Sp := List V → Hp → VK → XK → Prop
abbrev CXT := List Env → Hp → Shared → XK → Value → Shared → Prop
structure Env0 (P : Program) (w : World) (K : PySem.W.Frag) (mg : Str → Option Value) (base : Heap) (A : Around) (outer : List Env) (s : Shared) (H : Hp) : Prop where
  frames : A.frames = some outer
  mod : Mod K mg base
  bs : ∀ b o, base.get? b = some o → s.heap.get? b = some o ∧ H b = none
  bsz : base.objs.size ≤ s.heap.objs.size
  funs : s.heap.FunFrames base outer
  frf : ∀ b ∈ frs outer, H b = none
  hok : HOk P w H s.heap
  bare : AllBare s.gens
def CE (outer : List Env) (P : Program) (w : World) (H : Hp) (s : Shared) (Q : VK) (u : Value) (s' : Shared) : Prop :=
  ∃ v H', s'.os = s.os ∧ AllBare s'.gens ∧ Un (frs outer) [] H H' s.heap s'.heap ∧ HOk P w H' s'.heap ∧ RelV v u ∧ Q v H'
def CR (CX : CXT) (outer : List Env) (P : Program) (w : World) (H : Hp) (s : Shared) (Q : VK) (E : XK) (r : Result) (s' : Shared) : Prop :=
  match r with
  | .ok (.ret u) => CE outer P w H s Q u s'
  | .ok _ => False
  | .error e => CX outer H s E e s'
structure FnOk (P : Program) (w : World) (K : PySem.W.Frag) (mg : Str → Option Value) (base : Heap) (CX : CXT) (k : Nat) (f : Addr) (fd : FuncData) (ps : List Str) (sp : Sp) : Prop where
  len : ∀ vs H Q E, sp vs H Q E → vs.length = ps.length
  run : ∀ (A : Around) (outer : List Env) (s : Shared) (H : Hp) (args : Args) (us : List Value) (vs : List V) (Q : VK) (E : XK), Room k A → Env0 P w K mg base A outer s H → BindsTo s fd args (ps.zip us) → Vals vs us → sp vs H Q E →
    codeAny (model P w) A (.call (.ref f) args) (CR CX outer P w H s Q E) s
theorem FnOk.mono {P : Program} {w : World} {K : PySem.W.Frag} {mg : Str → Option Value} {base : Heap} {CX : CXT} {j k : Nat} {f : Addr} {fd : FuncData} {ps : List Str} {sp : Sp} (F : FnOk P w K mg base CX j f fd ps sp) (h : j ≤ k) :
    FnOk P w K mg base CX k f fd ps sp := ⟨F.len, fun A outer s H args us vs Q E hr => F.run A outer s H args us vs Q E (hr.mono h)⟩
theorem FnOk.imp {P : Program} {w : World} {K : PySem.W.Frag} {mg : Str → Option Value} {base : Heap} {CX : CXT} {k : Nat} {f : Addr} {fd : FuncData} {ps : List Str} {sp sp' : Sp} (F : FnOk P w K mg base CX k f fd ps sp)
    (h : ∀ vs H Q E, sp' vs H Q E → sp vs H Q E) : FnOk P w K mg base CX k f fd ps sp' :=
  ⟨fun vs H Q E q => F.len vs H Q E (h _ _ _ _ q), fun A outer s H args us vs Q E hr he hb hv hs => F.run A outer s H args us vs Q E hr he hb hv (h _ _ _ _ hs)⟩
theorem Env0.make {P : Program} {w : World} {K : PySem.W.Frag} {mg : Str → Option Value} {base : Heap} {A : Around} {outer : List Env} {s : Shared} {H : Hp} (e : Env0 P w K mg base A outer s H) (C : Addr) (us : List Value) (kw : List (Str × Value)) :
    Env0 P w K mg base (A.under (.builtin "type.__call__" ⟨.ref C :: us, kw⟩)) outer s H := ⟨by first | exact e.frames | (simpa [Around.under, Code.envs, Code.isFrame, pushEnvs] using e.frames), e.mod, e.bs, e.bsz, e.funs, e.frf, e.hok, e.bare⟩
theorem Env0.in1 {P : Program} {w : World} {K : PySem.W.Frag} {mg : Str → Option Value} {base : Heap} {A : Around} {outer : List Env} {s : Shared} {H : Hp} (e : Env0 P w K mg base A outer s H) :
    Env0 P w K mg base A.in1 outer s H := ⟨e.frames, e.mod, e.bs, e.bsz, e.funs, e.frf, e.hok, e.bare⟩
section
variable {X : Cx} {pins : List (Addr × Obj)} {σ : St} {H : Hp} {s s' : Shared}
theorem Inv.env0 (I : Inv X pins σ H s) : Env0 X.prog X.w X.K X.mg X.base X.A X.stack s H :=
  ⟨I.ok.frames, I.ok.mod, I.bs, Nat.le_trans I.ok.bsz I.sz, I.stack, I.stkFree, I.hok, I.bare⟩
theorem Inv.after {Q : VK} {u : Value} (I : Inv X pins σ H s) (h : CE X.stack X.prog X.w H s Q u s') : EP X pins σ Q u s' := by
  obtain ⟨v, H', os, bare, un, hok, r, q⟩ := h
  obtain ⟨hh, g, d, t, os'⟩ := s'
  obtain rfl : os' = s.os := os
  exact ⟨v, H', I.call (h' := hh) (g' := g) (d' := d) (t' := t) (ch := []) un hok bare (fun b z => absurd z (by simp)), r, q⟩
end
def tCall (sp : Sp) (dvs : List V) (E : XK) (t : TA) : TE := fun σ H Q => t σ H fun vs H1 => sp (vs ++ dvs) H1 Q E
def Binds (K : PySem.W.Frag) (fd : FuncData) (ps : List Str) (ds : List Value) : Prop :=
  ∀ (s : Shared) (us : List Value), K.In s.heap → (us ++ ds).length = ps.length → BindsTo s fd ⟨us, []⟩ (ps.zip (us ++ ds))
theorem Binds.all {K : PySem.W.Frag} {fd : FuncData} {ps : List Str} (h : ∀ us : List Value, us.length = ps.length → bindArgs fd ⟨us, []⟩ = pure (ps.zip us)) : Binds K fd ps [] := fun s us _ hl => by
  rw [List.append_nil] at hl ⊢
  exact .of_eq (h us hl)
def Passes (CX : CXT) (X : Cx) (E : XK) : Prop := ∀ (pins : List (Addr × Obj)) (σ : St) (H : Hp) (s : Shared) (e : Value) (s' : Shared), Inv X pins σ H s → CX X.stack H s E e s' → X.xe e s'
section
variable {X : Cx} {CX : CXT} {k : Nat} {f C : Addr} {fd : FuncData} {ps : List Str} {sp : Sp} {dvs : List V} {ds : List Value} {E : XK} {x m : Str} {p pos apos : Pos} {e o : Expr} {es : List Expr} {ta : TE} {t : TA}
theorem run_fn {pins : List (Addr × Obj)} {σ : St} {H : Hp} {s : Shared} {Q : VK} {us : List Value} {vs : List V} (F : FnOk X.prog X.w X.K X.mg X.base CX k f fd ps sp) (hr : Room k X.A) (hb : Binds X.K fd ps ds) (hd : Vals dvs ds) (hx : Passes CX X E)
    (I : Inv X pins σ H s) (r : Vals vs us) (h : sp (vs ++ dvs) H Q E) : wpAny (model X.prog X.w) X.A (call (.ref f) us) (EP X pins σ Q) X.xe s := by
  have r2 : Vals (vs ++ dvs) (us ++ ds) := r.append hd
  have hl : (us ++ ds).length = ps.length := by rw [← r2.length]; exact F.len _ _ _ _ h
  refine wpAny_call (codeAny_mono (F.run X.A X.stack s H ⟨us, []⟩ (us ++ ds) (vs ++ dvs) Q E hr I.env0 (hb s us I.kIn hl) r2 h) fun r s' hq => ?_)
  cases r with
  | error e => exact hx pins σ H s e s' I hq
  | ok fl =>
    cases fl with
    | ret u => exact I.after hq
    | next => exact False.elim hq
    | brk => exact False.elim hq
    | cont => exact False.elim hq
theorem pe_call (F : FnOk X.prog X.w X.K X.mg X.base CX k f fd ps sp) (hr : Room k X.A) (hg : Gl X x) (hm : X.mg x = some (.ref f)) (hk : PySem.W.keepIn X.K (.ref f) = true) (hb : Binds X.K fd ps ds) (hd : Vals dvs ds) (hx : Passes CX X E)
    (ha : PA X (e :: es) t) (hdb : (x == ("__debug__" : Str)) = false := by decide) (he : starEach (e :: es) X.env = (false, eval e X.env) :: starEach es X.env := by rfl) (hpl : (backTo pos (starEach es X.env)).any (·.1) = false := by rfl) :
    PE X (.Call (.Name x p) (e :: es) [] pos) (tCall sp dvs E t) := by
  intro pins s σ H Q I h
  refine wpAny_Call_Name_kw (ld_glob I hg hm ?_ hdb)
  refine PySem.W.callWith_K (h₀ := X.base) I.ok.mod.kin hk (thn (ha pos pins s σ H _ I h) fun us s1 ⟨vs, H1, I1, r, q⟩ => ⟨I1.kIn, ?_⟩) he hpl
  exact run_fn F hr hb hd hx I1 r q
end
structure FnScope (N P : List Str) (sc : Scope) : Prop where
  kind : sc.kind = .function
  co : sc.isCoroutine = false
  gen : sc.isGenerator = false
  nd : N.Nodup
  pre : N.take P.length = P
  par : ∀ x ∈ P, sc.names.lookup x = some .local ∨ sc.names.lookup x = some .cell
  nofree : ∀ y ∈ sc.names, y.2 ≠ .free
theorem bindL_out {kindOf : Str → Option NameKind} {x : Str} : ∀ {binds : List (Str × Value)} {m : Str → Option Value}, (∀ v, (x, v) ∉ binds) → bindL kindOf binds m x = m x
  | [], _, _ => rfl
  | (n, v) :: r, m, h => by
    unfold bindL
    rw [bindL_out fun w hw => h w (List.mem_cons_of_mem _ hw)]
    split
    · have : x ≠ n := by rintro rfl; exact h v List.mem_cons_self
      simp [this]
    · rfl
theorem bindC_out {kindOf : Str → Option NameKind} {x : Str} : ∀ {binds : List (Str × Value)} {m : Str → Option Value}, (∀ v, (x, v) ∉ binds) → bindC kindOf binds m x = m x
  | [], _, _ => rfl
  | (n, v) :: r, m, h => by
    unfold bindC
    rw [bindC_out fun w hw => h w (List.mem_cons_of_mem _ hw)]
    split
    · rfl
    · have : x ≠ n := by rintro rfl; exact h v List.mem_cons_self
      simp [this]
theorem bindL_get {kindOf : Str → Option NameKind} {x : Str} {v : Value} : ∀ {P : List Str} {vs : List Value} {i : Nat} {m : Str → Option Value}, P.Nodup → P[i]? = some x → vs[i]? = some v → kindOf x = some .local →
    bindL kindOf (P.zip vs) m x = some v
  | [], _, _, _, _, h, _, _ => by simp at h
  | _ :: _, [], _, _, _, _, h, _ => by simp at h
  | p :: P, w :: vs, 0, m, nd, h1, h2, hk => by
    simp at h1 h2; subst h1; subst h2
    show bindL kindOf ((p, w) :: P.zip vs) m p = _
    unfold bindL
    rw [bindL_out fun v hv => (List.nodup_cons.mp nd).1 (List.of_mem_zip hv).1, if_pos hk]
    simp
  | p :: P, w :: vs, i + 1, m, nd, h1, h2, hk => by
    show bindL kindOf ((p, w) :: P.zip vs) m x = _
    unfold bindL
    exact bindL_get (i := i) (List.nodup_cons.mp nd).2 (by simpa using h1) (by simpa using h2) hk
theorem bindC_get {kindOf : Str → Option NameKind} {x : Str} {v : Value} : ∀ {P : List Str} {vs : List Value} {i : Nat} {m : Str → Option Value}, P.Nodup → P[i]? = some x → vs[i]? = some v → kindOf x ≠ some .local →
    bindC kindOf (P.zip vs) m x = some v
  | [], _, _, _, _, h, _, _ => by simp at h
  | _ :: _, [], _, _, _, _, h, _ => by simp at h
  | p :: P, w :: vs, 0, m, nd, h1, h2, hk => by
    simp at h1 h2; subst h1; subst h2
    show bindC kindOf ((p, w) :: P.zip vs) m p = _
    unfold bindC
    rw [bindC_out fun v hv => (List.nodup_cons.mp nd).1 (List.of_mem_zip hv).1, if_neg hk]
    simp
  | p :: P, w :: vs, i + 1, m, nd, h1, h2, hk => by
    show bindC kindOf ((p, w) :: P.zip vs) m x = _
    unfold bindC
    exact bindC_get (i := i) (List.nodup_cons.mp nd).2 (by simpa using h1) (by simpa using h2) hk
def start (N : List Str) (vs : List V) : St := vs.map some ++ List.replicate (N.length - vs.length) none
def cxOf (CX : CXT) (P : Program) (w : World) (K : PySem.W.Frag) (mg : Str → Option Value) (base : Heap) (N : List Str) (qual : Str) (scope : Scope) (f : Addr) (cd : Value) (A : Around) (outer : List Env) (s : Shared) (H : Hp) (E : XK) : Cx where
  prog := P
  w := w
  K := K
  mg := mg
  base := base
  A := A.deeper (envOfC qual scope s.heap.objs.size f cd)
  N := N
  s₀ := s
  H₀ := H
  env := envOfC qual scope s.heap.objs.size f cd
  outer := outer
  stack := envOfC qual scope s.heap.objs.size f cd :: outer
  ex := []
  calm := true
  fn := fun _ => true
  pn := []
  xe := fun e s' => wpAny (model P w) (A.deeper (envOfC qual scope s.heap.objs.size f cd)) (leaving (envOfC qual scope s.heap.objs.size f cd) e) (fun _ s'' => CX outer H s E e s'') (fun e' s'' => CX outer H s E e' s'') s'
theorem cell_has {sc : Scope} {n : Nat} {x : Str} (h : sc.names.lookup x = some .cell) : ∃ c, (cellsFrom n sc.names []).lookup x = some c := by
  have q := PySem.W.cellsFrom_some sc.names n [] (.inl h)
  exact Option.isSome_iff_exists.mp q
theorem inv_start {CX : CXT} {P : Program} {w : World} {K : PySem.W.Frag} {mg : Str → Option Value} {base : Heap} {N ps : List Str} {qual : Str} {scope : Scope} {f : Addr} {cd : Value} {A : Around} {outer : List Env} {s s1 : Shared} {H : Hp} {E : XK} {us : List Value} {vs : List V}
    (S : FnScope N ps scope) (hd : A.handled = none) (e0 : Env0 P w K mg base A outer s H) (hl : vs.length = ps.length) (r : Vals vs us)
    (x : InCallC s s.heap.objs.size (bindL (envOfC qual scope s.heap.objs.size f cd).kindOf (ps.zip us) fun _ => none) (cellsFrom (s.heap.objs.size + 1) scope.names []) (bindC (envOfC qual scope s.heap.objs.size f cd).kindOf (ps.zip us) fun _ => none) s1) :
    Inv (cxOf CX P w K mg base N qual scope f cd A outer s H E) [] (start N vs) H s1 := by
  have hpl : ps.length ≤ N.length := by have := congrArg List.length S.pre; rw [List.length_take] at this; omega
  obtain ⟨h1, tk, rfl, hk⟩ := x.done
  have noA : ∀ b : Addr, b ∉ (cxOf CX P w K mg base N qual scope f cd A outer s H E).ex := fun b z => absurd (show b ∈ ([] : List Addr) from z) (by simp)
  refine ⟨⟨e0.mod, S.kind, rfl, rfl, Nat.le_refl _, fun y z c h1 h2 => ?_, fun y hy => ?_, fun y c _ h => ?_, fun _ => hd, Around.frames_deeper e0.frames, .inr ⟨rfl, rfl⟩, fun b z => absurd z (noA b), e0.bs, e0.bsz, fun b _ _ => noA b, fun b z => absurd z (noA b), e0.funs, e0.frf⟩,
    rfl, e0.bare, Un.kept hk, ⟨_, x.toInCall.ns, fun i y v h1 h2 h3 => ?_⟩, fun y c h => ⟨_, x.cell y c h⟩, e0.hok.fresh (Nat.le_refl _), fun y c h => ?_, fun p hp => absurd (show p ∈ ([] : List (Addr × Obj)) from hp) (by simp), e0.hok.kept hk, ?_⟩
  · exact name_of_addr x.apart (PySem.mem_of_lookup h1) (PySem.mem_of_lookup h2)
  · have hy : scope.names.lookup y = some .cell ∨ scope.names.lookup y = some .free := hy
    rcases hy with hy | hy
    · exact cell_has hy
    · exact absurd rfl (S.nofree _ (PySem.mem_of_lookup hy))
  · exact Nat.le_of_lt (x.above y c (PySem.mem_of_lookup h))
  · have hi : i < vs.length := by
      unfold start at h2
      by_cases hi : i < vs.length
      · exact hi
      · rw [List.getElem?_append_right (by simpa using hi)] at h2
        rw [List.getElem?_replicate] at h2
        split at h2 <;> cases h2
    have ha : vs[i]? = some v := by
      unfold start at h2
      rw [List.getElem?_append_left (by simpa using hi), List.getElem?_map] at h2
      cases e : vs[i]? with
      | none => rw [e] at h2; cases h2
      | some a => rw [e] at h2; cases h2; rfl
    obtain ⟨u, hu, rv⟩ := r.get ha
    have hp : ps[i]? = some y := by
      rw [← S.pre, List.getElem?_take_of_lt (by omega)]; exact h1
    have ndP : ps.Nodup := by rw [← S.pre]; exact S.nd.sublist (List.take_sublist _ _)
    refine ⟨u, rv, ?_⟩
    rcases S.par y (List.mem_of_getElem? hp) with k | k
    · exact .inl ⟨k, bindL_get ndP hp hu k⟩
    · obtain ⟨c, e⟩ := cell_has (n := s.heap.objs.size + 1) k
      refine .inr ⟨.inl k, c, e, ?_⟩
      have q := x.cell y c e
      rw [bindC_get ndP hp hu (by show scope.names.lookup y ≠ _; rw [k]; decide)] at q
      exact q
  · exact e0.hok.fresh (Nat.le_of_lt (x.above y c (PySem.mem_of_lookup h)))
  · unfold start
    show _ = N.length
    rw [List.length_append, List.length_map, List.length_replicate]
    omega
theorem fn_of {CX : CXT} {P : Program} {w : World} {K : PySem.W.Frag} {mg : Str → Option Value} {base : Heap} {k : Nat} {f : Addr} {name qual : Str} {params : Arguments} {body : List Stmt} {scope : Scope} {dV kV doc pm cdv ct oc : Value} {an od : Option Addr}
    {osl : Array (Option Value)} {N ps : List Str} {sp : Sp} (lk : K.lookup f = some ⟨oc, od, .func (PySem.W.fnOf name qual params body scope dV kV doc pm an cdv ct), osl⟩) (hcd : PySem.W.codeIn K cdv qual = true) (S : FnScope N ps scope)
    (len : ∀ vs H Q E, sp vs H Q E → vs.length = ps.length)
    (hbody : ∀ (A : Around) (outer : List Env) (s : Shared) (H : Hp) (vs : List V) (Q : VK) (E : XK), Room k (A.deeper (envOfC qual scope s.heap.objs.size f cdv)) → sp vs H Q E →
      ∃ t, PSs (cxOf CX P w K mg base N qual scope f cdv A outer s H E) body t ∧ t { nx := fun _ H' => Q .non H', rt := Q } (start N vs) H) :
    FnOk P w K mg base CX (k + 1) f (PySem.W.fnOf name qual params body scope dV kV doc pm an cdv ct) ps sp := by
  refine ⟨len, fun A outer s H args us vs Q E hr e0 hb r hsp => ?_⟩
  have hl := len _ _ _ _ hsp
  have KX : K.In s.heap := e0.mod.kin.keeps fun b o e => (e0.bs b o e).1
  have lim : s.heap.NoLimit := e0.mod.nolimit.keeps fun b o e => (e0.bs b o e).1
  have hkind : ∀ y ∈ ps.zip us, scope.names.lookup y.1 = some .local ∨ (scope.names.lookup y.1 = some .cell ∧ ((cellsFrom (s.heap.objs.size + 1) scope.names []).lookup y.1).isSome = true) := fun ⟨n, v⟩ hy => by
    rcases S.par n (List.of_mem_zip hy).1 with q | q
    · exact .inl q
    · exact .inr ⟨q, PySem.W.cellsFrom_some _ _ _ (.inl q)⟩
  refine codeAny_call_function hr.depth (KX _ _ lk) rfl S.co S.gen rfl (PySem.W.codeRec_of KX hcd) (hb _ _ _ _ ?_)
  refine wpAny_newFunctionEnv_cells S.kind hkind fun env he s1 x => ?_
  subst he
  refine ⟨lim.keeps x.toInCall.keep, codeAny_func ?_⟩
  obtain ⟨t, ht, hq⟩ := hbody A outer s H vs Q E (hr.deeper _) hsp
  have I : Inv (cxOf CX P w K mg base N qual scope f cdv A outer s H E) [] (start N vs) H s1 := inv_start S hr.hd e0 hl r x
  refine wpAny_mono (ht [] s1 (start N vs) H _ I hq) (fun fl s' hs => ?_) fun e s' hs => hs
  have fin : ∀ {σ' : St} {H' : Hp} {v : V} {u : Value}, Inv (cxOf CX P w K mg base N qual scope f cdv A outer s H E) [] σ' H' s' → RelV v u → Q v H' → CE outer P w H s Q u s' :=
    fun {σ' H' v u} J rv q => ⟨v, H', J.os, J.bare, J.base, J.hok, rv, q⟩
  cases fl with
  | ret u =>
    obtain ⟨v, σ', H', J, rv, q⟩ := hs
    exact fin J rv q
  | next =>
    obtain ⟨σ', H', J, q⟩ := hs
    exact fin (v := V.non) (u := Value.none) J rfl q
  | brk =>
    obtain ⟨_, _, _, q⟩ := hs
    exact False.elim q
  | cont =>
    obtain ⟨_, _, _, q⟩ := hs
    exact False.elim q
end L2
namespace L2
open PySem PySem.Spec PyProof.Rows
section
variable {X : Cx} {x : Str} {p pos : Pos} {e : Expr} {es : List Expr} {t : TA} {id T : String} {r : List V → Hp → VK → Prop}
def tCB (r : List V → Hp → VK → Prop) (t : TA) : TE := fun σ H Q => t σ H fun vs H1 => r vs H1 Q
theorem pe_callB (hc : CallR X (.builtin id) r) (hg : Gl X x) (hm : X.mg x = none) (hv : bootBuiltins x = some (.builtin id)) (ha : PA X (e :: es) t) (hn : x ≠ "__name__" := by decide) (hdb : (x == ("__debug__" : Str)) = false := by decide)
    (he : starEach (e :: es) X.env = (false, eval e X.env) :: starEach es X.env := by rfl) (hpl : (backTo pos (starEach es X.env)).any (·.1) = false := by rfl) : PE X (.Call (.Name x p) (e :: es) [] pos) (tCB r t) := by
  intro pins s σ H Q I h
  refine wpAny_Call_Name_kw (ld_blt I hg hm hv ?_ hn hdb)
  exact PyProof.Rows.callWith_builtin1 (thn (ha pos pins s σ H _ I h) fun us s1 zz => (by obtain ⟨vs, H1, I1, r1, q1⟩ := zz; exact hc pins s1 σ H1 vs us Q I1 r1 q1)) he hpl
end
end L2
namespace L2
open PySem PySem.Spec PyProof.Rows
section
variable {κ : Type} [DecidableEq κ]
def valV (kvs : List (κ × V)) (k : κ) : Option V := (kvs.find? fun kv => decide (kv.1 = k)).map (·.2)
def putK (kvs : List (κ × V)) (k : κ) (v : V) : List (κ × V) :=
  if (kvs.any fun kv => decide (kv.1 = k)) = true then kvs.map (fun kv => if kv.1 = k then (kv.1, v) else kv) else kvs ++ [(k, v)]
def dropK (kvs : List (κ × V)) (k : κ) : List (κ × V) := kvs.filter fun kv => decide (kv.1 ≠ k)
theorem RelO.getD {o : Option V} {u : Option Value} {d : V} {d' : Value} (r : RelO o u) (rd : RelV d d') : RelV (o.getD d) (u.getD d') := by
  cases o with
  | none => cases u with
    | none => exact rd
    | some _ => exact (show False from r).elim
  | some _ => cases u with
    | none => exact (show False from r).elim
    | some _ => exact r
theorem KV.any {kvs : List (κ × V)} {vs : List (κ × Value)} (r : KV kvs vs) (k : κ) : (kvs.any fun kv => decide (kv.1 = k)) = vs.any fun kv => decide (kv.1 = k) := by
  unfold KV at r
  induction r with
  | nil => rfl
  | cons h t ih => rw [List.any_cons, List.any_cons, ih, h.1]
theorem KV.drop {kvs : List (κ × V)} {vs : List (κ × Value)} (r : KV kvs vs) (k : κ) : KV (dropK kvs k) (without vs k) := by
  unfold KV at r ⊢
  unfold dropK without
  induction r with
  | nil => exact .nil
  | @cons p q ps qs h t ih =>
    obtain ⟨h1, h2⟩ := h
    rw [List.filter_cons, List.filter_cons]
    by_cases e : p.1 = k
    · have a : ¬ decide (p.1 ≠ k) = true := by simp [e]
      have b : ¬ decide (q.1 ≠ k) = true := by simp [h1.symm.trans e]
      rw [if_neg a, if_neg b]; exact ih
    · have e' : ¬ q.1 = k := fun z => e (h1.trans z)
      have a : decide (p.1 ≠ k) = true := by simp [e]
      have b : decide (q.1 ≠ k) = true := by simp [e']
      rw [if_pos a, if_pos b]; exact .cons ⟨h1, h2⟩ ih
theorem KV.keys {kvs : List (κ × V)} {vs : List (κ × Value)} (r : KV kvs vs) : kvs.map (·.1) = vs.map (·.1) := by
  unfold KV at r
  induction r with
  | nil => rfl
  | cons h t ih => rw [List.map_cons, List.map_cons, ih, h.1]
theorem KV.length {kvs : List (κ × V)} {vs : List (κ × Value)} (r : KV kvs vs) : kvs.length = vs.length := Paired.length r
end
abbrev KT (H : Hp) : List (List Key × V) → List (List Key × Addr × Value) → Prop := Paired fun p q => p.1 = q.1 ∧ H q.2.1 = some (.tup (p.1.map kV)) ∧ RelV p.2 q.2.2
theorem KT.keeps {H H' : Hp} {kvs : List (List Key × V)} {xs : List (List Key × Addr × Value)} (r : KT H kvs xs) (ht : ∀ b ys, H b = some (.tup ys) → H' b = some (.tup ys)) : KT H' kvs xs :=
  Paired.mapP r fun _ _ z => ⟨z.1, ht _ _ z.2.1, z.2.2⟩
def DGet (H : Hp) (a : Addr) (y : V) (r : Option V) : Prop :=
  (∃ kvs k, Rd H a (.dK kvs) ∧ y = kV k ∧ r = valV kvs k) ∨ ∃ kvs k b, Rd H a (.dT kvs) ∧ y = .ref b ∧ H b = some (.tup (k.map kV)) ∧ r = valV kvs k
def DPut (H : Hp) (a : Addr) (y v : V) (H' : Hp) : Prop :=
  (∃ kvs k, H a = some (.dK kvs) ∧ y = kV k ∧ kvs.length < sizeLine ∧ H' = upd H a (.dK (putK kvs k v))) ∨
  ∃ kvs k b, H a = some (.dT kvs) ∧ y = .ref b ∧ H b = some (.tup (k.map kV)) ∧ kvs.length < sizeLine ∧ H' = upd H a (.dT (putK kvs k v))
theorem DGet.k {H : Hp} {a : Addr} {kvs : List (Key × V)} {k : Key} (e : H a = some (.dK kvs)) : DGet H a (kV k) (valV kvs k) := .inl ⟨kvs, k, .inl e, rfl, rfl⟩
theorem DGet.t {H : Hp} {a b : Addr} {kvs : List (List Key × V)} {k : List Key} (e : H a = some (.dT kvs)) (eb : H b = some (.tup (k.map kV))) : DGet H a (.ref b) (valV kvs k) := .inr ⟨kvs, k, b, .inl e, rfl, eb, rfl⟩
theorem DPut.k {H : Hp} {a : Addr} {kvs : List (Key × V)} {k : Key} {v : V} (e : H a = some (.dK kvs)) (hl : kvs.length < sizeLine) : DPut H a (kV k) v (upd H a (.dK (putK kvs k v))) := .inl ⟨kvs, k, e, rfl, hl, rfl⟩
theorem DPut.t {H : Hp} {a b : Addr} {kvs : List (List Key × V)} {k : List Key} {v : V} (e : H a = some (.dT kvs)) (eb : H b = some (.tup (k.map kV))) (hl : kvs.length < sizeLine) :
    DPut H a (.ref b) v (upd H a (.dT (putK kvs k v))) := .inr ⟨kvs, k, b, e, rfl, eb, hl, rfl⟩
end L2
namespace HT
open PySem PyProof.Rows
end HT
namespace L2
open PySem PySem.Spec PyProof.Rows
abbrev TO := St → Hp → (Option Int → Hp → Prop) → Prop
end L2
namespace L2
open PySem PySem.Spec PyProof.Rows
def ixN (n : Nat) (i : Int) : Option Nat := if 0 ≤ i then (if i < n then some i.toNat else none) else if -(n : Int) ≤ i then some (i + n).toNat else none
def atI {α : Type} (xs : List α) (i : Int) : Option α := (ixN xs.length i).bind fun j => xs[j]?
theorem ixN_seq {n : Nat} {i : Int} {j : Nat} (h : ixN n i = some j) : seqIndex? i n = some j ∧ j < n ∧ -(n : Int) ≤ i ∧ i < n := by
  unfold ixN at h
  by_cases h0 : 0 ≤ i
  · rw [if_pos h0] at h
    by_cases h1 : i < n
    · rw [if_pos h1] at h
      have e : i.toNat = j := Option.some.inj h
      exact ⟨by rw [seqIndex_of h0 h1, e], by omega, by omega, h1⟩
    · rw [if_neg h1] at h; cases h
  · rw [if_neg h0] at h
    by_cases h1 : -(n : Int) ≤ i
    · rw [if_pos h1] at h
      have e : (i + n).toNat = j := Option.some.inj h
      exact ⟨by rw [seqIndex_neg (by omega) h1, e], by omega, h1, by omega⟩
    · rw [if_neg h1] at h; cases h
theorem atI_get {α : Type} {xs : List α} {i : Int} {v : α} (h : atI xs i = some v) : ∃ j, seqIndex? i xs.length = some j ∧ xs[j]? = some v ∧ j < xs.length ∧ -(xs.length : Int) ≤ i ∧ i < xs.length := by
  unfold atI at h
  cases e : ixN xs.length i with
  | none => rw [e] at h; cases h
  | some j =>
    rw [e] at h
    obtain ⟨h1, h2, h3, h4⟩ := ixN_seq e
    exact ⟨j, h1, h, h2, h3, h4⟩
theorem atI_nat {α : Type} {xs : List α} {j : Nat} {v : α} (h : xs[j]? = some v) : atI xs (j : Int) = some v := by
  have hj : j < xs.length := (List.getElem?_eq_some_iff.mp h).1
  have e : ixN xs.length (j : Int) = some j := by
    unfold ixN
    rw [if_pos (by omega), if_pos (by omega)]; simp
  unfold atI; rw [e]; exact h
def PlainIx (b : Expr) : Prop := ∀ o i, subscripted b false o i = operate [o, i] (getItem o i)
def IxR (X : Cx) (r : R2) : Prop :=
  ∀ (value slice : Expr) (pins : List (Addr × Obj)) (s : Shared) (σ : St) (H : Hp) (x y : V) (v u : Value) (Q : VK), Inv X pins σ H s → RelV x v → RelV y u → r x y H Q →
    subscripted slice false v u = operate [v, u] (getItem v u) → wpAny (model X.prog X.w) X.A (subscriptTail value slice v u) (EP X pins σ Q) X.xe s
def MtR (X : Cx) (id : String) (r : V → List V → Hp → VK → Prop) : Prop :=
  ∀ (pins : List (Addr × Obj)) (s : Shared) (σ : St) (H : Hp) (x : V) (xs : List V) (v : Value) (us : List Value) (Q : VK), Inv X pins σ H s → RelV x v → Vals xs us → r x xs H Q →
    wpAny (model X.prog X.w) X.A (call (.builtin id) (v :: us)) (EP X pins σ Q) X.xe s
section
variable {X : Cx} {a b : Expr} {ta tb : TE} {pos : Pos}
theorem pe_ix {r : R2} (hr : IxR X r) (ha : PE X a ta) (hb : PE X b tb) (hs : PlainIx b) : PE X (.Subscript a b pos) (tOp r ta tb) := by
  intro pins s σ H Q I h
  exact Subscript_ (binT ha hb I h fun v u s2 x y H2 I2 rx ry q => hr a b pins s2 σ H2 x y v u Q I2 rx ry q (hs _ _))
def rIxL (K : PySem.W.Frag) : R2 := fun x y H Q => ∃ p xs i v, x = .ref p ∧ y = .int i ∧ SqL K H p xs ∧ atI xs i = some v ∧ Q v H
def rIxS : R2 := fun x y H Q => ∃ z i c, x = .str z ∧ y = .int i ∧ z.length ≤ sizeLine ∧ atI z.cps.toList i = some c ∧ Q (.str ⟨#[c]⟩) H
theorem ix_list : IxR X (rIxL X.K) := by
  intro value slice pins s σ H x y v u Q I rx ry h hs
  obtain ⟨p, xs, i, z, rfl, rfl, hq, he, q⟩ := h
  cases rx
  obtain ⟨t, rfl⟩ := ry
  obtain ⟨its, r, pl, hz⟩ := I.list hq
  obtain ⟨j, h1, h2, h3, h4, h5⟩ := atI_get he
  obtain ⟨w, ew, rw'⟩ := r.get h2
  have hl := r.length
  have hn := line63
  have fin : EP X pins σ Q w s := ⟨z, H, I, rw', q⟩
  by_cases h0 : 0 ≤ i
  · have hj : i.toNat = j := by
      rw [seqIndex_of h0 h5] at h1
      exact Option.some.inj h1
    exact item_listR pl.isList h0 (by omega) (by rw [hj]; simpa using ew) fin hs
  · have hj : (i + (its.toArray.size : Int)).toNat = j := by
      rw [seqIndex_neg (by omega) h4] at h1
      rw [List.size_toArray, ← hl]
      exact Option.some.inj h1
    exact subscriptTail_builtinR (x := w) pl.isList.typeIs slot_list_getitem.lookup
      (wpAny_getItem_list_neg (Q := fun r s' => r = w ∧ EP X pins σ Q r s') pl.isList (by omega) (by rw [List.size_toArray] <;> omega) (by omega) (by rw [hj]; simpa using ew) ⟨rfl, fin⟩) hs
theorem ix_str : IxR X rIxS := by
  intro value slice pins s σ H x y v u Q I rx ry h hs
  obtain ⟨z, i, c, rfl, rfl, hz, he, q⟩ := h
  obtain ⟨t, rfl⟩ := rx
  obtain ⟨t', rfl⟩ := ry
  obtain ⟨j, h1, h2, h3, h4, h5⟩ := atI_get he
  have hl : z.cps.toList.length = z.length := by simp [Str.length]
  rw [hl] at h1 h4 h5
  have hn := line63
  exact tail_any (typeIs_str s z t) slot_str_getitem.lookup (getItem_str (c := c) (by
    have e1 : decide (i < -(2 ^ 63 : Int)) = false := decide_eq_false (by omega)
    have e2 : decide (i ≥ 2 ^ 63) = false := decide_eq_false (by omega)
    rw [e1, e2, Bool.or_false]) (by rw [h1]; simpa using h2) ⟨.str ⟨#[c]⟩, H, I.tok _, ⟨_, rfl⟩, q⟩) hs
theorem Inv.lst {pins : List (Addr × Obj)} {σ : St} {H : Hp} {s : Shared} {p : Addr} {xs : List V} (I : Inv X pins σ H s) (h : H p = some (.lst xs)) :
    ∃ (its : List Value) (n : Nat), Vals xs its ∧ s.heap.get? p = some { cls := .type "list", data := .seq its.toArray n } ∧ xs.length ≤ sizeLine := by
  obtain ⟨z, its, n, r, e⟩ := I.hok p _ h
  exact ⟨its, n, r, e, z⟩
def flatV : V → Bool
  | .non => true
  | .bl _ => true
  | .int _ => true
  | .str _ => true
  | _ => false
def eqV : V → V → Bool
  | .non, .non => true
  | .bl a, .bl b => a == b
  | .bl a, .int b => (if a then 1 else 0) == b
  | .int a, .bl b => a == (if b then 1 else 0)
  | .int a, .int b => a == b
  | .str a, .str b => a == b
  | _, _ => false
theorem eqAt_V {A : Around} {s : Shared} {y x : V} {u v : Value} (ry : RelV y u) (rx : RelV x v) (fy : flatV y = true) (fx : flatV x = true) : SeqAt.EqAt A s u v (eqV y x) := by
  cases y with
  | non =>
    cases ry
    cases x with
    | non => cases rx; exact SeqAt.EqAt.same _
    | bl b => cases rx; exact SeqAt.EqAt.none_bool b
    | int b => obtain ⟨t, rfl⟩ := rx; exact SeqAt.EqAt.none_int b t
    | str b => obtain ⟨t, rfl⟩ := rx; exact SeqAt.EqAt.none_str b t
    | _ => exact absurd (show false = true from fx) Bool.false_ne_true
  | bl a =>
    cases ry
    cases x with
    | non => cases rx; exact SeqAt.EqAt.bool_none a
    | bl b => cases rx; exact SeqAt.EqAt.bool_bool a b
    | int b => obtain ⟨t, rfl⟩ := rx; exact SeqAt.EqAt.bool_int a b t
    | str b => obtain ⟨t, rfl⟩ := rx; exact SeqAt.EqAt.bool_str a b t
    | _ => exact absurd (show false = true from fx) Bool.false_ne_true
  | int a =>
    obtain ⟨t', rfl⟩ := ry
    cases x with
    | non => cases rx; exact SeqAt.EqAt.int_none a t'
    | bl b => cases rx; exact SeqAt.EqAt.int_bool a t' b
    | int b => obtain ⟨t, rfl⟩ := rx; exact SeqAt.EqAt.int_int a t' b t
    | str b => obtain ⟨t, rfl⟩ := rx; exact SeqAt.EqAt.int_str a t' b t
    | _ => exact absurd (show false = true from fx) Bool.false_ne_true
  | str a =>
    obtain ⟨t', rfl⟩ := ry
    cases x with
    | non => cases rx; exact SeqAt.EqAt.str_none a t'
    | bl b => cases rx; exact SeqAt.EqAt.str_bool a t' b
    | int b => obtain ⟨t, rfl⟩ := rx; exact SeqAt.EqAt.str_int a t' b t
    | str b => obtain ⟨t, rfl⟩ := rx; exact SeqAt.EqAt.str_str a t' b t
    | _ => exact absurd (show false = true from fx) Bool.false_ne_true
  | _ => exact absurd (show false = true from fy) Bool.false_ne_true
def eqU (x : V) (u : Value) : Bool := match u with
  | .none => eqV .non x
  | .bool b => eqV (.bl b) x
  | .int i _ => eqV (.int i) x
  | .str z _ => eqV (.str z) x
  | _ => false
theorem eqU_of {x y : V} {u : Value} (r : RelV y u) (f : flatV y = true) : eqU x u = eqV y x := by
  cases y with
  | non => cases r; rfl
  | bl b => cases r; rfl
  | int i => obtain ⟨t, rfl⟩ := r; rfl
  | str z => obtain ⟨t, rfl⟩ := r; rfl
  | _ => exact absurd (show false = true from f) Bool.false_ne_true
theorem any_eqU {x : V} : ∀ {xs : List V} {us : List Value}, Vals xs us → xs.all flatV = true → us.any (eqU x) = xs.any fun y => eqV y x
  | _, _, .nil, _ => rfl
  | y :: xs, u :: us, .cons r t, f => by
    rw [List.all_cons, Bool.and_eq_true] at f
    rw [List.any_cons, List.any_cons, eqU_of r f.1, any_eqU t f.2]
theorem mem_eqAt {A : Around} {s : Shared} {x : V} {v : Value} (rx : RelV x v) (fx : flatV x = true) : ∀ {xs : List V} {us : List Value}, Vals xs us → xs.all flatV = true → ∀ u ∈ us, SeqAt.EqAt A s u v (eqU x u)
  | _, _, .nil, _ => fun u hu => by cases hu
  | y :: xs, u :: us, .cons r t, f => fun u' hu => by
    rw [List.all_cons, Bool.and_eq_true] at f
    rcases List.mem_cons.mp hu with rfl | hu
    · rw [eqU_of r f.1]; exact eqAt_V r rx f.1 fx
    · exact mem_eqAt rx fx t f.2 u' hu
def inV (x : V) (xs : List V) : Bool := xs.any fun y => eqV y x
def rIn (K : PySem.W.Frag) (neg : Bool) : R2 := fun x y H Q => ∃ p xs, y = .ref p ∧ (SqL K H p xs ∨ SqT K H p xs) ∧ flatV x = true ∧ xs.all flatV = true ∧ Q (.bl (if neg then !inV x xs else inV x xs)) H
theorem op_in_seq : OpR X (compareOp .In) (rIn X.K false) := by
  intro pins s σ H x y v u Q I rx ry h
  obtain ⟨p, xs, rfl, hq, fx, fs, q⟩ := h
  cases ry
  rcases hq with hq | hq
  · obtain ⟨its, r, pl, hz⟩ := I.list hq
    refine SeqAt.in_listAt (eqU x) pl.isList (fun w hw => mem_eqAt rx fx r fs w (by simpa using hw)) ⟨.bl _, H, I, rfl, ?_⟩
    rw [show its.toArray.any (eqU x) = its.any (eqU x) by simp, any_eqU r fs]
    exact q
  · obtain ⟨its, r, pl, hz⟩ := I.tuple hq
    refine SeqAt.in_tupleAt (eqU x) pl (fun w hw => mem_eqAt rx fx r fs w (by simpa using hw)) ⟨.bl _, H, I, rfl, ?_⟩
    rw [show its.toArray.any (eqU x) = its.any (eqU x) by simp, any_eqU r fs]
    exact q
theorem call_len_seq : CallR X (.builtin "len") (fun xs H Q => ∃ p ys, xs = [.ref p] ∧ (SqL X.K H p ys ∨ SqT X.K H p ys) ∧ Q (.int ys.length) H) := by
  intro pins s σ H xs us Q I r h
  obtain ⟨p, ys, rfl, hq, q⟩ := h
  obtain ⟨u, rfl, rx⟩ := vals1 r
  cases rx
  have hn := line63
  rcases hq with hq | hq
  · obtain ⟨its, r', pl, hz⟩ := I.list hq
    have hlen := r'.length
    exact Calls.call_len_list pl.isList (by simp only [List.size_toArray] <;> omega) ⟨.int ys.length, H, I.tok _, ⟨s.toks + 1, by rw [List.size_toArray, hlen]⟩, q⟩
  · obtain ⟨its, r', pl, hz⟩ := I.tuple hq
    have hlen := r'.length
    exact len_tuple pl (by simp only [List.size_toArray] <;> omega) ⟨.int ys.length, H, I.tok _, ⟨s.toks + 1, by rw [List.size_toArray, hlen]⟩, q⟩
def tyV (K : PySem.W.Frag) (T : String) (x : V) (H : Hp) : Prop := match x with
  | .str _ => T = "str"
  | .int _ => T = "int"
  | .ref p => (T = "list" ∧ ∃ xs, SqL K H p xs) ∨ (T = "tuple" ∧ ∃ o, K.lookup p = some o ∧ o.cls = .type "tuple" ∧ o.dict = none) ∨
      (T = "dict" ∧ ((∃ kvs, H p = some (.dK kvs)) ∨ ∃ kvs, H p = some (.dT kvs))) ∨ (T = "set" ∧ ∃ S n, H p = some (.set S n))
  | _ => False
theorem tyV_is {pins : List (Addr × Obj)} {σ : St} {H : Hp} {s : Shared} {T : String} {x : V} {v : Value} (I : Inv X pins σ H s) (r : RelV x v) (ty : tyV X.K T x H) :
    s.TypeIs v T ∧ ∀ a, v = .ref a → ∃ ob, s.heap.get? a = some ob ∧ ob.dict = none := by
  cases x with
  | str z =>
    obtain ⟨t, rfl⟩ := r
    cases (show T = "str" from ty)
    exact ⟨typeIs_str s z t, fun _ e => nomatch e⟩
  | int i =>
    obtain ⟨t, rfl⟩ := r
    cases (show T = "int" from ty)
    exact ⟨typeIs_int s i t, fun _ e => nomatch e⟩
  | ref p =>
    cases r
    rcases ty with ⟨rfl, xs, hq⟩ | ⟨rfl, o, hk, hc, hd⟩ | ⟨rfl, hk⟩ | ⟨rfl, S, n, hk⟩
    · obtain ⟨its, _, pl, _⟩ := I.list hq
      refine ⟨pl.isList.typeIs, fun a e => ?_⟩
      cases e
      obtain ⟨o, n, e, c, hd, _⟩ := pl
      exact ⟨o, e, hd⟩
    · refine ⟨⟨o, I.kIn p o hk, hc⟩, fun a e => ?_⟩
      cases e
      exact ⟨o, I.kIn _ o hk, hd⟩
    · have z : ∃ o, s.heap.get? p = some o ∧ o.ExactDict := by
        rcases hk with ⟨kvs, hk⟩ | ⟨kvs, hk⟩
        · obtain ⟨_, _, _, _, o, _, _, e, ex, _⟩ := I.hok p _ hk
          exact ⟨o, e, ex⟩
        · obtain ⟨_, _, _, _, o, _, _, e, ex, _⟩ := I.hok p _ hk
          exact ⟨o, e, ex⟩
      obtain ⟨o, e, ex⟩ := z
      refine ⟨⟨o, e, ex.1⟩, fun a e2 => ?_⟩
      cases e2
      exact ⟨o, e, ex.2.1⟩
    · obtain ⟨o, _, _, _, e, ex, _⟩ := I.hok p _ hk
      refine ⟨⟨o, e, ex.1⟩, fun a e2 => ?_⟩
      cases e2
      exact ⟨o, e, ex.2.1⟩
  | _ => exact False.elim ty
def tBM (K : PySem.W.Frag) (T : String) (r : V → List V → Hp → VK → Prop) (to : TE) (t : TA) : TE := fun σ H Q => to σ H fun x H1 => tyV K T x H1 ∧ t σ H1 fun xs H2 => r x xs H2 Q
variable {o e : Expr} {es : List Expr} {to : TE} {t : TA} {name : Str} {apos cpos : Pos} {T id : String} {r : V → List V → Hp → VK → Prop}
theorem pe_bm (pa : PlainAttrs T) (slot : Slot T name id) (hty : typeOf (.builtin id) = pure (.type "method_descriptor")) (hm : MtR X id r) (ho : PE X o to) (ha : PA X (e :: es) t)
    (hbase : attributeBase o name X.env (eval o X.env) = eval o X.env := by rfl)
    (hfew : ((backTo cpos (starEach (e :: es) X.env)).all (fun x => !x.1) && (backToKw cpos (keywordEach [] X.env)).all (fun x => x.1.isSome)
      && decide ((e :: es).length + ([] : List Keyword).length + (if ([] : List Keyword).isEmpty then 0 else 1) < 30)) = true := by rfl)
    (hline : (apos.endLine == cpos.line) = true := by rfl) (hs : starEach (e :: es) X.env = (false, eval e X.env) :: starEach es X.env := by rfl) (hplain : (backTo cpos (starEach es X.env)).any (·.1) = false := by rfl) :
    PE X (.Call (.Attribute o name apos) (e :: es) [] cpos) (tBM X.K T r to t) := by
  intro pins s σ H Q I h
  refine wpAny_Call_method_late hbase hfew hline rfl (thn (ho pins s σ H _ I h) fun v s1 zz => ?_)
  obtain ⟨x, H1, I1, r1, ty, q1⟩ := zz
  obtain ⟨h1, h2⟩ := tyV_is I1 r1 ty
  refine ⟨T, id, pa, slot, hty, h1, h2, ?_⟩
  have hA := ha cpos pins s1 σ H1 _ I1 q1
  rw [hs] at hA ⊢
  refine Calls.callWith_builtin (by show (false || (backTo cpos (starEach es X.env)).any (·.1)) = false; rw [hplain] <;> rfl) (Calls.evalArgs_plain ?_)
  exact thn hA fun us s2 zz => (by obtain ⟨vs, H2, I2, r2, q2⟩ := zz; exact hm pins s2 σ H2 x vs v us Q I2 r1 r2 q2)
end
end L2
namespace L2
open PySem PySem.Spec PyProof.Rows
def MtM (X : Cx) (id : String) (r : V → List V → Hp → VK → Prop) : Prop :=
  ∀ (pins : List (Addr × Obj)) (s : Shared) (σ : St) (H : Hp) (x : V) (xs : List V) (v : Value) (us : List Value) (Q : VK), Inv X pins σ H s → RelV x v → Vals xs us → r x xs H Q →
    wpAny (model X.prog X.w) X.A (call (.builtin id) (v :: us)) (EP X pins σ Q) X.xe s
theorem Vals.one : ∀ {x : V} {us : List Value}, Vals [x] us → ∃ u, us = [u] ∧ RelV x u
  | _, _, .cons r .nil => ⟨_, rfl, r⟩
theorem Vals.eraseIdx : ∀ {xs : List V} {us : List Value} (i : Nat), Vals xs us → Vals (xs.eraseIdx i) (us.eraseIdx i)
  | _, _, _, .nil => .nil
  | _, _, 0, .cons _ t => t
  | _, _, i + 1, .cons r t => .cons r (Vals.eraseIdx i t)
theorem Vals.reverse {xs : List V} {us : List Value} (h : Vals xs us) : Vals xs.reverse us.reverse := by
  induction h with
  | nil => exact .nil
  | cons r t ih => rw [List.reverse_cons, List.reverse_cons]; exact Vals.append ih (.cons r .nil)
section
variable {X : Cx} {pins : List (Addr × Obj)} {σ : St} {H : Hp} {s : Shared} {l b : Addr} {xs ys zs : List V}
theorem Inv.lset {its its' : List Value} {n : Nat} {f : Array Value → Array Value} {t' : Nat} (I : Inv X pins σ H s) (hH : H l = some (.lst xs))
    (e : s.heap.get? l = some { cls := .type "list", data := .seq its.toArray n }) (hf : f its.toArray = its'.toArray) (hv : Vals ys its') (hz : ys.length ≤ sizeLine) :
    Inv X pins σ (upd H l (.lst ys)) { s with heap := s.heap.update l (Obj.mapSeq f), toks := t' } := by
  have q := PySem.IsL.update e f
  rw [hf] at q
  refine I.write (x := l) (e := l) (by rw [hH]; exact trivial) (.inl rfl) (fun b' u hb hu => (Heap.get?_update_other s.heap (Obj.mapSeq f) (Ne.symm hb)).trans hu) ⟨_, q⟩ ?_
  exact ⟨hz, its', _, hv, q⟩
theorem Inv.lnew {its : List Value} {t' : Nat} (I : Inv X pins σ H s) (hv : Vals ys its) (hz : ys.length ≤ sizeLine) :
    Inv X pins σ (upd H s.heap.objs.size (.lst ys)) { s with heap := s.heap.push { cls := .type "list", data := .seq its.toArray }, toks := t' } :=
  I.laid (fun _ _ q => Heap.get?_push_of_some _ q) (Nat.le_refl _) ⟨hz, its, 0, hv, Heap.get?_push_size _ rfl⟩
theorem Inv.fresh (I : Inv X pins σ H s) : H s.heap.objs.size = none := I.hok.fresh (Nat.le_refl _)
theorem Inv.lstM (I : Inv X pins σ H s) (hH : H l = some (.lst xs)) : xs.length ≤ sizeLine ∧ ∃ (its : List Value) (n : Nat), Vals xs its ∧ xs.length = its.length ∧ s.heap.get? l = some { cls := .type "list", data := .seq its.toArray n } := by
  obtain ⟨z, its, n, r, e⟩ := I.hok l _ hH
  exact ⟨z, its, n, r, r.length, e⟩
end
section
variable {X : Cx}
def rAppend : V → List V → Hp → VK → Prop := fun x vs H Q => ∃ l xs y, x = .ref l ∧ vs = [y] ∧ H l = some (.lst xs) ∧ xs.length < sizeLine ∧ Q .non (upd H l (.lst (xs ++ [y])))
theorem mt_append : MtM X "list.append" rAppend := by
  intro pins s σ H x vs v us Q I rx rv h
  obtain ⟨l, xs, y, rfl, rfl, hH, hz, q⟩ := h
  cases rx
  obtain ⟨u, rfl, ru⟩ := rv.one
  obtain ⟨z, its, n, r, hl, e⟩ := I.lstM hH
  refine call_meets F.slot_list_append ⟨_, e, rfl⟩ F.entry_list_append (F.args_list_append_2 _ _) (PySem.list_append l its.toArray n u (by rw [List.size_toArray]; omega)) ⟨e, ?_⟩
  refine ⟨.non, _, I.lset (its' := its ++ [u]) hH e (by simp) (r.append (.cons ru .nil)) ?_, rfl, q⟩
  rw [List.length_append, List.length_singleton]
  omega
def rCat : R2 := fun x y H Q => ∃ l b xs zs, x = .ref l ∧ y = .ref b ∧ H l = some (.lst xs) ∧ H b = some (.lst zs) ∧ xs.length + zs.length ≤ sizeLine ∧ ∀ p, H p = none → Q (.ref p) (upd H p (.lst (xs ++ zs)))
theorem op_cat : OpR X (binaryOp .Add) rCat := by
  intro pins s σ H x y v u Q I rx ry h
  obtain ⟨l, b, xs, zs, rfl, rfl, hH, hB, hz, q⟩ := h
  cases rx
  cases ry
  obtain ⟨z, its, n, r, hl, e⟩ := I.lstM hH
  obtain ⟨z2, its2, n2, r2, hl2, e2⟩ := I.lstM hB
  refine PySem.P.add_list e e2 ?_ (by rw [List.size_toArray, List.size_toArray]; omega)
  have ea : its.toArray ++ its2.toArray = (its ++ its2).toArray := by simp
  rw [ea]
  exact ⟨.ref _, _, I.lnew (t' := s.toks) (r.append r2) (by rw [List.length_append]; omega), rfl, q _ I.fresh⟩
end
end L2
namespace Att
open PySem PySem.W PySem.Calls PyProof.Rows
theorem ints_of_wellAll {P : Params} {h : Heap} : ∀ (ns : List Int) (vs : List Value), WellAll P h vs (ns.map WData.int) → IntsAre vs ns := by
  intro ns
  induction ns with
  | nil =>
    intro vs w
    rw [List.map_nil] at w
    cases w
    exact .nil
  | cons n ns ih =>
    intro vs w
    rw [List.map_cons] at w
    cases w with
    | cons a b =>
      cases a
      exact .cons _ _ (ih _ b)
theorem script_of {l : OpenLaw} {n : Nat} (hn : l.most = some n) {P : Params} {h : Heap} {args : List WData} {vals : List Value}
    (hpre : l.row.toRowW.claim.pre args = true) (hwl : WellAll P h vals args) :
    ∃ a vs ns, vals = [Value.ref a] ∧ args = [WData.list (ns.map WData.int)] ∧ h.get? a = some { cls := .type "list", data := .seq vs.toArray } ∧ IntsAre vs ns ∧ ns.length ≤ n := by
  have hsh : WShape.hasAll [] args [.list .int] = true := (pre_splitW hpre).1
  have hc : l.pre.holds [] { args := args } = true := (pre_splitW hpre).2
  obtain ⟨d, r, rfl, h1, h2⟩ := hasAllW_cons hsh
  obtain rfl := hasAllW_nil h2
  obtain ⟨xs, rfl, h3⟩ := hasW_list h1
  obtain ⟨ns, rfl⟩ := items_int h3
  have hlen : ns.length ≤ n := by
    unfold OpenLaw.pre at hc
    have h4 : (WTm.not (.lt (.lit (.int (n : Int))) (.len (.arg 0)))).holds [] { args := [.list (ns.map .int)] } = true := by
      have h4 := (holds_andW hc).1
      rw [hn] at h4
      exact h4
    have h5 := condW_of h4 (w_not (w_lt w_lit (w_len_list (w_arg rfl))))
    rw [List.length_map] at h5
    refine Nat.le_of_not_lt fun q => ?_
    have q' : (n : Int) < ((ns.length : Nat) : Int) := by omega
    first
      | (rw [decide_eq_true q'] at h5; exact absurd h5 (by decide))
      | (simp at h5; omega)
  cases hwl with
  | cons w1 w2 =>
    cases w2
    cases w1 with
    | list ho hall => exact ⟨_, _, ns, rfl, rfl, ho, ints_of_wellAll ns _ hall, hlen⟩
theorem post_true (l : OpenLaw) (args : List WData) : l.row.toRowW.claim.post args (.bool true) args = true :=
  postW_of (r := l.row.toRowW) (X := (true == true))
    (show WShape.has [] (.bool true) .bool = true by first | rfl | decide | simp [WShape.has, WShape.arms, WShape.armsAll])
    (show (WTm.eq .res (.lit (.bool true))).value [] { args := args, res := some (.bool true), after := args } = some (.bool (true == true)) from w_eq_bool (w_res rfl) w_lit) rfl
theorem attach_call {l : OpenLaw} {n : Nat} {q : Program} {loose : List Str} {XP : (Str → Option Value) → Heap → Prop} {YP : World → Heap → Prop} {d : DefRec}
    (hn : l.most = some n) (hdf : d.params.defaults = [])
    (call : ∀ (w : World) (s₀ s₁ : Shared) (mg mb : Str → Option Value) (fa : Addr) (o : Obj) (pm cd doc : Value) (a : Addr) (vs : List Value) (ns : List Int),
      Ground q loose [] XP w s₀ mg mb s₁.heap → YP w s₁.heap →
      s₁.heap.get? fa = some o → o.data = .func (docDef d.name d.params d.body d.scope pm cd doc) → s₁.heap.CodeRec cd d.name → mg d.name = some (.ref fa) →
      s₁.heap.get? a = some { cls := .type "list", data := .seq vs.toArray } → IntsAre vs ns → ns.length ≤ n → s₁.gens = #[] →
      codeAny (model l.prog w) callerA (.call (.ref fa) ⟨[.ref a], []⟩) (fun r s' => r = .ok (.ret (.bool true)) ∧ OldK s₁.heap s'.heap ∧ s'.os = s₁.os ∧ AllBare s'.gens) s₁) :
    WalkO q loose XP YP l.row.toRowW d [] (fun f vs => PySem.call f vs) := by
  intro w s₀ s₁ mg mb G Y fa o pm cd doc dV kV ho hd hcd hD hmg hg args vals as hpre hlay hrd hwl hlo
  obtain rfl : dV = .none := Dflts.none hD hdf
  obtain rfl : kV = .none := Dflts.noKw hD
  obtain ⟨a, vs, ns, rfl, rfl, hobj, hints, hlen⟩ := script_of hn hpre hwl
  refine enter_call (codeAny_mono (call w s₀ s₁ mg mb fa o pm cd doc a vs ns G Y ho (fd_plain hd) hcd hmg hobj hints hlen hg) fun r s' hq => ?_)
  obtain ⟨rfl, h2, h3, h4⟩ := hq
  exact ⟨.inl ⟨.bool true, .bool true, [], rfl, fun _ => rfl, .bool true, post_true l _, fun _ => ⟨List.Pairwise.nil, fun _ hm => (nomatch hm)⟩⟩, h2, h3, h4⟩
end Att
namespace L2
open PySem PySem.Spec PyProof.Rows
theorem vals_ints : ∀ {vs : List Value} {ns : List Int}, IntsAre vs ns → Vals (ns.map V.int) vs
  | _, _, .nil => .nil
  | _, _, .cons n t h => .cons ⟨t, rfl⟩ (vals_ints h)
def Only (H : Hp) : Prop := ∀ b, H b = none ∨ ∃ o xs, H b = some (.frz o (.lst xs))
theorem law_call {P : Program} {w : World} {K : PySem.W.Frag} {mg mb : Str → Option Value} {CX : CXT} {k : Nat} {fa a : Addr} {fd : FuncData} {x : Str} {sp : Sp} {s₁ : Shared} {vs : List Value} {ns : List Int}
    (KX : K.In s₁.heap) (hns : s₁.heap.Ns mainGlobals mg) (hb : s₁.heap.Ns builtinsNs mb) (hbb : ∀ x : Str, x ≠ "__name__" → mb x = bootBuiltins x) (hlim : s₁.heap.NoLimit) (hg : s₁.gens = #[])
    (ha : s₁.heap.get? a = some { cls := .type "list", data := .seq vs.toArray }) (hi : IntsAre vs ns) (hl : ns.length ≤ sizeLine) (hr : Room k callerA)
    (F : ∀ base : Heap, K.In base → base.Ns mainGlobals mg → FnOk P w K mg base CX k fa fd [x] sp) (hbind : ∀ (s : Shared) (u : Value), BindsTo s fd ⟨[u], []⟩ [(x, u)])
    (hsp : ∀ H : Hp, Only H → SqL K H a (ns.map V.int) → sp [.ref a] H (fun v _ => v = .bl true) fun _ _ _ => False)
    (hCX : ∀ H e s', CX [] H s₁ (fun _ _ _ => False) e s' → False) :
    codeAny (model P w) callerA (.call (.ref fa) ⟨[.ref a], []⟩) (fun r s' => r = .ok (.ret (.bool true)) ∧ OldK s₁.heap s'.heap ∧ s'.os = s₁.os ∧ AllBare s'.gens) s₁ := by
  have rv := vals_ints hi
  have lenV := hi.length
  -- from an abstract heap in which nothing but the script may be tracked
  have core : ∀ H : Hp, Only H → SqL K H a (ns.map V.int) → HOk P w H s₁.heap → (∀ b, H b ≠ none → b = a) → (H a ≠ none → K.lookup a = none) →
      codeAny (model P w) callerA (.call (.ref fa) ⟨[.ref a], []⟩) (fun r s' => r = .ok (.ret (.bool true)) ∧ OldK s₁.heap s'.heap ∧ s'.os = s₁.os ∧ AllBare s'.gens) s₁ := by
    intro H hO hS hok hA hK
    have base_of : ∀ {b : Addr} {o : Obj}, s₁.heap.get? b = some o → H b = none → (hidT s₁.heap H).get? b = some o := fun e n => hidT_get e n
    have noA : ∀ {b : Addr} {o : Obj} {es : Array DictEntry} {ep : Nat}, s₁.heap.get? b = some o → o.data = .dict es ep → H b = none := fun {b o es ep} e d => by
      cases q : H b with
      | none => rfl
      | some u =>
        have e' : b = a := hA b (by rw [q]; simp)
        subst e'
        rw [ha] at e; cases e
        have d' : Data.seq vs.toArray _ = Data.dict es ep := d
        cases d'
    have nsK : ∀ {b : Addr} {m : Str → Option Value}, s₁.heap.Ns b m → (hidT s₁.heap H).Ns b m := fun {b m} ⟨o, es, ep, e, d, r⟩ => ⟨o, es, ep, base_of e (noA e d), d, r⟩
    have hKb : K.In (hidT s₁.heap H) := fun b o e => base_of (KX b o e) (by
      cases q : H b with
      | none => rfl
      | some u =>
        have e' : b = a := hA b (by rw [q]; simp)
        subst e'
        rw [hK (by rw [q]; simp)] at e; cases e)
    have hM : Mod K mg (hidT s₁.heap H) := ⟨hKb, nsK hns, ⟨mb, nsK hb, hbb⟩, let ⟨mc, h1, h2⟩ := hlim; ⟨mc, nsK h1, h2⟩⟩
    have e0 : Env0 P w K mg (hidT s₁.heap H) callerA [] s₁ H := ⟨rfl, hM, fun b o e => of_hidT e, Nat.le_of_eq (hidT_size _ _), trivial, fun b hb => absurd (show b ∈ ([] : List Addr) from hb) (by simp), hok, .of_eq hg⟩
    refine codeAny_mono ((F _ hKb (nsK hns)).run callerA [] s₁ H ⟨[.ref a], []⟩ [.ref a] [.ref a] _ _ hr e0 (hbind s₁ (.ref a)) (.cons rfl .nil) (hsp H hO hS)) fun r s' h => ?_
    cases r with
    | error e => exact (hCX H e s' h).elim
    | ok fl =>
      cases fl with
      | next => exact False.elim h
      | brk => exact False.elim h
      | cont => exact False.elim h
      | ret u =>
        obtain ⟨v, H', os, bare, un, hok', r', q⟩ := h
        have q' : v = .bl true := q
        subst q'
        obtain rfl : u = Value.bool true := r'
        refine ⟨rfl, OldK.of_keep fun b o e => ?_, os, bare⟩
        cases q : H b with
        | none => exact un.keep b o e q (by intro z; exact absurd (show b ∈ ([] : List Addr) from z) (by simp)) (by simp)
        | some u =>
          rcases hO b with z | ⟨ob, xs, z⟩
          · rw [q] at z; cases z
          · have z2 := un.frzs b ob _ z
            obtain ⟨e1, _⟩ := hok b _ z
            obtain ⟨e2, _⟩ := hok' b _ z2
            rw [e] at e1; cases e1
            exact e2
  cases hk : K.lookup a with
  | some o =>
    -- the script is one of the module's own objects
    have e := KX a o hk
    rw [ha] at e
    cases e
    refine core (fun _ => none) (fun _ => .inl rfl) (.inr ⟨_, vs.toArray, _, hk, rfl, rfl, rfl, by rw [List.size_toArray, lenV]; exact hl, by simpa using rv⟩) (fun b u z => by have z' : (none : Option HO) = some u := z; cases z') (fun b z => absurd rfl z) fun z => absurd rfl z
  | none =>
    refine core (fun b => if b = a then some (.frz { cls := .type "list", data := .seq vs.toArray } (.lst (ns.map V.int))) else none) (fun b => ?_) (.inl (.inr ⟨{ cls := .type "list", data := .seq vs.toArray }, if_pos rfl⟩)) (fun b u z => ?_) (fun b z => ?_) fun _ => hk
    · by_cases hb : b = a
      · exact .inr ⟨_, _, if_pos hb⟩
      · exact .inl (if_neg hb)
    · by_cases hb : b = a
      · have z' := (if_pos hb).symm.trans z
        cases z'
        subst hb
        exact ⟨ha, by rw [List.length_map]; exact hl, vs, _, rv, ha⟩
      · have z' := (if_neg hb).symm.trans z
        cases z'
    · by_cases hb : b = a
      · exact hb
      · exact absurd (if_neg hb) z
end L2
namespace L2
open PySem PySem.Spec PyProof.Rows
theorem walk_of {l : PySem.W.OpenLaw} {n k : Nat} {q : Program} {loose : List Str} {XP : (Str → Option Value) → Heap → Prop} {YP : World → Heap → Prop} {d : DefRec} {K : Params → PySem.W.Frag} {CX : World → CXT} {sp : World → Sp} {x : Str}
    (hn : l.most = some n) (hn2 : n ≤ sizeLine) (hdf : d.params.defaults = []) (hr : Room k callerA)
    (hY : ∀ (w : World) (h : Heap), YP w h → (K w.params).In h)
    (F : ∀ (w : World) (mg : Str → Option Value) (fa : Addr) (h : Heap), (K w.params).In h → h.Ns mainGlobals mg → mg d.name = some (.ref fa) →
      ∃ fd : FuncData, (∀ (s : Shared) (u : Value), BindsTo s fd ⟨[u], []⟩ [(x, u)]) ∧
        ∀ base : Heap, (K w.params).In base → base.Ns mainGlobals mg → FnOk l.prog w (K w.params) mg base (CX w) k fa fd [x] (sp w))
    (hsp : ∀ (w : World) (H : Hp) (a : Addr) (ns : List Int), ns.length ≤ n → Only H → SqL (K w.params) H a (ns.map V.int) → sp w [.ref a] H (fun v _ => v = .bl true) fun _ _ _ => False)
    (hCX : ∀ (w : World) (H : Hp) (s : Shared) (e : Value) (s' : Shared), CX w [] H s (fun _ _ _ => False) e s' → False) :
    PySem.W.WalkO q loose XP YP l.row.toRowW d [] (fun f vs => PySem.call f vs) := by
  refine Att.attach_call hn hdf fun w s₀ s₁ mg mb fa o pm cd doc a vs ns G Y ho hd hcd hmg hobj hints hlen hg => ?_
  have KX := hY w _ Y
  obtain ⟨fd, hb, hF⟩ := F w mg fa _ KX G.T.g hmg
  exact law_call KX G.T.g G.T.b G.T.builtins G.T.nolimit hg hobj hints (Nat.le_trans hlen hn2) hr hF hb (fun H hO hS => hsp w H a ns hlen hO hS) fun H e s' => hCX w H s₁ e s'
end L2
namespace L2
open PySem PySem.Spec PyProof.Rows
def inClass (s : Stmt) (j : Nat) : Stmt := match s with
  | .ClassDef _ _ _ body _ _ _ _ _ _ _ => body.getD j (.Pass ⟨0, 0, 0, 0⟩)
  | _ => .Pass ⟨0, 0, 0, 0⟩
def defArgs (s : Stmt) : Arguments := match s with
  | .FunctionDef _ a _ _ _ _ _ _ _ _ => a
  | _ => { posonlyargs := [], args := [], vararg := none, kwonlyargs := [], kw_defaults := [], kwarg := none, defaults := [] }
def defBody (s : Stmt) : List Stmt := match s with
  | .FunctionDef _ _ b _ _ _ _ _ _ _ => b
  | _ => []
def defScope (s : Stmt) : Scope := match s with
  | .FunctionDef _ _ _ _ _ _ sc _ _ _ => sc
  | _ => { kind := .function, names := [], isGenerator := false, isCoroutine := false }
abbrev CX0 : CXT := fun _ _ _ _ _ _ => False
abbrev E0 : XK := fun _ _ _ => False
theorem pass0 {X : Cx} : Passes CX0 X E0 := fun _ _ _ _ _ _ _ h => h.elim
structure Fun (K : PySem.W.Frag) (x qual : Str) (st : Stmt) (f : Addr) (fd : FuncData) : Prop where
  ex : ∃ (oc : Value) (od : Option Addr) (kV doc pm : Value) (an : Option Addr) (cdv ct : Value) (osl : Array (Option Value)),
    fd = PySem.W.fnOf x qual (defArgs st) (defBody st) (defScope st) .none kV doc pm an cdv ct ∧ K.lookup f = some ⟨oc, od, .func fd, osl⟩ ∧ PySem.W.codeIn K cdv qual = true
  kp : PySem.W.keepIn K (.ref f) = true
section
variable {P : Program} {w : World} {K : PySem.W.Frag} {mg : Str → Option Value} {base : Heap}
theorem Fun.ok {x qual : Str} {st : Stmt} {f : Addr} {fd : FuncData} {N ps : List Str} {k : Nat} {sp : Sp} (F : Fun K x qual st f fd) (S : FnScope N ps (defScope st)) (len : ∀ vs H Q E, sp vs H Q E → vs.length = ps.length)
    (hbody : ∀ (cdv : Value) (A : Around) (outer : List Env) (s : Shared) (H : Hp) (vs : List V) (Q : VK) (E : XK), Room k (A.deeper (envOfC qual (defScope st) s.heap.objs.size f cdv)) → sp vs H Q E →
      ∃ t, PSs (cxOf CX0 P w K mg base N qual (defScope st) f cdv A outer s H E).nox (defBody st) t ∧ t { nx := fun _ H' => Q .non H', rt := Q } (start N vs) H) : FnOk P w K mg base CX0 (k + 1) f fd ps sp := by
  obtain ⟨oc, od, kV, doc, pm, an, cdv, ct, osl, rfl, lk, hcd⟩ := F.ex
  refine fn_of lk hcd S len fun A outer s H vs Q E hr hsp => ?_
  obtain ⟨t, h, q⟩ := hbody cdv A outer s H vs Q E hr hsp
  exact ⟨t, h.nox, q⟩
theorem Fun.binds {x qual : Str} {st : Stmt} {f : Addr} {fd : FuncData} {ps : List Str} (F : Fun K x qual st f fd)
    (h : ∀ (kV doc pm : Value) (an : Option Addr) (cdv ct : Value) (us : List Value), us.length = ps.length → bindArgs (PySem.W.fnOf x qual (defArgs st) (defBody st) (defScope st) .none kV doc pm an cdv ct) ⟨us, []⟩ = pure (ps.zip us)) : Binds K fd ps [] := by
  obtain ⟨oc, od, kV, doc, pm, an, cdv, ct, osl, rfl, lk, hcd⟩ := F.ex
  exact .all (h kV doc pm an cdv ct)
theorem fun_mk {x qual : Str} {st : Stmt} {f : Addr} {oc : Value} {od an : Option Addr} {osl : Array (Option Value)} {kV doc pm cdv ct : Value} (l : K.lookup f = some ⟨oc, od, .func (PySem.W.fnOf x qual (defArgs st) (defBody st) (defScope st) .none kV doc pm an cdv ct), osl⟩)
    (c : PySem.W.codeIn K cdv qual = true) (k : PySem.W.keepIn K (.ref f) = true) : Fun K x qual st f (PySem.W.fnOf x qual (defArgs st) (defBody st) (defScope st) .none kV doc pm an cdv ct) := ⟨⟨oc, od, kV, doc, pm, an, cdv, ct, osl, rfl, l, c⟩, k⟩
end
theorem hu_of {A : Around} {k : Nat} (hr : Room k A) : A.units + 1 < cLine := Nat.lt_of_le_of_lt (Nat.add_le_add_left (by decide : 1 ≤ 64) _) hr.units
section
variable {X : Cx}
theorem pv (i : Nat) {x : Str} {pos : Pos} (hN : X.N[i]? = some x := by rfl) (hv : Vis X.env.scope x := by first | exact Or.inl rfl | exact Or.inr (Or.inl rfl) | exact Or.inr (Or.inr rfl)) (hd : (x == ("__debug__" : Str)) = false := by decide)
    (hcd : (x == ("__classdict__" : Str)) = false := by decide) : PE X (.Name x pos) (tVar i) := pe_var hN hv hd hcd
end
theorem iteF {A B : Prop} (h : B) : if false = true then A else B := by
  rw [if_neg Bool.false_ne_true]
  exact h
theorem iteT {A B : Prop} (h : A) : if true = true then A else B := by
  rw [if_pos rfl]
  exact h
theorem ite2 {c A B : Prop} [Decidable c] (h1 : c → A) (h2 : ¬ c → B) : if c then A else B := by
  by_cases h : c
  · rw [if_pos h]
    exact h1 h
  · rw [if_neg h]
    exact h2 h
def Same (H H' : Hp) : Prop := ∀ b o, H b = some o → H' b = some o
theorem Same.refl (H : Hp) : Same H H := fun _ _ h => h
theorem Same.trans {H H1 H2 : Hp} (a : Same H H1) (b : Same H1 H2) : Same H H2 := fun c o h => b c o (a c o h)
theorem Same.free {H H' : Hp} (e : Same H H') {l : Addr} (h : H' l = Option.none) : H l = Option.none := by
  cases q : H l with
  | none => rfl
  | some o =>
    rw [e l o q] at h
    cases h
theorem Same.seq {K : PySem.W.Frag} {H H' : Hp} {a : Addr} {xs : List V} (e : Same H H') (h : SqL K H a xs) : SqL K H' a xs := by
  rcases h with (h | ⟨o, h⟩) | h
  · exact .inl (.inl (e _ _ h))
  · exact .inl (.inr ⟨o, e _ _ h⟩)
  · exact .inr h
end L2
set_option linter.all false
namespace Fs
abbrev Pr := List Nat
theorem rise_ext {α : Type} {r : α → α → Prop} (irr : ∀ a, ¬ r a a) (asym : ∀ a b, r a b → ¬ r b a) : ∀ {l m : List α}, l.Pairwise r → m.Pairwise r → (∀ x, x ∈ l ↔ x ∈ m) → l = m
  | [], [], _, _, _ => rfl
  | [], b :: m, _, _, h => by have := (h b).mpr List.mem_cons_self; cases this
  | a :: l, [], _, _, h => by have := (h a).mp List.mem_cons_self; cases this
  | a :: l, b :: m, hl, hm, h => by
    have hl' := List.pairwise_cons.mp hl
    have hm' := List.pairwise_cons.mp hm
    have ab : a = b := by
      rcases List.mem_cons.mp ((h a).mp List.mem_cons_self) with e | e
      · exact e
      · rcases List.mem_cons.mp ((h b).mpr List.mem_cons_self) with e' | e'
        · exact e'.symm
        · exact absurd (hm'.1 a e) (asym _ _ (hl'.1 b e'))
    subst ab
    have : l = m := rise_ext irr asym hl'.2 hm'.2 fun x => by
      constructor
      · intro hx
        rcases List.mem_cons.mp ((h x).mp (List.mem_cons_of_mem _ hx)) with e | e
        · subst e; exact absurd (hl'.1 x hx) (irr x)
        · exact e
      · intro hx
        rcases List.mem_cons.mp ((h x).mpr (List.mem_cons_of_mem _ hx)) with e | e
        · subst e; exact absurd (hm'.1 x hx) (irr x)
        · exact e
    rw [this]
theorem plt_irr (a : Pr) : ¬ a < a := List.lt_irrefl a
theorem plt_asym (a b : Pr) (h : a < b) : ¬ b < a := fun h' => plt_irr a (List.lt_trans h h')
structure Vf (F : List Pr) : Prop where
  rise : F.Pairwise (· < ·)
  prod : ∀ p ∈ F, p.Pairwise (· < ·)
theorem rise_nodup {α : Type} {r : α → α → Prop} (irr : ∀ a, ¬ r a a) : ∀ {l : List α}, l.Pairwise r → l.Nodup := fun {l} h => h.imp fun {a b} hab e => by subst e; exact irr _ hab
theorem Vf.nodup {F : List Pr} (h : Vf F) : F.Nodup := rise_nodup plt_irr h.rise
theorem Vf.ext {F G : List Pr} (hF : Vf F) (hG : Vf G) (h : ∀ p, p ∈ F ↔ p ∈ G) : F = G := rise_ext plt_irr plt_asym hF.rise hG.rise h
def worth (ρ : Nat → Bool) : List Pr → Bool
  | [] => false
  | p :: F => xor (p.all ρ) (worth ρ F)
theorem worth_append (ρ : Nat → Bool) : ∀ F G : List Pr, worth ρ (F ++ G) = xor (worth ρ F) (worth ρ G)
  | [], G => by simp [worth]
  | p :: F, G => by
    show xor (p.all ρ) (worth ρ (F ++ G)) = _
    rw [worth_append ρ F G]
    show _ = xor (xor (p.all ρ) (worth ρ F)) (worth ρ G)
    rw [Bool.xor_assoc]
theorem worth_perm (ρ : Nat → Bool) {F G : List Pr} (h : F.Perm G) : worth ρ F = worth ρ G := by
  induction h with
  | nil => rfl
  | cons x _ ih => show xor _ _ = xor _ _; rw [ih]
  | swap x y l => show xor _ (xor _ _) = xor _ (xor _ _); rw [← Bool.xor_assoc, ← Bool.xor_assoc, Bool.xor_comm (y.all ρ)]
  | trans _ _ a b => exact a.trans b
theorem worth_split (ρ : Nat → Bool) (q : Pr → Bool) : ∀ F : List Pr, worth ρ F = xor (worth ρ (F.filter q)) (worth ρ (F.filter fun p => !q p))
  | [] => rfl
  | p :: F => by
    have ih := worth_split ρ q F
    cases h : q p with
    | true =>
      rw [List.filter_cons_of_pos h, List.filter_cons_of_neg (by simp [h])]
      show xor _ _ = xor (xor _ _) _
      rw [ih, Bool.xor_assoc]
    | false =>
      rw [List.filter_cons_of_neg (by simp [h]), List.filter_cons_of_pos (by simp [h])]
      show xor _ _ = xor _ (xor _ _)
      rw [ih]
      cases p.all ρ <;> cases worth ρ (F.filter q) <;> cases worth ρ (F.filter fun p => !q p) <;> rfl
def diff (F G : List Pr) : List Pr := F.filter (fun p => !G.contains p) ++ G.filter (fun p => !F.contains p)
theorem mem_diff {F G : List Pr} {p : Pr} : p ∈ diff F G ↔ ((p ∈ F ∧ p ∉ G) ∨ (p ∈ G ∧ p ∉ F)) := by
  simp [diff, List.mem_append, List.mem_filter]
theorem worth_diff (ρ : Nat → Bool) {F G : List Pr} (hF : F.Nodup) (hG : G.Nodup) : worth ρ (diff F G) = xor (worth ρ F) (worth ρ G) := by
  have e1 := worth_split ρ (fun p => G.contains p) F
  have e2 := worth_split ρ (fun p => F.contains p) G
  have e3 : worth ρ (F.filter fun p => G.contains p) = worth ρ (G.filter fun p => F.contains p) := by
    refine worth_perm ρ ?_
    rw [List.perm_ext_iff_of_nodup (hF.filter _) (hG.filter _)]
    intro p
    simp only [List.mem_filter, List.contains_iff_mem]
    exact ⟨fun ⟨a, b⟩ => ⟨b, a⟩, fun ⟨a, b⟩ => ⟨b, a⟩⟩
  rw [diff, worth_append, e1, e2, e3]
  cases worth ρ (G.filter fun p => F.contains p) <;> cases worth ρ (F.filter fun p => !G.contains p) <;> cases worth ρ (G.filter fun p => !F.contains p) <;> rfl
theorem diff_nodup {F G : List Pr} (hF : F.Nodup) (hG : G.Nodup) : (diff F G).Nodup := by
  refine List.nodup_append.mpr ⟨hF.filter _, hG.filter _, ?_⟩
  intro a ha b hb e
  subst e
  simp [List.mem_filter] at ha hb
  exact hb.2 ha.1
theorem nodup_len {α : Type} [DecidableEq α] : ∀ {l m : List α}, l.Nodup → (∀ x ∈ l, x ∈ m) → l.length ≤ m.length
  | [], _, _, _ => Nat.zero_le _
  | a :: l, m, nd, h => by
    have nd' := List.nodup_cons.mp nd
    have ha : a ∈ m := h a List.mem_cons_self
    have := nodup_len (l := l) (m := m.erase a) nd'.2 fun x hx => (List.mem_erase_of_ne (fun (e : x = a) => nd'.1 (by rw [← e]; exact hx))).mpr (h x (List.mem_cons_of_mem _ hx))
    rw [List.length_erase_of_mem ha] at this
    have : 0 < m.length := List.length_pos_of_mem ha
    rw [List.length_cons]; omega
theorem rising_sub {p q : Pr} (hp : p.Pairwise (· < ·)) (hq : q.Pairwise (· < ·)) (h : ∀ x ∈ q, x ∈ p) (hl : p.length ≤ q.length) : q = p := by
  have nd : q.Nodup := rise_nodup Nat.lt_irrefl hq
  refine rise_ext (r := (· < ·)) Nat.lt_irrefl (fun a b => Nat.lt_asymm) hq hp fun x => ⟨h x, fun hx => ?_⟩
  exact Classical.byContradiction fun hn => by
    have hsub : (x :: q).length ≤ p.length := by
      have nd2 : (x :: q).Nodup := List.nodup_cons.mpr ⟨hn, nd⟩
      exact nodup_len nd2 (by intro y hy; rcases List.mem_cons.mp hy with e | e; exact e ▸ hx; exact h y e)
    simp at hsub
    omega
theorem least_of : ∀ (D : List Pr), D ≠ [] → ∃ p ∈ D, ∀ q ∈ D, p.length ≤ q.length
  | [p], _ => ⟨p, List.mem_cons_self, fun q hq => by simp at hq; rw [hq]; exact Nat.le_refl _⟩
  | p :: r :: D, _ => by
    obtain ⟨m, hm, h⟩ := least_of (r :: D) (by simp)
    by_cases hpm : p.length ≤ m.length
    · exact ⟨p, List.mem_cons_self, fun q hq => by
        rcases List.mem_cons.mp hq with e | e
        · rw [e]; exact Nat.le_refl _
        · exact Nat.le_trans hpm (h q e)⟩
    · exact ⟨m, List.mem_cons_of_mem _ hm, fun q hq => by
        rcases List.mem_cons.mp hq with e | e
        · rw [e]; omega
        · exact h q e⟩
theorem worth_one (ρ : Nat → Bool) {p : Pr} : ∀ {D : List Pr}, D.Nodup → p ∈ D → (∀ q ∈ D, q.all ρ = true ↔ q = p) → worth ρ D = true
  | q :: D, nd, hp, h => by
    have nd' := List.nodup_cons.mp nd
    have rest : ∀ (E : List Pr), (∀ q ∈ E, q.all ρ = true ↔ q = p) → p ∉ E → worth ρ E = false := by
      intro E
      induction E with
      | nil => intro _ _; rfl
      | cons r E ih =>
        intro hE hp'
        have hr : r.all ρ = false := by
          cases hb : r.all ρ with
          | false => rfl
          | true => exact absurd ((hE r List.mem_cons_self).mp hb) (fun e => hp' (e ▸ List.mem_cons_self))
        show xor (r.all ρ) (worth ρ E) = false
        rw [hr, ih (fun q hq => hE q (List.mem_cons_of_mem _ hq)) (fun e => hp' (List.mem_cons_of_mem _ e))]
        rfl
    show xor (q.all ρ) (worth ρ D) = true
    rcases List.mem_cons.mp hp with e | e
    · subst e
      rw [(h p List.mem_cons_self).mpr rfl, rest D (fun q hq => h q (List.mem_cons_of_mem _ hq)) nd'.1]
      rfl
    · have hq : q.all ρ = false := by
        cases hb : q.all ρ with
        | false => rfl
        | true => exact absurd ((h q List.mem_cons_self).mp hb) (fun e' => nd'.1 (e' ▸ e))
      rw [hq, worth_one ρ nd'.2 e fun q hq => h q (List.mem_cons_of_mem _ hq)]
      rfl
theorem Vf.only {F G : List Pr} (hF : Vf F) (hG : Vf G) (h : ∀ ρ, worth ρ F = worth ρ G) : F = G := by
  by_cases hd : diff F G = []
  · refine hF.ext hG fun p => ?_
    have : ¬ p ∈ diff F G := by rw [hd]; simp
    rw [mem_diff] at this
    constructor
    · intro hp; exact Classical.byContradiction fun hn => this (.inl ⟨hp, hn⟩)
    · intro hp; exact Classical.byContradiction fun hn => this (.inr ⟨hp, hn⟩)
  · obtain ⟨p, hp, hl⟩ := least_of _ hd
    have ris : ∀ q ∈ diff F G, q.Pairwise (· < ·) := fun q hq => by
      rcases mem_diff.mp hq with ⟨a, _⟩ | ⟨a, _⟩
      · exact hF.prod q a
      · exact hG.prod q a
    have w := worth_one (fun x => p.contains x) (diff_nodup hF.nodup hG.nodup) hp fun q hq => by
      constructor
      · intro ha
        refine rising_sub (ris p hp) (ris q hq) (fun x hx => ?_) (hl q hq)
        have := List.all_eq_true.mp ha x hx
        simpa using this
      · intro e
        subst e
        exact List.all_eq_true.mpr fun x hx => by simpa using hx
    rw [worth_diff _ hF.nodup hG.nodup, h] at w
    simp at w
def prods : List Nat → List Pr
  | [] => [[]]
  | l :: ls => prods ls ++ (prods ls).map (l :: ·)
theorem prods_length : ∀ ls : List Nat, (prods ls).length = 2 ^ ls.length
  | [] => rfl
  | l :: ls => by rw [prods, List.length_append, List.length_map, prods_length ls, List.length_cons, Nat.pow_succ]; omega
theorem mem_prods : ∀ {ls : List Nat} {p : Pr}, p ∈ prods ls ↔ p.Sublist ls
  | [], p => by simp [prods]
  | l :: ls, p => by
    rw [prods, List.mem_append, List.mem_map]
    constructor
    · rintro (h | ⟨q, h, rfl⟩)
      · exact (mem_prods.mp h).cons _
      · exact (mem_prods.mp h).cons₂ _
    · intro h
      cases h with
      | cons _ h => exact .inl (mem_prods.mpr h)
      | cons_cons _ h => exact .inr ⟨_, mem_prods.mpr h, rfl⟩
def ins (a : Pr) : List Pr → List Pr
  | [] => [a]
  | b :: l => if b < a then b :: ins a l else a :: b :: l
theorem rise_sub : ∀ {ls p : List Nat}, ls.Pairwise (· < ·) → p.Pairwise (· < ·) → (∀ x ∈ p, x ∈ ls) → p.Sublist ls
  | _, [], _, _, _ => List.nil_sublist _
  | [], x :: p, _, _, h => absurd (h x List.mem_cons_self) (by simp)
  | l :: ls, x :: p, hl, hp, h => by
    have hl' := List.pairwise_cons.mp hl
    have hp' := List.pairwise_cons.mp hp
    rcases List.mem_cons.mp (h x List.mem_cons_self) with e | e
    · subst e
      refine (rise_sub hl'.2 hp'.2 fun y hy => ?_).cons₂ x
      rcases List.mem_cons.mp (h y (List.mem_cons_of_mem _ hy)) with e | e
      · subst e; exact absurd (hp'.1 _ hy) (Nat.lt_irrefl _)
      · exact e
    · refine (rise_sub hl'.2 hp fun y hy => ?_).cons l
      rcases List.mem_cons.mp (h y hy) with e' | e'
      · subst e'
        rcases List.mem_cons.mp hy with q | q
        · subst q; exact e
        · exact absurd (hp'.1 _ q) (Nat.lt_asymm (hl'.1 _ e))
      · exact e'
theorem one_vf : Vf [[]] := ⟨by simp, by simp⟩
theorem nil_vf : Vf [] := ⟨List.Pairwise.nil, by simp⟩
end Fs
set_option linter.all false
set_option Elab.async false
set_option linter.all false
set_option maxRecDepth 100000
namespace L2
open PySem PySem.Spec PyProof.Rows
def clos (env : Env) : List (Str × NameKind) → List (Str × Addr) → List (Str × Addr)
  | [], acc => acc
  | (n, k) :: r, acc => clos env r (if (k == NameKind.free) = true then (n, (env.cells.lookup n).getD 0) :: acc else acc)
theorem clos_run (env : Env) : ∀ (l : List (Str × NameKind)) (acc : List (Str × Addr)), (∀ y ∈ l, y.2 = .free → ∃ c, env.cells.lookup y.1 = some c) →
    (forIn l acc fun (x : Str × NameKind) (cs : List (Str × Addr)) => match x with
      | (name, kind) => if (kind == NameKind.free) = true then do let a ← cellOf env name; pure (ForInStep.yield ((name, a) :: cs)) else pure (ForInStep.yield cs) : Sem (List (Str × Addr))) = pure (clos env l acc)
  | [], acc, _ => by rw [List.forIn_nil]; rfl
  | (n, k) :: r, acc, h => by
    rw [List.forIn_cons]
    by_cases hk : (k == NameKind.free) = true
    · obtain ⟨c, hc⟩ := h (n, k) List.mem_cons_self (by simpa using hk)
      have e : cellOf env n = pure c := by unfold cellOf; rw [hc]
      simp only [hk, if_true, e, pure_bind]
      rw [clos_run env r _ fun y hy => h y (List.mem_cons_of_mem _ hy)]
      rw [clos, if_pos hk, hc]
      rfl
    · have hk' : (k == NameKind.free) = false := by simpa using hk
      simp only [hk', Bool.false_eq_true, if_false, pure_bind]
      rw [clos_run env r _ fun y hy => h y (List.mem_cons_of_mem _ hy), clos, if_neg hk]
theorem closureFor_ok {scope : Scope} {env : Env} (h : ∀ y ∈ scope.names, y.2 = .free → ∃ c, env.cells.lookup y.1 = some c) : closureFor scope env = pure (clos env scope.names []) := by
  unfold closureFor
  have := clos_run env scope.names [] h
  simp only [bind_pure]
  exact this
theorem clos_sound (env : Env) : ∀ (l : List (Str × NameKind)) (acc : List (Str × Addr)), (∀ y ∈ l, y.2 = .free → ∃ c, env.cells.lookup y.1 = some c) → (∀ x c, acc.lookup x = some c → env.cells.lookup x = some c) →
    ∀ x c, (clos env l acc).lookup x = some c → env.cells.lookup x = some c
  | [], acc, _, ha, x, c, e => ha x c e
  | (n, k) :: r, acc, h, ha, x, c, e => by
    rw [clos] at e
    refine clos_sound env r _ (fun y hy => h y (List.mem_cons_of_mem _ hy)) ?_ x c e
    clear e
    intro x c e
    by_cases hk : (k == NameKind.free) = true
    · rw [if_pos hk] at e
      obtain ⟨c', hc⟩ := h (n, k) List.mem_cons_self (by simpa using hk)
      rw [hc] at e
      rw [List.lookup_cons] at e
      by_cases hx : (x == n) = true
      · rw [hx] at e
        have : x = n := by simpa using hx
        subst this
        cases e
        exact hc
      · rw [show (x == n) = false by simpa using hx] at e
        exact ha x c e
    · rw [if_neg hk] at e
      exact ha x c e
theorem clos_acc (env : Env) : ∀ (l : List (Str × NameKind)) (acc : List (Str × Addr)) (x : Str), (acc.lookup x).isSome = true → ((clos env l acc).lookup x).isSome = true
  | [], _, _, h => h
  | (n, k) :: r, acc, x, h => by
    rw [clos]
    refine clos_acc env r _ x ?_
    by_cases hk : (k == NameKind.free) = true
    · rw [if_pos hk, List.lookup_cons]
      cases x == n with
      | true => rfl
      | false => exact h
    · rw [if_neg hk]; exact h
theorem clos_has (env : Env) : ∀ (l : List (Str × NameKind)) (acc : List (Str × Addr)) (x : Str), (x, NameKind.free) ∈ l → ((clos env l acc).lookup x).isSome = true
  | (n, k) :: r, acc, x, h => by
    rw [clos]
    rcases List.mem_cons.mp h with e | e
    · cases e
      refine clos_acc env r _ _ ?_
      rw [if_pos (by decide), List.lookup_cons]
      simp only [beq_self_eq_true, Option.isSome_some]
    · exact clos_has env r _ x e
def cxComp (X : Cx) (NY : List Str) (scope : Scope) (C : Addr) (s : Shared) (H : Hp) (fp : List Addr) (pins : List (Addr × Obj)) : Cx :=
  { X with N := NY, s₀ := s, H₀ := H, env := compEnvC scope (clos X.env scope.names []) C X.env, outer := X.stack, ex := fp, fn := fun _ => false, pn := X.pn ++ pins, xe := fun _ _ => False }
structure CompScope (X : Cx) (NY : List Str) (o : Nat) (caps : List Nat) (scope : Scope) : Prop where
  kind : scope.kind = .function
  nd : NY.Nodup
  nocell : ∀ y ∈ scope.names, y.2 ≠ .cell
  frees : ∀ y ∈ scope.names, y.2 = .free → (X.env.kindOf y.1 = some .cell ∨ X.env.kindOf y.1 = some .free)
  locs : ∀ y ∈ scope.names, y.2 = .local → scope.names.lookup y.1 = some .local
  capOk : ∀ (j : Nat) (i : Nat), caps[j]? = some i → ∃ x, NY[o + j]? = some x ∧ X.N[i]? = some x ∧ scope.names.lookup x = some .free
  len : NY.length = o + caps.length
def stY (o : Nat) (caps : List Nat) (σ : St) : St := List.replicate o none ++ caps.map fun i => (σ[i]?).getD none
theorem relabel_free {env : Env} : ∀ {names : List (Str × NameKind)} {x : Str}, names.lookup x = some .free →
    (names.map fun (n, k) => if (k == NameKind.free && env.scope.kind == .function && env.kindOf n == some .cell) then (n, NameKind.cell) else (n, k)).lookup x = some .cell ∨
    (names.map fun (n, k) => if (k == NameKind.free && env.scope.kind == .function && env.kindOf n == some .cell) then (n, NameKind.cell) else (n, k)).lookup x = some .free
  | [], _, h => by simp at h
  | (n, k) :: r, x, h => by
    have ih := @relabel_free env r x
    show List.lookup x ((if (k == NameKind.free && env.scope.kind == .function && env.kindOf n == some .cell) = true then (n, NameKind.cell) else (n, k)) :: _) = _ ∨ List.lookup x ((if (k == NameKind.free && env.scope.kind == .function && env.kindOf n == some .cell) = true then (n, NameKind.cell) else (n, k)) :: _) = _
    cases hx : x == n with
    | true =>
      simp only [List.lookup_cons, hx] at h
      cases h
      by_cases hc : (NameKind.free == NameKind.free && env.scope.kind == .function && env.kindOf n == some .cell) = true
      · rw [if_pos hc]; left; simp only [List.lookup_cons, hx]
      · rw [if_neg hc]; right; simp only [List.lookup_cons, hx]
    | false =>
      simp only [List.lookup_cons, hx] at h
      by_cases hc : (k == NameKind.free && env.scope.kind == .function && env.kindOf n == some .cell) = true
      · rw [if_pos hc]; simp only [List.lookup_cons, hx]; exact ih h
      · rw [if_neg hc]; simp only [List.lookup_cons, hx]; exact ih h
theorem of_relabel {env : Env} : ∀ {names : List (Str × NameKind)} {x : Str} {k : NameKind}, (∀ y ∈ names, y.2 ≠ .cell) →
    (names.map fun (n, k) => if (k == NameKind.free && env.scope.kind == .function && env.kindOf n == some .cell) then (n, NameKind.cell) else (n, k)).lookup x = some k → (k = .cell ∨ k = .free) → names.lookup x = some .free
  | [], _, _, _, h, _ => by simp at h
  | (n, k0) :: r, x, k, nc, h, hk => by
    have ih := @of_relabel env r x k (fun y hy => nc y (List.mem_cons_of_mem _ hy))
    replace h : List.lookup x ((if (k0 == NameKind.free && env.scope.kind == .function && env.kindOf n == some .cell) = true then (n, NameKind.cell) else (n, k0)) :: (r.map fun (n, k) => if (k == NameKind.free && env.scope.kind == .function && env.kindOf n == some .cell) then (n, NameKind.cell) else (n, k))) = some k := h
    have n0 := nc (n, k0) List.mem_cons_self
    cases hx : x == n with
    | true =>
      by_cases hc : (k0 == NameKind.free && env.scope.kind == .function && env.kindOf n == some .cell) = true
      · have : k0 = .free := by
          simp only [Bool.and_eq_true] at hc
          simpa using hc.1.1
        simp only [List.lookup_cons, hx, this]
      · rw [if_neg hc] at h
        simp only [List.lookup_cons, hx] at h ⊢
        cases h
        rcases hk with e | e
        · exact absurd e n0
        · rw [e]
    | false =>
      by_cases hc : (k0 == NameKind.free && env.scope.kind == .function && env.kindOf n == some .cell) = true
      · rw [if_pos hc] at h; simp only [List.lookup_cons, hx] at h ⊢; exact ih h hk
      · rw [if_neg hc] at h; simp only [List.lookup_cons, hx] at h ⊢; exact ih h hk
theorem Un.but {fs ex : List Addr} {H H' : Hp} {h h1 h2 : Heap} {C : Addr} (u : Un fs ex H H' h h1) (hs : Heap.SameBut C h1 h2) (hC : h.objs.size ≤ C) : Un fs ex H H' h h2 := by
  have ne : ∀ b o, h.get? b = some o → b ≠ C := fun b o e z => by subst z; exact absurd (Nat.lt_of_lt_of_le (Heap.lt_size e) hC) (Nat.lt_irrefl _)
  refine ⟨fun b o e n hb hx => (hs.2 b (ne b o e)).trans (u.keep b o e n hb hx), fun b o e n hb hx => ?_, u.free, fun b o e hx => ?_, u.tups, u.frzs, u.tbls⟩
  · obtain ⟨sl, q⟩ := u.slot b o e n hb hx
    exact ⟨sl, (hs.2 b (ne b o e)).trans q⟩
  · obtain ⟨o', q⟩ := u.there b o e hx
    exact ⟨o', (hs.2 b (ne b o e)).trans q⟩
theorem HOk.but {P : Program} {w : World} {H : Hp} {h h' : Heap} {C : Addr} (ok : HOk P w H h) (hs : Heap.SameBut C h h') (hC : H C = none) : HOk P w H h' := fun a o e => by
  refine (ok a o e).stay (fun b u hb q => (hs.2 b ?_).trans q) (fun _ q => q) fun _ _ q => q
  rcases hb with z | z
  · rw [z]; exact fun y => by rw [y, hC] at e; cases e
  · exact fun y => by rw [y, hC] at z; cases z
abbrev Adv := Nat → St → Hp → (St → Hp → Prop) → Prop
structure Walk (Y : Cx) (tg : Expr) (fp : List Addr) (it : Addr) (tn : Nat → Heap → Prop) (adv : Adv) (stop : Nat → Hp → Prop) : Prop where
  obj : ∀ i h, tn i h → ∀ b ∈ fp, ∃ o, h.get? b = some o ∧ ∀ v, o.data ≠ .cell v
  keep : ∀ i h h', tn i h → (∀ b ∈ fp, ∀ o, h.get? b = some o → h'.get? b = some o) → tn i h'
  item : ∀ (i : Nat) (pins : List (Addr × Obj)) (s : Shared) (σ : St) (H : Hp) (N : St → Hp → Prop), Inv Y pins σ H s → (∀ b ∈ fp, FpOk Y pins H b) → tn i s.heap → adv i σ H N →
    wpAny (model Y.prog Y.w) Y.A (pyNext (.ref it)) (fun r s1 => ∃ u, r = some u ∧ wpAny (model Y.prog Y.w) Y.A (letOwnedTupleGo tg (.ref it) u) (fun _ s2 =>
      wpAny (model Y.prog Y.w) Y.A (assign tg Y.env u) (fun _ s3 => ∃ σ' H', Inv Y pins σ' H' s3 ∧ N σ' H' ∧ tn (i + 1) s3.heap ∧ ∀ b ∈ fp, H' b = none) Y.xe s2) Y.xe s1) Y.xe s
  done : ∀ (i : Nat) (pins : List (Addr × Obj)) (s : Shared) (σ : St) (H : Hp), Inv Y pins σ H s → (∀ b ∈ fp, FpOk Y pins H b) → tn i s.heap → stop i H →
    wpAny (model Y.prog Y.w) Y.A (pyNext (.ref it)) (fun r s1 => r = none ∧ Inv Y pins σ H s1) Y.xe s
  self : ∀ (A : Around) (i : Nat) (s : Shared) (Q : Value → Shared → Prop) (E : Value → Shared → Prop), tn i s.heap → Q (.ref it) s → wpAny (model Y.prog Y.w) A (pyIter (.ref it)) Q E s
theorem stores_keep {Y : Cx} {tg : Expr} {fp : List Addr} {tn : Nat → Heap → Prop} {pins : List (Addr × Obj)} {s5 s6 : Shared} {σ6 : St} {H6 : Hp} {i : Nat}
    (obj : ∀ b ∈ fp, ∃ o, s5.heap.get? b = some o ∧ ∀ v, o.data ≠ .cell v) (keep : ∀ h', (∀ b ∈ fp, ∀ o, s5.heap.get? b = some o → h'.get? b = some o) → tn i h')
    (I6 : Inv Y (pins ++ pinsAt fp s5.heap) σ6 H6 s6) : Inv Y pins σ6 H6 s6 ∧ tn i s6.heap ∧ ∀ b ∈ fp, H6 b = none := by
  refine ⟨I6.unpinned, keep _ fun b hb o e => (I6.pin (b, o) (List.mem_append_right _ (List.mem_append_right _ (mem_pinsAt hb e)))).1, fun b hb => ?_⟩
  obtain ⟨o, e, d⟩ := obj b hb
  exact (I6.pin (b, o) (List.mem_append_right _ (List.mem_append_right _ (mem_pinsAt hb e)))).2.1
def advOf (J : It) (g : TG) : Adv := fun i σ H N => J.go i H ∧ ∀ x H', J.yld i H x H' → g x σ H' N
theorem Turn.walk {Y : Cx} {tg : Expr} {J : It} {fp : List Addr} {it : Addr} {tn : Nat → Heap → Prop} {g : TG} (hc : Y.calm = true) (T : Turn Y.prog Y.w Y.K tg J fp it tn) (hg : PG Y tg g) : Walk Y tg fp it tn (advOf J g) J.stop where
  obj := T.obj
  keep := T.keep
  item := by
    intro i pins s σ H N I hf st ⟨go, step⟩
    refine thn (T.item Y rfl rfl rfl hc i pins s σ H Y.xe I hf st go) fun r s4 ⟨u, hr, h4⟩ => ⟨u, hr, ?_⟩
    refine thn h4 fun _ s5 zz => ?_
    obtain ⟨x, H5, I5, r5, y5, st5, fr5⟩ := zz
    have I5' := I5.pinned (fun b hb => ⟨fr5 b hb, (hf b hb).2⟩) (T.obj _ _ st5)
    refine thn (hg _ s5 σ H5 x u _ I5' r5 (step x H5 y5)) fun _ s6 zz => ?_
    obtain ⟨σ6, H6, I6, q6⟩ := zz
    obtain ⟨J1, J2, J3⟩ := stores_keep (tg := tg) (T.obj _ _ st5) (fun h' k => T.keep _ _ _ st5 k) I6
    exact ⟨σ6, H6, J1, q6, J2, J3⟩
  done := fun i pins s σ H I hf st hs => T.done Y rfl rfl rfl hc i pins s σ H Y.xe I hf st hs
  self := T.self
structure It2 where
  go : Nat → Hp → Prop
  yld : Nat → Hp → List V → Hp → Prop
  stop : Nat → Hp → Prop
structure Turn2 (P : Program) (w : World) (K : PySem.W.Frag) (tg : Expr) (J : It2) (fp : List Addr) (it : Addr) (tn : Nat → Heap → Prop) : Prop where
  obj : ∀ i h, tn i h → ∀ b ∈ fp, ∃ o, h.get? b = some o ∧ ∀ v, o.data ≠ .cell v
  keep : ∀ i h h', tn i h → (∀ b ∈ fp, ∀ o, h.get? b = some o → h'.get? b = some o) → tn i h'
  item : ∀ (X : Cx), X.prog = P → X.w = w → X.K = K → X.calm = true → ∀ (i : Nat) (pins : List (Addr × Obj)) (s : Shared) (σ : St) (H : Hp) (E : Value → Shared → Prop), Inv X pins σ H s → (∀ b ∈ fp, FpOk X pins H b) → tn i s.heap → J.go i H →
    wpAny (model P w) X.A (pyNext (.ref it)) (fun r s1 => ∃ p, r = some (.ref p) ∧
      wpAny (model P w) X.A (letOwnedTupleGo tg (.ref it) (.ref p)) (fun _ s2 => ∃ xs us H', Inv X pins σ H' s2 ∧ IsTup s2.heap p us.toArray ∧ Vals xs us ∧ J.yld i H xs H' ∧ tn (i + 1) s2.heap ∧ ∀ b ∈ fp, H' b = none) E s1) E s
  done : ∀ (X : Cx), X.prog = P → X.w = w → X.K = K → X.calm = true → ∀ (i : Nat) (pins : List (Addr × Obj)) (s : Shared) (σ : St) (H : Hp) (E : Value → Shared → Prop), Inv X pins σ H s → (∀ b ∈ fp, FpOk X pins H b) → tn i s.heap → J.stop i H →
    wpAny (model P w) X.A (pyNext (.ref it)) (fun r s1 => r = none ∧ Inv X pins σ H s1) E s
  self : ∀ (A : Around) (i : Nat) (s : Shared) (Q : Value → Shared → Prop) (E : Value → Shared → Prop), tn i s.heap → Q (.ref it) s → wpAny (model P w) A (pyIter (.ref it)) Q E s
def advOf2 (J : It2) (n : Nat) (t : TGs) : Adv := fun i σ H N => J.go i H ∧ ∀ xs H', J.yld i H xs H' → xs.length = n ∧ t xs σ H' N
theorem Turn2.walk {Y : Cx} {es : List Expr} {k : Nat} {pos : Pos} {J : It2} {fp : List Addr} {it : Addr} {tn : Nat → Heap → Prop} {t : TGs} {n : Nat} (hc : Y.calm = true) (T : Turn2 Y.prog Y.w Y.K (.Tuple es k pos) J fp it tn) (hg : PGs Y es t)
    (hn : (assignEach es Y.env).length = n := by rfl) (hst : (assignEach es Y.env).findIdx? (·.1) = none := by rfl) : Walk Y (.Tuple es k pos) fp it tn (advOf2 J n t) J.stop where
  obj := T.obj
  keep := T.keep
  item := by
    intro i pins s σ H N I hf st ⟨go, step⟩
    refine thn (T.item Y rfl rfl rfl hc i pins s σ H Y.xe I hf st go) fun r s4 ⟨p, hr, h4⟩ => ⟨.ref p, hr, ?_⟩
    refine thn h4 fun _ s5 zz => ?_
    obtain ⟨xs, us, H5, I5, ht, r5, y5, st5, fr5⟩ := zz
    have I5' := I5.pinned (fun b hb => ⟨fr5 b hb, (hf b hb).2⟩) (T.obj _ _ st5)
    obtain ⟨hl, hw⟩ := step xs H5 y5
    refine assign_Tuple_tuple (I5.ok.hd hc) ht (by simp [hn, ← hl, r5.length]) hst fun h' hx => ?_
    have I6 := I5'.kept (t' := s5.toks) fun b o e => hx b o (Nat.ne_of_lt (Heap.lt_size e)) e
    refine thn (hg _ _ σ H5 xs _ N I6 (by simpa using r5) hw) fun _ s6 zz => ?_
    obtain ⟨σ6, H6, I7, q6⟩ := zz
    obtain ⟨J1, J2, J3⟩ := stores_keep (tg := .Tuple es k pos) (T.obj _ _ st5) (fun h' k => T.keep _ _ _ st5 k) I7
    exact ⟨σ6, H6, J1, q6, J2, J3⟩
  done := fun i pins s σ H I hf st hs => T.done Y rfl rfl rfl hc i pins s σ H Y.xe I hf st hs
  self := T.self
def PTs (X : Cx) (ifs : List Expr) (tt : TT) : Prop := ∀ (pins : List (Addr × Obj)) (s : Shared) (σ : St) (H : Hp) (Q : Bool → Hp → Prop), Inv X pins σ H s → tt σ H Q →
  wpAny (model X.prog X.w) X.A (forIn ifs true fun c r => if r = true then do let ok ← isTrue c X.env (eval c X.env); pure (ForInStep.yield ok) else pure (ForInStep.yield r)) (TP X pins σ Q) X.xe s
def tYes : TT := fun _ H Q => Q true H
theorem pts_nil {X : Cx} : PTs X [] tYes := fun _ _ _ H _ I h => wpAny_tests_nil ⟨H, I, h⟩
section
variable {prog : Program} {w : World} {A : Around} {R : Result → Shared → Prop} {s : Shared}
theorem compLoop_own {elt target iter : Expr} {ifs : List Expr} {scope : Scope} {pos : Pos} {it acc : Value} {env : Env} (I : Nat → Shared → Prop)
    (turn : ∀ n s, I n s → wpAny (model prog w) A (pyNext it) (fun r s₁ => match r with
      | none => R (.ok .next) s₁
      | some v => wpAny (model prog w) A (letOwnedTupleGo target it v) (fun _ s₁' => wpAny (model prog w) A (assign target env v) (fun _ s₂ =>
          wpAny (model prog w) A (forIn ifs true fun c r => if r = true then do let ok ← isTrue c env (eval c env); pure (ForInStep.yield ok) else pure (ForInStep.yield r)) (fun ok s₃ =>
            if ok = true then wpAny (model prog w) A (eval elt env) (fun x s₄ =>
              wpAny (model prog w) A (call (.builtin "list.append") [acc, x]) (fun _ s₅ => ∃ m, m < n ∧ I m s₅) (fun _ _ => False) s₄) (fun _ _ => False) s₃
            else ∃ m, m < n ∧ I m s₃) (fun _ _ => False) s₂) (fun _ _ => False) s₁') (fun _ _ => False) s₁) (fun _ _ => False) s)
    (n : Nat) (h : I n s) :
    codeAny (model prog w) A (.compLoop (.ListComp elt [⟨target, iter, ifs, 0⟩] scope pos) 0 it acc env) R s := by
  refine codeAny_loop rfl I (fun n s hI => ?_) n h
  refine wpAny_noted ?_
  rw [compTurn_list]
  have no : ∀ {E : Value → Shared → Prop} (x : Value) (s' : Shared), False → E x s' := fun _ _ f => f.elim
  refine wpAny_bind (wpAny_standAt (wpAny_bind (wpAny_mono (turn n s hI) (fun r s₁ h₁ => ?_) no)))
  cases r with
  | none => exact wpAny_pure h₁
  | some v =>
    refine wpAny_bind (wpAny_mono h₁ (fun _ s₁' h₁' => ?_) no)
    refine wpAny_bind (wpAny_mono h₁' (fun _ s₂ h₂ => wpAny_bind (wpAny_mono h₂ (fun ok s₃ h₃ => ?_) no)) no)
    cases ok with
    | false => exact wpAny_pure ⟨rfl, h₃⟩
    | true =>
      exact wpAny_bind (wpAny_bind (wpAny_mono h₃ (fun x s₄ h₄ => wpAny_bind (wpAny_mono h₄ (fun _ s₅ h₅ => wpAny_pure (wpAny_pure ⟨rfl, h₅⟩)) no)) no))
end
def Kp (o : Nat) (σ0 σ : St) : Prop := σ.drop o = σ0.drop o ∧ σ.length = σ0.length
theorem Kp.get {o : Nat} {caps : List Nat} {σ σ2 : St} (k : Kp o (stY o caps σ) σ2) : ∀ (j : Nat) (v : V), (stY o caps σ)[j]? = some (some v) → σ2[j]? = some (some v) := by
  intro j v e
  by_cases hj : j < o
  · unfold stY at e
    rw [List.getElem?_append_left (by simpa using hj), List.getElem?_replicate, if_pos hj] at e
    cases e
  · have e1 : (σ2.drop o)[j - o]? = ((stY o caps σ).drop o)[j - o]? := by rw [k.1]
    rw [List.getElem?_drop, List.getElem?_drop, show o + (j - o) = j by omega] at e1
    rw [e1]; exact e
theorem stY_at {o : Nat} {caps : List Nat} {σ : St} {j : Nat} {v : V} (e : (stY o caps σ)[j]? = some (some v)) : ∃ j' i, j = o + j' ∧ caps[j']? = some i ∧ σ[i]? = some (some v) := by
  unfold stY at e
  by_cases hj : j < o
  · rw [List.getElem?_append_left (by simpa using hj), List.getElem?_replicate, if_pos hj] at e
    cases e
  · rw [List.getElem?_append_right (by simpa using hj), List.length_replicate, List.getElem?_map] at e
    cases q : caps[j - o]? with
    | none => rw [q] at e; cases e
    | some i =>
      rw [q] at e
      refine ⟨j - o, i, by omega, q, ?_⟩
      cases q2 : σ[i]? with
      | none => rw [Option.map_some, q2] at e; cases e
      | some z =>
        rw [Option.map_some, q2] at e
        have e' : z = some v := Option.some.inj e
        rw [e']
def tCompW (o : Nat) (caps : List Nat) (adv : Adv) (stop : Nat → Hp → Prop) (tt : TT) (te : TE) (σ : St) (H1 : Hp) (Q : VK) : Prop :=
  ∀ D, H1 D = none → ∃ W : Nat → Nat → List V → Hp → Prop, (∃ m, W 0 m [] (upd H1 D (.lst []))) ∧ ∀ i m ys H, W i m ys H →
    (stop i H ∧ Q (.ref D) H) ∨ adv i (stY o caps σ) H fun σ2 H2 => Kp o (stY o caps σ) σ2 ∧ tt σ2 H2 fun b H3 => if b = true then te σ2 H3 fun y H4 => H4 D = some (.lst ys) ∧ ys.length < sizeLine ∧ ∃ m', m' < m ∧ W (i + 1) m' (ys ++ [y]) (upd H4 D (.lst (ys ++ [y])))
      else ∃ m', m' < m ∧ W (i + 1) m' ys H3
section
variable {X : Cx}
theorem comp_inv {pins : List (Addr × Obj)} {σ : St} {H2 : Hp} {s2 : Shared} {NY : List Str} {o : Nat} {caps : List Nat} {scope : Scope} {fp : List Addr} {h₁ : Heap} (S : CompScope X NY o caps scope) (I2 : Inv X pins σ H2 s2)
    (hfp : ∀ b ∈ fp, FpOk X pins H2 b) (hob : ∀ b ∈ fp, ∃ ob, s2.heap.get? b = some ob)
    (hns : h₁.Ns (s2.heap.objs.size + 1) fun _ => none) (hkeep : ∀ b ob, s2.heap.get? b = some ob → h₁.get? b = some ob)
    (hD : ∃ n, h₁.get? s2.heap.objs.size = some { cls := .type "list", data := .seq ([] : List Value).toArray n }) (t' : Nat) :
    Inv (cxComp X NY scope (s2.heap.objs.size + 1) s2 H2 fp pins) [] (stY o caps σ) (upd H2 s2.heap.objs.size (.lst [])) { s2 with heap := h₁, toks := t' } := by
  have frees := fun y hy e => I2.ok.has _ (S.frees y hy e)
  have sound := clos_sound X.env scope.names [] frees (fun x c e => by simp at e)
  have hfr := I2.hok.fresh (Nat.le_refl _)
  have hfr1 := I2.hok.fresh (Nat.le_succ _)
  have ltC : ∀ b ob, s2.heap.get? b = some ob → b ≠ s2.heap.objs.size + 1 := fun b ob e => Nat.ne_of_lt (Nat.lt_succ_of_lt (Heap.lt_size e))
  have ltD : ∀ b ob, s2.heap.get? b = some ob → b ≠ s2.heap.objs.size := fun b ob e => Nat.ne_of_lt (Heap.lt_size e)
  have hok1 : HOk X.prog X.w (upd H2 s2.heap.objs.size (.lst [])) h₁ := by
    obtain ⟨n, hD⟩ := hD
    exact I2.hok.laid hkeep (Nat.le_refl _) ⟨Nat.zero_le _, [], n, .nil, hD⟩
  refine ⟨?_, rfl, I2.bare, ?_, ?_, ?_, ?_, ?_, ?_, hok1, ?_⟩
  · refine ⟨I2.ok.mod, S.kind, I2.ok.glob, I2.ok.blt, Nat.le_succ _, fun x y c h1 h2 => I2.ok.inj x y c (sound x c h1) (sound y c h2), fun x hx => ?_, fun x c e => absurd e Bool.false_ne_true, I2.ok.hd, I2.ok.frames, .inl rfl, fun b hb => ?_,
      I2.bs, Nat.le_trans I2.ok.bsz I2.sz, fun b ob e hb => ?_, fun b hb z => ?_, I2.stack, I2.stkFree⟩
    · have hx' : scope.names.lookup x = some .free := by
        rcases hx with q | q
        · exact of_relabel S.nocell q (.inl rfl)
        · exact of_relabel S.nocell q (.inr rfl)
      exact Option.isSome_iff_exists.mp (clos_has X.env scope.names [] x (PySem.mem_of_lookup hx'))
    · obtain ⟨ob, e⟩ := hob b hb
      exact ⟨ltC b ob e, fun x c q => (hfp b hb).2.2.2.2.1 x c (sound x c q)⟩
    · rcases (hfp b hb).2.2.2.1 with q | q
      · exact I2.ok.noex b ob e q
      · exact absurd (Nat.lt_of_lt_of_le (Heap.lt_size e) (Nat.le_trans I2.ok.bsz q)) (Nat.lt_irrefl _)
    · rcases List.mem_cons.mp (I2.stkSub b z) with q | q
      · exact (hfp b hb).2.1 q
      · exact (hfp b hb).2.2.1 q
  · exact Un.laid hkeep (Nat.le_refl _) hfr
  · refine ⟨_, hns, fun j x v e1 e2 e3 => ?_⟩
    obtain ⟨j', i, ej, ec, es⟩ := stY_at e2
    obtain ⟨x', n1, n2, n3⟩ := S.capOk j' i ec
    rw [← ej] at n1
    have ex : x = x' := Option.some.inj ((show NY[j]? = some x from e1).symm.trans n1)
    subst ex
    have hk := S.frees (x, .free) (PySem.mem_of_lookup n3) rfl
    obtain ⟨m, _, hl⟩ := I2.loc
    have hv : Vis X.env.scope x := hk.elim (fun q => .inr (.inl q)) fun q => .inr (.inr q)
    obtain ⟨u, ru, lk⟩ := hl i x v n2 es hv
    refine ⟨u, ru, .inr ⟨relabel_free (env := X.env) n3, ?_⟩⟩
    rcases lk with ⟨q, _⟩ | ⟨_, c, ec, cell⟩
    · rcases hk with z | z
      · rw [show X.env.kindOf x = some .cell from z] at q; cases q
      · rw [show X.env.kindOf x = some .free from z] at q; cases q
    · obtain ⟨c', hc'⟩ := Option.isSome_iff_exists.mp (clos_has X.env scope.names [] x (PySem.mem_of_lookup n3))
      have := sound x c' hc'
      rw [ec] at this
      cases this
      obtain ⟨ob, e, d⟩ := cell
      exact ⟨c, hc', ob, hkeep c ob e, d⟩
  · intro x c e
    obtain ⟨v, ob, q, d⟩ := I2.cell x c (sound x c e)
    exact ⟨v, ob, hkeep c ob q, d⟩
  · show upd H2 s2.heap.objs.size (.lst []) (s2.heap.objs.size + 1) = none
    rw [upd_ne (Nat.succ_ne_self _)]; exact hfr1
  · intro x c e
    obtain ⟨v, ob, q, d⟩ := I2.cell x c (sound x c e)
    rw [upd_ne (ltD c ob q)]
    exact I2.freeC x c (sound x c e)
  · intro p hp
    have hp' : p ∈ X.pn ++ pins := by
      have : p ∈ (X.pn ++ pins) ++ [] := hp
      simpa using this
    obtain ⟨e, n, ne, nf, d⟩ := I2.pin p hp'
    refine ⟨hkeep _ _ e, by rw [upd_ne (ltD _ _ e)]; exact n, ltC _ _ e, fun z => ?_, d⟩
    rcases List.mem_cons.mp (I2.stkSub p.1 z) with q | q
    · exact ne q
    · exact nf q
  · show (stY o caps σ).length = NY.length
    unfold stY
    rw [List.length_append, List.length_replicate, List.length_map, S.len]
def cxL (X : Cx) (NY : List Str) (L : List (Str × Addr)) (fn : Str → Bool) (scope : Scope) (C : Addr) (s : Shared) (H : Hp) (fp : List Addr) (pins : List (Addr × Obj)) : Cx :=
  { X with N := NY, s₀ := s, H₀ := H, env := compEnvC scope L C X.env, outer := X.stack, ex := fp, fn := fn, pn := X.pn ++ pins, xe := fun _ _ => False }
theorem comp_core {pins : List (Addr × Obj)} {σ : St} {H2 : Hp} {s2 : Shared} {NY : List Str} {o : Nat} {caps : List Nat} {scope : Scope} {fp : List Addr} {it : Addr} {tn : Nat → Heap → Prop} {adv : Adv} {stop : Nat → Hp → Prop}
    {elt tg iter : Expr} {ifs : List Expr} {pos : Pos} {tt : TT} {te : TE} {Q : VK} {R : Result → Shared → Prop} {L : List (Str × Addr)} {fn : Str → Bool} {h₁ : Heap} {tk : Nat}
    (I2 : Inv X pins σ H2 s2) (hfp : ∀ b ∈ fp, FpOk X pins H2 b) (st2 : tn 0 s2.heap) (hkeep : ∀ b ob, s2.heap.get? b = some ob → h₁.get? b = some ob)
    (Wk : Walk (cxL X NY L fn scope (s2.heap.objs.size + 1) s2 H2 fp pins) tg fp it tn adv stop) (ht : PTs (cxL X NY L fn scope (s2.heap.objs.size + 1) s2 H2 fp pins) ifs tt) (he : PE (cxL X NY L fn scope (s2.heap.objs.size + 1) s2 H2 fp pins) elt te)
    (h : tCompW o caps adv stop tt te σ H2 Q) (I4 : Inv (cxL X NY L fn scope (s2.heap.objs.size + 1) s2 H2 fp pins) [] (stY o caps σ) (upd H2 s2.heap.objs.size (.lst [])) { s2 with heap := h₁, toks := tk })
    (fin : ∀ (s4 : Shared) (H3 : Hp) (m : Str → Option Value), s4.heap.Ns (s2.heap.objs.size + 1) m → (∀ h', Heap.SameBut (s2.heap.objs.size + 1) s4.heap h' → Inv X pins σ H3 { s4 with heap := h' }) → H3 (s2.heap.objs.size + 1) = none → Q (.ref s2.heap.objs.size) H3 → R (.ok .next) s4) :
    codeAny (model X.prog X.w) X.A (.compStart (.ListComp elt [⟨tg, iter, ifs, 0⟩] scope pos) 0 (.ref it) (.ref s2.heap.objs.size) (compEnvC scope L (s2.heap.objs.size + 1) X.env)) R { s2 with heap := h₁, toks := tk } := by
  have hfr : H2 s2.heap.objs.size = none := I2.hok.fresh (Nat.le_refl _)
  obtain ⟨W, ⟨m0, w0⟩, turn⟩ := h _ hfr
  have ob0 := Wk.obj 0 s2.heap st2
  have st4 : tn 0 h₁ := Wk.keep _ _ _ st2 fun b _ ob e => hkeep b ob e
  have fr4 : ∀ b ∈ fp, upd H2 s2.heap.objs.size (.lst []) b = none := fun b hb => by
    obtain ⟨ob, e, _⟩ := ob0 b hb
    rw [upd_ne (Nat.ne_of_lt (Heap.lt_size e))]
    exact (hfp b hb).1
  have loop : codeAny (model X.prog X.w) X.A (.compLoop (.ListComp elt [⟨tg, iter, ifs, 0⟩] scope pos) 0 (.ref it) (.ref s2.heap.objs.size) (compEnvC scope L (s2.heap.objs.size + 1) X.env))
      R { s2 with heap := h₁, toks := tk } := by
    generalize hY : cxL X NY L fn scope (s2.heap.objs.size + 1) s2 H2 fp pins = Y at Wk ht he I4
    have fpY : ∀ {H' : Hp}, (∀ b ∈ fp, H' b = none) → ∀ b ∈ fp, FpOk Y [] H' b := fun {H'} hn b hb => by
      subst hY
      obtain ⟨ob, e, _⟩ := ob0 b hb
      have k := I4.ok.exf b hb
      refine ⟨hn b hb, k.1, I4.ok.exfs b hb, .inl hb, k.2, fun p hp => ?_⟩
      have hp' : p ∈ X.pn ++ pins := by
        have : p ∈ (X.pn ++ pins) ++ [] := hp
        simpa using this
      exact (hfp b hb).2.2.2.2.2 p hp'
    refine compLoop_own (fun n s' => ∃ i ys H', Inv Y [] (stY o caps σ) H' s' ∧ tn i s'.heap ∧ (∀ b ∈ fp, H' b = none) ∧ W i n ys H') ?_ m0 ⟨0, [], _, I4, st4, fr4, w0⟩
    rintro n s3 ⟨i, ys, H3, I3, st3, fr3, w3⟩
    have eE : Y.xe = fun _ _ => False := by subst hY; rfl
    have ePw : Y.prog = X.prog ∧ Y.w = X.w ∧ Y.A = X.A ∧ Y.env = compEnvC scope L (s2.heap.objs.size + 1) X.env := by subst hY; exact ⟨rfl, rfl, rfl, rfl⟩
    obtain ⟨eP, ew, eA, ee⟩ := ePw
    rw [← eP, ← ew, ← eA, ← ee, ← eE]
    rcases turn i n ys H3 w3 with ⟨stp, qn⟩ | av
    · refine thn (Wk.done i [] s3 _ H3 I3 (fpY fr3) st3 stp) fun r s4 zz => ?_
      obtain ⟨hr, I5⟩ := zz
      subst hr
      obtain ⟨m, hn, _⟩ := id I5.loc
      have eC : Y.env.locals = s2.heap.objs.size + 1 := by rw [ee]; rfl
      rw [eC] at hn
      have u := I5.base
      have hokY := I5.hok
      have hfree := I5.free
      rw [eC] at hfree
      have hbare := I5.bare
      have hos := I5.os
      subst hY
      refine fin s4 H3 m hn (fun h' hs => ?_) hfree qn
      have u2 : Un (frs X.stack) fp H2 H3 s2.heap h' := Un.but u hs (Nat.le_succ _)
      have hok2 : HOk X.prog X.w H3 h' := HOk.but hokY hs hfree
      obtain ⟨hh, g, d, t, os'⟩ := s4
      obtain rfl : os' = s2.os := hos
      exact Inv.call (s := s2) (h' := h') (g' := g) (d' := d) (t' := t) (ch := fp) I2 u2 hok2 hbare fun b hb => ⟨(hfp b hb).2.2.2.1, (hfp b hb).2.1, (hfp b hb).2.2.2.2.1, (hfp b hb).2.2.2.2.2⟩
    · refine thn (Wk.item i [] s3 _ H3 _ I3 (fpY fr3) st3 av) fun r s4 zz => ?_
      obtain ⟨u, hr, h4⟩ := zz
      subst hr
      refine thn h4 fun _ s5 h5 => thn h5 fun _ s6 zz => ?_
      obtain ⟨σ6, H6, I6, ⟨kp, q6⟩, st6, fr6⟩ := zz
      have I6' := I6.pinned (fp := fp) (fpY fr6) (Wk.obj _ _ st6)
      refine thn (ht _ s6 σ6 H6 _ I6' q6) fun b s7 zz => ?_
      obtain ⟨H7, I7, q7⟩ := zz
      cases b with
      | false =>
        obtain ⟨m', hm, w7⟩ := q7
        obtain ⟨J1, J2, J3⟩ := stores_keep (tg := tg) (tn := tn) (i := i + 1) (Wk.obj _ _ st6) (fun h' k => Wk.keep _ _ _ st6 k) I7
        exact ⟨m', hm, i + 1, ys, H7, J1.weak kp.2.symm kp.get, J2, J3, w7⟩
      | true =>
        refine thn (he _ s7 σ6 H7 _ I7 q7) fun y s8 zz => ?_
        obtain ⟨yv, H8, I8, r8, hD8, hz8, m', hm, w8⟩ := zz
        refine thn (mt_append (X := Y) _ s8 σ6 H8 (.ref s2.heap.objs.size) [yv] _ _ (fun v H' => v = .non ∧ H' = upd H8 s2.heap.objs.size (.lst (ys ++ [yv]))) I8 rfl (.cons r8 .nil) ⟨_, ys, yv, rfl, rfl, hD8, hz8, rfl, rfl⟩) fun v s9 zz => ?_
        obtain ⟨_, H9, I9, _, _, e9⟩ := zz
        subst e9
        obtain ⟨J1, J2, J3⟩ := stores_keep (tg := tg) (tn := tn) (i := i + 1) (Wk.obj _ _ st6) (fun h' k => Wk.keep _ _ _ st6 k) I9
        exact ⟨m', hm, i + 1, ys ++ [yv], _, J1.weak kp.2.symm kp.get, J2, J3, w8⟩
  exact codeAny_compStart_list loop (Wk.self _ 0 _ _ _ st4 loop)
theorem comp_blk {pins : List (Addr × Obj)} {σ : St} {H2 : Hp} {s2 : Shared} {NY : List Str} {o : Nat} {caps : List Nat} {scope : Scope} {fp : List Addr} {it : Addr} {tn : Nat → Heap → Prop} {adv : Adv} {stop : Nat → Hp → Prop}
    {elt tg iter : Expr} {ifs : List Expr} {pos : Pos} {tt : TT} {te : TE} {Q : VK} {R : Result → Shared → Prop}
    (S : CompScope X NY o caps scope) (I2 : Inv X pins σ H2 s2) (hfp : ∀ b ∈ fp, FpOk X pins H2 b) (st2 : tn 0 s2.heap)
    (Wk : ∀ C, Walk (cxComp X NY scope C s2 H2 fp pins) tg fp it tn adv stop) (ht : ∀ C, PTs (cxComp X NY scope C s2 H2 fp pins) ifs tt) (he : ∀ C, PE (cxComp X NY scope C s2 H2 fp pins) elt te)
    (h : tCompW o caps adv stop tt te σ H2 Q) (fin : ∀ (s4 : Shared) (H3 : Hp) (m : Str → Option Value), s4.heap.Ns (s2.heap.objs.size + 1) m → (∀ h', Heap.SameBut (s2.heap.objs.size + 1) s4.heap h' → Inv X pins σ H3 { s4 with heap := h' }) → H3 (s2.heap.objs.size + 1) = none → Q (.ref s2.heap.objs.size) H3 → R (.ok .next) s4) :
    wpAny (model X.prog X.w) X.A (newList []) (fun acc s₃ => wpAny (model X.prog X.w) X.A (newFunctionEnv scope X.env.globals (clos X.env scope.names []) [] X.env.qual none .none (some X.env)) (fun cenv s₄ =>
      acc = .ref s2.heap.objs.size ∧ cenv.locals = s2.heap.objs.size + 1 ∧ codeAny (model X.prog X.w) X.A (.compStart (.ListComp elt [⟨tg, iter, ifs, 0⟩] scope pos) 0 (.ref it) acc { cenv with scope := relabel scope X.env }) R s₄) X.xe s₃) X.xe s2 := by
  refine wpAny_newObj_type (wpAny_newFunctionEnv S.nocell (by intro y hy; simp at hy) (fun h₁ hns₁ hsb₁ => ?_) S.kind)
  have hC : (s2.heap.push { cls := .type "list", dict := none, data := .seq ([] : List Value).toArray }).objs.size = s2.heap.objs.size + 1 := Heap.size_push _ _
  rw [hC] at hns₁ hsb₁ ⊢
  have hkeep : ∀ b ob, s2.heap.get? b = some ob → h₁.get? b = some ob := fun b ob e =>
    (hsb₁.2 b (Nat.ne_of_lt (Nat.lt_succ_of_lt (Heap.lt_size e)))).trans (Heap.get?_push_of_some _ (Heap.get?_push_of_some _ e))
  have hD : ∃ n, h₁.get? s2.heap.objs.size = some { cls := .type "list", data := .seq ([] : List Value).toArray n } :=
    ⟨_, (hsb₁.2 _ (Nat.ne_of_lt (Nat.lt_succ_self _))).trans (Heap.get?_push_of_some _ (Heap.get?_push_size _ rfl))⟩
  have I4 := comp_inv S I2 hfp (fun b hb => ((Wk 0).obj 0 _ st2 b hb).imp fun _ q => q.1) (hns := hns₁) hkeep hD (s2.toks + ([] : List (Str × Value)).length)
  exact ⟨rfl, rfl, comp_core (L := clos X.env scope.names []) (fn := fun _ => false) I2 hfp st2 hkeep (Wk _) (ht _) (he _) h I4 fin⟩
theorem comp_block {pins : List (Addr × Obj)} {σ : St} {H2 : Hp} {s2 : Shared} {NY : List Str} {o : Nat} {caps : List Nat} {scope : Scope} {fp : List Addr} {it : Addr} {tn : Nat → Heap → Prop} {adv : Adv} {stop : Nat → Hp → Prop}
    {elt tg iter : Expr} {ifs : List Expr} {pos : Pos} {tt : TT} {te : TE} {Q : VK}
    (S : CompScope X NY o caps scope) (I2 : Inv X pins σ H2 s2) (hfp : ∀ b ∈ fp, FpOk X pins H2 b) (st2 : tn 0 s2.heap)
    (Wk : ∀ C, Walk (cxComp X NY scope C s2 H2 fp pins) tg fp it tn adv stop) (ht : ∀ C, PTs (cxComp X NY scope C s2 H2 fp pins) ifs tt) (he : ∀ C, PE (cxComp X NY scope C s2 H2 fp pins) elt te)
    (h : tCompW o caps adv stop tt te σ H2 Q) :
    wpAny (model X.prog X.w) X.A (newList []) (fun acc s₃ => wpAny (model X.prog X.w) X.A (newFunctionEnv scope X.env.globals (clos X.env scope.names []) [] X.env.qual none .none (some X.env)) (fun cenv s₄ =>
      codeAny (model X.prog X.w) X.A (.compStart (.ListComp elt [⟨tg, iter, ifs, 0⟩] scope pos) 0 (.ref it) acc { cenv with scope := relabel scope X.env }) (compPost (model X.prog X.w) X.A X.xe none (EP X pins σ Q) acc cenv.locals) s₄) X.xe s₃) X.xe s2 := by
  refine thn (comp_blk (iter := iter) (pos := pos) (R := compPost (model X.prog X.w) X.A X.xe none (EP X pins σ Q) (.ref s2.heap.objs.size) (s2.heap.objs.size + 1)) S I2 hfp st2 Wk ht he h fun s4 H3 m hn inv _ q => ⟨m, hn, fun h' hs => ⟨.ref s2.heap.objs.size, H3, inv h' hs, rfl, q⟩⟩) fun acc s3 h3 => thn h3 fun cenv s4 h4 => ?_
  obtain ⟨rfl, eC, h4⟩ := h4
  rw [eC] at h4 ⊢
  exact h4
def tComp (o : Nat) (caps : List Nat) (wi : TI) (g : TG) (tt : TT) (te : TE) : TE := fun σ H Q => wi σ H fun J H1 => tCompW o caps (advOf J g) J.stop tt te σ H1 Q
theorem pe_comp {elt iter tg : Expr} {ifs : List Expr} {scope : Scope} {pos : Pos} {NY : List Str} {o : Nat} {caps : List Nat} {wi : TI} {g : TG} {tt : TT} {te : TE}
    (S : CompScope X NY o caps scope) (hc : X.calm = true) (hi : PI X tg iter wi)
    (hg : ∀ C s H fp pins, PG (cxComp X NY scope C s H fp pins) tg g) (ht : ∀ C s H fp pins, PTs (cxComp X NY scope C s H fp pins) ifs tt) (he : ∀ C s H fp pins, PE (cxComp X NY scope C s H fp pins) elt te)
    (hs : ∀ x, foldedSetIterable iter X.env x = pure x := by intro _; rfl) : PE X (.ListComp elt [⟨tg, iter, ifs, 0⟩] scope pos) (tComp o caps wi g tt te) := by
  intro pins s σ H Q I h
  rw [eval_ListComp]
  refine wpAny_comprehension_free rfl hs (closureFor_ok fun y hy e => I.ok.has _ (S.frees y hy e)) S.kind S.locs ?_
  refine thn (hi pins s σ H _ I h) fun v s1 h1 => thn h1 fun itv s2 h2 => ?_
  obtain ⟨it, fp, tn, J, H2, e, I2, T, st2, f2, hr⟩ := h2
  subst e
  exact comp_block S I2 f2 st2 (fun C => Turn.walk hc T (hg _ _ _ _ _)) (fun C => ht _ _ _ _ _) (fun C => he _ _ _ _ _) hr
end
end L2
set_option Elab.async false
set_option linter.all false
set_option maxRecDepth 100000
namespace L2
open PySem PySem.Spec PyProof.Rows
end L2
set_option Elab.async false
set_option linter.all false
set_option maxRecDepth 100000
namespace L2
open PySem PySem.Spec PyProof.Rows
abbrev cs (z : Str) : List Nat := z.cps.toList
section
variable {X : Cx}
structure Kind {α : Type} (f : α → V) : Prop where
  flat : ∀ a, flatV (f a) = true
  eq : ∀ a b, eqV (f a) (f b) = true ↔ a = b
theorem kind_bl : Kind V.bl := ⟨fun _ => rfl, fun a b => by show (a == b) = true ↔ a = b; exact beq_iff_eq⟩
def eqAts {α : Type} (f : α → V) (as bs : List α) (j : Nat) : Bool := match as[j]?, bs[j]? with
  | some a, some b => eqV (f a) (f b)
  | _, _ => true
theorem eqAts_all {α : Type} [DecidableEq α] {f : α → V} (k : Kind f) : ∀ (as bs : List α), ((List.range (min as.length bs.length)).all (eqAts f as bs) && as.length == bs.length) = decide (as = bs) := by
  intro as bs
  rw [Bool.eq_iff_iff, Bool.and_eq_true, decide_eq_true_iff, List.all_eq_true]
  constructor
  · rintro ⟨h1, h2⟩
    have hl : as.length = bs.length := by simpa using h2
    refine List.ext_getElem? fun j => ?_
    by_cases hj : j < as.length
    · have := h1 j (by rw [List.mem_range]; omega)
      have ea : as[j]? = some as[j] := List.getElem?_eq_getElem hj
      have eb : bs[j]? = some (bs[j]'(by omega)) := List.getElem?_eq_getElem (by omega)
      unfold eqAts at this
      rw [ea, eb] at this
      rw [ea, eb, (k.eq _ _).mp this]
    · rw [List.getElem?_eq_none (by omega), List.getElem?_eq_none (by omega)]
  · rintro rfl
    refine ⟨fun j hj => ?_, by simp⟩
    unfold eqAts
    cases e : as[j]? with
    | none => rfl
    | some a => exact (k.eq a a).mpr rfl
theorem eqAts_at {α : Type} {f : α → V} (k : Kind f) {A : Around} {s : Shared} {as bs : List α} {us vs : List Value} (ra : Vals (as.map f) us) (rb : Vals (bs.map f) vs) (j : Nat) (h1 : j < us.toArray.size) (h2 : j < vs.toArray.size) :
    SeqAt.EqAt A s us.toArray[j] vs.toArray[j] (eqAts f as bs j) := by
  have l1 := ra.length
  have l2 := rb.length
  rw [List.length_map] at l1 l2
  rw [List.size_toArray] at h1 h2
  have ea : as[j]? = some (as[j]'(by omega)) := List.getElem?_eq_getElem (by omega)
  have eb : bs[j]? = some (bs[j]'(by omega)) := List.getElem?_eq_getElem (by omega)
  obtain ⟨u, hu, ru⟩ := ra.get (i := j) (x := f (as[j]'(by omega))) (by rw [List.getElem?_map, ea]; rfl)
  obtain ⟨v, hv, rv⟩ := rb.get (i := j) (x := f (bs[j]'(by omega))) (by rw [List.getElem?_map, eb]; rfl)
  have hu' : us.toArray[j] = u := by
    have : us[j]? = some us[j] := List.getElem?_eq_getElem h1
    rw [hu] at this; simpa using (Option.some.inj this).symm
  have hv' : vs.toArray[j] = v := by
    have : vs[j]? = some vs[j] := List.getElem?_eq_getElem h2
    rw [hv] at this; simpa using (Option.some.inj this).symm
  rw [hu', hv']
  unfold eqAts
  rw [ea, eb]
  exact eqAt_V ru rv (k.flat _) (k.flat _)
def rEqSq {α : Type} [DecidableEq α] (K : PySem.W.Frag) (f : α → V) (neg : Bool) : R2 := fun x y H Q => ∃ (a b : Addr) (as bs : List α), x = .ref a ∧ y = .ref b ∧ ((SqT K H a (as.map f) ∧ SqT K H b (bs.map f)) ∨ (SqL K H a (as.map f) ∧ SqL K H b (bs.map f))) ∧ Q (.bl (if neg then !decide (as = bs) else decide (as = bs))) H
theorem op_eqSq {α : Type} [DecidableEq α] {f : α → V} (k : Kind f) (hu : X.A.units < cLine) : OpR X (compareOp .Eq) (rEqSq X.K f false) := by
  intro pins s σ H x y v u Q I rx ry h
  obtain ⟨a, b, as, bs, rfl, rfl, hq, q⟩ := h
  cases rx
  cases ry
  have q : Q (.bl (decide (as = bs))) H := q
  rcases hq with ⟨h1, h2⟩ | ⟨h1, h2⟩
  · obtain ⟨its, r1, p1, _⟩ := I.tuple h1
    obtain ⟨its2, r2, p2, _⟩ := I.tuple h2
    have l1 := r1.length
    have l2 := r2.length
    rw [List.length_map] at l1 l2
    refine SeqAt.eq_tupleAt (show s.heap.IsTuple a its.toArray from p1) (show s.heap.IsTuple b its2.toArray from p2) hu (fun j h1 h2 => eqAts_at k r1 r2 j h1 h2) ⟨.bl (decide (as = bs)), H, I, ?_, q⟩
    rw [List.size_toArray, List.size_toArray, ← l1, ← l2, eqAts_all k]
    rfl
  · obtain ⟨its, r1, p1, _⟩ := I.list h1
    obtain ⟨its2, r2, p2, _⟩ := I.list h2
    have l1 := r1.length
    have l2 := r2.length
    rw [List.length_map] at l1 l2
    by_cases hs : its.toArray.size = its2.toArray.size
    · refine SeqAt.eq_listAt p1.isList p2.isList hs hu (fun j h1 h2 => eqAts_at k r1 r2 j h1 h2) ⟨.bl (decide (as = bs)), H, I, ?_, q⟩
      have e := eqAts_all k as bs
      rw [List.size_toArray, List.size_toArray] at hs
      rw [show as.length = bs.length by omega, Nat.min_self, beq_self_eq_true, Bool.and_true] at e
      rw [List.size_toArray, show its.length = bs.length by omega, e]
      rfl
    · refine SeqAt.eq_list_lengthsAt p1.isList p2.isList (by simpa using hs) hu ⟨.bl (decide (as = bs)), H, I, ?_, q⟩
      rw [decide_eq_false]
      · rfl
      · intro e
        rw [List.size_toArray, List.size_toArray, ← l1, ← l2, e] at hs
        exact hs rfl
theorem same_upd {H : Hp} {p : Addr} (h : H p = none) (o : HO) : Same H (upd H p o) := fun b u q => by rw [upd_ne (ne_of_none q h)]; exact q
theorem call_all_bl (hc : X.calm = true) : CallR X (.builtin "all") (fun xs H Q => ∃ (p : Addr) (bs : List Bool), xs = [.ref p] ∧ SqL X.K H p (bs.map V.bl) ∧ Q (.bl (bs.all id)) H) := by
  intro pins s σ H xs us Q I r h
  obtain ⟨p, bs, rfl, hq, q⟩ := h
  obtain ⟨u, rfl, ru⟩ := vals1 r
  cases ru
  obtain ⟨its, rv, pl, hz⟩ := I.list hq
  have hl := rv.length
  rw [List.length_map] at hl
  have hh : X.A.in1.handled = none := by simp [I.ok.hd hc]
  have plt : p < s.heap.objs.size := by obtain ⟨_, e, _⟩ := pl.isList; exact Heap.lt_size e
  refine call_all_walk (wpAny_pyIter_list pl.isList ⟨s.heap.objs.size, _, _, _, _, _, fun i => bs.getD i true, rfl, Walks.list hh s.heap.objs.size p (Nat.ne_of_lt plt) its.toArray,
    ⟨⟨_, Heap.get?_push_size _ rfl, rfl, rfl⟩, pl.isList.push _⟩, fun i v s Q E hv hQ => ?_, fun h' tk hk => ?_⟩)
  · have e : its[i]? = some v := by simpa using hv
    have hi : i < bs.length := by rw [hl]; exact (List.getElem?_eq_some_iff.mp e).1
    obtain ⟨u, hu, ru⟩ := rv.get (i := i) (x := .bl bs[i]) (by rw [List.getElem?_map, List.getElem?_eq_getElem hi]; rfl)
    rw [e] at hu
    cases hu
    cases ru
    refine wpAny_truthy_bool ?_
    have : bs.getD i true = bs[i] := by rw [List.getD_eq_getElem?_getD, List.getElem?_eq_getElem hi]; rfl
    have hQ' : Q (bs.getD i true) s := hQ
    rw [this] at hQ'; exact hQ'
  · have hf := I.hok.fresh (Nat.le_refl s.heap.objs.size)
    refine ⟨.bl (bs.all id), H, ?_, ?_, q⟩
    · have I1 : Inv X pins σ H { s with heap := s.heap.push { cls := .type "list_iterator", data := .fields #[.ref p, .int 0 0] } } := I.kept (t' := s.toks) fun _ _ e => Heap.get?_push_of_some _ e
      refine I.kept (t' := tk) fun b o e => hk b o (fun z => ?_) (Heap.get?_push_of_some _ e)
      have : b = s.heap.objs.size := by simpa using z
      exact absurd (Heap.lt_size e) (by rw [this]; exact Nat.lt_irrefl _)
    · show Value.bool _ = Value.bool _
      congr 1
      rw [List.size_toArray, ← hl, Bool.eq_iff_iff, List.all_eq_true, List.all_eq_true]
      constructor
      · intro h b hb
        obtain ⟨i, hi, e⟩ := List.getElem_of_mem hb
        have := h i (List.mem_range.mpr hi)
        rw [List.getD_eq_getElem?_getD, List.getElem?_eq_getElem hi, e] at this
        exact this
      · intro h i hi
        have hi := List.mem_range.mp hi
        rw [List.getD_eq_getElem?_getD, List.getElem?_eq_getElem hi]
        exact h _ (List.getElem_mem hi)
end
end L2
set_option Elab.async false
set_option linter.all false
set_option maxRecDepth 100000
namespace L2
open PySem PySem.Spec PyProof.Rows
section
variable {prog : Program} {w : World} {A : Around} {E : Value → Shared → Prop} {s : Shared}
def byT (w : World) : Prop := w.params.followText "set-order" = true
def entS (P : Program) (w : World) (x : Str) (e : Int × Value) : Prop := e.1 = (mixKind P w).hash (.inr x) ∧ ∃ t, e.2 = .str x t
def SetAt (P : Program) (w : World) (h : Heap) (a : Addr) (ys : List Str) : Prop :=
  ∃ o es ep t, h.get? a = some o ∧ o.ExactSet ∧ o.data = .set es ep t ∧ Paired (entS P w) ys es.toList ∧ ys.Nodup ∧ ys.length < scanBound ∧ t.fits es.size = true ∧ (t.led = true ∨ byT w) ∧ (ys = [] ∨ t.plain = false)
end
end L2
set_option Elab.async false
set_option linter.all false
set_option maxRecDepth 100000
namespace L2
open PySem PySem.Spec PyProof.Rows
end L2
set_option Elab.async false
set_option linter.all false
set_option maxRecDepth 100000
namespace L2
open PySem PySem.Spec PyProof.Rows
def setO (P : Program) (w : World) (a : Addr) (xs : List Str) : HO := .ext fun h => ∃ ys, ys.Perm xs ∧ SetAt P w h a ys
theorem Inv.set {X : Cx} {pins : List (Addr × Obj)} {σ : St} {H : Hp} {s : Shared} {a : Addr} {xs : List Str} (I : Inv X pins σ H s) (h : H a = some (setO X.prog X.w a xs)) : ∃ ys, ys.Perm xs ∧ SetAt X.prog X.w s.heap a ys :=
  (I.hok a _ h).1
theorem SetAt.typeIs {P : Program} {w : World} {s : Shared} {a : Addr} {ys : List Str} (h : SetAt P w s.heap a ys) : s.TypeIs (.ref a) "set" := by
  obtain ⟨o, es, ep, t, e, hx, _⟩ := h
  exact ⟨o, e, hx.1⟩
end L2
set_option Elab.async false
set_option linter.all false
set_option maxRecDepth 100000
namespace L2
open PySem PySem.Spec PyProof.Rows
def lstep (mask i : Nat) : Nat := (i * 5 + 1) % (mask + 1)
def lit (mask : Nat) : Nat → Nat → Nat
  | 0, i => i
  | k + 1, i => lit mask k (lstep mask i)
def pos (mask : Nat) : Nat → Nat → Nat → Nat
  | 0, i, _ => i
  | t + 1, i, p => pos mask t (SetTable.leap mask i p).1 (SetTable.leap mask i p).2
end L2
set_option Elab.async false
set_option linter.all false
set_option maxRecDepth 100000
namespace L2
open PySem PySem.Spec PyProof.Rows
end L2
set_option Elab.async false
set_option linter.all false
set_option maxRecDepth 100000
namespace L2
open PySem PySem.Spec PyProof.Rows
end L2
set_option Elab.async false
set_option linter.all false
set_option maxRecDepth 100000
namespace L2
open PySem PySem.Spec PyProof.Rows
end L2
set_option Elab.async false
set_option linter.all false
set_option maxRecDepth 100000
namespace L2
open PySem PySem.Spec PyProof.Rows
end L2
set_option Elab.async false
set_option linter.all false
set_option maxRecDepth 100000
namespace L2
open PySem PySem.Spec PyProof.Rows
end L2
set_option Elab.async false
set_option linter.all false
set_option maxRecDepth 100000
namespace L2
open PySem PySem.Spec PyProof.Rows
end L2
set_option Elab.async false
set_option linter.all false
set_option maxRecDepth 100000
namespace L2
open PySem PySem.Spec PyProof.Rows
end L2
set_option Elab.async false
set_option linter.all false
set_option maxRecDepth 100000
namespace L2
open PySem PySem.Spec PyProof.Rows
end L2
set_option Elab.async false
set_option linter.all false
set_option maxRecDepth 100000
namespace L2
open PySem PySem.Spec PyProof.Rows
end L2
set_option Elab.async false
set_option linter.all false
set_option maxRecDepth 100000
namespace L2
open PySem PySem.Spec PyProof.Rows
theorem Same.up {H : Hp} {p : Addr} (h : H p = none) {o : HO} : Same H (upd H p o) := same_upd h o
theorem Same.to {H H1 : Hp} {p : Addr} (s : Same H H1) (h : H1 p = none) {o : HO} : Same H (upd H1 p o) := s.trans (same_upd h o)
theorem Same.at {H H1 : Hp} {p : Addr} (s : Same H H1) (h : H p = none) {o : HO} : Same H (upd H1 p o) := fun b u q => by rw [upd_ne (ne_of_none q h)]; exact s b u q
theorem comp_scope {X : Cx} {NY : List Str} {o : Nat} {caps : List Nat} {scope : Scope} (frees : List Str) (k : scope.kind = .function) (nd : NY.Nodup) (nc : scope.names.all (fun y => y.2 != .cell) = true)
    (lc : scope.names.all (fun y => y.2 != .local || scope.names.lookup y.1 == some .local) = true) (fr : scope.names.all (fun y => y.2 != .free || frees.contains y.1) = true)
    (fk : ∀ x ∈ frees, X.env.kindOf x = some .cell ∨ X.env.kindOf x = some .free) (cap : ∀ (j i : Nat), caps[j]? = some i → ∃ x, NY[o + j]? = some x ∧ X.N[i]? = some x ∧ scope.names.lookup x = some .free) (len : NY.length = o + caps.length) : CompScope X NY o caps scope where
  kind := k
  nd := nd
  nocell := fun y hy e => by have := List.all_eq_true.mp nc y hy; rw [e] at this; cases this
  frees := fun y hy e => by
    have := List.all_eq_true.mp fr y hy
    rw [e] at this
    exact fk _ (List.contains_iff_mem.mp this)
  locs := fun y hy e => by
    have := List.all_eq_true.mp lc y hy
    rw [e] at this
    simpa using this
  capOk := cap
  len := len
theorem cap0 {X : Cx} {NY : List Str} {o : Nat} {scope : Scope} : ∀ (j i : Nat), ([] : List Nat)[j]? = some i → ∃ x, NY[o + j]? = some x ∧ X.N[i]? = some x ∧ scope.names.lookup x = some .free := fun j i h => by simp at h
theorem capC {X : Cx} {NY : List Str} {o a : Nat} {as : List Nat} {scope : Scope} {x : Str} (h0 : NY[o]? = some x) (h1 : X.N[a]? = some x) (h2 : scope.names.lookup x = some .free)
    (hr : ∀ (j i : Nat), as[j]? = some i → ∃ x, NY[o + 1 + j]? = some x ∧ X.N[i]? = some x ∧ scope.names.lookup x = some .free) :
    ∀ (j i : Nat), (a :: as)[j]? = some i → ∃ x, NY[o + j]? = some x ∧ X.N[i]? = some x ∧ scope.names.lookup x = some .free
  | 0, i, h => by simp at h; subst h; exact ⟨x, h0, h1, h2⟩
  | j + 1, i, h => by
    obtain ⟨y, q⟩ := hr j i (by simpa using h)
    exact ⟨y, by rw [show o + (j + 1) = o + 1 + j by omega]; exact q.1, q.2⟩
theorem comp_by {o : Nat} {caps : List Nat} {adv : Adv} {stop : Nat → Hp → Prop} {tt : TT} {te : TE} {σ : St} {H1 : Hp} {Q : VK} (n : Nat) (out : Nat → List V) (h0 : out 0 = []) (hlen : ∀ i, i < n → (out i).length < sizeLine)
    (turn : ∀ (i : Nat) (H : Hp) (D : Addr) (Y : V → Hp → Prop) (Z : Hp → Prop), i < n → H1 D = none → H D = some (.lst (out i)) → Same H1 H →
      (∀ y H4, H4 D = some (.lst (out i)) → Same H1 H4 → out (i + 1) = out i ++ [y] → Y y H4) → (∀ H3, H3 D = some (.lst (out i)) → Same H1 H3 → out (i + 1) = out i → Z H3) →
      adv i (stY o caps σ) H fun σ2 H2 => Kp o (stY o caps σ) σ2 ∧ tt σ2 H2 fun b H3 => if b = true then te σ2 H3 Y else Z H3)
    (stp : ∀ H, Same H1 H → stop n H) (fin : ∀ (D : Addr) (H : Hp), H1 D = none → Same H1 H → H D = some (.lst (out n)) → Q (.ref D) H) : tCompW o caps adv stop tt te σ H1 Q := by
  intro D hD
  refine ⟨fun i m ys H => m = n - i ∧ i ≤ n ∧ ys = out i ∧ H D = some (.lst (out i)) ∧ Same H1 H, ⟨n, by simp, Nat.zero_le _, h0.symm, by rw [h0]; exact upd_same, Same.up hD⟩, ?_⟩
  rintro i m ys H ⟨rfl, hi, rfl, hH, sm⟩
  by_cases hlt : i < n
  · refine .inr (turn i H D _ _ hlt hD hH sm (fun y H4 e1 e2 e3 => ⟨e1, hlen i hlt, n - (i + 1), by omega, rfl, hlt, e3.symm, by rw [e3]; exact upd_same, e2.at hD⟩) (fun H3 e1 e2 e3 => ⟨n - (i + 1), by omega, rfl, hlt, e3.symm, by rw [e3]; exact e1, e2⟩))
  · have e : i = n := by omega
    subst e
    exact .inl ⟨stp H sm, fin D H hD sm hH⟩
section
variable {K : PySem.W.Frag} {o : Nat} {caps : List Nat} {g : TG} {tg : TGs} {tt : TT} {te : TE} {σ : St} {H1 : Hp} {Q : VK}
abbrev TurnW (o : Nat) (caps : List Nat) (σ : St) (tt : TT) (te : TE) (Y : V → Hp → Prop) (Z : Hp → Prop) : St → Hp → Prop := fun σ2 H2 => Kp o (stY o caps σ) σ2 ∧ tt σ2 H2 fun b H3 => if b = true then te σ2 H3 Y else Z H3
theorem comp_r {lo : Int} {n : Nat} (out : Nat → List V) (h0 : out 0 = []) (hlen : ∀ i, i < n → (out i).length < sizeLine)
    (turn : ∀ (i : Nat) (H : Hp) (D : Addr) (Y : V → Hp → Prop) (Z : Hp → Prop), i < n → H1 D = none → H D = some (.lst (out i)) → Same H1 H →
      (∀ y H4, H4 D = some (.lst (out i)) → Same H1 H4 → out (i + 1) = out i ++ [y] → Y y H4) → (∀ H3, H3 D = some (.lst (out i)) → Same H1 H3 → out (i + 1) = out i → Z H3) → g (.int (lo + i)) (stY o caps σ) H (TurnW o caps σ tt te Y Z))
    (fin : ∀ (D : Addr) (H : Hp), H1 D = none → Same H1 H → H D = some (.lst (out n)) → Q (.ref D) H) : tCompW o caps (advOf (Itr lo n) g) (Itr lo n).stop tt te σ H1 Q :=
  comp_by n out h0 hlen (fun i H D Y Z hi hD hH sm hy hz => ⟨hi, fun x H' ⟨e, ex⟩ => by subst e ex; exact turn i _ D Y Z hi hD hH sm hy hz⟩) (fun H sm => Nat.le_refl _) fin
end
theorem small {n : Nat} (h : n ≤ 100000) : n < sizeLine := Nat.lt_of_le_of_lt h (by decide)
theorem smallE {n : Nat} (h : n ≤ 100000) : n ≤ sizeLine := Nat.le_of_lt (small h)
end L2
namespace Fs
structure On (ls : List Nat) (F : List Pr) : Prop where
  vf : Vf F
  mem : ∀ p ∈ F, ∀ c ∈ p, c ∈ ls
theorem On.sub {ls : List Nat} {F : List Pr} (h : On ls F) (hl : ls.Pairwise (· < ·)) : ∀ p ∈ F, p.Sublist ls := fun p hp => rise_sub hl (h.vf.prod p hp) (h.mem p hp)
theorem On.len {ls : List Nat} {F : List Pr} (h : On ls F) (hl : ls.Pairwise (· < ·)) : F.length ≤ 2 ^ ls.length := by
  rw [← prods_length]
  exact nodup_len h.vf.nodup fun p hp => mem_prods.mpr (h.sub hl p hp)
theorem flat_le {n : Nat} : ∀ {F : List Pr}, (∀ p ∈ F, p.length ≤ n) → F.flatten.length ≤ F.length * n
  | [], _ => by simp
  | p :: F, h => by
    rw [List.flatten_cons, List.length_append, List.length_cons, Nat.succ_mul]
    have h1 := h p List.mem_cons_self
    have h2 := flat_le fun q hq => h q (List.mem_cons_of_mem _ hq)
    omega
theorem On.flat {ls : List Nat} {F : List Pr} (h : On ls F) (hl : ls.Pairwise (· < ·)) : F.flatten.length ≤ F.length * ls.length := flat_le fun p hp => (h.sub hl p hp).length_le
theorem On.one (ls : List Nat) : On ls [[]] := ⟨one_vf, by simp⟩
theorem On.nil (ls : List Nat) : On ls [] := ⟨nil_vf, by simp⟩
end Fs
set_option Elab.async false
set_option linter.all false
set_option maxRecDepth 100000
namespace L2
open PySem PySem.Spec PyProof.Rows
section
variable {X : Cx}
theorem Vals.erase : ∀ {xs : List V} {us : List Value} (i : Nat), Vals xs us → Vals (xs.eraseIdx i) (us.eraseIdx i)
  | _, _, _, .nil => .nil
  | _, _, 0, .cons _ t => t
  | _, _, i + 1, .cons r t => .cons r (Vals.erase i t)
end
end L2
set_option Elab.async false
set_option linter.all false
set_option maxRecDepth 100000
namespace L2
open PySem PySem.Spec PyProof.Rows
structure ZL (h : Heap) (z TI TO i1 i2 l1 l2 S : Addr) (i : Nat) (xs ys : Array Value) : Prop where
  zip : ∃ f0 fl, h.get? z = some { cls := .type "zip", dict := none, data := .fields #[f0, .bool fl, .bool false, .ref TI, .ref TO], slots := #[] } ∧ ((f0 = .none ∧ fl = false) ∨ ∃ (a : Addr) (oa : Obj), f0 = rawInt a ∧ h.get? a = some oa ∧ a ∉ [z, TO, i1, i2, S])
  ti : IsPair h TI (.ref i1) (.ref i2)
  to : ∃ a b, IsPair h TO a b
  it1 : h.IsListIter i1 l1 i
  it2 : h.IsListIter i2 l2 i
  ll1 : h.IsList l1 xs
  ll2 : h.IsList l2 ys
section
variable {prog : Program} {w : World} {A : Around} {E : Value → Shared → Prop} {s : Shared} {z TI TO i1 i2 l1 l2 S : Addr} {i : Nat} {xs ys : Array Value}
theorem ZL.keep {h h' : Heap} (st : ZL h z TI TO i1 i2 l1 l2 S i xs ys) (hk : ∀ b o, b ≠ S → h.get? b = some o → h'.get? b = some o) (hn : S ∉ [z, TI, TO, i1, i2, l1, l2]) : ZL h' z TI TO i1 i2 l1 l2 S i xs ys := by
  have ne : ∀ c, c ∈ [z, TI, TO, i1, i2, l1, l2] → c ≠ S := fun c hc e => hn (e ▸ hc)
  obtain ⟨⟨f0, fl, hz, hf⟩, ti, ⟨a, b, to⟩, h1, h2, hl1, hl2⟩ := st
  refine ⟨⟨f0, fl, hk _ _ (ne z (by simp)) hz, ?_⟩, hk _ _ (ne TI (by simp)) ti, ⟨a, b, hk _ _ (ne TO (by simp)) to⟩, h1.at fun o e => hk _ o (ne i1 (by simp)) e, h2.at fun o e => hk _ o (ne i2 (by simp)) e, hl1.at fun o e => hk _ o (ne l1 (by simp)) e, hl2.at fun o e => hk _ o (ne l2 (by simp)) e⟩
  rcases hf with hf | ⟨a, oa, e, ha, hn'⟩
  · exact .inl hf
  · exact .inr ⟨a, oa, e, hk _ _ (fun q => hn' (by rw [q]; simp)) ha, hn'⟩
end
end L2
set_option Elab.async false
set_option linter.all false
set_option maxRecDepth 100000
namespace L2
open PySem PySem.Spec PyProof.Rows
end L2
set_option Elab.async false
set_option linter.all false
set_option maxRecDepth 100000
set_option Elab.async false
set_option linter.all false
set_option maxRecDepth 100000
namespace L2
open PySem PySem.Spec PyProof.Rows
end L2
set_option Elab.async false
set_option linter.all false
set_option maxRecDepth 100000
namespace L2
open PySem PySem.Spec PyProof.Rows
end L2
set_option Elab.async false
set_option linter.all false
set_option maxRecDepth 100000
namespace L2
open PySem PySem.Spec PyProof.Rows
end L2
set_option Elab.async false
set_option linter.all false
set_option maxRecDepth 100000
namespace L2
open PySem PySem.Spec PyProof.Rows
end L2
set_option Elab.async false
set_option linter.all false
set_option maxRecDepth 100000
set_option maxHeartbeats 4000000
namespace FsS
open PySem PyProof.Rows
def ky (κ : KeyKind) (x : Keyed) : κ.α := (κ.keyOf x.1).getD κ.dflt
def Kd (κ : KeyKind) (x : Keyed) : Prop := ∃ a, κ.keyOf x.1 = some a
theorem Kd.eq {κ : KeyKind} {x : Keyed} (h : Kd κ x) : κ.keyOf x.1 = some (ky κ x) := by
  obtain ⟨a, h⟩ := h
  unfold ky; rw [h]; rfl
end FsS
set_option Elab.async false
set_option linter.all false
set_option maxRecDepth 100000
set_option maxHeartbeats 4000000
namespace FsS
open PySem PyProof.Rows
structure MI {α : Type} (r : α → α → Prop) (la lb O : List α) (i j : Nat) : Prop where
  sa : (O ++ la.drop i).Pairwise r
  sb : (O ++ lb.drop j).Pairwise r
  pm : (O ++ (la.drop i ++ lb.drop j)).Perm (la ++ lb)
def Gd {α : Type} (r : α → α → Prop) (la lb : List α) (o : List α) : Prop := o.Pairwise r ∧ o.Perm (la ++ lb)
abbrev kl (κ : KeyKind) (x y : Keyed) : Prop := κ.kle (ky κ x) (ky κ y)
abbrev So (κ : KeyKind) (l : List Keyed) : Prop := l.Pairwise (kl κ)
end FsS
set_option Elab.async false
set_option linter.all false
set_option maxRecDepth 100000
set_option maxHeartbeats 4000000
namespace FsS
open PySem PyProof.Rows
abbrev setG (st : SortSt) (g : Nat) : SortSt := SortSt.mk' (kindOf st) (arrOf st) (pendingOf st) g (failedOf st)
abbrev C0 := Option (Array Keyed) × Array Keyed × Nat × Nat × Nat
def Ok {γ : Type} (κ : KeyKind) (a b : Array Keyed) (st : SortSt) (m : Nat) (c : Option (Array Keyed) × Array Keyed × Nat × Nat × γ) (st' : SortSt) : Prop :=
  (∃ g, st' = setG st g) ∧ ((∃ r, c.1 = some r ∧ Gd (kl κ) a.toList b.toList r.toList) ∨ (c.1 = none ∧ MI (kl κ) a.toList b.toList c.2.1.toList c.2.2.1 c.2.2.2.1 ∧ c.2.2.1 + 1 < a.size ∧ c.2.2.2.1 < b.size ∧ m ≤ c.2.2.1 + c.2.2.2.1))
section
variable {prog : Program} {w : World} {A : Around} {E : Value → Shared → Prop} {s : Shared} {κ : KeyKind} {a b : Array Keyed} {st : SortSt}
variable (hO : κ.OneLt) (hk : kindOf st = oneType') (ka : ∀ x ∈ a.toList, Kd κ x) (kb : ∀ x ∈ b.toList, Kd κ x) (hl : ∀ x ∈ a.toList.drop (a.size - 1), ∀ y ∈ b.toList, kl κ y x)
include hO hk ka kb hl
end
end FsS
set_option Elab.async false
set_option linter.all false
set_option maxRecDepth 100000
set_option maxHeartbeats 4000000
namespace FsS
open PySem PyProof.Rows
section
variable {prog : Program} {w : World} {A : Around} {E : Value → Shared → Prop} {s : Shared} {κ : KeyKind} {a b : Array Keyed} {st : SortSt}
theorem Ok.mono {γ : Type} {m m' : Nat} {c : Option (Array Keyed) × Array Keyed × Nat × Nat × γ} {st' : SortSt} (h : Ok κ a b st m c st') (hm : m' ≤ m) : Ok κ a b st m' c st' := by
  obtain ⟨hs, h | ⟨h1, h2, h3, h4, h5⟩⟩ := h
  · exact ⟨hs, .inl h⟩
  · exact ⟨hs, .inr ⟨h1, h2, h3, h4, Nat.le_trans hm h5⟩⟩
end
end FsS
set_option Elab.async false
set_option linter.all false
set_option maxRecDepth 100000
set_option maxHeartbeats 4000000
namespace FsS
open PySem PyProof.Rows
structure MH {α : Type} (r : α → α → Prop) (la lb O : List α) (i j : Nat) : Prop where
  sa : (la.take i ++ O).Pairwise r
  sb : (lb.take j ++ O).Pairwise r
  pm : (la.take i ++ (lb.take j ++ O)).Perm (la ++ lb)
theorem MH.first {α : Type} {r : α → α → Prop} {la lb O : List α} {i j : Nat} (h : MH r la lb O i j) (hl : ∀ x ∈ lb.take j, ∀ y ∈ la, r x y) : Gd r la lb (lb.take j ++ la.take i ++ O) := by
  have hb := List.pairwise_append.mp h.sb
  refine ⟨?_, ?_⟩
  · rw [List.append_assoc]
    refine List.pairwise_append.mpr ⟨hb.1, h.sa, fun x hx y hy => ?_⟩
    rcases List.mem_append.mp hy with hA | hO
    · exact hl x hx y (List.mem_of_mem_take hA)
    · exact hb.2.2 x hx y hO
  · rw [List.append_assoc]
    exact (List.perm_append_comm_assoc (lb.take j) (la.take i) O).trans h.pm
abbrev D2 := Option (Array Keyed) × Nat × Nat × Array Keyed × Nat × Nat × Nat
def OkH {γ : Type} (κ : KeyKind) (a b : Array Keyed) (st : SortSt) (m : Nat) (c : Option (Array Keyed) × Nat × Nat × Array Keyed × γ) (st' : SortSt) : Prop :=
  (∃ g, st' = setG st g) ∧ ((∃ r, c.1 = some r ∧ Gd (kl κ) a.toList b.toList r.toList) ∨ (c.1 = none ∧ MH (kl κ) a.toList b.toList c.2.2.2.1.toList.reverse c.2.1 c.2.2.1 ∧ 0 < c.2.1 ∧ c.2.1 ≤ a.size ∧ 1 < c.2.2.1 ∧ c.2.2.1 ≤ b.size ∧ c.2.1 + c.2.2.1 + m ≤ a.size + b.size))
section
variable {prog : Program} {w : World} {A : Around} {E : Value → Shared → Prop} {s : Shared} {κ : KeyKind} {a b : Array Keyed} {st : SortSt}
variable (hO : κ.OneLt) (hk : kindOf st = oneType') (ka : ∀ x ∈ a.toList, Kd κ x) (kb : ∀ x ∈ b.toList, Kd κ x) (hd : ∀ x ∈ b.toList.take 1, ∀ y ∈ a.toList, kl κ x y)
include hO hk ka kb hd
end
section
variable {prog : Program} {w : World} {A : Around} {E : Value → Shared → Prop} {s : Shared} {κ : KeyKind} {a b : Array Keyed} {st : SortSt}
theorem OkH.mono {γ : Type} {m m' : Nat} {c : Option (Array Keyed) × Nat × Nat × Array Keyed × γ} {st' : SortSt} (h : OkH κ a b st m c st') (hm : m' ≤ m) : OkH κ a b st m' c st' := by
  obtain ⟨hs, h | ⟨h1, h2, h3, h4, h5, h6, h7⟩⟩ := h
  · exact ⟨hs, .inl h⟩
  · exact ⟨hs, .inr ⟨h1, h2, h3, h4, h5, h6, by omega⟩⟩
end
end FsS
set_option Elab.async false
set_option linter.all false
set_option maxRecDepth 100000
set_option maxHeartbeats 4000000
namespace FsS
open PySem PyProof.Rows
end FsS
set_option Elab.async false
set_option linter.all false
set_option maxRecDepth 100000
set_option maxHeartbeats 4000000
namespace FsS
open PySem PyProof.Rows
end FsS
set_option Elab.async false
set_option linter.all false
set_option maxRecDepth 100000
set_option maxHeartbeats 4000000
namespace FsS
open PySem PyProof.Rows
end FsS
set_option Elab.async false
set_option linter.all false
set_option maxRecDepth 100000
set_option maxHeartbeats 4000000
namespace FsS
open PySem PyProof.Rows
inductive Rs (κ : KeyKind) : Nat → List (Nat × Nat × Nat) → List Keyed → Prop
  | nil (o : Nat) : Rs κ o [] []
  | cons {o n p : Nat} {X : List Keyed} {ps : List (Nat × Nat × Nat)} {T : List Keyed} : X.length = n → 0 < n → So κ X → Rs κ (o + n) ps T → Rs κ o ((o, n, p) :: ps) (X ++ T)
theorem Rs.snoc {κ : KeyKind} {o : Nat} {ps : List (Nat × Nat × Nat)} {T X : List Keyed} {n p : Nat} (h : Rs κ o ps T) (hX : X.length = n) (hn : 0 < n) (so : So κ X) : Rs κ o (ps ++ [(o + T.length, n, p)]) (T ++ X) := by
  induction h with
  | nil o => 
    have := Rs.cons (p := p) (o := o) hX hn so (Rs.nil (κ := κ) (o + n))
    simpa using this
  | cons e1 e2 e3 _ ih =>
    rw [List.append_assoc, List.length_append, e1]
    refine Rs.cons e1 e2 e3 ?_
    rw [← Nat.add_assoc]; exact ih
theorem Rs.len {κ : KeyKind} {o : Nat} {ps : List (Nat × Nat × Nat)} {T : List Keyed} (h : Rs κ o ps T) : ps.length ≤ T.length := by
  induction h with
  | nil o => exact Nat.le_refl _
  | cons e1 e2 _ _ ih => rw [List.length_cons, List.length_append]; omega
theorem Rs.one {κ : KeyKind} {ps : List (Nat × Nat × Nat)} {T : List Keyed} (h : Rs κ 0 ps T) (hl : ps.length ≤ 1) : So κ T := by
  cases h with
  | nil => exact List.Pairwise.nil
  | cons e1 e2 e3 hr =>
    cases hr with
    | nil => rw [List.append_nil]; exact e3
    | cons _ _ _ _ => simp at hl
def Rt (κ : KeyKind) (a₀ : List Keyed) (st : SortSt) (lo : Nat) (T : List Keyed) : Prop :=
  kindOf st = oneType' ∧ failedOf st = none ∧ ∃ D, (arrOf st).toList = D ++ T ∧ D.length = lo ∧ (D ++ T).Perm a₀ ∧ Rs κ 0 (pendingOf st).toList D
end FsS
set_option Elab.async false
set_option linter.all false
set_option maxRecDepth 100000
set_option maxHeartbeats 4000000
namespace FsS
open PySem PyProof.Rows
section
variable {prog : Program} {w : World} {A : Around} {E : Value → Shared → Prop} {s : Shared} {κ : KeyKind} {st : SortSt}
theorem Rt.len {a₀ T : List Keyed} {lo : Nat} (h : Rt κ a₀ st lo T) : lo + T.length = a₀.length := by
  obtain ⟨_, _, D, _, hD, pm, _⟩ := h
  have := pm.length_eq
  rw [List.length_append] at this
  omega
theorem Rt.push {a₀ T : List Keyed} {lo n : Nat} (h : Rt κ a₀ st lo T) (n1 : 1 ≤ n) (n2 : n ≤ T.length) (so : So κ (T.take n)) : Rt κ a₀ (setPending st ((pendingOf st).push (lo, n, 0))) (lo + n) (T.drop n) := by
  obtain ⟨b1, b2, D, b3, b4, b5, b6⟩ := h
  refine ⟨b1, b2, D ++ T.take n, ?_, ?_, ?_, ?_⟩
  · show (arrOf st).toList = _
    rw [b3, List.append_assoc, List.take_append_drop]
  · rw [List.length_append, List.length_take]; omega
  · rw [List.append_assoc, List.take_append_drop]; exact b5
  · show Rs κ 0 ((pendingOf st).push (lo, n, 0)).toList _
    rw [Array.toList_push]
    have := b6.snoc (p := 0) (X := T.take n) (n := n) (by rw [List.length_take]; omega) (by omega) so
    rw [Nat.zero_add, b4] at this
    exact this
end
end FsS
set_option Elab.async false
set_option linter.all false
set_option maxRecDepth 100000
set_option maxHeartbeats 4000000
namespace FsS
open PySem PyProof.Rows PySem.Spec
section
variable {prog : Program} {w : World} {A : Around} {E : Value → Shared → Prop} {s : Shared}
theorem So.to {κ : KeyKind} {xs : Array Keyed} (h : So κ xs.toList) : SortedToK κ xs xs.size := by
  intro i j hij hj
  have kk : ∀ k, (hk : k < xs.size) → KK κ xs k = ky κ xs[k] := fun k hk => by
    unfold KK ky; rw [getElem?_pos xs k hk]
  rw [kk i (by omega), kk j hj]
  rcases Nat.lt_or_ge i j with h1 | h1
  · have := List.pairwise_iff_getElem.mp h i j (by rw [Array.length_toList]; omega) (by rw [Array.length_toList]; omega) h1
    simpa using this
  · have : i = j := by omega
    subst this; exact KeyOrd.kle_refl _
end
end FsS
set_option Elab.async false
set_option linter.all false
set_option maxRecDepth 100000
namespace L2
open PySem PySem.Spec PyProof.Rows
end L2
set_option linter.all false
set_option linter.all false
set_option Elab.async false
set_option linter.all false
set_option maxRecDepth 100000
namespace L2
open PySem PySem.Spec PyProof.Rows
end L2
set_option linter.all false
namespace L2
open PySem PySem.Spec PyProof.Rows
end L2
set_option Elab.async false
set_option linter.all false
set_option maxRecDepth 100000
namespace L2
open PySem PySem.Spec PyProof.Rows
end L2
set_option Elab.async false
set_option linter.all false
set_option maxRecDepth 100000
namespace L2
open PySem PySem.Spec PyProof.Rows PySem.W PySem.Builtin PySem.Builtin.ObjectAttr
abbrev mV : List Value := [.type "ValueError", .type "Exception", .type "BaseException", .type "object"]
def ovV : List Value → Bool
  | .ref _ :: r => ovV r
  | l => l == mV
theorem ov_cases {l : List Value} (h : ovV l = true) : l = mV ∨ ∃ a r, l = .ref a :: r ∧ ovV r = true := by
  unfold ovV at h
  split at h
  · rename_i a r
    exact .inr ⟨a, r, rfl, h⟩
  · exact .inl (beq_iff_eq.mp h)
theorem ov_pass (self : Value) : ∀ (l : List Value), ovV l = true → refuseLoop self "__setattr__" l = pure ()
  | [], h => by cases h
  | v :: r, h => by
    rcases ov_cases h with e | ⟨a, r', e, h'⟩
    · rw [e]; exact PySem.F.store_ValueError.passes self
    · cases e
      rw [refuseLoop_ref]
      exact ov_pass self r h'
theorem ov_has {T : String} (hT : mV.contains (.type T) = true) : ∀ (l : List Value), ovV l = true → l.contains (.type T) = true
  | [], h => by cases h
  | v :: r, h => by
    rcases ov_cases h with e | ⟨a, r', e, h'⟩
    · rw [e]; exact hT
    · cases e
      rw [List.contains_cons, ov_has hT r h', Bool.or_true]
section
variable {prog : Program} {w : World} {A : Around} {E : Value → Shared → Prop} {s : Shared} {K : Frag} {x C : Addr} {ox : Obj} {cd : ClassData} {name : Str} {v : Value} {od : Option Obj}
theorem exc_set {Q : Unit → Shared → Prop} {vs : Array Value} (X : K.In s.heap) (I : PySem.W.InstAt s.heap x ox C none) (hf : ox.data = .fields vs) (hs : findIn K (.ref C) "__setattr__" = some (some (.builtin "object.__setattr__")))
    (hc : clsIn K C = some cd) (ho : ovV cd.mro = true) (hd : cd.hasDict = true) (ha : findIn K (.ref C) name = some none)
    (h : ∀ h' tk, h'.get? x = some { ox with dict := some s.heap.objs.size } → h'.Ns1 s.heap.objs.size (fun y => if y = name then some v else none) → (∀ b o, b ≠ x → s.heap.get? b = some o → h'.get? b = some o) → Q () { s with heap := h', toks := tk }) :
    wpAny (model prog w) A (setAttr (.ref x) name v) Q E s := by
  obtain ⟨h0, g, d, t, os⟩ := s
  refine set_plain X I hs ?_
  have SF := PySem.F.store_ValueError
  have ne : cd.mro.isEmpty = false := by cases q : cd.mro with | nil => rw [q] at ho; cases ho | cons _ _ => rfl
  have sub : Looks (model prog w) h0 (isInstance (.ref x) (.type "object")) true := I.type.andThen (looks_mroIn X (by unfold mroIn; rw [hc, Option.bind_some, if_neg (by rw [ne]; decide), ov_has (by decide) _ ho]))
  have hm : Looks (model prog w) h0 (mroOf (.ref C)) cd.mro := (looks_clsIn X hc).andThen .now
  have hx := I.at_
  have hcl := I.cls
  have hdn : ox.dict = none := by
    have := I.dict
    cases q : ox.dict with
    | none => rfl
    | some z => rw [q] at this; exact this.elim
  have hC : ∃ c' d' sl', h0.get? C = some ⟨c', d', .cls cd, sl'⟩ := by
    unfold clsIn at hc
    split at hc
    · rename_i c' d' cd' sl' ho'
      cases hc
      exact ⟨_, _, _, X _ _ ho'⟩
    · cases hc
  obtain ⟨c', d', sl', hC⟩ := hC
  refine codeAny_call_builtin SF.slot.plain SF.entry (@check_slot (model prog w) _ _ _ "object.__setattr__" "object" "__setattr__" (.ref x) [.str name t, v] [] _ SF.kind SF.split sub (SF.args (.ref x) (.str name t) v) ?_)
  rw [osa_eq, refuse_eq]
  dsimp only
  refine wpAny_bind (wpAny_bind (I.type.at (wpAny_bind (hm.at ?_))))
  rw [ov_pass _ _ ho]
  refine wpAny_pure (wpAny_bind (I.type.at (wpAny_bind ((looks_findIn X ha).at (wpAny_bind (m := storeTaker? none) (wpAny_pure ?_))))))
  show wpAny _ _ (storeInOwnDict (.ref x) (.ref C) (.str name t) name v _) _ _ _
  unfold storeInOwnDict
  repeat (first | (with_reducible refine wpAny_loadPart_at hx ?_; rw [hcl]) | with_reducible refine wpAny_loadPart_at hC ?_ | wp_step)
  rw [hdn, if_neg (by simp [typeHasDict]), hf]
  have hxs : x ≠ h0.objs.size := Nat.ne_of_lt (Heap.lt_size hx)
  have hx1 : (h0.push { cls := .type "dict", data := .dict #[] }).get? x = some ox := Heap.get?_push_of_some _ hx
  refine wpAny_bind (wpAny_alloc' (wpAny_bind (wpAny_update' hx1 (wpAny_pure ?_))))
  have hgd : ((h0.push { cls := .type "dict", data := .dict #[] }).update x fun o => { cls := o.cls, dict := some h0.objs.size, data := o.data, slots := o.slots }).get? h0.objs.size = some { cls := .type "dict", data := .dict #[] } :=
    (Heap.get?_update_ne _ _ _ _ hxs.symm).trans (Heap.get?_push_at rfl rfl)
  have hnd : ((h0.push { cls := .type "dict", data := .dict #[] }).update x fun o => { cls := o.cls, dict := some h0.objs.size, data := o.data, slots := o.slots }).Ns h0.objs.size (fun _ => none) :=
    ⟨_, #[], _, hgd, rfl, fun e he => absurd he (by simp), fun _ => rfl⟩
  show wpAny _ _ (storeInDict h0.objs.size (.str name t) name v) _ _ _
  unfold storeInDict newKeyGuard
  refine wpAny_bind (wpAny_pure (wpAny_bind (wpAny_nsSet1 (Heap.Ns1.of_empty hnd) fun h' hn' hs' => ?_)))
  obtain ⟨oD, esD, epD, hoD, hdD, hcD⟩ := hn'.count (Within.cons name v Within.nil)
  refine wpAny_bind (wpAny_lookBehind hoD (by rw [hdD]; exact pastItsLine_dict (Nat.le_trans hcD (by rw [List.length_cons, List.length_nil, sizeLine_eq]; omega))) ?_)
  wp_walk
  refine h h' _ ?_ hn' fun b ob hbx hb => (hs'.2 b (Nat.ne_of_lt (Heap.lt_size hb))).trans ((Heap.get?_update_ne _ _ _ _ hbx).trans (Heap.get?_push_of_some _ hb))
  refine (hs'.2 x hxs).trans (Heap.get?_update_self _ hx1 ?_)
  have hfr := (Heap.get?_some_iff.mp hx).2
  obtain ⟨oc, od, odt, osl⟩ := ox
  cases odt <;> first | rfl | exact hfr
theorem exc_check {M : Model} {nameV : Value} {Q : Unit → Shared → Prop} (X : K.In s.heap) (I : PySem.W.InstAt s.heap x ox C od) (hm : mroIn K C (.type "BaseException") = some true) (hq : Q () s) :
    wpAny M A (checkBuiltinCall "BaseException.__getattribute__" ⟨[.ref x, nameV], []⟩) Q E s := by
  have sub : Looks M s.heap (isInstance (.ref x) (.type "BaseException")) true := I.type.andThen (looks_mroIn X hm)
  exact @check_slot M _ _ s "BaseException.__getattribute__" "BaseException" "__getattribute__" (.ref x) [nameV] [] _ (by decide +kernel) (by decide +kernel) sub (PySem.F.args_bexc_ga (.ref x) nameV) hq
def exFin (P : Value → Shared → Prop) (fin : Fin) (s : Shared) : Prop := match fin with
  | .done (.ret u) => P u s
  | _ => False
theorem exc_by {Q : Value → Shared → Prop} {expr fill : Bool} {tk : Tok} (X : K.In s.heap) (I : PySem.W.InstAt s.heap x ox C od) (hm : mroIn K C (.type "BaseException") = some true)
    (hga : findIn K (.ref C) "__getattribute__" = some (some (.builtin "BaseException.__getattribute__"))) (hgn : findIn K (.ref C) "__getattr__" = some none)
    (h : wpAny (model prog w) A.in1 (Builtin.«object.__getattribute__» ⟨[.ref x, .str name tk], []⟩) (exFin fun u s' => wpAny (model prog w) A (handedOut u) Q E s') (fun _ _ => False) s) :
    wpAny (model prog w) A (getAttrBy (.ref x) (.str name tk) fill expr) Q E s := by
  obtain ⟨h0, g, d, t, os⟩ := s
  have L0 := I.type (M := model prog w)
  have L1 := looks_findIn (M := model prog w) X hga
  have L2 := looks_findIn (M := model prog w) X hgn
  have FB := PySem.F.attrBase_ValueError
  have hx0 : (expr && onTheHeap (Value.builtin "BaseException.__getattribute__")) = false := by cases expr <;> rfl
  have hx2 : (Value.builtin "BaseException.__getattribute__" == Value.builtin "object.__getattribute__") = false := by decide +kernel
  unfold getAttrBy
  refine wpAny_holding (wpAny_bind (L0.at (wpAny_bind (L1.at ?_))))
  show wpAny _ _ (if (onTheHeap (Value.ref C) && Value.builtin "BaseException.__getattribute__" == Value.builtin "object.__getattribute__") = true then _ else _) _ _ _
  rw [hx2, Bool.and_false, if_neg Bool.false_ne_true]
  unfold getAttrByItsOwn hookBefore
  rw [if_pos (show onTheHeap (Value.ref C) = true from rfl)]
  refine wpAny_bind (L2.at (wpAny_bind (wpAny_attempt (wpAny_holding ?_))))
  unfold callGetattribute boundAndCalled
  rw [hx0, if_neg Bool.false_ne_true, FB.ga.bind]
  refine wpAny_bind (wpAny_pure ?_)
  refine wpAny_call (codeAny_call_builtin FB.ga.plain PySem.F.entry_bexc_ga (exc_check (s := ⟨h0, g, d, t, os⟩) X I hm (wpAny_mono h (fun fin s' z => ?_) fun _ _ z => z.elim)))
  rcases fin with (_ | _ | _ | _) | c <;> first | exact z | exact False.elim z
theorem exc_get {Q : Value → Shared → Prop} {expr : Bool} (X : K.In s.heap) (I : PySem.W.InstAt s.heap x ox C od) (hm : mroIn K C (.type "BaseException") = some true)
    (hga : findIn K (.ref C) "__getattribute__" = some (some (.builtin "BaseException.__getattribute__"))) (hgn : findIn K (.ref C) "__getattr__" = some none)
    (hf : findObj K C od name = some (.value v)) (hv : handedIn v = true) (h : Q v { s with toks := s.toks + 1 }) : wpAny (model prog w) A (getAttr (.ref x) name expr) Q E s := by
  obtain ⟨h0, g, d, t, os⟩ := s
  have L0 := I.type (M := model prog w)
  have L3 := looks_find (M := model prog w) X I hf
  unfold getAttr
  refine wpAny_bind (wpAny_mkText (exc_by (s := ⟨h0, g, d, t + 1, os⟩) X I hm hga hgn ?_))
  refine wpAny_bind (wpAny_pure (wpAny_bind (wpAny_pure (wpAny_bind (L0.at (wpAny_bind (L3.at (wpAny_pure ?_))))))))
  show wpAny _ _ (handedOut v) _ _ _
  rw [handedOut_of hv]; exact wpAny_pure h
theorem exc_class {Q : Option Value → Shared → Prop} (X : K.In s.heap) (I : PySem.W.InstAt s.heap x ox C od) (hm : mroIn K C (.type "BaseException") = some true)
    (hga : findIn K (.ref C) "__getattribute__" = some (some (.builtin "BaseException.__getattribute__"))) (hgn : findIn K (.ref C) "__getattr__" = some none)
    (hf : findObj K C od "__class__" = some (.bind (.builtin "getset_descriptor.__get__") (.builtin "object.__class__"))) (hmo : mroIn K C (.type "object") = some true)
    (h : Q (some (.ref C)) { s with toks := s.toks + 1 }) : wpAny (model prog w) A (getAttr? (.ref x) "__class__") Q E s := by
  obtain ⟨h0, g, d, t, os⟩ := s
  have L0 := I.type (M := model prog w)
  have L3 := looks_find (M := model prog w) X I hf
  unfold getAttr? getAttrBy?
  refine wpAny_bind (wpAny_mkText (wpAny_bind (wpAny_attempt (exc_by (s := ⟨h0, g, d, t + 1, os⟩) X I hm hga hgn ?_))))
  refine wpAny_bind (wpAny_pure (wpAny_bind (wpAny_pure (wpAny_bind (L0.at (wpAny_bind (L3.at ?_)))))))
  show wpAny _ _ (bindTo (.builtin "getset_descriptor.__get__") (.builtin "object.__class__") (.ref x) (.ref C)) _ _ _
  refine wpAny_bind (wpAny_holding (wpAny_call (class_get (s := ⟨h0, g, d, t + 1, os⟩) (ox := ox) (od := od) X I hmo (wpAny_pure ?_))))
  exact handed_on rfl (wpAny_pure h)
theorem exc_kit (hc : clsIn K C = some cd) (hm : mroIn K C (.type "BaseException") = some true)
    (hga : findIn K (.ref C) "__getattribute__" = some (some (.builtin "BaseException.__getattribute__"))) (hgn : findIn K (.ref C) "__getattr__" = some none)
    (ha : findIn K (.ref C) "__class__" = some (some (.builtin "object.__class__"))) (hn : specialIn K (.builtin "object.__class__") "__get__" = some (some (.builtin "getset_descriptor.__get__"))) (htk : takesIn K (.builtin "object.__class__") = some true)
    (hmo : mroIn K C (.type "object") = some true) : KitX K (.ref x) (.ref C) (fun h => ∃ ox od, PySem.W.InstAt h x ox C od) where
  ty := fun _ _ _ ⟨_, _, I⟩ => I.type
  it := fun _ _ X _ => by
    unfold clsIn at hc
    split at hc
    · rename_i c' d' cd' sl' ho
      intro A' Q' E' s' k q
      unfold isType loadHead
      exact wpAny_bind (wpAny_loadPart (k _ _ (X _ _ ho)) (wpAny_pure q))
    · cases hc
  ne := fun h tp dd its n sl X htp => by
    refine Bool.eq_false_iff.mpr fun q => ?_
    have e : C = tp := Value.ref.inj (beq_iff_eq.mp q)
    subst e
    unfold clsIn at hc
    split at hc
    · rename_i c' d' cd' sl' ho
      have z := (X _ _ ho).symm.trans htp
      cases z
    · cases hc
  ca := fun {prog w A E Q s} X ⟨ox, od, I⟩ k => by
    have hf : findObj K C od "__class__" = some (.bind (.builtin "getset_descriptor.__get__") (.builtin "object.__class__")) := by
      unfold findObj
      rw [hc, Option.bind_some, ha, Option.bind_some]
      simp only [hn, htk, Option.bind_some]
    exact exc_class X I hm hga hgn hf hmo k
end
end L2
set_option Elab.async false
set_option linter.all false
set_option maxRecDepth 100000
namespace L2
open PySem PySem.Spec PyProof.Rows
def xcIn (K : PySem.W.Frag) (C : Addr) (ini : Option Value) : Bool := match K.lookup C with
  | some ⟨.type "type", _, .cls cd, sl⟩ => (match cd.mro, sl.toList with
    | .ref B :: bm, [_, _, _, _, some (.builtin n), _] => B == C && (n == "ValueError.__new__" && (!cd.hasDel && (PySem.W.tailIn K mV bm && (PySem.W.nsOkIn K cd.ns && PySem.W.nsIn K cd.ns "__init__" == some ini))))
    | _, _ => false)
  | _ => false
theorem ns_is {K : PySem.W.Frag} {h : Heap} {N : Addr} {mg : Str → Option Value} {n : Str} {v : Option Value} (X : K.In h) (G : h.Ns N mg) (e : PySem.W.nsIn K N n = some v) : mg n = v := by
  obtain ⟨o, es, ep, ho, hd, _, hf⟩ := G
  unfold PySem.W.nsIn at e
  split at e
  · rename_i c d es' n' sl q
    have z := X _ _ q
    rw [ho] at z
    cases z
    cases hd
    rw [← hf]
    unfold nsFind findBy
    rw [← Array.find?_toList]
    split at e
    · rename_i en he
      cases e
      rw [he]
      rfl
    · rename_i he
      split at e
      · cases e
      · cases e
        rw [he]
        rfl
  · cases e
theorem xc_of {K : PySem.W.Frag} {h : Heap} {C : Addr} {ini : Option Value} (X : K.In h) (q : xcIn K C ini = true) :
    ∃ bm N nm qn bs hdct sn sub ab col dd k0 k1 k2 k3 k5 mN, h.get? C = some (excClassObj nm qn C N bs bm hdct sn sub ab col dd k0 k1 k2 k3 k5 "ValueError.__new__") ∧ h.Ns N mN ∧ mN "__init__" = ini ∧ OwnTail h mV bm := by
  unfold xcIn at q
  split at q
  · rename_i dd cd sl ho
    split at q
    · rename_i B bm k0 k1 k2 k3 n k5 hm hs
      simp only [Bool.and_eq_true, beq_iff_eq, Bool.not_eq_true'] at q
      obtain ⟨rfl, rfl, hdel, ht, hok, hni⟩ := q
      obtain ⟨nm, bs, mro, ns, qn, hd, sn, sub, ab, col, del⟩ := cd
      dsimp only at hm hdel hok hni
      subst hm hdel
      obtain rfl : sl = #[k0, k1, k2, k3, some (.builtin "ValueError.__new__"), k5] := by
        obtain ⟨l⟩ := sl
        simp only at hs
        rw [hs]
      have hN := Heap.Ns.of_isNs (PySem.W.isNs_of_in X hok)
      exact ⟨bm, ns, nm, qn, bs, hd, sn, sub, ab, col, dd, k0, k1, k2, k3, k5, _, X _ _ ho, hN, ns_is X hN hni, PySem.W.tail_of_in X ht⟩
    · cases q
  · cases q
structure XCl (K : PySem.W.Frag) (C : Addr) : Prop where
  cls : ∃ cd, PySem.W.clsIn K C = some cd ∧ ovV cd.mro = true ∧ cd.hasDict = true
  mb : PySem.W.mroIn K C (.type "BaseException") = some true
  mo : PySem.W.mroIn K C (.type "object") = some true
  ga : PySem.W.findIn K (.ref C) "__getattribute__" = some (some (.builtin "BaseException.__getattribute__"))
  gn : PySem.W.findIn K (.ref C) "__getattr__" = some none
  sa : PySem.W.findIn K (.ref C) "__setattr__" = some (some (.builtin "object.__setattr__"))
  ca : PySem.W.findIn K (.ref C) "__class__" = some (some (.builtin "object.__class__"))
  cg : PySem.W.specialIn K (.builtin "object.__class__") "__get__" = some (some (.builtin "getset_descriptor.__get__"))
  ct : PySem.W.takesIn K (.builtin "object.__class__") = some true
  kp : PySem.W.keepIn K (.ref C) = true
def exHO (a C : Addr) (dx : Option Addr) (fr : Bool) : HO := .ext fun h => ∃ o vs, h.get? a = some o ∧ o.cls = .ref C ∧ o.dict = dx ∧ o.data = .fields vs ∧ (fr = true → ∃ t, vs = #[.ref t, .none, .none, .none, .bool false, .none])
section
variable {P : Program} {w : World} {H : Hp} {h : Heap} {a C : Addr} {dx : Option Addr} {fr : Bool}
theorem ex_ok {o : Obj} {vs : Array Value} (e : h.get? a = some o) (e1 : o.cls = .ref C) (e2 : o.dict = dx) (e3 : o.data = .fields vs) (e4 : fr = true → ∃ t, vs = #[.ref t, .none, .none, .none, .bool false, .none]) : ObjOk P w H h a (exHO a C dx fr) :=
  ⟨⟨o, vs, e, e1, e2, e3, e4⟩, ⟨o, e⟩, fun h1 h2 q k => by
    obtain ⟨o', vs', f, r⟩ := q
    exact ⟨o', vs', k _ f, r⟩⟩
theorem ex_get (hok : HOk P w H h) (e : H a = some (exHO a C dx fr)) : ∃ o vs, h.get? a = some o ∧ o.cls = .ref C ∧ o.dict = dx ∧ o.data = .fields vs ∧ (fr = true → ∃ t, vs = #[.ref t, .none, .none, .none, .bool false, .none]) := (hok a _ e).1
theorem ex_inst {od : Option Obj} {o : Obj} {vs : Array Value} (e : h.get? a = some o) (e1 : o.cls = .ref C) (e3 : o.data = .fields vs) (hd : match o.dict, od with | some dx, some z => h.get? dx = some z | none, none => True | _, _ => False) : PySem.W.InstAt h a o C od :=
  ⟨e, e1, by unfold PySem.W.notCls; rw [e3], hd⟩
theorem HOk.ex {o : HO} (ok : HOk P w H h) (e : H a = some o) : ∃ ob, h.get? a = some ob := by
  have x := ok a o e
  cases o with
  | lst xs => obtain ⟨_, _, _, _, e⟩ := x; exact ⟨_, e⟩
  | tup xs => obtain ⟨_, _, _, p⟩ := x; obtain ⟨o, e, _⟩ := p; exact ⟨_, e⟩
  | dK kvs => obtain ⟨_, _, _, _, o, _, _, e, _⟩ := x; exact ⟨_, e⟩
  | dT kvs => obtain ⟨_, _, _, _, o, _, _, e, _⟩ := x; exact ⟨_, e⟩
  | set S n => obtain ⟨o, _, _, _, e, _⟩ := x; exact ⟨_, e⟩
  | ins C dx fs => obtain ⟨_, _, _, e, _⟩ := x; exact ⟨_, e⟩
  | own y => exact x
  | xd fs => obtain ⟨_, ⟨_, _, _, e, _⟩, _⟩ := x; exact ⟨_, e⟩
  | rng lo hi => obtain ⟨_, _, _, e⟩ := x; exact ⟨_, e⟩
  | frz ob u => obtain ⟨e, _⟩ := x; exact ⟨_, e⟩
  | tbl ps => exact ⟨_, x⟩
  | met f y => exact ⟨_, x⟩
  | ext φ => exact x.2.1
end
section
variable {X : Cx} {pins : List (Addr × Obj)} {σ : St} {H : Hp} {s : Shared} {a C : Addr} {h' : Heap}
theorem Inv.laidN {o : HO} {t' : Nat} (I : Inv X pins σ H s) (k : ∀ b u, s.heap.get? b = some u → h'.get? b = some u) (hp : s.heap.get? a = none) (new : ObjOk X.prog X.w (upd H a o) h' a o) :
    Inv X pins σ (upd H a o) { s with heap := h', toks := t' } := by
  have hn : H a = none := by
    cases q : H a with
    | none => rfl
    | some z =>
      obtain ⟨ob, e⟩ := I.hok.ex q
      rw [hp] at e
      cases e
  refine I.un ⟨fun b u q _ _ _ => k b u q, fun b u q _ _ _ => ⟨u.slots, k b u q⟩, fun b u q n _ => ?_, fun b u q _ => ⟨u, k b u q⟩, fun b xs q => ?_, fun b u xs q => ?_, fun b ps q => ⟨#[], ?_⟩⟩ fun b u e => ?_
  · rw [upd_ne (fun z => by rw [z, hp] at q; cases q)]; exact n
  · rw [upd_ne (ne_of_none q hn)]; exact q
  · rw [upd_ne (ne_of_none q hn)]; exact q
  · rw [upd_ne (ne_of_none q hn), q]; simp
  · by_cases hb : b = a
    · subst hb; rw [upd_same] at e; cases e; exact new
    · rw [upd_ne hb] at e
      exact (I.hok b u e).stay (fun c v _ q => k c v q) (fun c q => by rw [upd_ne (ne_of_none q hn)]; exact q) fun c xs q => by rw [upd_ne (ne_of_none q hn)]; exact q
theorem Inv.none (I : Inv X pins σ H s) (hp : s.heap.get? a = none) : H a = none := by
  cases q : H a with
  | none => rfl
  | some z =>
    obtain ⟨ob, e⟩ := I.hok.ex q
    rw [hp] at e
    cases e
end
def tExc0 (C : Addr) : TE := fun _ H Q => ∀ a, H a = none → Q (.ref a) (upd H a (exHO a C none true))
section
variable {X : Cx} {C : Addr} {x : Str} {p pos : Pos}
theorem run_exc0 {pins : List (Addr × Obj)} {σ : St} {H : Hp} {s : Shared} {Q : VK} (hc : xcIn X.K C none = true) (I : Inv X pins σ H s) (h : ∀ a, H a = none → Q (.ref a) (upd H a (exHO a C none true))) :
    wpAny (model X.prog X.w) X.A (call (.ref C) []) (EP X pins σ Q) X.xe s := by
  obtain ⟨bm, N, nm, qn, bs, hdct, sn, sub, ab, col, dd, k0, k1, k2, k3, k5, mN, hC, hN, hni, T⟩ := xc_of I.kIn hc
  obtain ⟨h0, g, d, t, os⟩ := s
  refine wpAny_call_exc_subT PySem.F.excBase_ValueError T hC hN hni (fun h' e m => ?_) (Nat.zero_le _)
  obtain ⟨tp, he, _, _⟩ := m.there
  refine ⟨.ref e, upd H e (exHO e C none true), I.laidN (t' := t) m.keeps m.new (ex_ok he rfl rfl rfl fun _ => ⟨tp, rfl⟩), rfl, h e (I.none m.new)⟩
theorem pe_exc0 (hc : xcIn X.K C none = true) (hk : PySem.W.keepIn X.K (.ref C) = true) (hg : Gl X x) (hm : X.mg x = some (.ref C)) (hdb : (x == ("__debug__" : Str)) = false := by decide) : PE X (.Call (.Name x p) [] [] pos) (tExc0 C) := by
  intro pins s σ H Q I h
  refine wpAny_Call_Name_kw (ld_glob I hg hm ?_ hdb)
  exact PySem.W.callWith_K0 I.kIn hk (run_exc0 hc I h)
end
def tXget (K : PySem.W.Frag) (ta : TE) (f : Str) : TE := fun σ H Q => ta σ H fun x H1 => ∃ a C dx fr fs v, x = .ref a ∧ H1 a = some (exHO a C (some dx) fr) ∧ H1 dx = some (.xd fs) ∧ XCl K C ∧ NoAttr K C f ∧ fs.lookup f = some v ∧ Q v H1
def sXset (K : PySem.W.Frag) (ta tv : TE) (f : Str) : TS := fun D σ H => tv σ H fun y H1 => ta σ H1 fun x H2 => ∃ a C fr, x = .ref a ∧ H2 a = some (exHO a C none fr) ∧ XCl K C ∧ NoAttr K C f ∧ ∀ dx, H2 dx = none → dx ≠ a → D.nx σ (upd (upd H2 dx (.xd [(f, y)])) a (exHO a C (some dx) fr))
section
variable {X : Cx} {o e value : Expr} {f : Str} {pos pos' : Pos} {ta tv : TE}
theorem pe_xget (he : PE X e ta) (hb : attributeBase e f X.env (eval e X.env) = eval e X.env := by rfl) : PE X (.Attribute e f pos) (tXget X.K ta f) := by
  intro pins s σ H Q I h
  refine attr_of hb (thn (he pins s σ H _ I h) fun u s1 zz => ?_)
  obtain ⟨x, H1, I1, rx, a, C, dx, fr, fs, v, rfl, ea, ed, c, n, l, q⟩ := zz
  obtain rfl : u = Value.ref a := rx
  obtain ⟨ob, vs, e0, e1, e2, e3, _⟩ := ex_get I1.hok ea
  obtain ⟨mA, hn, r⟩ := (show ObjOk X.prog X.w H1 s1.heap dx (.xd fs) from I1.hok dx _ ed)
  obtain ⟨od, ho, hl⟩ := lookIn_ns hn
  obtain ⟨u, hu, ru⟩ := RelO.some_of (v := v) (o := mA f) (by rw [← l]; exact r f)
  obtain ⟨cd, hcd, _, hd⟩ := c.cls
  have J : PySem.W.InstAt s1.heap a ob C (some od) := ex_inst e0 e1 e3 (by rw [e2]; exact ho)
  exact exc_get I1.kIn J c.mb c.ga c.gn (PySem.W.findObj_own (by unfold PySem.W.hasDictIn; rw [hcd]; exact hd) n rfl (by rw [hl, hu])) (handed_of ru) ⟨v, H1, I1.tok _, ru, q⟩
theorem ps_xset (ha : PE X o ta) (hv : PE X value tv) (hs : swapsWith value (some (.Attribute o f pos')) pos.line X.env = pure false := by rfl) : PS X (.Assign [.Attribute o f pos'] value pos) (sXset X.K ta tv f) := by
  intro pins s σ H D I h
  refine plainObj_wpAny_Assign_Attribute (thn (hv pins s σ H _ I h) fun u' s1 zz => ?_) hs
  obtain ⟨y, H1, I1, ry, q⟩ := zz
  refine thn (ha pins s1 σ H1 _ I1 q) fun ov s2 zz => ?_
  obtain ⟨x, H2, I2, rx, a, C, fr, rfl, ea, c, n, q2⟩ := zz
  obtain rfl : ov = Value.ref a := rx
  obtain ⟨ob, vs, e0, e1, e2, e3, e4⟩ := ex_get I2.hok ea
  obtain ⟨cd, hcd, ho, hd⟩ := c.cls
  have J : PySem.W.InstAt s2.heap a ob C none := ex_inst e0 e1 e3 (by rw [e2]; exact True.intro)
  refine exc_set I2.kIn J e3 c.sa hcd ho hd n fun h' tk x1 x2 x3 => ?_
  have fz : H2 s2.heap.objs.size = none := I2.hok.fresh (Nat.le_refl _)
  have ne : s2.heap.objs.size ≠ a := Nat.ne_of_gt (Heap.lt_size e0)
  have lt := Heap.lt_size e0
  refine ⟨σ, _, ?_, q2 s2.heap.objs.size fz ne⟩
  have nz : ∀ b u, H2 b = some u → b ≠ s2.heap.objs.size := fun b u q => ne_of_none q fz
  have nx : ∀ b u, H2 b = some u → (∀ φ, u ≠ .ext φ) → b ≠ a := fun b u q n => ne_of q ea (n _)
  have na : ∀ b, H2 b = none → b ≠ a := fun b q z => by rw [z, ea] at q; cases q
  refine I2.un ⟨fun b u q n _ _ => x3 b u (na b n) q, fun b u q n _ _ => ⟨u.slots, x3 b u (na b n) q⟩, fun b u q n _ => ?_, fun b u q _ => ?_, fun b xs q => ?_, fun b u xs q => ?_, fun b ps q => ⟨#[], ?_⟩⟩ fun b u q => ?_
  · rw [upd_ne (na b n), upd_ne (Nat.ne_of_lt (Heap.lt_size q))]; exact n
  · by_cases hb : b = a
    · subst hb; exact ⟨_, x1⟩
    · exact ⟨u, x3 b u hb q⟩
  · rw [upd_ne (nx b _ q fun _ => nofun), upd_ne (nz b _ q)]; exact q
  · rw [upd_ne (nx b _ q fun _ => nofun), upd_ne (nz b _ q)]; exact q
  · rw [upd_ne (nx b _ q fun _ => nofun), upd_ne (nz b _ q), q]; simp
  · by_cases hb : b = a
    · subst hb
      rw [upd_same] at q
      cases q
      exact ex_ok x1 e1 rfl e3 e4
    · rw [upd_ne hb] at q
      by_cases hz : b = s2.heap.objs.size
      · subst hz
        rw [upd_same] at q
        cases q
        refine ⟨_, x2, fun g => ?_⟩
        show RelO (List.lookup g [(f, y)]) (if g = f then some u' else none)
        by_cases hg : g = f
        · subst hg
          rw [if_pos rfl, List.lookup_cons_self]
          exact ry
        · rw [if_neg hg, List.lookup_cons]
          rw [show (g == f) = false by simpa using hg]
          exact True.intro
      · rw [upd_ne hz] at q
        refine (I2.hok b u q).stay (fun c v hc z => x3 c v ?_ z) (fun c z => ?_) fun c xs z => ?_
        · rintro rfl
          rcases hc with z' | z'
          · exact hb z'.symm
          · rw [ea] at z'; cases z'
        · rw [upd_ne (nx c _ z fun _ => nofun), upd_ne (nz c _ z)]; exact z
        · rw [upd_ne (nx c _ z fun _ => nofun), upd_ne (nz c _ z)]; exact z
theorem exc_isin {pins : List (Addr × Obj)} {σ : St} {H : Hp} {s : Shared} {A : Around} {E : Value → Shared → Prop} {Q : Value → Shared → Prop} {a C : Addr} {dx : Option Addr} {fr b : Bool} {c : Value} (I : Inv X pins σ H s) (ea : H a = some (exHO a C dx fr)) (cl : XCl X.K C)
    (hdx : ∀ d, dx = some d → ∃ fs, H d = some (.xd fs)) (e : PySem.W.kitOne X.K (.ref C) c = some b) (h : ∀ tk, Q (.bool b) { s with toks := tk }) : wpAny (model X.prog X.w) A (call (.builtin "isinstance") [.ref a, c]) Q E s := by
  obtain ⟨ob, vs, e0, e1, e2, e3, _⟩ := ex_get I.hok ea
  obtain ⟨cd, hcd, ho, hd⟩ := cl.cls
  have J : ∃ ox od, PySem.W.InstAt s.heap a ox C od := by
    cases dx with
    | none => exact ⟨ob, none, ex_inst e0 e1 e3 (by rw [e2]; exact True.intro)⟩
    | some d =>
      obtain ⟨fs, ed⟩ := hdx d rfl
      obtain ⟨z, hz⟩ := I.hok.ex ed
      exact ⟨ob, some z, ex_inst e0 e1 e3 (by rw [e2]; exact hz)⟩
  exact PySem.W.kia_one (exc_kit hcd cl.mb cl.ga cl.gn cl.ca cl.cg cl.ct cl.mo) I.kIn J e (fun z => nomatch z) h
end
end L2
set_option Elab.async false
set_option linter.all false
set_option maxRecDepth 100000
namespace L2
open PySem PySem.Spec PyProof.Rows
section
variable {prog : Program} {w : World} {A : Around} {E : Value → Shared → Prop} {h : Heap} {g : Array GenState} {d : Drawn} {t : Nat} {os : OsState}
variable {nm q : Str} {C N : Addr} {bs bm : List Value} {hdct : Bool} {sn : List Str} {sub : List Value} {ab : Bool} {col : Option Bool} {dd : Option Addr} {k0 k1 k2 k3 k5 : Option Value} {mN : Str → Option Value} {rest : List Value} {fI : Addr} {oI : Obj}
theorem type_call_initT {Q : Fin → Shared → Prop} (T : OwnTail h mV bm)
    (hC : h.get? C = some (excClassObj nm q C N bs bm hdct sn sub ab col dd k0 k1 k2 k3 k5 "ValueError.__new__")) (hn : h.Ns N mN) (hi : mN "__init__" = some (.ref fI)) (hfI : h.get? fI = some oI) (hfc : oI.cls = .type "function")
    (hq : ∀ h' e, Heap.MadeExcOf h h' e (.ref C) rest → wpAny (model prog w) A (call (.ref fI) (.ref e :: rest)) (fun r s' => r = .none ∧ Q (.done (.ret (.ref e))) s') E ⟨h', g, d, t, os⟩) (hrest : rest.length ≤ sizeLine) :
    wpAny (model prog w) A (Builtin.«type.__call__» ⟨.ref C :: rest, []⟩) Q E ⟨h, g, d, t, os⟩ := by
  have F := PySem.F.excBase_ValueError
  repeat (first | with_reducible refine wpAny_loadPart_at hC ?_ | with_reducible refine wpAny_madeBy_exc hC ?_ | wp_step)
  refine codeAny_call_builtin_code (Code.quiet_builtin _ F.quiet) (wpAny_check_new_subT F T hC (codeAny_exc_new_subT F T hC ?_ hrest))
  show wpAny _ _ _ _ _ _
  have kp : ∀ b o, h.get? b = some o → ((h.push { cls := .type "tuple", data := .seq rest.toArray }).push { cls := .ref C, data := .fields #[.ref h.objs.size, .none, .none, .none, .bool false, .none] }).get? b = some o :=
    fun b o e => Heap.get?_push_of_some _ (Heap.get?_push_of_some _ e)
  have hC₁ := kp _ _ hC
  have hfI₁ := kp _ _ hfI
  have hn₁ := hn.keeps kp
  have hget : ((h.push { cls := .type "tuple", data := .seq rest.toArray }).push { cls := .ref C, data := .fields #[.ref h.objs.size, .none, .none, .none, .bool false, .none] }).get? (h.objs.size + 1)
      = some { cls := .ref C, data := .fields #[.ref h.objs.size, .none, .none, .none, .bool false, .none] } := by heap_get
  have hcC : (Value.ref C :: bm).contains (.ref C) = true := by simp
  unfold isInstance
  repeat (first | with_reducible refine wpAny_loadPart_at hget ?_ | (with_reducible refine wpAny_isSubtype_exc hC₁ ?_; rw [hcC]) | wp_step)
  show wpAny _ _ (typeLookup (.ref C) _) _ _ _
  rw [typeLookup_eq]
  refine wpAny_bind (wpAny_mroOf_exc hC₁ ?_)
  rw [lookupAlong_cons]
  refine wpAny_bind (wpAny_classOwn_exc hC₁ hn₁ ?_)
  rw [hi]
  refine wpAny_pure (wpAny_holding (wpAny_bind ?_))
  unfold bindSpecial
  refine wpAny_bind (wpAny_typeOf (T := "function") ⟨_, hfI₁, hfc⟩ ?_)
  rw [if_pos (by decide)]
  refine wpAny_pure (wpAny_bind (wpAny_mono (hq _ (h.objs.size + 1) ⟨kp, Heap.get?_none_of_le (Nat.le_succ _), h.objs.size, hget, Heap.get?_none_of_le (Nat.le_refl _), Heap.get?_push_of_some _ (Heap.get?_push_at rfl rfl)⟩) (fun r s' hr => ?_) fun _ _ x => x))
  obtain ⟨rfl, hQ⟩ := hr
  wp_walk
  exact hQ
theorem call_exc_initT {Q : Value → Shared → Prop} (T : OwnTail h mV bm)
    (hC : h.get? C = some (excClassObj nm q C N bs bm hdct sn sub ab col dd k0 k1 k2 k3 k5 "ValueError.__new__")) (hn : h.Ns N mN) (hi : mN "__init__" = some (.ref fI)) (hfI : h.get? fI = some oI) (hfc : oI.cls = .type "function")
    (hq : ∀ h' e, Heap.MadeExcOf h h' e (.ref C) rest →
      wpAny (model prog w) (A.under (.builtin "type.__call__" ⟨.ref C :: rest, []⟩)) (call (.ref fI) (.ref e :: rest)) (fun r s' => r = .none ∧ Q (.ref e) s') E ⟨h', g, d, t, os⟩) (hrest : rest.length ≤ sizeLine) :
    wpAny (model prog w) A (call (.ref C) rest) Q E ⟨h, g, d, t, os⟩ := by
  have f1 := tc_lookup
  have f2 := tc_bind (.ref C)
  have hT : (⟨h, g, d, t, os⟩ : Shared).TypeIs (.ref C) "type" := ⟨_, hC, rfl⟩
  refine wpAny_call (codeAny_of_tree ?_)
  show wpAny _ _ (callAny (.ref C) _) _ _ _
  repeat (any_goals (first | assumption | with_reducible refine wpAny_loadPart_at hC ?_ | wp_step))
  refine ⟨rfl, ?_⟩
  exact codeAny_call_builtin_at (Code.quiet_builtin _ (by decide +kernel)) entry_typeCall (wpAny_check_type_call_sub hC (type_call_initT T hC hn hi hfI hfc (fun h' e hm => hq h' e hm) hrest))
end
def tExcI (C : Addr) (sp : Sp) (t : TA) : TE := fun σ H Q => t σ H fun vs H1 => ∀ a, H1 a = none → sp (.ref a :: vs) (upd H1 a (exHO a C none true)) (fun v H2 => v = .non ∧ Q (.ref a) H2) E0
section
variable {X : Cx} {C f : Addr} {x : Str} {p pos : Pos} {e : Expr} {es : List Expr} {k : Nat} {fd : FuncData} {ps : List Str} {sp : Sp} {t : TA} {CX : CXT}
theorem run_excI {pins : List (Addr × Obj)} {σ : St} {H : Hp} {s : Shared} {Q : VK} {us : List Value} {vs : List V} (hc : xcIn X.K C (some (.ref f)) = true) (hf : PySem.W.isFn X.K (.ref f) = true) (F : FnOk X.prog X.w X.K X.mg X.base CX k f fd ps sp) (hr : Room (k + 1) X.A) (hb : Binds X.K fd ps [])
    (hx : Passes CX X E0) (hz : ps.length ≤ 10) (I : Inv X pins σ H s) (r : Vals vs us)
    (h : ∀ a, H a = none → sp (.ref a :: vs) (upd H a (exHO a C none true)) (fun v H2 => v = .non ∧ Q (.ref a) H2) E0) :
    wpAny (model X.prog X.w) X.A (call (.ref C) us) (EP X pins σ Q) X.xe s := by
  obtain ⟨bm, N, nm, qn, bs, hdct, sn, sub, ab, col, dd, k0, k1, k2, k3, k5, mN, hC, hN, hni, T⟩ := xc_of I.kIn hc
  have hfn : ∃ oI, s.heap.get? f = some oI ∧ oI.cls = .type "function" := by
    obtain ⟨oI, ho, hc⟩ := Option.map_eq_some_iff.mp (beq_iff_eq.mp hf)
    exact ⟨oI, I.kIn _ _ ho, hc⟩
  obtain ⟨oI, hfI, hfc⟩ := hfn
  obtain ⟨h0, g, d, t0, os⟩ := s
  have hlen : us.length ≤ sizeLine := by
    obtain ⟨a, ha⟩ : ∃ a, H a = none := ⟨h0.objs.size, I.hok.fresh (Nat.le_refl _)⟩
    have e1 := F.len _ _ _ _ (h a ha)
    have e2 := r.length
    rw [sizeLine_eq]
    simp only [List.length_cons] at e1
    omega
  refine call_exc_initT T hC hN hni hfI hfc (fun h' e m => ?_) hlen
  obtain ⟨tp, he, _, _⟩ := m.there
  have I2 : Inv X pins σ (upd H e (exHO e C none true)) ⟨h', g, d, t0, os⟩ := I.laidN (t' := t0) m.keeps m.new (ex_ok he rfl rfl rfl fun _ => ⟨tp, rfl⟩)
  have hq := h e (I.none m.new)
  have r2 : Vals (V.ref e :: vs) (Value.ref e :: us) := .cons rfl r
  have hl : (Value.ref e :: us).length = ps.length := by rw [← r2.length]; exact F.len _ _ _ _ hq
  refine wpAny_call (codeAny_mono (F.run _ X.stack _ _ ⟨Value.ref e :: us, []⟩ (Value.ref e :: us) _ _ E0 (hr.make C us []) (I2.env0.make C us []) (by have := hb ⟨h', g, d, t0, os⟩ (Value.ref e :: us) I2.kIn (by rw [List.append_nil]; exact hl); rwa [List.append_nil] at this) r2 hq) fun r s' hq' => ?_)
  cases r with
  | error e => exact hx pins σ _ _ e s' I2 hq'
  | ok fl =>
    cases fl with
    | ret u =>
      obtain ⟨v, H', I3, rv, ev, q3⟩ := I2.after hq'
      subst ev
      exact ⟨rv, ⟨V.ref e, H', I3, rfl, q3⟩⟩
    | next => exact False.elim hq'
    | brk => exact False.elim hq'
    | cont => exact False.elim hq'
theorem pe_excI (hc : xcIn X.K C (some (.ref f)) = true) (hk : PySem.W.keepIn X.K (.ref C) = true) (hf : PySem.W.isFn X.K (.ref f) = true) (F : FnOk X.prog X.w X.K X.mg X.base CX k f fd ps sp) (hr : Room (k + 1) X.A) (hb : Binds X.K fd ps []) (hx : Passes CX X E0) (hz : ps.length ≤ 10)
    (hg : Gl X x) (hm : X.mg x = some (.ref C)) (ha : PA X (e :: es) t) (hdb : (x == ("__debug__" : Str)) = false := by decide) (he : starEach (e :: es) X.env = (false, eval e X.env) :: starEach es X.env := by rfl) (hpl : (backTo pos (starEach es X.env)).any (·.1) = false := by rfl) :
    PE X (.Call (.Name x p) (e :: es) [] pos) (tExcI C sp t) := by
  intro pins s σ H Q I h
  refine wpAny_Call_Name_kw (ld_glob I hg hm ?_ hdb)
  refine PySem.W.callWith_K (h₀ := X.base) I.ok.mod.kin hk (thn (ha pos pins s σ H _ I h) fun us s1 zz => ?_) he hpl
  obtain ⟨vs, H1, I1, r, q⟩ := zz
  exact ⟨I1.kIn, run_excI hc hf F hr hb hx hz I1 r q⟩
end
end L2
set_option Elab.async false
set_option linter.all false
set_option maxRecDepth 100000
namespace L2
open PySem PySem.Spec PyProof.Rows
theorem cf_split : ∀ (l : List (Str × NameKind)) (n : Nat) (acc : List (Str × Addr)) (x : Str) (c : Addr), (cellsFrom n l acc).lookup x = some c → ((x, NameKind.cell) ∈ l ∧ n ≤ c) ∨ acc.lookup x = some c
  | [], n, acc, x, c, h => .inr h
  | (nm, k) :: r, n, acc, x, c, h => by
    unfold cellsFrom at h
    split at h
    · rename_i hk
      have hk : k = .cell := by simpa using hk
      rcases cf_split r (n + 1) _ x c h with ⟨h1, h2⟩ | h1
      · exact .inl ⟨List.mem_cons_of_mem _ h1, Nat.le_of_succ_le h2⟩
      · rw [List.lookup_cons] at h1
        cases hx : x == nm with
        | true =>
          rw [hx] at h1
          have e1 := beq_iff_eq.mp hx
          have e2 := Option.some.inj h1
          subst e1 hk
          exact .inl ⟨List.mem_cons_self .., Nat.le_of_eq e2⟩
        | false => rw [hx] at h1; exact .inr h1
    · rcases cf_split r n acc x c h with ⟨h1, h2⟩ | h1
      · exact .inl ⟨List.mem_cons_of_mem _ h1, h2⟩
      · exact .inr h1
theorem cf_keep : ∀ (l : List (Str × NameKind)) (n : Nat) (acc : List (Str × Addr)) (x : Str), (acc.lookup x).isSome = true → ((cellsFrom n l acc).lookup x).isSome = true
  | [], n, acc, x, h => h
  | (nm, k) :: r, n, acc, x, h => by
    unfold cellsFrom
    split
    · refine cf_keep r _ _ x ?_
      rw [List.lookup_cons]
      cases x == nm with
      | true => rfl
      | false => exact h
    · exact cf_keep r n acc x h
theorem cf_has : ∀ (l : List (Str × NameKind)) (n : Nat) (acc : List (Str × Addr)) (x : Str), (x, NameKind.cell) ∈ l → ((cellsFrom n l acc).lookup x).isSome = true
  | (nm, k) :: r, n, acc, x, h => by
    unfold cellsFrom
    rcases List.mem_cons.mp h with e | e
    · cases e
      rw [if_pos (by decide)]
      refine cf_keep r _ _ _ ?_
      rw [List.lookup_cons]
      simp
    · split
      · exact cf_has r _ _ x e
      · exact cf_has r n acc x e
theorem cf_free : ∀ (l : List (Str × NameKind)) (n : Nat) (acc : List (Str × Addr)) (x : Str), (x, NameKind.cell) ∉ l → (cellsFrom n l acc).lookup x = acc.lookup x
  | [], n, acc, x, _ => rfl
  | (nm, k) :: r, n, acc, x, h => by
    have hr := fun e => h (List.mem_cons_of_mem _ e)
    unfold cellsFrom
    split
    · rename_i hk
      have hk : k = .cell := by simpa using hk
      rw [cf_free r _ _ x hr, List.lookup_cons]
      cases hx : x == nm with
      | true =>
        have e1 := beq_iff_eq.mp hx
        subst e1 hk
        exact absurd (List.mem_cons_self ..) h
      | false => rfl
    · exact cf_free r n acc x hr
theorem cf_inj : ∀ (l : List (Str × NameKind)) (n : Nat) (acc : List (Str × Addr)), (∀ x c, acc.lookup x = some c → c < n) → (∀ x y c, acc.lookup x = some c → acc.lookup y = some c → x = y) →
    ∀ x y c, (cellsFrom n l acc).lookup x = some c → (cellsFrom n l acc).lookup y = some c → x = y
  | [], n, acc, _, hi, x, y, c, h1, h2 => hi x y c h1 h2
  | (nm, k) :: r, n, acc, hb, hi, x, y, c, h1, h2 => by
    unfold cellsFrom at h1 h2
    split at h1
    · rename_i hk
      rw [if_pos hk] at h2
      refine cf_inj r (n + 1) ((nm, n) :: acc) (fun x c e => ?_) (fun x y c e1 e2 => ?_) x y c h1 h2
      · rw [List.lookup_cons] at e
        cases hx : x == nm with
        | true => rw [hx] at e; cases e; exact Nat.lt_succ_self _
        | false => rw [hx] at e; exact Nat.lt_succ_of_lt (hb x c e)
      · rw [List.lookup_cons] at e1 e2
        cases hx : x == nm with
        | true =>
          rw [hx] at e1
          cases hy : y == nm with
          | true => rw [beq_iff_eq.mp hx, beq_iff_eq.mp hy]
          | false => rw [hy] at e2; cases e1; exact absurd (hb y _ e2) (Nat.lt_irrefl _)
        | false =>
          rw [hx] at e1
          cases hy : y == nm with
          | true => rw [hy] at e2; cases e2; exact absurd (hb x _ e1) (Nat.lt_irrefl _)
          | false => rw [hy] at e2; exact hi x y c e1 e2
    · rename_i hk
      rw [if_neg hk] at h2
      exact cf_inj r n acc hb hi x y c h1 h2
theorem cf_cell : ∀ (l : List (Str × NameKind)) (h : Heap) (acc : List (Str × Addr)) (x : Str) (c : Addr), (cellsFrom h.objs.size l acc).lookup x = some c → (pushCells h l).IsCell c none ∨ acc.lookup x = some c
  | [], h, acc, x, c, e => .inr e
  | (nm, k) :: r, h, acc, x, c, e => by
    unfold cellsFrom at e
    unfold pushCells
    split at e
    · rename_i hk
      rw [if_pos hk]
      have e : (cellsFrom (h.push { cls := .type "cell", data := .cell none }).objs.size r ((nm, h.objs.size) :: acc)).lookup x = some c := by rw [Heap.size_push]; exact e
      rcases cf_cell r _ _ x c e with h1 | h1
      · exact .inl h1
      · rw [List.lookup_cons] at h1
        cases hx : x == nm with
        | true =>
          rw [hx] at h1
          have e2 := Option.some.inj h1
          subst e2
          exact .inl ⟨_, pushCells_keeps r _ _ _ (Heap.get?_push_size _ rfl), rfl⟩
        | false => rw [hx] at h1; exact .inr h1
    · rename_i hk
      rw [if_neg hk]
      exact cf_cell r h acc x c e
theorem clos_free (env : Env) : ∀ (l : List (Str × NameKind)) (acc : List (Str × Addr)) (x : Str) (c : Addr), (clos env l acc).lookup x = some c → (x, NameKind.free) ∈ l ∨ acc.lookup x = some c
  | [], acc, x, c, h => .inr h
  | (n, k) :: r, acc, x, c, h => by
    rw [clos] at h
    rcases clos_free env r _ x c h with h1 | h1
    · exact .inl (List.mem_cons_of_mem _ h1)
    · by_cases hk : (k == NameKind.free) = true
      · rw [if_pos hk, List.lookup_cons] at h1
        have hk : k = .free := by simpa using hk
        cases hx : x == n with
        | true =>
          have e1 := beq_iff_eq.mp hx
          subst e1 hk
          exact .inl (List.mem_cons_self ..)
        | false => rw [hx] at h1; exact .inr h1
      · rw [if_neg hk] at h1; exact .inr h1
theorem lookup_mem2 {α : Type} : ∀ {l : List (Str × α)}, (l.map (·.1)).Nodup → ∀ {x : Str} {k : α}, (x, k) ∈ l → l.lookup x = some k
  | [], _, x, k, h => by cases h
  | (n, j) :: r, nd, x, k, h => by
    have nd' := List.nodup_cons.mp nd
    rw [List.lookup_cons]
    rcases List.mem_cons.mp h with e | e
    · cases e; simp
    · have : x ≠ n := fun q => nd'.1 (by subst q; exact List.mem_map.mpr ⟨_, e, rfl⟩)
      rw [beq_eq_false_iff_ne.mpr this]
      exact lookup_mem2 nd'.2 e
theorem of_relabel2 {env : Env} : ∀ {names : List (Str × NameKind)} {x : Str} {k : NameKind},
    (names.map fun (n, k) => if (k == NameKind.free && env.scope.kind == .function && env.kindOf n == some .cell) then (n, NameKind.cell) else (n, k)).lookup x = some k → (k = .cell ∨ k = .free) → names.lookup x = some .free ∨ names.lookup x = some .cell
  | [], _, _, h, _ => by simp at h
  | (n, k0) :: r, x, k, h, hk => by
    have ih := @of_relabel2 env r x k
    replace h : List.lookup x ((if (k0 == NameKind.free && env.scope.kind == .function && env.kindOf n == some .cell) = true then (n, NameKind.cell) else (n, k0)) :: (r.map fun (n, k) => if (k == NameKind.free && env.scope.kind == .function && env.kindOf n == some .cell) then (n, NameKind.cell) else (n, k))) = some k := h
    rw [List.lookup_cons]
    by_cases hc : (k0 == NameKind.free && env.scope.kind == .function && env.kindOf n == some .cell) = true
    · rw [if_pos hc, List.lookup_cons] at h
      have h0 : k0 = .free := by
        rw [Bool.and_eq_true, Bool.and_eq_true] at hc
        simpa using hc.1.1
      cases hx : x == n with
      | true => left; rw [h0]
      | false => rw [hx] at h; exact ih h hk
    · rw [if_neg hc, List.lookup_cons] at h
      cases hx : x == n with
      | true =>
        rw [hx] at h
        have e := Option.some.inj h
        rw [e]
        rcases hk with q | q
        · right; rw [q]
        · left; rw [q]
      | false => rw [hx] at h; exact ih h hk
def cxCompC (X : Cx) (NY : List Str) (scope : Scope) (C : Addr) (s : Shared) (H : Hp) (fp : List Addr) (pins : List (Addr × Obj)) : Cx :=
  { X with N := NY, s₀ := s, H₀ := H, env := compEnvC scope (cellsFrom (C + 1) scope.names (clos X.env scope.names [])) C X.env, outer := X.stack, ex := fp, fn := fun x => scope.names.lookup x == some .cell, pn := X.pn ++ pins, xe := fun _ _ => False }
structure CompScopeC (X : Cx) (NY : List Str) (o : Nat) (caps : List Nat) (scope : Scope) : Prop where
  kind : scope.kind = .function
  nd : NY.Nodup
  names : (scope.names.map (·.1)).Nodup
  frees : ∀ y ∈ scope.names, y.2 = .free → (X.env.kindOf y.1 = some .cell ∨ X.env.kindOf y.1 = some .free)
  locs : ∀ y ∈ scope.names, y.2 = .local → scope.names.lookup y.1 = some .local
  capOk : ∀ (j : Nat) (i : Nat), caps[j]? = some i → ∃ x, NY[o + j]? = some x ∧ X.N[i]? = some x ∧ scope.names.lookup x = some .free
  len : NY.length = o + caps.length
theorem comp_scopeC {X : Cx} {NY : List Str} {o : Nat} {caps : List Nat} {scope : Scope} (frees : List Str) (k : scope.kind = .function) (nd : NY.Nodup) (nc : (scope.names.map (·.1)).Nodup)
    (lc : scope.names.all (fun y => y.2 != .local || scope.names.lookup y.1 == some .local) = true) (fr : scope.names.all (fun y => y.2 != .free || frees.contains y.1) = true)
    (fk : ∀ x ∈ frees, X.env.kindOf x = some .cell ∨ X.env.kindOf x = some .free) (cap : ∀ (j i : Nat), caps[j]? = some i → ∃ x, NY[o + j]? = some x ∧ X.N[i]? = some x ∧ scope.names.lookup x = some .free) (len : NY.length = o + caps.length) : CompScopeC X NY o caps scope where
  kind := k
  nd := nd
  names := nc
  frees := fun y hy e => by
    have := List.all_eq_true.mp fr y hy
    rw [e] at this
    exact fk _ (List.contains_iff_mem.mp this)
  locs := fun y hy e => by
    have := List.all_eq_true.mp lc y hy
    rw [e] at this
    simpa using this
  capOk := cap
  len := len
section
variable {X : Cx}
theorem comp_invC {pins : List (Addr × Obj)} {σ : St} {H2 : Hp} {s2 : Shared} {NY : List Str} {o : Nat} {caps : List Nat} {scope : Scope} {fp : List Addr} {h₁ : Heap} (S : CompScopeC X NY o caps scope) (I2 : Inv X pins σ H2 s2)
    (hfp : ∀ b ∈ fp, FpOk X pins H2 b) (hob : ∀ b ∈ fp, ∃ ob, s2.heap.get? b = some ob)
    (hns : h₁.Ns (s2.heap.objs.size + 1) fun _ => none) (hkeep : ∀ b ob, s2.heap.get? b = some ob → h₁.get? b = some ob)
    (hcl : ∀ x c, (cellsFrom (s2.heap.objs.size + 1 + 1) scope.names (clos X.env scope.names [])).lookup x = some c → h₁.IsCell c none ∨ (clos X.env scope.names []).lookup x = some c)
    (hD : ∃ n, h₁.get? s2.heap.objs.size = some { cls := .type "list", data := .seq ([] : List Value).toArray n }) (t' : Nat) :
    Inv (cxCompC X NY scope (s2.heap.objs.size + 1) s2 H2 fp pins) [] (stY o caps σ) (upd H2 s2.heap.objs.size (.lst [])) { s2 with heap := h₁, toks := t' } := by
  have frees := fun y hy e => I2.ok.has _ (S.frees y hy e)
  have sound := clos_sound X.env scope.names [] frees (fun x c e => by simp at e)
  have old : ∀ x c, (clos X.env scope.names []).lookup x = some c → c < s2.heap.objs.size := fun x c e => by
    obtain ⟨v, ob, q, d⟩ := I2.cell x c (sound x c e)
    exact Heap.lt_size q
  have parts : ∀ x c, (cellsFrom (s2.heap.objs.size + 1 + 1) scope.names (clos X.env scope.names [])).lookup x = some c → s2.heap.objs.size + 1 + 1 ≤ c ∨ (clos X.env scope.names []).lookup x = some c := fun x c e =>
    (cf_split _ _ _ x c e).imp (fun h => h.2) id
  have hfr : H2 s2.heap.objs.size = none := I2.hok.fresh (Nat.le_refl _)
  have hfr1 : H2 (s2.heap.objs.size + 1) = none := I2.hok.fresh (Nat.le_succ _)
  have ltC : ∀ b ob, s2.heap.get? b = some ob → b ≠ s2.heap.objs.size + 1 := fun b ob e => Nat.ne_of_lt (Nat.lt_succ_of_lt (Heap.lt_size e))
  have ltD : ∀ b ob, s2.heap.get? b = some ob → b ≠ s2.heap.objs.size := fun b ob e => Nat.ne_of_lt (Heap.lt_size e)
  have hok1 : HOk X.prog X.w (upd H2 s2.heap.objs.size (.lst [])) h₁ := by
    obtain ⟨n, hD⟩ := hD
    exact I2.hok.laid hkeep (Nat.le_refl _) ⟨Nat.zero_le _, [], n, .nil, hD⟩
  refine ⟨?_, rfl, I2.bare, ?_, ?_, ?_, ?_, ?_, ?_, hok1, ?_⟩
  · refine ⟨I2.ok.mod, S.kind, I2.ok.glob, I2.ok.blt, Nat.le_succ _, fun x y c h1 h2 => ?_, fun x hx => ?_, fun x c e h => ?_, I2.ok.hd, I2.ok.frames, .inl rfl, fun b hb => ?_,
      I2.bs, Nat.le_trans I2.ok.bsz I2.sz, fun b ob e hb => ?_, fun b hb z => ?_, I2.stack, I2.stkFree⟩
    · exact cf_inj scope.names (s2.heap.objs.size + 1 + 1) (clos X.env scope.names []) (fun x c e => Nat.lt_succ_of_lt (Nat.lt_succ_of_lt (old x c e))) (fun x y c h1 h2 => I2.ok.inj x y c (sound x c h1) (sound y c h2)) x y c h1 h2
    · have hx' : scope.names.lookup x = some .free ∨ scope.names.lookup x = some .cell := by
        rcases hx with q | q
        · exact of_relabel2 (env := X.env) q (.inl rfl)
        · exact of_relabel2 (env := X.env) q (.inr rfl)
      rcases hx' with q | q
      · exact Option.isSome_iff_exists.mp (cf_keep _ _ _ x (clos_has X.env scope.names [] x (PySem.mem_of_lookup q)))
      · exact Option.isSome_iff_exists.mp (cf_has _ _ _ x (PySem.mem_of_lookup q))
    · rcases parts x c h with q | q
      · exact Nat.le_trans (Nat.le_trans (Nat.le_succ _) (Nat.le_succ _)) q
      · rcases clos_free X.env _ _ x c q with z | z
        · have e1 := lookup_mem2 S.names z
          have e2 : scope.names.lookup x = some .cell := by simpa using (show (scope.names.lookup x == some .cell) = true from e)
          rw [e1] at e2; cases e2
        · simp at z
    · obtain ⟨ob, e⟩ := hob b hb
      refine ⟨ltC b ob e, fun x c q => ?_⟩
      rcases parts x c q with z | z
      · exact fun y => absurd (Heap.lt_size e) (by rw [← y]; exact Nat.not_lt.mpr (Nat.le_trans (Nat.le_trans (Nat.le_succ _) (Nat.le_succ _)) z))
      · exact (hfp b hb).2.2.2.2.1 x c (sound x c z)
    · rcases (hfp b hb).2.2.2.1 with q | q
      · exact I2.ok.noex b ob e q
      · exact absurd (Nat.lt_of_lt_of_le (Heap.lt_size e) (Nat.le_trans I2.ok.bsz q)) (Nat.lt_irrefl _)
    · rcases List.mem_cons.mp (I2.stkSub b z) with q | q
      · exact (hfp b hb).2.1 q
      · exact (hfp b hb).2.2.1 q
  · exact Un.laid hkeep (Nat.le_refl _) hfr
  · refine ⟨_, hns, fun j x v e1 e2 e3 => ?_⟩
    obtain ⟨j', i, ej, ec, es⟩ := stY_at e2
    obtain ⟨x', n1, n2, n3⟩ := S.capOk j' i ec
    rw [← ej] at n1
    have ex : x = x' := Option.some.inj ((show NY[j]? = some x from e1).symm.trans n1)
    subst ex
    have hk := S.frees (x, .free) (PySem.mem_of_lookup n3) rfl
    obtain ⟨m, _, hl⟩ := I2.loc
    have hv : Vis X.env.scope x := hk.elim (fun q => .inr (.inl q)) fun q => .inr (.inr q)
    obtain ⟨u, ru, lk⟩ := hl i x v n2 es hv
    refine ⟨u, ru, .inr ⟨relabel_free (env := X.env) n3, ?_⟩⟩
    rcases lk with ⟨q, _⟩ | ⟨_, c, ec, cell⟩
    · rcases hk with z | z
      · rw [show X.env.kindOf x = some .cell from z] at q; cases q
      · rw [show X.env.kindOf x = some .free from z] at q; cases q
    · obtain ⟨c', hc'⟩ := Option.isSome_iff_exists.mp (clos_has X.env scope.names [] x (PySem.mem_of_lookup n3))
      have := sound x c' hc'
      rw [ec] at this
      cases this
      obtain ⟨ob, e, d⟩ := cell
      refine ⟨c, ?_, ob, hkeep c ob e, d⟩
      show (cellsFrom (s2.heap.objs.size + 1 + 1) scope.names (clos X.env scope.names [])).lookup x = some c
      rw [cf_free _ _ _ x (fun z => by have := lookup_mem2 S.names z; rw [n3] at this; cases this)]
      exact hc'
  · intro x c e
    rcases hcl x c e with q | q
    · exact ⟨_, q⟩
    · obtain ⟨v, ob, q, d⟩ := I2.cell x c (sound x c q)
      exact ⟨v, ob, hkeep c ob q, d⟩
  · show upd H2 s2.heap.objs.size (.lst []) (s2.heap.objs.size + 1) = none
    rw [upd_ne (Nat.succ_ne_self _)]; exact hfr1
  · intro x c e
    rcases parts x c e with z | z
    · have hc : s2.heap.objs.size < c := Nat.lt_of_lt_of_le (Nat.lt_succ_of_lt (Nat.lt_succ_self _)) z
      rw [upd_ne (Nat.ne_of_gt hc)]
      exact I2.hok.fresh (Nat.le_of_lt hc)
    · obtain ⟨v, ob, q, d⟩ := I2.cell x c (sound x c z)
      rw [upd_ne (ltD c ob q)]
      exact I2.freeC x c (sound x c z)
  · intro p hp
    have hp' : p ∈ X.pn ++ pins := by
      have : p ∈ (X.pn ++ pins) ++ [] := hp
      simpa using this
    obtain ⟨e, n, ne, nf, d⟩ := I2.pin p hp'
    refine ⟨hkeep _ _ e, by rw [upd_ne (ltD _ _ e)]; exact n, ltC _ _ e, fun z => ?_, d⟩
    rcases List.mem_cons.mp (I2.stkSub p.1 z) with q | q
    · exact ne q
    · exact nf q
  · show (stY o caps σ).length = NY.length
    unfold stY
    rw [List.length_append, List.length_replicate, List.length_map, S.len]
theorem newEnvC {M : Model} {A : Around} {E : Value → Shared → Prop} {s : Shared} {scope : Scope} {globals : Addr} {closure : List (Str × Addr)} {qual : Str} {func : Option Addr} {code : Value} {outer : Env} {builtins : Addr} {Q : Env → Shared → Prop}
    (hQ : Q (newEnv scope s.heap.objs.size globals (cellsFrom (s.heap.objs.size + 1) scope.names closure) qual func code (some outer) builtins) { s with heap := pushCells (s.heap.push { cls := .type "dict", data := .dict #[] }) scope.names }) :
    wpAny M A (newFunctionEnv scope globals closure [] qual func code (some outer) builtins) Q E s := by
  simp only [newFunctionEnv, Option.isSome_some, if_true]
  refine wpAny_bind (wpAny_alloc ?_)
  refine wpAny_bind (wpAny_layCells _ (fun name kind cells => by cases hkc : kind == NameKind.cell <;> simp [hkc]) _ _ _ _ ?_)
  rw [Heap.size_push ..]
  rw [List.forIn_nil]
  exact wpAny_bind (wpAny_pure (wpAny_pure hQ))
theorem comp_blkC {pins : List (Addr × Obj)} {σ : St} {H2 : Hp} {s2 : Shared} {NY : List Str} {o : Nat} {caps : List Nat} {scope : Scope} {fp : List Addr} {it : Addr} {tn : Nat → Heap → Prop} {adv : Adv} {stop : Nat → Hp → Prop}
    {elt tg iter : Expr} {ifs : List Expr} {pos : Pos} {tt : TT} {te : TE} {Q : VK} {R : Result → Shared → Prop}
    (S : CompScopeC X NY o caps scope) (I2 : Inv X pins σ H2 s2) (hfp : ∀ b ∈ fp, FpOk X pins H2 b) (st2 : tn 0 s2.heap)
    (Wk : ∀ C, Walk (cxCompC X NY scope C s2 H2 fp pins) tg fp it tn adv stop) (ht : ∀ C, PTs (cxCompC X NY scope C s2 H2 fp pins) ifs tt) (he : ∀ C, PE (cxCompC X NY scope C s2 H2 fp pins) elt te)
    (h : tCompW o caps adv stop tt te σ H2 Q) (fin : ∀ (s4 : Shared) (H3 : Hp) (m : Str → Option Value), s4.heap.Ns (s2.heap.objs.size + 1) m → (∀ h', Heap.SameBut (s2.heap.objs.size + 1) s4.heap h' → Inv X pins σ H3 { s4 with heap := h' }) → H3 (s2.heap.objs.size + 1) = none → Q (.ref s2.heap.objs.size) H3 → R (.ok .next) s4) :
    wpAny (model X.prog X.w) X.A (newList []) (fun acc s₃ => wpAny (model X.prog X.w) X.A (newFunctionEnv scope X.env.globals (clos X.env scope.names []) [] X.env.qual none .none (some X.env)) (fun cenv s₄ =>
      acc = .ref s2.heap.objs.size ∧ cenv.locals = s2.heap.objs.size + 1 ∧ codeAny (model X.prog X.w) X.A (.compStart (.ListComp elt [⟨tg, iter, ifs, 0⟩] scope pos) 0 (.ref it) acc { cenv with scope := relabel scope X.env }) R s₄) X.xe s₃) X.xe s2 := by
  refine wpAny_newObj_type (newEnvC ?_)
  have hC : (s2.heap.push { cls := .type "list", dict := none, data := .seq ([] : List Value).toArray }).objs.size = s2.heap.objs.size + 1 := Heap.size_push _ _
  dsimp only
  rw [hC]
  have hszD : ((s2.heap.push { cls := .type "list", dict := none, data := .seq ([] : List Value).toArray }).push { cls := .type "dict", data := .dict #[] }).objs.size = s2.heap.objs.size + 1 + 1 := by rw [Heap.size_push, hC]
  have hcl : ∀ x c, (cellsFrom (s2.heap.objs.size + 1 + 1) scope.names (clos X.env scope.names [])).lookup x = some c → (pushCells ((s2.heap.push { cls := .type "list", dict := none, data := .seq ([] : List Value).toArray }).push { cls := .type "dict", data := .dict #[] }) scope.names).IsCell c none ∨ (clos X.env scope.names []).lookup x = some c := fun x c e =>
    cf_cell scope.names _ _ x c (by rw [hszD]; exact e)
  have hns₁ : (pushCells ((s2.heap.push { cls := .type "list", dict := none, data := .seq ([] : List Value).toArray }).push { cls := .type "dict", data := .dict #[] }) scope.names).Ns (s2.heap.objs.size + 1) fun _ => none := by
    have := (Heap.Ns.new (s2.heap.push { cls := .type "list", dict := none, data := .seq ([] : List Value).toArray }) (.type "dict")).keeps (pushCells_keeps scope.names _)
    rw [hC] at this
    exact this
  have hkeep : ∀ b ob, s2.heap.get? b = some ob → (pushCells ((s2.heap.push { cls := .type "list", dict := none, data := .seq ([] : List Value).toArray }).push { cls := .type "dict", data := .dict #[] }) scope.names).get? b = some ob := fun b ob e =>
    pushCells_keeps _ _ _ _ (Heap.get?_push_of_some _ (Heap.get?_push_of_some _ e))
  have hD : ∃ n, (pushCells ((s2.heap.push { cls := .type "list", dict := none, data := .seq ([] : List Value).toArray }).push { cls := .type "dict", data := .dict #[] }) scope.names).get? s2.heap.objs.size = some { cls := .type "list", data := .seq ([] : List Value).toArray n } :=
    ⟨_, pushCells_keeps _ _ _ _ (Heap.get?_push_of_some _ (Heap.get?_push_size _ rfl))⟩
  generalize pushCells ((s2.heap.push { cls := .type "list", dict := none, data := .seq ([] : List Value).toArray }).push { cls := .type "dict", data := .dict #[] }) scope.names = h₁ at hns₁ hcl hkeep hD ⊢
  have I4 := comp_invC S I2 hfp (fun b hb => ((Wk 0).obj 0 _ st2 b hb).imp fun _ q => q.1) (hns := hns₁) hkeep hcl hD s2.toks
  exact ⟨rfl, rfl, comp_core (L := cellsFrom (s2.heap.objs.size + 1 + 1) scope.names (clos X.env scope.names [])) (fn := fun x => scope.names.lookup x == some .cell) I2 hfp st2 hkeep (Wk _) (ht _) (he _) h I4 fin⟩
theorem comp_blockC {pins : List (Addr × Obj)} {σ : St} {H2 : Hp} {s2 : Shared} {NY : List Str} {o : Nat} {caps : List Nat} {scope : Scope} {fp : List Addr} {it : Addr} {tn : Nat → Heap → Prop} {adv : Adv} {stop : Nat → Hp → Prop}
    {elt tg iter : Expr} {ifs : List Expr} {pos : Pos} {tt : TT} {te : TE} {Q : VK}
    (S : CompScopeC X NY o caps scope) (I2 : Inv X pins σ H2 s2) (hfp : ∀ b ∈ fp, FpOk X pins H2 b) (st2 : tn 0 s2.heap)
    (Wk : ∀ C, Walk (cxCompC X NY scope C s2 H2 fp pins) tg fp it tn adv stop) (ht : ∀ C, PTs (cxCompC X NY scope C s2 H2 fp pins) ifs tt) (he : ∀ C, PE (cxCompC X NY scope C s2 H2 fp pins) elt te)
    (h : tCompW o caps adv stop tt te σ H2 Q) :
    wpAny (model X.prog X.w) X.A (newList []) (fun acc s₃ => wpAny (model X.prog X.w) X.A (newFunctionEnv scope X.env.globals (clos X.env scope.names []) [] X.env.qual none .none (some X.env)) (fun cenv s₄ =>
      codeAny (model X.prog X.w) X.A (.compStart (.ListComp elt [⟨tg, iter, ifs, 0⟩] scope pos) 0 (.ref it) acc { cenv with scope := relabel scope X.env }) (compPost (model X.prog X.w) X.A X.xe none (EP X pins σ Q) acc cenv.locals) s₄) X.xe s₃) X.xe s2 := by
  refine thn (comp_blkC (iter := iter) (pos := pos) (R := compPost (model X.prog X.w) X.A X.xe none (EP X pins σ Q) (.ref s2.heap.objs.size) (s2.heap.objs.size + 1)) S I2 hfp st2 Wk ht he h fun s4 H3 m hn inv _ q => ⟨m, hn, fun h' hs => ⟨.ref s2.heap.objs.size, H3, inv h' hs, rfl, q⟩⟩) fun acc s3 h3 => thn h3 fun cenv s4 h4 => ?_
  obtain ⟨rfl, eC, h4⟩ := h4
  rw [eC] at h4 ⊢
  exact h4
theorem pe_compC {elt iter tg : Expr} {ifs : List Expr} {scope : Scope} {pos : Pos} {NY : List Str} {o : Nat} {caps : List Nat} {wi : TI} {g : TG} {tt : TT} {te : TE}
    (S : CompScopeC X NY o caps scope) (hc : X.calm = true) (hi : PI X tg iter wi)
    (hg : ∀ C s H fp pins, PG (cxCompC X NY scope C s H fp pins) tg g) (ht : ∀ C s H fp pins, PTs (cxCompC X NY scope C s H fp pins) ifs tt) (he : ∀ C s H fp pins, PE (cxCompC X NY scope C s H fp pins) elt te)
    (hs : ∀ x, foldedSetIterable iter X.env x = pure x := by intro _; rfl) : PE X (.ListComp elt [⟨tg, iter, ifs, 0⟩] scope pos) (tComp o caps wi g tt te) := by
  intro pins s σ H Q I h
  rw [eval_ListComp]
  refine wpAny_comprehension_free rfl hs (closureFor_ok fun y hy e => I.ok.has _ (S.frees y hy e)) S.kind S.locs ?_
  refine thn (hi pins s σ H _ I h) fun v s1 h1 => thn h1 fun itv s2 h2 => ?_
  obtain ⟨it, fp, tn, J, H2, e, I2, T, st2, f2, hr⟩ := h2
  subst e
  exact comp_blockC S I2 f2 st2 (fun C => Turn.walk hc T (hg _ _ _ _ _)) (fun C => ht _ _ _ _ _) (fun C => he _ _ _ _ _) hr
end
end L2
set_option Elab.async false
set_option linter.all false
set_option maxRecDepth 100000
set_option maxHeartbeats 4000000
namespace PySem
open Sem (wp)
end PySem
namespace L2
open PySem PySem.Spec PyProof.Rows
end L2
set_option Elab.async false
set_option linter.all false
set_option maxRecDepth 100000
set_option maxHeartbeats 4000000
namespace Law
open PySem L2 Fs
def top (i : Nat) : Stmt := PySem.Challenge.pw_fillsay_k09_refusals_made.main.body.getD i (.Pass ⟨0, 0, 0, 0⟩)
abbrev s_NoSaying_init : Stmt := inClass (top 2) 0
abbrev s_Strange_init : Stmt := inClass (top 3) 0
abbrev s_law_mixed : Stmt := top 13
abbrev s_law_sorts : Stmt := top 14
abbrev s_law : Stmt := top 15
structure Txt (mg : Str → Option Value) : Prop where
  len : mg "len" = none
  list : mg "list" = none
  sorted : mg "sorted" = none
  set : mg "set" = none
  tuple : mg "tuple" = none
  dict : mg "dict" = none
  zip : mg "zip" = none
  reversed : mg "reversed" = none
  range : mg "range" = none
  enumerate : mg "enumerate" = none
  all : mg "all" = none
  min : mg "min" = none
  max : mg "max" = none
  isinstance : mg "isinstance" = none
  tup : mg "str" = none
  bool : mg "bool" = none
theorem bt_all : bootBuiltins "all" = some (.builtin "all") := by decide +kernel
theorem bt_min : bootBuiltins "min" = some (.builtin "min") := by decide +kernel
section
variable {P : Program} {w : World} {K : PySem.W.Frag} {mg : Str → Option Value} {base : Heap}
def Scr (K : PySem.W.Frag) (H : Hp) (a : Addr) (ns : List Int) : Prop := SqL K H a (ns.map V.int) ∧ ns.length ≤ 63
theorem Scr.mono {K : PySem.W.Frag} {H H' : Hp} {a : Addr} {ns : List Int} (h : Scr K H a ns) (g : Same H H') : Scr K H' a ns := ⟨g.seq h.1, h.2⟩
def spMixed2 (K : PySem.W.Frag) : Sp := fun vs H Q _ => ∃ (a : Addr) (ns : List Int) (k : Int), vs = [.ref a, .int k] ∧ Scr K H a ns ∧ 0 ≤ k ∧ k ≤ 100000 ∧ ∀ z H', Same H H' → 0 ≤ z → z < 1000000007 → Q (.int z) H'
theorem sc_mixed : FnScope ["_law_script", "_law_k", "_law_cell", "_law_step", "_law_mix"] ["_law_script", "_law_k"] (defScope s_law_mixed) := ⟨rfl, rfl, rfl, by decide +kernel, rfl, by decide +kernel, by decide +kernel⟩
theorem item_at {ns : List Int} {k : Int} (h0 : 0 ≤ k) (h : k < (ns.length : Int)) : ∃ v : Int, atI (ns.map V.int) k = some (.int v) := by
  have hk : k.toNat < ns.length := by omega
  have ek : k = ((k.toNat : Nat) : Int) := by omega
  have := atI_nat (xs := ns.map V.int) (j := k.toNat) (v := .int ns[k.toNat]) (by rw [List.getElem?_map, List.getElem?_eq_getElem hk]; rfl)
  rw [← ek] at this
  exact ⟨_, this⟩
theorem ite_joinI {c : Prop} [Decidable c] {A B : Prop} (R : Int → Prop) (hA : c → (∀ z, R z) → A) (hB : ¬ c → (∀ z, R z) → B) (hC : ∀ z, R z) : if c then A else B := by
  by_cases h : c
  · rw [if_pos h]; exact hA h hC
  · rw [if_neg h]; exact hB h hC
theorem bt_max : bootBuiltins "max" = some (.builtin "max") := by decide +kernel
theorem ok_mixed {k : Nat} {f : Addr} {fd : FuncData} (F : Fun K "_law_mixed" "_law_mixed" s_law_mixed f fd) (T : Txt mg) : FnOk P w K mg base CX0 (k + 1) f fd ["_law_script", "_law_k"] (spMixed2 K) := by
  refine F.ok sc_mixed (fun vs H Q E h => ?_) (fun cdv A outer s H vs Q E hr h => ?_)
  · obtain ⟨a, ns, k, rfl, _⟩ := h
    rfl
  obtain ⟨a, ns, k, rfl, ⟨hS, h63⟩, k0, k1, q⟩ := h
  refine ⟨_, pss_cons (ps_set (i := 2) sc_mixed.nd rfl (Or.inl rfl) pe_int)
    (pss_cons (ps_if (pt_cmpR op_gt (pe_callB call_len_seq (by rfl) T.len PySem.boot_len (pa_cons (pv 0) pa_nil)) pe_int (nomark _))
      (pss_one (ps_set (i := 2) sc_mixed.nd rfl (Or.inl rfl) (pe_ix ix_list (pv 0) (pe_op op_mod (pv 1) (pe_callB call_len_seq (by rfl) T.len PySem.boot_len (pa_cons (pv 0) pa_nil))) (fun _ _ => rfl)))) pss_nil)
    (pss_cons (ps_if (pt_cmpR op_eq (pe_op op_mod (pe_callB call_len_seq (by rfl) T.len PySem.boot_len (pa_cons (pv 0) pa_nil)) pe_int) pe_int (nomark _))
      (pss_cons (ps_for PassesOwn.never rfl (pi_range1 (by rfl) T.range (pa_cons (pe_callB (call_min2 rfl) (by rfl) T.min bt_min (pa_cons pe_int (pa_cons (pe_op op_fdiv (pv 1) (pe_callB (call_max2 rfl) (by rfl) T.max bt_max (pa_cons pe_int (pa_cons (pe_callB call_len_seq (by rfl) T.len PySem.boot_len (pa_cons (pv 0) pa_nil)) pa_nil)))) pa_nil))) pa_nil)) (pg_name (i := 3) sc_mixed.nd rfl (Or.inl rfl))
        (pss_one (ps_set (i := 2) sc_mixed.nd rfl (Or.inl rfl) (pe_op op_fdiv (pv 2) pe_int))))
      (pss_one (ps_ret (pe_op op_mod (pv 2) pe_int)))) pss_nil)
    (pss_cons (ps_set (i := 4) sc_mixed.nd rfl (Or.inl rfl) (pe_op op_mod (pe_op op_add (pe_op op_add (pe_op op_add (pe_op op_mul (pe_op op_mod (pv 2) pe_int) pe_int) (pe_op op_mul (pe_op op_mul pe_int (pv 1)) (pv 1))) (pe_op op_mul pe_int (pv 1))) pe_int) pe_int))
    (pss_one (ps_ret (pe_op op_mod (pe_op op_mul (pv 4) pe_int) pe_int)))))), ?_⟩
  have hl : (ns.map V.int).length = ns.length := List.length_map _
  have q' : ∀ z : Int, 0 ≤ z → z < 1000000007 → Q (.int z) H := fun z h1 h2 => q z H (Same.refl H) h1 h2
  refine ⟨_, rfl, a, _, rfl, .inl hS, _, _, rfl, rfl, _, rfl, ?_⟩
  rw [hl]
  refine ite_joinI ?R (fun c1 C => ?hA) (fun c1 C => ?hB) ?hC
  case hA =>
    have c1' : (0 : Int) < (ns.length : Int) := of_decide_eq_true c1
    obtain ⟨v, hv⟩ := item_at (ns := ns) (k := k % (ns.length : Int)) (Int.emod_nonneg k (by omega)) (Int.emod_lt_of_pos k c1')
    refine ⟨_, rfl, _, rfl, _, rfl, a, _, rfl, .inl hS, ?_⟩
    rw [hl]
    refine ⟨_, _, rfl, rfl, c1', a, _, _, _, rfl, rfl, hS, hv, ?_⟩
    exact C v
  case hB => exact C 0
  intro c
  refine ⟨_, rfl, a, _, rfl, .inl hS, _, _, rfl, rfl, (show (0 : Int) < 2 by decide), rfl, _, rfl, ?_⟩
  rw [hl]
  refine ite2 (fun c2 => ?_) (fun c2 => ?_)
  · refine ⟨_, rfl, _, rfl, a, _, rfl, .inl hS, _, _, rfl, ?_⟩
    rw [hl]
    have m1 : (1 : Int) ≤ (if (ns.length : Int) > 1 then (ns.length : Int) else 1) := by split <;> omega
    have m2 : (if (ns.length : Int) > 1 then (ns.length : Int) else 1) ≤ 63 := by split <;> omega
    generalize (if (ns.length : Int) > 1 then (ns.length : Int) else 1) = m at m1 m2
    refine ⟨_, _, rfl, rfl, ⟨by omega, by omega⟩, _, _, rfl, ?_⟩
    have d0 : 0 ≤ k / m := Int.ediv_nonneg k0 (by omega)
    refine ⟨_, rfl, ?_, ?_, ?_⟩
    · show -(2 ^ 62) ≤ (if k / m < (60 : Int) then k / m else (60 : Int))
      split <;> omega
    · show (if k / m < (60 : Int) then k / m else (60 : Int)) < 2 ^ 62
      split <;> omega
    refine for_range (fun i σ H1 => ∃ (c : Int) (v : Option V), σ = [some (.ref a), some (.int k), some (.int c), v, none] ∧ H1 = H) ⟨_, none, rfl, rfl⟩ ?_ ?_
    · rintro i σ H1 hi ⟨c, v, rfl, rfl⟩
      refine ⟨_, rfl, _, _, rfl, rfl, ⟨by decide, by decide⟩, ?_⟩
      exact ⟨_, _, rfl, rfl⟩
    · rintro σ H1 ⟨c, v, rfl, rfl⟩
      refine ⟨_, rfl, _, _, rfl, rfl, (show (0 : Int) < 1000000007 by decide), ?_⟩
      exact q' _ (Int.emod_nonneg _ (by decide)) (Int.emod_lt_of_pos _ (by decide))
  · have kb : -(2 ^ 64) < k ∧ k < 2 ^ 64 := ⟨by omega, by omega⟩
    refine ⟨_, rfl, _, _, rfl, rfl, (show (0 : Int) < 1000003 by decide), _, _, rfl, rfl, .inr ⟨by decide, by decide⟩, _, rfl, _, _, rfl, rfl, .inr kb, _, rfl, _, _, rfl, rfl, .inr kb, _, _, rfl, rfl, _, rfl, _, _, rfl, rfl, .inr kb, _, _, rfl, rfl, _, _, rfl, rfl, _, _, rfl, rfl, (show (0 : Int) < 2147483647 by decide), ?_⟩
    refine ⟨_, rfl, _, _, rfl, rfl, .inr ⟨by decide, by decide⟩, _, _, rfl, rfl, (show (0 : Int) < 1000000007 by decide), ?_⟩
    exact q' _ (Int.emod_nonneg _ (by decide)) (Int.emod_lt_of_pos _ (by decide))
end
end Law
set_option Elab.async false
set_option linter.all false
set_option maxRecDepth 100000
set_option maxHeartbeats 4000000
namespace Law
open PySem L2 Fs
section
variable {P : Program} {w : World} {K : PySem.W.Frag} {mg : Str → Option Value} {base : Heap}
def spInit (K : PySem.W.Frag) (fl : Str) : Sp := fun vs H Q _ => ∃ (a C : Addr) (v : V), vs = [.ref a, v] ∧ H a = some (exHO a C none true) ∧ XCl K C ∧ NoAttr K C fl ∧ ∀ dx, H dx = none → dx ≠ a → Q .non (upd (upd H dx (.xd [(fl, v)])) a (exHO a C (some dx) true))
theorem sc_inip : FnScope ["self", "place"] ["self", "place"] (defScope s_NoSaying_init) := ⟨rfl, rfl, rfl, by decide +kernel, rfl, by decide +kernel, by decide +kernel⟩
theorem sc_inil : FnScope ["self", "letter"] ["self", "letter"] (defScope s_Strange_init) := ⟨rfl, rfl, rfl, by decide +kernel, rfl, by decide +kernel, by decide +kernel⟩
theorem ok_inip {k : Nat} {f : Addr} {fd : FuncData} (F : Fun K "__init__" "NoSaying.__init__" s_NoSaying_init f fd) : FnOk P w K mg base CX0 (k + 1) f fd ["self", "place"] (spInit K "place") := by
  refine F.ok sc_inip (fun vs H Q E h => ?_) (fun cdv A outer s H vs Q E hr h => ?_)
  · obtain ⟨a, C, v, rfl, _⟩ := h
    rfl
  obtain ⟨a, C, v, rfl, ha, cl, na, q⟩ := h
  refine ⟨_, pss_one (ps_xset (pv 0) (pv 1)), ?_⟩
  exact ⟨_, rfl, _, rfl, a, C, true, rfl, ha, cl, na, fun dx h1 h2 => q dx h1 h2⟩
theorem ok_inil {k : Nat} {f : Addr} {fd : FuncData} (F : Fun K "__init__" "Strange.__init__" s_Strange_init f fd) : FnOk P w K mg base CX0 (k + 1) f fd ["self", "letter"] (spInit K "letter") := by
  refine F.ok sc_inil (fun vs H Q E h => ?_) (fun cdv A outer s H vs Q E hr h => ?_)
  · obtain ⟨a, C, v, rfl, _⟩ := h
    rfl
  obtain ⟨a, C, v, rfl, ha, cl, na, q⟩ := h
  refine ⟨_, pss_one (ps_xset (pv 0) (pv 1)), ?_⟩
  exact ⟨_, rfl, _, rfl, a, C, true, rfl, ha, cl, na, fun dx h1 h2 => q dx h1 h2⟩
def ExAt (H : Hp) (a C : Addr) : Prop := ∃ dx fr, H a = some (exHO a C dx fr) ∧ ∀ d, dx = some d → ∃ fs, H d = some (.xd fs)
theorem ExAt.mono {H H' : Hp} {a C : Addr} (h : ExAt H a C) (g : Same H H') : ExAt H' a C := by
  obtain ⟨dx, fr, e, hd⟩ := h
  refine ⟨dx, fr, g _ _ e, fun d z => ?_⟩
  obtain ⟨fs, e'⟩ := hd d z
  exact ⟨fs, g _ _ e'⟩
def rIsX (K : PySem.W.Frag) : List V → Hp → VK → Prop := fun xs H Q => ∃ (a C : Addr) (c : V) (b : Bool), xs = [.ref a, c] ∧ ExAt H a C ∧ XCl K C ∧ (∀ u, RelV c u → PySem.W.kitOne K (.ref C) u = some b) ∧ Q (.bl b) H
theorem call_isX {X : Cx} : CallR X (.builtin "isinstance") (rIsX X.K) := by
  intro pins s σ H xs us Q I r h
  obtain ⟨a, C, c, b, rfl, ⟨dx, fr, ea, hd⟩, cl, e, q⟩ := h
  obtain ⟨u1, u2, rfl, r1, r2⟩ := vals2 r
  cases r1
  exact exc_isin I ea cl hd (e u2 r2) fun tk => ⟨.bl b, H, I.tok tk, rfl, q⟩
structure ECl (K : PySem.W.Frag) (mg : Str → Option Value) (c : Nat → Addr) : Prop where
  m0 : mg "NoSaying" = some (.ref (c 0))
  m1 : mg "Strange" = some (.ref (c 1))
  m2 : mg "NoForm" = some (.ref (c 2))
  m3 : mg "NoLetters" = some (.ref (c 3))
  m4 : mg "NoWish" = some (.ref (c 4))
  m5 : mg "TooMany" = some (.ref (c 5))
  m6 : mg "NoFilling" = some (.ref (c 6))
  m7 : mg "NoNumber" = some (.ref (c 7))
  m8 : mg "NoLine" = some (.ref (c 8))
  m9 : mg "NothingDone" = some (.ref (c 9))
  mF : mg "FillError" = some (.ref (c 10))
  mVE : mg "ValueError" = none
  x : ∀ k, k < 10 → XCl K (c k)
  mro : ∀ k, k < 10 → ∃ cd, PySem.W.clsIn K (c k) = some cd ∧ cd.mro = .ref (c k) :: .ref (c 10) :: mV
  cl : ∀ k, k < 11 → (PySem.W.clsIn K (c k)).isSome = true ∧ PySem.W.typeIn K (.ref (c k)) = some (.type "type")
  nd : ∀ j k, j < 11 → k < 11 → c j = c k → j = k
theorem ECl.kit {K : PySem.W.Frag} {mg : Str → Option Value} {c : Nat → Addr} (E : ECl K mg c) {k j : Nat} (hk : k < 10) (hj : j < 11) : ∀ u, RelV (.ref (c j)) u → PySem.W.kitOne K (.ref (c k)) u = some (decide (j = k ∨ j = 10)) := by
  intro u r
  cases r
  obtain ⟨cd, e1, e2⟩ := E.mro k hk
  obtain ⟨z1, z2⟩ := E.cl j hj
  have hb : (Value.ref (c k) == Value.ref (c j)) = decide (j = k) := by
    rw [Bool.eq_iff_iff, beq_iff_eq, decide_eq_true_iff]
    exact ⟨fun z => (E.nd k j (by omega) hj (Value.ref.inj z)).symm, fun z => by rw [z]⟩
  have hF : (Value.ref (c j) == Value.ref (c 10)) = decide (j = 10) := by
    rw [Bool.eq_iff_iff, beq_iff_eq, decide_eq_true_iff]
    exact ⟨fun z => E.nd j 10 hj (by decide) (Value.ref.inj z), fun z => by rw [z]⟩
  unfold PySem.W.kitOne
  by_cases h : j = k
  · subst h
    rw [if_pos (beq_self_eq_true _), decide_eq_true (Or.inl rfl)]
  · rw [if_neg (by rw [hb, decide_eq_false h]; exact Bool.false_ne_true)]
    unfold PySem.W.kitCls
    dsimp only
    rw [if_pos (by rw [z1, z2]; rfl)]
    unfold PySem.W.subIn PySem.W.mroIn
    dsimp only
    rw [e1, Option.bind_some, e2, if_neg (show ¬ (_ :: _ : List Value).isEmpty = true from Bool.false_ne_true)]
    congr 1
    rw [List.contains_cons, List.contains_cons, hF, show (Value.ref (c j) == Value.ref (c k)) = false by rw [Bool.eq_false_iff]; intro z; exact h (E.nd j k hj (by omega) (Value.ref.inj (beq_iff_eq.mp z)))]
    rw [show mV.contains (Value.ref (c j)) = false by rfl]
    simp [h]
theorem ECl.kitV {K : PySem.W.Frag} {mg : Str → Option Value} {c : Nat → Addr} (E : ECl K mg c) {k : Nat} (hk : k < 10) : ∀ u, RelV (.ty "ValueError") u → PySem.W.kitOne K (.ref (c k)) u = some true := by
  intro u r
  cases r
  obtain ⟨cd, e1, e2⟩ := E.mro k hk
  unfold PySem.W.kitOne PySem.W.kitCls PySem.W.subIn PySem.W.mroIn
  rw [if_neg (fun z => by cases beq_iff_eq.mp z)]
  dsimp only
  rw [if_pos (show PySem.W.kitMeta "ValueError" = true by decide +kernel), e1, Option.bind_some, e2, if_neg (show ¬ (_ :: _ : List Value).isEmpty = true from Bool.false_ne_true)]
  rfl
theorem bt_isinst : bootBuiltins "isinstance" = some (.builtin "isinstance") := by decide +kernel
theorem bt_ve : bootBuiltins "ValueError" = some (.type "ValueError") := by decide +kernel
def sorts (k : Nat) : List Bool := (List.range 11).map fun j => decide (j = k ∨ j = 10)
def spSorts (c : Nat → Addr) : Sp := fun vs H Q _ => ∃ (a : Addr) (k : Nat), vs = [.ref a] ∧ k < 10 ∧ ExAt H a (c k) ∧ ∀ r H', Same H H' → H' r = some (.lst ((sorts k).map V.bl)) → Q (.ref r) H'
theorem sc_sorts : FnScope ["_law_e", "_law_some"] ["_law_e"] (defScope s_law_sorts) := ⟨rfl, rfl, rfl, by decide +kernel, rfl, by decide +kernel, by decide +kernel⟩
theorem ok_sorts {k : Nat} {f : Addr} {fd : FuncData} {c : Nat → Addr} (F : Fun K "_law_sorts" "_law_sorts" s_law_sorts f fd) (T : Txt mg) (C : ECl K mg c) : FnOk P w K mg base CX0 (k + 1) f fd ["_law_e"] (spSorts c) := by
  refine F.ok sc_sorts (fun vs H Q E h => ?_) (fun cdv A outer s H vs Q E hr h => ?_)
  · obtain ⟨a, k, rfl, _⟩ := h
    rfl
  obtain ⟨a, n, rfl, hn, ha, q⟩ := h
  refine ⟨_, (pss_cons (ps_set (i := 1) sc_sorts.nd rfl (Or.inl rfl) (pe_lst (pa_cons (pe_callB (r := rIsX K) call_isX (by rfl) T.isinstance bt_isinst (pa_cons (pv 0) (pa_cons (pe_glob (v := .ref (c 0)) (by rfl) C.m0 rfl) pa_nil))) (pa_cons (pe_callB (r := rIsX K) call_isX (by rfl) T.isinstance bt_isinst (pa_cons (pv 0) (pa_cons (pe_glob (v := .ref (c 1)) (by rfl) C.m1 rfl) pa_nil)))
      (pa_cons (pe_callB (r := rIsX K) call_isX (by rfl) T.isinstance bt_isinst (pa_cons (pv 0) (pa_cons (pe_glob (v := .ref (c 2)) (by rfl) C.m2 rfl) pa_nil))) (pa_cons (pe_callB (r := rIsX K) call_isX (by rfl) T.isinstance bt_isinst (pa_cons (pv 0) (pa_cons (pe_glob (v := .ref (c 3)) (by rfl) C.m3 rfl) pa_nil))) pa_nil))))))
    (pss_cons (ps_set (i := 1) sc_sorts.nd rfl (Or.inl rfl) (pe_op op_cat (pv 1) (pe_lst (pa_cons (pe_callB (r := rIsX K) call_isX (by rfl) T.isinstance bt_isinst (pa_cons (pv 0) (pa_cons (pe_glob (v := .ref (c 4)) (by rfl) C.m4 rfl) pa_nil))) (pa_cons (pe_callB (r := rIsX K) call_isX (by rfl) T.isinstance bt_isinst (pa_cons (pv 0) (pa_cons (pe_glob (v := .ref (c 5)) (by rfl) C.m5 rfl) pa_nil)))
      (pa_cons (pe_callB (r := rIsX K) call_isX (by rfl) T.isinstance bt_isinst (pa_cons (pv 0) (pa_cons (pe_glob (v := .ref (c 6)) (by rfl) C.m6 rfl) pa_nil))) pa_nil))))))
    (pss_cons (ps_set (i := 1) sc_sorts.nd rfl (Or.inl rfl) (pe_op op_cat (pv 1) (pe_lst (pa_cons (pe_callB (r := rIsX K) call_isX (by rfl) T.isinstance bt_isinst (pa_cons (pv 0) (pa_cons (pe_glob (v := .ref (c 7)) (by rfl) C.m7 rfl) pa_nil))) (pa_cons (pe_callB (r := rIsX K) call_isX (by rfl) T.isinstance bt_isinst (pa_cons (pv 0) (pa_cons (pe_glob (v := .ref (c 8)) (by rfl) C.m8 rfl) pa_nil)))
      (pa_cons (pe_callB (r := rIsX K) call_isX (by rfl) T.isinstance bt_isinst (pa_cons (pv 0) (pa_cons (pe_glob (v := .ref (c 9)) (by rfl) C.m9 rfl) pa_nil))) pa_nil))))))
    (pss_one (ps_ret (pe_op op_cat (pv 1) (pe_lst (pa_cons (pe_and (pe_callB (r := rIsX K) call_isX (by rfl) T.isinstance bt_isinst (pa_cons (pv 0) (pa_cons (pe_glob (v := .ref (c 10)) (by rfl) C.mF rfl) pa_nil))) (pe_callB (r := rIsX K) call_isX (by rfl) T.isinstance bt_isinst (pa_cons (pv 0) (pa_cons (pe_bltn (v := .ty "ValueError") (by rfl) C.mVE bt_ve rfl) pa_nil)))) pa_nil)))))))), ?_⟩
  have x := C.x n hn
  have g0 := Same.refl H
  refine ⟨_, rfl, a, c n, _, _, rfl, ha.mono g0, x, C.kit (j := 0) hn (by decide), _, rfl, a, c n, _, _, rfl, ha.mono g0, x, C.kit (j := 1) hn (by decide), _, rfl, a, c n, _, _, rfl, ha.mono g0, x, C.kit (j := 2) hn (by decide), _, rfl, a, c n, _, _, rfl, ha.mono g0, x, C.kit (j := 3) hn (by decide), smallE (by show 4 ≤ _; decide), fun p1 hp1 => ?_⟩
  have g1 := Same.up hp1 (o := .lst [.bl (decide (0 = n ∨ 0 = 10)), .bl (decide (1 = n ∨ 1 = 10)), .bl (decide (2 = n ∨ 2 = 10)), .bl (decide (3 = n ∨ 3 = 10))])
  refine ⟨_, rfl, _, rfl, a, c n, _, _, rfl, ha.mono g1, x, C.kit (j := 4) hn (by decide), _, rfl, a, c n, _, _, rfl, ha.mono g1, x, C.kit (j := 5) hn (by decide), _, rfl, a, c n, _, _, rfl, ha.mono g1, x, C.kit (j := 6) hn (by decide), smallE (by show 3 ≤ _; decide), fun p2 hp2 => ?_⟩
  have g2 := g1.to hp2 (o := .lst [.bl (decide (4 = n ∨ 4 = 10)), .bl (decide (5 = n ∨ 5 = 10)), .bl (decide (6 = n ∨ 6 = 10))])
  refine ⟨p1, p2, _, _, rfl, rfl, (Same.up hp2) _ _ upd_same, upd_same, smallE (by show 4 + 3 ≤ _; decide), fun p3 hp3 => ?_⟩
  have g3 := g2.to hp3 (o := .lst ([.bl (decide (0 = n ∨ 0 = 10)), .bl (decide (1 = n ∨ 1 = 10)), .bl (decide (2 = n ∨ 2 = 10)), .bl (decide (3 = n ∨ 3 = 10))] ++ [.bl (decide (4 = n ∨ 4 = 10)), .bl (decide (5 = n ∨ 5 = 10)), .bl (decide (6 = n ∨ 6 = 10))]))
  refine ⟨_, rfl, _, rfl, a, c n, _, _, rfl, ha.mono g3, x, C.kit (j := 7) hn (by decide), _, rfl, a, c n, _, _, rfl, ha.mono g3, x, C.kit (j := 8) hn (by decide), _, rfl, a, c n, _, _, rfl, ha.mono g3, x, C.kit (j := 9) hn (by decide), smallE (by show 3 ≤ _; decide), fun p4 hp4 => ?_⟩
  have g4 := g3.to hp4 (o := .lst [.bl (decide (7 = n ∨ 7 = 10)), .bl (decide (8 = n ∨ 8 = 10)), .bl (decide (9 = n ∨ 9 = 10))])
  refine ⟨p3, p4, _, _, rfl, rfl, (Same.up hp4) _ _ upd_same, upd_same, smallE (by show 7 + 3 ≤ _; decide), fun p5 hp5 => ?_⟩
  have g5 := g4.to hp5 (o := .lst (([.bl (decide (0 = n ∨ 0 = 10)), .bl (decide (1 = n ∨ 1 = 10)), .bl (decide (2 = n ∨ 2 = 10)), .bl (decide (3 = n ∨ 3 = 10))] ++ [.bl (decide (4 = n ∨ 4 = 10)), .bl (decide (5 = n ∨ 5 = 10)), .bl (decide (6 = n ∨ 6 = 10))]) ++ [.bl (decide (7 = n ∨ 7 = 10)), .bl (decide (8 = n ∨ 8 = 10)), .bl (decide (9 = n ∨ 9 = 10))]))
  refine ⟨_, rfl, _, rfl, a, c n, _, _, rfl, ha.mono g5, x, C.kit (j := 10) hn (by decide), _, rfl, ?_⟩
  rw [decide_eq_true (Or.inr rfl : 10 = n ∨ 10 = 10)]
  refine iteT ⟨_, rfl, a, c n, _, true, rfl, ha.mono g5, C.x n hn, C.kitV hn, smallE (by show 1 ≤ _; decide), fun p6 hp6 => ?_⟩
  have g6 := g5.to hp6 (o := .lst [.bl true])
  refine ⟨p5, p6, _, _, rfl, rfl, (Same.up hp6) _ _ upd_same, upd_same, smallE (by show 10 + 1 ≤ _; decide), fun p7 hp7 => ?_⟩
  refine q p7 _ (g6.to hp7) ?_
  rw [upd_same]
  unfold sorts
  simp only [show List.range 11 = [0, 1, 2, 3, 4, 5, 6, 7, 8, 9, 10] by decide, List.map_cons, List.map_nil, List.cons_append, List.nil_append]
  simp
end
end Law
set_option Elab.async false
set_option linter.all false
set_option maxRecDepth 100000
set_option maxHeartbeats 4000000
namespace Law
open PySem L2 Fs
section
variable {P : Program} {w : World} {K : PySem.W.Frag} {mg : Str → Option Value} {base : Heap}
def spLaw (K : PySem.W.Frag) : Sp := fun vs H Q _ => ∃ (a : Addr) (ns : List Int), vs = [.ref a] ∧ SqL K H a (ns.map V.int) ∧ ns.length ≤ 63 ∧ ∀ H', Q (.bl true) H'
structure XOk (P : Program) (w : World) (K : PySem.W.Frag) (mg : Str → Option Value) (base : Heap) (c : Nat → Addr) : Prop where
  e2 : xcIn K (c 2) none = true
  e3 : xcIn K (c 3) none = true
  e4 : xcIn K (c 4) none = true
  e5 : xcIn K (c 5) none = true
  e6 : xcIn K (c 6) none = true
  e7 : xcIn K (c 7) none = true
  e8 : xcIn K (c 8) none = true
  e9 : xcIn K (c 9) none = true
  ip : ∃ f fd, xcIn K (c 0) (some (.ref f)) = true ∧ PySem.W.isFn K (.ref f) = true ∧ FnOk P w K mg base CX0 1 f fd ["self", "place"] (spInit K "place") ∧ Binds K fd ["self", "place"] [] ∧ NoAttr K (c 0) "place"
  il : ∃ f fd, xcIn K (c 1) (some (.ref f)) = true ∧ PySem.W.isFn K (.ref f) = true ∧ FnOk P w K mg base CX0 1 f fd ["self", "letter"] (spInit K "letter") ∧ Binds K fd ["self", "letter"] [] ∧ NoAttr K (c 1) "letter"
theorem made_I {H : Hp} {a dx C : Addr} {fl : Str} {v : V} (ha : H a = none) (hd : upd H a (exHO a C none true) dx = none) (ne : dx ≠ a) :
    Same H (upd (upd (upd H a (exHO a C none true)) dx (.xd [(fl, v)])) a (exHO a C (some dx) true)) ∧ ExAt (upd (upd (upd H a (exHO a C none true)) dx (.xd [(fl, v)])) a (exHO a C (some dx) true)) a C ∧
      upd (upd (upd H a (exHO a C none true)) dx (.xd [(fl, v)])) a (exHO a C (some dx) true) dx = some (.xd [(fl, v)]) := by
  have e : upd (upd (upd H a (exHO a C none true)) dx (.xd [(fl, v)])) a (exHO a C (some dx) true) dx = some (.xd [(fl, v)]) := by rw [upd_ne ne, upd_same]
  refine ⟨fun b o h => ?_, ⟨some dx, true, upd_same, fun d z => ⟨_, by cases z; exact e⟩⟩, e⟩
  have n1 : b ≠ a := fun z => by rw [z, ha] at h; cases h
  have n2 : b ≠ dx := fun z => by
    rw [upd_ne ne] at hd
    rw [z, hd] at h
    cases h
  rw [upd_ne n1, upd_ne n2, upd_ne n1]
  exact h
theorem made_0 {H : Hp} {a C : Addr} (ha : H a = none) : Same H (upd H a (exHO a C none true)) ∧ ExAt (upd H a (exHO a C none true)) a C := ⟨Same.up ha, none, true, upd_same, fun d z => by cases z⟩
theorem sorts_in (k j : Nat) (hk : k < 10) : inV (.int (0 + (j : Int))) [.int (0 + (k : Int)), .int 10] = decide (j = k ∨ j = 10) := by
  unfold inV
  rw [List.any_cons, List.any_cons, List.any_nil]
  show ((0 + (k : Int) == 0 + (j : Int)) || (((10 : Int) == 0 + (j : Int)) || false)) = _
  rw [Bool.eq_iff_iff, decide_eq_true_iff, Bool.or_false, Bool.or_eq_true, beq_iff_eq, beq_iff_eq]
  omega
theorem sc_law : FnScope ["_law_script", "_law_place", "_law_letter", "_law_found"] ["_law_script"] (defScope s_law) := ⟨rfl, rfl, rfl, by decide +kernel, rfl, by decide +kernel, by decide +kernel⟩
theorem ok_law {c : Nat → Addr} {f fw_mixed fw_sorts : Addr} {fd dw_mixed dw_sorts : FuncData} (F : Fun K "law" "law" s_law f fd) (T : Txt mg) (C : ECl K mg c) (Z : XOk P w K mg base c)
    (Gw_mixed : FnOk P w K mg base CX0 1 fw_mixed dw_mixed ["_law_script", "_law_k"] (spMixed2 K)) (bw_mixed : Binds K dw_mixed ["_law_script", "_law_k"] []) (kw_mixed : PySem.W.keepIn K (.ref fw_mixed) = true) (mw_mixed : mg "_law_mixed" = some (.ref fw_mixed))
    (Gw_sorts : FnOk P w K mg base CX0 1 fw_sorts dw_sorts ["_law_e"] (spSorts c)) (bw_sorts : Binds K dw_sorts ["_law_e"] []) (kw_sorts : PySem.W.keepIn K (.ref fw_sorts) = true) (mw_sorts : mg "_law_sorts" = some (.ref fw_sorts))
    : FnOk P w K mg base CX0 3 f fd ["_law_script"] (spLaw K) := by
  refine F.ok sc_law (fun vs H Q E h => ?_) (fun cdv A outer s H vs Q E hr h => ?_)
  · obtain ⟨a, ns, rfl, _⟩ := h
    rfl
  obtain ⟨a, ns, rfl, hS, h63, q⟩ := h
  have hu := Nat.lt_of_succ_lt (hu_of hr)
  have hu1 := hu_of hr
  have hr_2 : Room 2 _ := hr
  obtain ⟨i0, d0, xi0, fi0, Gi0, bi0, ni0⟩ := Z.ip
  obtain ⟨i1, d1, xi1, fi1, Gi1, bi1, ni1⟩ := Z.il
  have hr_1 : Room 1 _ := hr.mono (by decide)
  refine ⟨_, (pss_cons (ps_set (i := 1) sc_law.nd rfl (Or.inl rfl) (pe_op op_mod (pe_call Gw_mixed hr_1 (by rfl) mw_mixed kw_mixed bw_mixed .nil pass0 (pa_cons (pv 0) (pa_cons pe_int pa_nil))) pe_int))
    (pss_cons (ps_set (i := 2) sc_law.nd rfl (Or.inl rfl) (pe_ix ix_str pe_str (pe_op op_mod (pe_call Gw_mixed hr_1 (by rfl) mw_mixed kw_mixed bw_mixed .nil pass0 (pa_cons (pv 0) (pa_cons pe_int pa_nil))) pe_int) (fun _ _ => rfl)))
    (pss_cons (ps_set (i := 3) sc_law.nd rfl (Or.inr rfl) (pe_lst (pa_cons (pe_call Gw_sorts hr_1 (by rfl) mw_sorts kw_sorts bw_sorts .nil pass0 (pa_cons (pe_excI xi0 (C.x 0 (by decide)).kp fi0 Gi0 hr_2 bi0 pass0 (by decide) (by rfl) C.m0 (pa_cons (pv 1) pa_nil)) pa_nil)) (pa_cons (pe_call Gw_sorts hr_1 (by rfl) mw_sorts kw_sorts bw_sorts .nil pass0 (pa_cons (pe_excI xi1 (C.x 1 (by decide)).kp fi1 Gi1 hr_2 bi1 pass0 (by decide) (by rfl) C.m1 (pa_cons (pv 2) pa_nil)) pa_nil)) (pa_cons (pe_call Gw_sorts hr_1 (by rfl) mw_sorts kw_sorts bw_sorts .nil pass0 (pa_cons (pe_exc0 (Z.e2) (C.x 2 (by decide)).kp (by rfl) C.m2) pa_nil)) pa_nil)))))
    (pss_cons (ps_set (i := 3) sc_law.nd rfl (Or.inr rfl) (pe_op op_cat (pv 3) (pe_lst (pa_cons (pe_call Gw_sorts hr_1 (by rfl) mw_sorts kw_sorts bw_sorts .nil pass0 (pa_cons (pe_exc0 (Z.e3) (C.x 3 (by decide)).kp (by rfl) C.m3) pa_nil)) (pa_cons (pe_call Gw_sorts hr_1 (by rfl) mw_sorts kw_sorts bw_sorts .nil pass0 (pa_cons (pe_exc0 (Z.e4) (C.x 4 (by decide)).kp (by rfl) C.m4) pa_nil)) (pa_cons (pe_call Gw_sorts hr_1 (by rfl) mw_sorts kw_sorts bw_sorts .nil pass0 (pa_cons (pe_exc0 (Z.e5) (C.x 5 (by decide)).kp (by rfl) C.m5) pa_nil)) pa_nil))))))
    (pss_cons (ps_set (i := 3) sc_law.nd rfl (Or.inr rfl) (pe_op op_cat (pv 3) (pe_lst (pa_cons (pe_call Gw_sorts hr_1 (by rfl) mw_sorts kw_sorts bw_sorts .nil pass0 (pa_cons (pe_exc0 (Z.e6) (C.x 6 (by decide)).kp (by rfl) C.m6) pa_nil)) (pa_cons (pe_call Gw_sorts hr_1 (by rfl) mw_sorts kw_sorts bw_sorts .nil pass0 (pa_cons (pe_exc0 (Z.e7) (C.x 7 (by decide)).kp (by rfl) C.m7) pa_nil)) (pa_cons (pe_call Gw_sorts hr_1 (by rfl) mw_sorts kw_sorts bw_sorts .nil pass0 (pa_cons (pe_exc0 (Z.e8) (C.x 8 (by decide)).kp (by rfl) C.m8) pa_nil)) pa_nil))))))
    (pss_cons (ps_expr (pe_bm PySem.F.plainAttrs_list PySem.F.slot_list_append PySem.F.type_list_append mt_append (pv 3) (pa_cons (pe_call Gw_sorts hr_1 (by rfl) mw_sorts kw_sorts bw_sorts .nil pass0 (pa_cons (pe_exc0 (Z.e9) (C.x 9 (by decide)).kp (by rfl) C.m9) pa_nil)) pa_nil)))
    (pss_cons (ps_if (pt_not (pt_val (pe_callB (call_all_bl rfl) (by rfl) T.all bt_all (pa_cons (pe_compC (comp_scopeC (NY := ["_law_k", "_law_found"]) (o := 1) (caps := [3]) ["_law_found"] rfl (by decide +kernel) (by decide +kernel) (by decide +kernel) (by decide +kernel)
        (by intro x hx; rw [List.mem_singleton.mp hx]; exact .inl rfl) (capC rfl rfl rfl cap0) rfl) rfl
        (pi_range1 (by rfl) T.range (pa_cons pe_int pa_nil)) (fun C0 s H fp pins => pg_name (i := 0) (show (["_law_k", "_law_found"] : List Str).Nodup by decide +kernel) rfl (Or.inr rfl)) (fun C0 s H fp pins => pts_nil) (fun C0 s H fp pins => (pe_cmpR (r := rEqSq K V.bl false) (op_eqSq kind_bl hu) (pe_ix (r := rIxL K) ix_list (pv 1) (pv 0) (fun _ _ => rfl)) (pe_comp (comp_scope (NY := ["_law_j", "_law_k"]) (o := 1) (caps := [0]) ["_law_k"] rfl (by decide +kernel) (by decide +kernel) (by decide +kernel) (by decide +kernel)
        (by intro x hx; rw [List.mem_singleton.mp hx]; exact .inl rfl) (capC rfl rfl rfl cap0) rfl) rfl
        (pi_range1 (by rfl) T.range (pa_cons pe_int pa_nil)) (fun C0 s H fp pins => pg_name (i := 0) (show (["_law_j", "_law_k"] : List Str).Nodup by decide +kernel) rfl (Or.inl rfl)) (fun C0 s H fp pins => pts_nil) (fun C0 s H fp pins => (pe_cmpR (r := rIn K false) op_in_seq (pv 0) (pe_tup (pa_cons (pv 1) (pa_cons pe_int pa_nil))) rfl))) (nomark _)))) pa_nil))))
      (pss_one (ps_ret pe_bl)) pss_nil)
    (pss_one (ps_ret (pe_and (pe_cmpR op_eq (pe_xget (pe_excI xi0 (C.x 0 (by decide)).kp fi0 Gi0 hr_2 bi0 pass0 (by decide) (by rfl) C.m0 (pa_cons (pv 1) pa_nil))) (pv 1) (nomark _)) (pe_one (pe_cmpR op_eq (pe_xget (pe_excI xi1 (C.x 1 (by decide)).kp fi1 Gi1 hr_2 bi1 pass0 (by decide) (by rfl) C.m1 (pa_cons (pv 2) pa_nil))) (pv 2) (nomark _))))))))))))), ?_⟩
  have g0 := Same.refl H
  refine ⟨_, rfl, a, ns, 0, rfl, ⟨hS, h63⟩, by decide, by decide, fun z H1 g1 z0 z1 => ?_⟩
  refine ⟨_, _, rfl, rfl, (show (0 : Int) < 201 by decide), ?_⟩
  refine ⟨_, rfl, a, ns, 1, rfl, ⟨g1.seq hS, h63⟩, by decide, by decide, fun y H2 g2 y0 y1 => ?_⟩
  refine ⟨_, _, rfl, rfl, (show (0 : Int) < 9 by decide), ?_⟩
  have q0 := Int.emod_nonneg y (b := 9) (by decide)
  have q1 := Int.emod_lt_of_pos y (b := 9) (by decide)
  obtain ⟨c0, hc0⟩ : ∃ c0, atI ("abcpqrxyz" : Str).cps.toList (y % 9) = some c0 := by
    have hl : (y % 9).toNat < ("abcpqrxyz" : Str).cps.toList.length := by
      have : ("abcpqrxyz" : Str).cps.toList.length = 9 := by decide
      omega
    have := atI_nat (xs := ("abcpqrxyz" : Str).cps.toList) (j := (y % 9).toNat) (List.getElem?_eq_getElem hl)
    rw [show (((y % 9).toNat : Nat) : Int) = y % 9 by omega] at this
    exact ⟨_, this⟩
  refine ⟨_, _, c0, rfl, rfl, by decide, hc0, ?_⟩
  -- the ten, made and asked
  refine ⟨_, rfl, fun x0 hx0 => ⟨x0, c 0, _, rfl, upd_same, C.x 0 (by decide), ni0, fun dx0 hd0 ne0 => ⟨rfl, ?_⟩⟩⟩
  obtain ⟨s0, k0, _⟩ := made_I (fl := "place") (v := .int (z % 201)) hx0 hd0 ne0
  refine ⟨x0, 0, rfl, by decide, k0, fun r0 G0 t0 e0 => ?_⟩
  have b0 := (s0.trans t0)
  refine ⟨_, rfl, fun x1 hx1 => ⟨x1, c 1, _, rfl, upd_same, C.x 1 (by decide), ni1, fun dx1 hd1 ne1 => ⟨rfl, ?_⟩⟩⟩
  obtain ⟨s1, k1, _⟩ := made_I (fl := "letter") (v := .str ⟨#[c0]⟩) hx1 hd1 ne1
  refine ⟨x1, 1, rfl, by decide, k1, fun r1 G1 t1 e1 => ?_⟩
  have e0 := (s1.trans t1) _ _ e0
  refine fun x2 hx2 => ?_
  obtain ⟨s2, k2⟩ := made_0 (C := c 2) hx2
  refine ⟨x2, 2, rfl, by decide, k2, fun r2 G2 t2 e2 => ?_⟩
  have u2 := s2.trans t2
  have e0 := u2 _ _ e0
  have e1 := u2 _ _ e1
  refine ⟨smallE (by show 3 ≤ _; decide), fun p1 hp1 => ?_⟩
  have v1 := Same.up hp1 (o := .lst [.ref r0, .ref r1, .ref r2])
  have e0 := v1 _ _ e0
  have e1 := v1 _ _ e1
  have e2 := v1 _ _ e2
  have f1 := upd_same (H := G2) (a := p1) (o := .lst [.ref r0, .ref r1, .ref r2])
  refine ⟨_, rfl, fun x3 hx3 => ?_⟩
  obtain ⟨s3, k3⟩ := made_0 (C := c 3) hx3
  refine ⟨x3, 3, rfl, by decide, k3, fun r3 G3 t3 e3 => ?_⟩
  have u3 := s3.trans t3
  have e0 := u3 _ _ e0
  have e1 := u3 _ _ e1
  have e2 := u3 _ _ e2
  have f1 := u3 _ _ f1
  refine fun x4 hx4 => ?_
  obtain ⟨s4, k4⟩ := made_0 (C := c 4) hx4
  refine ⟨x4, 4, rfl, by decide, k4, fun r4 G4 t4 e4 => ?_⟩
  have u4 := s4.trans t4
  have e0 := u4 _ _ e0
  have e1 := u4 _ _ e1
  have e2 := u4 _ _ e2
  have f1 := u4 _ _ f1
  have e3 := u4 _ _ e3
  refine fun x5 hx5 => ?_
  obtain ⟨s5, k5⟩ := made_0 (C := c 5) hx5
  refine ⟨x5, 5, rfl, by decide, k5, fun r5 G5 t5 e5 => ?_⟩
  have u5 := s5.trans t5
  have e0 := u5 _ _ e0
  have e1 := u5 _ _ e1
  have e2 := u5 _ _ e2
  have f1 := u5 _ _ f1
  have e3 := u5 _ _ e3
  have e4 := u5 _ _ e4
  refine ⟨smallE (by show 3 ≤ _; decide), fun p2 hp2 => ?_⟩
  have v2 := Same.up hp2 (o := .lst [.ref r3, .ref r4, .ref r5])
  have e0 := v2 _ _ e0
  have e1 := v2 _ _ e1
  have e2 := v2 _ _ e2
  have f1 := v2 _ _ f1
  have e3 := v2 _ _ e3
  have e4 := v2 _ _ e4
  have e5 := v2 _ _ e5
  refine ⟨p1, p2, _, _, rfl, rfl, f1, upd_same, smallE (by show 3 + 3 ≤ _; decide), fun p3 hp3 => ?_⟩
  have v3 := Same.up hp3 (o := .lst ([.ref r0, .ref r1, .ref r2] ++ [.ref r3, .ref r4, .ref r5]))
  have e0 := v3 _ _ e0
  have e1 := v3 _ _ e1
  have e2 := v3 _ _ e2
  have e3 := v3 _ _ e3
  have e4 := v3 _ _ e4
  have e5 := v3 _ _ e5
  have f1 := upd_same (H := upd G5 p2 (.lst [.ref r3, .ref r4, .ref r5])) (a := p3) (o := .lst [.ref r0, .ref r1, .ref r2, .ref r3, .ref r4, .ref r5])
  refine ⟨_, rfl, fun x6 hx6 => ?_⟩
  obtain ⟨s6, k6⟩ := made_0 (C := c 6) hx6
  refine ⟨x6, 6, rfl, by decide, k6, fun r6 G6 t6 e6 => ?_⟩
  have u6 := s6.trans t6
  have e0 := u6 _ _ e0
  have e1 := u6 _ _ e1
  have e2 := u6 _ _ e2
  have e3 := u6 _ _ e3
  have e4 := u6 _ _ e4
  have e5 := u6 _ _ e5
  have f1 := u6 _ _ f1
  refine fun x7 hx7 => ?_
  obtain ⟨s7, k7⟩ := made_0 (C := c 7) hx7
  refine ⟨x7, 7, rfl, by decide, k7, fun r7 G7 t7 e7 => ?_⟩
  have u7 := s7.trans t7
  have e0 := u7 _ _ e0
  have e1 := u7 _ _ e1
  have e2 := u7 _ _ e2
  have e3 := u7 _ _ e3
  have e4 := u7 _ _ e4
  have e5 := u7 _ _ e5
  have f1 := u7 _ _ f1
  have e6 := u7 _ _ e6
  refine fun x8 hx8 => ?_
  obtain ⟨s8, k8⟩ := made_0 (C := c 8) hx8
  refine ⟨x8, 8, rfl, by decide, k8, fun r8 G8 t8 e8 => ?_⟩
  have u8 := s8.trans t8
  have e0 := u8 _ _ e0
  have e1 := u8 _ _ e1
  have e2 := u8 _ _ e2
  have e3 := u8 _ _ e3
  have e4 := u8 _ _ e4
  have e5 := u8 _ _ e5
  have f1 := u8 _ _ f1
  have e6 := u8 _ _ e6
  have e7 := u8 _ _ e7
  refine ⟨smallE (by show 3 ≤ _; decide), fun p4 hp4 => ?_⟩
  have v4 := Same.up hp4 (o := .lst [.ref r6, .ref r7, .ref r8])
  have e0 := v4 _ _ e0
  have e1 := v4 _ _ e1
  have e2 := v4 _ _ e2
  have e3 := v4 _ _ e3
  have e4 := v4 _ _ e4
  have e5 := v4 _ _ e5
  have f1 := v4 _ _ f1
  have e6 := v4 _ _ e6
  have e7 := v4 _ _ e7
  have e8 := v4 _ _ e8
  refine ⟨p3, p4, _, _, rfl, rfl, f1, upd_same, smallE (by show 6 + 3 ≤ _; decide), fun p5 hp5 => ?_⟩
  have v5 := Same.up hp5 (o := .lst ([.ref r0, .ref r1, .ref r2, .ref r3, .ref r4, .ref r5] ++ [.ref r6, .ref r7, .ref r8]))
  have e0 := v5 _ _ e0
  have e1 := v5 _ _ e1
  have e2 := v5 _ _ e2
  have e3 := v5 _ _ e3
  have e4 := v5 _ _ e4
  have e5 := v5 _ _ e5
  have e6 := v5 _ _ e6
  have e7 := v5 _ _ e7
  have e8 := v5 _ _ e8
  have f1 := upd_same (H := upd G8 p4 (.lst [.ref r6, .ref r7, .ref r8])) (a := p5) (o := .lst [.ref r0, .ref r1, .ref r2, .ref r3, .ref r4, .ref r5, .ref r6, .ref r7, .ref r8])
  refine ⟨_, rfl, .inl ⟨rfl, _, SqL.of f1⟩, fun x9 hx9 => ?_⟩
  obtain ⟨s9, k9⟩ := made_0 (C := c 9) hx9
  refine ⟨x9, 9, rfl, by decide, k9, fun r9 G9 t9 e9 => ?_⟩
  have u9 := s9.trans t9
  have e0 := u9 _ _ e0
  have e1 := u9 _ _ e1
  have e2 := u9 _ _ e2
  have e3 := u9 _ _ e3
  have e4 := u9 _ _ e4
  have e5 := u9 _ _ e5
  have e6 := u9 _ _ e6
  have e7 := u9 _ _ e7
  have e8 := u9 _ _ e8
  have f1 := u9 _ _ f1
  refine ⟨p5, _, _, rfl, rfl, f1, smallE (by show 9 < _; decide), ?_⟩
  have ne9 : ∀ b k, G9 b = some (.lst ((sorts k).map V.bl)) → b ≠ p5 := fun b k h => ne_of h f1 fun z => Bool.false_ne_true (congrArg (fun o => match o with | HO.lst (V.ref _ :: _) => true | _ => false) z)
  have hR : ∀ i : Nat, i < 10 → ∃ r, atI ([.ref r0, .ref r1, .ref r2, .ref r3, .ref r4, .ref r5, .ref r6, .ref r7, .ref r8] ++ [.ref r9]) (0 + (i : Int)) = some (V.ref r) ∧ upd G9 p5 (.lst ([.ref r0, .ref r1, .ref r2, .ref r3, .ref r4, .ref r5, .ref r6, .ref r7, .ref r8] ++ [.ref r9])) r = some (.lst ((sorts i).map V.bl)) := by
    intro i hi
    rw [Int.zero_add]
    rcases i with _ | _ | _ | _ | _ | _ | _ | _ | _ | _ | i
    · exact ⟨r0, atI_nat (j := 0) rfl, by rw [upd_ne (ne9 _ _ e0)]; exact e0⟩
    · exact ⟨r1, atI_nat (j := 1) rfl, by rw [upd_ne (ne9 _ _ e1)]; exact e1⟩
    · exact ⟨r2, atI_nat (j := 2) rfl, by rw [upd_ne (ne9 _ _ e2)]; exact e2⟩
    · exact ⟨r3, atI_nat (j := 3) rfl, by rw [upd_ne (ne9 _ _ e3)]; exact e3⟩
    · exact ⟨r4, atI_nat (j := 4) rfl, by rw [upd_ne (ne9 _ _ e4)]; exact e4⟩
    · exact ⟨r5, atI_nat (j := 5) rfl, by rw [upd_ne (ne9 _ _ e5)]; exact e5⟩
    · exact ⟨r6, atI_nat (j := 6) rfl, by rw [upd_ne (ne9 _ _ e6)]; exact e6⟩
    · exact ⟨r7, atI_nat (j := 7) rfl, by rw [upd_ne (ne9 _ _ e7)]; exact e7⟩
    · exact ⟨r8, atI_nat (j := 8) rfl, by rw [upd_ne (ne9 _ _ e8)]; exact e8⟩
    · exact ⟨r9, atI_nat (j := 9) rfl, by rw [upd_ne (ne9 _ _ e9)]; exact e9⟩
    · omega
  have f9 : upd G9 p5 (.lst ([.ref r0, .ref r1, .ref r2, .ref r3, .ref r4, .ref r5, .ref r6, .ref r7, .ref r8] ++ [.ref r9])) p5 = some (.lst ([.ref r0, .ref r1, .ref r2, .ref r3, .ref r4, .ref r5, .ref r6, .ref r7, .ref r8] ++ [.ref r9])) := upd_same
  generalize upd G9 p5 (.lst ([.ref r0, .ref r1, .ref r2, .ref r3, .ref r4, .ref r5, .ref r6, .ref r7, .ref r8] ++ [.ref r9])) = G at hR f9 ⊢
  generalize ([.ref r0, .ref r1, .ref r2, .ref r3, .ref r4, .ref r5, .ref r6, .ref r7, .ref r8] ++ [.ref r9] : List V) = R at hR f9
  refine ⟨10, rfl, by decide, by decide, ?_⟩
  refine comp_r (out := fun i => List.replicate i (.bl true)) rfl (fun i hi => ?_) ?_ ?_
  · have hi : i < 10 := hi
    rw [List.length_replicate]; exact small (by omega)
  · intro i Hh D Y Z hi hD hH sm hY hZ
    have hi : i < 10 := hi
    obtain ⟨r, hr, er⟩ := hR i hi
    refine ⟨⟨rfl, rfl⟩, ?_⟩
    refine ⟨_, rfl, _, rfl, p5, R, _, _, rfl, rfl, SqL.of (sm _ _ f9), hr, ?_⟩
    refine ⟨11, rfl, by decide, by decide, ?_⟩
    refine comp_r (out := fun j => (List.range j).map fun j => V.bl (decide (j = i ∨ j = 10))) rfl (fun j hj => ?_) ?_ ?_
    · have hj : j < 11 := hj
      rw [List.length_map, List.length_range]; exact small (by omega)
    · intro j Hj D2 Y2 Z2 hj hD2 hH2 sm2 hY2 hZ2
      refine ⟨⟨rfl, rfl⟩, ?_⟩
      refine ⟨_, rfl, _, rfl, smallE (by show 2 ≤ _; decide), fun p hp => ?_⟩
      refine ⟨p, _, rfl, .inr (SqT.of upd_same), rfl, rfl, ?_⟩
      refine hY2 _ _ (Same.up hp _ _ hH2) (sm2.to hp) ?_
      show List.map _ (List.range (j + 1)) = _
      rw [List.range_succ, List.map_append, if_neg Bool.false_ne_true, sorts_in i j hi]
      rfl
    intro D2 H2' hD2 sm2 hH2
    refine ⟨r, D2, sorts i, sorts i, rfl, rfl, .inr ⟨SqL.of (sm2 _ _ (sm _ _ er)), SqL.of (by rw [hH2]; unfold sorts; rw [List.map_map]; rfl)⟩, ?_⟩
    refine hY _ _ (sm2 _ _ hH) (sm.trans sm2) ?_
    show List.replicate (i + 1) (V.bl true) = List.replicate i (V.bl true) ++ [V.bl (decide (sorts i = sorts i))]
    rw [decide_eq_true rfl, List.replicate_succ']
  intro D Hd hD smD hHd
  refine ⟨D, List.replicate 10 true, rfl, SqL.of (by rw [hHd]; rfl), _, rfl, iteF ?_⟩
  refine ⟨_, rfl, fun xa hxa => ⟨xa, c 0, _, rfl, upd_same, C.x 0 (by decide), ni0, fun dxa hda nea => ⟨rfl, ?_⟩⟩⟩
  obtain ⟨sa, ka, da⟩ := made_I (fl := "place") (v := .int (z % 201)) hxa hda nea
  refine ⟨xa, c 0, dxa, true, _, _, rfl, upd_same, da, C.x 0 (by decide), ni0, List.lookup_cons_self, ?_⟩
  refine ⟨_, rfl, rfl, _, rfl, ?_⟩
  rw [decide_eq_true rfl]
  refine iteT ⟨_, rfl, fun xb hxb => ⟨xb, c 1, _, rfl, upd_same, C.x 1 (by decide), ni1, fun dxb hdb neb => ⟨rfl, ?_⟩⟩⟩
  obtain ⟨sb, kb, db⟩ := made_I (fl := "letter") (v := .str ⟨#[c0]⟩) hxb hdb neb
  refine ⟨xb, c 1, dxb, true, _, _, rfl, upd_same, db, C.x 1 (by decide), ni1, List.lookup_cons_self, ?_⟩
  refine ⟨_, rfl, rfl, ?_⟩
  rw [decide_eq_true rfl]
  exact q _
end
end Law
set_option Elab.async false
set_option linter.all false
set_option maxRecDepth 100000
set_option maxHeartbeats 4000000
namespace Law
open PySem L2 Fs
theorem all_mk {l : PySem.W.OpenLaw} {w : World} {K : PySem.W.Frag} {h : Heap} {mg : Str → Option Value} {fa f1 f2 f3 fip fil CNoSaying CStrange CNoForm CNoLetters CNoWish CTooMany CNoFilling CNoNumber CNoLine CNothingDone CFillError : Addr} (X : K.In h) (G : h.Ns mainGlobals mg) (hfa : mg "law" = some (.ref fa))
    {cd_NoSaying cd_Strange cd_NoForm cd_NoLetters cd_NoWish cd_TooMany cd_NoFilling cd_NoNumber cd_NoLine cd_NothingDone cd_FillError : ClassData}
    {od1 an1 od2 an2 od3 an3 odip anip odil anil : Option Addr} {sl1 sl2 sl3 slip slil : Array (Option Value)} {oc1 kV1 dc1 pm1 cd1 ct1 oc2 kV2 dc2 pm2 cd2 ct2 oc3 kV3 dc3 pm3 cd3 ct3 ocip kVip dcip pmip cdip ctip ocil kVil dcil pmil cdil ctil : Value}
    (a1 : PySem.W.nsIn K mainGlobals "_law_mixed" = some (some (.ref f1)))
    (a2 : PySem.W.nsIn K mainGlobals "_law_sorts" = some (some (.ref f2)))
    (a3 : PySem.W.nsIn K mainGlobals "law" = some (some (.ref f3)))
    (l1 : K.lookup f1 = some ⟨oc1, od1, .func (PySem.W.fnOf "_law_mixed" "_law_mixed" (defArgs s_law_mixed) (defBody s_law_mixed) (defScope s_law_mixed) .none kV1 dc1 pm1 an1 cd1 ct1), sl1⟩)
    (c1 : PySem.W.codeIn K cd1 "_law_mixed" = true)
    (k1 : PySem.W.keepIn K (.ref f1) = true)
    (l2 : K.lookup f2 = some ⟨oc2, od2, .func (PySem.W.fnOf "_law_sorts" "_law_sorts" (defArgs s_law_sorts) (defBody s_law_sorts) (defScope s_law_sorts) .none kV2 dc2 pm2 an2 cd2 ct2), sl2⟩)
    (c2 : PySem.W.codeIn K cd2 "_law_sorts" = true)
    (k2 : PySem.W.keepIn K (.ref f2) = true)
    (l3 : K.lookup f3 = some ⟨oc3, od3, .func (PySem.W.fnOf "law" "law" (defArgs s_law) (defBody s_law) (defScope s_law) .none kV3 dc3 pm3 an3 cd3 ct3), sl3⟩)
    (c3 : PySem.W.codeIn K cd3 "law" = true)
    (k3 : PySem.W.keepIn K (.ref f3) = true)
    (nNoSaying : PySem.W.nsIn K mainGlobals "NoSaying" = some (some (.ref CNoSaying)))
    (vclNoSaying : PySem.W.clsIn K CNoSaying = some cd_NoSaying)
    (vtyNoSaying : PySem.W.typeIn K (.ref CNoSaying) = some (.type "type"))
    (nStrange : PySem.W.nsIn K mainGlobals "Strange" = some (some (.ref CStrange)))
    (vclStrange : PySem.W.clsIn K CStrange = some cd_Strange)
    (vtyStrange : PySem.W.typeIn K (.ref CStrange) = some (.type "type"))
    (nNoForm : PySem.W.nsIn K mainGlobals "NoForm" = some (some (.ref CNoForm)))
    (vclNoForm : PySem.W.clsIn K CNoForm = some cd_NoForm)
    (vtyNoForm : PySem.W.typeIn K (.ref CNoForm) = some (.type "type"))
    (nNoLetters : PySem.W.nsIn K mainGlobals "NoLetters" = some (some (.ref CNoLetters)))
    (vclNoLetters : PySem.W.clsIn K CNoLetters = some cd_NoLetters)
    (vtyNoLetters : PySem.W.typeIn K (.ref CNoLetters) = some (.type "type"))
    (nNoWish : PySem.W.nsIn K mainGlobals "NoWish" = some (some (.ref CNoWish)))
    (vclNoWish : PySem.W.clsIn K CNoWish = some cd_NoWish)
    (vtyNoWish : PySem.W.typeIn K (.ref CNoWish) = some (.type "type"))
    (nTooMany : PySem.W.nsIn K mainGlobals "TooMany" = some (some (.ref CTooMany)))
    (vclTooMany : PySem.W.clsIn K CTooMany = some cd_TooMany)
    (vtyTooMany : PySem.W.typeIn K (.ref CTooMany) = some (.type "type"))
    (nNoFilling : PySem.W.nsIn K mainGlobals "NoFilling" = some (some (.ref CNoFilling)))
    (vclNoFilling : PySem.W.clsIn K CNoFilling = some cd_NoFilling)
    (vtyNoFilling : PySem.W.typeIn K (.ref CNoFilling) = some (.type "type"))
    (nNoNumber : PySem.W.nsIn K mainGlobals "NoNumber" = some (some (.ref CNoNumber)))
    (vclNoNumber : PySem.W.clsIn K CNoNumber = some cd_NoNumber)
    (vtyNoNumber : PySem.W.typeIn K (.ref CNoNumber) = some (.type "type"))
    (nNoLine : PySem.W.nsIn K mainGlobals "NoLine" = some (some (.ref CNoLine)))
    (vclNoLine : PySem.W.clsIn K CNoLine = some cd_NoLine)
    (vtyNoLine : PySem.W.typeIn K (.ref CNoLine) = some (.type "type"))
    (nNothingDone : PySem.W.nsIn K mainGlobals "NothingDone" = some (some (.ref CNothingDone)))
    (vclNothingDone : PySem.W.clsIn K CNothingDone = some cd_NothingDone)
    (vtyNothingDone : PySem.W.typeIn K (.ref CNothingDone) = some (.type "type"))
    (nFillError : PySem.W.nsIn K mainGlobals "FillError" = some (some (.ref CFillError)))
    (vclFillError : PySem.W.clsIn K CFillError = some cd_FillError)
    (vtyFillError : PySem.W.typeIn K (.ref CFillError) = some (.type "type"))
    (mbNoSaying : PySem.W.mroIn K CNoSaying (.type "BaseException") = some true)
    (moNoSaying : PySem.W.mroIn K CNoSaying (.type "object") = some true)
    (gaNoSaying : PySem.W.findIn K (.ref CNoSaying) "__getattribute__" = some (some (.builtin "BaseException.__getattribute__")))
    (gnNoSaying : PySem.W.findIn K (.ref CNoSaying) "__getattr__" = some none)
    (saNoSaying : PySem.W.findIn K (.ref CNoSaying) "__setattr__" = some (some (.builtin "object.__setattr__")))
    (caNoSaying : PySem.W.findIn K (.ref CNoSaying) "__class__" = some (some (.builtin "object.__class__")))
    (kpNoSaying : PySem.W.keepIn K (.ref CNoSaying) = true)
    (mbStrange : PySem.W.mroIn K CStrange (.type "BaseException") = some true)
    (moStrange : PySem.W.mroIn K CStrange (.type "object") = some true)
    (gaStrange : PySem.W.findIn K (.ref CStrange) "__getattribute__" = some (some (.builtin "BaseException.__getattribute__")))
    (gnStrange : PySem.W.findIn K (.ref CStrange) "__getattr__" = some none)
    (saStrange : PySem.W.findIn K (.ref CStrange) "__setattr__" = some (some (.builtin "object.__setattr__")))
    (caStrange : PySem.W.findIn K (.ref CStrange) "__class__" = some (some (.builtin "object.__class__")))
    (kpStrange : PySem.W.keepIn K (.ref CStrange) = true)
    (mbNoForm : PySem.W.mroIn K CNoForm (.type "BaseException") = some true)
    (moNoForm : PySem.W.mroIn K CNoForm (.type "object") = some true)
    (gaNoForm : PySem.W.findIn K (.ref CNoForm) "__getattribute__" = some (some (.builtin "BaseException.__getattribute__")))
    (gnNoForm : PySem.W.findIn K (.ref CNoForm) "__getattr__" = some none)
    (saNoForm : PySem.W.findIn K (.ref CNoForm) "__setattr__" = some (some (.builtin "object.__setattr__")))
    (caNoForm : PySem.W.findIn K (.ref CNoForm) "__class__" = some (some (.builtin "object.__class__")))
    (kpNoForm : PySem.W.keepIn K (.ref CNoForm) = true)
    (mbNoLetters : PySem.W.mroIn K CNoLetters (.type "BaseException") = some true)
    (moNoLetters : PySem.W.mroIn K CNoLetters (.type "object") = some true)
    (gaNoLetters : PySem.W.findIn K (.ref CNoLetters) "__getattribute__" = some (some (.builtin "BaseException.__getattribute__")))
    (gnNoLetters : PySem.W.findIn K (.ref CNoLetters) "__getattr__" = some none)
    (saNoLetters : PySem.W.findIn K (.ref CNoLetters) "__setattr__" = some (some (.builtin "object.__setattr__")))
    (caNoLetters : PySem.W.findIn K (.ref CNoLetters) "__class__" = some (some (.builtin "object.__class__")))
    (kpNoLetters : PySem.W.keepIn K (.ref CNoLetters) = true)
    (mbNoWish : PySem.W.mroIn K CNoWish (.type "BaseException") = some true)
    (moNoWish : PySem.W.mroIn K CNoWish (.type "object") = some true)
    (gaNoWish : PySem.W.findIn K (.ref CNoWish) "__getattribute__" = some (some (.builtin "BaseException.__getattribute__")))
    (gnNoWish : PySem.W.findIn K (.ref CNoWish) "__getattr__" = some none)
    (saNoWish : PySem.W.findIn K (.ref CNoWish) "__setattr__" = some (some (.builtin "object.__setattr__")))
    (caNoWish : PySem.W.findIn K (.ref CNoWish) "__class__" = some (some (.builtin "object.__class__")))
    (kpNoWish : PySem.W.keepIn K (.ref CNoWish) = true)
    (mbTooMany : PySem.W.mroIn K CTooMany (.type "BaseException") = some true)
    (moTooMany : PySem.W.mroIn K CTooMany (.type "object") = some true)
    (gaTooMany : PySem.W.findIn K (.ref CTooMany) "__getattribute__" = some (some (.builtin "BaseException.__getattribute__")))
    (gnTooMany : PySem.W.findIn K (.ref CTooMany) "__getattr__" = some none)
    (saTooMany : PySem.W.findIn K (.ref CTooMany) "__setattr__" = some (some (.builtin "object.__setattr__")))
    (caTooMany : PySem.W.findIn K (.ref CTooMany) "__class__" = some (some (.builtin "object.__class__")))
    (kpTooMany : PySem.W.keepIn K (.ref CTooMany) = true)
    (mbNoFilling : PySem.W.mroIn K CNoFilling (.type "BaseException") = some true)
    (moNoFilling : PySem.W.mroIn K CNoFilling (.type "object") = some true)
    (gaNoFilling : PySem.W.findIn K (.ref CNoFilling) "__getattribute__" = some (some (.builtin "BaseException.__getattribute__")))
    (gnNoFilling : PySem.W.findIn K (.ref CNoFilling) "__getattr__" = some none)
    (saNoFilling : PySem.W.findIn K (.ref CNoFilling) "__setattr__" = some (some (.builtin "object.__setattr__")))
    (caNoFilling : PySem.W.findIn K (.ref CNoFilling) "__class__" = some (some (.builtin "object.__class__")))
    (kpNoFilling : PySem.W.keepIn K (.ref CNoFilling) = true)
    (mbNoNumber : PySem.W.mroIn K CNoNumber (.type "BaseException") = some true)
    (moNoNumber : PySem.W.mroIn K CNoNumber (.type "object") = some true)
    (gaNoNumber : PySem.W.findIn K (.ref CNoNumber) "__getattribute__" = some (some (.builtin "BaseException.__getattribute__")))
    (gnNoNumber : PySem.W.findIn K (.ref CNoNumber) "__getattr__" = some none)
    (saNoNumber : PySem.W.findIn K (.ref CNoNumber) "__setattr__" = some (some (.builtin "object.__setattr__")))
    (caNoNumber : PySem.W.findIn K (.ref CNoNumber) "__class__" = some (some (.builtin "object.__class__")))
    (kpNoNumber : PySem.W.keepIn K (.ref CNoNumber) = true)
    (mbNoLine : PySem.W.mroIn K CNoLine (.type "BaseException") = some true)
    (moNoLine : PySem.W.mroIn K CNoLine (.type "object") = some true)
    (gaNoLine : PySem.W.findIn K (.ref CNoLine) "__getattribute__" = some (some (.builtin "BaseException.__getattribute__")))
    (gnNoLine : PySem.W.findIn K (.ref CNoLine) "__getattr__" = some none)
    (saNoLine : PySem.W.findIn K (.ref CNoLine) "__setattr__" = some (some (.builtin "object.__setattr__")))
    (caNoLine : PySem.W.findIn K (.ref CNoLine) "__class__" = some (some (.builtin "object.__class__")))
    (kpNoLine : PySem.W.keepIn K (.ref CNoLine) = true)
    (mbNothingDone : PySem.W.mroIn K CNothingDone (.type "BaseException") = some true)
    (moNothingDone : PySem.W.mroIn K CNothingDone (.type "object") = some true)
    (gaNothingDone : PySem.W.findIn K (.ref CNothingDone) "__getattribute__" = some (some (.builtin "BaseException.__getattribute__")))
    (gnNothingDone : PySem.W.findIn K (.ref CNothingDone) "__getattr__" = some none)
    (saNothingDone : PySem.W.findIn K (.ref CNothingDone) "__setattr__" = some (some (.builtin "object.__setattr__")))
    (caNothingDone : PySem.W.findIn K (.ref CNothingDone) "__class__" = some (some (.builtin "object.__class__")))
    (kpNothingDone : PySem.W.keepIn K (.ref CNothingDone) = true)
    (hn : PySem.W.specialIn K (.builtin "object.__class__") "__get__" = some (some (.builtin "getset_descriptor.__get__")))
    (htk : PySem.W.takesIn K (.builtin "object.__class__") = some true)
    (inp : PySem.W.findIn K (.ref CNoSaying) "__init__" = some (some (.ref fip)))
    (inl : PySem.W.findIn K (.ref CStrange) "__init__" = some (some (.ref fil)))
    (nap : PySem.W.findIn K (.ref CNoSaying) "place" = some none)
    (nal : PySem.W.findIn K (.ref CStrange) "letter" = some none)
    (lip : K.lookup fip = some ⟨ocip, odip, .func (PySem.W.fnOf "__init__" "NoSaying.__init__" (defArgs s_NoSaying_init) (defBody s_NoSaying_init) (defScope s_NoSaying_init) .none kVip dcip pmip anip cdip ctip), slip⟩)
    (cip : PySem.W.codeIn K cdip "NoSaying.__init__" = true)
    (kip : PySem.W.keepIn K (.ref fip) = true)
    (ifip : PySem.W.isFn K (.ref fip) = true)
    (lil : K.lookup fil = some ⟨ocil, odil, .func (PySem.W.fnOf "__init__" "Strange.__init__" (defArgs s_Strange_init) (defBody s_Strange_init) (defScope s_Strange_init) .none kVil dcil pmil anil cdil ctil), slil⟩)
    (cil : PySem.W.codeIn K cdil "Strange.__init__" = true)
    (kil : PySem.W.keepIn K (.ref fil) = true)
    (ifil : PySem.W.isFn K (.ref fil) = true)
    (mrNoSaying : cd_NoSaying.mro = .ref CNoSaying :: .ref CFillError :: mV)
    (hdNoSaying : cd_NoSaying.hasDict = true)
    (xcNoSaying : xcIn K CNoSaying (some (.ref fip)) = true)
    (mrStrange : cd_Strange.mro = .ref CStrange :: .ref CFillError :: mV)
    (hdStrange : cd_Strange.hasDict = true)
    (xcStrange : xcIn K CStrange (some (.ref fil)) = true)
    (mrNoForm : cd_NoForm.mro = .ref CNoForm :: .ref CFillError :: mV)
    (hdNoForm : cd_NoForm.hasDict = true)
    (xcNoForm : xcIn K CNoForm none = true)
    (mrNoLetters : cd_NoLetters.mro = .ref CNoLetters :: .ref CFillError :: mV)
    (hdNoLetters : cd_NoLetters.hasDict = true)
    (xcNoLetters : xcIn K CNoLetters none = true)
    (mrNoWish : cd_NoWish.mro = .ref CNoWish :: .ref CFillError :: mV)
    (hdNoWish : cd_NoWish.hasDict = true)
    (xcNoWish : xcIn K CNoWish none = true)
    (mrTooMany : cd_TooMany.mro = .ref CTooMany :: .ref CFillError :: mV)
    (hdTooMany : cd_TooMany.hasDict = true)
    (xcTooMany : xcIn K CTooMany none = true)
    (mrNoFilling : cd_NoFilling.mro = .ref CNoFilling :: .ref CFillError :: mV)
    (hdNoFilling : cd_NoFilling.hasDict = true)
    (xcNoFilling : xcIn K CNoFilling none = true)
    (mrNoNumber : cd_NoNumber.mro = .ref CNoNumber :: .ref CFillError :: mV)
    (hdNoNumber : cd_NoNumber.hasDict = true)
    (xcNoNumber : xcIn K CNoNumber none = true)
    (mrNoLine : cd_NoLine.mro = .ref CNoLine :: .ref CFillError :: mV)
    (hdNoLine : cd_NoLine.hasDict = true)
    (xcNoLine : xcIn K CNoLine none = true)
    (mrNothingDone : cd_NothingDone.mro = .ref CNothingDone :: .ref CFillError :: mV)
    (hdNothingDone : cd_NothingDone.hasDict = true)
    (xcNothingDone : xcIn K CNothingDone none = true)
    (nd : [CNoSaying, CStrange, CNoForm, CNoLetters, CNoWish, CTooMany, CNoFilling, CNoNumber, CNoLine, CNothingDone, CFillError].Nodup)
    (z1 : PySem.W.nsIn K mainGlobals "len" = some none)
    (z2 : PySem.W.nsIn K mainGlobals "list" = some none)
    (z3 : PySem.W.nsIn K mainGlobals "sorted" = some none)
    (z4 : PySem.W.nsIn K mainGlobals "set" = some none)
    (z5 : PySem.W.nsIn K mainGlobals "tuple" = some none)
    (z6 : PySem.W.nsIn K mainGlobals "dict" = some none)
    (z7 : PySem.W.nsIn K mainGlobals "zip" = some none)
    (z8 : PySem.W.nsIn K mainGlobals "reversed" = some none)
    (z9 : PySem.W.nsIn K mainGlobals "range" = some none)
    (z10 : PySem.W.nsIn K mainGlobals "enumerate" = some none)
    (z11 : PySem.W.nsIn K mainGlobals "all" = some none)
    (z12 : PySem.W.nsIn K mainGlobals "min" = some none)
    (z13 : PySem.W.nsIn K mainGlobals "max" = some none)
    (z14 : PySem.W.nsIn K mainGlobals "isinstance" = some none)
    (z15 : PySem.W.nsIn K mainGlobals "str" = some none)
    (z16 : PySem.W.nsIn K mainGlobals "bool" = some none)
    (z17 : PySem.W.nsIn K mainGlobals "ValueError" = some none)
    : ∃ fd : FuncData, (∀ (s : Shared) (v : Value), BindsTo s fd ⟨[v], []⟩ [("_law_script", v)]) ∧ ∀ base : Heap, K.In base → base.Ns mainGlobals mg → FnOk l.prog w K mg base CX0 3 fa fd ["_law_script"] (spLaw K) := by
  have e := hfa.symm.trans (PySem.W.mg_of X G a3)
  cases e
  have T : Txt mg := ⟨PySem.W.mg_none_of X G z1, PySem.W.mg_none_of X G z2, PySem.W.mg_none_of X G z3, PySem.W.mg_none_of X G z4, PySem.W.mg_none_of X G z5, PySem.W.mg_none_of X G z6, PySem.W.mg_none_of X G z7, PySem.W.mg_none_of X G z8, PySem.W.mg_none_of X G z9, PySem.W.mg_none_of X G z10, PySem.W.mg_none_of X G z11, PySem.W.mg_none_of X G z12, PySem.W.mg_none_of X G z13, PySem.W.mg_none_of X G z14, PySem.W.mg_none_of X G z15, PySem.W.mg_none_of X G z16⟩
  have F1 := fun_mk (st := s_law_mixed) l1 c1 k1
  have b1 := F1.binds (ps := ["_law_script", "_law_k"]) fun _ _ _ _ _ _ us hl => match us, hl with | [_, _], _ => rfl
  have F2 := fun_mk (st := s_law_sorts) l2 c2 k2
  have b2 := F2.binds (ps := ["_law_e"]) fun _ _ _ _ _ _ us hl => match us, hl with | [_], _ => rfl
  have F3 := fun_mk (st := s_law) l3 c3 k3
  have Fip := fun_mk (st := s_NoSaying_init) lip cip kip
  have bip := Fip.binds (ps := ["self", "place"]) fun _ _ _ _ _ _ us hl => match us, hl with | [_, _], _ => rfl
  have Fil := fun_mk (st := s_Strange_init) lil cil kil
  have bil := Fil.binds (ps := ["self", "letter"]) fun _ _ _ _ _ _ us hl => match us, hl with | [_, _], _ => rfl
  have m1 := PySem.W.mg_of X G a1
  have m2 := PySem.W.mg_of X G a2
  have m3 := PySem.W.mg_of X G a3
  let cs : List Addr := [CNoSaying, CStrange, CNoForm, CNoLetters, CNoWish, CTooMany, CNoFilling, CNoNumber, CNoLine, CNothingDone, CFillError]
  have C : ECl K mg fun k => cs.getD k 0 := by
    refine ⟨PySem.W.mg_of X G nNoSaying, PySem.W.mg_of X G nStrange, PySem.W.mg_of X G nNoForm, PySem.W.mg_of X G nNoLetters, PySem.W.mg_of X G nNoWish, PySem.W.mg_of X G nTooMany, PySem.W.mg_of X G nNoFilling, PySem.W.mg_of X G nNoNumber, PySem.W.mg_of X G nNoLine, PySem.W.mg_of X G nNothingDone, PySem.W.mg_of X G nFillError, PySem.W.mg_none_of X G z17, fun k hk => ?_, fun k hk => ?_, fun k hk => ?_, fun j k hj hk e => ?_⟩
    · rcases k with _ | _ | _ | _ | _ | _ | _ | _ | _ | _ | k
      · exact ⟨⟨_, vclNoSaying, by rw [mrNoSaying]; rfl, hdNoSaying⟩, mbNoSaying, moNoSaying, gaNoSaying, gnNoSaying, saNoSaying, caNoSaying, hn, htk, kpNoSaying⟩
      · exact ⟨⟨_, vclStrange, by rw [mrStrange]; rfl, hdStrange⟩, mbStrange, moStrange, gaStrange, gnStrange, saStrange, caStrange, hn, htk, kpStrange⟩
      · exact ⟨⟨_, vclNoForm, by rw [mrNoForm]; rfl, hdNoForm⟩, mbNoForm, moNoForm, gaNoForm, gnNoForm, saNoForm, caNoForm, hn, htk, kpNoForm⟩
      · exact ⟨⟨_, vclNoLetters, by rw [mrNoLetters]; rfl, hdNoLetters⟩, mbNoLetters, moNoLetters, gaNoLetters, gnNoLetters, saNoLetters, caNoLetters, hn, htk, kpNoLetters⟩
      · exact ⟨⟨_, vclNoWish, by rw [mrNoWish]; rfl, hdNoWish⟩, mbNoWish, moNoWish, gaNoWish, gnNoWish, saNoWish, caNoWish, hn, htk, kpNoWish⟩
      · exact ⟨⟨_, vclTooMany, by rw [mrTooMany]; rfl, hdTooMany⟩, mbTooMany, moTooMany, gaTooMany, gnTooMany, saTooMany, caTooMany, hn, htk, kpTooMany⟩
      · exact ⟨⟨_, vclNoFilling, by rw [mrNoFilling]; rfl, hdNoFilling⟩, mbNoFilling, moNoFilling, gaNoFilling, gnNoFilling, saNoFilling, caNoFilling, hn, htk, kpNoFilling⟩
      · exact ⟨⟨_, vclNoNumber, by rw [mrNoNumber]; rfl, hdNoNumber⟩, mbNoNumber, moNoNumber, gaNoNumber, gnNoNumber, saNoNumber, caNoNumber, hn, htk, kpNoNumber⟩
      · exact ⟨⟨_, vclNoLine, by rw [mrNoLine]; rfl, hdNoLine⟩, mbNoLine, moNoLine, gaNoLine, gnNoLine, saNoLine, caNoLine, hn, htk, kpNoLine⟩
      · exact ⟨⟨_, vclNothingDone, by rw [mrNothingDone]; rfl, hdNothingDone⟩, mbNothingDone, moNothingDone, gaNothingDone, gnNothingDone, saNothingDone, caNothingDone, hn, htk, kpNothingDone⟩
      · omega
    · rcases k with _ | _ | _ | _ | _ | _ | _ | _ | _ | _ | k
      · exact ⟨_, vclNoSaying, mrNoSaying⟩
      · exact ⟨_, vclStrange, mrStrange⟩
      · exact ⟨_, vclNoForm, mrNoForm⟩
      · exact ⟨_, vclNoLetters, mrNoLetters⟩
      · exact ⟨_, vclNoWish, mrNoWish⟩
      · exact ⟨_, vclTooMany, mrTooMany⟩
      · exact ⟨_, vclNoFilling, mrNoFilling⟩
      · exact ⟨_, vclNoNumber, mrNoNumber⟩
      · exact ⟨_, vclNoLine, mrNoLine⟩
      · exact ⟨_, vclNothingDone, mrNothingDone⟩
      · omega
    · rcases k with _ | _ | _ | _ | _ | _ | _ | _ | _ | _ | _ | k
      · exact ⟨by show (PySem.W.clsIn K CNoSaying).isSome = true; rw [vclNoSaying]; rfl, vtyNoSaying⟩
      · exact ⟨by show (PySem.W.clsIn K CStrange).isSome = true; rw [vclStrange]; rfl, vtyStrange⟩
      · exact ⟨by show (PySem.W.clsIn K CNoForm).isSome = true; rw [vclNoForm]; rfl, vtyNoForm⟩
      · exact ⟨by show (PySem.W.clsIn K CNoLetters).isSome = true; rw [vclNoLetters]; rfl, vtyNoLetters⟩
      · exact ⟨by show (PySem.W.clsIn K CNoWish).isSome = true; rw [vclNoWish]; rfl, vtyNoWish⟩
      · exact ⟨by show (PySem.W.clsIn K CTooMany).isSome = true; rw [vclTooMany]; rfl, vtyTooMany⟩
      · exact ⟨by show (PySem.W.clsIn K CNoFilling).isSome = true; rw [vclNoFilling]; rfl, vtyNoFilling⟩
      · exact ⟨by show (PySem.W.clsIn K CNoNumber).isSome = true; rw [vclNoNumber]; rfl, vtyNoNumber⟩
      · exact ⟨by show (PySem.W.clsIn K CNoLine).isSome = true; rw [vclNoLine]; rfl, vtyNoLine⟩
      · exact ⟨by show (PySem.W.clsIn K CNothingDone).isSome = true; rw [vclNothingDone]; rfl, vtyNothingDone⟩
      · exact ⟨by show (PySem.W.clsIn K CFillError).isSome = true; rw [vclFillError]; rfl, vtyFillError⟩
      · omega
    · have lj : j < cs.length := hj
      have lk : k < cs.length := hk
      have e : cs.getD j 0 = cs.getD k 0 := e
      rw [List.getD_eq_getElem?_getD, List.getD_eq_getElem?_getD, List.getElem?_eq_getElem lj, List.getElem?_eq_getElem lk] at e
      exact (List.getElem_inj nd).mp e
  refine ⟨PySem.W.fnOf "law" "law" (defArgs s_law) (defBody s_law) (defScope s_law) .none kV3 dc3 pm3 an3 cd3 ct3, fun s v => .of_eq rfl, fun base _ _ => ?_⟩
  have Gm : FnOk l.prog w K mg base CX0 1 f1 _ ["_law_script", "_law_k"] (spMixed2 K) := ok_mixed F1 T
  have Gs : FnOk l.prog w K mg base CX0 1 f2 _ ["_law_e"] (spSorts fun k => cs.getD k 0) := ok_sorts F2 T C
  have Gp : FnOk l.prog w K mg base CX0 1 fip _ ["self", "place"] (spInit K "place") := ok_inip Fip
  have Gl : FnOk l.prog w K mg base CX0 1 fil _ ["self", "letter"] (spInit K "letter") := ok_inil Fil
  exact ok_law F3 T C ⟨xcNoForm, xcNoLetters, xcNoWish, xcTooMany, xcNoFilling, xcNoNumber, xcNoLine, xcNothingDone, ⟨_, _, xcNoSaying, ifip, Gp, bip, nap⟩, ⟨_, _, xcStrange, ifil, Gl, bil, nal⟩⟩ Gm b1 k1 m1 Gs b2 k2 m2
end Law
set_option Elab.async false
set_option linter.all false
set_option maxRecDepth 100000
set_option maxHeartbeats 4000000
namespace Law
open PySem L2 Fs
theorem walk {l : PySem.W.OpenLaw} {q : Program} {loose : List Str} {XP : (Str → Option Value) → Heap → Prop} {YP : World → Heap → Prop} {d : DefRec} {K : Params → PySem.W.Frag} (hn : l.most = some 63) (hdf : d.params.defaults = [])
    (hY : ∀ (w : World) (h : Heap), YP w h → (K w.params).In h)
    (F : ∀ (w : World) (mg : Str → Option Value) (fa : Addr) (h : Heap), (K w.params).In h → h.Ns mainGlobals mg → mg d.name = some (.ref fa) →
      ∃ fd : FuncData, (∀ (s : Shared) (u : Value), BindsTo s fd ⟨[u], []⟩ [("_law_script", u)]) ∧ ∀ base : Heap, (K w.params).In base → base.Ns mainGlobals mg → FnOk l.prog w (K w.params) mg base CX0 3 fa fd ["_law_script"] (spLaw (K w.params))) :
    PySem.W.WalkO q loose XP YP l.row.toRowW d [] (fun f vs => PySem.call f vs) :=
  L2.walk_of (n := 63) (k := 3) (x := "_law_script") (CX := fun _ => CX0) (sp := fun w => spLaw (K w.params)) hn (by decide) hdf ⟨rfl, by decide, by decide⟩ hY F (fun _ _ a ns hl _ hS => ⟨a, ns, rfl, hS, hl, fun _ => rfl⟩) fun _ _ _ _ _ z => z
end Law
open PySem PySem.W PyProof.Rows
set_option maxRecDepth 100000 in
set_option maxHeartbeats 0 in
theorem PySem.Challenge.cw_fillsay_k09_refusals_made_holds : PySem.Challenge.rw_fillsay_k09_refusals_made.Holds := by
  w_on; o_law; k_head; (case hw => w_witness2)
  k_fill
  refine Law.walk (l := PySem.Challenge.rw_fillsay_k09_refusals_made) rfl rfl (fun w h Y => PySem.W.kIn_of Y) ?F
  case F =>
    intro w mg fa h KX G hmg
    refine' Law.all_mk KX G hmg ?a1 ?a2 ?a3 ?l1 ?c1 ?k1 ?l2 ?c2 ?k2 ?l3 ?c3 ?k3 ?nNoSaying ?vclNoSaying ?vtyNoSaying ?nStrange ?vclStrange ?vtyStrange ?nNoForm ?vclNoForm ?vtyNoForm ?nNoLetters ?vclNoLetters ?vtyNoLetters ?nNoWish ?vclNoWish ?vtyNoWish ?nTooMany ?vclTooMany ?vtyTooMany ?nNoFilling ?vclNoFilling ?vtyNoFilling ?nNoNumber ?vclNoNumber ?vtyNoNumber ?nNoLine ?vclNoLine ?vtyNoLine ?nNothingDone ?vclNothingDone ?vtyNothingDone ?nFillError ?vclFillError ?vtyFillError ?mbNoSaying ?moNoSaying ?gaNoSaying ?gnNoSaying ?saNoSaying ?caNoSaying ?kpNoSaying ?mbStrange ?moStrange ?gaStrange ?gnStrange ?saStrange ?caStrange ?kpStrange ?mbNoForm ?moNoForm ?gaNoForm ?gnNoForm ?saNoForm ?caNoForm ?kpNoForm ?mbNoLetters ?moNoLetters ?gaNoLetters ?gnNoLetters ?saNoLetters ?caNoLetters ?kpNoLetters ?mbNoWish ?moNoWish ?gaNoWish ?gnNoWish ?saNoWish ?caNoWish ?kpNoWish ?mbTooMany ?moTooMany ?gaTooMany ?gnTooMany ?saTooMany ?caTooMany ?kpTooMany ?mbNoFilling ?moNoFilling ?gaNoFilling ?gnNoFilling ?saNoFilling ?caNoFilling ?kpNoFilling ?mbNoNumber ?moNoNumber ?gaNoNumber ?gnNoNumber ?saNoNumber ?caNoNumber ?kpNoNumber ?mbNoLine ?moNoLine ?gaNoLine ?gnNoLine ?saNoLine ?caNoLine ?kpNoLine ?mbNothingDone ?moNothingDone ?gaNothingDone ?gnNothingDone ?saNothingDone ?caNothingDone ?kpNothingDone ?hn ?htk ?inp ?inl ?nap ?nal ?lip ?cip ?kip ?ifip ?lil ?cil ?kil ?ifil ?mrNoSaying ?hdNoSaying ?xcNoSaying ?mrStrange ?hdStrange ?xcStrange ?mrNoForm ?hdNoForm ?xcNoForm ?mrNoLetters ?hdNoLetters ?xcNoLetters ?mrNoWish ?hdNoWish ?xcNoWish ?mrTooMany ?hdTooMany ?xcTooMany ?mrNoFilling ?hdNoFilling ?xcNoFilling ?mrNoNumber ?hdNoNumber ?xcNoNumber ?mrNoLine ?hdNoLine ?xcNoLine ?mrNothingDone ?hdNothingDone ?xcNothingDone ?nd ?z1 ?z2 ?z3 ?z4 ?z5 ?z6 ?z7 ?z8 ?z9 ?z10 ?z11 ?z12 ?z13 ?z14 ?z15 ?z16 ?z17
    (case a1 => k_is)
    (case a2 => k_is)
    (case a3 => k_is)
    (case l1 => k_is)
    (case c1 => k_is)
    (case k1 => k_is)
    (case l2 => k_is)
    (case c2 => k_is)
    (case k2 => k_is)
    (case l3 => k_is)
    (case c3 => k_is)
    (case k3 => k_is)
    (case nNoSaying => k_is)
    (case vclNoSaying => k_is)
    (case vtyNoSaying => k_is)
    (case nStrange => k_is)
    (case vclStrange => k_is)
    (case vtyStrange => k_is)
    (case nNoForm => k_is)
    (case vclNoForm => k_is)
    (case vtyNoForm => k_is)
    (case nNoLetters => k_is)
    (case vclNoLetters => k_is)
    (case vtyNoLetters => k_is)
    (case nNoWish => k_is)
    (case vclNoWish => k_is)
    (case vtyNoWish => k_is)
    (case nTooMany => k_is)
    (case vclTooMany => k_is)
    (case vtyTooMany => k_is)
    (case nNoFilling => k_is)
    (case vclNoFilling => k_is)
    (case vtyNoFilling => k_is)
    (case nNoNumber => k_is)
    (case vclNoNumber => k_is)
    (case vtyNoNumber => k_is)
    (case nNoLine => k_is)
    (case vclNoLine => k_is)
    (case vtyNoLine => k_is)
    (case nNothingDone => k_is)
    (case vclNothingDone => k_is)
    (case vtyNothingDone => k_is)
    (case nFillError => k_is)
    (case vclFillError => k_is)
    (case vtyFillError => k_is)
    (case mbNoSaying => k_is)
    (case moNoSaying => k_is)
    (case gaNoSaying => k_is)
    (case gnNoSaying => k_is)
    (case saNoSaying => k_is)
    (case caNoSaying => k_is)
    (case kpNoSaying => k_is)
    (case mbStrange => k_is)
    (case moStrange => k_is)
    (case gaStrange => k_is)
    (case gnStrange => k_is)
    (case saStrange => k_is)
    (case caStrange => k_is)
    (case kpStrange => k_is)
    (case mbNoForm => k_is)
    (case moNoForm => k_is)
    (case gaNoForm => k_is)
    (case gnNoForm => k_is)
    (case saNoForm => k_is)
    (case caNoForm => k_is)
    (case kpNoForm => k_is)
    (case mbNoLetters => k_is)
    (case moNoLetters => k_is)
    (case gaNoLetters => k_is)
    (case gnNoLetters => k_is)
    (case saNoLetters => k_is)
    (case caNoLetters => k_is)
    (case kpNoLetters => k_is)
    (case mbNoWish => k_is)
    (case moNoWish => k_is)
    (case gaNoWish => k_is)
    (case gnNoWish => k_is)
    (case saNoWish => k_is)
    (case caNoWish => k_is)
    (case kpNoWish => k_is)
    (case mbTooMany => k_is)
    (case moTooMany => k_is)
    (case gaTooMany => k_is)
    (case gnTooMany => k_is)
    (case saTooMany => k_is)
    (case caTooMany => k_is)
    (case kpTooMany => k_is)
    (case mbNoFilling => k_is)
    (case moNoFilling => k_is)
    (case gaNoFilling => k_is)
    (case gnNoFilling => k_is)
    (case saNoFilling => k_is)
    (case caNoFilling => k_is)
    (case kpNoFilling => k_is)
    (case mbNoNumber => k_is)
    (case moNoNumber => k_is)
    (case gaNoNumber => k_is)
    (case gnNoNumber => k_is)
    (case saNoNumber => k_is)
    (case caNoNumber => k_is)
    (case kpNoNumber => k_is)
    (case mbNoLine => k_is)
    (case moNoLine => k_is)
    (case gaNoLine => k_is)
    (case gnNoLine => k_is)
    (case saNoLine => k_is)
    (case caNoLine => k_is)
    (case kpNoLine => k_is)
    (case mbNothingDone => k_is)
    (case moNothingDone => k_is)
    (case gaNothingDone => k_is)
    (case gnNothingDone => k_is)
    (case saNothingDone => k_is)
    (case caNothingDone => k_is)
    (case kpNothingDone => k_is)
    (case hn => k_is)
    (case htk => k_is)
    (case inp => k_is)
    (case inl => k_is)
    (case nap => k_is)
    (case nal => k_is)
    (case lip => k_is)
    (case cip => k_is)
    (case kip => k_is)
    (case ifip => k_is)
    (case lil => k_is)
    (case cil => k_is)
    (case kil => k_is)
    (case ifil => k_is)
    (case z1 => k_is)
    (case z2 => k_is)
    (case z3 => k_is)
    (case z4 => k_is)
    (case z5 => k_is)
    (case z6 => k_is)
    (case z7 => k_is)
    (case z8 => k_is)
    (case z9 => k_is)
    (case z10 => k_is)
    (case z11 => k_is)
    (case z12 => k_is)
    (case z13 => k_is)
    (case z14 => k_is)
    (case z15 => k_is)
    (case z16 => k_is)
    (case z17 => k_is)
    (case mrNoSaying => rfl)
    (case hdNoSaying => rfl)
    (case xcNoSaying => kernel_rfl)
    (case mrStrange => rfl)
    (case hdStrange => rfl)
    (case xcStrange => kernel_rfl)
    (case mrNoForm => rfl)
    (case hdNoForm => rfl)
    (case xcNoForm => kernel_rfl)
    (case mrNoLetters => rfl)
    (case hdNoLetters => rfl)
    (case xcNoLetters => kernel_rfl)
    (case mrNoWish => rfl)
    (case hdNoWish => rfl)
    (case xcNoWish => kernel_rfl)
    (case mrTooMany => rfl)
    (case hdTooMany => rfl)
    (case xcTooMany => kernel_rfl)
    (case mrNoFilling => rfl)
    (case hdNoFilling => rfl)
    (case xcNoFilling => kernel_rfl)
    (case mrNoNumber => rfl)
    (case hdNoNumber => rfl)
    (case xcNoNumber => kernel_rfl)
    (case mrNoLine => rfl)
    (case hdNoLine => rfl)
    (case xcNoLine => kernel_rfl)
    (case mrNothingDone => rfl)
    (case hdNothingDone => rfl)
    (case xcNothingDone => kernel_rfl)
    (case nd => decide)

