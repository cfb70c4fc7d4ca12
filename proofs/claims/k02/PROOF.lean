import PyProof.Rows.All
import Wide.All
import OpenK.AllK
import Wide.FinOn
import Lean
import PyProof.EqAt
import PyProof.EqKinds
import PyProof.TupleCall
import PyProof.FactsAll.set_1
import PyProof.FactsAll.set_2
import PyProof.AttrMissSeq
import KE.KDictOf
import PyProof.CompUse
import PyProof.Rows.RegReprOcc
import PyProof.FactsAll.list_4
import KE.KItemsList
import KE.KEqDict
import PySem.Challenge.RW_fillsay_k02_truths
set_option Elab.async false
set_option linter.all false
set_option maxRecDepth 100000
namespace L2
open PySem PySem.Spec PyProof.Rows
abbrev Key := Sum Int Str
def keyIs : Key → Value → Bool
  | .inl k, v => Value.isInt k v
  | .inr x, v => Value.isStrOf x v
def keyH (w : World) : Key → Int
  | .inl k => hashInt k
  | .inr x => hashStr w x
theorem keyIs_shape : ∀ {k : Key} {v : Value}, keyIs k v = true → (∃ i t, k = Sum.inl i ∧ v = Value.int i t) ∨ (∃ x t, k = Sum.inr x ∧ v = Value.str x t)
  | .inl i, v, h => by
    obtain ⟨t, e⟩ := Value.isInt_shape (k := i) (v := v) h
    exact .inl ⟨i, t, rfl, e⟩
  | .inr x, v, h => by
    obtain ⟨t, e⟩ := Value.isStrOf_shape (x := x) (v := v) h
    exact .inr ⟨x, t, rfl, e⟩
theorem keyIs_int (i : Int) (t : Tok) : keyIs (.inl i) (.int i t) = true := by simp [keyIs, Value.isInt]
theorem keyIs_str (x : Str) (t : Tok) : keyIs (.inr x) (.str x t) = true := by simp [keyIs, Value.isStrOf]
theorem key_ll (a b : Int) : decide ((Sum.inl a : Key) = Sum.inl b) = (a == b) := by
  by_cases e : a = b
  · subst e; simp
  · have h : ¬ (Sum.inl a : Key) = Sum.inl b := fun q => e (Sum.inl.inj q)
    rw [decide_eq_false h]
    exact (beq_eq_false_iff_ne.mpr e).symm
theorem key_rr (a b : Str) : decide ((Sum.inr a : Key) = Sum.inr b) = decide (a = b) := by
  by_cases e : a = b
  · subst e; simp
  · have h : ¬ (Sum.inr a : Key) = Sum.inr b := fun q => e (Sum.inr.inj q)
    rw [decide_eq_false h, decide_eq_false e]
theorem key_lr (a : Int) (b : Str) : decide ((Sum.inl a : Key) = Sum.inr b) = false := decide_eq_false (fun q => nomatch q)
theorem key_rl (a : Str) (b : Int) : decide ((Sum.inr a : Key) = Sum.inl b) = false := decide_eq_false (fun q => nomatch q)
def mixKind (prog : Program) (w : World) : PySem.KeyKind prog w Key where
  is := keyIs
  hash := keyH w
  inj := fun v a b ha hb => by
    rcases keyIs_shape ha with ⟨i, t, rfl, rfl⟩ | ⟨x, t, rfl, rfl⟩
    · rcases keyIs_shape hb with ⟨j, u, rfl, e⟩ | ⟨y, u, rfl, e⟩
      · injection e with e1 _; rw [e1]
      · exact nomatch e
    · rcases keyIs_shape hb with ⟨j, u, rfl, e⟩ | ⟨y, u, rfl, e⟩
      · exact nomatch e
      · injection e with e1 _; rw [e1]
  byValue := fun k v h => by
    rcases keyIs_shape h with ⟨i, t, rfl, rfl⟩ | ⟨x, t, rfl, rfl⟩ <;> rfl
  pyHash := fun hv h => by
    rcases keyIs_shape hv with ⟨i, t, rfl, rfl⟩ | ⟨x, t, rfl, rfl⟩
    · exact wpAny_pyHash_int h
    · exact wpAny_pyHash_str h
  eqBool := fun hu hv h => by
    rcases keyIs_shape hu with ⟨i, t, rfl, rfl⟩ | ⟨x, t, rfl, rfl⟩
    · rcases keyIs_shape hv with ⟨j, u, rfl, rfl⟩ | ⟨y, u, rfl, rfl⟩
      · rw [key_ll] at h; exact wpAny_eqBool_int h
      · rw [key_lr] at h; exact SeqAt.EqAt.int_str i t y u _ _ _ _ h
    · rcases keyIs_shape hv with ⟨j, u, rfl, rfl⟩ | ⟨y, u, rfl, rfl⟩
      · rw [key_rl] at h; exact SeqAt.EqAt.str_int x t j u _ _ _ _ h
      · rw [key_rr] at h; exact wpAny_eqBool_str h
  «strs» := fun k x t v h => by
    rcases keyIs_shape h with ⟨i, u, rfl, e⟩ | ⟨y, u, rfl, e⟩
    · exact nomatch e
    · injection e with e1 _
      subst e1
      cases v <;> rfl
theorem mixKind_int (prog : Program) (w : World) (i : Int) (t : Tok) : (mixKind prog w).is (.inl i) (.int i t) = true := keyIs_int i t
theorem mixKind_str (prog : Program) (w : World) (x : Str) (t : Tok) : (mixKind prog w).is (.inr x) (.str x t) = true := keyIs_str x t
end L2
namespace L2
open PySem PySem.Spec PyProof.Rows
inductive V where
  | non | bl (b : Bool) | int (i : Int) | str (x : Str) | byt (b : Array UInt8) | flt (b : UInt64) | ref (a : Addr) | ty (n : String)
  deriving DecidableEq
def RelV : V → Value → Prop
  | .non, u => u = Value.none
  | .bl b, u => u = Value.bool b
  | .int i, u => ∃ t, u = Value.int i t
  | .str x, u => ∃ t, u = Value.str x t
  | .byt b, u => ∃ t, u = Value.bytes b t
  | .flt b, u => ∃ t, u = Value.float b t
  | .ref a, u => u = Value.ref a
  | .ty n, u => u = Value.type n
abbrev Vals : List V → List Value → Prop := Paired RelV
theorem Vals.length {xs : List V} {us : List Value} (r : Vals xs us) : xs.length = us.length := Paired.length r
theorem Vals.get : ∀ {xs : List V} {us : List Value} {i : Nat} {x : V}, Vals xs us → xs[i]? = some x → ∃ u, us[i]? = some u ∧ RelV x u
  | _, _, _, _, .nil, e => by simp at e
  | _, _, 0, _, .cons r _, e => by simp at e; subst e; exact ⟨_, rfl, r⟩
  | _, _, i + 1, x, .cons _ t, e => by
    obtain ⟨u, h1, h2⟩ := Vals.get (i := i) (x := x) t (by simpa using e)
    exact ⟨u, by simpa using h1, h2⟩
theorem Vals.set {x : V} {u : Value} (r : RelV x u) : ∀ {xs : List V} {us : List Value} (i : Nat), Vals xs us → Vals (xs.set i x) (us.set i u)
  | _, _, _, .nil => .nil
  | _, _, 0, .cons _ t => .cons r t
  | _, _, i + 1, .cons q t => .cons q (Vals.set r i t)
theorem Vals.append : ∀ {xs ys : List V} {us ws : List Value}, Vals xs us → Vals ys ws → Vals (xs ++ ys) (us ++ ws)
  | _, _, _, _, .nil, s => s
  | _, _, _, _, .cons r t, s => .cons r (Vals.append t s)
theorem Vals.take : ∀ {xs : List V} {us : List Value} (n : Nat), Vals xs us → Vals (xs.take n) (us.take n)
  | _, _, 0, _ => .nil
  | _, _, _ + 1, .nil => .nil
  | _, _, n + 1, .cons r t => .cons r (Vals.take n t)
theorem Vals.drop : ∀ {xs : List V} {us : List Value} (n : Nat), Vals xs us → Vals (xs.drop n) (us.drop n)
  | _, _, 0, r => r
  | _, _, _ + 1, .nil => .nil
  | _, _, n + 1, .cons _ t => Vals.drop n t
theorem Vals.none_of : ∀ {xs : List V} {us : List Value} {i : Nat}, Vals xs us → xs[i]? = none → us[i]? = none := fun {xs us i} r e => by
  have h1 := r.length
  have h2 : xs.length ≤ i := List.getElem?_eq_none_iff.mp e
  exact List.getElem?_eq_none_iff.mpr (by omega)
def RelO : Option V → Option Value → Prop
  | some v, some u => RelV v u
  | none, none => True
  | _, _ => False
def KV {κ : Type} : List (κ × V) → List (κ × Value) → Prop := Paired fun (p : κ × V) (q : κ × Value) => p.1 = q.1 ∧ RelV p.2 q.2
def kV : Key → V
  | .inl i => .int i
  | .inr x => .str x
inductive HO where
  /-- a list -/
  | lst (xs : List V)
  /-- a tuple (never changes) -/
  | tup (xs : List V)
  /-- a dict whose keys are ints and texts; one whose keys are tuples of ints and texts (the empty one is both) -/
  | dK (kvs : List (Key × V)) | dT (kvs : List (List Key × V))
  /-- a set of ints: its members, its size -/
  | set (S : Int → Bool) (n : Nat)
  /-- an instance of the class at C, its dict at dx, its attributes -/
  | ins (C dx : Addr) (fs : List (Str × V))
  /-- the dict of the instance at x -/
  | own (x : Addr)
  /-- the dict of an exception -/
  | xd (fs : List (Str × V))
  /-- a bound method, f of x -/
  | met (f x : Addr)
  /-- a range object lo, lo + 1, .. below hi -/
  | rng (lo hi : Int)
  /-- a thing that is known to the object (the script; a dict while a loop walks it): read, never written while it is so -/
  | frz (o : Obj) (u : HO)
  /-- a code object's table -/
  | tbl (ps : Array Value)
  /-- any other thing, by what is true of its one object (a def of one's own: SetO a S n := HO.ext fun h => ..) -/
  | ext (φ : Heap → Prop)
abbrev Hp := Addr → Option HO
def upd (H : Hp) (a : Addr) (o : HO) : Hp := fun b => if b = a then some o else H b
theorem upd_same {H : Hp} {a : Addr} {o : HO} : upd H a o a = some o := by unfold upd; rw [if_pos rfl]
theorem upd_ne {H : Hp} {a b : Addr} {o : HO} (h : b ≠ a) : upd H a o b = H b := by unfold upd; rw [if_neg h]
theorem ne_of {H : Hp} {a b : Addr} {o u : HO} (h : H a = some o) (h' : H b = some u) (d : o ≠ u) : a ≠ b := by
  intro e; subst e; rw [h] at h'; exact d (Option.some.inj h')
theorem ne_of_none {H : Hp} {a b : Addr} {o : HO} (h : H a = some o) (h' : H b = none) : a ≠ b := by
  intro e; subst e; rw [h] at h'; cases h'
section
variable (P : Program) (w : World)
def ObjOk (H : Hp) (h : Heap) (a : Addr) : HO → Prop
  | .lst xs => xs.length ≤ sizeLine ∧ ∃ (its : List Value) (n : Nat), Vals xs its ∧ h.get? a = some { cls := .type "list", data := .seq its.toArray n }
  | .tup xs => xs.length ≤ sizeLine ∧ ∃ its : List Value, Vals xs its ∧ IsTup h a its.toArray
  | .dK kvs => kvs.length ≤ sizeLine ∧ (a == sysModules) = false ∧ ∃ vs, KV kvs vs ∧ h.DictOf (mixKind P w) a vs
  | .dT kvs => kvs.length ≤ sizeLine ∧ (a == sysModules) = false ∧ ∃ xs : List (List Key × Addr × Value),
      Paired (fun (p : List Key × V) (q : List Key × Addr × Value) => p.1 = q.1 ∧ H q.2.1 = some (.tup (p.1.map kV)) ∧ RelV p.2 q.2.2) kvs xs ∧
      ∃ o es ep, h.get? a = some o ∧ o.ExactDict ∧ o.data = .dict es ep ∧ es.toList = xs.map (entryOfKey (tupleKind (mixKind P w))) ∧ (xs.map (·.1)).Nodup
  | .set S n => h.SetOf (intKind P w) a S n
  | .ins C dx fs => H dx = some (.own a) ∧ fs.length ≤ 1000 ∧ dx ≠ a ∧ h.get? a = some (PySem.W.instObj C dx) ∧
      ∃ mA, h.Ns1 dx mA ∧ (∀ f, RelO (fs.lookup f) (mA f)) ∧ PySem.Within mA (fs.map (·.1))
  | .own _ => ∃ o, h.get? a = some o
  | .xd fs => ∃ mA, h.Ns1 a mA ∧ ∀ f, RelO (fs.lookup f) (mA f)
  | .rng lo hi => ∃ t u v, h.get? a = some { cls := .type "range", data := .fields #[.int lo t, .int hi u, .int 1 v] }
  | .frz o u => h.get? a = some o ∧ ObjOk H h a u
  | .tbl ps => h.get? a = some { cls := .none, data := .fields ps }
  | .met f x => h.get? a = some (PySem.W.methodObj (.ref f) (.ref x))
  | .ext φ => φ h ∧ (∃ o, h.get? a = some o) ∧ ∀ h1 h2 : Heap, φ h1 → (∀ o, h1.get? a = some o → h2.get? a = some o) → φ h2
def HOk (H : Hp) (h : Heap) : Prop := ∀ a o, H a = some o → ObjOk P w H h a o
end
section
variable {P : Program} {w : World} {H H' : Hp} {h h' : Heap} {a : Addr} {o : HO}
theorem ObjOk.lt (x : ObjOk P w H h a o) : a < h.objs.size := by
  cases o with
  | lst xs => obtain ⟨_, _, _, _, e⟩ := x; exact Heap.lt_size e
  | tup xs => obtain ⟨_, _, _, p⟩ := x; exact p.lt
  | dK kvs => obtain ⟨_, _, _, _, o, _, _, e, _⟩ := x; exact Heap.lt_size e
  | dT kvs => obtain ⟨_, _, _, _, o, _, _, e, _⟩ := x; exact Heap.lt_size e
  | set S n => obtain ⟨o, _, _, _, e, _⟩ := x; exact Heap.lt_size e
  | ins C dx fs => obtain ⟨_, _, _, e, _⟩ := x; exact Heap.lt_size e
  | own y => obtain ⟨_, e⟩ := x; exact Heap.lt_size e
  | xd fs => obtain ⟨_, ⟨_, _, _, e, _⟩, _⟩ := x; exact Heap.lt_size e
  | rng lo hi => obtain ⟨_, _, _, e⟩ := x; exact Heap.lt_size e
  | frz ob u => obtain ⟨e, _⟩ := x; exact Heap.lt_size e
  | tbl ps => exact Heap.lt_size (show h.get? a = some _ from x)
  | met f y => exact Heap.lt_size (show h.get? a = some _ from x)
  | ext φ => obtain ⟨_, ⟨_, e⟩, _⟩ := x; exact Heap.lt_size e
theorem Paired.mapP {α β : Type} {F G : α → β → Prop} : ∀ {l₁ : List α} {l₂ : List β}, Paired F l₁ l₂ → (∀ a b, F a b → G a b) → Paired G l₁ l₂
  | _, _, .nil, _ => .nil
  | _, _, .cons r t, f => .cons (f _ _ r) (Paired.mapP t f)
theorem ObjOk.stay (x : ObjOk P w H h a o) (k : ∀ b u, (b = a ∨ H b = some (.own a)) → h.get? b = some u → h'.get? b = some u)
    (ho : ∀ b, H b = some (.own a) → H' b = some (.own a)) (ht : ∀ b xs, H b = some (.tup xs) → H' b = some (.tup xs)) : ObjOk P w H' h' a o := by
  induction o with
  | lst xs => obtain ⟨z, its, n, r, e⟩ := x; exact ⟨z, its, n, r, k _ _ (.inl rfl) e⟩
  | tup xs => obtain ⟨z, its, r, ob, e, c⟩ := x; exact ⟨z, its, r, ob, k _ _ (.inl rfl) e, c⟩
  | dK kvs => obtain ⟨z, y, vs, r, ob, es, ep, e, c⟩ := x; exact ⟨z, y, vs, r, ob, es, ep, k _ _ (.inl rfl) e, c⟩
  | dT kvs =>
    obtain ⟨z, y, xs, r, ob, es, ep, e, c⟩ := x
    exact ⟨z, y, xs, Paired.mapP r fun p q z => ⟨z.1, ht _ _ z.2.1, z.2.2⟩, ob, es, ep, k _ _ (.inl rfl) e, c⟩
  | set S n => obtain ⟨ob, es, ep, t, e, c⟩ := x; exact ⟨ob, es, ep, t, k _ _ (.inl rfl) e, c⟩
  | ins C dx fs =>
    obtain ⟨d, z, ne, e, mA, ⟨od, es, ep, e2, c⟩, r⟩ := x
    exact ⟨ho _ d, z, ne, k _ _ (.inl rfl) e, mA, ⟨od, es, ep, k _ _ (.inr d) e2, c⟩, r⟩
  | own y => obtain ⟨ob, e⟩ := x; exact ⟨ob, k _ _ (.inl rfl) e⟩
  | xd fs => obtain ⟨mA, ⟨od, es, ep, e, c⟩, r⟩ := x; exact ⟨mA, ⟨od, es, ep, k _ _ (.inl rfl) e, c⟩, r⟩
  | rng lo hi => obtain ⟨t, u, v, e⟩ := x; exact ⟨t, u, v, k _ _ (.inl rfl) e⟩
  | frz ob u ih => obtain ⟨e, q⟩ := x; exact ⟨k _ _ (.inl rfl) e, ih q⟩
  | tbl ps =>
    have e : h.get? a = some { cls := .none, data := .fields ps } := x
    show h'.get? a = some { cls := .none, data := .fields ps }
    exact k a _ (.inl rfl) e
  | met f y =>
    have e : h.get? a = some (PySem.W.methodObj (.ref f) (.ref y)) := x
    show h'.get? a = some (PySem.W.methodObj (.ref f) (.ref y))
    exact k a _ (.inl rfl) e
  | ext φ => obtain ⟨p, ⟨o, e⟩, st⟩ := x; exact ⟨st _ _ p fun o q => k _ _ (.inl rfl) q, ⟨o, k _ _ (.inl rfl) e⟩, st⟩
theorem HOk.lt (x : HOk P w H h) (e : H a = some o) : a < h.objs.size := (x a o e).lt
theorem HOk.fresh (x : HOk P w H h) (e : h.objs.size ≤ a) : H a = none := by
  cases q : H a with
  | none => rfl
  | some u => exact absurd (Nat.lt_of_lt_of_le (x.lt q) e) (Nat.lt_irrefl _)
theorem HOk.kept (x : HOk P w H h) (k : ∀ b u, h.get? b = some u → h'.get? b = some u) : HOk P w H h' := fun a o e =>
  (x a o e).stay (fun b u _ q => k b u q) (fun _ q => q) fun _ _ q => q
theorem HOk.laid (x : HOk P w H h) (k : ∀ b u, h.get? b = some u → h'.get? b = some u) (hp : h.objs.size ≤ a) (new : ObjOk P w (upd H a o) h' a o) : HOk P w (upd H a o) h' := fun b u e => by
  have hn := x.fresh hp
  by_cases hb : b = a
  · subst hb; rw [upd_same] at e; cases e; exact new
  · rw [upd_ne hb] at e
    exact (x b u e).stay (fun c v _ q => k c v q) (fun c q => by rw [upd_ne (ne_of_none q hn)]; exact q) fun c xs q => by rw [upd_ne (ne_of_none q hn)]; exact q
end
def Rd (H : Hp) (a : Addr) (u : HO) : Prop := H a = some u ∨ ∃ o, H a = some (.frz o u)
theorem Rd.of {H : Hp} {a : Addr} {u : HO} (h : H a = some u) : Rd H a u := .inl h
theorem Rd.ok {P : Program} {w : World} {H : Hp} {h : Heap} {a : Addr} {u : HO} (r : Rd H a u) (x : HOk P w H h) : ObjOk P w H h a u := by
  rcases r with r | ⟨o, r⟩
  · exact x a u r
  · obtain ⟨_, q⟩ := x a _ r
    exact q
def Mut : Option HO → Prop
  | some (.lst _) => True
  | some (.dK _) => True
  | some (.dT _) => True
  | some (.set _ _) => True
  | some (.ins _ _ _) => True
  | some (.ext _) => True
  | _ => False
section
variable {P : Program} {w : World} {H : Hp} {h h' : Heap} {x e : Addr} {o' : HO}
theorem HOk.write (ok : HOk P w H h) (mu : Mut (H x)) (he : e = x ∨ H e = some (.own x)) (k : ∀ b u, b ≠ e → h.get? b = some u → h'.get? b = some u) (heo : ∃ u, h'.get? e = some u)
    (new : ObjOk P w (upd H x o') h' x o') : HOk P w (upd H x o') h' := fun b u q => by
  have nown : ∀ c y, H c = some (.own y) → c ≠ x := fun c y r z => by subst z; rw [r] at mu; exact mu
  have ntup : ∀ c xs, H c = some (.tup xs) → c ≠ x := fun c xs r z => by subst z; rw [r] at mu; exact mu
  by_cases hb : b = x
  · subst hb; rw [upd_same] at q; cases q; exact new
  · rw [upd_ne hb] at q
    by_cases hbe : b = e
    · have q' : H b = some (.own x) := by
        rcases he with z | z
        · exact absurd (hbe.trans z) hb
        · rw [hbe]; exact z
      rw [q] at q'; cases q'
      obtain ⟨v, hv⟩ := heo
      exact ⟨v, by rw [hbe]; exact hv⟩
    · refine (ok b u q).stay (fun c v hc r => k c v ?_ r) (fun c r => by rw [upd_ne (nown c b r)]; exact r) fun c xs r => by rw [upd_ne (ntup c xs r)]; exact r
      rcases hc with rfl | hc
      · exact hbe
      · rintro rfl
        rcases he with z | z
        · exact nown c b hc z
        · rw [hc] at z; cases z; exact hb rfl
end
structure Un (fs ex : List Addr) (H H' : Hp) (h h' : Heap) : Prop where
  keep : ∀ b o, h.get? b = some o → H b = none → b ∉ fs → b ∉ ex → h'.get? b = some o
  slot : ∀ b o, h.get? b = some o → H b = none → b ∈ fs → b ∉ ex → ∃ sl, h'.get? b = some { o with slots := sl }
  free : ∀ b o, h.get? b = some o → H b = none → b ∉ ex → H' b = none
  there : ∀ b o, h.get? b = some o → b ∉ ex → ∃ o', h'.get? b = some o'
  tups : ∀ b xs, H b = some (.tup xs) → H' b = some (.tup xs)
  frzs : ∀ b o u, H b = some (.frz o u) → H' b = some (.frz o u)
  tbls : ∀ b ps, H b = some (.tbl ps) → ∃ more, H' b = some (.tbl (ps ++ more))
section
variable {fs fs' ex ex' : List Addr} {H H1 H2 : Hp} {h h1 h2 h' : Heap} {a x e : Addr} {o : HO}
theorem Un.any (u : Un fs ex H H1 h h1) {b : Addr} {ob : Obj} (q : h.get? b = some ob) (n : H b = none) (hx : b ∉ ex) : ∃ sl, h1.get? b = some { ob with slots := sl } := by
  by_cases hb : b ∈ fs
  · exact u.slot b ob q n hb hx
  · exact ⟨ob.slots, u.keep b ob q n hb hx⟩
theorem Un.trans (a : Un fs ex H H1 h h1) (b : Un fs ex H1 H2 h1 h2) : Un fs ex H H2 h h2 where
  keep := fun c ob q n hc hx => b.keep c ob (a.keep c ob q n hc hx) (a.free c ob q n hx) hc hx
  slot := fun c ob q n hc hx => by
    obtain ⟨sl, e1⟩ := a.slot c ob q n hc hx
    obtain ⟨sl', e2⟩ := b.slot c _ e1 (a.free c ob q n hx) hc hx
    exact ⟨sl', e2⟩
  free := fun c ob q n hx => by
    obtain ⟨o', e1⟩ := a.there c ob q hx
    exact b.free c o' e1 (a.free c ob q n hx) hx
  there := fun c ob q hx => by
    obtain ⟨o', e1⟩ := a.there c ob q hx
    exact b.there c o' e1 hx
  tups := fun c xs q => b.tups c xs (a.tups c xs q)
  frzs := fun c ob xs q => b.frzs c ob xs (a.frzs c ob xs q)
  tbls := fun c ps q => by
    obtain ⟨m1, e1⟩ := a.tbls c ps q
    obtain ⟨m2, e2⟩ := b.tbls c _ e1
    exact ⟨m1 ++ m2, by rw [e2, Array.append_assoc]⟩
theorem Un.kept (k : ∀ b u, h.get? b = some u → h'.get? b = some u) : Un fs ex H H h h' :=
  ⟨fun b ob q _ _ _ => k b ob q, fun b ob q _ _ _ => ⟨ob.slots, k b ob q⟩, fun _ _ _ n _ => n, fun b ob q _ => ⟨ob, k b ob q⟩, fun _ _ q => q, fun _ _ _ q => q, fun _ ps q => ⟨#[], by rw [q]; simp⟩⟩
theorem Un.refl : Un fs ex H H h h := Un.kept fun _ _ q => q
theorem Un.laid (k : ∀ b u, h.get? b = some u → h'.get? b = some u) (hp : h.objs.size ≤ a) (hn : H a = none) : Un fs ex H (upd H a o) h h' where
  keep := fun b u q _ _ _ => k b u q
  slot := fun b u q _ _ _ => ⟨u.slots, k b u q⟩
  free := fun b u q n _ => by rw [upd_ne (Nat.ne_of_lt (Nat.lt_of_lt_of_le (Heap.lt_size q) hp))]; exact n
  there := fun b u q _ => ⟨u, k b u q⟩
  tups := fun b xs q => by rw [upd_ne (ne_of_none q hn)]; exact q
  frzs := fun b u xs q => by rw [upd_ne (ne_of_none q hn)]; exact q
  tbls := fun b ps q => ⟨#[], by rw [upd_ne (ne_of_none q hn), q]; simp⟩
theorem Un.write (mu : Mut (H x)) (he : e = x ∨ H e = some (.own x)) (k : ∀ b u, b ≠ e → h.get? b = some u → h'.get? b = some u) (heo : ∃ u, h'.get? e = some u) : Un fs ex H (upd H x o) h h' := by
  have hx : ∀ b, H b = none → b ≠ x := fun b n z => by subst z; rw [n] at mu; exact mu
  have hb : ∀ b, H b = none → b ≠ e := fun b n z => by
    subst z
    rcases he with r | r
    · exact hx b n r
    · rw [n] at r; cases r
  have hm : ∀ b u, H b = some u → ¬ Mut (some u) → b ≠ x := fun b u q nm z => by subst z; rw [q] at mu; exact nm mu
  refine ⟨fun b u q n _ _ => k b u (hb b n) q, fun b u q n _ _ => ⟨u.slots, k b u (hb b n) q⟩, fun b u q n _ => by rw [upd_ne (hx b n)]; exact n, fun b u q _ => ?_,
    fun b xs q => by rw [upd_ne (hm b _ q fun z => z)]; exact q, fun b u xs q => by rw [upd_ne (hm b _ q fun z => z)]; exact q, fun b ps q => ⟨#[], by rw [upd_ne (hm b _ q fun z => z), q]; simp⟩⟩
  by_cases hbe : b = e
  · subst hbe; exact heo
  · exact ⟨u, k b u hbe q⟩
theorem Un.mono (u : Un fs ex H H1 h h1) (hs : ∀ b ∈ fs, b ∈ fs') (hx : ∀ b ∈ ex, b ∈ ex') : Un fs' ex' H H1 h h1 :=
  ⟨fun b ob q n hb he => u.keep b ob q n (fun z => hb (hs b z)) fun z => he (hx b z), fun _ _ q n _ he => u.any q n fun z => he (hx _ z), fun b ob q n he => u.free b ob q n fun z => he (hx b z), fun b ob q he => u.there b ob q fun z => he (hx b z), u.tups, u.frzs, u.tbls⟩
end
def trk (h : Heap) (H : Hp) : List Addr := (List.range h.objs.size).filter fun a => (H a).isSome
def hidT (h : Heap) (H : Hp) : Heap := PySem.W.hideAll h (trk h H)
theorem hidT_size (h : Heap) (H : Hp) : (hidT h H).objs.size = h.objs.size := PySem.W.hideAll_size _ _
theorem hidT_get {h : Heap} {H : Hp} {b : Addr} {o : Obj} (e : h.get? b = some o) (n : H b = none) : (hidT h H).get? b = some o :=
  PySem.W.hideAll_get _ e fun hm => by
    have q : (H b).isSome = true := (List.mem_filter.mp hm).2
    rw [n] at q; simp at q
theorem of_hidT {h : Heap} {H : Hp} {b : Addr} {o : Obj} (e : (hidT h H).get? b = some o) : h.get? b = some o ∧ H b = none := by
  have e' : h.get? b = some o := PySem.W.of_hideAll (trk h H) e
  refine ⟨e', ?_⟩
  cases q : H b with
  | none => rfl
  | some x =>
    have hm : b ∈ trk h H := List.mem_filter.mpr ⟨List.mem_range.mpr (Heap.lt_size e'), by simp [q]⟩
    have z : (hidT h H).get? b = none := PySem.W.hideAll_none (trk h H) hm
    rw [z] at e; cases e
def allNews (g h : Heap) (L : Addr) : List (Addr × Obj) := (List.range h.objs.size).filterMap fun a => if a = L ∨ (g.get? a).isSome = true then none else (h.get? a).map fun o => (a, o)
def rest (g h : Heap) (L d : Addr) : List (Addr × Obj) := (allNews g h L).filter fun p => decide (p.1 ≠ d)
end L2
namespace L2
open PySem PySem.Spec PyProof.Rows
structure Mod (K : PySem.W.Frag) (mg : Str → Option Value) (base : Heap) : Prop where
  kin : K.In base
  glob : base.Ns mainGlobals mg
  blt : ∃ mb, base.Ns builtinsNs mb ∧ ∀ x : Str, x ≠ "__name__" → mb x = bootBuiltins x
  nolimit : base.NoLimit
structure Cx where
  prog : Program
  w : World
  K : PySem.W.Frag
  mg : Str → Option Value
  base : Heap
  A : Around
  N : List Str
  s₀ : Shared
  H₀ : Hp
  env : Env
  outer : List Env
  stack : List Env
  ex : List Addr
  fn : Str → Bool
  calm : Bool
  pn : List (Addr × Obj)
  xe : Value → Shared → Prop
def frs (l : List Env) : List Addr := l.filterMap (·.frame)
abbrev Cx.fs (X : Cx) : List Addr := frs X.outer
def Vis (sc : Scope) (x : Str) : Prop := sc.names.lookup x = some .local ∨ sc.names.lookup x = some .cell ∨ sc.names.lookup x = some .free
def Loc (sc : Scope) (x : Str) : Prop := sc.names.lookup x = some .local ∨ sc.names.lookup x = some .cell
def Look (env : Env) (h : Heap) (m : Str → Option Value) (x : Str) (u : Value) : Prop :=
  (env.kindOf x = some .local ∧ m x = some u) ∨ ((env.kindOf x = some .cell ∨ env.kindOf x = some .free) ∧ ∃ c, env.cells.lookup x = some c ∧ h.IsCell c (some u))
structure Cx.Ok (X : Cx) : Prop where
  mod : Mod X.K X.mg X.base
  kind : X.env.scope.kind = .function
  glob : X.env.globals = mainGlobals
  blt : X.env.builtins = builtinsNs
  above : X.s₀.heap.objs.size ≤ X.env.locals
  inj : ∀ x y c, X.env.cells.lookup x = some c → X.env.cells.lookup y = some c → x = y
  has : ∀ x, (X.env.kindOf x = some .cell ∨ X.env.kindOf x = some .free) → ∃ c, X.env.cells.lookup x = some c
  cab : ∀ x c, X.fn x = true → X.env.cells.lookup x = some c → X.s₀.heap.objs.size ≤ c
  hd : X.calm = true → X.A.handled = none
  frames : X.A.frames = some X.stack
  stk : X.stack = X.outer ∨ (X.stack = X.env :: X.outer ∧ X.env.frame = some X.env.locals)
  exf : ∀ b ∈ X.ex, b ≠ X.env.locals ∧ ∀ x c, X.env.cells.lookup x = some c → c ≠ b
  bs : ∀ b o, X.base.get? b = some o → X.s₀.heap.get? b = some o ∧ X.H₀ b = none
  bsz : X.base.objs.size ≤ X.s₀.heap.objs.size
  noex : ∀ b o, X.base.get? b = some o → b ∉ X.ex
  exfs : ∀ b ∈ X.ex, b ∉ X.fs
  funs : X.s₀.heap.FunFrames X.base X.outer
  frf : ∀ b ∈ X.fs, X.H₀ b = none
structure Inv (X : Cx) (pins : List (Addr × Obj)) (σ : List (Option V)) (H : Hp) (s : Shared) : Prop where
  ok : X.Ok
  os : s.os = X.s₀.os
  bare : AllBare s.gens
  base : Un X.fs X.ex X.H₀ H X.s₀.heap s.heap
  loc : ∃ m, s.heap.Ns X.env.locals m ∧ ∀ (i : Nat) (x : Str) (v : V), X.N[i]? = some x → σ[i]? = some (some v) → Vis X.env.scope x → ∃ u, RelV v u ∧ Look X.env s.heap m x u
  cell : ∀ x c, X.env.cells.lookup x = some c → ∃ v, s.heap.IsCell c v
  free : H X.env.locals = none
  freeC : ∀ x c, X.env.cells.lookup x = some c → H c = none
  pin : ∀ p ∈ X.pn ++ pins, s.heap.get? p.1 = some p.2 ∧ H p.1 = none ∧ p.1 ≠ X.env.locals ∧ p.1 ∉ X.fs ∧ ∀ v, p.2.data ≠ .cell v
  hok : HOk X.prog X.w H s.heap
  len : σ.length = X.N.length
section
variable {X : Cx} {pins : List (Addr × Obj)} {σ : List (Option V)} {H H' : Hp} {s : Shared} {h' : Heap}
theorem Cx.Ok.nofr (ok : X.Ok) {b : Addr} {o : Obj} (e : X.base.get? b = some o) : b ∉ X.fs := fun hb => by
  have := (ok.funs.mem hb).1
  rw [e] at this; cases this
theorem Inv.bs (I : Inv X pins σ H s) : ∀ b o, X.base.get? b = some o → s.heap.get? b = some o ∧ H b = none := fun b o e =>
  ⟨I.base.keep b o (I.ok.bs b o e).1 (I.ok.bs b o e).2 (I.ok.nofr e) (I.ok.noex b o e), I.base.free b o (I.ok.bs b o e).1 (I.ok.bs b o e).2 (I.ok.noex b o e)⟩
theorem Inv.bk (I : Inv X pins σ H s) : ∀ b o, X.base.get? b = some o → s.heap.get? b = some o := fun b o e => (I.bs b o e).1
theorem Inv.mod (I : Inv X pins σ H s) : Mod X.K X.mg X.base := I.ok.mod
theorem Inv.kIn (I : Inv X pins σ H s) : X.K.In s.heap := I.ok.mod.kin.keeps I.bk
theorem Inv.nolimit (I : Inv X pins σ H s) : s.heap.NoLimit := I.ok.mod.nolimit.keeps I.bk
theorem Inv.fr (I : Inv X pins σ H s) : ∃ m, Fr X.base X.env.locals s.heap m :=
  let ⟨m, hn, _⟩ := I.loc
  ⟨m, hn, I.bk, Nat.le_trans I.ok.bsz I.ok.above⟩
theorem Inv.lt (I : Inv X pins σ H s) : X.env.locals < s.heap.objs.size := let ⟨_, hn, _⟩ := I.loc; hn.lt
theorem Inv.sz (I : Inv X pins σ H s) : X.s₀.heap.objs.size ≤ s.heap.objs.size := Nat.le_trans I.ok.above (Nat.le_of_lt I.lt)
theorem Inv.nofs (I : Inv X pins σ H s) {a : Addr} (h : s.heap.objs.size ≤ a) : a ∉ X.fs := fun hb => by
  obtain ⟨_, o, ho, _⟩ := I.ok.funs.mem hb
  exact absurd (Nat.lt_of_lt_of_le (Heap.lt_size ho) (Nat.le_trans I.sz h)) (Nat.lt_irrefl _)
theorem Inv.cne (I : Inv X pins σ H s) : ∀ x c, X.env.cells.lookup x = some c → c ≠ X.env.locals := fun x c e z => by
  obtain ⟨v, o, ho, hd⟩ := I.cell x c e
  obtain ⟨m, ⟨o', es, ep, ho', hd', _⟩, _⟩ := I.loc
  rw [z, ho'] at ho; cases ho; rw [hd'] at hd; cases hd
theorem Inv.funs (I : Inv X pins σ H s) : s.heap.FunFrames X.base X.outer := by
  have all : ∀ (l : List Env), (∀ b ∈ frs l, b ∈ X.fs) → X.s₀.heap.FunFrames X.base l → s.heap.FunFrames X.base l := by
    intro l
    induction l with
    | nil => intro _ _; trivial
    | cons env r ih =>
      intro hs hl
      obtain ⟨hk, ⟨L, o, hf, hn, ho, hd⟩, hr⟩ := hl
      have hL : L ∈ X.fs := hs L (by unfold frs; rw [List.filterMap_cons, hf]; exact List.mem_cons_self)
      obtain ⟨sl, e⟩ := I.base.slot L o ho (I.ok.frf L hL) hL fun z => I.ok.exfs L z hL
      exact ⟨hk, ⟨L, _, hf, hn, e, hd⟩, ih (fun b hb => hs b (by unfold frs; rw [List.filterMap_cons, hf]; exact List.mem_cons_of_mem _ hb)) hr⟩
  exact all X.outer (fun _ hb => hb) I.ok.funs
theorem Inv.stack (I : Inv X pins σ H s) : s.heap.FunFrames X.base X.stack := by
  rcases I.ok.stk with e | ⟨e, hf⟩
  · rw [e]; exact I.funs
  · rw [e]
    obtain ⟨m, hn, _⟩ := I.loc
    refine .cons (by rw [I.ok.kind]; decide) hf hn ?_ I.funs
    exact Heap.get?_none_of_le (Nat.le_trans I.ok.bsz I.ok.above)
theorem Inv.stkSub (I : Inv X pins σ H s) : ∀ b ∈ frs X.stack, b ∈ X.env.locals :: X.fs := fun b hb => by
  rcases I.ok.stk with e | ⟨e, hf⟩
  · rw [e] at hb; exact List.mem_cons_of_mem _ hb
  · rw [e] at hb
    unfold frs at hb
    rw [List.filterMap_cons, hf] at hb
    exact hb
theorem Inv.stkFree (I : Inv X pins σ H s) : ∀ b ∈ frs X.stack, H b = none := fun b hb => by
  rcases List.mem_cons.mp (I.stkSub b hb) with e | hb
  · rw [e]; exact I.free
  · obtain ⟨_, o, ho, _⟩ := I.ok.funs.mem hb
    exact I.base.free b o ho (I.ok.frf b hb) fun z => I.ok.exfs b z hb
theorem Inv.step {g' : Array GenState} {t' : Nat} {d' : Drawn} {ch : List Addr} (I : Inv X pins σ H s)
    (hch : ∀ b ∈ ch, (b ∈ X.ex ∨ X.s₀.heap.objs.size ≤ b) ∧ b ≠ X.env.locals ∧ (∀ x c, X.env.cells.lookup x = some c → c ≠ b) ∧ ∀ p ∈ X.pn ++ pins, p.1 ≠ b)
    (keep : ∀ b o, b ≠ X.env.locals → b ∉ X.fs → b ∉ ch → s.heap.get? b = some o → H b = none → h'.get? b = some o)
    (slot : ∀ b o, b ≠ X.env.locals → b ∈ X.fs → b ∉ ch → s.heap.get? b = some o → H b = none → ∃ sl, h'.get? b = some { o with slots := sl }) (free : ∀ b o, b ∉ ch → s.heap.get? b = some o → H b = none → H' b = none)
    (there : ∀ b o, b ∉ ch → s.heap.get? b = some o → ∃ o', h'.get? b = some o')
    (tups : ∀ b xs, H b = some (.tup xs) → H' b = some (.tup xs)) (frzs : ∀ b o u, H b = some (.frz o u) → H' b = some (.frz o u)) (tbls : ∀ b ps, H b = some (.tbl ps) → ∃ more, H' b = some (.tbl (ps ++ more)))
    (ns : ∀ m, s.heap.Ns X.env.locals m → h'.Ns X.env.locals m) (hok : HOk X.prog X.w H' h') (hg : AllBare g') :
    Inv X pins σ H' { s with heap := h', gens := g', drawn := d', toks := t' } := by
  have neL : ∀ b o, X.s₀.heap.get? b = some o → b ≠ X.env.locals := fun b o e => Nat.ne_of_lt (Nat.lt_of_lt_of_le (Heap.lt_size e) I.ok.above)
  have neC : ∀ b o, X.s₀.heap.get? b = some o → b ∉ X.ex → b ∉ ch := fun b o e hx hb => by
    rcases (hch b hb).1 with z | z
    · exact hx z
    · exact absurd (Nat.lt_of_lt_of_le (Heap.lt_size e) z) (Nat.lt_irrefl _)
  have cellK : ∀ x c, X.env.cells.lookup x = some c → ∀ v, s.heap.IsCell c v → h'.IsCell c v := fun x c e v ⟨o, ho, hd⟩ => by
    have nch : c ∉ ch := fun z => (hch c z).2.2.1 x c e rfl
    by_cases hc : c ∈ X.fs
    · obtain ⟨sl, q⟩ := slot c o (I.cne x c e) hc nch ho (I.freeC x c e)
      exact ⟨_, q, hd⟩
    · exact ⟨o, keep c o (I.cne x c e) hc nch ho (I.freeC x c e), hd⟩
  refine ⟨I.ok, I.os, hg, ⟨fun b o e n hb hx => ?_, fun b o e n hb hx => ?_, fun b o e n hx => ?_, fun b o e hx => ?_, fun b xs e => tups b xs (I.base.tups b xs e), fun b o xs e => frzs b o xs (I.base.frzs b o xs e), fun b ps e => ?_⟩, ?_, fun x c e => ?_, ?_, fun x c e => ?_, fun p hp => ?_, hok, I.len⟩
  · exact keep b o (neL b o e) hb (neC b o e hx) (I.base.keep b o e n hb hx) (I.base.free b o e n hx)
  · obtain ⟨sl, e1⟩ := I.base.slot b o e n hb hx
    obtain ⟨sl', e2⟩ := slot b _ (neL b o e) hb (neC b o e hx) e1 (I.base.free b o e n hx)
    exact ⟨sl', e2⟩
  · obtain ⟨o', e1⟩ := I.base.there b o e hx
    exact free b o' (neC b o e hx) e1 (I.base.free b o e n hx)
  · obtain ⟨o', e1⟩ := I.base.there b o e hx
    exact there b o' (neC b o e hx) e1
  · obtain ⟨m1, e1⟩ := I.base.tbls b ps e
    obtain ⟨m2, e2⟩ := tbls b _ e1
    exact ⟨m1 ++ m2, by rw [e2, Array.append_assoc]⟩
  · obtain ⟨m, hn, hl⟩ := I.loc
    refine ⟨m, ns m hn, fun i x v e1 e2 e3 => ?_⟩
    obtain ⟨u, r, l⟩ := hl i x v e1 e2 e3
    refine ⟨u, r, ?_⟩
    rcases l with l | ⟨k, c, e, z⟩
    · exact .inl l
    · exact .inr ⟨k, c, e, cellK x c e _ z⟩
  · obtain ⟨v, z⟩ := I.cell x c e
    exact ⟨v, cellK x c e v z⟩
  · obtain ⟨m, ⟨o, _, _, ho, _⟩, _⟩ := I.loc
    exact free _ o (fun z => (hch _ z).2.1 rfl) ho I.free
  · obtain ⟨v, o, ho, hd⟩ := I.cell x c e
    exact free c o (fun z => (hch c z).2.2.1 x c e rfl) ho (I.freeC x c e)
  · obtain ⟨e, n, ne, nf, d⟩ := I.pin p hp
    have nch : p.1 ∉ ch := fun z => (hch p.1 z).2.2.2 p hp rfl
    exact ⟨keep p.1 p.2 ne nf nch e n, free p.1 p.2 nch e n, ne, nf, d⟩
theorem Inv.un {t' : Nat} (I : Inv X pins σ H s) (u : Un X.fs [] H H' s.heap h') (hok : HOk X.prog X.w H' h') : Inv X pins σ H' { s with heap := h', toks := t' } := by
  obtain ⟨m, ⟨o, es, ep, ho, r⟩, _⟩ := id I.loc
  obtain ⟨sl, hL⟩ := u.any ho I.free (by simp)
  exact I.step (g' := s.gens) (d' := s.drawn) (ch := []) (fun _ z => nomatch z) (fun b o _ hb _ e n => u.keep b o e n hb (by simp)) (fun b o _ hb _ e n => u.slot b o e n hb (by simp)) (fun b o _ e n => u.free b o e n (by simp)) (fun b o _ e => u.there b o e (by simp)) u.tups u.frzs u.tbls (fun m' hm => by
    obtain ⟨o', es', ep', ho', r'⟩ := hm
    rw [ho] at ho'; cases ho'
    exact ⟨_, es', ep', hL, r'⟩) hok I.bare
theorem Inv.call {g' : Array GenState} {t' : Nat} {d' : Drawn} {ch : List Addr} (I : Inv X pins σ H s) (u : Un (frs X.stack) ch H H' s.heap h') (hok : HOk X.prog X.w H' h') (hg : AllBare g')
    (hch : ∀ b ∈ ch, (b ∈ X.ex ∨ X.s₀.heap.objs.size ≤ b) ∧ b ≠ X.env.locals ∧ (∀ x c, X.env.cells.lookup x = some c → c ≠ b) ∧ ∀ p ∈ X.pn ++ pins, p.1 ≠ b) :
    Inv X pins σ H' { s with heap := h', gens := g', drawn := d', toks := t' } := by
  obtain ⟨m, ⟨o, es, ep, ho, r⟩, _⟩ := id I.loc
  obtain ⟨sl, hL⟩ := u.any ho I.free fun z => (hch _ z).2.1 rfl
  exact I.step (ch := ch) hch (fun b o hL hb hc e n => u.keep b o e n (fun z => (List.mem_cons.mp (I.stkSub b z)).elim hL hb) hc) (fun b o _ _ hc e n => u.any e n hc) (fun b o hc e n => u.free b o e n hc) (fun b o hc e => u.there b o e hc) u.tups u.frzs u.tbls (fun m' hm => by
    obtain ⟨o', es', ep', ho', r'⟩ := hm
    rw [ho] at ho'; cases ho'
    exact ⟨_, es', ep', hL, r'⟩) hok hg
theorem Inv.turned {t' : Nat} {it : Addr} (I : Inv X pins σ H s) (k : ∀ b o, b ≠ it → s.heap.get? b = some o → h'.get? b = some o) (hn : H it = none) (hL : it ≠ X.env.locals)
    (h1 : it ∈ X.ex ∨ X.s₀.heap.objs.size ≤ it) (h2 : ∀ x c, X.env.cells.lookup x = some c → c ≠ it) (h3 : ∀ p ∈ X.pn ++ pins, p.1 ≠ it) : Inv X pins σ H { s with heap := h', toks := t' } := by
  have nit : ∀ b u, H b = some u → b ≠ it := fun b u e z => by rw [z, hn] at e; cases e
  refine I.step (g' := s.gens) (d' := s.drawn) (ch := [it]) (fun b hb => ?_) (fun b o _ _ hc e _ => k b o (fun z => hc (by simp [z])) e) (fun b o _ _ hc e _ => ⟨o.slots, k b o (fun z => hc (by simp [z])) e⟩) (fun _ _ _ _ n => n)
    (fun b o hc e => ⟨o, k b o (fun z => hc (by simp [z])) e⟩) (fun _ _ e => e) (fun _ _ _ e => e) (fun b ps e => ⟨#[], by rw [e]; simp⟩) (fun m hm => ?_) (fun b u e => ?_) I.bare
  · have e : b = it := by simpa using hb
    subst e
    exact ⟨h1, hL, h2, h3⟩
  · obtain ⟨o, es, ep, ho, r⟩ := hm
    exact ⟨o, es, ep, k _ o (Ne.symm hL) ho, r⟩
  · refine (I.hok b u e).stay (fun c v hc q => k c v ?_ q) (fun _ q => q) fun _ _ q => q
    rcases hc with z | z
    · rw [z]; exact nit b u e
    · exact nit c _ z
theorem Inv.tok (I : Inv X pins σ H s) (t : Nat) : Inv X pins σ H { s with toks := t } := I.un (h' := s.heap) (t' := t) Un.refl I.hok
theorem Inv.kept {t' : Nat} (I : Inv X pins σ H s) (k : ∀ b u, s.heap.get? b = some u → h'.get? b = some u) : Inv X pins σ H { s with heap := h', toks := t' } := I.un (Un.kept k) (I.hok.kept k)
theorem Inv.laid {a : Addr} {o : HO} {t' : Nat} (I : Inv X pins σ H s) (k : ∀ b u, s.heap.get? b = some u → h'.get? b = some u) (hp : s.heap.objs.size ≤ a) (new : ObjOk X.prog X.w (upd H a o) h' a o) :
    Inv X pins σ (upd H a o) { s with heap := h', toks := t' } := I.un (Un.laid k hp (I.hok.fresh hp)) (I.hok.laid k hp new)
theorem Inv.write {x e : Addr} {o : HO} {t' : Nat} (I : Inv X pins σ H s) (mu : Mut (H x)) (he : e = x ∨ H e = some (.own x)) (k : ∀ b u, b ≠ e → s.heap.get? b = some u → h'.get? b = some u) (heo : ∃ u, h'.get? e = some u)
    (new : ObjOk X.prog X.w (upd H x o) h' x o) : Inv X pins σ (upd H x o) { s with heap := h', toks := t' } := I.un (Un.write mu he k heo) (I.hok.write mu he k heo new)
theorem Inv.weak {σ' : List (Option V)} (I : Inv X pins σ H s) (hl : σ'.length = σ.length) (w : ∀ (i : Nat) v, σ'[i]? = some (some v) → σ[i]? = some (some v)) : Inv X pins σ' H s :=
  ⟨I.ok, I.os, I.bare, I.base, let ⟨m, hn, hl'⟩ := I.loc; ⟨m, hn, fun i x v e1 e2 e3 => hl' i x v e1 (w i v e2) e3⟩, I.cell, I.free, I.freeC, I.pin, I.hok, hl.trans I.len⟩
theorem Inv.pins_of {pins' : List (Addr × Obj)} (I : Inv X pins σ H s) (h : ∀ p ∈ pins', s.heap.get? p.1 = some p.2 ∧ H p.1 = none ∧ p.1 ≠ X.env.locals ∧ p.1 ∉ X.fs ∧ ∀ v, p.2.data ≠ .cell v) : Inv X pins' σ H s :=
  ⟨I.ok, I.os, I.bare, I.base, I.loc, I.cell, I.free, I.freeC, fun p hp => (List.mem_append.mp hp).elim (fun z => I.pin p (List.mem_append_left _ z)) (h p), I.hok, I.len⟩
theorem nodup_ix {N : List Str} (hN : N.Nodup) {i j : Nat} {x : Str} (a : N[i]? = some x) (b : N[j]? = some x) : i = j := by
  obtain ⟨h1, e1⟩ := List.getElem?_eq_some_iff.mp a
  obtain ⟨h2, e2⟩ := List.getElem?_eq_some_iff.mp b
  exact (List.getElem_inj hN).mp (e1.trans e2.symm)
theorem store_ok2 {M : Model} {A : Around} {E : Value → Shared → Prop} {i : Nat} {x : Str} {v : V} {u : Value} {Q : Unit → Shared → Prop} (I : Inv X pins σ H s) (hN : X.N.Nodup) (hi : X.N[i]? = some x) (hx : Loc X.env.scope x) (r : RelV v u)
    (h : ∀ s', Inv X pins (σ.set i (some v)) H s' → (∃ a, Heap.SameBut a s.heap s'.heap ∧ (a = X.env.locals ∨ X.env.cells.lookup x = some a)) → Q () s') (hf : X.fn x = true ∨ X.env.scope.names.lookup x = some .local := by first | exact .inl rfl | exact .inr rfl | assumption) : wpAny M A (storeName X.env x u) Q E s := by
  obtain ⟨m, hn, hl⟩ := id I.loc
  have hcls : (X.env.scope.kind == .class || (X.env.scope.kind == .module && X.env.locals != X.env.globals)) = false := by rw [I.ok.kind]; rfl
  have hiσ : i < σ.length := by rw [I.len]; exact (List.getElem?_eq_some_iff.mp hi).1
  have cne := I.cne
  have tracked : ∀ {a : Addr} {h' : Heap}, (∃ o, s.heap.get? a = some o ∧ H a = none) → Heap.SameBut a s.heap h' → HOk X.prog X.w H h' := fun {a h'} ha hs b ob e => by
    obtain ⟨_, _, hfree⟩ := ha
    refine (I.hok b ob e).stay (fun c w' hc q => (hs.2 c ?_).trans q) (fun _ q => q) fun _ _ q => q
    rintro rfl
    rcases hc with rfl | hc
    · rw [hfree] at e; cases e
    · rw [hfree] at hc; cases hc
  rcases hx with hk | hk
  · refine wpAny_storeName_local hk hn (fun h' hn' hs => ?_) hcls
    obtain ⟨oL, _, _, hoL, _⟩ := id hn
    refine h _ ⟨I.ok, I.os, I.bare, ⟨fun b o e n hb hx => ?_, fun b o e n hb hx => ?_, I.base.free, fun b o e hx => ?_, I.base.tups, I.base.frzs, I.base.tbls⟩, ⟨_, hn', fun j y v' e1 e2 e3 => ?_⟩, fun y c e => ?_, I.free, I.freeC, fun p hp => ?_, tracked ⟨oL, hoL, I.free⟩ hs, by simpa using I.len⟩ ⟨_, hs, .inl rfl⟩
    · exact (hs.2 b (Nat.ne_of_lt (Nat.lt_of_lt_of_le (Heap.lt_size e) I.ok.above))).trans (I.base.keep b o e n hb hx)
    · obtain ⟨sl, e1⟩ := I.base.slot b o e n hb hx
      exact ⟨sl, (hs.2 b (Nat.ne_of_lt (Nat.lt_of_lt_of_le (Heap.lt_size e) I.ok.above))).trans e1⟩
    · obtain ⟨o', e1⟩ := I.base.there b o e hx
      exact ⟨o', (hs.2 b (Nat.ne_of_lt (Nat.lt_of_lt_of_le (Heap.lt_size e) I.ok.above))).trans e1⟩
    · by_cases hj : j = i
      · subst hj
        rw [hi] at e1; cases e1
        rw [List.getElem?_set_self hiσ] at e2
        cases e2
        exact ⟨u, r, .inl ⟨hk, by simp⟩⟩
      · rw [List.getElem?_set_ne (Ne.symm hj)] at e2
        obtain ⟨u', r', q⟩ := hl j y v' e1 e2 e3
        refine ⟨u', r', ?_⟩
        rcases q with ⟨k, e⟩ | ⟨k, c, e, z⟩
        · refine .inl ⟨k, ?_⟩
          have : y ≠ x := fun e => hj (nodup_ix hN e1 (e ▸ hi))
          simp [this, e]
        · exact .inr ⟨k, c, e, z.sameBut hs (cne y c e)⟩
    · obtain ⟨w', z⟩ := I.cell y c e
      exact ⟨w', z.sameBut hs (cne y c e)⟩
    · obtain ⟨e, n, ne, nf, d⟩ := I.pin p hp
      exact ⟨(hs.2 p.1 ne).trans e, n, ne, nf, d⟩
  · have hfn : X.fn x = true := by
      rcases hf with z | z
      · exact z
      · rw [z] at hk; cases hk
    obtain ⟨c, hc⟩ := I.ok.has x (.inl hk)
    obtain ⟨w', z⟩ := I.cell x c hc
    refine wpAny_storeName_cell I.ok.kind hk hc z (fun h' hc' hs => ?_)
    obtain ⟨oc, hoc, hocd⟩ := id z
    refine h { s with heap := h' } ⟨I.ok, I.os, I.bare, ⟨fun b o e n hb hx => ?_, fun b o e n hb hx => ?_, I.base.free, fun b o e hx => ?_, I.base.tups, I.base.frzs, I.base.tbls⟩, ⟨m, hn.sameBut hs (Ne.symm (cne x c hc)), fun j y v' e1 e2 e3 => ?_⟩, fun y c' e => ?_, I.free, I.freeC, fun p hp => ?_, tracked ⟨oc, hoc, I.freeC x c hc⟩ hs, by simpa using I.len⟩ ⟨c, hs, .inr hc⟩
    · exact (hs.2 b (Nat.ne_of_lt (Nat.lt_of_lt_of_le (Heap.lt_size e) (I.ok.cab x c hfn hc)))).trans (I.base.keep b o e n hb hx)
    · obtain ⟨sl, e1⟩ := I.base.slot b o e n hb hx
      exact ⟨sl, (hs.2 b (Nat.ne_of_lt (Nat.lt_of_lt_of_le (Heap.lt_size e) (I.ok.cab x c hfn hc)))).trans e1⟩
    · obtain ⟨o', e1⟩ := I.base.there b o e hx
      exact ⟨o', (hs.2 b (Nat.ne_of_lt (Nat.lt_of_lt_of_le (Heap.lt_size e) (I.ok.cab x c hfn hc)))).trans e1⟩
    · by_cases hj : j = i
      · subst hj
        rw [hi] at e1; cases e1
        rw [List.getElem?_set_self hiσ] at e2
        cases e2
        exact ⟨u, r, .inr ⟨.inl hk, c, hc, hc'⟩⟩
      · rw [List.getElem?_set_ne (Ne.symm hj)] at e2
        obtain ⟨u', r', q⟩ := hl j y v' e1 e2 e3
        refine ⟨u', r', ?_⟩
        rcases q with q | ⟨k, c', e, z'⟩
        · exact .inl q
        · refine .inr ⟨k, c', e, z'.sameBut hs ?_⟩
          rintro rfl
          exact hj (nodup_ix hN e1 (I.ok.inj _ _ _ e hc ▸ hi))
    · by_cases hcc : c' = c
      · subst hcc; exact ⟨_, hc'⟩
      · obtain ⟨w2, z2⟩ := I.cell y c' e
        exact ⟨w2, z2.sameBut hs hcc⟩
    · obtain ⟨e, n, ne, nf, d⟩ := I.pin p hp
      refine ⟨(hs.2 p.1 ?_).trans e, n, ne, nf, d⟩
      intro q
      rw [q, hoc] at e
      have q' : oc = p.2 := Option.some.inj e
      exact d w' (by rw [← q']; exact hocd)
theorem store_ok {M : Model} {A : Around} {E : Value → Shared → Prop} {i : Nat} {x : Str} {v : V} {u : Value} {Q : Unit → Shared → Prop} (I : Inv X pins σ H s) (hN : X.N.Nodup) (hi : X.N[i]? = some x) (hx : Loc X.env.scope x) (r : RelV v u)
    (h : ∀ s', Inv X pins (σ.set i (some v)) H s' → Q () s') (hf : X.fn x = true ∨ X.env.scope.names.lookup x = some .local := by first | exact .inl rfl | exact .inr rfl | assumption) : wpAny M A (storeName X.env x u) Q E s :=
  store_ok2 I hN hi hx r (fun s' I' _ => h s' I') hf
theorem Inv.call' {s' : Shared} {ch : List Addr} (I : Inv X pins σ H s) (ho : s'.os = s.os) (u : Un (frs X.stack) ch H H' s.heap s'.heap) (hok : HOk X.prog X.w H' s'.heap) (hg : AllBare s'.gens)
    (hch : ∀ b ∈ ch, (b ∈ X.ex ∨ X.s₀.heap.objs.size ≤ b) ∧ b ≠ X.env.locals ∧ (∀ x c, X.env.cells.lookup x = some c → c ≠ b) ∧ ∀ p ∈ X.pn ++ pins, p.1 ≠ b) : Inv X pins σ H' s' := by
  obtain ⟨h', g', d', t', o'⟩ := s'
  have e : o' = s.os := ho
  subst e
  exact I.call (g' := g') (t' := t') (d' := d') u hok hg hch
end
abbrev XK := Value → Option Addr → Hp → Prop
abbrev St := List (Option V)
abbrev VK := V → Hp → Prop
abbrev TE := St → Hp → VK → Prop
abbrev TT := St → Hp → (Bool → Hp → Prop) → Prop
abbrev TA := St → Hp → (List V → Hp → Prop) → Prop
structure Ends where
  nx : St → Hp → Prop
  rt : VK
  bk : St → Hp → Prop := fun _ _ => False
  ct : St → Hp → Prop := fun _ _ => False
abbrev TS := Ends → St → Hp → Prop
def EP (X : Cx) (pins : List (Addr × Obj)) (σ : St) (Q : VK) (u : Value) (s' : Shared) : Prop := ∃ v H', Inv X pins σ H' s' ∧ RelV v u ∧ Q v H'
def TP (X : Cx) (pins : List (Addr × Obj)) (σ : St) (Q : Bool → Hp → Prop) (b : Bool) (s' : Shared) : Prop := ∃ H', Inv X pins σ H' s' ∧ Q b H'
def AP (X : Cx) (pins : List (Addr × Obj)) (σ : St) (Q : List V → Hp → Prop) (us : List Value) (s' : Shared) : Prop := ∃ vs H', Inv X pins σ H' s' ∧ Vals vs us ∧ Q vs H'
def SP (X : Cx) (pins : List (Addr × Obj)) (D : Ends) (f : Flow) (s' : Shared) : Prop :=
  match f with
  | .next => ∃ σ' H', Inv X pins σ' H' s' ∧ D.nx σ' H'
  | .brk => ∃ σ' H', Inv X pins σ' H' s' ∧ D.bk σ' H'
  | .cont => ∃ σ' H', Inv X pins σ' H' s' ∧ D.ct σ' H'
  | .ret u => ∃ v σ' H', Inv X pins σ' H' s' ∧ RelV v u ∧ D.rt v H'
def PE (X : Cx) (e : Expr) (t : TE) : Prop :=
  ∀ (pins : List (Addr × Obj)) (s : Shared) (σ : St) (H : Hp) (Q : VK), Inv X pins σ H s → t σ H Q → wpAny (model X.prog X.w) X.A (eval e X.env) (EP X pins σ Q) X.xe s
def PT (X : Cx) (e : Expr) (t : TT) : Prop :=
  ∀ (pins : List (Addr × Obj)) (s : Shared) (σ : St) (H : Hp) (Q : Bool → Hp → Prop), Inv X pins σ H s → t σ H Q → wpAny (model X.prog X.w) X.A (isTrue e X.env (eval e X.env)) (TP X pins σ Q) X.xe s
def PW (X : Cx) (e : Expr) (t : TT) : Prop :=
  ∀ (whole : Sem Value) (pins : List (Addr × Obj)) (s : Shared) (σ : St) (H : Hp) (Q : Bool → Hp → Prop), Inv X pins σ H s → t σ H Q → wpAny (model X.prog X.w) X.A (isTrue e X.env whole) (TP X pins σ Q) X.xe s
theorem PW.pt {X : Cx} {e : Expr} {t : TT} (h : PW X e t) : PT X e t := h _
def PA (X : Cx) (es : List Expr) (t : TA) : Prop :=
  ∀ (pos : Pos) (pins : List (Addr × Obj)) (s : Shared) (σ : St) (H : Hp) (Q : List V → Hp → Prop), Inv X pins σ H s → t σ H Q → wpAny (model X.prog X.w) X.A (spliced (backTo pos (starEach es X.env))) (AP X pins σ Q) X.xe s
def PS (X : Cx) (st : Stmt) (t : TS) : Prop :=
  ∀ (pins : List (Addr × Obj)) (s : Shared) (σ : St) (H : Hp) (D : Ends), Inv X pins σ H s → t D σ H → wpAny (model X.prog X.w) X.A (exec st X.env) (SP X pins D) X.xe s
def PSs (X : Cx) (st : List Stmt) (t : TS) : Prop :=
  ∀ (pins : List (Addr × Obj)) (s : Shared) (σ : St) (H : Hp) (D : Ends), Inv X pins σ H s → t D σ H → wpAny (model X.prog X.w) X.A (execs st X.env) (SP X pins D) X.xe s
theorem thn {α : Type} {t : Sem α} {Q Q' : α → Shared → Prop} {M : Model} {A : Around} {E : Value → Shared → Prop} {s : Shared} (h : wpAny M A t Q E s) (hQ : ∀ a s, Q a s → Q' a s) : wpAny M A t Q' E s := wpAny_mono h hQ fun _ _ x => x
end L2
namespace L2
open PySem PySem.Spec PyProof.Rows
section
variable {X : Cx}
theorem bin {a b : Expr} {ta tb : TE} (ha : PE X a ta) (hb : PE X b tb) {pins : List (Addr × Obj)} {s : Shared} {σ : St} {H : Hp} {R : V → V → Hp → Prop} (I : Inv X pins σ H s) (h : ta σ H fun x H1 => tb σ H1 fun y H2 => R x y H2)
    {α : Type} {Q : α → Shared → Prop} {f : Value → Value → Sem α}
    (hf : ∀ v u s2 x y H2, Inv X pins σ H2 s2 → RelV x v → RelV y u → R x y H2 → wpAny (model X.prog X.w) X.A (f v u) Q X.xe s2) :
    wpAny (model X.prog X.w) X.A (eval a X.env) (fun v s₁ => wpAny (model X.prog X.w) X.A (eval b X.env) (fun u s₂ => wpAny (model X.prog X.w) X.A (f v u) Q X.xe s₂) X.xe s₁) X.xe s := by
  refine thn (ha pins s σ H _ I h) fun v s1 ⟨x, H1, I1, r1, q1⟩ => ?_
  refine thn (hb pins s1 σ H1 _ I1 q1) fun u s2 ⟨y, H2, I2, r2, q2⟩ => ?_
  exact hf v u s2 x y H2 I2 r1 r2 q2
def tVar (i : Nat) : TE := fun σ H Q => ∃ v, σ[i]? = some (some v) ∧ Q v H
def tC (v : V) : TE := fun _ H Q => Q v H
theorem pe_var {i : Nat} {x : Str} {pos : Pos} (hN : X.N[i]? = some x) (hv : Vis X.env.scope x) (hd : (x == ("__debug__" : Str)) = false := by decide) (hcd : (x == ("__classdict__" : Str)) = false := by decide) : PE X (.Name x pos) (tVar i) := by
  intro pins s σ H Q I h
  obtain ⟨v, e, h⟩ := h
  obtain ⟨m, hn, hl⟩ := I.loc
  obtain ⟨u, r, l⟩ := hl i x v hN e hv
  have fin : EP X pins σ Q u s := ⟨v, H, I, r, h⟩
  rcases l with ⟨hk, hm⟩ | ⟨hk, c, hc, hcell⟩
  · exact wpAny_Name (wpAny_loadName_local I.ok.kind hk hn hm fin) hd
  · rcases hk with hk | hk
    · exact wpAny_Name (wpAny_loadName_cell I.ok.kind hk hc hcell fin) hd
    · exact wpAny_Name (wpAny_loadName_free I.ok.kind hk hc hcell fin hcd) hd
theorem pe_int {i j pos} : PE X (.Constant (.int i) j pos) (tC (.int i)) := fun _ _ _ H _ I h => wpAny_Constant_int ⟨.int i, H, I.tok _, ⟨_, rfl⟩, h⟩
theorem pe_bl {b j pos} : PE X (.Constant (.bool b) j pos) (tC (.bl b)) := fun _ _ _ H _ I h => Constant_bool ⟨.bl b, H, I, rfl, h⟩
theorem pe_str {x j pos} : PE X (.Constant (.str x) j pos) (tC (.str x)) := fun _ _ _ H _ I h => Calls.Constant_str ⟨.str x, H, I.tok _, ⟨_, rfl⟩, h⟩
def Gl (X : Cx) (x : Str) : Prop := X.env.kindOf x = some .globalImplicit
theorem ld_glob {E : Value → Shared → Prop} {pins : List (Addr × Obj)} {s : Shared} {σ : St} {H : Hp} {x : Str} {u : Value} {pos : Pos} {Q : Value → Shared → Prop} (I : Inv X pins σ H s) (hg : Gl X x) (hm : X.mg x = some u) (h : Q u s)
    (hd : (x == ("__debug__" : Str)) = false := by decide) : wpAny (model X.prog X.w) X.A (eval (.Name x pos) X.env) Q E s :=
  Calls.Name_function_global I.ok.kind hg (Calls.loadGlobal_global (by rw [I.ok.glob]; exact I.mod.glob.keeps I.bk) hm h) hd
theorem ld_blt {E : Value → Shared → Prop} {pins : List (Addr × Obj)} {s : Shared} {σ : St} {H : Hp} {x : Str} {u : Value} {pos : Pos} {Q : Value → Shared → Prop} (I : Inv X pins σ H s) (hg : Gl X x) (hm : X.mg x = none) (hv : bootBuiltins x = some u) (h : Q u s)
    (hn : x ≠ "__name__" := by decide) (hd : (x == ("__debug__" : Str)) = false := by decide) : wpAny (model X.prog X.w) X.A (eval (.Name x pos) X.env) Q E s := by
  obtain ⟨mb, h1, h2⟩ := I.mod.blt
  exact Calls.Name_function_global I.ok.kind hg (Calls.loadGlobal_builtin (by rw [I.ok.glob]; exact I.mod.glob.keeps I.bk) hm (by rw [I.ok.blt]; exact h1.keeps I.bk) ((h2 x hn).trans hv) h) hd
theorem pe_bltn {x : Str} {v : V} {u : Value} {pos : Pos} (hg : Gl X x) (hm : X.mg x = none) (hv : bootBuiltins x = some u) (r : RelV v u) (hn : x ≠ "__name__" := by decide) (hd : (x == ("__debug__" : Str)) = false := by decide) : PE X (.Name x pos) (tC v) :=
  fun _ _ _ H _ I h => ld_blt I hg hm hv ⟨v, H, I, r, h⟩ hn hd
variable {a b : Expr} {ta tb : TE} {pos : Pos}
def PC (X : Cx) (op : CmpOp) (a b : Expr) (t : TE) : Prop :=
  ∀ (pins : List (Addr × Obj)) (s : Shared) (σ : St) (H : Hp) (Q : VK), Inv X pins σ H s → t σ H Q →
    wpAny (model X.prog X.w) X.A (eval a X.env) (fun v s₁ => wpAny (model X.prog X.w) X.A (eval b X.env) (fun u s₂ => wpAny (model X.prog X.w) X.A (compareOp op v u) (EP X pins σ Q) X.xe s₂) X.xe s₁) X.xe s
theorem nobehind (b : Expr) {op : CmpOp} (h : op ≠ .In) (h2 : op ≠ .NotIn) : behindInMarks op b = false := by
  have e1 : (op == CmpOp.In) = false := by cases op <;> first | rfl | exact absurd rfl h
  have e2 : (op == CmpOp.NotIn) = false := by cases op <;> first | rfl | exact absurd rfl h2
  cases b <;> simp [behindInMarks, e1, e2]
def tB (t : TE) : TT := fun σ H Q => t σ H fun x H1 => ∃ c, x = .bl c ∧ Q c H1
theorem pt_cmp {op : CmpOp} {t : TE} (h : PC X op a b t) (h1 : behindInMarks op b = false := by first | exact nobehind _ (by decide) (by decide) | rfl) : PT X (.Compare a [op] [b] pos) (tB t) := by
  intro pins s σ H Q I hw
  refine wpAny_isTrue_Compare1 (thn (h pins s σ H _ I hw) fun v s1 h1 => thn h1 fun u s2 h2 => thn h2 fun c s3 ⟨x, H1, I1, r1, q1⟩ => ?_) h1
  obtain ⟨d, rfl, q⟩ := q1
  cases r1
  exact wpAny_truthy_bool ⟨H1, I1, q⟩
theorem pt_val {e : Expr} {t : TE} (h : PE X e t) (he : ∀ whole, isTrue e X.env whole = (do let v ← whole; standAt e.pos; holding [v] (truthy v)) := by intro _; rfl) : PT X e (tB t) := by
  intro pins s σ H Q I hw
  refine isTrue_plain (thn (h pins s σ H _ I hw) fun v s1 ⟨x, H1, I1, r1, q1⟩ => ?_) (he _)
  obtain ⟨d, rfl, q⟩ := q1
  cases r1
  exact wpAny_truthy_bool ⟨H1, I1, q⟩
variable {tA tB' : TT} {rest : List Expr}
def tAnd (t u : TT) : TT := fun σ H Q => t σ H fun c H1 => if c = true then u σ H1 Q else Q false H1
def tOr (t u : TT) : TT := fun σ H Q => t σ H fun c H1 => if c = true then Q true H1 else u σ H1 Q
def tNot (t : TT) : TT := fun σ H Q => t σ H fun c H1 => Q (!c) H1
theorem pw_and1 (ha : PT X a tA) : PW X (.BoolOp .And [a] pos) tA := by
  intro wh pins s σ H Q I h
  refine isTrue_and (thn (ha pins s σ H Q I h) fun c s1 e => ?_)
  cases c with
  | true => exact isTrue_and_nil e
  | false => exact e
theorem pw_or1 (ha : PT X a tA) : PW X (.BoolOp .Or [a] pos) tA := by
  intro wh pins s σ H Q I h
  refine isTrue_or (thn (ha pins s σ H Q I h) fun c s1 e => ?_)
  cases c with
  | false => exact isTrue_or_nil e
  | true => exact e
theorem pw_and (ha : PT X a tA) (hb : PW X (.BoolOp .And (b :: rest) pos) tB') : PW X (.BoolOp .And (a :: b :: rest) pos) (tAnd tA tB') := by
  intro wh pins s σ H Q I h
  refine isTrue_and (thn (ha pins s σ H _ I h) fun c s1 ⟨H1, I1, q1⟩ => ?_)
  cases c with
  | true => exact hb wh pins s1 σ H1 Q I1 q1
  | false => exact ⟨H1, I1, q1⟩
theorem pw_or (ha : PT X a tA) (hb : PW X (.BoolOp .Or (b :: rest) pos) tB') : PW X (.BoolOp .Or (a :: b :: rest) pos) (tOr tA tB') := by
  intro wh pins s σ H Q I h
  refine isTrue_or (thn (ha pins s σ H _ I h) fun c s1 ⟨H1, I1, q1⟩ => ?_)
  cases c with
  | true => exact ⟨H1, I1, q1⟩
  | false => exact hb wh pins s1 σ H1 Q I1 q1
theorem pt_not (ha : PT X a tA) : PT X (.UnaryOp .Not a pos) (tNot tA) := by
  intro pins s σ H Q I h
  exact isTrue_not (ha pins s σ H (fun c H1 => Q (!c) H1) I h)
def tAndV (ta tb : TE) : TE := fun σ H Q => ta σ H fun x H1 => ∃ c, x = .bl c ∧ if c = true then tb σ H1 Q else Q (.bl false) H1
def tOrV (ta tb : TE) : TE := fun σ H Q => ta σ H fun x H1 => ∃ c, x = .bl c ∧ if c = true then Q (.bl true) H1 else tb σ H1 Q
def tNotV (ta : TE) : TE := fun σ H Q => ta σ H fun x H1 => ∃ c, x = .bl c ∧ Q (.bl (!c)) H1
theorem pe_one {op} {t : TE} (h : PE X a t) : PE X (.BoolOp op [a] pos) t := fun pins s σ H Q I hw => BoolOp_one (h pins s σ H Q I hw)
theorem pe_and (ha : PE X a ta) (hb : PE X (.BoolOp .And (b :: rest) pos) tb) : PE X (.BoolOp .And (a :: b :: rest) pos) (tAndV ta tb) := by
  intro pins s σ H Q I h
  refine BoolOp_and (thn (ha pins s σ H _ I h) fun v s1 ⟨x, H1, I1, r1, q1⟩ => ?_)
  obtain ⟨c, rfl, q1⟩ := q1
  cases r1
  refine wpAny_truthy_bool ?_
  cases c with
  | true => exact hb pins s1 σ H1 Q I1 q1
  | false => exact ⟨.bl false, H1, I1, rfl, q1⟩
theorem pe_or (ha : PE X a ta) (hb : PE X (.BoolOp .Or (b :: rest) pos) tb) : PE X (.BoolOp .Or (a :: b :: rest) pos) (tOrV ta tb) := by
  intro pins s σ H Q I h
  refine BoolOp_or (thn (ha pins s σ H _ I h) fun v s1 ⟨x, H1, I1, r1, q1⟩ => ?_)
  obtain ⟨c, rfl, q1⟩ := q1
  cases r1
  refine wpAny_truthy_bool ?_
  cases c with
  | false => exact hb pins s1 σ H1 Q I1 q1
  | true => exact ⟨.bl true, H1, I1, rfl, q1⟩
theorem pe_not (ha : PE X a ta) : PE X (.UnaryOp .Not a pos) (tNotV ta) := by
  intro pins s σ H Q I h
  refine UnaryOp_ (thn (ha pins s σ H _ I h) fun v s1 ⟨x, H1, I1, r1, q1⟩ => ?_)
  obtain ⟨c, rfl, q1⟩ := q1
  cases r1
  exact not_of (wpAny_truthy_bool ⟨.bl (!c), H1, I1, rfl, q1⟩)
end
end L2
namespace L2
open PySem PySem.Spec PyProof.Rows
def SqL (K : PySem.W.Frag) (H : Hp) (a : Addr) (xs : List V) : Prop :=
  Rd H a (.lst xs) ∨
    ∃ (o : Obj) (its : Array Value) (n : Nat), K.lookup a = some o ∧ o.cls = .type "list" ∧ o.dict = none ∧ o.data = .seq its n ∧ its.size ≤ sizeLine ∧ Vals xs its.toList
def SqT (K : PySem.W.Frag) (H : Hp) (a : Addr) (xs : List V) : Prop :=
  Rd H a (.tup xs) ∨
    ∃ (o : Obj) (its : Array Value) (n : Nat), K.lookup a = some o ∧ o.cls = .type "tuple" ∧ o.data = .seq its n ∧ its.size ≤ sizeLine ∧ Vals xs its.toList
def absV : Value → Option V
  | .none => some .non
  | .bool b => some (.bl b)
  | .int i _ => some (.int i)
  | .str x _ => some (.str x)
  | .bytes b _ => some (.byt b)
  | .float b _ => some (.flt b)
  | .ref a => some (.ref a)
  | .type n => some (.ty n)
  | _ => none
theorem RelV.abs {x : V} {u : Value} (r : RelV x u) : absV u = some x := by
  cases x with
  | non => cases r; rfl
  | bl _ => cases r; rfl
  | int _ => obtain ⟨t, rfl⟩ := r; rfl
  | str _ => obtain ⟨t, rfl⟩ := r; rfl
  | byt _ => obtain ⟨t, rfl⟩ := r; rfl
  | flt _ => obtain ⟨t, rfl⟩ := r; rfl
  | ref _ => cases r; rfl
  | ty _ => cases r; rfl
theorem RelV.inj {x y : V} {u : Value} (r : RelV x u) (q : RelV y u) : x = y := Option.some.inj (r.abs.symm.trans q.abs)
theorem Vals.inj : ∀ {xs ys : List V} {us : List Value}, Vals xs us → Vals ys us → xs = ys
  | _, _, _, .nil, .nil => rfl
  | _, _, _, .cons r t, .cons r' t' => by rw [r.inj r', Vals.inj t t']
section
variable {X : Cx} {pins : List (Addr × Obj)} {σ : St} {H : Hp} {s : Shared} {a : Addr} {xs ys : List V}
theorem SqL.of {K : PySem.W.Frag} (h : H a = some (.lst xs)) : SqL K H a xs := .inl (.inl h)
theorem SqT.of {K : PySem.W.Frag} (h : H a = some (.tup xs)) : SqT K H a xs := .inl (.inl h)
theorem Inv.list (I : Inv X pins σ H s) (h : SqL X.K H a xs) : ∃ its : List Value, Vals xs its ∧ PlainL s.heap a its.toArray ∧ xs.length ≤ sizeLine := by
  rcases h with h | ⟨o, its, n, hk, hc, hd, hs, hz, r⟩
  · obtain ⟨z, its, n, r, e⟩ := h.ok I.hok
    exact ⟨its, r, ⟨_, n, e, rfl, rfl, rfl⟩, z⟩
  · refine ⟨its.toList, r, ⟨o, n, I.kIn a o hk, hc, hd, by simpa using hs⟩, ?_⟩
    have e := r.length
    simp only [Array.length_toList] at e
    omega
theorem Inv.tuple (I : Inv X pins σ H s) (h : SqT X.K H a xs) : ∃ its : List Value, Vals xs its ∧ IsTup s.heap a its.toArray ∧ xs.length ≤ sizeLine := by
  rcases h with h | ⟨o, its, n, hk, hc, hs, hz, r⟩
  · obtain ⟨z, its, r, p⟩ := h.ok I.hok
    exact ⟨its, r, p, z⟩
  · refine ⟨its.toList, r, ⟨o, I.kIn a o hk, hc, n, by simpa using hs⟩, ?_⟩
    have e := r.length
    simp only [Array.length_toList] at e
    omega
theorem Inv.list_inj (I : Inv X pins σ H s) (h : SqL X.K H a xs) (h' : SqL X.K H a ys) : xs = ys := by
  obtain ⟨its, r, ⟨o, n, e, _, _, d⟩, _⟩ := I.list h
  obtain ⟨its', r', ⟨o', n', e', _, _, d'⟩, _⟩ := I.list h'
  rw [e] at e'; cases e'
  rw [d] at d'
  injection d' with d1 _
  have : its = its' := by simpa using congrArg Array.toList d1
  subst this
  exact r.inj r'
theorem Inv.tuple_inj (I : Inv X pins σ H s) (h : SqT X.K H a xs) (h' : SqT X.K H a ys) : xs = ys := by
  obtain ⟨its, r, ⟨o, e, _, n, d⟩, _⟩ := I.tuple h
  obtain ⟨its', r', ⟨o', e', _, n', d'⟩, _⟩ := I.tuple h'
  rw [e] at e'; cases e'
  rw [d] at d'
  injection d' with d1 _
  have : its = its' := by simpa using congrArg Array.toList d1
  subst this
  exact r.inj r'
end
abbrev Cx.wish (X : Cx) (E : Value → Shared → Prop) : Cx := { X with xe := E }
abbrev Cx.nox (X : Cx) : Cx := X.wish fun _ _ => False
theorem Cx.Ok.wish {X : Cx} (ok : X.Ok) (E : Value → Shared → Prop) : (X.wish E).Ok :=
  ⟨ok.mod, ok.kind, ok.glob, ok.blt, ok.above, ok.inj, ok.has, ok.cab, ok.hd, ok.frames, ok.stk, ok.exf, ok.bs, ok.bsz, ok.noex, ok.exfs, ok.funs, ok.frf⟩
theorem Cx.Ok.unwish {X : Cx} {E : Value → Shared → Prop} (ok : (X.wish E).Ok) : X.Ok :=
  ⟨ok.mod, ok.kind, ok.glob, ok.blt, ok.above, ok.inj, ok.has, ok.cab, ok.hd, ok.frames, ok.stk, ok.exf, ok.bs, ok.bsz, ok.noex, ok.exfs, ok.funs, ok.frf⟩
section
variable {X : Cx} {pins : List (Addr × Obj)} {σ : St} {H : Hp} {s : Shared} {E : Value → Shared → Prop}
theorem Inv.wish (I : Inv X pins σ H s) (E : Value → Shared → Prop) : Inv (X.wish E) pins σ H s := ⟨I.ok.wish E, I.os, I.bare, I.base, I.loc, I.cell, I.free, I.freeC, I.pin, I.hok, I.len⟩
theorem Inv.unwish (I : Inv (X.wish E) pins σ H s) : Inv X pins σ H s := ⟨I.ok.unwish, I.os, I.bare, I.base, I.loc, I.cell, I.free, I.freeC, I.pin, I.hok, I.len⟩
theorem SP.unwish {D : Ends} {f : Flow} {s' : Shared} (h : SP (X.wish E) pins D f s') : SP X pins D f s' := by
  cases f with
  | next => obtain ⟨σ', H', I, q⟩ := h; exact ⟨σ', H', I.unwish, q⟩
  | brk => obtain ⟨σ', H', I, q⟩ := h; exact ⟨σ', H', I.unwish, q⟩
  | cont => obtain ⟨σ', H', I, q⟩ := h; exact ⟨σ', H', I.unwish, q⟩
  | ret u => obtain ⟨v, σ', H', I, r, q⟩ := h; exact ⟨v, σ', H', I.unwish, r, q⟩
theorem PE.nox {e : Expr} {t : TE} (h : PE X.nox e t) : PE X e t := fun pins s σ H Q I hw =>
  wpAny_mono (h pins s σ H Q (I.wish _) hw) (fun _ _ ⟨v, H', I', r, q⟩ => ⟨v, H', I'.unwish, r, q⟩) fun _ _ z => False.elim z
theorem PT.nox {e : Expr} {t : TT} (h : PT X.nox e t) : PT X e t := fun pins s σ H Q I hw =>
  wpAny_mono (h pins s σ H Q (I.wish _) hw) (fun _ _ ⟨H', I', q⟩ => ⟨H', I'.unwish, q⟩) fun _ _ z => False.elim z
theorem PSs.nox {st : List Stmt} {t : TS} (h : PSs X.nox st t) : PSs X st t := fun pins s σ H D I hw =>
  wpAny_mono (h pins s σ H D (I.wish _) hw) (fun _ _ q => q.unwish) fun _ _ z => False.elim z
end
section
variable {X : Cx} {st : Stmt} {rest : List Stmt} {t u : TS} {e : Expr} {te : TE} {pos : Pos}
def tNext : TS := fun D σ H => D.nx σ H
def tSeq (t u : TS) : TS := fun D σ H => t { D with nx := u D } σ H
theorem pss_nil : PSs X [] tNext := fun _ _ σ H _ I h => wpAny_execs_nil ⟨σ, H, I, h⟩
theorem pss_cons (h1 : PS X st t) (h2 : PSs X rest u) : PSs X (st :: rest) (tSeq t u) := by
  intro pins s σ H D I h
  refine wpAny_execs_cons (thn (h1 pins s σ H { D with nx := u D } I h) fun f s1 q => ?_)
  cases f with
  | next =>
    obtain ⟨σ', H', I', q⟩ := q
    exact h2 pins s1 σ' H' D I' q
  | ret v => exact q
  | brk => exact q
  | cont => exact q
theorem pss_one (h1 : PS X st t) : PSs X [st] t := by
  intro pins s σ H D I h
  refine wpAny_execs_cons (thn (h1 pins s σ H D I h) fun f s1 q => ?_)
  cases f with
  | next => exact wpAny_execs_nil q
  | ret v => exact q
  | brk => exact q
  | cont => exact q
theorem Inv.quiet {pins : List (Addr × Obj)} {σ : St} {H : Hp} {s : Shared} (I : Inv X pins σ H s) : interactive X.env = false := by simp [interactive, I.ok.kind]
def tDrop (te : TE) : TS := fun D σ H => te σ H fun _ H1 => D.nx σ H1
theorem ps_expr (he : PE X e te) (hs : swapsWith e none pos.line X.env = pure false := by rfl) : PS X (.Expr e pos) (tDrop te) := by
  intro pins s σ H D I h
  exact wpAny_Expr_any (thn (he pins s σ H _ I h) fun v s1 ⟨x, H1, I1, r1, q1⟩ => ⟨σ, H1, I1, q1⟩) I.quiet hs
def tRet (te : TE) : TS := fun D σ H => te σ H D.rt
theorem ps_ret (he : PE X e te) : PS X (.Return (some e) pos) (tRet te) := by
  intro pins s σ H D I h
  exact wpAny_Return_some (thn (he pins s σ H _ I h) fun v s1 ⟨x, H1, I1, r1, q1⟩ => ⟨x, σ, H1, I1, r1, q1⟩)
def tIfS (c : TT) (t u : TS) : TS := fun D σ H => c σ H fun b H1 => if b = true then t D σ H1 else u D σ H1
theorem ps_if {c : Expr} {a b : List Stmt} {tc : TT} (hc : PT X c tc) (ha : PSs X a t) (hb : PSs X b u) : PS X (.If c a b pos) (tIfS tc t u) := by
  intro pins s σ H D I h
  refine wpAny_If (thn (hc pins s σ H _ I h) fun d s1 ⟨H1, I1, q1⟩ => ?_)
  cases d with
  | true => exact ha pins s1 σ H1 D I1 q1
  | false => exact hb pins s1 σ H1 D I1 q1
end
abbrev TG := V → St → Hp → (St → Hp → Prop) → Prop
abbrev TGs := List V → St → Hp → (St → Hp → Prop) → Prop
def PG (X : Cx) (target : Expr) (t : TG) : Prop :=
  ∀ (pins : List (Addr × Obj)) (s : Shared) (σ : St) (H : Hp) (v : V) (u : Value) (Q : St → Hp → Prop), Inv X pins σ H s → RelV v u → t v σ H Q →
    wpAny (model X.prog X.w) X.A (assign target X.env u) (fun _ s' => ∃ σ' H', Inv X pins σ' H' s' ∧ Q σ' H') X.xe s
def PGs (X : Cx) (ts : List Expr) (t : TGs) : Prop :=
  ∀ (pins : List (Addr × Obj)) (s : Shared) (σ : St) (H : Hp) (vs : List V) (us : List Value) (Q : St → Hp → Prop), Inv X pins σ H s → Vals vs us → t vs σ H Q →
    wpAny (model X.prog X.w) X.A (assignInOrder ((assignEach ts X.env).map (·.2)) us) (fun _ s' => ∃ σ' H', Inv X pins σ' H' s' ∧ Q σ' H') X.xe s
section
variable {X : Cx} {pos : Pos}
def gName (i : Nat) : TG := fun v σ H Q => Q (σ.set i (some v)) H
theorem pg_name {i : Nat} {x : Str} (hN : X.N.Nodup) (hi : X.N[i]? = some x) (hx : Loc X.env.scope x) (hf : X.fn x = true ∨ X.env.scope.names.lookup x = some .local := by first | exact .inl rfl | exact .inr rfl | assumption) : PG X (.Name x pos) (gName i) := by
  intro pins s σ H v u Q I r h
  exact wpAny_assign_Name (store_ok I hN hi hx r (fun s' I' => ⟨_, H, I', h⟩) hf)
def gNil : TGs := fun vs σ H Q => vs = [] ∧ Q σ H
def gCons (t : TG) (u : TGs) : TGs := fun vs σ H Q => ∃ v r, vs = v :: r ∧ t v σ H fun σ' H' => u r σ' H' Q
theorem pgs_nil : PGs X [] gNil := by
  intro pins s σ H vs us Q I r h
  obtain ⟨e, h⟩ := h
  subst e
  cases r
  exact assignInOrder_nil ⟨σ, H, I, h⟩
theorem pgs_cons {e : Expr} {es : List Expr} {t : TG} {u : TGs} (h1 : PG X e t) (h2 : PGs X es u)
    (hs : (assignEach (e :: es) X.env).map (·.2) = assign e X.env :: (assignEach es X.env).map (·.2) := by rfl) : PGs X (e :: es) (gCons t u) := by
  intro pins s σ H vs us Q I r h
  obtain ⟨v, vr, e1, h⟩ := h
  subst e1
  cases r with
  | cons r rr =>
    rw [hs]
    refine assignInOrder_cons (thn (h1 pins s σ H _ _ _ I r h) fun _ s1 ⟨σ1, H1, I1, q1⟩ => ?_)
    exact h2 pins s1 σ1 H1 _ _ Q I1 rr q1
def tAsg (te : TE) (g : TG) : TS := fun D σ H => te σ H fun x H1 => g x σ H1 D.nx
theorem ps_set {i : Nat} {x : Str} {e : Expr} {te : TE} {pos' : Pos} (hN : X.N.Nodup) (hi : X.N[i]? = some x) (hx : Loc X.env.scope x) (he : PE X e te) (hs : swapsWith e (some (.Name x pos')) pos.line X.env = pure false := by rfl) (hf : X.fn x = true ∨ X.env.scope.names.lookup x = some .local := by first | exact .inl rfl | exact .inr rfl | assumption) :
    PS X (.Assign [.Name x pos'] e pos) (tAsg te (gName i)) := by
  intro pins s σ H D I h
  refine wpAny_Assign_Name (thn (he pins s σ H _ I h) fun v s1 ⟨y, H1, I1, r1, q1⟩ => ?_) hs
  exact store_ok I1 hN hi hx r1 (fun s2 I2 => ⟨_, H1, I2, q1⟩) hf
end
section
variable {X : Cx} {pos : Pos}
def tWhile (c : TT) (tb : TS) : TS := fun D σ H => ∃ W : Nat → St → Hp → Prop, (∃ m, W m σ H) ∧ ∀ m σ H, W m σ H →
  c σ H fun b H1 => if b = true then ∃ N : St → Hp → Prop, (∀ σ' H', N σ' H' → ∃ m', m' < m ∧ W m' σ' H') ∧ tb { D with nx := N, ct := N, bk := D.nx } σ H1 else D.nx σ H1
theorem ps_while {c : Expr} {body : List Stmt} {tc : TT} {tb : TS} (hp : PassesOwn (model X.prog X.w) X.A X.env X.xe) (hc : PT X c tc) (hb : PSs X body tb) : PS X (.While c body [] pos) (tWhile tc tb) := by
  intro pins s σ H D I h
  obtain ⟨W, ⟨m0, w0⟩, turn⟩ := h
  refine wpAny_While (codeAny_whileLoop (fun n s' => ∃ σ' H', Inv X pins σ' H' s' ∧ W n σ' H') ?_ m0 ⟨σ, H, I, w0⟩)
  rintro n s1 ⟨σ1, H1, I1, w1⟩
  refine wpAny_passesOwn hp (thn (hc pins s1 σ1 H1 _ I1 (turn n σ1 H1 w1)) fun b s2 ⟨H2, I2, q2⟩ => ?_)
  cases b with
  | true =>
    obtain ⟨N, hN, q2⟩ := q2
    rw [if_pos rfl]
    refine wpAny_passesOwn hp (thn (hb pins s2 σ1 H2 _ I2 q2) fun f s3 q3 => ?_)
    cases f with
    | next =>
      obtain ⟨σ3, H3, I3, n3⟩ := q3
      obtain ⟨m', hm, w3⟩ := hN σ3 H3 n3
      exact ⟨m', hm, σ3, H3, I3, w3⟩
    | cont =>
      obtain ⟨σ3, H3, I3, n3⟩ := q3
      obtain ⟨m', hm, w3⟩ := hN σ3 H3 n3
      exact ⟨m', hm, σ3, H3, I3, w3⟩
    | brk => exact q3
    | ret v => exact q3
  | false =>
    rw [if_neg Bool.false_ne_true]
    exact wpAny_execs_nil ⟨σ1, H2, I2, q2⟩
end
structure It where
  go : Nat → Hp → Prop
  yld : Nat → Hp → V → Hp → Prop
  stop : Nat → Hp → Prop
def FpOk (X : Cx) (pins : List (Addr × Obj)) (H : Hp) (b : Addr) : Prop :=
  H b = none ∧ b ≠ X.env.locals ∧ b ∉ X.fs ∧ (b ∈ X.ex ∨ X.s₀.heap.objs.size ≤ b) ∧ (∀ x c, X.env.cells.lookup x = some c → c ≠ b) ∧ ∀ p ∈ X.pn ++ pins, p.1 ≠ b
theorem Inv.fpOk {X : Cx} {pins : List (Addr × Obj)} {σ : St} {H H' : Hp} {s : Shared} {b : Addr} (I : Inv X pins σ H s) (hb : s.heap.objs.size ≤ b) (hn : H' b = none) : FpOk X pins H' b := by
  refine ⟨hn, Nat.ne_of_gt (Nat.lt_of_lt_of_le I.lt hb), I.nofs hb, .inr (Nat.le_trans I.sz hb), fun x c e z => ?_, fun p hp z => ?_⟩
  · obtain ⟨v, q⟩ := I.cell x c e
    exact absurd (Nat.lt_of_lt_of_le q.lt (by rw [z]; exact hb)) (Nat.lt_irrefl _)
  · exact absurd (Nat.lt_of_lt_of_le (Heap.lt_size (I.pin p hp).1) (by rw [z]; exact hb)) (Nat.lt_irrefl _)
structure Turn (P : Program) (w : World) (K : PySem.W.Frag) (tg : Expr) (J : It) (fp : List Addr) (it : Addr) (tn : Nat → Heap → Prop) : Prop where
  mem : it ∈ fp
  obj : ∀ i h, tn i h → ∀ b ∈ fp, ∃ o, h.get? b = some o ∧ ∀ v, o.data ≠ .cell v
  keep : ∀ i h h', tn i h → (∀ b ∈ fp, ∀ o, h.get? b = some o → h'.get? b = some o) → tn i h'
  item : ∀ (X : Cx), X.prog = P → X.w = w → X.K = K → X.calm = true → ∀ (i : Nat) (pins : List (Addr × Obj)) (s : Shared) (σ : St) (H : Hp) (E : Value → Shared → Prop), Inv X pins σ H s → (∀ b ∈ fp, FpOk X pins H b) → tn i s.heap → J.go i H →
    wpAny (model P w) X.A (pyNext (.ref it)) (fun r s1 => ∃ u, r = some u ∧
      wpAny (model P w) X.A (letOwnedTupleGo tg (.ref it) u) (fun _ s2 => ∃ x H', Inv X pins σ H' s2 ∧ RelV x u ∧ J.yld i H x H' ∧ tn (i + 1) s2.heap ∧ ∀ b ∈ fp, H' b = none) E s1) E s
  done : ∀ (X : Cx), X.prog = P → X.w = w → X.K = K → X.calm = true → ∀ (i : Nat) (pins : List (Addr × Obj)) (s : Shared) (σ : St) (H : Hp) (E : Value → Shared → Prop), Inv X pins σ H s → (∀ b ∈ fp, FpOk X pins H b) → tn i s.heap → J.stop i H →
    wpAny (model P w) X.A (pyNext (.ref it)) (fun r s1 => r = none ∧ Inv X pins σ H s1) E s
  self : ∀ (A : Around) (i : Nat) (s : Shared) (Q : Value → Shared → Prop) (E : Value → Shared → Prop), tn i s.heap → Q (.ref it) s → wpAny (model P w) A (pyIter (.ref it)) Q E s
abbrev TI := St → Hp → (It → Hp → Prop) → Prop
def PIE (X : Cx) (pins : List (Addr × Obj)) (σ : St) (tg : Expr) (R : It → Hp → Prop) (itv : Value) (s2 : Shared) : Prop :=
  ∃ (it : Addr) (fp : List Addr) (tn : Nat → Heap → Prop) (J : It) (H' : Hp), itv = .ref it ∧ Inv X pins σ H' s2 ∧ Turn X.prog X.w X.K tg J fp it tn ∧ tn 0 s2.heap ∧ (∀ b ∈ fp, FpOk X pins H' b) ∧ R J H'
def PI (X : Cx) (tg iter : Expr) (wi : TI) : Prop :=
  ∀ (pins : List (Addr × Obj)) (s : Shared) (σ : St) (H : Hp) (R : It → Hp → Prop), Inv X pins σ H s → wi σ H R →
    wpAny (model X.prog X.w) X.A (eval iter X.env) (fun v s1 => wpAny (model X.prog X.w) X.A (pyIter v) (PIE X pins σ tg R) X.xe s1) X.xe s
theorem go_of {M : Model} {A : Around} {E : Value → Shared → Prop} {s : Shared} {tg : Expr} {it : Addr} {u : Value} {o : Obj} {n : String} {vs : Array Value} {Q : Unit → Shared → Prop} (ho : s.heap.get? it = some o) (hc : o.cls = .type n) (hd : o.data = .fields vs)
    (hn : ["enumerate", "zip", "dict_itemiterator", "dict_reverseitemiterator", "odict_iterator", "itertools.zip_longest", "itertools.pairwise"].contains n = false) (hQ : Q () s) : wpAny M A (letOwnedTupleGo tg (.ref it) u) Q E s := by
  unfold letOwnedTupleGo
  cases tg <;> first
    | exact wpAny_pure hQ
    | (cases u <;> first
        | exact wpAny_pure hQ
        | (refine wpAny_bind (wpAny_load ho ?_)
           rw [hc, hd]
           show wpAny M A (if (["enumerate", "zip", "dict_itemiterator", "dict_reverseitemiterator", "odict_iterator", "itertools.zip_longest", "itertools.pairwise"].contains n && vs[0]? == some (rawInt _)) = true then _ else _) Q E s
           rw [if_neg (by intro h; rw [hn, Bool.false_and] at h; cases h)]
           exact wpAny_pure hQ))
def Itl (K : PySem.W.Frag) (a : Addr) : It :=
  ⟨fun i H => ∃ xs x, SqL K H a xs ∧ xs[i]? = some x, fun i H x H' => H' = H ∧ ∀ xs, SqL K H a xs → xs[i]? = some x, fun i H => ∃ xs, SqL K H a xs ∧ xs.length ≤ i⟩
def Itt (K : PySem.W.Frag) (a : Addr) : It :=
  ⟨fun i H => ∃ xs x, SqT K H a xs ∧ xs[i]? = some x, fun i H x H' => H' = H ∧ ∀ xs, SqT K H a xs → xs[i]? = some x, fun i H => ∃ xs, SqT K H a xs ∧ xs.length ≤ i⟩
def Itr (lo : Int) (n : Nat) : It := ⟨fun i _ => i < n, fun i H x H' => H' = H ∧ x = .int (lo + i), fun i _ => n ≤ i⟩
theorem turn_list {P : Program} {w : World} {K : PySem.W.Frag} {tg : Expr} (a it : Addr) : Turn P w K tg (Itl K a) [it] it (fun i h => h.IsListIter it a i) where
  mem := by simp
  obj := fun i h st b hb => by
    have e : b = it := by simpa using hb
    subst e
    obtain ⟨o, e, c, d⟩ := st
    exact ⟨o, e, fun v z => by rw [d] at z; cases z⟩
  keep := fun i h h' st k => st.at fun o e => k it (by simp) o e
  item := by
    intro X hP hw hK hc i pins s σ H E I hf st hg
    subst hP hw hK
    obtain ⟨xs, x, hq, hx⟩ := hg
    obtain ⟨its, rv, p, hz⟩ := I.list hq
    obtain ⟨u, hu, ru⟩ := rv.get hx
    obtain ⟨f0, f1, f2, f3, f4, f5⟩ := hf it (by simp)
    refine wpAny_pyNext_list_item st p.isList (x := u) (by simpa using hu) fun h' st' sb => ?_
    have I1 : Inv X pins σ H { s with heap := h' } := I.turned (t' := s.toks) (fun b o hb e => (sb.2 b hb).trans e) f0 f1 f3 f4 f5
    obtain ⟨o, e, c, d⟩ := id st'
    exact ⟨u, rfl, go_of (s := { s with heap := h' }) e c d (by decide) ⟨x, H, I1, ru, ⟨rfl, fun ys hy => by rw [I.list_inj hy hq]; exact hx⟩, st', fun b hb => (hf b hb).1⟩⟩
  done := by
    intro X hP hw hK hc i pins s σ H E I hf st hg
    subst hP hw hK
    obtain ⟨xs, hq, hx⟩ := hg
    obtain ⟨its, rv, p, hz⟩ := I.list hq
    obtain ⟨f0, f1, f2, f3, f4, f5⟩ := hf it (by simp)
    have hl := rv.length
    exact wpAny_pyNext_list_end (I.ok.hd hc) st p.isList (by simp; omega) fun h' eb => ⟨rfl, I.turned (t' := s.toks) (fun b o hb e => eb b o hb e) f0 f1 f3 f4 f5⟩
  self := fun _ _ _ _ _ st h => wpAny_pyIter_listiter st h
theorem turn_tuple {P : Program} {w : World} {K : PySem.W.Frag} {tg : Expr} (a it : Addr) : Turn P w K tg (Itt K a) [it] it (fun i h => h.IsTupleIter it a i) where
  mem := by simp
  obj := fun i h st b hb => by
    have e : b = it := by simpa using hb
    subst e
    obtain ⟨o, e, c, d⟩ := st
    exact ⟨o, e, fun v z => by rw [d] at z; cases z⟩
  keep := fun i h h' st k => st.at fun o e => k it (by simp) o e
  item := by
    intro X hP hw hK hc i pins s σ H E I hf st hg
    subst hP hw hK
    obtain ⟨xs, x, hq, hx⟩ := hg
    obtain ⟨its, rv, p, hz⟩ := I.tuple hq
    obtain ⟨u, hu, ru⟩ := rv.get hx
    obtain ⟨f0, f1, f2, f3, f4, f5⟩ := hf it (by simp)
    refine wpAny_pyNext_tuple_item st (show s.heap.IsTuple a its.toArray from p) (x := u) (by simpa using hu) fun h' st' sb => ?_
    have I1 : Inv X pins σ H { s with heap := h' } := I.turned (t' := s.toks) (fun b o hb e => (sb.2 b hb).trans e) f0 f1 f3 f4 f5
    obtain ⟨o, e, c, d⟩ := id st'
    exact ⟨u, rfl, go_of (s := { s with heap := h' }) e c d (by decide) ⟨x, H, I1, ru, ⟨rfl, fun ys hy => by rw [I.tuple_inj hy hq]; exact hx⟩, st', fun b hb => (hf b hb).1⟩⟩
  done := by
    intro X hP hw hK hc i pins s σ H E I hf st hg
    subst hP hw hK
    obtain ⟨xs, hq, hx⟩ := hg
    obtain ⟨its, rv, p, hz⟩ := I.tuple hq
    obtain ⟨f0, f1, f2, f3, f4, f5⟩ := hf it (by simp)
    have hl := rv.length
    exact wpAny_pyNext_tuple_end (I.ok.hd hc) st (show s.heap.IsTuple a its.toArray from p) (by simp; omega) fun h' eb => ⟨rfl, I.turned (t' := s.toks) (fun b o hb e => eb b o hb e) f0 f1 f3 f4 f5⟩
  self := fun _ _ _ _ _ st h => wpAny_pyIter_tupleiter st h
theorem turn_range {P : Program} {w : World} {K : PySem.W.Frag} {tg : Expr} (it : Addr) (lo : Int) (n : Nat) : Turn P w K tg (Itr lo n) [it] it (fun i h => IsRangeIter h it (lo + (i : Nat) * 1) ((n : Int) - (i : Nat)) 1) where
  mem := by simp
  obj := fun i h st b hb => by
    have e : b = it := by simpa using hb
    subst e
    exact ⟨_, st, fun v z => by
      have z' : Data.fields _ = Data.cell v := z
      cases z'⟩
  keep := fun i h h' st k => k it (by simp) _ st
  item := by
    intro X hP hw hK hc i pins s σ H E I hf st hg
    subst hP hw hK
    obtain ⟨f0, f1, f2, f3, f4, f5⟩ := hf it (by simp)
    have W := Walks.range (prog := X.prog) (w := X.w) (I.ok.hd hc) it lo 1 n
    refine W.item i s _ _ hg st fun v h' tk hv st' kk => ?_
    obtain ⟨t, rfl⟩ := hv
    have I1 : Inv X pins σ H { s with heap := h', toks := tk } := I.turned (fun b o hb e => kk b o (by simpa using hb) e) f0 f1 f3 f4 f5
    refine ⟨_, rfl, go_of (s := { s with heap := h', toks := tk }) (n := "range_iterator") st' rfl rfl (by decide) ⟨.int (lo + i), H, I1, ⟨t, ?_⟩, ⟨rfl, rfl⟩, st', fun b hb => (hf b hb).1⟩⟩
    rw [Int.mul_one]
  done := by
    intro X hP hw hK hc i pins s σ H E I hf st hg
    subst hP hw hK
    obtain ⟨f0, f1, f2, f3, f4, f5⟩ := hf it (by simp)
    exact wpAny_pyNext_range_end (I.ok.hd hc) st (by have : n ≤ i := hg; omega) fun h' eb => ⟨rfl, I.turned (t' := s.toks) (fun b o hb e => eb b o hb e) f0 f1 f3 f4 f5⟩
  self := fun _ _ _ _ _ st h => wpAny_pyIter_rangeiter st h
end L2
namespace L2
open PySem PySem.Spec PyProof.Rows
section
variable {X : Cx} {tg : Expr}
def iList (K : PySem.W.Frag) (tl : TE) : TI := fun σ H R => tl σ H fun x H1 => ∃ a, x = .ref a ∧ (∃ xs, SqL K H1 a xs) ∧ R (Itl K a) H1
def iTup (K : PySem.W.Frag) (tl : TE) : TI := fun σ H R => tl σ H fun x H1 => ∃ a, x = .ref a ∧ (∃ xs, SqT K H1 a xs) ∧ R (Itt K a) H1
theorem pi_list {l : Expr} {tl : TE} (hl : PE X l tl) : PI X tg l (iList X.K tl) := by
  intro pins s σ H R I h
  refine thn (hl pins s σ H _ I h) fun v s1 ⟨x, H1, I1, r1, q1⟩ => ?_
  obtain ⟨a, e, ⟨xs, hq⟩, q⟩ := q1
  subst e
  cases r1
  obtain ⟨its, rv, p, hz⟩ := I1.list hq
  refine wpAny_pyIter_list p.isList ?_
  refine ⟨s1.heap.objs.size, [s1.heap.objs.size], _, _, H1, rfl, I1.kept (t' := s1.toks) fun b o e => Heap.get?_push_of_some _ e, turn_list a _, ⟨_, Heap.get?_push_size _ rfl, rfl, rfl⟩, fun b hb => ?_, q⟩
  have e : b = s1.heap.objs.size := by simpa using hb
  subst e
  exact I1.fpOk (Nat.le_refl _) (I1.hok.fresh (Nat.le_refl _))
theorem pi_tup {l : Expr} {tl : TE} (hl : PE X l tl) : PI X tg l (iTup X.K tl) := by
  intro pins s σ H R I h
  refine thn (hl pins s σ H _ I h) fun v s1 ⟨x, H1, I1, r1, q1⟩ => ?_
  obtain ⟨a, e, ⟨xs, hq⟩, q⟩ := q1
  subst e
  cases r1
  obtain ⟨its, rv, p, hz⟩ := I1.tuple hq
  refine wpAny_pyIter_tuple (show s1.heap.IsTuple a its.toArray from p) ?_
  refine ⟨s1.heap.objs.size, [s1.heap.objs.size], _, _, H1, rfl, I1.kept (t' := s1.toks) fun b o e => Heap.get?_push_of_some _ e, turn_tuple a _, ⟨_, Heap.get?_push_size _ rfl, rfl, rfl⟩, fun b hb => ?_, q⟩
  have e : b = s1.heap.objs.size := by simpa using hb
  subst e
  exact I1.fpOk (Nat.le_refl _) (I1.hok.fresh (Nat.le_refl _))
theorem range_it {pins : List (Addr × Obj)} {σ : St} {H : Hp} {s : Shared} {R : It → Hp → Prop} {E : Value → Shared → Prop} {lo hi : Int} {t u v : Tok} {tk : Nat} (I : Inv X pins σ H s) (h1 : -(2 ^ 62) ≤ lo) (h2 : lo < 2 ^ 62) (h3 : -(2 ^ 62) ≤ hi) (h4 : hi < 2 ^ 62)
    (q : R (Itr lo (hi - lo).toNat) H) : wpAny (model X.prog X.w) X.A (pyIter (.ref s.heap.objs.size)) (PIE X pins σ tg R) E { s with heap := s.heap.push { cls := .type "range", data := .fields #[.int lo t, .int hi u, .int 1 v] }, toks := tk } := by
  refine wpAny_pyIter_range (IsRange.new ..) (small_one h1 h2 h3 h4) ?_
  have I1 : Inv X pins σ H { s with heap := s.heap.push { cls := .type "range", data := .fields #[.int lo t, .int hi u, .int 1 v] }, toks := tk } := I.kept fun b o e => Heap.get?_push_of_some _ e
  refine ⟨(s.heap.push { cls := .type "range", data := .fields #[.int lo t, .int hi u, .int 1 v] }).objs.size, [(s.heap.push { cls := .type "range", data := .fields #[.int lo t, .int hi u, .int 1 v] }).objs.size], _, _, H, rfl,
    I1.kept (t' := tk) fun b o e => Heap.get?_push_of_some _ e, turn_range _ lo (hi - lo).toNat, ?_, fun b hb => ?_, q⟩
  · have e1 : lo + ((0 : Nat) : Int) * 1 = lo := by simp
    have e2 : (((hi - lo).toNat : Nat) : Int) - ((0 : Nat) : Int) = Builtin.Range.rangeSize lo hi 1 := by rw [rangeSize_one]; split <;> omega
    show IsRangeIter _ _ (lo + ((0 : Nat) : Int) * 1) ((((hi - lo).toNat : Nat) : Int) - ((0 : Nat) : Int)) 1
    rw [e1, e2]
    exact Heap.get?_push_size _ rfl
  · have e : b = (s.heap.push { cls := .type "range", data := .fields #[.int lo t, .int hi u, .int 1 v] }).objs.size := by simpa using hb
    subst e
    exact I1.fpOk (Nat.le_refl _) (I1.hok.fresh (Nat.le_refl _))
def iRng1 (ta : TA) : TI := fun σ H R => ta σ H fun vs H1 => ∃ j : Int, vs = [.int j] ∧ -(2 ^ 62) ≤ j ∧ j < 2 ^ 62 ∧ R (Itr 0 j.toNat) H1
theorem pi_range1 {a : Expr} {ta : TA} {p pos : Pos} (hg : Gl X "range") (hm : X.mg "range" = none) (ha : PA X [a] ta) (hs : starEach [a] X.env = [(false, eval a X.env)] := by rfl) : PI X tg (.Call (.Name "range" p) [a] [] pos) (iRng1 ta) := by
  intro pins s σ H R I h
  refine Call_ (ld_blt I hg hm boot_range (PyProof.Rows.callWith_type1 (thn (ha pos pins s σ H _ I h) fun us s1 ⟨vs, H1, I1, r1, q1⟩ => ?_) hs rfl))
  obtain ⟨j, e, q1, q2, q⟩ := q1
  subst e
  cases r1 with
  | cons r rr =>
    cases rr
    obtain ⟨t, rfl⟩ := r
    exact call_range_1 (range_it I1 (by omega) (by omega) q1 q2 (by simpa using q))
def tFor (wi : TI) (g : TG) (tb : TS) : TS := fun D σ H => wi σ H fun J H1 => ∃ W : Nat → Nat → St → Hp → Prop, (∃ m, W 0 m σ H1) ∧ ∀ i m σ H, W i m σ H →
  (J.stop i H ∧ D.nx σ H) ∨ (J.go i H ∧ ∃ N : St → Hp → Prop, (∀ σ' H', N σ' H' → ∃ m', m' < m ∧ W (i + 1) m' σ' H') ∧ ∀ x H', J.yld i H x H' → g x σ H' fun σ2 H2 => tb { D with nx := N, ct := N, bk := D.nx } σ2 H2)
def pinsAt (fp : List Addr) (h : Heap) : List (Addr × Obj) := fp.filterMap fun b => (h.get? b).map fun o => (b, o)
theorem mem_pinsAt {fp : List Addr} {h : Heap} {b : Addr} {o : Obj} (hb : b ∈ fp) (e : h.get? b = some o) : (b, o) ∈ pinsAt fp h := List.mem_filterMap.mpr ⟨b, hb, by rw [e]; rfl⟩
theorem of_pinsAt {fp : List Addr} {h : Heap} {p : Addr × Obj} (hp : p ∈ pinsAt fp h) : p.1 ∈ fp ∧ h.get? p.1 = some p.2 := by
  obtain ⟨b, hb, e⟩ := List.mem_filterMap.mp hp
  cases q : h.get? b with
  | none => rw [q] at e; cases e
  | some o =>
    rw [q] at e
    have e' : (b, o) = p := Option.some.inj e
    subst e'
    exact ⟨hb, q⟩
theorem Inv.pinned {pins : List (Addr × Obj)} {σ : St} {H : Hp} {s : Shared} {fp : List Addr} (I : Inv X pins σ H s) (hf : ∀ b ∈ fp, FpOk X pins H b) (ho : ∀ b ∈ fp, ∃ o, s.heap.get? b = some o ∧ ∀ v, o.data ≠ .cell v) : Inv X (pins ++ pinsAt fp s.heap) σ H s :=
  I.pins_of fun p hp => (List.mem_append.mp hp).elim (fun z => I.pin p (List.mem_append_right _ z)) fun z => by
    obtain ⟨hb, e⟩ := of_pinsAt z
    obtain ⟨f0, f1, f2, _⟩ := hf p.1 hb
    obtain ⟨o, e', d⟩ := ho p.1 hb
    rw [e] at e'; cases e'
    exact ⟨e, f0, f1, f2, d⟩
theorem Inv.unpinned {pins pl : List (Addr × Obj)} {σ : St} {H : Hp} {s : Shared} (I : Inv X (pins ++ pl) σ H s) : Inv X pins σ H s := I.pins_of fun p hp => I.pin p (List.mem_append_right _ (List.mem_append_left _ hp))
theorem ps_for {iter : Expr} {body : List Stmt} {wi : TI} {g : TG} {tb : TS} {pos : Pos} (hp : PassesOwn (model X.prog X.w) X.A X.env X.xe) (hc : X.calm = true) (hi : PI X tg iter wi) (hg : PG X tg g) (hb : PSs X body tb)
    (hs : ∀ x, foldedSetIterable iter X.env x = pure x := by intro _; rfl) : PS X (.For tg iter body [] pos) (tFor wi g tb) := by
  intro pins s σ H D I h
  refine wpAny_For (thn (hi pins s σ H _ I h) fun v s1 h1 => thn h1 fun itv s2 h2 => ?_) hs
  obtain ⟨it, fp, tn, J, H2, e, I2, T, st2, f2, W, ⟨m0, w0⟩, turn⟩ := h2
  subst e
  -- what stays true of the iterator's objects through the loop
  have stat : ∀ {H' : Hp}, (∀ b ∈ fp, H' b = none) → ∀ b ∈ fp, FpOk X pins H' b := fun hn b hb => ⟨hn b hb, (f2 b hb).2⟩
  refine codeAny_forLoop_any (fun n s' => ∃ i σ' H', Inv X pins σ' H' s' ∧ tn i s'.heap ∧ (∀ b ∈ fp, H' b = none) ∧ W i n σ' H') ?_ m0 ⟨0, σ, H2, I2, st2, fun b hb => (f2 b hb).1, w0⟩
  rintro n s3 ⟨i, σ3, H3, I3, st3, fr3, w3⟩
  rcases turn i n σ3 H3 w3 with ⟨stop, qn⟩ | ⟨go, N, hN, step⟩
  · refine wpAny_passesOwn hp (thn (T.done X rfl rfl rfl hc i pins s3 σ3 H3 X.xe I3 (stat fr3) st3 stop) fun r s4 ⟨hr, I4⟩ => ?_)
    subst hr
    exact wpAny_execs_nil ⟨σ3, H3, I4, qn⟩
  · refine wpAny_passesOwn hp (thn (T.item X rfl rfl rfl hc i pins s3 σ3 H3 X.xe I3 (stat fr3) st3 go) fun r s4 ⟨u, hr, h4⟩ => ?_)
    subst hr
    refine wpAny_passesOwn hp (thn h4 fun _ s5 ⟨x, H5, I5, r5, y5, st5, fr5⟩ => ?_)
    have I5' := I5.pinned (stat fr5) (T.obj _ _ st5)
    refine wpAny_passesOwn hp (thn (hg _ s5 σ3 H5 x u _ I5' r5 (step x H5 y5)) fun _ s6 ⟨σ6, H6, I6, q6⟩ => ?_)
    refine wpAny_passesOwn hp (thn (hb _ s6 σ6 H6 _ I6 q6) fun f s7 q7 => ?_)
    have again : ∀ {σ7 : St} {H7 : Hp}, Inv X (pins ++ pinsAt fp s5.heap) σ7 H7 s7 → N σ7 H7 → ∃ m, m < n ∧ ∃ i σ' H', Inv X pins σ' H' s7 ∧ tn i s7.heap ∧ (∀ b ∈ fp, H' b = none) ∧ W i m σ' H' := fun {σ7 H7} I7 n7 => by
      obtain ⟨m', hm, w7⟩ := hN σ7 H7 n7
      refine ⟨m', hm, i + 1, σ7, H7, I7.unpinned, T.keep _ _ _ st5 fun b hb o e => (I7.pin (b, o) (List.mem_append_right _ (List.mem_append_right _ (mem_pinsAt hb e)))).1, fun b hb => ?_, w7⟩
      obtain ⟨o, e, d⟩ := T.obj _ _ st5 b hb
      exact (I7.pin (b, o) (List.mem_append_right _ (List.mem_append_right _ (mem_pinsAt hb e)))).2.1
    cases f with
    | next => obtain ⟨σ7, H7, I7, n7⟩ := q7; exact again I7 n7
    | cont => obtain ⟨σ7, H7, I7, n7⟩ := q7; exact again I7 n7
    | brk => obtain ⟨σ7, H7, I7, q7⟩ := q7; exact ⟨σ7, H7, I7.unpinned, q7⟩
    | ret v => obtain ⟨x7, σ7, H7, I7, r7, q7⟩ := q7; exact ⟨x7, σ7, H7, I7.unpinned, r7, q7⟩
end
theorem for_list {K : PySem.W.Frag} {a : Addr} {xs : List V} {g : TG} {tb : TS} {D : Ends} {σ : St} {H : Hp} (Pv : Nat → St → Hp → Prop) (h0 : Pv 0 σ H) (hl : ∀ i σ H, i ≤ xs.length → Pv i σ H → SqL K H a xs)
    (hs : ∀ i x σ H, xs[i]? = some x → Pv i σ H → g x σ H fun σ2 H2 => tb { D with nx := Pv (i + 1), ct := Pv (i + 1), bk := D.nx } σ2 H2) (hd : ∀ σ H, Pv xs.length σ H → D.nx σ H) :
    ∃ W : Nat → Nat → St → Hp → Prop, (∃ m, W 0 m σ H) ∧ ∀ i m σ H, W i m σ H →
      ((Itl K a).stop i H ∧ D.nx σ H) ∨ ((Itl K a).go i H ∧ ∃ N : St → Hp → Prop, (∀ σ' H', N σ' H' → ∃ m', m' < m ∧ W (i + 1) m' σ' H') ∧ ∀ x H', (Itl K a).yld i H x H' → g x σ H' fun σ2 H2 => tb { D with nx := N, ct := N, bk := D.nx } σ2 H2) := by
  refine ⟨fun i m σ H => m = xs.length - i ∧ i ≤ xs.length ∧ Pv i σ H, ⟨xs.length, by simp, Nat.zero_le _, h0⟩, ?_⟩
  rintro i m σ H ⟨rfl, hi, p⟩
  have q := hl i σ H hi p
  by_cases hlt : i < xs.length
  · refine .inr ⟨⟨xs, xs[i], q, by simp [hlt]⟩, Pv (i + 1), fun σ' H' p' => ⟨xs.length - (i + 1), by omega, rfl, hlt, p'⟩, fun x H' y => ?_⟩
    obtain ⟨e, y⟩ := y
    subst e
    exact hs i x σ _ (y xs q) p
  · have e : i = xs.length := by omega
    subst e
    exact .inl ⟨⟨xs, q, Nat.le_refl _⟩, hd σ H p⟩
theorem for_tup {K : PySem.W.Frag} {a : Addr} {xs : List V} {g : TG} {tb : TS} {D : Ends} {σ : St} {H : Hp} (Pv : Nat → St → Hp → Prop) (h0 : Pv 0 σ H) (hl : ∀ i σ H, i ≤ xs.length → Pv i σ H → SqT K H a xs)
    (hs : ∀ i x σ H, xs[i]? = some x → Pv i σ H → g x σ H fun σ2 H2 => tb { D with nx := Pv (i + 1), ct := Pv (i + 1), bk := D.nx } σ2 H2) (hd : ∀ σ H, Pv xs.length σ H → D.nx σ H) :
    ∃ W : Nat → Nat → St → Hp → Prop, (∃ m, W 0 m σ H) ∧ ∀ i m σ H, W i m σ H →
      ((Itt K a).stop i H ∧ D.nx σ H) ∨ ((Itt K a).go i H ∧ ∃ N : St → Hp → Prop, (∀ σ' H', N σ' H' → ∃ m', m' < m ∧ W (i + 1) m' σ' H') ∧ ∀ x H', (Itt K a).yld i H x H' → g x σ H' fun σ2 H2 => tb { D with nx := N, ct := N, bk := D.nx } σ2 H2) := by
  refine ⟨fun i m σ H => m = xs.length - i ∧ i ≤ xs.length ∧ Pv i σ H, ⟨xs.length, by simp, Nat.zero_le _, h0⟩, ?_⟩
  rintro i m σ H ⟨rfl, hi, p⟩
  have q := hl i σ H hi p
  by_cases hlt : i < xs.length
  · refine .inr ⟨⟨xs, xs[i], q, by simp [hlt]⟩, Pv (i + 1), fun σ' H' p' => ⟨xs.length - (i + 1), by omega, rfl, hlt, p'⟩, fun x H' y => ?_⟩
    obtain ⟨e, y⟩ := y
    subst e
    exact hs i x σ _ (y xs q) p
  · have e : i = xs.length := by omega
    subst e
    exact .inl ⟨⟨xs, q, Nat.le_refl _⟩, hd σ H p⟩
theorem for_range {lo : Int} {n : Nat} {g : TG} {tb : TS} {D : Ends} {σ : St} {H : Hp} (Pv : Nat → St → Hp → Prop) (h0 : Pv 0 σ H)
    (hs : ∀ i σ H, i < n → Pv i σ H → g (.int (lo + i)) σ H fun σ2 H2 => tb { D with nx := Pv (i + 1), ct := Pv (i + 1), bk := D.nx } σ2 H2) (hd : ∀ σ H, Pv n σ H → D.nx σ H) :
    ∃ W : Nat → Nat → St → Hp → Prop, (∃ m, W 0 m σ H) ∧ ∀ i m σ H, W i m σ H →
      ((Itr lo n).stop i H ∧ D.nx σ H) ∨ ((Itr lo n).go i H ∧ ∃ N : St → Hp → Prop, (∀ σ' H', N σ' H' → ∃ m', m' < m ∧ W (i + 1) m' σ' H') ∧ ∀ x H', (Itr lo n).yld i H x H' → g x σ H' fun σ2 H2 => tb { D with nx := N, ct := N, bk := D.nx } σ2 H2) := by
  refine ⟨fun i m σ H => m = n - i ∧ i ≤ n ∧ Pv i σ H, ⟨n, by simp, Nat.zero_le _, h0⟩, ?_⟩
  rintro i m σ H ⟨rfl, hi, p⟩
  by_cases hlt : i < n
  · refine .inr ⟨hlt, Pv (i + 1), fun σ' H' p' => ⟨n - (i + 1), by omega, rfl, hlt, p'⟩, fun x H' y => ?_⟩
    obtain ⟨e, y⟩ := y
    subst e y
    exact hs i σ _ hlt p
  · have e : i = n := by omega
    subst e
    exact .inl ⟨Nat.le_refl _, hd σ H p⟩
end L2
namespace L2
open PySem PySem.Spec PyProof.Rows
abbrev R2 := V → V → Hp → VK → Prop
def OpR (X : Cx) (f : Value → Value → Sem Value) (r : R2) : Prop :=
  ∀ (pins : List (Addr × Obj)) (s : Shared) (σ : St) (H : Hp) (x y : V) (v u : Value) (Q : VK), Inv X pins σ H s → RelV x v → RelV y u → r x y H Q →
    wpAny (model X.prog X.w) X.A (f v u) (EP X pins σ Q) X.xe s
def CallR (X : Cx) (f : Value) (r : List V → Hp → VK → Prop) : Prop :=
  ∀ (pins : List (Addr × Obj)) (s : Shared) (σ : St) (H : Hp) (xs : List V) (us : List Value) (Q : VK), Inv X pins σ H s → Vals xs us → r xs H Q →
    wpAny (model X.prog X.w) X.A (call f us) (EP X pins σ Q) X.xe s
def tOp (r : R2) (ta tb : TE) : TE := fun σ H Q => ta σ H fun x H1 => tb σ H1 fun y H2 => r x y H2 Q
def rI (C : Int → Int → Prop) (g : Int → Int → V) : R2 := fun x y H Q => ∃ i j, x = .int i ∧ y = .int j ∧ C i j ∧ Q (g i j) H
def rI0 (g : Int → Int → V) : R2 := fun x y H Q => ∃ i j, x = .int i ∧ y = .int j ∧ Q (g i j) H
section
variable {X : Cx} {a b c : Expr} {ta tb tc : TE} {pos : Pos}
theorem binT (ha : PE X a ta) (hb : PE X b tb) {pins : List (Addr × Obj)} {s : Shared} {σ : St} {H : Hp} {R : V → V → Hp → Prop} (I : Inv X pins σ H s)
    (h : ta σ H fun x H1 => tb σ H1 fun y H2 => R x y H2) {Q : Value → Shared → Prop} {f : Value → Value → Sem Value}
    (hf : ∀ v u s2 x y H2, Inv X pins σ H2 s2 → RelV x v → RelV y u → R x y H2 → wpAny (model X.prog X.w) X.A (f v u) Q X.xe s2) :
    wpAny (model X.prog X.w) X.A (eval a X.env) (fun v s₁ => wpAny (model X.prog X.w) X.A (eval b X.env) (fun u s₂ => wpAny (model X.prog X.w) X.A (f v u) Q X.xe s₂) X.xe s₁) X.xe s := by
  refine thn (ha pins s σ H _ I h) fun v s1 ⟨x, H1, I1, r1, q1⟩ => ?_
  refine thn (hb pins s1 σ H1 _ I1 q1) fun u s2 ⟨y, H2, I2, r2, q2⟩ => ?_
  exact hf v u s2 x y H2 I2 r1 r2 q2
theorem pe_op {op : Operator} {r : R2} (ho : OpR X (binaryOp op) r) (ha : PE X a ta) (hb : PE X b tb) : PE X (.BinOp a op b pos) (tOp r ta tb) := by
  intro pins s σ H Q I h
  exact wpAny_BinOp (binT ha hb I h fun v u s2 x y H2 I2 rx ry q => ho pins s2 σ H2 x y v u Q I2 rx ry q)
theorem opI {f : Value → Value → Sem Value} {C : Int → Int → Prop} {g : Int → Int → Int}
    (rule : ∀ (i j : Int) (t u : Tok) (s : Shared) (Q : Value → Shared → Prop) (E : Value → Shared → Prop), C i j → Q (.int (g i j) s.toks) { s with toks := s.toks + 1 } → wpAny (model X.prog X.w) X.A (f (.int i t) (.int j u)) Q E s) :
    OpR X f (rI C fun i j => .int (g i j)) := by
  intro pins s σ H x y v u Q I rx ry h
  obtain ⟨i, j, rfl, rfl, hc, q⟩ := h
  obtain ⟨t, rfl⟩ := rx
  obtain ⟨t', rfl⟩ := ry
  exact rule i j t t' s _ _ hc ⟨.int (g i j), H, I.tok _, ⟨_, rfl⟩, q⟩
theorem opI0 {f : Value → Value → Sem Value} {g : Int → Int → Int}
    (rule : ∀ (i j : Int) (t u : Tok) (s : Shared) (Q : Value → Shared → Prop) (E : Value → Shared → Prop), Q (.int (g i j) s.toks) { s with toks := s.toks + 1 } → wpAny (model X.prog X.w) X.A (f (.int i t) (.int j u)) Q E s) :
    OpR X f (rI0 fun i j => .int (g i j)) := by
  intro pins s σ H x y v u Q I rx ry h
  obtain ⟨i, j, rfl, rfl, q⟩ := h
  obtain ⟨t, rfl⟩ := rx
  obtain ⟨t', rfl⟩ := ry
  exact rule i j t t' s _ _ ⟨.int (g i j), H, I.tok _, ⟨_, rfl⟩, q⟩
theorem opB0 {f : Value → Value → Sem Value} {g : Int → Int → Bool}
    (rule : ∀ (i j : Int) (t u : Tok) (s : Shared) (Q : Value → Shared → Prop) (E : Value → Shared → Prop), Q (.bool (g i j)) s → wpAny (model X.prog X.w) X.A (f (.int i t) (.int j u)) Q E s) :
    OpR X f (rI0 fun i j => .bl (g i j)) := by
  intro pins s σ H x y v u Q I rx ry h
  obtain ⟨i, j, rfl, rfl, q⟩ := h
  obtain ⟨t, rfl⟩ := rx
  obtain ⟨t', rfl⟩ := ry
  exact rule i j t t' s _ _ ⟨.bl (g i j), H, I, rfl, q⟩
def CDiv (i j : Int) : Prop := 0 < j ∧ j < 1073741824
def CMul (i j : Int) : Prop := (-(2 ^ 64) < i ∧ i < 2 ^ 64) ∨ (-(2 ^ 64) < j ∧ j < 2 ^ 64)
theorem CMul.ok {i j : Int} (h : CMul i j) : IntMulOk i j := by
  rcases h with ⟨h1, h2⟩ | ⟨h1, h2⟩
  · exact .of_left (intBits_le_64 h1 h2)
  · exact .of_right (intBits_le_64 h1 h2)
theorem op_add : OpR X (binaryOp .Add) (rI0 fun i j => .int (i + j)) := opI0 fun _ _ _ _ _ _ _ q => add_int q
theorem op_mul : OpR X (binaryOp .Mult) (rI CMul fun i j => .int (i * j)) := opI fun _ _ _ _ _ _ _ hc q => mul_int q hc.ok
theorem op_fdiv : OpR X (binaryOp .FloorDiv) (rI CDiv fun i j => .int (i / j)) := opI fun i j _ _ _ _ _ hc q => by
  have h1 : (0 : Int) < j := hc.1
  have h2 : j < 1073741824 := hc.2
  exact floordiv_int (by omega) (by rw [Int.fdiv_eq_ediv_of_nonneg i (by omega)]; exact q) (.inl (PyProof.noPylong_small (by omega)))
theorem op_mod : OpR X (binaryOp .Mod) (rI (fun _ j => 0 < j) fun i j => .int (i % j)) := opI fun i j _ _ _ _ _ hc q => by
  have h1 : (0 : Int) < j := hc
  exact mod_int' (by omega) (by rw [Int.fmod_eq_emod_of_nonneg i (by omega)]; exact q)
end
def scal : V → V → Bool
  | .non, .non => true | .non, .int _ => true | .int _, .non => true | .non, .bl _ => true | .bl _, .non => true | .non, .str _ => true | .str _, .non => true
  | .int _, .int _ => true | .bl _, .bl _ => true | .str _, .str _ => true | .byt _, .byt _ => true
  | .int _, .str _ => true | .str _, .int _ => true | .bl _, .str _ => true | .str _, .bl _ => true
  | _, _ => false
def rEq : R2 := fun x y H Q => scal x y = true ∧ Q (.bl (decide (x = y))) H
def rNe : R2 := fun x y H Q => scal x y = true ∧ Q (.bl (!decide (x = y))) H
theorem dec_int {i j : Int} : decide (V.int i = V.int j) = (i == j) := by
  rw [Bool.eq_iff_iff]
  simp
theorem dec_bl {i j : Bool} : decide (V.bl i = V.bl j) = (i == j) := by
  rw [Bool.eq_iff_iff]
  simp
theorem dec_str {i j : Str} : decide (V.str i = V.str j) = (i == j) := by
  rw [Bool.eq_iff_iff]
  simp
theorem dec_byt {i j : Array UInt8} : decide (V.byt i = V.byt j) = (i.toList == j.toList) := by
  rw [Bool.eq_iff_iff]
  cases i
  cases j
  simp
section
variable {X : Cx} {a b c : Expr} {ta tb tc : TE} {pos : Pos}
theorem fin_bl {pins : List (Addr × Obj)} {σ : St} {H : Hp} {s : Shared} {Q : VK} {k k' : Bool} (I : Inv X pins σ H s) (q : Q (.bl k) H) (e : k = k') : EP X pins σ Q (.bool k') s := by
  subst e
  exact ⟨.bl k, H, I, rfl, q⟩
theorem op_eq : OpR X (compareOp .Eq) rEq := by
  intro pins s σ H x y v u Q I rx ry h
  obtain ⟨hs, q⟩ := h
  cases x with
  | non =>
    cases rx
    cases y with
    | non => cases ry; exact PySem.EqNone.eq_none_none (fin_bl I q (by simp))
    | bl j => cases ry; exact PySem.EqNone.eq_none_bool (fin_bl I q (by simp))
    | int j => obtain ⟨t', rfl⟩ := ry; exact PySem.EqNone.eq_none_int (fin_bl I q (by simp))
    | str j => obtain ⟨t', rfl⟩ := ry; exact PySem.EqNone.eq_none_str (fin_bl I q (by simp))
    | _ => exact absurd (show false = true from hs) Bool.false_ne_true
  | bl i =>
    cases rx
    cases y with
    | non => cases ry; exact PySem.EqNone.eq_bool_none (fin_bl I q (by simp))
    | bl j => cases ry; exact eq_bool (fin_bl I q dec_bl)
    | str j => obtain ⟨t', rfl⟩ := ry; exact PySem.EqMixed.eq_bool_str (fin_bl I q (by simp))
    | _ => exact absurd (show false = true from hs) Bool.false_ne_true
  | int i =>
    obtain ⟨t, rfl⟩ := rx
    cases y with
    | non => cases ry; exact PySem.EqNone.eq_int_none (fin_bl I q (by simp))
    | int j => obtain ⟨t', rfl⟩ := ry; exact eq_int (fin_bl I q dec_int)
    | str j => obtain ⟨t', rfl⟩ := ry; exact PySem.EqMixed.eq_int_str (fin_bl I q (by simp))
    | _ => exact absurd (show false = true from hs) Bool.false_ne_true
  | str i =>
    obtain ⟨t, rfl⟩ := rx
    cases y with
    | non => cases ry; exact PySem.EqNone.eq_str_none (fin_bl I q (by simp))
    | bl j => cases ry; exact PySem.EqMixed.eq_str_bool (fin_bl I q (by simp))
    | int j => obtain ⟨t', rfl⟩ := ry; exact PySem.EqMixed.eq_str_int (fin_bl I q (by simp))
    | str j => obtain ⟨t', rfl⟩ := ry; exact eq_str (fin_bl I q dec_str)
    | _ => exact absurd (show false = true from hs) Bool.false_ne_true
  | byt i =>
    obtain ⟨t, rfl⟩ := rx
    cases y with
    | byt j => obtain ⟨t', rfl⟩ := ry; exact PySem.W.eq_bytes (fin_bl I q dec_byt)
    | _ => exact absurd (show false = true from hs) Bool.false_ne_true
  | _ => cases y <;> exact absurd (show false = true from hs) Bool.false_ne_true
theorem op_ne : OpR X (compareOp .NotEq) rNe := by
  intro pins s σ H x y v u Q I rx ry h
  obtain ⟨hs, q⟩ := h
  cases x with
  | non =>
    cases rx
    cases y with
    | non => cases ry; exact PySem.EqNone.ne_none_none (fin_bl I q (by simp))
    | bl j => cases ry; exact PySem.EqNone.ne_none_bool (fin_bl I q (by simp))
    | int j => obtain ⟨t', rfl⟩ := ry; exact PySem.EqNone.ne_none_int (fin_bl I q (by simp))
    | str j => obtain ⟨t', rfl⟩ := ry; exact PySem.EqNone.ne_none_str (fin_bl I q (by simp))
    | _ => exact absurd (show false = true from hs) Bool.false_ne_true
  | bl i =>
    cases rx
    cases y with
    | non => cases ry; exact PySem.EqNone.ne_bool_none (fin_bl I q (by simp))
    | bl j => cases ry; exact ne_bool (fin_bl I q (congrArg not dec_bl))
    | str j => obtain ⟨t', rfl⟩ := ry; exact PySem.EqMixed.ne_bool_str (fin_bl I q (by simp))
    | _ => exact absurd (show false = true from hs) Bool.false_ne_true
  | int i =>
    obtain ⟨t, rfl⟩ := rx
    cases y with
    | non => cases ry; exact PySem.EqNone.ne_int_none (fin_bl I q (by simp))
    | int j => obtain ⟨t', rfl⟩ := ry; exact ne_int (fin_bl I q (congrArg not dec_int))
    | str j => obtain ⟨t', rfl⟩ := ry; exact PySem.EqMixed.ne_int_str (fin_bl I q (by simp))
    | _ => exact absurd (show false = true from hs) Bool.false_ne_true
  | str i =>
    obtain ⟨t, rfl⟩ := rx
    cases y with
    | non => cases ry; exact PySem.EqNone.ne_str_none (fin_bl I q (by simp))
    | bl j => cases ry; exact PySem.EqMixed.ne_str_bool (fin_bl I q (by simp))
    | int j => obtain ⟨t', rfl⟩ := ry; exact PySem.EqMixed.ne_str_int (fin_bl I q (by simp))
    | str j => obtain ⟨t', rfl⟩ := ry; exact ne_str (fin_bl I q (congrArg not dec_str))
    | _ => exact absurd (show false = true from hs) Bool.false_ne_true
  | byt i =>
    obtain ⟨t, rfl⟩ := rx
    cases y with
    | byt j => obtain ⟨t', rfl⟩ := ry; exact PySem.W.ne_bytes (fin_bl I q (congrArg not dec_byt))
    | _ => exact absurd (show false = true from hs) Bool.false_ne_true
  | _ => cases y <;> exact absurd (show false = true from hs) Bool.false_ne_true
theorem op_lt : OpR X (compareOp .Lt) (rI0 fun i j => .bl (decide (i < j))) := opB0 fun _ _ _ _ _ _ _ q => lt_int q
theorem op_gt : OpR X (compareOp .Gt) (rI0 fun i j => .bl (decide (j < i))) := opB0 fun _ _ _ _ _ _ _ q => gt_int q
theorem OpR.or {f : Value → Value → Sem Value} {r r' : R2} (h : OpR X f r) (h' : OpR X f r') : OpR X f (fun x y H Q => r x y H Q ∨ r' x y H Q) := by
  intro pins s σ H x y v u Q I rx ry q
  rcases q with q | q
  · exact h pins s σ H x y v u Q I rx ry q
  · exact h' pins s σ H x y v u Q I rx ry q
theorem nomark (b : Expr) {op : CmpOp} (h : op ≠ .In := by decide) (h2 : op ≠ .NotIn := by decide) : behindInMarks op b = false := by
  have e1 : (op == CmpOp.In) = false := by cases op <;> first | rfl | exact absurd rfl h
  have e2 : (op == CmpOp.NotIn) = false := by cases op <;> first | rfl | exact absurd rfl h2
  cases b <;> simp [behindInMarks, e1, e2]
theorem pe_cmpR {op : CmpOp} {r : R2} (ho : OpR X (compareOp op) r) (ha : PE X a ta) (hb : PE X b tb) (hm : behindInMarks op b = false) : PE X (.Compare a [op] [b] pos) (tOp r ta tb) := by
  intro pins s σ H Q I h
  exact wpAny_Compare1 (binT ha hb I h fun v u s2 x y H2 I2 rx ry q => ho pins s2 σ H2 x y v u Q I2 rx ry q) hm
def tTest (t : TE) : TT := fun σ H Q => t σ H fun x H' => ∃ k, x = .bl k ∧ Q k H'
theorem pt_cmpR {op : CmpOp} {r : R2} (ho : OpR X (compareOp op) r) (ha : PE X a ta) (hb : PE X b tb) (hm : behindInMarks op b = false) : PT X (.Compare a [op] [b] pos) (tTest (tOp r ta tb)) := by
  intro pins s σ H Q I h
  refine wpAny_isTrue_Compare1 (thn (ha pins s σ H _ I h) fun v s1 ⟨x, H1, I1, r1, q1⟩ => thn (hb pins s1 σ H1 _ I1 q1) fun u s2 ⟨y, H2, I2, r2, q2⟩ =>
    thn (ho pins s2 σ H2 x y v u _ I2 r1 r2 q2) fun c s3 ⟨z, H3, I3, r3, k, e, q3⟩ => ?_) hm
  subst e
  cases r3
  exact wpAny_truthy_bool ⟨H3, I3, q3⟩
theorem line63 : (sizeLine : Nat) < 2 ^ 63 := by rw [sizeLine_eq]; decide
theorem vals1 {x : V} {us : List Value} (r : Vals [x] us) : ∃ u, us = [u] ∧ RelV x u := by
  cases r with
  | cons r1 r2 => cases r2; exact ⟨_, rfl, r1⟩
theorem vals2 {x y : V} {us : List Value} (r : Vals [x, y] us) : ∃ u w', us = [u, w'] ∧ RelV x u ∧ RelV y w' := by
  cases r with
  | cons r1 r2 =>
    cases r2 with
    | cons r3 r4 => cases r4; exact ⟨_, _, rfl, r1, r3⟩
theorem call_max2 (hc : X.calm = true) : CallR X (.builtin "max") (fun xs H Q => ∃ i j, xs = [.int i, .int j] ∧ Q (.int (if j > i then j else i)) H) := by
  intro pins s σ H xs us Q I r h
  obtain ⟨i, j, rfl, q⟩ := h
  obtain ⟨u, w', rfl, ⟨t, rfl⟩, ⟨t', rfl⟩⟩ := vals2 r
  refine max_two_ints (I.ok.hd hc) fun h' tk k => ⟨_, H, I.kept k, ?_, q⟩
  by_cases hj : j > i
  · rw [if_pos hj, if_pos hj]; exact ⟨_, rfl⟩
  · rw [if_neg hj, if_neg hj]; exact ⟨_, rfl⟩
theorem call_min2 (hc : X.calm = true) : CallR X (.builtin "min") (fun xs H Q => ∃ i j, xs = [.int i, .int j] ∧ Q (.int (if j < i then j else i)) H) := by
  intro pins s σ H xs us Q I r h
  obtain ⟨i, j, rfl, q⟩ := h
  obtain ⟨u, w', rfl, ⟨t, rfl⟩, ⟨t', rfl⟩⟩ := vals2 r
  refine min_two_ints (I.ok.hd hc) fun h' tk k => ⟨_, H, I.kept k, ?_, q⟩
  by_cases hj : j < i
  · rw [if_pos hj, if_pos hj]; exact ⟨_, rfl⟩
  · rw [if_neg hj, if_neg hj]; exact ⟨_, rfl⟩
end
end L2
namespace L2
open PySem PySem.Spec PyProof.Rows
structure ObjM (h : Heap) (x dx C : Addr) (mA : Str → Option Value) : Prop where
  obj : h.get? x = some (PySem.W.instObj C dx)
  ns : h.Ns1 dx mA
  ne : dx ≠ x
theorem lookIn_ns {h : Heap} {dx : Addr} {mA : Str → Option Value} (n : h.Ns1 dx mA) : ∃ od, h.get? dx = some od ∧ ∀ name, PySem.W.lookIn name od = some (mA name) := by
  obtain ⟨o, es, ep, ho, hd, hk, _, hm⟩ := n
  refine ⟨o, ho, fun name => ?_⟩
  have e := hm name
  unfold nsFind findBy at e
  rw [← Array.find?_toList] at e
  unfold PySem.W.lookIn
  rw [hd]
  dsimp only
  split
  · rename_i y q
    rw [q] at e
    exact congrArg some e
  · rename_i q
    rw [q] at e
    have a : es.toList.any (·.refKey) = false := by
      rw [List.any_eq_false]
      intro y hy
      obtain ⟨z, t, hkey⟩ := hk y (Array.mem_toList_iff.mp hy)
      simp [DictEntry.refKey, hkey]
    have a' : ¬ es.toList.any (·.refKey) = true := by rw [a]; exact Bool.false_ne_true
    rw [if_neg a']
    exact congrArg some e
theorem ObjM.look {h : Heap} {x dx C : Addr} {mA : Str → Option Value} (I : ObjM h x dx C mA) : ∃ od, PySem.W.InstAt h x (PySem.W.instObj C dx) C (some od) ∧ ∀ name, PySem.W.lookIn name od = some (mA name) :=
  let ⟨od, ho, hl⟩ := lookIn_ns I.ns
  ⟨od, ⟨I.obj, rfl, rfl, ho⟩, hl⟩
section
variable {prog : Program} {w : World} {A : Around} {E : Value → Shared → Prop} {s : Shared} {K : PySem.W.Frag} {x dx C f : Addr} {mA : Str → Option Value} {name : Str} {v : Value}
theorem get_map {expr : Bool} {Q : Value → Shared → Prop} (X : K.In s.heap) (I : ObjM s.heap x dx C mA) (hg : PySem.W.plainGet K C name = true) (hh : PySem.W.hasDictIn K C = true)
    (ha : PySem.W.findIn K (.ref C) name = some none) (hv : mA name = some v) (hv' : PySem.W.handedIn v = true) (h : Q v { s with toks := s.toks + 1 }) :
    wpAny (model prog w) A (getAttr (.ref x) name expr) Q E s := by
  obtain ⟨od, J, hl⟩ := I.look
  exact PySem.W.get_value X J (PySem.W.plainGet_of hg).1 (PySem.W.findObj_own hh ha rfl (by rw [hl, hv])) hv' h
theorem get_meth {pl : Sem Bool} {Q : Value × List Value → Shared → Prop} (X : K.In s.heap) (I : ObjM s.heap x dx C mA) (hg : PySem.W.plainGet K C name = true)
    (hf : PySem.W.findIn K (.ref C) name = some (some (.ref f))) (ht : PySem.W.isFn K (.ref f) = true) (hv : mA name = none) (h : Q (.ref f, [.ref x]) s) :
    wpAny (model prog w) A (getMethod (.ref x) name pl) Q E s := by
  obtain ⟨od, J, hl⟩ := I.look
  exact PySem.W.method_fn X J (PySem.W.plainGet_of hg).1 (PySem.W.plainGet_of hg).2 hf (beq_iff_eq.mp ht) (by show (PySem.W.lookIn name od).map (·.isSome) = some false; rw [hl, hv]; rfl) h
theorem set_map {ns : List Str} {Q : Unit → Shared → Prop} (X : K.In s.heap) (I : ObjM s.heap x dx C mA)
    (hs : PySem.W.findIn K (.ref C) "__setattr__" = some (some (.builtin "object.__setattr__"))) (hp : PySem.W.plainOver K C = true) (ht : PySem.W.takerIn K C name = some none) (hh : PySem.W.hasDictIn K C = true)
    (hw : PySem.Within mA ns) (hsz : ns.length ≤ sizeLine)
    (h : ∀ h', ObjM h' x dx C (fun y => if y = name then some v else mA y) → Heap.SameBut dx s.heap h' → Q () { s with heap := h', toks := s.toks + 2 }) :
    wpAny (model prog w) A (setAttr (.ref x) name v) Q E s := by
  obtain ⟨od, J, hl⟩ := I.look
  refine PySem.W.set_plain X J hs (PySem.W.osa_open (s := { s with toks := s.toks + 1 }) (r := none) X J hp ht fun b => ?_)
  obtain ⟨cd, hc, hd'⟩ := PySem.W.any_some hh
  have hx : s.heap.get? x = some ⟨.ref C, some dx, .plain, #[]⟩ := I.obj
  refine wpAny_bind (wpAny_pure (wpAny_bind (wpAny_bind (wpAny_loadPart hx (wpAny_bind (PySem.W.Looks.here (s := { s with toks := s.toks + 1 }) (PySem.W.looks_clsIn X hc) ?_))))))
  rw [hd']
  refine wpAny_pure (a := some dx) (wpAny_bind (wpAny_pure (wpAny_bind ?_)))
  refine wpAny_nsSet1 (s := { s with toks := s.toks + 1 }) I.ns fun h' hn2 hs2 => ?_
  obtain ⟨oD, esD, epD, hoD, hdD, hcD⟩ := hn2.count (PySem.Within.cons name v hw)
  refine wpAny_bind (wpAny_lookBehind hoD (by rw [hdD]; exact pastItsLine_dict (Nat.le_trans hcD (by rw [List.length_cons]; omega))) ?_)
  exact wpAny_pure (h _ ⟨(hs2.2 _ (Ne.symm I.ne)).trans I.obj, hn2, I.ne⟩ hs2)
theorem make_map {R : Result → Shared → Prop} {vs : List Value} {kw : List (Str × Value)} (X : K.In s.heap) (hm : PySem.W.makesIn K C = true)
    (hi : PySem.W.findIn K (.ref C) "__init__" = some (some (.ref f))) (hf : PySem.W.typeIn K (.ref f) = some (.type "function"))
    (h : codeAny (model prog w) (A.under (.builtin "type.__call__" ⟨.ref C :: vs, kw⟩)) (.call (.ref f) ⟨.ref (s.heap.objs.size + 1) :: vs, kw⟩) (PySem.W.InitBack (s.heap.objs.size + 1) R)
      { s with heap := (s.heap.push PySem.W.emptyDict).push (PySem.W.instObj C s.heap.objs.size) }) :
    codeAny (model prog w) A (.call (.ref C) ⟨vs, kw⟩) R s := by
  obtain ⟨hh, g, d, t, os⟩ := s
  exact PySem.W.make_core (PySem.W.makes_of X hm) (PySem.W.looks_findIn X hi) (fun self => PySem.W.bind_fn X self hf) (.inl rfl) h
theorem make_map0 {R : Result → Shared → Prop} (X : K.In s.heap) (hm : PySem.W.makesIn K C = true)
    (hi : PySem.W.findIn K (.ref C) "__init__" = some (some (.builtin "object.__init__")))
    (hb : ∀ self, PySem.W.Looks (model prog w) s.heap (bindSpecial (.builtin "object.__init__") self) (.builtin "object.__init__", [self]))
    (h : codeAny (model prog w) (A.under (.builtin "type.__call__" ⟨[.ref C], []⟩)) (.call (.builtin "object.__init__") ⟨[.ref (s.heap.objs.size + 1)], []⟩) (PySem.W.InitBack (s.heap.objs.size + 1) R)
      { s with heap := (s.heap.push PySem.W.emptyDict).push (PySem.W.instObj C s.heap.objs.size) }) :
    codeAny (model prog w) A (.call (.ref C) ⟨[], []⟩) R s := by
  obtain ⟨hh, g, d, t, os⟩ := s
  exact PySem.W.make_core (PySem.W.makes_of X hm) (PySem.W.looks_findIn X hi) hb (.inr ⟨rfl, rfl⟩) h
end
def putF (f : Str) (v : V) : List (Str × V) → List (Str × V)
  | [] => [(f, v)]
  | (g, x) :: r => if g = f then (g, v) :: r else (g, x) :: putF f v r
theorem lookup_putF (f g : Str) (v : V) : ∀ fs : List (Str × V), (putF f v fs).lookup g = if g = f then some v else fs.lookup g
  | [] => by
    show List.lookup g [(f, v)] = _
    by_cases h : g = f
    · have hb : (g == f) = true := beq_iff_eq.mpr h
      simp only [List.lookup, hb, if_pos h]
    · have hb : (g == f) = false := beq_eq_false_iff_ne.mpr h
      simp only [List.lookup, hb, if_neg h]
  | (k, x) :: r => by
    have ih := lookup_putF f g v r
    rw [show putF f v ((k, x) :: r) = (if k = f then (k, v) :: r else (k, x) :: putF f v r) from rfl]
    by_cases hk : k = f
    · rw [if_pos hk]
      by_cases h : g = k
      · have hb : (g == k) = true := beq_iff_eq.mpr h
        simp only [List.lookup, hb, if_pos (h.trans hk)]
      · have hb : (g == k) = false := beq_eq_false_iff_ne.mpr h
        simp only [List.lookup, hb, if_neg (fun e : g = f => h (e.trans hk.symm))]
    · rw [if_neg hk]
      by_cases h : g = k
      · have hb : (g == k) = true := beq_iff_eq.mpr h
        simp only [List.lookup, hb, if_neg (fun e : g = f => hk (h.symm.trans e))]
      · have hb : (g == k) = false := beq_eq_false_iff_ne.mpr h
        simp only [List.lookup, hb]
        exact ih
theorem keys_putF (f : Str) (v : V) : ∀ fs : List (Str × V), f ∈ (putF f v fs).map (·.1) ∧ ∀ g, g ∈ fs.map (·.1) → g ∈ (putF f v fs).map (·.1)
  | [] => ⟨by simp [putF], fun g h => by simp at h⟩
  | (k, x) :: r => by
    obtain ⟨i1, i2⟩ := keys_putF f v r
    rw [show putF f v ((k, x) :: r) = (if k = f then (k, v) :: r else (k, x) :: putF f v r) from rfl]
    by_cases hk : k = f
    · rw [if_pos hk]
      subst hk
      exact ⟨by simp, fun g h => by simpa using h⟩
    · rw [if_neg hk]
      refine ⟨?_, fun g h => ?_⟩
      · rw [List.map_cons]
        exact List.mem_cons_of_mem _ i1
      · rw [List.map_cons] at h ⊢
        rcases List.mem_cons.mp h with e | e
        · exact List.mem_cons.mpr (.inl e)
        · exact List.mem_cons_of_mem _ (i2 g e)
theorem length_putF (f : Str) (v : V) : ∀ fs : List (Str × V), (putF f v fs).length ≤ fs.length + 1
  | [] => by simp [putF]
  | (k, x) :: r => by
    have ih := length_putF f v r
    rw [show putF f v ((k, x) :: r) = (if k = f then (k, v) :: r else (k, x) :: putF f v r) from rfl]
    by_cases hk : k = f
    · rw [if_pos hk, List.length_cons, List.length_cons]; omega
    · rw [if_neg hk, List.length_cons, List.length_cons]; omega
theorem RelO.some_of {v : V} {o : Option Value} (r : RelO (some v) o) : ∃ u, o = some u ∧ RelV v u := by
  cases o with
  | none => exact (show False from r).elim
  | some u => exact ⟨u, rfl, r⟩
theorem RelO.none_of {o : Option Value} (r : RelO none o) : o = none := by
  cases o with
  | none => rfl
  | some u => exact (show False from r).elim
theorem handed_of {v : V} {u : Value} (r : RelV v u) : PySem.W.handedIn u = true := by
  cases v with
  | non => cases (show u = Value.none from r); rfl
  | bl b => cases (show u = Value.bool b from r); rfl
  | int i => obtain ⟨t, e⟩ := (show ∃ t, u = Value.int i t from r); cases e; rfl
  | str x => obtain ⟨t, e⟩ := (show ∃ t, u = Value.str x t from r); cases e; rfl
  | byt b => obtain ⟨t, e⟩ := (show ∃ t, u = Value.bytes b t from r); cases e; rfl
  | flt b => obtain ⟨t, e⟩ := (show ∃ t, u = Value.float b t from r); cases e; rfl
  | ref a => cases (show u = Value.ref a from r); rfl
  | ty n => cases (show u = Value.type n from r); rfl
section
variable {P : Program} {w : World} {H H' : Hp} {h h' : Heap} {a C dx : Addr} {fs fs' : List (Str × V)}
theorem ins_get (hok : HOk P w H h) (e : H a = some (.ins C dx fs)) : ∃ mA, ObjM h a dx C mA ∧ (∀ f, RelO (fs.lookup f) (mA f)) ∧ PySem.Within mA (fs.map (·.1)) ∧ fs.length ≤ 1000 ∧ H dx = some (.own a) := by
  obtain ⟨d, z, ne, ob, mA, n, r, q⟩ := (show ObjOk P w H h a (.ins C dx fs) from hok a _ e)
  exact ⟨mA, ⟨ob, n, ne⟩, r, q, z, d⟩
end
structure Cls (K : PySem.W.Frag) (C : Addr) : Prop where
  pg : PySem.W.plainGet K C Str.empty = true
  hd : PySem.W.hasDictIn K C = true
  po : PySem.W.plainOver K C = true
  sa : PySem.W.findIn K (.ref C) "__setattr__" = some (some (.builtin "object.__setattr__"))
theorem Cls.get {K : PySem.W.Frag} {C : Addr} (c : Cls K C) (f : Str) : PySem.W.plainGet K C f = true := c.pg
def NoAttr (K : PySem.W.Frag) (C : Addr) (f : Str) : Prop := PySem.W.findIn K (.ref C) f = some none
theorem NoAttr.taker {K : PySem.W.Frag} {C : Addr} {f : Str} (n : NoAttr K C f) : PySem.W.takerIn K C f = some none := by
  unfold PySem.W.takerIn
  rw [show PySem.W.findIn K (.ref C) f = some none from n]
  rfl
structure Meth (K : PySem.W.Frag) (C : Addr) (m : Str) (f : Addr) : Prop where
  at_ : PySem.W.findIn K (.ref C) m = some (some (.ref f))
  fn : PySem.W.isFn K (.ref f) = true
  kp : PySem.W.keepIn K (.ref f) = true
section
variable {X : Cx} {pins : List (Addr × Obj)} {σ : St} {H : Hp} {s : Shared} {a C dx : Addr} {fs : List (Str × V)} {f : Str} {v : V} {A : Around} {E : Value → Shared → Prop}
theorem getattr_ok {b : Bool} {Q : Value → Shared → Prop} (I : Inv X pins σ H s) (e : H a = some (.ins C dx fs)) (c : Cls X.K C) (n : NoAttr X.K C f) (l : fs.lookup f = some v)
    (h : ∀ u s', Inv X pins σ H s' → RelV v u → Q u s') : wpAny (model X.prog X.w) A (getAttr (.ref a) f b) Q E s := by
  obtain ⟨mA, O, r, _, _, _⟩ := ins_get I.hok e
  obtain ⟨u, hu, ru⟩ := RelO.some_of (v := v) (o := mA f) (by rw [← l]; exact r f)
  exact get_map I.kIn O (c.get f) c.hd n hu (handed_of ru) (h u _ (I.tok _) ru)
theorem getmeth_ok {m : Str} {g : Addr} {pl : Sem Bool} {Q : Value × List Value → Shared → Prop} (I : Inv X pins σ H s) (e : H a = some (.ins C dx fs)) (c : Cls X.K C) (k : Meth X.K C m g) (l : fs.lookup m = none)
    (h : Q (.ref g, [.ref a]) s) : wpAny (model X.prog X.w) A (getMethod (.ref a) m pl) Q E s := by
  obtain ⟨mA, O, r, _, _, _⟩ := ins_get I.hok e
  have hn : mA m = none := RelO.none_of (by rw [← l]; exact r m)
  exact get_meth I.kIn O (c.get m) k.at_ k.fn hn h
theorem setattr_ok {y : V} {u : Value} {Q : Unit → Shared → Prop} (I : Inv X pins σ H s) (e : H a = some (.ins C dx fs)) (c : Cls X.K C) (n : NoAttr X.K C f) (hl : fs.length < 1000) (ry : RelV y u)
    (h : ∀ s', Inv X pins σ (upd H a (.ins C dx (putF f y fs))) s' → Q () s') : wpAny (model X.prog X.w) A (setAttr (.ref a) f u) Q E s := by
  obtain ⟨mA, O, r, wi, _, ho⟩ := ins_get I.hok e
  have hz : (fs.map (·.1)).length ≤ sizeLine := by rw [List.length_map, sizeLine_eq]; omega
  refine set_map I.kIn O c.sa c.po n.taker c.hd wi hz fun h' O' sb => h _ ?_
  have hd : ∃ o, h'.get? dx = some o := let ⟨o, _, _, e', _⟩ := O'.ns; ⟨o, e'⟩
  refine I.write (x := a) (e := dx) (by rw [e]; exact True.intro) (.inr ho) (fun b q hb z => (sb.2 b hb).trans z) hd ?_
  refine ⟨by rw [upd_ne O.ne]; exact ho, ?_, O.ne, O'.obj, _, O'.ns, fun g => ?_, fun g hg => ?_⟩
  · have := length_putF f y fs; omega
  · show RelO ((putF f y fs).lookup g) (if g = f then some u else mA g)
    rw [lookup_putF]
    by_cases q : g = f
    · rw [if_pos q, if_pos q]; exact ry
    · rw [if_neg q, if_neg q]; exact r g
  · by_cases q : g = f
    · rw [q]; exact (keys_putF f y fs).1
    · refine (keys_putF f y fs).2 g (wi g fun z => hg ?_)
      show (if g = f then some u else mA g) = none
      rw [if_neg q]; exact z
theorem Inv.made (I : Inv X pins σ H s) : Inv X pins σ (upd (upd H s.heap.objs.size (.own (s.heap.objs.size + 1))) (s.heap.objs.size + 1) (.ins C s.heap.objs.size []))
    { s with heap := (s.heap.push PySem.W.emptyDict).push (PySem.W.instObj C s.heap.objs.size) } := by
  have e1 : (s.heap.push PySem.W.emptyDict).get? s.heap.objs.size = some PySem.W.emptyDict := Heap.get?_push_size s.heap rfl
  have e2 : ((s.heap.push PySem.W.emptyDict).push (PySem.W.instObj C s.heap.objs.size)).get? (s.heap.objs.size + 1) = some (PySem.W.instObj C s.heap.objs.size) := by
    have := Heap.get?_push_size (s.heap.push PySem.W.emptyDict) (o := PySem.W.instObj C s.heap.objs.size) rfl
    rwa [Heap.size_push] at this
  have e3 : (s.heap.push PySem.W.emptyDict).Ns s.heap.objs.size (fun _ => none) := ⟨PySem.W.emptyDict, #[], _, e1, rfl, (fun e he => absurd he (by simp)), fun _ => rfl⟩
  have I1 := I.laid (a := s.heap.objs.size) (o := .own (s.heap.objs.size + 1)) (h' := s.heap.push PySem.W.emptyDict) (t' := s.toks) (fun b u q => Heap.get?_push_of_some _ q) (Nat.le_refl _) ⟨_, e1⟩
  refine I1.laid (a := s.heap.objs.size + 1) (o := .ins C s.heap.objs.size []) (t' := s.toks) (fun b u q => Heap.get?_push_of_some _ q) (Nat.le_of_eq (Heap.size_push _ _)) ?_
  have ne : s.heap.objs.size ≠ s.heap.objs.size + 1 := Nat.ne_of_lt (Nat.lt_succ_self _)
  refine ⟨by rw [upd_ne ne, upd_same], Nat.zero_le _, ne, e2, fun _ => none, (Heap.Ns1.of_empty e3).at fun o q => Heap.get?_push_of_some _ q, fun _ => True.intro, fun y hy => absurd rfl hy⟩
theorem attr_of {prog : Program} {w : World} {env : Env} {e : Expr} {f : Str} {pos : Pos} {s : Shared} {Q : Value → Shared → Prop} (hb : attributeBase e f env (eval e env) = eval e env)
    (h : wpAny (model prog w) A (eval e env) (fun o s₁ => wpAny (model prog w) A (getAttr o f true) Q E s₁) E s) : wpAny (model prog w) A (eval (.Attribute e f pos) env) Q E s :=
  Attribute_any_ h (by rw [arm_eval_Attribute, hb])
end
def tFld (K : PySem.W.Frag) (ta : TE) (f : Str) : TE := fun σ H Q => ta σ H fun x H1 => ∃ a C dx fs v, x = .ref a ∧ H1 a = some (.ins C dx fs) ∧ Cls K C ∧ NoAttr K C f ∧ fs.lookup f = some v ∧ Q v H1
def sFld (K : PySem.W.Frag) (ta tv : TE) (f : Str) : TS := fun D σ H => tv σ H fun y H1 => ta σ H1 fun x H2 => ∃ a C dx fs, x = .ref a ∧ H2 a = some (.ins C dx fs) ∧ Cls K C ∧ NoAttr K C f ∧ fs.length < 1000 ∧
  D.nx σ (upd H2 a (.ins C dx (putF f y fs)))
section
variable {X : Cx} {o e value : Expr} {f : Str} {pos pos' tpos : Pos} {ta tv : TE}
theorem pe_fld (he : PE X e ta) (hb : attributeBase e f X.env (eval e X.env) = eval e X.env) : PE X (.Attribute e f pos) (tFld X.K ta f) := by
  intro pins s σ H Q I h
  refine attr_of hb (thn (he pins s σ H _ I h) fun u s1 ⟨x, H1, I1, rx, a, C, dx, fs, v, ex, ea, c, n, l, q⟩ => ?_)
  subst ex
  obtain rfl : u = Value.ref a := rx
  exact getattr_ok I1 ea c n l fun u' s2 I2 ru => ⟨v, H1, I2, ru, q⟩
theorem ps_fld (ha : PE X o ta) (hv : PE X value tv) (hs : swapsWith value (some (.Attribute o f pos')) pos.line X.env = pure false) : PS X (.Assign [.Attribute o f pos'] value pos) (sFld X.K ta tv f) := by
  intro pins s σ H D I h
  refine plainObj_wpAny_Assign_Attribute (thn (hv pins s σ H _ I h) fun u s1 ⟨y, H1, I1, ry, q⟩ => thn (ha pins s1 σ H1 _ I1 q) fun ov s2 ⟨x, H2, I2, rx, a, C, dx, fs, ex, ea, c, n, l, q2⟩ => ?_) hs
  subst ex
  obtain rfl : ov = Value.ref a := rx
  exact setattr_ok I2 ea c n l ry fun s3 I3 => ⟨σ, _, I3, q2⟩
end
section
variable {X : Cx} {pins : List (Addr × Obj)} {σ : St} {H : Hp} {s : Shared} {A : Around} {E : Value → Shared → Prop} {Q : Value → Shared → Prop} {c : Value} {b : Bool}
inductive TyOf (K : PySem.W.Frag) (H : Hp) : V → Value → Prop where
  | non : TyOf K H .non (.type "NoneType")
  | bl (x : Bool) : TyOf K H (.bl x) (.type "bool")
  | int (i : Int) : TyOf K H (.int i) (.type "int")
  | str (x : Str) : TyOf K H (.str x) (.type "str")
  | flt (x : UInt64) : TyOf K H (.flt x) (.type "float")
  | lst {a : Addr} {xs : List V} (e : H a = some (.lst xs)) : TyOf K H (.ref a) (.type "list")
  | frz {a : Addr} {o : Obj} {xs : List V} (e : H a = some (.frz o (.lst xs))) : TyOf K H (.ref a) (.type "list")
  | tup {a : Addr} {xs : List V} (e : H a = some (.tup xs)) : TyOf K H (.ref a) (.type "tuple")
  | dK {a : Addr} {kvs : List (Key × V)} (e : H a = some (.dK kvs)) : TyOf K H (.ref a) (.type "dict")
  | dT {a : Addr} {kvs : List (List Key × V)} (e : H a = some (.dT kvs)) : TyOf K H (.ref a) (.type "dict")
  | ins {a C dx : Addr} {fs : List (Str × V)} (e : H a = some (.ins C dx fs)) (cl : Cls K C) (ha : PySem.W.findIn K (.ref C) "__class__" = some (some (.builtin "object.__class__")))
      (hn : PySem.W.specialIn K (.builtin "object.__class__") "__get__" = some (some (.builtin "getset_descriptor.__get__"))) (htk : PySem.W.takesIn K (.builtin "object.__class__") = some true)
      (hm : PySem.W.mroIn K C (.type "object") = some true) : TyOf K H (.ref a) (.ref C)
theorem isinst_ok {x : V} {u t : Value} (I : Inv X pins σ H s) (rx : RelV x u) (ty : TyOf X.K H x t) (e : PySem.W.kitOne X.K t c = some b) (h : ∀ tk, Q (.bool b) { s with toks := tk }) :
    wpAny (model X.prog X.w) A (call (.builtin "isinstance") [u, c]) Q E s := by
  cases ty with
  | non => cases (show u = Value.none from rx); exact PySem.W.kia_one PySem.W.kitx_none I.kIn True.intro e (fun z => nomatch z) h
  | bl y => cases (show u = Value.bool y from rx); exact PySem.W.kia_one PySem.W.kitx_bool I.kIn True.intro e (fun z => nomatch z) h
  | int i => obtain ⟨t, q⟩ := (show ∃ t, u = Value.int i t from rx); cases q; exact PySem.W.kia_one PySem.W.kitx_int I.kIn True.intro e (fun z => nomatch z) h
  | str y => obtain ⟨t, q⟩ := (show ∃ t, u = Value.str y t from rx); cases q; exact PySem.W.kia_one PySem.W.kitx_str I.kIn True.intro e (fun z => nomatch z) h
  | flt y => obtain ⟨t, q⟩ := (show ∃ t, u = Value.float y t from rx); cases q; exact PySem.W.kia_one PySem.W.kitx_float I.kIn True.intro e (fun z => nomatch z) h
  | @lst a xs ea =>
    cases (show u = Value.ref a from rx)
    obtain ⟨_, _, n, _, h1⟩ := (show ObjOk X.prog X.w H s.heap a (.lst xs) from I.hok a _ ea)
    exact PySem.W.kia_one PySem.W.kitx_list I.kIn ⟨_, h1, rfl⟩ e (fun z => nomatch z) h
  | @frz a ob xs ea =>
    cases (show u = Value.ref a from rx)
    obtain ⟨_, _, _, n, _, h1⟩ := (show ObjOk X.prog X.w H s.heap a (.frz ob (.lst xs)) from I.hok a _ ea)
    exact PySem.W.kia_one PySem.W.kitx_list I.kIn ⟨_, h1, rfl⟩ e (fun z => nomatch z) h
  | @tup a xs ea =>
    cases (show u = Value.ref a from rx)
    obtain ⟨_, _, _, p⟩ := (show ObjOk X.prog X.w H s.heap a (.tup xs) from I.hok a _ ea)
    obtain ⟨o, h1, h2, _⟩ := p
    exact PySem.W.kia_one PySem.W.kitx_tuple I.kIn ⟨o, h1, h2⟩ e (fun z => nomatch z) h
  | @dK a kvs ea =>
    cases (show u = Value.ref a from rx)
    obtain ⟨_, _, vs, _, p⟩ := (show ObjOk X.prog X.w H s.heap a (.dK kvs) from I.hok a _ ea)
    obtain ⟨o, es, ep, h1, h2, _⟩ := p
    exact PySem.W.kia_one PySem.W.kitx_dict I.kIn ⟨o, h1, h2.1⟩ e (fun z => nomatch z) h
  | @dT a kvs ea =>
    cases (show u = Value.ref a from rx)
    obtain ⟨_, _, xs, _, o, es, ep, h1, h2, _⟩ := (show ObjOk X.prog X.w H s.heap a (.dT kvs) from I.hok a _ ea)
    exact PySem.W.kia_one PySem.W.kitx_dict I.kIn ⟨o, h1, h2.1⟩ e (fun z => nomatch z) h
  | @ins a C dx fs ea cl ha hn htk hm =>
    cases (show u = Value.ref a from rx)
    obtain ⟨mA, O, _⟩ := ins_get I.hok ea
    obtain ⟨od, J, _⟩ := O.look
    exact PySem.W.kia_one (PySem.W.kitx_own (cl.get _) cl.hd ha hn htk hm) I.kIn J e (fun z => nomatch z) h
end
end L2
namespace L2
open PySem PySem.Spec PyProof.Rows
structure Room (k : Nat) (A : Around) : Prop where
  hd : A.handled = none
  dp : A.depth + 3 * k + 5 < recursionLimit
  un : A.units + 16 * k + 200 < cLine
theorem Room.mono {j k : Nat} {A : Around} (r : Room k A) (h : j ≤ k) : Room j A := ⟨r.hd, by have := r.dp; omega, by have := r.un; omega⟩
theorem Room.deeper {k : Nat} {A : Around} (r : Room (k + 1) A) (env : Env) : Room k (A.deeper env) :=
  ⟨r.hd, by have := r.dp; show A.depth + 1 + 3 * k + 5 < _; omega, by have := r.un; show A.units + 3 + 16 * k + 200 < _; omega⟩
theorem Room.in1 {k : Nat} {A : Around} (r : Room (k + 1) A) : Room k A.in1 :=
  ⟨r.hd, by have := r.dp; show A.depth + 3 * k + 5 < _; omega, by have := r.un; show A.units + 1 + 16 * k + 200 < _; omega⟩
theorem make_depth {A : Around} {C : Addr} {us : List Value} {kw : List (Str × Value)} : (A.under (.builtin "type.__call__" ⟨.ref C :: us, kw⟩)).depth = A.depth + 1 := by
  first | rfl | simp [Around.under, Code.weight, Code.isCreation, Code.isGuard, Code.isCaller, Code.frames, Code.isFrame, guardIds]
theorem make_units {A : Around} {C : Addr} {us : List Value} {kw : List (Str × Value)} : (A.under (.builtin "type.__call__" ⟨.ref C :: us, kw⟩)).units = A.units + 1 := by
  first | rfl | simp [Around.under, Code.cUnits, Code.frames, Code.isFrame]
theorem Room.make {k : Nat} {A : Around} (r : Room (k + 1) A) (C : Addr) (us : List Value) (kw : List (Str × Value)) : Room k (A.under (.builtin "type.__call__" ⟨.ref C :: us, kw⟩)) :=
  ⟨r.hd, by have := r.dp; rw [make_depth]; omega, by have := r.un; rw [make_units]; omega⟩
theorem Room.depth {k : Nat} {A : Around} (r : Room k A) : A.depth < recursionLimit := by have := r.dp; omega
theorem Room.units {k : Nat} {A : Around} (r : Room k A) : A.units + 64 < cLine := by have := r.un; omega
def tNil : TA := fun _ H Q => Q [] H
def tCons (ta : TE) (tr : TA) : TA := fun σ H Q => ta σ H fun x H1 => tr σ H1 fun xs H2 => Q (x :: xs) H2
section
variable {X : Cx} {e : Expr} {es : List Expr} {te : TE} {t : TA} {pos : Pos}
theorem pa_nil : PA X [] tNil := fun _ _ _ _ H Q I h => Calls.spliced_nil ⟨[], H, I, .nil, h⟩
theorem pa_cons (ha : PE X e te) (hr : PA X es t) (hs : starEach (e :: es) X.env = (false, eval e X.env) :: starEach es X.env := by rfl) : PA X (e :: es) (tCons te t) := by
  intro pos pins s σ H Q I h
  rw [hs]
  show wpAny _ _ (spliced ((false, eval e X.env) :: backTo pos (starEach es X.env))) _ _ s
  refine Calls.spliced_cons (thn (ha pins s σ H _ I h) fun u s1 ⟨x, H1, I1, r1, q1⟩ => ?_)
  exact thn (hr pos pins s1 σ H1 _ I1 q1) fun us s2 ⟨xs, H2, I2, r2, q2⟩ => ⟨x :: xs, H2, I2, .cons r1 r2, q2⟩
def tTup (t : TA) : TE := fun σ H Q => t σ H fun xs H1 => xs.length ≤ sizeLine ∧ ∀ p, H1 p = none → Q (.ref p) (upd H1 p (.tup xs))
def tLst (t : TA) : TE := fun σ H Q => t σ H fun xs H1 => xs.length ≤ sizeLine ∧ ∀ p, H1 p = none → Q (.ref p) (upd H1 p (.lst xs))
theorem pe_tup {x1} (h : PA X es t) : PE X (.Tuple es x1 pos) (tTup t) := by
  intro pins s σ H Q I hq
  refine wpAny_Tuple_spliced (thn (h pos pins s σ H _ I hq) fun us s1 ⟨xs, H1, I1, r, z, q⟩ => ⟨by rw [← r.length]; exact z, ?_⟩)
  have hf : H1 s1.heap.objs.size = none := I1.hok.fresh (Nat.le_refl _)
  refine ⟨.ref s1.heap.objs.size, upd H1 s1.heap.objs.size (.tup xs), I1.laid (t' := s1.toks) (fun b u e => Heap.get?_push_of_some _ e) (Nat.le_refl _) ?_, rfl, q _ hf⟩
  exact ⟨z, us, r, ⟨_, Heap.get?_push_size _ rfl, rfl, _, rfl⟩⟩
theorem pe_lst (h : PA X es t) : PE X (.List es pos) (tLst t) := by
  intro pins s σ H Q I hq
  refine wpAny_List_spliced (thn (h pos pins s σ H _ I hq) fun us s1 ⟨xs, H1, I1, r, z, q⟩ => ⟨by rw [← r.length]; exact z, ?_⟩)
  have hf : H1 s1.heap.objs.size = none := I1.hok.fresh (Nat.le_refl _)
  refine ⟨.ref s1.heap.objs.size, upd H1 s1.heap.objs.size (.lst xs), I1.laid (t' := s1.toks) (fun b u e => Heap.get?_push_of_some _ e) (Nat.le_refl _) ?_, rfl, q _ hf⟩
  exact ⟨z, us, 0, r, Heap.get?_push_size _ rfl⟩
end
abbrev Sp := List V → Hp → VK → XK → Prop
abbrev CXT := List Env → Hp → Shared → XK → Value → Shared → Prop
structure Env0 (P : Program) (w : World) (K : PySem.W.Frag) (mg : Str → Option Value) (base : Heap) (A : Around) (outer : List Env) (s : Shared) (H : Hp) : Prop where
  frames : A.frames = some outer
  mod : Mod K mg base
  bs : ∀ b o, base.get? b = some o → s.heap.get? b = some o ∧ H b = none
  bsz : base.objs.size ≤ s.heap.objs.size
  funs : s.heap.FunFrames base outer
  frf : ∀ b ∈ frs outer, H b = none
  hok : HOk P w H s.heap
  bare : AllBare s.gens
def CE (outer : List Env) (P : Program) (w : World) (H : Hp) (s : Shared) (Q : VK) (u : Value) (s' : Shared) : Prop :=
  ∃ v H', s'.os = s.os ∧ AllBare s'.gens ∧ Un (frs outer) [] H H' s.heap s'.heap ∧ HOk P w H' s'.heap ∧ RelV v u ∧ Q v H'
def CR (CX : CXT) (outer : List Env) (P : Program) (w : World) (H : Hp) (s : Shared) (Q : VK) (E : XK) (r : Result) (s' : Shared) : Prop :=
  match r with
  | .ok (.ret u) => CE outer P w H s Q u s'
  | .ok _ => False
  | .error e => CX outer H s E e s'
structure FnOk (P : Program) (w : World) (K : PySem.W.Frag) (mg : Str → Option Value) (base : Heap) (CX : CXT) (k : Nat) (f : Addr) (fd : FuncData) (ps : List Str) (sp : Sp) : Prop where
  len : ∀ vs H Q E, sp vs H Q E → vs.length = ps.length
  run : ∀ (A : Around) (outer : List Env) (s : Shared) (H : Hp) (args : Args) (us : List Value) (vs : List V) (Q : VK) (E : XK), Room k A → Env0 P w K mg base A outer s H → BindsTo s fd args (ps.zip us) → Vals vs us → sp vs H Q E →
    codeAny (model P w) A (.call (.ref f) args) (CR CX outer P w H s Q E) s
theorem FnOk.mono {P : Program} {w : World} {K : PySem.W.Frag} {mg : Str → Option Value} {base : Heap} {CX : CXT} {j k : Nat} {f : Addr} {fd : FuncData} {ps : List Str} {sp : Sp} (F : FnOk P w K mg base CX j f fd ps sp) (h : j ≤ k) :
    FnOk P w K mg base CX k f fd ps sp := ⟨F.len, fun A outer s H args us vs Q E hr => F.run A outer s H args us vs Q E (hr.mono h)⟩
theorem FnOk.imp {P : Program} {w : World} {K : PySem.W.Frag} {mg : Str → Option Value} {base : Heap} {CX : CXT} {k : Nat} {f : Addr} {fd : FuncData} {ps : List Str} {sp sp' : Sp} (F : FnOk P w K mg base CX k f fd ps sp)
    (h : ∀ vs H Q E, sp' vs H Q E → sp vs H Q E) : FnOk P w K mg base CX k f fd ps sp' :=
  ⟨fun vs H Q E q => F.len vs H Q E (h _ _ _ _ q), fun A outer s H args us vs Q E hr he hb hv hs => F.run A outer s H args us vs Q E hr he hb hv (h _ _ _ _ hs)⟩
theorem Env0.make {P : Program} {w : World} {K : PySem.W.Frag} {mg : Str → Option Value} {base : Heap} {A : Around} {outer : List Env} {s : Shared} {H : Hp} (e : Env0 P w K mg base A outer s H) (C : Addr) (us : List Value) (kw : List (Str × Value)) :
    Env0 P w K mg base (A.under (.builtin "type.__call__" ⟨.ref C :: us, kw⟩)) outer s H := ⟨by first | exact e.frames | (simpa [Around.under, Code.envs, Code.isFrame, pushEnvs] using e.frames), e.mod, e.bs, e.bsz, e.funs, e.frf, e.hok, e.bare⟩
theorem Env0.in1 {P : Program} {w : World} {K : PySem.W.Frag} {mg : Str → Option Value} {base : Heap} {A : Around} {outer : List Env} {s : Shared} {H : Hp} (e : Env0 P w K mg base A outer s H) :
    Env0 P w K mg base A.in1 outer s H := ⟨e.frames, e.mod, e.bs, e.bsz, e.funs, e.frf, e.hok, e.bare⟩
section
variable {X : Cx} {pins : List (Addr × Obj)} {σ : St} {H : Hp} {s s' : Shared}
theorem Inv.env0 (I : Inv X pins σ H s) : Env0 X.prog X.w X.K X.mg X.base X.A X.stack s H :=
  ⟨I.ok.frames, I.ok.mod, I.bs, Nat.le_trans I.ok.bsz I.sz, I.stack, I.stkFree, I.hok, I.bare⟩
theorem Inv.after {Q : VK} {u : Value} (I : Inv X pins σ H s) (h : CE X.stack X.prog X.w H s Q u s') : EP X pins σ Q u s' := by
  obtain ⟨v, H', os, bare, un, hok, r, q⟩ := h
  obtain ⟨hh, g, d, t, os'⟩ := s'
  obtain rfl : os' = s.os := os
  exact ⟨v, H', I.call (h' := hh) (g' := g) (d' := d) (t' := t) (ch := []) un hok bare (fun b z => absurd z (by simp)), r, q⟩
end
def tCall (sp : Sp) (dvs : List V) (E : XK) (t : TA) : TE := fun σ H Q => t σ H fun vs H1 => sp (vs ++ dvs) H1 Q E
def tMeth (C : Addr) (m : Str) (sp : Sp) (dvs : List V) (E : XK) (ta : TE) (t : TA) : TE := fun σ H Q => ta σ H fun x H1 => ∃ a dx fs, x = .ref a ∧ H1 a = some (.ins C dx fs) ∧ fs.lookup m = none ∧
  t σ H1 fun vs H2 => sp (x :: (vs ++ dvs)) H2 Q E
def tMake (C : Addr) (sp : Sp) (dvs : List V) (E : XK) (t : TA) : TE := fun σ H Q => t σ H fun vs H1 => ∀ x dx, H1 x = none → H1 dx = none → dx ≠ x →
  sp (.ref x :: (vs ++ dvs)) (upd (upd H1 dx (.own x)) x (.ins C dx [])) (fun v H2 => v = .non ∧ Q (.ref x) H2) E
def Binds (K : PySem.W.Frag) (fd : FuncData) (ps : List Str) (ds : List Value) : Prop :=
  ∀ (s : Shared) (us : List Value), K.In s.heap → (us ++ ds).length = ps.length → BindsTo s fd ⟨us, []⟩ (ps.zip (us ++ ds))
theorem Binds.all {K : PySem.W.Frag} {fd : FuncData} {ps : List Str} (h : ∀ us : List Value, us.length = ps.length → bindArgs fd ⟨us, []⟩ = pure (ps.zip us)) : Binds K fd ps [] := fun s us _ hl => by
  rw [List.append_nil] at hl ⊢
  exact .of_eq (h us hl)
def Passes (CX : CXT) (X : Cx) (E : XK) : Prop := ∀ (pins : List (Addr × Obj)) (σ : St) (H : Hp) (s : Shared) (e : Value) (s' : Shared), Inv X pins σ H s → CX X.stack H s E e s' → X.xe e s'
section
variable {X : Cx} {CX : CXT} {k : Nat} {f C : Addr} {fd : FuncData} {ps : List Str} {sp : Sp} {dvs : List V} {ds : List Value} {E : XK} {x m : Str} {p pos apos : Pos} {e o : Expr} {es : List Expr} {ta : TE} {t : TA}
theorem run_fn {pins : List (Addr × Obj)} {σ : St} {H : Hp} {s : Shared} {Q : VK} {us : List Value} {vs : List V} (F : FnOk X.prog X.w X.K X.mg X.base CX k f fd ps sp) (hr : Room k X.A) (hb : Binds X.K fd ps ds) (hd : Vals dvs ds) (hx : Passes CX X E)
    (I : Inv X pins σ H s) (r : Vals vs us) (h : sp (vs ++ dvs) H Q E) : wpAny (model X.prog X.w) X.A (call (.ref f) us) (EP X pins σ Q) X.xe s := by
  have r2 : Vals (vs ++ dvs) (us ++ ds) := r.append hd
  have hl : (us ++ ds).length = ps.length := by rw [← r2.length]; exact F.len _ _ _ _ h
  refine wpAny_call (codeAny_mono (F.run X.A X.stack s H ⟨us, []⟩ (us ++ ds) (vs ++ dvs) Q E hr I.env0 (hb s us I.kIn hl) r2 h) fun r s' hq => ?_)
  cases r with
  | error e => exact hx pins σ H s e s' I hq
  | ok fl =>
    cases fl with
    | ret u => exact I.after hq
    | next => exact False.elim hq
    | brk => exact False.elim hq
    | cont => exact False.elim hq
theorem pe_call (F : FnOk X.prog X.w X.K X.mg X.base CX k f fd ps sp) (hr : Room k X.A) (hg : Gl X x) (hm : X.mg x = some (.ref f)) (hk : PySem.W.keepIn X.K (.ref f) = true) (hb : Binds X.K fd ps ds) (hd : Vals dvs ds) (hx : Passes CX X E)
    (ha : PA X (e :: es) t) (hdb : (x == ("__debug__" : Str)) = false := by decide) (he : starEach (e :: es) X.env = (false, eval e X.env) :: starEach es X.env := by rfl) (hpl : (backTo pos (starEach es X.env)).any (·.1) = false := by rfl) :
    PE X (.Call (.Name x p) (e :: es) [] pos) (tCall sp dvs E t) := by
  intro pins s σ H Q I h
  refine wpAny_Call_Name_kw (ld_glob I hg hm ?_ hdb)
  refine PySem.W.callWith_K (h₀ := X.base) I.ok.mod.kin hk (thn (ha pos pins s σ H _ I h) fun us s1 ⟨vs, H1, I1, r, q⟩ => ⟨I1.kIn, ?_⟩) he hpl
  exact run_fn F hr hb hd hx I1 r q
theorem pe_meth {pl : Sem Bool} (he : PE X o ta) (c : Cls X.K C) (hm : Meth X.K C m f) (F : FnOk X.prog X.w X.K X.mg X.base CX k f fd ps sp) (hr : Room k X.A) (hb : Binds X.K fd ps ds) (hd : Vals dvs ds) (hx : Passes CX X E) (ha : PA X (e :: es) t)
    (hst : starEach (e :: es) X.env = (false, eval e X.env) :: starEach es X.env := by rfl) (hpl : (backTo pos (starEach es X.env)).any (·.1) = false := by rfl)
    (ht : eval (.Call (.Attribute o m apos) (e :: es) [] pos) X.env = (do
      let ov ← eval o X.env
      standAt apos.atName
      let (f, first) ← holding [ov] (getMethod ov m pl)
      callWith pos f first (backTo pos (starEach (e :: es) X.env)) (backToKw pos (keywordEach [] X.env))) := by rfl) :
    PE X (.Call (.Attribute o m apos) (e :: es) [] pos) (tMeth C m sp dvs E ta t) := by
  intro pins s σ H Q I h
  refine PySem.W.methodCall_KW (pl := pl) (thn (he pins s σ H _ I h) fun u s1 ⟨x, H1, I1, rx, a, dx, fs, ex, ea, l, q⟩ => ?_) ht
  subst ex
  obtain rfl : u = Value.ref a := rx
  refine getmeth_ok I1 ea c hm l ?_
  refine PySem.W.callWith_K (first := [.ref a]) (h₀ := X.base) I.ok.mod.kin hm.kp (thn (ha pos pins s1 σ H1 _ I1 q) fun us s2 ⟨vs, H2, I2, r, q2⟩ => ⟨I2.kIn, ?_⟩) hst hpl
  exact run_fn (us := .ref a :: us) (vs := .ref a :: vs) F hr hb hd hx I2 (.cons rfl r) q2
structure Mk (K : PySem.W.Frag) (C f : Addr) : Prop where
  makes : PySem.W.makesIn K C = true
  init : PySem.W.findIn K (.ref C) "__init__" = some (some (.ref f))
  fn : PySem.W.isFn K (.ref f) = true
  kp : PySem.W.keepIn K (.ref C) = true
theorem run_make {pins : List (Addr × Obj)} {σ : St} {H : Hp} {s : Shared} {Q : VK} {us : List Value} {vs : List V} (M : Mk X.K C f) (F : FnOk X.prog X.w X.K X.mg X.base CX k f fd ps sp) (hr : Room (k + 1) X.A) (hb : Binds X.K fd ps ds) (hd : Vals dvs ds)
    (hx : Passes CX X E) (I : Inv X pins σ H s) (r : Vals vs us)
    (h : ∀ x dx, H x = none → H dx = none → dx ≠ x → sp (.ref x :: (vs ++ dvs)) (upd (upd H dx (.own x)) x (.ins C dx [])) (fun v H2 => v = .non ∧ Q (.ref x) H2) E) :
    wpAny (model X.prog X.w) X.A (call (.ref C) us) (EP X pins σ Q) X.xe s := by
  have hq := h (s.heap.objs.size + 1) s.heap.objs.size (I.hok.fresh (Nat.le_succ _)) (I.hok.fresh (Nat.le_refl _)) (Nat.ne_of_lt (Nat.lt_succ_self _))
  have I2 := Inv.made (C := C) I
  have r2 : Vals (V.ref (s.heap.objs.size + 1) :: (vs ++ dvs)) (Value.ref (s.heap.objs.size + 1) :: (us ++ ds)) := .cons rfl (r.append hd)
  have hl : (Value.ref (s.heap.objs.size + 1) :: us ++ ds).length = ps.length := by
    have e := r2.length
    rw [F.len _ _ _ _ hq] at e
    exact e.symm
  refine wpAny_call (make_map (f := f) I.kIn M.makes M.init (beq_iff_eq.mp M.fn) (codeAny_mono (F.run _ X.stack _ _ ⟨Value.ref (s.heap.objs.size + 1) :: us, []⟩ (Value.ref (s.heap.objs.size + 1) :: (us ++ ds)) _ _ E (hr.make C us [])
    (I2.env0.make C us []) (hb _ (Value.ref (s.heap.objs.size + 1) :: us) I2.kIn hl) r2 hq) fun r s' hq' => ?_))
  cases r with
  | error e => exact hx pins σ _ _ e s' I2 hq'
  | ok fl =>
    cases fl with
    | ret u =>
      obtain ⟨v, H', I3, rv, ev, q3⟩ := I2.after hq'
      subst ev
      exact ⟨rv, ⟨V.ref (s.heap.objs.size + 1), H', I3, rfl, q3⟩⟩
    | next => exact False.elim hq'
    | brk => exact False.elim hq'
    | cont => exact False.elim hq'
theorem pe_make (M : Mk X.K C f) (F : FnOk X.prog X.w X.K X.mg X.base CX k f fd ps sp) (hr : Room (k + 1) X.A) (hg : Gl X x) (hm : X.mg x = some (.ref C)) (hb : Binds X.K fd ps ds) (hd : Vals dvs ds) (hx : Passes CX X E)
    (ha : PA X (e :: es) t) (hdb : (x == ("__debug__" : Str)) = false := by decide) (he : starEach (e :: es) X.env = (false, eval e X.env) :: starEach es X.env := by rfl) (hpl : (backTo pos (starEach es X.env)).any (·.1) = false := by rfl) :
    PE X (.Call (.Name x p) (e :: es) [] pos) (tMake C sp dvs E t) := by
  intro pins s σ H Q I h
  refine wpAny_Call_Name_kw (ld_glob I hg hm ?_ hdb)
  refine PySem.W.callWith_K (h₀ := X.base) I.ok.mod.kin M.kp (thn (ha pos pins s σ H _ I h) fun us s1 ⟨vs, H1, I1, r, q⟩ => ⟨I1.kIn, ?_⟩) he hpl
  exact run_make M F hr hb hd hx I1 r q
end
structure FnScope (N P : List Str) (sc : Scope) : Prop where
  kind : sc.kind = .function
  co : sc.isCoroutine = false
  gen : sc.isGenerator = false
  nd : N.Nodup
  pre : N.take P.length = P
  par : ∀ x ∈ P, sc.names.lookup x = some .local ∨ sc.names.lookup x = some .cell
  nofree : ∀ y ∈ sc.names, y.2 ≠ .free
theorem bindL_out {kindOf : Str → Option NameKind} {x : Str} : ∀ {binds : List (Str × Value)} {m : Str → Option Value}, (∀ v, (x, v) ∉ binds) → bindL kindOf binds m x = m x
  | [], _, _ => rfl
  | (n, v) :: r, m, h => by
    unfold bindL
    rw [bindL_out fun w hw => h w (List.mem_cons_of_mem _ hw)]
    split
    · have : x ≠ n := by rintro rfl; exact h v List.mem_cons_self
      simp [this]
    · rfl
theorem bindC_out {kindOf : Str → Option NameKind} {x : Str} : ∀ {binds : List (Str × Value)} {m : Str → Option Value}, (∀ v, (x, v) ∉ binds) → bindC kindOf binds m x = m x
  | [], _, _ => rfl
  | (n, v) :: r, m, h => by
    unfold bindC
    rw [bindC_out fun w hw => h w (List.mem_cons_of_mem _ hw)]
    split
    · rfl
    · have : x ≠ n := by rintro rfl; exact h v List.mem_cons_self
      simp [this]
theorem bindL_get {kindOf : Str → Option NameKind} {x : Str} {v : Value} : ∀ {P : List Str} {vs : List Value} {i : Nat} {m : Str → Option Value}, P.Nodup → P[i]? = some x → vs[i]? = some v → kindOf x = some .local →
    bindL kindOf (P.zip vs) m x = some v
  | [], _, _, _, _, h, _, _ => by simp at h
  | _ :: _, [], _, _, _, _, h, _ => by simp at h
  | p :: P, w :: vs, 0, m, nd, h1, h2, hk => by
    simp at h1 h2; subst h1; subst h2
    show bindL kindOf ((p, w) :: P.zip vs) m p = _
    unfold bindL
    rw [bindL_out fun v hv => (List.nodup_cons.mp nd).1 (List.of_mem_zip hv).1, if_pos hk]
    simp
  | p :: P, w :: vs, i + 1, m, nd, h1, h2, hk => by
    show bindL kindOf ((p, w) :: P.zip vs) m x = _
    unfold bindL
    exact bindL_get (i := i) (List.nodup_cons.mp nd).2 (by simpa using h1) (by simpa using h2) hk
theorem bindC_get {kindOf : Str → Option NameKind} {x : Str} {v : Value} : ∀ {P : List Str} {vs : List Value} {i : Nat} {m : Str → Option Value}, P.Nodup → P[i]? = some x → vs[i]? = some v → kindOf x ≠ some .local →
    bindC kindOf (P.zip vs) m x = some v
  | [], _, _, _, _, h, _, _ => by simp at h
  | _ :: _, [], _, _, _, _, h, _ => by simp at h
  | p :: P, w :: vs, 0, m, nd, h1, h2, hk => by
    simp at h1 h2; subst h1; subst h2
    show bindC kindOf ((p, w) :: P.zip vs) m p = _
    unfold bindC
    rw [bindC_out fun v hv => (List.nodup_cons.mp nd).1 (List.of_mem_zip hv).1, if_neg hk]
    simp
  | p :: P, w :: vs, i + 1, m, nd, h1, h2, hk => by
    show bindC kindOf ((p, w) :: P.zip vs) m x = _
    unfold bindC
    exact bindC_get (i := i) (List.nodup_cons.mp nd).2 (by simpa using h1) (by simpa using h2) hk
def start (N : List Str) (vs : List V) : St := vs.map some ++ List.replicate (N.length - vs.length) none
def cxOf (CX : CXT) (P : Program) (w : World) (K : PySem.W.Frag) (mg : Str → Option Value) (base : Heap) (N : List Str) (qual : Str) (scope : Scope) (f : Addr) (cd : Value) (A : Around) (outer : List Env) (s : Shared) (H : Hp) (E : XK) : Cx where
  prog := P
  w := w
  K := K
  mg := mg
  base := base
  A := A.deeper (envOfC qual scope s.heap.objs.size f cd)
  N := N
  s₀ := s
  H₀ := H
  env := envOfC qual scope s.heap.objs.size f cd
  outer := outer
  stack := envOfC qual scope s.heap.objs.size f cd :: outer
  ex := []
  calm := true
  fn := fun _ => true
  pn := []
  xe := fun e s' => wpAny (model P w) (A.deeper (envOfC qual scope s.heap.objs.size f cd)) (leaving (envOfC qual scope s.heap.objs.size f cd) e) (fun _ s'' => CX outer H s E e s'') (fun e' s'' => CX outer H s E e' s'') s'
theorem cell_has {sc : Scope} {n : Nat} {x : Str} (h : sc.names.lookup x = some .cell) : ∃ c, (cellsFrom n sc.names []).lookup x = some c := by
  have q := PySem.W.cellsFrom_some sc.names n [] (.inl h)
  exact Option.isSome_iff_exists.mp q
theorem inv_start {CX : CXT} {P : Program} {w : World} {K : PySem.W.Frag} {mg : Str → Option Value} {base : Heap} {N ps : List Str} {qual : Str} {scope : Scope} {f : Addr} {cd : Value} {A : Around} {outer : List Env} {s s1 : Shared} {H : Hp} {E : XK} {us : List Value} {vs : List V}
    (S : FnScope N ps scope) (hd : A.handled = none) (e0 : Env0 P w K mg base A outer s H) (hl : vs.length = ps.length) (r : Vals vs us)
    (x : InCallC s s.heap.objs.size (bindL (envOfC qual scope s.heap.objs.size f cd).kindOf (ps.zip us) fun _ => none) (cellsFrom (s.heap.objs.size + 1) scope.names []) (bindC (envOfC qual scope s.heap.objs.size f cd).kindOf (ps.zip us) fun _ => none) s1) :
    Inv (cxOf CX P w K mg base N qual scope f cd A outer s H E) [] (start N vs) H s1 := by
  have hpl : ps.length ≤ N.length := by have := congrArg List.length S.pre; rw [List.length_take] at this; omega
  obtain ⟨h1, tk, rfl, hk⟩ := x.done
  have noA : ∀ b : Addr, b ∉ (cxOf CX P w K mg base N qual scope f cd A outer s H E).ex := fun b z => absurd (show b ∈ ([] : List Addr) from z) (by simp)
  refine ⟨⟨e0.mod, S.kind, rfl, rfl, Nat.le_refl _, fun y z c h1 h2 => ?_, fun y hy => ?_, fun y c _ h => ?_, fun _ => hd, Around.frames_deeper e0.frames, .inr ⟨rfl, rfl⟩, fun b z => absurd z (noA b), e0.bs, e0.bsz, fun b _ _ => noA b, fun b z => absurd z (noA b), e0.funs, e0.frf⟩,
    rfl, e0.bare, Un.kept hk, ⟨_, x.toInCall.ns, fun i y v h1 h2 h3 => ?_⟩, fun y c h => ⟨_, x.cell y c h⟩, e0.hok.fresh (Nat.le_refl _), fun y c h => ?_, fun p hp => absurd (show p ∈ ([] : List (Addr × Obj)) from hp) (by simp), e0.hok.kept hk, ?_⟩
  · exact name_of_addr x.apart (PySem.mem_of_lookup h1) (PySem.mem_of_lookup h2)
  · have hy : scope.names.lookup y = some .cell ∨ scope.names.lookup y = some .free := hy
    rcases hy with hy | hy
    · exact cell_has hy
    · exact absurd rfl (S.nofree _ (PySem.mem_of_lookup hy))
  · exact Nat.le_of_lt (x.above y c (PySem.mem_of_lookup h))
  · have hi : i < vs.length := by
      unfold start at h2
      by_cases hi : i < vs.length
      · exact hi
      · rw [List.getElem?_append_right (by simpa using hi)] at h2
        rw [List.getElem?_replicate] at h2
        split at h2 <;> cases h2
    have ha : vs[i]? = some v := by
      unfold start at h2
      rw [List.getElem?_append_left (by simpa using hi), List.getElem?_map] at h2
      cases e : vs[i]? with
      | none => rw [e] at h2; cases h2
      | some a => rw [e] at h2; cases h2; rfl
    obtain ⟨u, hu, rv⟩ := r.get ha
    have hp : ps[i]? = some y := by
      rw [← S.pre, List.getElem?_take_of_lt (by omega)]; exact h1
    have ndP : ps.Nodup := by rw [← S.pre]; exact S.nd.sublist (List.take_sublist _ _)
    refine ⟨u, rv, ?_⟩
    rcases S.par y (List.mem_of_getElem? hp) with k | k
    · exact .inl ⟨k, bindL_get ndP hp hu k⟩
    · obtain ⟨c, e⟩ := cell_has (n := s.heap.objs.size + 1) k
      refine .inr ⟨.inl k, c, e, ?_⟩
      have q := x.cell y c e
      rw [bindC_get ndP hp hu (by show scope.names.lookup y ≠ _; rw [k]; decide)] at q
      exact q
  · exact e0.hok.fresh (Nat.le_of_lt (x.above y c (PySem.mem_of_lookup h)))
  · unfold start
    show _ = N.length
    rw [List.length_append, List.length_map, List.length_replicate]
    omega
theorem fn_of {CX : CXT} {P : Program} {w : World} {K : PySem.W.Frag} {mg : Str → Option Value} {base : Heap} {k : Nat} {f : Addr} {name qual : Str} {params : Arguments} {body : List Stmt} {scope : Scope} {dV kV doc pm cdv ct oc : Value} {an od : Option Addr}
    {osl : Array (Option Value)} {N ps : List Str} {sp : Sp} (lk : K.lookup f = some ⟨oc, od, .func (PySem.W.fnOf name qual params body scope dV kV doc pm an cdv ct), osl⟩) (hcd : PySem.W.codeIn K cdv qual = true) (S : FnScope N ps scope)
    (len : ∀ vs H Q E, sp vs H Q E → vs.length = ps.length)
    (hbody : ∀ (A : Around) (outer : List Env) (s : Shared) (H : Hp) (vs : List V) (Q : VK) (E : XK), Room k (A.deeper (envOfC qual scope s.heap.objs.size f cdv)) → sp vs H Q E →
      ∃ t, PSs (cxOf CX P w K mg base N qual scope f cdv A outer s H E) body t ∧ t { nx := fun _ H' => Q .non H', rt := Q } (start N vs) H) :
    FnOk P w K mg base CX (k + 1) f (PySem.W.fnOf name qual params body scope dV kV doc pm an cdv ct) ps sp := by
  refine ⟨len, fun A outer s H args us vs Q E hr e0 hb r hsp => ?_⟩
  have hl := len _ _ _ _ hsp
  have KX : K.In s.heap := e0.mod.kin.keeps fun b o e => (e0.bs b o e).1
  have lim : s.heap.NoLimit := e0.mod.nolimit.keeps fun b o e => (e0.bs b o e).1
  have hkind : ∀ y ∈ ps.zip us, scope.names.lookup y.1 = some .local ∨ (scope.names.lookup y.1 = some .cell ∧ ((cellsFrom (s.heap.objs.size + 1) scope.names []).lookup y.1).isSome = true) := fun ⟨n, v⟩ hy => by
    rcases S.par n (List.of_mem_zip hy).1 with q | q
    · exact .inl q
    · exact .inr ⟨q, PySem.W.cellsFrom_some _ _ _ (.inl q)⟩
  refine codeAny_call_function hr.depth (KX _ _ lk) rfl S.co S.gen rfl (PySem.W.codeRec_of KX hcd) (hb _ _ _ _ ?_)
  refine wpAny_newFunctionEnv_cells S.kind hkind fun env he s1 x => ?_
  subst he
  refine ⟨lim.keeps x.toInCall.keep, codeAny_func ?_⟩
  obtain ⟨t, ht, hq⟩ := hbody A outer s H vs Q E (hr.deeper _) hsp
  have I : Inv (cxOf CX P w K mg base N qual scope f cdv A outer s H E) [] (start N vs) H s1 := inv_start S hr.hd e0 hl r x
  refine wpAny_mono (ht [] s1 (start N vs) H _ I hq) (fun fl s' hs => ?_) fun e s' hs => hs
  have fin : ∀ {σ' : St} {H' : Hp} {v : V} {u : Value}, Inv (cxOf CX P w K mg base N qual scope f cdv A outer s H E) [] σ' H' s' → RelV v u → Q v H' → CE outer P w H s Q u s' :=
    fun {σ' H' v u} J rv q => ⟨v, H', J.os, J.bare, J.base, J.hok, rv, q⟩
  cases fl with
  | ret u =>
    obtain ⟨v, σ', H', J, rv, q⟩ := hs
    exact fin J rv q
  | next =>
    obtain ⟨σ', H', J, q⟩ := hs
    exact fin (v := V.non) (u := Value.none) J rfl q
  | brk =>
    obtain ⟨_, _, _, q⟩ := hs
    exact False.elim q
  | cont =>
    obtain ⟨_, _, _, q⟩ := hs
    exact False.elim q
end L2
namespace L2
open PySem PySem.Spec PyProof.Rows
section
variable {X : Cx} {x : Str} {p pos : Pos} {e : Expr} {es : List Expr} {t : TA} {id T : String} {r : List V → Hp → VK → Prop}
def tCB (r : List V → Hp → VK → Prop) (t : TA) : TE := fun σ H Q => t σ H fun vs H1 => r vs H1 Q
theorem pe_callB (hc : CallR X (.builtin id) r) (hg : Gl X x) (hm : X.mg x = none) (hv : bootBuiltins x = some (.builtin id)) (ha : PA X (e :: es) t) (hn : x ≠ "__name__" := by decide) (hdb : (x == ("__debug__" : Str)) = false := by decide)
    (he : starEach (e :: es) X.env = (false, eval e X.env) :: starEach es X.env := by rfl) (hpl : (backTo pos (starEach es X.env)).any (·.1) = false := by rfl) : PE X (.Call (.Name x p) (e :: es) [] pos) (tCB r t) := by
  intro pins s σ H Q I h
  refine wpAny_Call_Name_kw (ld_blt I hg hm hv ?_ hn hdb)
  exact PyProof.Rows.callWith_builtin1 (thn (ha pos pins s σ H _ I h) fun us s1 ⟨vs, H1, I1, r1, q1⟩ => hc pins s1 σ H1 vs us Q I1 r1 q1) he hpl
theorem pe_callTy (hc : CallR X (.type T) r) (hg : Gl X x) (hm : X.mg x = none) (hv : bootBuiltins x = some (.type T)) (ha : PA X (e :: es) t) (hn : x ≠ "__name__" := by decide) (hdb : (x == ("__debug__" : Str)) = false := by decide)
    (he : starEach (e :: es) X.env = (false, eval e X.env) :: starEach es X.env := by rfl) (hpl : (backTo pos (starEach es X.env)).any (·.1) = false := by rfl) : PE X (.Call (.Name x p) (e :: es) [] pos) (tCB r t) := by
  intro pins s σ H Q I h
  refine wpAny_Call_Name_kw (ld_blt I hg hm hv ?_ hn hdb)
  exact PyProof.Rows.callWith_type1 (thn (ha pos pins s σ H _ I h) fun us s1 ⟨vs, H1, I1, r1, q1⟩ => hc pins s1 σ H1 vs us Q I1 r1 q1) he hpl
end
end L2
namespace L2
open PySem PySem.Spec PyProof.Rows
section
variable {κ : Type} [DecidableEq κ]
def valV (kvs : List (κ × V)) (k : κ) : Option V := (kvs.find? fun kv => decide (kv.1 = k)).map (·.2)
def putK (kvs : List (κ × V)) (k : κ) (v : V) : List (κ × V) :=
  if (kvs.any fun kv => decide (kv.1 = k)) = true then kvs.map (fun kv => if kv.1 = k then (kv.1, v) else kv) else kvs ++ [(k, v)]
def dropK (kvs : List (κ × V)) (k : κ) : List (κ × V) := kvs.filter fun kv => decide (kv.1 ≠ k)
theorem valV_pos {p : κ × V} {r : List (κ × V)} {k : κ} (e : p.1 = k) : valV (p :: r) k = some p.2 := by simp [valV, List.find?_cons, e]
theorem valV_neg {p : κ × V} {r : List (κ × V)} {k : κ} (e : ¬ p.1 = k) : valV (p :: r) k = valV r k := by simp [valV, List.find?_cons, e]
theorem valV_any (k : κ) : ∀ kvs : List (κ × V), (kvs.any fun kv => decide (kv.1 = k)) = (valV kvs k).isSome
  | [] => rfl
  | p :: r => by
    rw [List.any_cons]
    by_cases e : p.1 = k
    · simp only [valV_pos e, decide_eq_true e, Bool.true_or, Option.isSome_some]
    · rw [valV_neg e, decide_eq_false e, Bool.false_or]; exact valV_any k r
theorem length_putK (kvs : List (κ × V)) (k : κ) (v : V) : (putK kvs k v).length ≤ kvs.length + 1 := by
  unfold putK
  split
  · rw [List.length_map]; omega
  · rw [List.length_append, List.length_cons, List.length_nil]; omega
theorem putK_new {kvs : List (κ × V)} {k : κ} (v : V) (h : valV kvs k = none) : putK kvs k v = kvs ++ [(k, v)] := by
  unfold putK
  rw [valV_any, h]
  exact if_neg (by decide)
theorem RelO.isSome_eq {o : Option V} {u : Option Value} (r : RelO o u) : o.isSome = u.isSome := by
  cases o with
  | none => cases u with
    | none => rfl
    | some _ => exact (show False from r).elim
  | some _ => cases u with
    | none => exact (show False from r).elim
    | some _ => rfl
theorem RelO.getD {o : Option V} {u : Option Value} {d : V} {d' : Value} (r : RelO o u) (rd : RelV d d') : RelV (o.getD d) (u.getD d') := by
  cases o with
  | none => cases u with
    | none => exact rd
    | some _ => exact (show False from r).elim
  | some _ => cases u with
    | none => exact (show False from r).elim
    | some _ => exact r
theorem KV.val {kvs : List (κ × V)} {vs : List (κ × Value)} (r : KV kvs vs) (k : κ) : RelO (valV kvs k) (valueAt vs k) := by
  unfold KV at r
  induction r with
  | nil => exact True.intro
  | @cons p q ps qs h t ih =>
    obtain ⟨h1, h2⟩ := h
    by_cases e : p.1 = k
    · have e' : q.1 = k := h1.symm.trans e
      have b : valueAt (q :: qs) k = some q.2 := by simp [valueAt, List.find?_cons, e']
      rw [valV_pos e, b]; exact h2
    · have e' : ¬ q.1 = k := fun z => e (h1.trans z)
      have b : valueAt (q :: qs) k = valueAt qs k := by simp [valueAt, List.find?_cons, e']
      rw [valV_neg e, b]; exact ih
theorem KV.any {kvs : List (κ × V)} {vs : List (κ × Value)} (r : KV kvs vs) (k : κ) : (kvs.any fun kv => decide (kv.1 = k)) = vs.any fun kv => decide (kv.1 = k) := by
  unfold KV at r
  induction r with
  | nil => rfl
  | cons h t ih => rw [List.any_cons, List.any_cons, ih, h.1]
theorem KV.repl {kvs : List (κ × V)} {vs : List (κ × Value)} (r : KV kvs vs) (k : κ) {y : V} {u : Value} (ry : RelV y u) :
    KV (kvs.map fun kv => if kv.1 = k then (kv.1, y) else kv) (vs.map fun kv => if kv.1 = k then (kv.1, u) else kv) := by
  unfold KV at r ⊢
  induction r with
  | nil => exact .nil
  | @cons p q ps qs h t ih =>
    rw [List.map_cons, List.map_cons]
    refine .cons ?_ ih
    obtain ⟨h1, h2⟩ := h
    by_cases e : p.1 = k
    · rw [if_pos e, if_pos (h1.symm.trans e)]; exact ⟨h1, ry⟩
    · rw [if_neg e, if_neg (fun z => e (h1.trans z))]; exact ⟨h1, h2⟩
theorem KV.put {kvs : List (κ × V)} {vs : List (κ × Value)} (r : KV kvs vs) (k : κ) {y : V} {u : Value} (ry : RelV y u) : KV (putK kvs k y) (stored vs k u) := by
  unfold putK stored
  rw [r.any k]
  by_cases e : (vs.any fun kv => decide (kv.1 = k)) = true
  · rw [if_pos e, if_pos e]; exact r.repl k ry
  · rw [if_neg e, if_neg e]; exact Paired.snoc r ⟨rfl, ry⟩
theorem KV.drop {kvs : List (κ × V)} {vs : List (κ × Value)} (r : KV kvs vs) (k : κ) : KV (dropK kvs k) (without vs k) := by
  unfold KV at r ⊢
  unfold dropK without
  induction r with
  | nil => exact .nil
  | @cons p q ps qs h t ih =>
    obtain ⟨h1, h2⟩ := h
    rw [List.filter_cons, List.filter_cons]
    by_cases e : p.1 = k
    · have a : ¬ decide (p.1 ≠ k) = true := by simp [e]
      have b : ¬ decide (q.1 ≠ k) = true := by simp [h1.symm.trans e]
      rw [if_neg a, if_neg b]; exact ih
    · have e' : ¬ q.1 = k := fun z => e (h1.trans z)
      have a : decide (p.1 ≠ k) = true := by simp [e]
      have b : decide (q.1 ≠ k) = true := by simp [e']
      rw [if_pos a, if_pos b]; exact .cons ⟨h1, h2⟩ ih
theorem KV.keys {kvs : List (κ × V)} {vs : List (κ × Value)} (r : KV kvs vs) : kvs.map (·.1) = vs.map (·.1) := by
  unfold KV at r
  induction r with
  | nil => rfl
  | cons h t ih => rw [List.map_cons, List.map_cons, ih, h.1]
theorem KV.length {kvs : List (κ × V)} {vs : List (κ × Value)} (r : KV kvs vs) : kvs.length = vs.length := Paired.length r
end
theorem kV_is {P : Program} {w : World} {k : Key} {u : Value} (r : RelV (kV k) u) : (mixKind P w).is k u = true := by
  cases k with
  | inl i => obtain ⟨t, e⟩ := (show ∃ t, u = Value.int i t from r); subst e; exact mixKind_int P w i t
  | inr x => obtain ⟨t, e⟩ := (show ∃ t, u = Value.str x t from r); subst e; exact mixKind_str P w x t
theorem items_are {P : Program} {w : World} : ∀ {ks : List Key} {us : List Value}, Vals (ks.map kV) us → ItemsAre (mixKind P w) ks us
  | [], _, r => by rw [List.map_nil] at r; cases r; exact .nil
  | k :: ks, _, r => by
    rw [List.map_cons] at r
    cases r with
    | cons h t => exact .cons (kV_is h) (items_are t)
abbrev KT (H : Hp) : List (List Key × V) → List (List Key × Addr × Value) → Prop := Paired fun p q => p.1 = q.1 ∧ H q.2.1 = some (.tup (p.1.map kV)) ∧ RelV p.2 q.2.2
theorem KT.val {H : Hp} {kvs : List (List Key × V)} {xs : List (List Key × Addr × Value)} (r : KT H kvs xs) (k : List Key) : RelO (valV kvs k) ((atKey xs k).map (·.2)) := by
  induction r with
  | nil => exact True.intro
  | @cons p q ps qs h t ih =>
    obtain ⟨h1, _, h2⟩ := h
    by_cases e : p.1 = k
    · have e' : q.1 = k := h1.symm.trans e
      have b : atKey (q :: qs) k = some q.2 := by simp [atKey, List.find?_cons, e']
      rw [valV_pos e, b]; exact h2
    · have e' : ¬ q.1 = k := fun z => e (h1.trans z)
      have b : atKey (q :: qs) k = atKey qs k := by simp [atKey, List.find?_cons, e']
      rw [valV_neg e, b]; exact ih
theorem KT.repl {H : Hp} {kvs : List (List Key × V)} {xs : List (List Key × Addr × Value)} (r : KT H kvs xs) (k : List Key) {y : V} {u : Value} (ry : RelV y u) :
    KT H (kvs.map fun kv => if kv.1 = k then (kv.1, y) else kv) (xs.map (putAt k u)) := by
  induction r with
  | nil => exact .nil
  | @cons p q ps qs h t ih =>
    rw [List.map_cons, List.map_cons]
    refine .cons ?_ ih
    obtain ⟨h1, h2, h3⟩ := h
    unfold putAt
    by_cases e : p.1 = k
    · rw [if_pos e, if_pos (h1.symm.trans e)]; exact ⟨h1, h2, ry⟩
    · rw [if_neg e, if_neg (fun z => e (h1.trans z))]; exact ⟨h1, h2, h3⟩
theorem KT.put {H : Hp} {kvs : List (List Key × V)} {xs : List (List Key × Addr × Value)} (r : KT H kvs xs) (k : List Key) {b : Addr} {y : V} {u : Value} (hb : H b = some (.tup (k.map kV))) (ry : RelV y u) :
    KT H (putK kvs k y) (storedH xs k b u) := by
  have e : (kvs.any fun kv => decide (kv.1 = k)) = (atKey xs k).isSome := by
    rw [valV_any, (r.val k).isSome_eq, Option.isSome_map]
  unfold putK storedH
  rw [e]
  by_cases q : (atKey xs k).isSome = true
  · rw [if_pos q, if_pos q]; exact r.repl k ry
  · rw [if_neg q, if_neg q]; exact Paired.snoc r ⟨rfl, hb, ry⟩
theorem KT.keeps {H H' : Hp} {kvs : List (List Key × V)} {xs : List (List Key × Addr × Value)} (r : KT H kvs xs) (ht : ∀ b ys, H b = some (.tup ys) → H' b = some (.tup ys)) : KT H' kvs xs :=
  Paired.mapP r fun _ _ z => ⟨z.1, ht _ _ z.2.1, z.2.2⟩
section
variable {P : Program} {w : World} {H : Hp} {h : Heap} {a : Addr}
theorem rd_of {u : HO} (ok : HOk P w H h) (e : Rd H a u) : ObjOk P w H h a u := e.ok ok
theorem dk_rd {kvs : List (Key × V)} (ok : HOk P w H h) (e : Rd H a (.dK kvs)) : kvs.length ≤ sizeLine ∧ (a == sysModules) = false ∧ ∃ vs, KV kvs vs ∧ h.DictOf (mixKind P w) a vs :=
  show ObjOk P w H h a (.dK kvs) from rd_of ok e
theorem dk_of {kvs : List (Key × V)} (ok : HOk P w H h) (e : H a = some (.dK kvs)) : kvs.length ≤ sizeLine ∧ (a == sysModules) = false ∧ ∃ vs, KV kvs vs ∧ h.DictOf (mixKind P w) a vs := dk_rd ok (.inl e)
theorem key_of {ks : List Key} (ok : HOk P w H h) (e : H a = some (.tup (ks.map kV))) : (tupleKind (mixKind P w)).is h ks a := by
  obtain ⟨_, its, r, o, h1, h2, n, h3⟩ := (show ObjOk P w H h a (.tup (ks.map kV)) from ok a _ e)
  exact ⟨o, its.toArray, n, h1, h2, h3, by simpa using items_are r⟩
theorem dt_rd {kvs : List (List Key × V)} (ok : HOk P w H h) (e : Rd H a (.dT kvs)) : kvs.length ≤ sizeLine ∧ (a == sysModules) = false ∧
    ∃ xs, KT H kvs xs ∧ h.DictOfH (tupleKind (mixKind P w)) a xs := by
  obtain ⟨z, y, xs, r, o, es, ep, h1, h2, h3, h4, h5⟩ := (show ObjOk P w H h a (.dT kvs) from rd_of ok e)
  refine ⟨z, y, xs, r, o, es, ep, h1, h2, h3, h4, fun x hx => ?_, h5⟩
  have all : ∀ {l : List (List Key × V)} {m : List (List Key × Addr × Value)}, KT H l m → ∀ x ∈ m, (tupleKind (mixKind P w)).is h x.1 x.2.1 := by
    intro l m q
    induction q with
    | nil => intro x hx; exact nomatch hx
    | @cons p q ps qs hq t ih =>
      intro x hx
      rcases List.mem_cons.mp hx with e | hx
      · subst e
        exact key_of ok (by rw [← hq.1]; exact hq.2.1)
      · exact ih x hx
  exact all r x hx
theorem dt_of {kvs : List (List Key × V)} (ok : HOk P w H h) (e : H a = some (.dT kvs)) : kvs.length ≤ sizeLine ∧ (a == sysModules) = false ∧
    ∃ xs, KT H kvs xs ∧ h.DictOfH (tupleKind (mixKind P w)) a xs := dt_rd ok (.inl e)
end
def DGet (H : Hp) (a : Addr) (y : V) (r : Option V) : Prop :=
  (∃ kvs k, Rd H a (.dK kvs) ∧ y = kV k ∧ r = valV kvs k) ∨ ∃ kvs k b, Rd H a (.dT kvs) ∧ y = .ref b ∧ H b = some (.tup (k.map kV)) ∧ r = valV kvs k
def DPut (H : Hp) (a : Addr) (y v : V) (H' : Hp) : Prop :=
  (∃ kvs k, H a = some (.dK kvs) ∧ y = kV k ∧ kvs.length < sizeLine ∧ H' = upd H a (.dK (putK kvs k v))) ∨
  ∃ kvs k b, H a = some (.dT kvs) ∧ y = .ref b ∧ H b = some (.tup (k.map kV)) ∧ kvs.length < sizeLine ∧ H' = upd H a (.dT (putK kvs k v))
theorem DGet.k {H : Hp} {a : Addr} {kvs : List (Key × V)} {k : Key} (e : H a = some (.dK kvs)) : DGet H a (kV k) (valV kvs k) := .inl ⟨kvs, k, .inl e, rfl, rfl⟩
theorem DGet.t {H : Hp} {a b : Addr} {kvs : List (List Key × V)} {k : List Key} (e : H a = some (.dT kvs)) (eb : H b = some (.tup (k.map kV))) : DGet H a (.ref b) (valV kvs k) := .inr ⟨kvs, k, b, .inl e, rfl, eb, rfl⟩
theorem DPut.k {H : Hp} {a : Addr} {kvs : List (Key × V)} {k : Key} {v : V} (e : H a = some (.dK kvs)) (hl : kvs.length < sizeLine) : DPut H a (kV k) v (upd H a (.dK (putK kvs k v))) := .inl ⟨kvs, k, e, rfl, hl, rfl⟩
theorem DPut.t {H : Hp} {a b : Addr} {kvs : List (List Key × V)} {k : List Key} {v : V} (e : H a = some (.dT kvs)) (eb : H b = some (.tup (k.map kV))) (hl : kvs.length < sizeLine) :
    DPut H a (.ref b) v (upd H a (.dT (putK kvs k v))) := .inr ⟨kvs, k, b, e, rfl, eb, hl, rfl⟩
section
variable {X : Cx} {pins : List (Addr × Obj)} {σ : St} {H : Hp} {s : Shared} {a : Addr} {y v : V} {u r : Value} {o : Option V} {A : Around} {E : Value → Shared → Prop}
theorem Inv.big (I : Inv X pins σ H s) : sysModules < s.heap.objs.size := by
  have h : mainGlobals < s.heap.objs.size := (I.mod.glob.keeps I.bk).lt
  exact Nat.lt_trans (by decide) h
theorem d_getItem {Q : Value → Shared → Prop} (hu : A.units + 1 < cLine) (I : Inv X pins σ H s) (g : DGet H a y (some v)) (ry : RelV y u) (h : ∀ w' s', Inv X pins σ H s' → RelV v w' → Q w' s') :
    wpAny (model X.prog X.w) A (getItem (.ref a) u) Q E s := by
  rcases g with ⟨kvs, k, e, ey, l⟩ | ⟨kvs, k, b, e, ey, eb, l⟩
  · subst ey
    obtain ⟨z, hd, vs, rel, dd⟩ := dk_rd I.hok e
    obtain ⟨w', hw, rw'⟩ := RelO.some_of (v := v) (o := valueAt vs k) (by rw [l]; exact rel.val k)
    exact wpAny_getItem_of (kV_is ry) dd.mapOf hw (h w' _ (I.tok _) rw')
  · subst ey
    cases (show u = Value.ref b from ry)
    obtain ⟨z, hd, xs, rel, dd⟩ := dt_rd I.hok e
    obtain ⟨w', hw, rw'⟩ := RelO.some_of (v := v) (o := (atKey xs k).map (·.2)) (by rw [l]; exact rel.val k)
    obtain ⟨p, hp, hp2⟩ := Option.map_eq_some_iff.mp hw
    refine wpAny_getItem_heap (tupleKind_room_in1 hu) (key_of I.hok eb) dd hp ?_
    rw [hp2]
    exact h w' _ (I.tok _) rw'
theorem d_notIn {Q : Value → Shared → Prop} (hu : A.units + 1 < cLine) (I : Inv X pins σ H s) (g : DGet H a y o) (ry : RelV y u) (h : ∀ s', Inv X pins σ H s' → Q (.bool (!o.isSome)) s') :
    wpAny (model X.prog X.w) A (compareOp .NotIn u (.ref a)) Q E s := by
  rcases g with ⟨kvs, k, e, ey, l⟩ | ⟨kvs, k, b, e, ey, eb, l⟩
  · subst ey
    obtain ⟨z, hd, vs, rel, dd⟩ := dk_rd I.hok e
    refine wpAny_notIn_of (kV_is ry) hd dd.mapOf ?_
    rw [← (rel.val k).isSome_eq, ← l]
    exact h _ (I.tok _)
  · subst ey
    cases (show u = Value.ref b from ry)
    obtain ⟨z, hd, xs, rel, dd⟩ := dt_rd I.hok e
    refine wpAny_notIn_heap (tupleKind_room_in1 hu) (key_of I.hok eb) hd dd ?_
    have q := (rel.val k).isSome_eq
    rw [Option.isSome_map] at q
    rw [← q, ← l]
    exact h _ (I.tok _)
theorem d_write {h' : Heap} {t' : Nat} {ob : HO} (I : Inv X pins σ H s) (mu : Mut (H a)) (hs : Heap.SameBut a s.heap h') (he : ∃ q, h'.get? a = some q) (new : ObjOk X.prog X.w (upd H a ob) h' a ob) :
    Inv X pins σ (upd H a ob) { s with heap := h', toks := t' } :=
  I.write (x := a) (e := a) mu (.inl rfl) (fun b q hb z => (hs.2 b hb).trans z) he new
theorem dk_new {P : Program} {w : World} {H' : Hp} {h' : Heap} {kvs : List (Key × V)} {vs : List (Key × Value)} (z : kvs.length ≤ sizeLine) (hd : (a == sysModules) = false) (rel : KV kvs vs) (dd : h'.DictOf (mixKind P w) a vs) :
    ObjOk P w H' h' a (.dK kvs) := ⟨z, hd, vs, rel, dd⟩
theorem d_setItem {H' : Hp} {Q : Unit → Shared → Prop} (hu : A.units + 1 < cLine) (I : Inv X pins σ H s) (g : DPut H a y v H') (ry : RelV y u) (rv : RelV v r) (h : ∀ s', Inv X pins σ H' s' → Q () s') :
    wpAny (model X.prog X.w) A (setItem (.ref a) u r) Q E s := by
  rcases g with ⟨kvs, k, e, ey, l, eH⟩ | ⟨kvs, k, b, e, ey, eb, l, eH⟩
  · subst ey eH
    obtain ⟨z, hd, vs, rel, dd⟩ := dk_of I.hok e
    have hz : vs.length ≤ sizeLine := by rw [← rel.length]; exact z
    have hl : (putK kvs k v).length ≤ sizeLine := by have := length_putK kvs k v; omega
    refine wpAny_setItem_pairs (hsz := hz) (kV_is ry) dd fun h' dd' hs => h _ ?_
    have he : ∃ q, h'.get? a = some q := let ⟨q, _, _, hq, _⟩ := dd'; ⟨q, hq⟩
    exact d_write I (by rw [e]; exact True.intro) hs he (dk_new hl hd (rel.put k rv) dd')
  · subst ey eH
    cases (show u = Value.ref b from ry)
    obtain ⟨z, hd, xs, rel, dd⟩ := dt_of I.hok e
    have hz : xs.length ≤ sizeLine := by rw [← Paired.length rel]; exact z
    have hl : (putK kvs k v).length ≤ sizeLine := by have := length_putK kvs k v; omega
    refine wpAny_setItem_heap (hsz := hz) (tupleKind_room_in1 hu) (key_of I.hok eb) dd fun h' dd' hs => h _ ?_
    obtain ⟨q, es, ep, hq, h2, h3, h4, _, h5⟩ := dd'
    refine d_write I (by rw [e]; exact True.intro) hs ⟨q, hq⟩ ⟨hl, hd, _, (rel.put k eb rv).keeps fun c ys ec => ?_, q, es, ep, hq, h2, h3, h4, h5⟩
    rw [upd_ne (ne_of ec e (fun z => nomatch z))]
    exact ec
end
section
variable {X : Cx} {pins : List (Addr × Obj)} {σ : St} {H : Hp} {s : Shared} {a : Addr} {kvs : List (Key × V)} {k : Key} {u : Value} {A : Around} {E : Value → Shared → Prop}
theorem d_len {Q : Value → Shared → Prop} (I : Inv X pins σ H s) (e : Rd H a (.dK kvs)) (h : ∀ t s', Inv X pins σ H s' → Q (.int kvs.length t) s') : wpAny (model X.prog X.w) A (call (.builtin "len") [.ref a]) Q E s := by
  obtain ⟨z, hd, vs, rel, dd⟩ := dk_rd I.hok e
  refine call_len_dict hd dd (by rw [← rel.length]; rw [sizeLine_eq] at z; omega) ?_
  rw [← rel.length]
  exact h _ _ (I.tok _)
end
def NoSl (i : Expr) : Prop := ∀ ov iv, subscripted i false ov iv = operate [ov, iv] (getItem ov iv)
theorem subD_of {prog : Program} {w : World} {A : Around} {E : Value → Shared → Prop} {s : Shared} {env : Env} {value slice : Expr} {pos : Pos} {T id : String} {Q : Value → Shared → Prop}
    (hl : typeLookup (.type T) "__getitem__" = pure (some (.builtin id))) (hs : NoSl slice)
    (h : wpAny (model prog w) A (eval value env) (fun o s₁ => wpAny (model prog w) A (eval slice env) (fun i s₂ => s₂.TypeIs o T ∧ wpAny (model prog w) A (getItem o i) Q E s₂) E s₁) E s) :
    wpAny (model prog w) A (eval (.Subscript value slice pos) env) Q E s := by
  refine Subscript_ (wpAny_mono h (fun o s₁ h₁ => wpAny_mono h₁ (fun i s₂ h₂ => ?_) fun _ _ x => x) fun _ _ x => x)
  obtain ⟨hT, h₂⟩ := h₂
  unfold subscriptTail
  refine wpAny_bind ?_
  rw [getitemInPython_of_ne hT.not_modules]
  refine wpAny_bind (wpAny_specialOf hT hl ?_)
  have fin : wpAny (model prog w) A (subscripted slice false o i) (fun r s₃ => wpAny (model prog w) A (letTemporaryGo value o r >>= fun _ => pure r) Q E s₃) E s₂ := by
    rw [hs o i]
    exact wpAny_operating (wpAny_mono h₂ (fun r s₃ h₃ => wpAny_bind (wpAny_letTemporaryGo (wpAny_pure h₃))) fun _ _ x => x)
  first
    | exact wpAny_pure (wpAny_bind fin)
    | exact wpAny_bind (wpAny_pure (wpAny_bind fin))
    | exact wpAny_bind fin
theorem dict_typeIs {X : Cx} {pins : List (Addr × Obj)} {σ : St} {H : Hp} {s : Shared} {a : Addr} {y : V} {o : Option V} (I : Inv X pins σ H s) (g : DGet H a y o) : s.TypeIs (.ref a) "dict" := by
  rcases g with ⟨kvs, k, e, _, _⟩ | ⟨kvs, k, b, e, _, _, _⟩
  · obtain ⟨_, _, vs, _, dd⟩ := dk_rd I.hok e
    exact dd.typeIs
  · obtain ⟨_, _, xs, _, dd⟩ := dt_rd I.hok e
    exact dd.typeIs
def tDGet (td ty : TE) : TE := fun σ H Q => td σ H fun x H1 => ty σ H1 fun y H2 => ∃ a v, x = .ref a ∧ DGet H2 a y (some v) ∧ Q v H2
def tDNotIn (ty td : TE) : TE := fun σ H Q => ty σ H fun y H1 => td σ H1 fun x H2 => ∃ a o, x = .ref a ∧ DGet H2 a y o ∧ Q (.bl (!o.isSome)) H2
def sDPut (td ty tv : TE) : TS := fun D σ H => tv σ H fun v H1 => td σ H1 fun x H2 => ty σ H2 fun y H3 => ∃ a H4, x = .ref a ∧ DPut H3 a y v H4 ∧ D.nx σ H4
section
variable {X : Cx} {o i e value : Expr} {pos pos' tpos : Pos} {td ty tv : TE}
theorem pe_dget (hu : X.A.units + 1 < cLine) (ho : PE X o td) (hi : PE X i ty) (hs : NoSl i) : PE X (.Subscript o i pos) (tDGet td ty) := by
  intro pins s σ H Q I h
  refine subD_of PySem.F.slot_dict_getitem.lookup hs (thn (ho pins s σ H _ I h) fun u s1 ⟨x, H1, I1, rx, q1⟩ => thn (hi pins s1 σ H1 _ I1 q1) fun iv s2 ⟨y, H2, I2, ry, a, v, ex, g, q2⟩ => ?_)
  subst ex
  obtain rfl : u = Value.ref a := rx
  exact ⟨dict_typeIs I2 g, d_getItem hu I2 g ry fun w' s3 I3 rw' => ⟨v, H2, I3, rw', q2⟩⟩
theorem pc_dnotin (hu : X.A.units + 1 < cLine) (hi : PE X i ty) (ho : PE X o td) : PC X .NotIn i o (tDNotIn ty td) := by
  intro pins s σ H Q I h
  refine thn (hi pins s σ H _ I h) fun iv s1 ⟨y, H1, I1, ry, q1⟩ => thn (ho pins s1 σ H1 _ I1 q1) fun u s2 ⟨x, H2, I2, rx, a, ov, ex, g, q2⟩ => ?_
  subst ex
  obtain rfl : u = Value.ref a := rx
  exact d_notIn hu I2 g ry fun s3 I3 => ⟨.bl (!ov.isSome), H2, I3, rfl, q2⟩
theorem ps_dput (hu : X.A.units + 1 < cLine) (ho : PE X o td) (hi : PE X i ty) (hv : PE X value tv) (hs : swapsWith value (some (.Subscript o i pos')) pos.line X.env = pure false) :
    PS X (.Assign [.Subscript o i pos'] value pos) (sDPut td ty tv) := by
  intro pins s σ H D I h
  refine wpAny_Assign_Subscript (thn (hv pins s σ H _ I h) fun r s1 ⟨v, H1, I1, rv, q1⟩ => thn (ho pins s1 σ H1 _ I1 q1) fun u s2 ⟨x, H2, I2, rx, q2⟩ => thn (hi pins s2 σ H2 _ I2 q2) fun iv s3 ⟨y, H3, I3, ry, a, H4, ex, g, q3⟩ => ?_) hs
  subst ex
  obtain rfl : u = Value.ref a := rx
  exact d_setItem hu I3 g ry rv fun s4 I4 => ⟨σ, H4, I4, q3⟩
end
theorem dk_empty {P : Program} {w : World} {H : Hp} (h : Heap) (hb : sysModules < h.objs.size) : ObjOk P w H (h.push { cls := .type "dict", data := .dict #[] }) h.objs.size (.dK []) :=
  ⟨Nat.zero_le _, beq_eq_false_iff_ne.mpr (Ne.symm (Nat.ne_of_lt hb)), [], .nil, Heap.DictOf.new h⟩
def tDNewK : TE := fun _ H Q => ∀ p, H p = none → Q (.ref p) (upd H p (.dK []))
section
variable {X : Cx} {pos : Pos}
theorem pe_dnewK : PE X (.Dict [] [] pos) tDNewK := fun pins s σ H Q I h =>
  wpAny_Dict_empty ⟨.ref s.heap.objs.size, _, I.laid (a := s.heap.objs.size) (o := .dK []) (t' := s.toks) (fun _ _ q => Heap.get?_push_of_some _ q) (Nat.le_refl _) (dk_empty s.heap I.big), rfl, h _ (I.hok.fresh (Nat.le_refl _))⟩
end
def tPairs : List (TE × TE) → St → Hp → (List (V × V) → Hp → Prop) → Prop
  | [], _, H, Q => Q [] H
  | (tk, tv) :: r, σ, H, Q => tk σ H fun x H1 => tv σ H1 fun y H2 => tPairs r σ H2 fun ps H3 => Q ((x, y) :: ps) H3
def mergeK (kvs more : List (Key × V)) : List (Key × V) := more.foldl (fun acc kv => putK acc kv.1 kv.2) kvs
def tDisp (trs : List (TE × TE)) : TE := fun σ H Q => ∀ p, H p = none → tPairs trs σ (upd H p (.dK [])) fun ps H2 => H2 p = some (.dK []) ∧ ∃ kvs : List (Key × V), ps = kvs.map (fun kv => (kV kv.1, kv.2)) ∧ kvs.length ≤ 15 ∧ Q (.ref p) (upd H2 p (.dK (mergeK [] kvs)))
end L2
namespace HT
open PySem PyProof.Rows
section
variable {prog : Program} {w : World} {A : Around} {E : Value → Shared → Prop} {s : Shared}
def sIx (n d : Nat) : Option Int → Nat
  | none => d
  | some v => if v < 0 then (v + (n : Int)).toNat else min v.toNat n
theorem sIx_le (n d : Nat) (hd : d ≤ n) (o : Option Int) : sIx n d o ≤ n := by
  cases o with
  | none => exact hd
  | some v =>
    show (if v < 0 then (v + (n : Int)).toNat else min v.toNat n) ≤ n
    by_cases hv : v < 0
    · rw [if_pos hv]; omega
    · rw [if_neg hv]; exact Nat.min_le_right _ _
theorem clip_eq (v : Int) (n d : Nat) : (if v < 0 then max (v + (n : Int)) 0 else min v (n : Int)) = ((sIx n d (some v) : Nat) : Int) := by
  show (if v < 0 then max (v + (n : Int)) 0 else min v (n : Int)) = (((if v < 0 then (v + (n : Int)).toNat else min v.toNat n) : Nat) : Int)
  by_cases hv : v < 0
  · simp only [if_pos hv]; omega
  · simp only [if_neg hv]; omega
theorem adjust_gen (lo hi : Option Int) (n : Nat) : Builtin.Slice.sliceAdjust lo hi 1 (n : Int) = (((sIx n 0 lo : Nat) : Int), ((sIx n n hi : Nat) : Int)) := by
  have h1 : ¬ ((1 : Int) < 0) := by omega
  unfold Builtin.Slice.sliceAdjust
  simp only [h1, if_false]
  refine Prod.ext ?_ ?_
  · cases lo with
    | none => rfl
    | some v => exact clip_eq v n 0
  · cases hi with
    | none => rfl
    | some v => exact clip_eq v n n
theorem places_gen (i j : Nat) : Builtin.Slice.slicePlaces (i : Int) (j : Int) 1 = j - i := by
  unfold Builtin.Slice.slicePlaces
  have h1 : (1 : Int) > 0 := by omega
  simp only [h1, if_true, Int.ediv_one]
  split <;> omega
theorem slicePart_ {v : Value} {o : Option Int} {Q : Option Int → Shared → Prop} (p : IsPart v o) (h : Q o s) : wpAny (model prog w) A (Builtin.Slice.slicePartIndex v) Q E s := by
  cases p with
  | none => exact slicePart_none h
  | int i t => exact slicePart_int h
theorem sliceApplied_gen {sl : Addr} {vl vu : Value} {lo hi : Option Int} {n : Nat} {Q : Int × Int × Nat → Shared → Prop} (hs : s.heap.IsSliceOf sl vl vu .none) (pl : IsPart vl lo) (pu : IsPart vu hi)
    (h : Q (((sIx n 0 lo : Nat) : Int), 1, sIx n n hi - sIx n 0 lo) s) : wpAny (model prog w) A (Builtin.Slice.sliceApplied (.ref sl) (pure (n : Int))) Q E s := by
  obtain ⟨os, hos, hcs, hds⟩ := id hs
  unfold Builtin.Slice.sliceApplied Builtin.Slice.sliceFields
  refine wpAny_bind (wpAny_bind (wpAny_field hos hds (x := vl) rfl (wpAny_bind (wpAny_field hos hds (x := vu) rfl (wpAny_bind (wpAny_field hos hds (x := .none) rfl (wpAny_pure ?_)))))))
  refine wpAny_bind (slicePart_none ?_)
  show wpAny _ _ (if ((1 : Int) == 0) = true then _ else _) _ _ s
  rw [if_neg (by decide)]
  refine wpAny_bind (slicePart_ pl (wpAny_bind (slicePart_ pu (wpAny_bind (wpAny_pure ?_)))))
  show wpAny _ _ (match Builtin.Slice.sliceAdjust lo hi 1 (n : Int) with | (lo, hi) => pure (lo, (1 : Int), Builtin.Slice.slicePlaces lo hi 1)) _ _ s
  rw [adjust_gen lo hi n]
  show wpAny _ _ (pure (((sIx n 0 lo : Nat) : Int), (1 : Int), Builtin.Slice.slicePlaces ((sIx n 0 lo : Nat) : Int) ((sIx n n hi : Nat) : Int) 1)) _ _ s
  rw [places_gen]
  exact wpAny_pure h
theorem pick_gen (xs : Array Value) (i k : Nat) : ((List.range k).filterMap fun (m : Nat) => xs[((i : Int) + (m : Int) * 1).toNat]?).toArray = ((xs.toList.drop i).take k).toArray := by
  have e : (fun (m : Nat) => xs[((i : Int) + (m : Int) * 1).toNat]?) = fun m => xs[i + m]? := by
    funext m
    have : ((i : Int) + (m : Int) * 1).toNat = i + m := by omega
    rw [this]
  rw [e]
  have := pick_run xs i k
  rw [List.filterMap_map] at this
  have e2 : ((fun x => xs[x]?) ∘ fun x => i + x) = fun m => xs[i + m]? := rfl
  rw [e2] at this
  rw [this]
theorem getItem_tuple_cut {t sl : Addr} {items : Array Value} {vl vu : Value} {lo hi : Option Int} {Q : Value → Shared → Prop} (ht : IsTup s.heap t items) (hs : s.heap.IsSliceOf sl vl vu .none) (pl : IsPart vl lo) (pu : IsPart vu hi)
    (hw : ¬ (sIx items.size 0 lo = 0 ∧ sIx items.size items.size hi = items.size))
    (h : Q (.ref s.heap.objs.size) { s with heap := s.heap.push { cls := .type "tuple", data := .seq ((items.toList.drop (sIx items.size 0 lo)).take (sIx items.size items.size hi - sIx items.size 0 lo)).toArray } })
    (hsz : items.size ≤ sizeLine) : wpAny (model prog w) A (getItem (.ref t) (.ref sl)) Q E s := by
  have htake : sizeOk (.seq ((items.toList.drop (sIx items.size 0 lo)).take (sIx items.size items.size hi - sIx items.size 0 lo)).toArray) := by
    show ((items.toList.drop (sIx items.size 0 lo)).take (sIx items.size items.size hi - sIx items.size 0 lo)).toArray.size ≤ sizeLine
    rw [List.size_toArray, List.length_take, List.length_drop, Array.length_toList]
    omega
  have hj : sIx items.size items.size hi ≤ items.size := sIx_le _ _ (Nat.le_refl _) hi
  obtain ⟨os, hos, hcs, hds⟩ := id hs
  have hTs : s.TypeIs (.ref sl) "slice" := ⟨os, hos, hcs⟩
  unfold getItem
  try with_reducible refine wpAny_holding ?_
  first | refine wpAny_bind (wpAny_pure ?_) | skip
  refine wpAny_bind (wpAny_sequenceKey ht.typeIs (by decide) ?_)
  refine wpAny_bind (wpAny_callSpecial?_slot (name := Str.ofString "__getitem__") ht.typeIs PyProof.Rows.slot_tuple_getitem
    (wpAny_call_entry PyProof.Rows.slot_tuple_getitem ht.typeIs entry_tuple_getitem ?_ (args_tuple_getitem _ _)))
  show wpAny _ _ (Builtin.Tuple.tupleItemsOf (.ref t) >>= _) _ _ s
  refine wpAny_bind (tupleItemsOf_ ht ?_)
  refine wpAny_bind (wpAny_typeOf hTs ?_)
  rw [if_pos (by decide)]
  refine wpAny_bind (sliceApplied_gen hs pl pu ?_)
  have hno : ¬ ((((sIx items.size 0 lo : Nat) : Int) == 0 && (1 : Int) == 1 && (sIx items.size items.size hi - sIx items.size 0 lo) == items.size) = true) := by
    intro q
    rw [Bool.and_eq_true, Bool.and_eq_true] at q
    have q1 : ((sIx items.size 0 lo : Nat) : Int) = 0 := eq_of_beq q.1.1
    have q2 : sIx items.size items.size hi - sIx items.size 0 lo = items.size := eq_of_beq q.2
    exact hw ⟨by omega, by omega⟩
  show wpAny _ _ (if (((sIx items.size 0 lo : Nat) : Int) == 0 && (1 : Int) == 1 && (sIx items.size items.size hi - sIx items.size 0 lo) == items.size) = true then _ else _) _ _ s
  rw [if_neg hno, pick_gen]
  first
    | exact wpAny_bind (m := Builtin.Tuple.tupleExact _) (wpAny_newObj_type (wpAny_pure ⟨_, rfl, wpAny_pure h⟩) htake)
    | exact wpAny_bind (m := Builtin.Tuple.tupleExact _) (wpAny_newObj_type (wpAny_bind (wpAny_pure (wpAny_pure ⟨_, rfl, wpAny_pure h⟩))) htake)
    | exact wpAny_bind (wpAny_bind (m := Builtin.Tuple.tupleExact _) (wpAny_newObj_type (wpAny_pure (wpAny_pure ⟨_, rfl, wpAny_pure h⟩)) htake))
    | exact wpAny_bind (wpAny_bind (m := Builtin.Tuple.tupleExact _) (wpAny_newObj_type (wpAny_pure ⟨_, rfl, wpAny_pure h⟩) htake))
end
end HT
namespace L2
open PySem PySem.Spec PyProof.Rows
abbrev TO := St → Hp → (Option Int → Hp → Prop) → Prop
def PO (X : Cx) (e : Option Expr) (t : TO) : Prop :=
  ∀ (pins : List (Addr × Obj)) (s : Shared) (σ : St) (H : Hp) (Q : Option Int → Hp → Prop), Inv X pins σ H s → t σ H Q →
    wpAny (model X.prog X.w) X.A (evalPart e X.env) (fun u s' => ∃ o H', Inv X pins σ H' s' ∧ IsPart u o ∧ Q o H') X.xe s
def tNoPart : TO := fun _ H Q => Q none H
def tPart (t : TE) : TO := fun σ H Q => t σ H fun x H1 => ∃ i, x = .int i ∧ Q (some i) H1
section
variable {X : Cx} {e : Expr} {te : TE} {lo hi : Option Expr} {tl th : TO} {pos p2 : Pos}
theorem po_none : PO X none tNoPart := by
  intro pins s σ H Q I h
  rw [evalPart_none]
  exact wpAny_pure ⟨none, H, I, .none, h⟩
theorem po_some (h : PE X e te) : PO X (some e) (tPart te) := by
  intro pins s σ H Q I hw
  rw [evalPart_some]
  refine thn (h pins s σ H _ I hw) fun u s1 ⟨x, H1, I1, r1, q1⟩ => ?_
  obtain ⟨i, rfl, q⟩ := q1
  obtain ⟨t, rfl⟩ := r1
  exact ⟨some i, H1, I1, .int i t, q⟩
def SlR (X : Cx) (r : V → Option Int → Option Int → Hp → VK → Prop) : Prop :=
  ∀ (pins : List (Addr × Obj)) (s : Shared) (σ : St) (H : Hp) (x : V) (v vl vu : Value) (lo hi : Option Int) (sl : Addr) (Q : VK), Inv X pins σ H s → RelV x v → s.heap.IsSliceOf sl vl vu .none → IsPart vl lo → IsPart vu hi → r x lo hi H Q →
    ∃ T id, typeLookup (.type T) "__getitem__" = pure (some (.builtin id)) ∧ s.TypeIs v T ∧ wpAny (model X.prog X.w) X.A (getItem v (.ref sl)) (EP X pins σ Q) X.xe s
theorem SlR.or {r r' : V → Option Int → Option Int → Hp → VK → Prop} (h : SlR X r) (h' : SlR X r') : SlR X (fun x lo hi H Q => r x lo hi H Q ∨ r' x lo hi H Q) := by
  intro pins s σ H x v vl vu lo hi sl Q I rx hs pl pu q
  rcases q with q | q
  · exact h pins s σ H x v vl vu lo hi sl Q I rx hs pl pu q
  · exact h' pins s σ H x v vl vu lo hi sl Q I rx hs pl pu q
def tSl (r : V → Option Int → Option Int → Hp → VK → Prop) (te : TE) (tl th : TO) : TE := fun σ H Q => te σ H fun x H1 => tl σ H1 fun l H2 => th σ H2 fun u H3 => r x l u H3 Q
theorem pe_slice {r : V → Option Int → Option Int → Hp → VK → Prop} (hr : SlR X r) (he : PE X e te) (hl : PO X lo tl) (hu : PO X hi th) : PE X (.Subscript e (.Slice lo hi none p2) pos) (tSl r te tl th) := by
  intro pins s σ H Q I h
  refine Subscript_ (thn (he pins s σ H _ I h) fun v s1 ⟨x, H1, I1, r1, q1⟩ => ?_)
  refine wpAny_Slice (thn (hl pins s1 σ H1 _ I1 q1) fun vl s2 ⟨l, H2, I2, pl, q2⟩ => thn (hu pins s2 σ H2 _ I2 q2) fun vu s3 ⟨u, H3, I3, pu, q3⟩ => ?_)
  rw [evalPart_none]
  refine wpAny_pure ?_
  have I4 : Inv X pins σ H3 { s3 with heap := s3.heap.push { cls := .type "slice", data := .fields #[vl, vu, .none] } } := I3.kept (t' := s3.toks) fun b ob q => Heap.get?_push_of_some _ q
  obtain ⟨T, id, hT, ht, hg⟩ := hr pins { s3 with heap := s3.heap.push { cls := .type "slice", data := .fields #[vl, vu, .none] } } σ H3 x v vl vu l u s3.heap.objs.size Q I4 r1 (Heap.IsSliceOf.new ..) pl pu q3
  show wpAny (model X.prog X.w) X.A (subscriptTail e (.Slice lo hi none p2) v (.ref s3.heap.objs.size)) (EP X pins σ Q) X.xe { s3 with heap := s3.heap.push { cls := .type "slice", data := .fields #[vl, vu, .none] } }
  exact tail_any (ops := [.ref s3.heap.objs.size, v]) ht hT hg (by with_unfolding_all rfl)
def cutV (xs : List V) (lo hi : Option Int) : List V := (xs.drop (HT.sIx xs.length 0 lo)).take (HT.sIx xs.length xs.length hi - HT.sIx xs.length 0 lo)
theorem cutV_length (xs : List V) (lo hi : Option Int) : (cutV xs lo hi).length ≤ xs.length := by
  unfold cutV
  rw [List.length_take, List.length_drop]
  omega
def rSlT (K : PySem.W.Frag) : V → Option Int → Option Int → Hp → VK → Prop := fun x lo hi H Q => ∃ a xs, x = .ref a ∧ SqT K H a xs ∧
  ¬ (HT.sIx xs.length 0 lo = 0 ∧ HT.sIx xs.length xs.length hi = xs.length) ∧ ∀ p, H p = none → Q (.ref p) (upd H p (.tup (cutV xs lo hi)))
theorem sl_tup : SlR X (rSlT X.K) := by
  intro pins s σ H x v vl vu lo hi sl Q I rx hs pl pu h
  obtain ⟨a, xs, rfl, hx, hw, q⟩ := h
  cases rx
  obtain ⟨its, r, ht, hz⟩ := I.tuple hx
  have hlen : its.toArray.size = xs.length := by rw [List.size_toArray]; exact r.length.symm
  refine ⟨"tuple", _, PyProof.Rows.slot_tuple_getitem.lookup, ht.typeIs, ?_⟩
  refine HT.getItem_tuple_cut ht hs pl pu (by rw [hlen]; exact hw) ?_ (by rw [hlen]; exact hz)
  rw [hlen]
  refine ⟨.ref s.heap.objs.size, _, I.laid (t' := s.toks) (o := .tup (cutV xs lo hi)) (fun b ob q => Heap.get?_push_of_some _ q) (Nat.le_refl _) ?_, rfl, q _ (I.hok.fresh (Nat.le_refl _))⟩
  exact ⟨Nat.le_trans (cutV_length xs lo hi) hz, _, (r.drop (HT.sIx xs.length 0 lo)).take (HT.sIx xs.length xs.length hi - HT.sIx xs.length 0 lo), IsTup.new _ _⟩
end
end L2
namespace L2
open PySem PySem.Spec PyProof.Rows
def ixN (n : Nat) (i : Int) : Option Nat := if 0 ≤ i then (if i < n then some i.toNat else none) else if -(n : Int) ≤ i then some (i + n).toNat else none
def atI {α : Type} (xs : List α) (i : Int) : Option α := (ixN xs.length i).bind fun j => xs[j]?
theorem ixN_seq {n : Nat} {i : Int} {j : Nat} (h : ixN n i = some j) : seqIndex? i n = some j ∧ j < n ∧ -(n : Int) ≤ i ∧ i < n := by
  unfold ixN at h
  by_cases h0 : 0 ≤ i
  · rw [if_pos h0] at h
    by_cases h1 : i < n
    · rw [if_pos h1] at h
      have e : i.toNat = j := Option.some.inj h
      exact ⟨by rw [seqIndex_of h0 h1, e], by omega, by omega, h1⟩
    · rw [if_neg h1] at h; cases h
  · rw [if_neg h0] at h
    by_cases h1 : -(n : Int) ≤ i
    · rw [if_pos h1] at h
      have e : (i + n).toNat = j := Option.some.inj h
      exact ⟨by rw [seqIndex_neg (by omega) h1, e], by omega, h1, by omega⟩
    · rw [if_neg h1] at h; cases h
theorem atI_get {α : Type} {xs : List α} {i : Int} {v : α} (h : atI xs i = some v) : ∃ j, seqIndex? i xs.length = some j ∧ xs[j]? = some v ∧ j < xs.length ∧ -(xs.length : Int) ≤ i ∧ i < xs.length := by
  unfold atI at h
  cases e : ixN xs.length i with
  | none => rw [e] at h; cases h
  | some j =>
    rw [e] at h
    obtain ⟨h1, h2, h3, h4⟩ := ixN_seq e
    exact ⟨j, h1, h, h2, h3, h4⟩
theorem atI_nat {α : Type} {xs : List α} {j : Nat} {v : α} (h : xs[j]? = some v) : atI xs (j : Int) = some v := by
  have hj : j < xs.length := (List.getElem?_eq_some_iff.mp h).1
  have e : ixN xs.length (j : Int) = some j := by
    unfold ixN
    rw [if_pos (by omega), if_pos (by omega)]; simp
  unfold atI; rw [e]; exact h
def PlainIx (b : Expr) : Prop := ∀ o i, subscripted b false o i = operate [o, i] (getItem o i)
def IxR (X : Cx) (r : R2) : Prop :=
  ∀ (value slice : Expr) (pins : List (Addr × Obj)) (s : Shared) (σ : St) (H : Hp) (x y : V) (v u : Value) (Q : VK), Inv X pins σ H s → RelV x v → RelV y u → r x y H Q →
    subscripted slice false v u = operate [v, u] (getItem v u) → wpAny (model X.prog X.w) X.A (subscriptTail value slice v u) (EP X pins σ Q) X.xe s
def MtR (X : Cx) (id : String) (r : V → List V → Hp → VK → Prop) : Prop :=
  ∀ (pins : List (Addr × Obj)) (s : Shared) (σ : St) (H : Hp) (x : V) (xs : List V) (v : Value) (us : List Value) (Q : VK), Inv X pins σ H s → RelV x v → Vals xs us → r x xs H Q →
    wpAny (model X.prog X.w) X.A (call (.builtin id) (v :: us)) (EP X pins σ Q) X.xe s
section
variable {X : Cx} {a b : Expr} {ta tb : TE} {pos : Pos}
theorem IxR.or {r r' : R2} (h : IxR X r) (h' : IxR X r') : IxR X (fun x y H Q => r x y H Q ∨ r' x y H Q) := by
  intro value slice pins s σ H x y v u Q I rx ry q hs
  rcases q with q | q
  · exact h value slice pins s σ H x y v u Q I rx ry q hs
  · exact h' value slice pins s σ H x y v u Q I rx ry q hs
theorem MtR.or {id : String} {r r' : V → List V → Hp → VK → Prop} (h : MtR X id r) (h' : MtR X id r') : MtR X id (fun x xs H Q => r x xs H Q ∨ r' x xs H Q) := by
  intro pins s σ H x xs v us Q I rx rs q
  rcases q with q | q
  · exact h pins s σ H x xs v us Q I rx rs q
  · exact h' pins s σ H x xs v us Q I rx rs q
theorem pe_ix {r : R2} (hr : IxR X r) (ha : PE X a ta) (hb : PE X b tb) (hs : PlainIx b) : PE X (.Subscript a b pos) (tOp r ta tb) := by
  intro pins s σ H Q I h
  exact Subscript_ (binT ha hb I h fun v u s2 x y H2 I2 rx ry q => hr a b pins s2 σ H2 x y v u Q I2 rx ry q (hs _ _))
def rIxL (K : PySem.W.Frag) : R2 := fun x y H Q => ∃ p xs i v, x = .ref p ∧ y = .int i ∧ SqL K H p xs ∧ atI xs i = some v ∧ Q v H
def rIxT (K : PySem.W.Frag) : R2 := fun x y H Q => ∃ p xs i v, x = .ref p ∧ y = .int i ∧ SqT K H p xs ∧ atI xs i = some v ∧ Q v H
def rIxS : R2 := fun x y H Q => ∃ z i c, x = .str z ∧ y = .int i ∧ z.length ≤ sizeLine ∧ atI z.cps.toList i = some c ∧ Q (.str ⟨#[c]⟩) H
theorem ix_list : IxR X (rIxL X.K) := by
  intro value slice pins s σ H x y v u Q I rx ry h hs
  obtain ⟨p, xs, i, z, rfl, rfl, hq, he, q⟩ := h
  cases rx
  obtain ⟨t, rfl⟩ := ry
  obtain ⟨its, r, pl, hz⟩ := I.list hq
  obtain ⟨j, h1, h2, h3, h4, h5⟩ := atI_get he
  obtain ⟨w, ew, rw'⟩ := r.get h2
  have hl := r.length
  have hn := line63
  have fin : EP X pins σ Q w s := ⟨z, H, I, rw', q⟩
  by_cases h0 : 0 ≤ i
  · have hj : i.toNat = j := by
      rw [seqIndex_of h0 h5] at h1
      exact Option.some.inj h1
    exact item_listR pl.isList h0 (by omega) (by rw [hj]; simpa using ew) fin hs
  · have hj : (i + (its.toArray.size : Int)).toNat = j := by
      rw [seqIndex_neg (by omega) h4] at h1
      rw [List.size_toArray, ← hl]
      exact Option.some.inj h1
    exact subscriptTail_builtinR (x := w) pl.isList.typeIs slot_list_getitem.lookup
      (wpAny_getItem_list_neg (Q := fun r s' => r = w ∧ EP X pins σ Q r s') pl.isList (by omega) (by rw [List.size_toArray] <;> omega) (by omega) (by rw [hj]; simpa using ew) ⟨rfl, fin⟩) hs
theorem ix_tup : IxR X (rIxT X.K) := by
  intro value slice pins s σ H x y v u Q I rx ry h hs
  obtain ⟨p, xs, i, z, rfl, rfl, hq, he, q⟩ := h
  cases rx
  obtain ⟨t, rfl⟩ := ry
  obtain ⟨its, r, pl, hz⟩ := I.tuple hq
  obtain ⟨j, h1, h2, h3, h4, h5⟩ := atI_get he
  obtain ⟨w, ew, rw'⟩ := r.get h2
  have hl := r.length
  have hn := line63
  have fin : EP X pins σ Q w s := ⟨z, H, I, rw', q⟩
  exact subscriptTail_builtinR (x := w) pl.typeIs slot_tuple_getitem.lookup
    (getItem_tuple (j := j) (Q := fun r s' => r = w ∧ EP X pins σ Q r s') pl (by omega) (by omega) (by rw [List.size_toArray, ← hl]; exact h1) (by simpa using ew) ⟨rfl, fin⟩) hs
theorem ix_str : IxR X rIxS := by
  intro value slice pins s σ H x y v u Q I rx ry h hs
  obtain ⟨z, i, c, rfl, rfl, hz, he, q⟩ := h
  obtain ⟨t, rfl⟩ := rx
  obtain ⟨t', rfl⟩ := ry
  obtain ⟨j, h1, h2, h3, h4, h5⟩ := atI_get he
  have hl : z.cps.toList.length = z.length := by simp [Str.length]
  rw [hl] at h1 h4 h5
  have hn := line63
  exact tail_any (typeIs_str s z t) slot_str_getitem.lookup (getItem_str (c := c) (by
    have e1 : decide (i < -(2 ^ 63 : Int)) = false := decide_eq_false (by omega)
    have e2 : decide (i ≥ 2 ^ 63) = false := decide_eq_false (by omega)
    rw [e1, e2, Bool.or_false]) (by rw [h1]; simpa using h2) ⟨.str ⟨#[c]⟩, H, I.tok _, ⟨_, rfl⟩, q⟩) hs
theorem Inv.lst {pins : List (Addr × Obj)} {σ : St} {H : Hp} {s : Shared} {p : Addr} {xs : List V} (I : Inv X pins σ H s) (h : H p = some (.lst xs)) :
    ∃ (its : List Value) (n : Nat), Vals xs its ∧ s.heap.get? p = some { cls := .type "list", data := .seq its.toArray n } ∧ xs.length ≤ sizeLine := by
  obtain ⟨z, its, n, r, e⟩ := I.hok p _ h
  exact ⟨its, n, r, e, z⟩
def flatV : V → Bool
  | .non => true
  | .bl _ => true
  | .int _ => true
  | .str _ => true
  | _ => false
def eqV : V → V → Bool
  | .non, .non => true
  | .bl a, .bl b => a == b
  | .bl a, .int b => (if a then 1 else 0) == b
  | .int a, .bl b => a == (if b then 1 else 0)
  | .int a, .int b => a == b
  | .str a, .str b => a == b
  | _, _ => false
theorem eqAt_V {A : Around} {s : Shared} {y x : V} {u v : Value} (ry : RelV y u) (rx : RelV x v) (fy : flatV y = true) (fx : flatV x = true) : SeqAt.EqAt A s u v (eqV y x) := by
  cases y with
  | non =>
    cases ry
    cases x with
    | non => cases rx; exact SeqAt.EqAt.same _
    | bl b => cases rx; exact SeqAt.EqAt.none_bool b
    | int b => obtain ⟨t, rfl⟩ := rx; exact SeqAt.EqAt.none_int b t
    | str b => obtain ⟨t, rfl⟩ := rx; exact SeqAt.EqAt.none_str b t
    | _ => exact absurd (show false = true from fx) Bool.false_ne_true
  | bl a =>
    cases ry
    cases x with
    | non => cases rx; exact SeqAt.EqAt.bool_none a
    | bl b => cases rx; exact SeqAt.EqAt.bool_bool a b
    | int b => obtain ⟨t, rfl⟩ := rx; exact SeqAt.EqAt.bool_int a b t
    | str b => obtain ⟨t, rfl⟩ := rx; exact SeqAt.EqAt.bool_str a b t
    | _ => exact absurd (show false = true from fx) Bool.false_ne_true
  | int a =>
    obtain ⟨t', rfl⟩ := ry
    cases x with
    | non => cases rx; exact SeqAt.EqAt.int_none a t'
    | bl b => cases rx; exact SeqAt.EqAt.int_bool a t' b
    | int b => obtain ⟨t, rfl⟩ := rx; exact SeqAt.EqAt.int_int a t' b t
    | str b => obtain ⟨t, rfl⟩ := rx; exact SeqAt.EqAt.int_str a t' b t
    | _ => exact absurd (show false = true from fx) Bool.false_ne_true
  | str a =>
    obtain ⟨t', rfl⟩ := ry
    cases x with
    | non => cases rx; exact SeqAt.EqAt.str_none a t'
    | bl b => cases rx; exact SeqAt.EqAt.str_bool a t' b
    | int b => obtain ⟨t, rfl⟩ := rx; exact SeqAt.EqAt.str_int a t' b t
    | str b => obtain ⟨t, rfl⟩ := rx; exact SeqAt.EqAt.str_str a t' b t
    | _ => exact absurd (show false = true from fx) Bool.false_ne_true
  | _ => exact absurd (show false = true from fy) Bool.false_ne_true
theorem call_len_seq : CallR X (.builtin "len") (fun xs H Q => ∃ p ys, xs = [.ref p] ∧ (SqL X.K H p ys ∨ SqT X.K H p ys) ∧ Q (.int ys.length) H) := by
  intro pins s σ H xs us Q I r h
  obtain ⟨p, ys, rfl, hq, q⟩ := h
  obtain ⟨u, rfl, rx⟩ := vals1 r
  cases rx
  have hn := line63
  rcases hq with hq | hq
  · obtain ⟨its, r', pl, hz⟩ := I.list hq
    have hlen := r'.length
    exact Calls.call_len_list pl.isList (by simp only [List.size_toArray] <;> omega) ⟨.int ys.length, H, I.tok _, ⟨s.toks + 1, by rw [List.size_toArray, hlen]⟩, q⟩
  · obtain ⟨its, r', pl, hz⟩ := I.tuple hq
    have hlen := r'.length
    exact len_tuple pl (by simp only [List.size_toArray] <;> omega) ⟨.int ys.length, H, I.tok _, ⟨s.toks + 1, by rw [List.size_toArray, hlen]⟩, q⟩
theorem CallR.or {f : Value} {r r' : List V → Hp → VK → Prop} (h : CallR X f r) (h' : CallR X f r') : CallR X f (fun xs H Q => r xs H Q ∨ r' xs H Q) := by
  intro pins s σ H xs us Q I rs q
  rcases q with q | q
  · exact h pins s σ H xs us Q I rs q
  · exact h' pins s σ H xs us Q I rs q
def tyV (K : PySem.W.Frag) (T : String) (x : V) (H : Hp) : Prop := match x with
  | .str _ => T = "str"
  | .int _ => T = "int"
  | .ref p => (T = "list" ∧ ∃ xs, SqL K H p xs) ∨ (T = "tuple" ∧ ∃ o, K.lookup p = some o ∧ o.cls = .type "tuple" ∧ o.dict = none) ∨
      (T = "dict" ∧ ((∃ kvs, H p = some (.dK kvs)) ∨ ∃ kvs, H p = some (.dT kvs))) ∨ (T = "set" ∧ ∃ S n, H p = some (.set S n))
  | _ => False
theorem tyV_is {pins : List (Addr × Obj)} {σ : St} {H : Hp} {s : Shared} {T : String} {x : V} {v : Value} (I : Inv X pins σ H s) (r : RelV x v) (ty : tyV X.K T x H) :
    s.TypeIs v T ∧ ∀ a, v = .ref a → ∃ ob, s.heap.get? a = some ob ∧ ob.dict = none := by
  cases x with
  | str z =>
    obtain ⟨t, rfl⟩ := r
    cases (show T = "str" from ty)
    exact ⟨typeIs_str s z t, fun _ e => nomatch e⟩
  | int i =>
    obtain ⟨t, rfl⟩ := r
    cases (show T = "int" from ty)
    exact ⟨typeIs_int s i t, fun _ e => nomatch e⟩
  | ref p =>
    cases r
    rcases ty with ⟨rfl, xs, hq⟩ | ⟨rfl, o, hk, hc, hd⟩ | ⟨rfl, hk⟩ | ⟨rfl, S, n, hk⟩
    · obtain ⟨its, _, pl, _⟩ := I.list hq
      refine ⟨pl.isList.typeIs, fun a e => ?_⟩
      cases e
      obtain ⟨o, n, e, c, hd, _⟩ := pl
      exact ⟨o, e, hd⟩
    · refine ⟨⟨o, I.kIn p o hk, hc⟩, fun a e => ?_⟩
      cases e
      exact ⟨o, I.kIn _ o hk, hd⟩
    · have z : ∃ o, s.heap.get? p = some o ∧ o.ExactDict := by
        rcases hk with ⟨kvs, hk⟩ | ⟨kvs, hk⟩
        · obtain ⟨_, _, _, _, o, _, _, e, ex, _⟩ := I.hok p _ hk
          exact ⟨o, e, ex⟩
        · obtain ⟨_, _, _, _, o, _, _, e, ex, _⟩ := I.hok p _ hk
          exact ⟨o, e, ex⟩
      obtain ⟨o, e, ex⟩ := z
      refine ⟨⟨o, e, ex.1⟩, fun a e2 => ?_⟩
      cases e2
      exact ⟨o, e, ex.2.1⟩
    · obtain ⟨o, _, _, _, e, ex, _⟩ := I.hok p _ hk
      refine ⟨⟨o, e, ex.1⟩, fun a e2 => ?_⟩
      cases e2
      exact ⟨o, e, ex.2.1⟩
  | _ => exact False.elim ty
def tBM0 (K : PySem.W.Frag) (T : String) (r : V → List V → Hp → VK → Prop) (to : TE) : TE := fun σ H Q => to σ H fun x H1 => tyV K T x H1 ∧ r x [] H1 Q
def tBM (K : PySem.W.Frag) (T : String) (r : V → List V → Hp → VK → Prop) (to : TE) (t : TA) : TE := fun σ H Q => to σ H fun x H1 => tyV K T x H1 ∧ t σ H1 fun xs H2 => r x xs H2 Q
variable {o e : Expr} {es : List Expr} {to : TE} {t : TA} {name : Str} {apos cpos : Pos} {T id : String} {r : V → List V → Hp → VK → Prop}
theorem pe_bm0 (pa : PlainAttrs T) (slot : Slot T name id) (hty : typeOf (.builtin id) = pure (.type "method_descriptor")) (hm : MtR X id r) (ho : PE X o to)
    (hbase : attributeBase o name X.env (eval o X.env) = eval o X.env := by rfl) (hline : (apos.endLine == cpos.line) = true := by rfl) : PE X (.Call (.Attribute o name apos) [] [] cpos) (tBM0 X.K T r to) := by
  intro pins s σ H Q I h
  refine wpAny_Call_method0_late hbase hline (thn (ho pins s σ H _ I h) fun v s1 ⟨x, H1, I1, r1, ty, q1⟩ => ?_)
  obtain ⟨h1, h2⟩ := tyV_is I1 r1 ty
  exact ⟨T, id, pa, slot, hty, h1, h2, Calls.callWith_builtin rfl (PySem.evalArgs_none (hm pins s1 σ H1 x [] v [] Q I1 r1 .nil q1))⟩
theorem pe_bm (pa : PlainAttrs T) (slot : Slot T name id) (hty : typeOf (.builtin id) = pure (.type "method_descriptor")) (hm : MtR X id r) (ho : PE X o to) (ha : PA X (e :: es) t)
    (hbase : attributeBase o name X.env (eval o X.env) = eval o X.env := by rfl)
    (hfew : ((backTo cpos (starEach (e :: es) X.env)).all (fun x => !x.1) && (backToKw cpos (keywordEach [] X.env)).all (fun x => x.1.isSome)
      && decide ((e :: es).length + ([] : List Keyword).length + (if ([] : List Keyword).isEmpty then 0 else 1) < 30)) = true := by rfl)
    (hline : (apos.endLine == cpos.line) = true := by rfl) (hs : starEach (e :: es) X.env = (false, eval e X.env) :: starEach es X.env := by rfl) (hplain : (backTo cpos (starEach es X.env)).any (·.1) = false := by rfl) :
    PE X (.Call (.Attribute o name apos) (e :: es) [] cpos) (tBM X.K T r to t) := by
  intro pins s σ H Q I h
  refine wpAny_Call_method_late hbase hfew hline rfl (thn (ho pins s σ H _ I h) fun v s1 ⟨x, H1, I1, r1, ty, q1⟩ => ?_)
  obtain ⟨h1, h2⟩ := tyV_is I1 r1 ty
  refine ⟨T, id, pa, slot, hty, h1, h2, ?_⟩
  have hA := ha cpos pins s1 σ H1 _ I1 q1
  rw [hs] at hA ⊢
  refine Calls.callWith_builtin (by show (false || (backTo cpos (starEach es X.env)).any (·.1)) = false; rw [hplain] <;> rfl) (Calls.evalArgs_plain ?_)
  exact thn hA fun us s2 ⟨vs, H2, I2, r2, q2⟩ => hm pins s2 σ H2 x vs v us Q I2 r1 r2 q2
end
end L2
namespace L2
open PySem PySem.Spec PyProof.Rows
def MtM (X : Cx) (id : String) (r : V → List V → Hp → VK → Prop) : Prop :=
  ∀ (pins : List (Addr × Obj)) (s : Shared) (σ : St) (H : Hp) (x : V) (xs : List V) (v : Value) (us : List Value) (Q : VK), Inv X pins σ H s → RelV x v → Vals xs us → r x xs H Q →
    wpAny (model X.prog X.w) X.A (call (.builtin id) (v :: us)) (EP X pins σ Q) X.xe s
theorem Vals.one : ∀ {x : V} {us : List Value}, Vals [x] us → ∃ u, us = [u] ∧ RelV x u
  | _, _, .cons r .nil => ⟨_, rfl, r⟩
theorem Vals.two : ∀ {x y : V} {us : List Value}, Vals [x, y] us → ∃ u v, us = [u, v] ∧ RelV x u ∧ RelV y v
  | _, _, _, .cons r (.cons q .nil) => ⟨_, _, rfl, r, q⟩
theorem Vals.zero : ∀ {us : List Value}, Vals [] us → us = []
  | _, .nil => rfl
theorem Vals.dropLast {xs : List V} {us : List Value} (h : Vals xs us) : Vals xs.dropLast us.dropLast := by
  induction h with
  | nil => exact .nil
  | cons r t ih =>
    cases t with
    | nil => exact .nil
    | cons q t' => exact .cons r ih
theorem Vals.eraseIdx : ∀ {xs : List V} {us : List Value} (i : Nat), Vals xs us → Vals (xs.eraseIdx i) (us.eraseIdx i)
  | _, _, _, .nil => .nil
  | _, _, 0, .cons _ t => t
  | _, _, i + 1, .cons r t => .cons r (Vals.eraseIdx i t)
theorem Vals.rep {xs : List V} {us : List Value} (h : Vals xs us) : ∀ k : Nat, Vals (List.replicate k xs).flatten (List.replicate k us).flatten
  | 0 => .nil
  | k + 1 => by
    rw [List.replicate_succ, List.replicate_succ, List.flatten_cons, List.flatten_cons]
    exact Vals.append h (Vals.rep h k)
theorem erase_last {α : Type} (l : List α) : l.eraseIdx (l.length - 1) = l.dropLast := by
  induction l with
  | nil => rfl
  | cons a r ih =>
    cases r with
    | nil => rfl
    | cons b r =>
      have e : (a :: b :: r).length - 1 = ((b :: r).length - 1) + 1 := by
        have h1 : (a :: b :: r).length = r.length + 2 := rfl
        have h2 : (b :: r).length = r.length + 1 := rfl
        omega
      rw [e, List.eraseIdx_cons_succ, ih]
      all_goals rfl
theorem foldl_rep (its : List Value) : ∀ (k : Nat) (acc : List Value),
    List.foldl (fun x1 x2 => x1 ++ x2) acc.toArray (List.replicate k its.toArray) = (acc ++ (List.replicate k its).flatten).toArray
  | 0, acc => by simp
  | k + 1, acc => by
    have e : acc.toArray ++ its.toArray = (acc ++ its).toArray := by simp
    have e2 : (acc ++ its) ++ (List.replicate k its).flatten = acc ++ (List.replicate (k + 1) its).flatten := by
      rw [List.replicate_succ, List.flatten_cons, List.append_assoc]
    rw [← e2, ← foldl_rep its k (acc ++ its), ← e, List.replicate_succ, List.foldl_cons]
section
variable {X : Cx} {pins : List (Addr × Obj)} {σ : St} {H : Hp} {s : Shared} {l b : Addr} {xs ys zs : List V}
theorem Inv.lset {its its' : List Value} {n : Nat} {f : Array Value → Array Value} {t' : Nat} (I : Inv X pins σ H s) (hH : H l = some (.lst xs))
    (e : s.heap.get? l = some { cls := .type "list", data := .seq its.toArray n }) (hf : f its.toArray = its'.toArray) (hv : Vals ys its') (hz : ys.length ≤ sizeLine) :
    Inv X pins σ (upd H l (.lst ys)) { s with heap := s.heap.update l (Obj.mapSeq f), toks := t' } := by
  have q := PySem.IsL.update e f
  rw [hf] at q
  refine I.write (x := l) (e := l) (by rw [hH]; exact trivial) (.inl rfl) (fun b' u hb hu => (Heap.get?_update_other s.heap (Obj.mapSeq f) (Ne.symm hb)).trans hu) ⟨_, q⟩ ?_
  exact ⟨hz, its', _, hv, q⟩
theorem Inv.lnew {its : List Value} {t' : Nat} (I : Inv X pins σ H s) (hv : Vals ys its) (hz : ys.length ≤ sizeLine) :
    Inv X pins σ (upd H s.heap.objs.size (.lst ys)) { s with heap := s.heap.push { cls := .type "list", data := .seq its.toArray }, toks := t' } :=
  I.laid (fun _ _ q => Heap.get?_push_of_some _ q) (Nat.le_refl _) ⟨hz, its, 0, hv, Heap.get?_push_size _ rfl⟩
theorem Inv.fresh (I : Inv X pins σ H s) : H s.heap.objs.size = none := I.hok.fresh (Nat.le_refl _)
theorem Inv.lstM (I : Inv X pins σ H s) (hH : H l = some (.lst xs)) : xs.length ≤ sizeLine ∧ ∃ (its : List Value) (n : Nat), Vals xs its ∧ xs.length = its.length ∧ s.heap.get? l = some { cls := .type "list", data := .seq its.toArray n } := by
  obtain ⟨z, its, n, r, e⟩ := I.hok l _ hH
  exact ⟨z, its, n, r, r.length, e⟩
theorem notLongL {n : Nat} (h : n ≤ sizeLine) : Builtin.List.listTooLong n = false := by
  unfold Builtin.List.listTooLong
  exact decide_eq_false (by omega)
end
section
variable {X : Cx}
def rAppend : V → List V → Hp → VK → Prop := fun x vs H Q => ∃ l xs y, x = .ref l ∧ vs = [y] ∧ H l = some (.lst xs) ∧ xs.length < sizeLine ∧ Q .non (upd H l (.lst (xs ++ [y])))
theorem mt_append : MtM X "list.append" rAppend := by
  intro pins s σ H x vs v us Q I rx rv h
  obtain ⟨l, xs, y, rfl, rfl, hH, hz, q⟩ := h
  cases rx
  obtain ⟨u, rfl, ru⟩ := rv.one
  obtain ⟨z, its, n, r, hl, e⟩ := I.lstM hH
  refine call_meets F.slot_list_append ⟨_, e, rfl⟩ F.entry_list_append (F.args_list_append_2 _ _) (PySem.list_append l its.toArray n u (by rw [List.size_toArray]; omega)) ⟨e, ?_⟩
  refine ⟨.non, _, I.lset (its' := its ++ [u]) hH e (by simp) (r.append (.cons ru .nil)) ?_, rfl, q⟩
  rw [List.length_append, List.length_singleton]
  omega
def rPop : V → List V → Hp → VK → Prop := fun x vs H Q => ∃ l xs y, x = .ref l ∧ vs = [] ∧ H l = some (.lst xs) ∧ xs[xs.length - 1]? = some y ∧ Q y (upd H l (.lst xs.dropLast))
theorem mt_pop : MtM X "list.pop" rPop := by
  intro pins s σ H x vs v us Q I rx rv h
  obtain ⟨l, xs, y, rfl, rfl, hH, hy, q⟩ := h
  cases rx
  have hus := rv.zero
  subst hus
  obtain ⟨z, its, n, r, hl, e⟩ := I.lstM hH
  obtain ⟨u, hu, ru⟩ := r.get hy
  have hy' : its.toArray[its.toArray.size - 1]? = some u := by
    show its.toArray[its.length - 1]? = some u
    rw [← Array.getElem?_toList, ← hl]
    exact hu
  refine call_meets F.slot_list_pop ⟨_, e, rfl⟩ F.entry_list_pop (F.args_list_pop_1 _) (MeetsSeq.list_pop_last l its.toArray n u hy' (by rw [List.size_toArray]; omega)) ⟨e, ?_⟩
  refine ⟨y, _, I.lset (its' := its.dropLast) hH e ?_ r.dropLast ?_, ru, q⟩
  · show its.toArray.eraseIdxIfInBounds (its.toArray.size - 1) = its.dropLast.toArray
    rw [List.size_toArray, List.eraseIdxIfInBounds_toArray, erase_last]
  · rw [List.length_dropLast]
    omega
def rCat : R2 := fun x y H Q => ∃ l b xs zs, x = .ref l ∧ y = .ref b ∧ H l = some (.lst xs) ∧ H b = some (.lst zs) ∧ xs.length + zs.length ≤ sizeLine ∧ ∀ p, H p = none → Q (.ref p) (upd H p (.lst (xs ++ zs)))
theorem op_cat : OpR X (binaryOp .Add) rCat := by
  intro pins s σ H x y v u Q I rx ry h
  obtain ⟨l, b, xs, zs, rfl, rfl, hH, hB, hz, q⟩ := h
  cases rx
  cases ry
  obtain ⟨z, its, n, r, hl, e⟩ := I.lstM hH
  obtain ⟨z2, its2, n2, r2, hl2, e2⟩ := I.lstM hB
  refine PySem.P.add_list e e2 ?_ (by rw [List.size_toArray, List.size_toArray]; omega)
  have ea : its.toArray ++ its2.toArray = (its ++ its2).toArray := by simp
  rw [ea]
  exact ⟨.ref _, _, I.lnew (t' := s.toks) (r.append r2) (by rw [List.length_append]; omega), rfl, q _ I.fresh⟩
def rRep : R2 := fun x y H Q => ∃ l k xs, x = .ref l ∧ y = .int k ∧ H l = some (.lst xs) ∧ -(2 ^ 63) ≤ k ∧ k < 2 ^ 63 ∧ xs.length * k.toNat ≤ sizeLine ∧
  ∀ p, H p = none → Q (.ref p) (upd H p (.lst (List.replicate k.toNat xs).flatten))
theorem len_rep {α : Type} (xs : List α) (k : Nat) : (List.replicate k xs).flatten.length = k * xs.length := by
  induction k with
  | zero => simp
  | succ k ih => rw [List.replicate_succ, List.flatten_cons, List.length_append, ih, Nat.succ_mul, Nat.add_comm]
theorem op_rep : OpR X (binaryOp .Mult) rRep := by
  intro pins s σ H x y v u Q I rx ry h
  obtain ⟨l, k, xs, rfl, rfl, hH, h1, h2, hz, q⟩ := h
  cases rx
  obtain ⟨t, rfl⟩ := ry
  obtain ⟨z, its, n, r, hl, e⟩ := I.lstM hH
  have hlen : its.toArray.size * k.toNat ≤ sizeLine := by rw [List.size_toArray, ← hl]; exact hz
  have hcap : ¬ its.toArray.size * k.toNat > (2 ^ 63 - 1) / 8 := by
    have : (sizeLine : Nat) ≤ (2 ^ 63 - 1) / 8 := by decide
    omega
  have hfit : ¬ (!Builtin.List.listFitsIndex k) = true := by
    rw [fitsIndex_both h1 h2]
    exact Bool.false_ne_true
  have hlong : ¬ Builtin.List.listTooLong (its.toArray.size * k.toNat) = true := by
    rw [notLongL hlen]
    exact Bool.false_ne_true
  have hnew : List.foldl (fun x1 x2 => x1 ++ x2) #[] (List.replicate (if its.toArray.isEmpty = true then 0 else k.toNat) its.toArray) = (List.replicate k.toNat its).flatten.toArray := by
    have f0 : ∀ m : Nat, List.foldl (fun x1 x2 => x1 ++ x2) #[] (List.replicate m its.toArray) = (List.replicate m its).flatten.toArray := fun m => by
      have := foldl_rep its m []
      rw [List.nil_append] at this
      exact this
    rw [f0]
    cases its with
    | nil => simp
    | cons a r' => rw [if_neg (by simp)]
  refine wpAny_binaryOp_repeat_ref (T := "list") (U := "int") (by decide) ⟨_, e, rfl⟩ (fun s' => typeIs_int s' k t) noFill_list_mul F.fills_int_mul F.slot_int_rmul repeat_list F.slot_int_index.lookup
    (call_meets F.slot_int_rmul (typeIs_int s k t) F.entry_int_rmul (F.args_int_rmul_2 _ _) (int___rmul___int_list k t l its.toArray n)
      ⟨e, rfl, ⟨_, e, rfl⟩, call_meets F.slot_list_mul ⟨_, e, rfl⟩ F.entry_list_mul (F.args_list_mul_2 _ _) (AutoListH.list___mul___list_int_3 l its.toArray n k t hfit hcap hlong) ⟨e, ?_⟩⟩)
  rw [hnew]
  exact ⟨.ref _, _, I.lnew (t' := s.toks) (r.rep k.toNat) (by rw [len_rep, Nat.mul_comm]; exact hz), rfl, q _ I.fresh⟩
end
end L2
namespace Att
open PySem PySem.W PySem.Calls PyProof.Rows
theorem ints_of_wellAll {P : Params} {h : Heap} : ∀ (ns : List Int) (vs : List Value), WellAll P h vs (ns.map WData.int) → IntsAre vs ns := by
  intro ns
  induction ns with
  | nil =>
    intro vs w
    rw [List.map_nil] at w
    cases w
    exact .nil
  | cons n ns ih =>
    intro vs w
    rw [List.map_cons] at w
    cases w with
    | cons a b =>
      cases a
      exact .cons _ _ (ih _ b)
theorem script_of {l : OpenLaw} {n : Nat} (hn : l.most = some n) {P : Params} {h : Heap} {args : List WData} {vals : List Value}
    (hpre : l.row.toRowW.claim.pre args = true) (hwl : WellAll P h vals args) :
    ∃ a vs ns, vals = [Value.ref a] ∧ args = [WData.list (ns.map WData.int)] ∧ h.get? a = some { cls := .type "list", data := .seq vs.toArray } ∧ IntsAre vs ns ∧ ns.length ≤ n := by
  have hsh : WShape.hasAll [] args [.list .int] = true := (pre_splitW hpre).1
  have hc : l.pre.holds [] { args := args } = true := (pre_splitW hpre).2
  obtain ⟨d, r, rfl, h1, h2⟩ := hasAllW_cons hsh
  obtain rfl := hasAllW_nil h2
  obtain ⟨xs, rfl, h3⟩ := hasW_list h1
  obtain ⟨ns, rfl⟩ := items_int h3
  have hlen : ns.length ≤ n := by
    unfold OpenLaw.pre at hc
    have h4 : (WTm.not (.lt (.lit (.int (n : Int))) (.len (.arg 0)))).holds [] { args := [.list (ns.map .int)] } = true := by
      have h4 := (holds_andW hc).1
      rw [hn] at h4
      exact h4
    have h5 := condW_of h4 (w_not (w_lt w_lit (w_len_list (w_arg rfl))))
    rw [List.length_map] at h5
    refine Nat.le_of_not_lt fun q => ?_
    have q' : (n : Int) < ((ns.length : Nat) : Int) := by omega
    first
      | (rw [decide_eq_true q'] at h5; exact absurd h5 (by decide))
      | (simp at h5; omega)
  cases hwl with
  | cons w1 w2 =>
    cases w2
    cases w1 with
    | list ho hall => exact ⟨_, _, ns, rfl, rfl, ho, ints_of_wellAll ns _ hall, hlen⟩
theorem post_true (l : OpenLaw) (args : List WData) : l.row.toRowW.claim.post args (.bool true) args = true :=
  postW_of (r := l.row.toRowW) (X := (true == true))
    (show WShape.has [] (.bool true) .bool = true by first | rfl | decide | simp [WShape.has, WShape.arms, WShape.armsAll])
    (show (WTm.eq .res (.lit (.bool true))).value [] { args := args, res := some (.bool true), after := args } = some (.bool (true == true)) from w_eq_bool (w_res rfl) w_lit) rfl
theorem attach_call {l : OpenLaw} {n : Nat} {q : Program} {loose : List Str} {XP : (Str → Option Value) → Heap → Prop} {YP : World → Heap → Prop} {d : DefRec}
    (hn : l.most = some n) (hdf : d.params.defaults = [])
    (call : ∀ (w : World) (s₀ s₁ : Shared) (mg mb : Str → Option Value) (fa : Addr) (o : Obj) (pm cd doc : Value) (a : Addr) (vs : List Value) (ns : List Int),
      Ground q loose [] XP w s₀ mg mb s₁.heap → YP w s₁.heap →
      s₁.heap.get? fa = some o → o.data = .func (docDef d.name d.params d.body d.scope pm cd doc) → s₁.heap.CodeRec cd d.name → mg d.name = some (.ref fa) →
      s₁.heap.get? a = some { cls := .type "list", data := .seq vs.toArray } → IntsAre vs ns → ns.length ≤ n → s₁.gens = #[] →
      codeAny (model l.prog w) callerA (.call (.ref fa) ⟨[.ref a], []⟩) (fun r s' => r = .ok (.ret (.bool true)) ∧ OldK s₁.heap s'.heap ∧ s'.os = s₁.os ∧ AllBare s'.gens) s₁) :
    WalkO q loose XP YP l.row.toRowW d [] (fun f vs => PySem.call f vs) := by
  intro w s₀ s₁ mg mb G Y fa o pm cd doc dV kV ho hd hcd hD hmg hg args vals as hpre hlay hrd hwl hlo
  obtain rfl : dV = .none := Dflts.none hD hdf
  obtain rfl : kV = .none := Dflts.noKw hD
  obtain ⟨a, vs, ns, rfl, rfl, hobj, hints, hlen⟩ := script_of hn hpre hwl
  refine enter_call (codeAny_mono (call w s₀ s₁ mg mb fa o pm cd doc a vs ns G Y ho (fd_plain hd) hcd hmg hobj hints hlen hg) fun r s' hq => ?_)
  obtain ⟨rfl, h2, h3, h4⟩ := hq
  exact ⟨.inl ⟨.bool true, .bool true, [], rfl, fun _ => rfl, .bool true, post_true l _, fun _ => ⟨List.Pairwise.nil, fun _ hm => (nomatch hm)⟩⟩, h2, h3, h4⟩
end Att
namespace L2
open PySem PySem.Spec PyProof.Rows
theorem vals_ints : ∀ {vs : List Value} {ns : List Int}, IntsAre vs ns → Vals (ns.map V.int) vs
  | _, _, .nil => .nil
  | _, _, .cons n t h => .cons ⟨t, rfl⟩ (vals_ints h)
def Only (H : Hp) : Prop := ∀ b, H b = none ∨ ∃ o xs, H b = some (.frz o (.lst xs))
theorem law_call {P : Program} {w : World} {K : PySem.W.Frag} {mg mb : Str → Option Value} {CX : CXT} {k : Nat} {fa a : Addr} {fd : FuncData} {x : Str} {sp : Sp} {s₁ : Shared} {vs : List Value} {ns : List Int}
    (KX : K.In s₁.heap) (hns : s₁.heap.Ns mainGlobals mg) (hb : s₁.heap.Ns builtinsNs mb) (hbb : ∀ x : Str, x ≠ "__name__" → mb x = bootBuiltins x) (hlim : s₁.heap.NoLimit) (hg : s₁.gens = #[])
    (ha : s₁.heap.get? a = some { cls := .type "list", data := .seq vs.toArray }) (hi : IntsAre vs ns) (hl : ns.length ≤ sizeLine) (hr : Room k callerA)
    (F : ∀ base : Heap, K.In base → base.Ns mainGlobals mg → FnOk P w K mg base CX k fa fd [x] sp) (hbind : ∀ (s : Shared) (u : Value), BindsTo s fd ⟨[u], []⟩ [(x, u)])
    (hsp : ∀ H : Hp, Only H → SqL K H a (ns.map V.int) → sp [.ref a] H (fun v _ => v = .bl true) fun _ _ _ => False)
    (hCX : ∀ H e s', CX [] H s₁ (fun _ _ _ => False) e s' → False) :
    codeAny (model P w) callerA (.call (.ref fa) ⟨[.ref a], []⟩) (fun r s' => r = .ok (.ret (.bool true)) ∧ OldK s₁.heap s'.heap ∧ s'.os = s₁.os ∧ AllBare s'.gens) s₁ := by
  have rv := vals_ints hi
  have lenV := hi.length
  -- from an abstract heap in which nothing but the script may be tracked
  have core : ∀ H : Hp, Only H → SqL K H a (ns.map V.int) → HOk P w H s₁.heap → (∀ b, H b ≠ none → b = a) → (H a ≠ none → K.lookup a = none) →
      codeAny (model P w) callerA (.call (.ref fa) ⟨[.ref a], []⟩) (fun r s' => r = .ok (.ret (.bool true)) ∧ OldK s₁.heap s'.heap ∧ s'.os = s₁.os ∧ AllBare s'.gens) s₁ := by
    intro H hO hS hok hA hK
    have base_of : ∀ {b : Addr} {o : Obj}, s₁.heap.get? b = some o → H b = none → (hidT s₁.heap H).get? b = some o := fun e n => hidT_get e n
    have noA : ∀ {b : Addr} {o : Obj} {es : Array DictEntry} {ep : Nat}, s₁.heap.get? b = some o → o.data = .dict es ep → H b = none := fun {b o es ep} e d => by
      cases q : H b with
      | none => rfl
      | some u =>
        have e' : b = a := hA b (by rw [q]; simp)
        subst e'
        rw [ha] at e; cases e
        have d' : Data.seq vs.toArray _ = Data.dict es ep := d
        cases d'
    have nsK : ∀ {b : Addr} {m : Str → Option Value}, s₁.heap.Ns b m → (hidT s₁.heap H).Ns b m := fun {b m} ⟨o, es, ep, e, d, r⟩ => ⟨o, es, ep, base_of e (noA e d), d, r⟩
    have hKb : K.In (hidT s₁.heap H) := fun b o e => base_of (KX b o e) (by
      cases q : H b with
      | none => rfl
      | some u =>
        have e' : b = a := hA b (by rw [q]; simp)
        subst e'
        rw [hK (by rw [q]; simp)] at e; cases e)
    have hM : Mod K mg (hidT s₁.heap H) := ⟨hKb, nsK hns, ⟨mb, nsK hb, hbb⟩, let ⟨mc, h1, h2⟩ := hlim; ⟨mc, nsK h1, h2⟩⟩
    have e0 : Env0 P w K mg (hidT s₁.heap H) callerA [] s₁ H := ⟨rfl, hM, fun b o e => of_hidT e, Nat.le_of_eq (hidT_size _ _), trivial, fun b hb => absurd (show b ∈ ([] : List Addr) from hb) (by simp), hok, .of_eq hg⟩
    refine codeAny_mono ((F _ hKb (nsK hns)).run callerA [] s₁ H ⟨[.ref a], []⟩ [.ref a] [.ref a] _ _ hr e0 (hbind s₁ (.ref a)) (.cons rfl .nil) (hsp H hO hS)) fun r s' h => ?_
    cases r with
    | error e => exact (hCX H e s' h).elim
    | ok fl =>
      cases fl with
      | next => exact False.elim h
      | brk => exact False.elim h
      | cont => exact False.elim h
      | ret u =>
        obtain ⟨v, H', os, bare, un, hok', r', q⟩ := h
        have q' : v = .bl true := q
        subst q'
        obtain rfl : u = Value.bool true := r'
        refine ⟨rfl, OldK.of_keep fun b o e => ?_, os, bare⟩
        cases q : H b with
        | none => exact un.keep b o e q (by intro z; exact absurd (show b ∈ ([] : List Addr) from z) (by simp)) (by simp)
        | some u =>
          rcases hO b with z | ⟨ob, xs, z⟩
          · rw [q] at z; cases z
          · have z2 := un.frzs b ob _ z
            obtain ⟨e1, _⟩ := hok b _ z
            obtain ⟨e2, _⟩ := hok' b _ z2
            rw [e] at e1; cases e1
            exact e2
  cases hk : K.lookup a with
  | some o =>
    -- the script is one of the module's own objects
    have e := KX a o hk
    rw [ha] at e
    cases e
    refine core (fun _ => none) (fun _ => .inl rfl) (.inr ⟨_, vs.toArray, _, hk, rfl, rfl, rfl, by rw [List.size_toArray, lenV]; exact hl, by simpa using rv⟩) (fun b u z => by have z' : (none : Option HO) = some u := z; cases z') (fun b z => absurd rfl z) fun z => absurd rfl z
  | none =>
    refine core (fun b => if b = a then some (.frz { cls := .type "list", data := .seq vs.toArray } (.lst (ns.map V.int))) else none) (fun b => ?_) (.inl (.inr ⟨{ cls := .type "list", data := .seq vs.toArray }, if_pos rfl⟩)) (fun b u z => ?_) (fun b z => ?_) fun _ => hk
    · by_cases hb : b = a
      · exact .inr ⟨_, _, if_pos hb⟩
      · exact .inl (if_neg hb)
    · by_cases hb : b = a
      · have z' := (if_pos hb).symm.trans z
        cases z'
        subst hb
        exact ⟨ha, by rw [List.length_map]; exact hl, vs, _, rv, ha⟩
      · have z' := (if_neg hb).symm.trans z
        cases z'
    · by_cases hb : b = a
      · exact hb
      · exact absurd (if_neg hb) z
end L2
namespace L2
open PySem PySem.Spec PyProof.Rows
theorem walk_of {l : PySem.W.OpenLaw} {n k : Nat} {q : Program} {loose : List Str} {XP : (Str → Option Value) → Heap → Prop} {YP : World → Heap → Prop} {d : DefRec} {K : Params → PySem.W.Frag} {CX : World → CXT} {sp : World → Sp} {x : Str}
    (hn : l.most = some n) (hn2 : n ≤ sizeLine) (hdf : d.params.defaults = []) (hr : Room k callerA)
    (hY : ∀ (w : World) (h : Heap), YP w h → (K w.params).In h)
    (F : ∀ (w : World) (mg : Str → Option Value) (fa : Addr) (h : Heap), (K w.params).In h → h.Ns mainGlobals mg → mg d.name = some (.ref fa) →
      ∃ fd : FuncData, (∀ (s : Shared) (u : Value), BindsTo s fd ⟨[u], []⟩ [(x, u)]) ∧
        ∀ base : Heap, (K w.params).In base → base.Ns mainGlobals mg → FnOk l.prog w (K w.params) mg base (CX w) k fa fd [x] (sp w))
    (hsp : ∀ (w : World) (H : Hp) (a : Addr) (ns : List Int), ns.length ≤ n → Only H → SqL (K w.params) H a (ns.map V.int) → sp w [.ref a] H (fun v _ => v = .bl true) fun _ _ _ => False)
    (hCX : ∀ (w : World) (H : Hp) (s : Shared) (e : Value) (s' : Shared), CX w [] H s (fun _ _ _ => False) e s' → False) :
    PySem.W.WalkO q loose XP YP l.row.toRowW d [] (fun f vs => PySem.call f vs) := by
  refine Att.attach_call hn hdf fun w s₀ s₁ mg mb fa o pm cd doc a vs ns G Y ho hd hcd hmg hobj hints hlen hg => ?_
  have KX := hY w _ Y
  obtain ⟨fd, hb, hF⟩ := F w mg fa _ KX G.T.g hmg
  exact law_call KX G.T.g G.T.b G.T.builtins G.T.nolimit hg hobj hints (Nat.le_trans hlen hn2) hr hF hb (fun H hO hS => hsp w H a ns hlen hO hS) fun H e s' => hCX w H s₁ e s'
end L2
namespace L2
open PySem PySem.Spec PyProof.Rows
def inClass (s : Stmt) (j : Nat) : Stmt := match s with
  | .ClassDef _ _ _ body _ _ _ _ _ _ _ => body.getD j (.Pass ⟨0, 0, 0, 0⟩)
  | _ => .Pass ⟨0, 0, 0, 0⟩
def defArgs (s : Stmt) : Arguments := match s with
  | .FunctionDef _ a _ _ _ _ _ _ _ _ => a
  | _ => { posonlyargs := [], args := [], vararg := none, kwonlyargs := [], kw_defaults := [], kwarg := none, defaults := [] }
def defBody (s : Stmt) : List Stmt := match s with
  | .FunctionDef _ _ b _ _ _ _ _ _ _ => b
  | _ => []
def defScope (s : Stmt) : Scope := match s with
  | .FunctionDef _ _ _ _ _ _ sc _ _ _ => sc
  | _ => { kind := .function, names := [], isGenerator := false, isCoroutine := false }
abbrev CX0 : CXT := fun _ _ _ _ _ _ => False
abbrev E0 : XK := fun _ _ _ => False
theorem pass0 {X : Cx} : Passes CX0 X E0 := fun _ _ _ _ _ _ _ h => h.elim
structure Fun (K : PySem.W.Frag) (x qual : Str) (st : Stmt) (f : Addr) (fd : FuncData) : Prop where
  ex : ∃ (oc : Value) (od : Option Addr) (kV doc pm : Value) (an : Option Addr) (cdv ct : Value) (osl : Array (Option Value)),
    fd = PySem.W.fnOf x qual (defArgs st) (defBody st) (defScope st) .none kV doc pm an cdv ct ∧ K.lookup f = some ⟨oc, od, .func fd, osl⟩ ∧ PySem.W.codeIn K cdv qual = true
  kp : PySem.W.keepIn K (.ref f) = true
section
variable {P : Program} {w : World} {K : PySem.W.Frag} {mg : Str → Option Value} {base : Heap}
theorem Fun.ok {x qual : Str} {st : Stmt} {f : Addr} {fd : FuncData} {N ps : List Str} {k : Nat} {sp : Sp} (F : Fun K x qual st f fd) (S : FnScope N ps (defScope st)) (len : ∀ vs H Q E, sp vs H Q E → vs.length = ps.length)
    (hbody : ∀ (cdv : Value) (A : Around) (outer : List Env) (s : Shared) (H : Hp) (vs : List V) (Q : VK) (E : XK), Room k (A.deeper (envOfC qual (defScope st) s.heap.objs.size f cdv)) → sp vs H Q E →
      ∃ t, PSs (cxOf CX0 P w K mg base N qual (defScope st) f cdv A outer s H E).nox (defBody st) t ∧ t { nx := fun _ H' => Q .non H', rt := Q } (start N vs) H) : FnOk P w K mg base CX0 (k + 1) f fd ps sp := by
  obtain ⟨oc, od, kV, doc, pm, an, cdv, ct, osl, rfl, lk, hcd⟩ := F.ex
  refine fn_of lk hcd S len fun A outer s H vs Q E hr hsp => ?_
  obtain ⟨t, h, q⟩ := hbody cdv A outer s H vs Q E hr hsp
  exact ⟨t, h.nox, q⟩
theorem Fun.binds {x qual : Str} {st : Stmt} {f : Addr} {fd : FuncData} {ps : List Str} (F : Fun K x qual st f fd)
    (h : ∀ (kV doc pm : Value) (an : Option Addr) (cdv ct : Value) (us : List Value), us.length = ps.length → bindArgs (PySem.W.fnOf x qual (defArgs st) (defBody st) (defScope st) .none kV doc pm an cdv ct) ⟨us, []⟩ = pure (ps.zip us)) : Binds K fd ps [] := by
  obtain ⟨oc, od, kV, doc, pm, an, cdv, ct, osl, rfl, lk, hcd⟩ := F.ex
  exact .all (h kV doc pm an cdv ct)
theorem fun_mk {x qual : Str} {st : Stmt} {f : Addr} {oc : Value} {od an : Option Addr} {osl : Array (Option Value)} {kV doc pm cdv ct : Value} (l : K.lookup f = some ⟨oc, od, .func (PySem.W.fnOf x qual (defArgs st) (defBody st) (defScope st) .none kV doc pm an cdv ct), osl⟩)
    (c : PySem.W.codeIn K cdv qual = true) (k : PySem.W.keepIn K (.ref f) = true) : Fun K x qual st f (PySem.W.fnOf x qual (defArgs st) (defBody st) (defScope st) .none kV doc pm an cdv ct) := ⟨⟨oc, od, kV, doc, pm, an, cdv, ct, osl, rfl, l, c⟩, k⟩
end
theorem hu_of {A : Around} {k : Nat} (hr : Room k A) : A.units + 1 < cLine := Nat.lt_of_le_of_lt (Nat.add_le_add_left (by decide : 1 ≤ 64) _) hr.units
section
variable {X : Cx}
theorem pv (i : Nat) {x : Str} {pos : Pos} (hN : X.N[i]? = some x := by rfl) (hv : Vis X.env.scope x := by first | exact Or.inl rfl | exact Or.inr (Or.inl rfl) | exact Or.inr (Or.inr rfl)) (hd : (x == ("__debug__" : Str)) = false := by decide)
    (hcd : (x == ("__classdict__" : Str)) = false := by decide) : PE X (.Name x pos) (tVar i) := pe_var hN hv hd hcd
theorem call_lenD : CallR X (.builtin "len") (fun xs H Q => ∃ a kvs, xs = [V.ref a] ∧ H a = some (.dK kvs) ∧ Q (.int kvs.length) H) := by
  intro pins s σ H xs us Q I r h
  obtain ⟨a, kvs, rfl, ha, q⟩ := h
  obtain ⟨u, rfl, ru⟩ := vals1 r
  cases ru
  exact d_len I (.inl ha) fun t s' I' => ⟨.int kvs.length, H, I', ⟨t, rfl⟩, q⟩
end
theorem iteF {A B : Prop} (h : B) : if false = true then A else B := by
  rw [if_neg Bool.false_ne_true]
  exact h
theorem iteT {A B : Prop} (h : A) : if true = true then A else B := by
  rw [if_pos rfl]
  exact h
theorem ite2 {c A B : Prop} [Decidable c] (h1 : c → A) (h2 : ¬ c → B) : if c then A else B := by
  by_cases h : c
  · rw [if_pos h]
    exact h1 h
  · rw [if_neg h]
    exact h2 h
def Same (H H' : Hp) : Prop := ∀ b o, H b = some o → H' b = some o
theorem Same.refl (H : Hp) : Same H H := fun _ _ h => h
theorem Same.trans {H H1 H2 : Hp} (a : Same H H1) (b : Same H1 H2) : Same H H2 := fun c o h => b c o (a c o h)
theorem Same.free {H H' : Hp} (e : Same H H') {l : Addr} (h : H' l = Option.none) : H l = Option.none := by
  cases q : H l with
  | none => rfl
  | some o =>
    rw [e l o q] at h
    cases h
theorem Same.seq {K : PySem.W.Frag} {H H' : Hp} {a : Addr} {xs : List V} (e : Same H H') (h : SqL K H a xs) : SqL K H' a xs := by
  rcases h with (h | ⟨o, h⟩) | h
  · exact .inl (.inl (e _ _ h))
  · exact .inl (.inr ⟨o, e _ _ h⟩)
  · exact .inr h
end L2
set_option linter.all false
namespace Fs
abbrev Pr := List Nat
theorem rise_ext {α : Type} {r : α → α → Prop} (irr : ∀ a, ¬ r a a) (asym : ∀ a b, r a b → ¬ r b a) : ∀ {l m : List α}, l.Pairwise r → m.Pairwise r → (∀ x, x ∈ l ↔ x ∈ m) → l = m
  | [], [], _, _, _ => rfl
  | [], b :: m, _, _, h => by have := (h b).mpr List.mem_cons_self; cases this
  | a :: l, [], _, _, h => by have := (h a).mp List.mem_cons_self; cases this
  | a :: l, b :: m, hl, hm, h => by
    have hl' := List.pairwise_cons.mp hl
    have hm' := List.pairwise_cons.mp hm
    have ab : a = b := by
      rcases List.mem_cons.mp ((h a).mp List.mem_cons_self) with e | e
      · exact e
      · rcases List.mem_cons.mp ((h b).mpr List.mem_cons_self) with e' | e'
        · exact e'.symm
        · exact absurd (hm'.1 a e) (asym _ _ (hl'.1 b e'))
    subst ab
    have : l = m := rise_ext irr asym hl'.2 hm'.2 fun x => by
      constructor
      · intro hx
        rcases List.mem_cons.mp ((h x).mp (List.mem_cons_of_mem _ hx)) with e | e
        · subst e; exact absurd (hl'.1 x hx) (irr x)
        · exact e
      · intro hx
        rcases List.mem_cons.mp ((h x).mpr (List.mem_cons_of_mem _ hx)) with e | e
        · subst e; exact absurd (hm'.1 x hx) (irr x)
        · exact e
    rw [this]
theorem plt_irr (a : Pr) : ¬ a < a := List.lt_irrefl a
theorem plt_asym (a b : Pr) (h : a < b) : ¬ b < a := fun h' => plt_irr a (List.lt_trans h h')
structure Vf (F : List Pr) : Prop where
  rise : F.Pairwise (· < ·)
  prod : ∀ p ∈ F, p.Pairwise (· < ·)
theorem rise_nodup {α : Type} {r : α → α → Prop} (irr : ∀ a, ¬ r a a) : ∀ {l : List α}, l.Pairwise r → l.Nodup := fun {l} h => h.imp fun {a b} hab e => by subst e; exact irr _ hab
theorem Vf.nodup {F : List Pr} (h : Vf F) : F.Nodup := rise_nodup plt_irr h.rise
theorem Vf.ext {F G : List Pr} (hF : Vf F) (hG : Vf G) (h : ∀ p, p ∈ F ↔ p ∈ G) : F = G := rise_ext plt_irr plt_asym hF.rise hG.rise h
def worth (ρ : Nat → Bool) : List Pr → Bool
  | [] => false
  | p :: F => xor (p.all ρ) (worth ρ F)
theorem worth_append (ρ : Nat → Bool) : ∀ F G : List Pr, worth ρ (F ++ G) = xor (worth ρ F) (worth ρ G)
  | [], G => by simp [worth]
  | p :: F, G => by
    show xor (p.all ρ) (worth ρ (F ++ G)) = _
    rw [worth_append ρ F G]
    show _ = xor (xor (p.all ρ) (worth ρ F)) (worth ρ G)
    rw [Bool.xor_assoc]
theorem worth_perm (ρ : Nat → Bool) {F G : List Pr} (h : F.Perm G) : worth ρ F = worth ρ G := by
  induction h with
  | nil => rfl
  | cons x _ ih => show xor _ _ = xor _ _; rw [ih]
  | swap x y l => show xor _ (xor _ _) = xor _ (xor _ _); rw [← Bool.xor_assoc, ← Bool.xor_assoc, Bool.xor_comm (y.all ρ)]
  | trans _ _ a b => exact a.trans b
theorem worth_split (ρ : Nat → Bool) (q : Pr → Bool) : ∀ F : List Pr, worth ρ F = xor (worth ρ (F.filter q)) (worth ρ (F.filter fun p => !q p))
  | [] => rfl
  | p :: F => by
    have ih := worth_split ρ q F
    cases h : q p with
    | true =>
      rw [List.filter_cons_of_pos h, List.filter_cons_of_neg (by simp [h])]
      show xor _ _ = xor (xor _ _) _
      rw [ih, Bool.xor_assoc]
    | false =>
      rw [List.filter_cons_of_neg (by simp [h]), List.filter_cons_of_pos (by simp [h])]
      show xor _ _ = xor _ (xor _ _)
      rw [ih]
      cases p.all ρ <;> cases worth ρ (F.filter q) <;> cases worth ρ (F.filter fun p => !q p) <;> rfl
def diff (F G : List Pr) : List Pr := F.filter (fun p => !G.contains p) ++ G.filter (fun p => !F.contains p)
theorem mem_diff {F G : List Pr} {p : Pr} : p ∈ diff F G ↔ ((p ∈ F ∧ p ∉ G) ∨ (p ∈ G ∧ p ∉ F)) := by
  simp [diff, List.mem_append, List.mem_filter]
theorem worth_diff (ρ : Nat → Bool) {F G : List Pr} (hF : F.Nodup) (hG : G.Nodup) : worth ρ (diff F G) = xor (worth ρ F) (worth ρ G) := by
  have e1 := worth_split ρ (fun p => G.contains p) F
  have e2 := worth_split ρ (fun p => F.contains p) G
  have e3 : worth ρ (F.filter fun p => G.contains p) = worth ρ (G.filter fun p => F.contains p) := by
    refine worth_perm ρ ?_
    rw [List.perm_ext_iff_of_nodup (hF.filter _) (hG.filter _)]
    intro p
    simp only [List.mem_filter, List.contains_iff_mem]
    exact ⟨fun ⟨a, b⟩ => ⟨b, a⟩, fun ⟨a, b⟩ => ⟨b, a⟩⟩
  rw [diff, worth_append, e1, e2, e3]
  cases worth ρ (G.filter fun p => F.contains p) <;> cases worth ρ (F.filter fun p => !G.contains p) <;> cases worth ρ (G.filter fun p => !F.contains p) <;> rfl
theorem diff_nodup {F G : List Pr} (hF : F.Nodup) (hG : G.Nodup) : (diff F G).Nodup := by
  refine List.nodup_append.mpr ⟨hF.filter _, hG.filter _, ?_⟩
  intro a ha b hb e
  subst e
  simp [List.mem_filter] at ha hb
  exact hb.2 ha.1
theorem nodup_len {α : Type} [DecidableEq α] : ∀ {l m : List α}, l.Nodup → (∀ x ∈ l, x ∈ m) → l.length ≤ m.length
  | [], _, _, _ => Nat.zero_le _
  | a :: l, m, nd, h => by
    have nd' := List.nodup_cons.mp nd
    have ha : a ∈ m := h a List.mem_cons_self
    have := nodup_len (l := l) (m := m.erase a) nd'.2 fun x hx => (List.mem_erase_of_ne (fun (e : x = a) => nd'.1 (by rw [← e]; exact hx))).mpr (h x (List.mem_cons_of_mem _ hx))
    rw [List.length_erase_of_mem ha] at this
    have : 0 < m.length := List.length_pos_of_mem ha
    rw [List.length_cons]; omega
theorem rising_sub {p q : Pr} (hp : p.Pairwise (· < ·)) (hq : q.Pairwise (· < ·)) (h : ∀ x ∈ q, x ∈ p) (hl : p.length ≤ q.length) : q = p := by
  have nd : q.Nodup := rise_nodup Nat.lt_irrefl hq
  refine rise_ext (r := (· < ·)) Nat.lt_irrefl (fun a b => Nat.lt_asymm) hq hp fun x => ⟨h x, fun hx => ?_⟩
  exact Classical.byContradiction fun hn => by
    have hsub : (x :: q).length ≤ p.length := by
      have nd2 : (x :: q).Nodup := List.nodup_cons.mpr ⟨hn, nd⟩
      exact nodup_len nd2 (by intro y hy; rcases List.mem_cons.mp hy with e | e; exact e ▸ hx; exact h y e)
    simp at hsub
    omega
theorem least_of : ∀ (D : List Pr), D ≠ [] → ∃ p ∈ D, ∀ q ∈ D, p.length ≤ q.length
  | [p], _ => ⟨p, List.mem_cons_self, fun q hq => by simp at hq; rw [hq]; exact Nat.le_refl _⟩
  | p :: r :: D, _ => by
    obtain ⟨m, hm, h⟩ := least_of (r :: D) (by simp)
    by_cases hpm : p.length ≤ m.length
    · exact ⟨p, List.mem_cons_self, fun q hq => by
        rcases List.mem_cons.mp hq with e | e
        · rw [e]; exact Nat.le_refl _
        · exact Nat.le_trans hpm (h q e)⟩
    · exact ⟨m, List.mem_cons_of_mem _ hm, fun q hq => by
        rcases List.mem_cons.mp hq with e | e
        · rw [e]; omega
        · exact h q e⟩
theorem worth_one (ρ : Nat → Bool) {p : Pr} : ∀ {D : List Pr}, D.Nodup → p ∈ D → (∀ q ∈ D, q.all ρ = true ↔ q = p) → worth ρ D = true
  | q :: D, nd, hp, h => by
    have nd' := List.nodup_cons.mp nd
    have rest : ∀ (E : List Pr), (∀ q ∈ E, q.all ρ = true ↔ q = p) → p ∉ E → worth ρ E = false := by
      intro E
      induction E with
      | nil => intro _ _; rfl
      | cons r E ih =>
        intro hE hp'
        have hr : r.all ρ = false := by
          cases hb : r.all ρ with
          | false => rfl
          | true => exact absurd ((hE r List.mem_cons_self).mp hb) (fun e => hp' (e ▸ List.mem_cons_self))
        show xor (r.all ρ) (worth ρ E) = false
        rw [hr, ih (fun q hq => hE q (List.mem_cons_of_mem _ hq)) (fun e => hp' (List.mem_cons_of_mem _ e))]
        rfl
    show xor (q.all ρ) (worth ρ D) = true
    rcases List.mem_cons.mp hp with e | e
    · subst e
      rw [(h p List.mem_cons_self).mpr rfl, rest D (fun q hq => h q (List.mem_cons_of_mem _ hq)) nd'.1]
      rfl
    · have hq : q.all ρ = false := by
        cases hb : q.all ρ with
        | false => rfl
        | true => exact absurd ((h q List.mem_cons_self).mp hb) (fun e' => nd'.1 (e' ▸ e))
      rw [hq, worth_one ρ nd'.2 e fun q hq => h q (List.mem_cons_of_mem _ hq)]
      rfl
theorem Vf.only {F G : List Pr} (hF : Vf F) (hG : Vf G) (h : ∀ ρ, worth ρ F = worth ρ G) : F = G := by
  by_cases hd : diff F G = []
  · refine hF.ext hG fun p => ?_
    have : ¬ p ∈ diff F G := by rw [hd]; simp
    rw [mem_diff] at this
    constructor
    · intro hp; exact Classical.byContradiction fun hn => this (.inl ⟨hp, hn⟩)
    · intro hp; exact Classical.byContradiction fun hn => this (.inr ⟨hp, hn⟩)
  · obtain ⟨p, hp, hl⟩ := least_of _ hd
    have ris : ∀ q ∈ diff F G, q.Pairwise (· < ·) := fun q hq => by
      rcases mem_diff.mp hq with ⟨a, _⟩ | ⟨a, _⟩
      · exact hF.prod q a
      · exact hG.prod q a
    have w := worth_one (fun x => p.contains x) (diff_nodup hF.nodup hG.nodup) hp fun q hq => by
      constructor
      · intro ha
        refine rising_sub (ris p hp) (ris q hq) (fun x hx => ?_) (hl q hq)
        have := List.all_eq_true.mp ha x hx
        simpa using this
      · intro e
        subst e
        exact List.all_eq_true.mpr fun x hx => by simpa using hx
    rw [worth_diff _ hF.nodup hG.nodup, h] at w
    simp at w
def prods : List Nat → List Pr
  | [] => [[]]
  | l :: ls => prods ls ++ (prods ls).map (l :: ·)
theorem prods_length : ∀ ls : List Nat, (prods ls).length = 2 ^ ls.length
  | [] => rfl
  | l :: ls => by rw [prods, List.length_append, List.length_map, prods_length ls, List.length_cons, Nat.pow_succ]; omega
theorem mem_prods : ∀ {ls : List Nat} {p : Pr}, p ∈ prods ls ↔ p.Sublist ls
  | [], p => by simp [prods]
  | l :: ls, p => by
    rw [prods, List.mem_append, List.mem_map]
    constructor
    · rintro (h | ⟨q, h, rfl⟩)
      · exact (mem_prods.mp h).cons _
      · exact (mem_prods.mp h).cons₂ _
    · intro h
      cases h with
      | cons _ h => exact .inl (mem_prods.mpr h)
      | cons_cons _ h => exact .inr ⟨_, mem_prods.mpr h, rfl⟩
def look (ρ : Nat → Bool) : List Nat → List Bool → Bool
  | [], t => t.headD false
  | l :: ls, t => if ρ l = true then look ρ ls (t.drop (2 ^ ls.length)) else look ρ ls (t.take (2 ^ ls.length))
theorem plt_total {a b : Pr} (h1 : ¬ a < b) (h2 : ¬ b < a) : a = b := List.le_antisymm (List.not_lt.mp h2) (List.not_lt.mp h1)
def ins (a : Pr) : List Pr → List Pr
  | [] => [a]
  | b :: l => if b < a then b :: ins a l else a :: b :: l
def srt : List Pr → List Pr
  | [] => []
  | a :: l => ins a (srt l)
theorem ins_perm (a : Pr) : ∀ l : List Pr, (ins a l).Perm (a :: l)
  | [] => List.Perm.refl _
  | b :: l => by
    rw [ins]
    split
    · exact ((ins_perm a l).cons b).trans (List.Perm.swap a b l)
    · exact List.Perm.refl _
theorem srt_perm : ∀ l : List Pr, (srt l).Perm l
  | [] => List.Perm.refl _
  | a :: l => (ins_perm a (srt l)).trans ((srt_perm l).cons a)
theorem ins_le (a : Pr) : ∀ {l : List Pr}, l.Pairwise (fun x y => ¬ y < x) → (ins a l).Pairwise (fun x y => ¬ y < x)
  | [], _ => by simp [ins]
  | b :: l, h => by
    have h' := List.pairwise_cons.mp h
    rw [ins]
    split
    · rename_i hb
      refine List.pairwise_cons.mpr ⟨fun x hx => ?_, ins_le a h'.2⟩
      rcases List.mem_cons.mp ((ins_perm a l).mem_iff.mp hx) with e | e
      · rw [e]; exact plt_asym _ _ hb
      · exact h'.1 x e
    · rename_i hb
      refine List.pairwise_cons.mpr ⟨fun x hx => ?_, h⟩
      rcases List.mem_cons.mp hx with e | e
      · rw [e]; exact hb
      · intro hxa
        have hx' := h'.1 x e
        have : x < b := by
          by_cases hab : a < b
          · exact List.lt_trans hxa hab
          · have := plt_total hab hb
            rw [← this]; exact hxa
        exact hx' this
theorem srt_le : ∀ l : List Pr, (srt l).Pairwise (fun x y => ¬ y < x)
  | [] => List.Pairwise.nil
  | a :: l => ins_le a (srt_le l)
theorem sorted_eq : ∀ {l m : List Pr}, l.Perm m → l.Pairwise (fun x y => ¬ y < x) → m.Pairwise (fun x y => ¬ y < x) → l = m
  | [], m, h, _, _ => h.nil_eq
  | a :: l, m, h, hl, hm => by
    cases m with
    | nil => exact absurd h.length_eq (by simp)
    | cons b m =>
      have hl' := List.pairwise_cons.mp hl
      have hm' := List.pairwise_cons.mp hm
      have ab : a = b := by
        rcases List.mem_cons.mp (h.mem_iff.mp List.mem_cons_self) with e | e
        · exact e
        · rcases List.mem_cons.mp (h.mem_iff.mpr List.mem_cons_self) with e' | e'
          · exact e'.symm
          · exact plt_total (hm'.1 a e) (hl'.1 b e')
      subst ab
      rw [sorted_eq (List.Perm.cons_inv h) hl'.2 hm'.2]
theorem srt_of {l m : List Pr} (h : l.Perm m) (hl : l.Pairwise (fun x y => ¬ y < x)) : l = srt m := sorted_eq (h.trans (srt_perm m).symm) hl (srt_le m)
theorem srt_rise {l : List Pr} (h : l.Nodup) : (srt l).Pairwise (· < ·) := by
  have nd : (srt l).Nodup := (srt_perm l).nodup_iff.mpr h
  have := srt_le l
  exact (this.and nd).imp fun {a b} hab => Classical.byContradiction fun hn => hab.2 (plt_total hn hab.1)
theorem mem_srt {l : List Pr} {p : Pr} : p ∈ srt l ↔ p ∈ l := (srt_perm l).mem_iff
theorem srt_perm_eq {l m : List Pr} (h : l.Perm m) : srt l = srt m := srt_of ((srt_perm l).trans h) (srt_le l)
def dedup {α : Type} [DecidableEq α] : List α → List α
  | [] => []
  | a :: l => a :: (dedup l).filter fun b => decide (b ≠ a)
theorem mem_dedup {α : Type} [DecidableEq α] {x : α} : ∀ {l : List α}, x ∈ dedup l ↔ x ∈ l
  | [] => by simp [dedup]
  | a :: l => by
    rw [dedup, List.mem_cons, List.mem_filter, mem_dedup, List.mem_cons]
    constructor
    · rintro (h | h)
      · exact .inl h
      · exact .inr h.1
    · rintro (h | h)
      · exact .inl h
      · by_cases e : x = a
        · exact .inl e
        · exact .inr ⟨h, by simpa using e⟩
theorem dedup_nodup {α : Type} [DecidableEq α] : ∀ (l : List α), (dedup l).Nodup
  | [] => by simp [dedup]
  | a :: l => by
    rw [dedup]
    refine List.nodup_cons.mpr ⟨fun h => ?_, (dedup_nodup l).filter _⟩
    have := (List.mem_filter.mp h).2
    simp at this
def lettersOf (F : List Pr) : List Nat := (srt (dedup (F.flatten.map fun c => [c]))).flatten
theorem ones_of {l : List Pr} (h : ∀ p ∈ l, ∃ c, p = [c]) : l = l.flatten.map fun c => [c] := by
  induction l with
  | nil => rfl
  | cons p l ih =>
    obtain ⟨c, hc⟩ := h p List.mem_cons_self
    subst hc
    rw [List.flatten_cons, List.map_append, ← ih fun q hq => h q (List.mem_cons_of_mem _ hq)]
    rfl
theorem letters_ones (F : List Pr) : srt (dedup (F.flatten.map fun c => [c])) = (lettersOf F).map fun c => [c] := by
  refine ones_of fun p hp => ?_
  obtain ⟨c, _, e⟩ := List.mem_map.mp (mem_dedup.mp (mem_srt.mp hp))
  exact ⟨c, e.symm⟩
theorem mem_letters {F : List Pr} {c : Nat} : c ∈ lettersOf F ↔ ∃ p ∈ F, c ∈ p := by
  have h : [c] ∈ (lettersOf F).map (fun c => [c]) ↔ c ∈ lettersOf F := by
    rw [List.mem_map]
    exact ⟨fun ⟨d, hd, e⟩ => by cases e; exact hd, fun hd => ⟨c, hd, rfl⟩⟩
  rw [← h, ← letters_ones, mem_srt, mem_dedup, List.mem_map]
  constructor
  · rintro ⟨d, hd, e⟩
    cases e
    exact (List.mem_flatten.mp hd).imp fun p hp => ⟨hp.1, hp.2⟩
  · rintro ⟨p, hp, hc⟩
    exact ⟨c, List.mem_flatten.mpr ⟨p, hp, hc⟩, rfl⟩
theorem letters_rise (F : List Pr) : (lettersOf F).Pairwise (· < ·) := by
  have h := srt_rise (dedup_nodup (F.flatten.map fun c => [c]))
  rw [letters_ones, List.pairwise_map] at h
  refine h.imp fun {a b} hab => ?_
  cases hab with
  | rel h => exact h
  | cons h => cases h
theorem rise_sub : ∀ {ls p : List Nat}, ls.Pairwise (· < ·) → p.Pairwise (· < ·) → (∀ x ∈ p, x ∈ ls) → p.Sublist ls
  | _, [], _, _, _ => List.nil_sublist _
  | [], x :: p, _, _, h => absurd (h x List.mem_cons_self) (by simp)
  | l :: ls, x :: p, hl, hp, h => by
    have hl' := List.pairwise_cons.mp hl
    have hp' := List.pairwise_cons.mp hp
    rcases List.mem_cons.mp (h x List.mem_cons_self) with e | e
    · subst e
      refine (rise_sub hl'.2 hp'.2 fun y hy => ?_).cons₂ x
      rcases List.mem_cons.mp (h y (List.mem_cons_of_mem _ hy)) with e | e
      · subst e; exact absurd (hp'.1 _ hy) (Nat.lt_irrefl _)
      · exact e
    · refine (rise_sub hl'.2 hp fun y hy => ?_).cons l
      rcases List.mem_cons.mp (h y hy) with e' | e'
      · subst e'
        rcases List.mem_cons.mp hy with q | q
        · subst q; exact e
        · exact absurd (hp'.1 _ q) (Nat.lt_asymm (hl'.1 _ e))
      · exact e'
theorem one_vf : Vf [[]] := ⟨by simp, by simp⟩
theorem nil_vf : Vf [] := ⟨List.Pairwise.nil, by simp⟩
end Fs
set_option Elab.async false
set_option linter.all false
set_option maxRecDepth 100000
namespace L2
open PySem PySem.Spec PyProof.Rows
def clos (env : Env) : List (Str × NameKind) → List (Str × Addr) → List (Str × Addr)
  | [], acc => acc
  | (n, k) :: r, acc => clos env r (if (k == NameKind.free) = true then (n, (env.cells.lookup n).getD 0) :: acc else acc)
theorem clos_run (env : Env) : ∀ (l : List (Str × NameKind)) (acc : List (Str × Addr)), (∀ y ∈ l, y.2 = .free → ∃ c, env.cells.lookup y.1 = some c) →
    (forIn l acc fun (x : Str × NameKind) (cs : List (Str × Addr)) => match x with
      | (name, kind) => if (kind == NameKind.free) = true then do let a ← cellOf env name; pure (ForInStep.yield ((name, a) :: cs)) else pure (ForInStep.yield cs) : Sem (List (Str × Addr))) = pure (clos env l acc)
  | [], acc, _ => by rw [List.forIn_nil]; rfl
  | (n, k) :: r, acc, h => by
    rw [List.forIn_cons]
    by_cases hk : (k == NameKind.free) = true
    · obtain ⟨c, hc⟩ := h (n, k) List.mem_cons_self (by simpa using hk)
      have e : cellOf env n = pure c := by unfold cellOf; rw [show env.cells.lookup n = some c from hc]
      simp only [hk, if_true, e, pure_bind]
      rw [clos_run env r _ fun y hy => h y (List.mem_cons_of_mem _ hy)]
      rw [clos, if_pos hk, show env.cells.lookup n = some c from hc]
      rfl
    · have hk' : (k == NameKind.free) = false := by simpa using hk
      simp only [hk', Bool.false_eq_true, if_false, pure_bind]
      rw [clos_run env r _ fun y hy => h y (List.mem_cons_of_mem _ hy), clos, if_neg hk]
theorem closureFor_ok {scope : Scope} {env : Env} (h : ∀ y ∈ scope.names, y.2 = .free → ∃ c, env.cells.lookup y.1 = some c) : closureFor scope env = pure (clos env scope.names []) := by
  unfold closureFor
  have := clos_run env scope.names [] h
  simp only [bind_pure]
  exact this
theorem clos_sound (env : Env) : ∀ (l : List (Str × NameKind)) (acc : List (Str × Addr)), (∀ y ∈ l, y.2 = .free → ∃ c, env.cells.lookup y.1 = some c) → (∀ x c, acc.lookup x = some c → env.cells.lookup x = some c) →
    ∀ x c, (clos env l acc).lookup x = some c → env.cells.lookup x = some c
  | [], acc, _, ha, x, c, e => ha x c e
  | (n, k) :: r, acc, h, ha, x, c, e => by
    rw [clos] at e
    refine clos_sound env r _ (fun y hy => h y (List.mem_cons_of_mem _ hy)) ?_ x c e
    clear e
    intro x c e
    by_cases hk : (k == NameKind.free) = true
    · rw [if_pos hk] at e
      obtain ⟨c', hc⟩ := h (n, k) List.mem_cons_self (by simpa using hk)
      rw [show env.cells.lookup n = some c' from hc] at e
      rw [List.lookup_cons] at e
      by_cases hx : (x == n) = true
      · rw [hx] at e
        have : x = n := by simpa using hx
        subst this
        cases e
        exact hc
      · rw [show (x == n) = false by simpa using hx] at e
        exact ha x c e
    · rw [if_neg hk] at e
      exact ha x c e
theorem clos_acc (env : Env) : ∀ (l : List (Str × NameKind)) (acc : List (Str × Addr)) (x : Str), (acc.lookup x).isSome = true → ((clos env l acc).lookup x).isSome = true
  | [], _, _, h => h
  | (n, k) :: r, acc, x, h => by
    rw [clos]
    refine clos_acc env r _ x ?_
    by_cases hk : (k == NameKind.free) = true
    · rw [if_pos hk, List.lookup_cons]
      cases x == n with
      | true => rfl
      | false => exact h
    · rw [if_neg hk]; exact h
theorem clos_has (env : Env) : ∀ (l : List (Str × NameKind)) (acc : List (Str × Addr)) (x : Str), (x, NameKind.free) ∈ l → ((clos env l acc).lookup x).isSome = true
  | (n, k) :: r, acc, x, h => by
    rw [clos]
    rcases List.mem_cons.mp h with e | e
    · cases e
      refine clos_acc env r _ _ ?_
      rw [if_pos (by decide), List.lookup_cons]
      simp only [beq_self_eq_true, Option.isSome_some]
    · exact clos_has env r _ x e
def cxComp (X : Cx) (NY : List Str) (scope : Scope) (C : Addr) (s : Shared) (H : Hp) (fp : List Addr) (pins : List (Addr × Obj)) : Cx :=
  { X with N := NY, s₀ := s, H₀ := H, env := compEnvC scope (clos X.env scope.names []) C X.env, outer := X.stack, ex := fp, fn := fun _ => false, pn := X.pn ++ pins, xe := fun _ _ => False }
structure CompScope (X : Cx) (NY : List Str) (o : Nat) (caps : List Nat) (scope : Scope) : Prop where
  kind : scope.kind = .function
  nd : NY.Nodup
  nocell : ∀ y ∈ scope.names, y.2 ≠ .cell
  frees : ∀ y ∈ scope.names, y.2 = .free → (X.env.kindOf y.1 = some .cell ∨ X.env.kindOf y.1 = some .free)
  locs : ∀ y ∈ scope.names, y.2 = .local → scope.names.lookup y.1 = some .local
  capOk : ∀ (j : Nat) (i : Nat), caps[j]? = some i → ∃ x, NY[o + j]? = some x ∧ X.N[i]? = some x ∧ scope.names.lookup x = some .free
  len : NY.length = o + caps.length
def stY (o : Nat) (caps : List Nat) (σ : St) : St := List.replicate o none ++ caps.map fun i => (σ[i]?).getD none
theorem relabel_free {env : Env} : ∀ {names : List (Str × NameKind)} {x : Str}, names.lookup x = some .free →
    (names.map fun (n, k) => if (k == NameKind.free && env.scope.kind == .function && env.kindOf n == some .cell) then (n, NameKind.cell) else (n, k)).lookup x = some .cell ∨
    (names.map fun (n, k) => if (k == NameKind.free && env.scope.kind == .function && env.kindOf n == some .cell) then (n, NameKind.cell) else (n, k)).lookup x = some .free
  | [], _, h => by simp at h
  | (n, k) :: r, x, h => by
    have ih := @relabel_free env r x
    show List.lookup x ((if (k == NameKind.free && env.scope.kind == .function && env.kindOf n == some .cell) = true then (n, NameKind.cell) else (n, k)) :: _) = _ ∨ List.lookup x ((if (k == NameKind.free && env.scope.kind == .function && env.kindOf n == some .cell) = true then (n, NameKind.cell) else (n, k)) :: _) = _
    cases hx : x == n with
    | true =>
      simp only [List.lookup_cons, hx] at h
      cases h
      by_cases hc : (NameKind.free == NameKind.free && env.scope.kind == .function && env.kindOf n == some .cell) = true
      · rw [if_pos hc]; left; simp only [List.lookup_cons, hx]
      · rw [if_neg hc]; right; simp only [List.lookup_cons, hx]
    | false =>
      simp only [List.lookup_cons, hx] at h
      by_cases hc : (k == NameKind.free && env.scope.kind == .function && env.kindOf n == some .cell) = true
      · rw [if_pos hc]; simp only [List.lookup_cons, hx]; exact ih h
      · rw [if_neg hc]; simp only [List.lookup_cons, hx]; exact ih h
theorem of_relabel {env : Env} : ∀ {names : List (Str × NameKind)} {x : Str} {k : NameKind}, (∀ y ∈ names, y.2 ≠ .cell) →
    (names.map fun (n, k) => if (k == NameKind.free && env.scope.kind == .function && env.kindOf n == some .cell) then (n, NameKind.cell) else (n, k)).lookup x = some k → (k = .cell ∨ k = .free) → names.lookup x = some .free
  | [], _, _, _, h, _ => by simp at h
  | (n, k0) :: r, x, k, nc, h, hk => by
    have ih := @of_relabel env r x k (fun y hy => nc y (List.mem_cons_of_mem _ hy))
    replace h : List.lookup x ((if (k0 == NameKind.free && env.scope.kind == .function && env.kindOf n == some .cell) = true then (n, NameKind.cell) else (n, k0)) :: (r.map fun (n, k) => if (k == NameKind.free && env.scope.kind == .function && env.kindOf n == some .cell) then (n, NameKind.cell) else (n, k))) = some k := h
    have n0 : k0 ≠ .cell := nc (n, k0) List.mem_cons_self
    cases hx : x == n with
    | true =>
      by_cases hc : (k0 == NameKind.free && env.scope.kind == .function && env.kindOf n == some .cell) = true
      · have : k0 = .free := by
          simp only [Bool.and_eq_true] at hc
          simpa using hc.1.1
        simp only [List.lookup_cons, hx, this]
      · rw [if_neg hc] at h
        simp only [List.lookup_cons, hx] at h ⊢
        cases h
        rcases hk with e | e
        · exact absurd e n0
        · rw [e]
    | false =>
      by_cases hc : (k0 == NameKind.free && env.scope.kind == .function && env.kindOf n == some .cell) = true
      · rw [if_pos hc] at h; simp only [List.lookup_cons, hx] at h ⊢; exact ih h hk
      · rw [if_neg hc] at h; simp only [List.lookup_cons, hx] at h ⊢; exact ih h hk
theorem Un.but {fs ex : List Addr} {H H' : Hp} {h h1 h2 : Heap} {C : Addr} (u : Un fs ex H H' h h1) (hs : Heap.SameBut C h1 h2) (hC : h.objs.size ≤ C) : Un fs ex H H' h h2 := by
  have ne : ∀ b o, h.get? b = some o → b ≠ C := fun b o e z => by subst z; exact absurd (Nat.lt_of_lt_of_le (Heap.lt_size e) hC) (Nat.lt_irrefl _)
  refine ⟨fun b o e n hb hx => (hs.2 b (ne b o e)).trans (u.keep b o e n hb hx), fun b o e n hb hx => ?_, u.free, fun b o e hx => ?_, u.tups, u.frzs, u.tbls⟩
  · obtain ⟨sl, q⟩ := u.slot b o e n hb hx
    exact ⟨sl, (hs.2 b (ne b o e)).trans q⟩
  · obtain ⟨o', q⟩ := u.there b o e hx
    exact ⟨o', (hs.2 b (ne b o e)).trans q⟩
theorem HOk.but {P : Program} {w : World} {H : Hp} {h h' : Heap} {C : Addr} (ok : HOk P w H h) (hs : Heap.SameBut C h h') (hC : H C = none) : HOk P w H h' := fun a o e => by
  refine (ok a o e).stay (fun b u hb q => (hs.2 b ?_).trans q) (fun _ q => q) fun _ _ q => q
  rcases hb with z | z
  · rw [z]; exact fun y => by rw [y, hC] at e; cases e
  · exact fun y => by rw [y, hC] at z; cases z
abbrev Adv := Nat → St → Hp → (St → Hp → Prop) → Prop
structure Walk (Y : Cx) (tg : Expr) (fp : List Addr) (it : Addr) (tn : Nat → Heap → Prop) (adv : Adv) (stop : Nat → Hp → Prop) : Prop where
  obj : ∀ i h, tn i h → ∀ b ∈ fp, ∃ o, h.get? b = some o ∧ ∀ v, o.data ≠ .cell v
  keep : ∀ i h h', tn i h → (∀ b ∈ fp, ∀ o, h.get? b = some o → h'.get? b = some o) → tn i h'
  item : ∀ (i : Nat) (pins : List (Addr × Obj)) (s : Shared) (σ : St) (H : Hp) (N : St → Hp → Prop), Inv Y pins σ H s → (∀ b ∈ fp, FpOk Y pins H b) → tn i s.heap → adv i σ H N →
    wpAny (model Y.prog Y.w) Y.A (pyNext (.ref it)) (fun r s1 => ∃ u, r = some u ∧ wpAny (model Y.prog Y.w) Y.A (letOwnedTupleGo tg (.ref it) u) (fun _ s2 =>
      wpAny (model Y.prog Y.w) Y.A (assign tg Y.env u) (fun _ s3 => ∃ σ' H', Inv Y pins σ' H' s3 ∧ N σ' H' ∧ tn (i + 1) s3.heap ∧ ∀ b ∈ fp, H' b = none) Y.xe s2) Y.xe s1) Y.xe s
  done : ∀ (i : Nat) (pins : List (Addr × Obj)) (s : Shared) (σ : St) (H : Hp), Inv Y pins σ H s → (∀ b ∈ fp, FpOk Y pins H b) → tn i s.heap → stop i H →
    wpAny (model Y.prog Y.w) Y.A (pyNext (.ref it)) (fun r s1 => r = none ∧ Inv Y pins σ H s1) Y.xe s
  self : ∀ (A : Around) (i : Nat) (s : Shared) (Q : Value → Shared → Prop) (E : Value → Shared → Prop), tn i s.heap → Q (.ref it) s → wpAny (model Y.prog Y.w) A (pyIter (.ref it)) Q E s
theorem stores_keep {Y : Cx} {tg : Expr} {fp : List Addr} {tn : Nat → Heap → Prop} {pins : List (Addr × Obj)} {s5 s6 : Shared} {σ6 : St} {H6 : Hp} {i : Nat}
    (obj : ∀ b ∈ fp, ∃ o, s5.heap.get? b = some o ∧ ∀ v, o.data ≠ .cell v) (keep : ∀ h', (∀ b ∈ fp, ∀ o, s5.heap.get? b = some o → h'.get? b = some o) → tn i h')
    (I6 : Inv Y (pins ++ pinsAt fp s5.heap) σ6 H6 s6) : Inv Y pins σ6 H6 s6 ∧ tn i s6.heap ∧ ∀ b ∈ fp, H6 b = none := by
  refine ⟨I6.unpinned, keep _ fun b hb o e => (I6.pin (b, o) (List.mem_append_right _ (List.mem_append_right _ (mem_pinsAt hb e)))).1, fun b hb => ?_⟩
  obtain ⟨o, e, d⟩ := obj b hb
  exact (I6.pin (b, o) (List.mem_append_right _ (List.mem_append_right _ (mem_pinsAt hb e)))).2.1
def advOf (J : It) (g : TG) : Adv := fun i σ H N => J.go i H ∧ ∀ x H', J.yld i H x H' → g x σ H' N
theorem Turn.walk {Y : Cx} {tg : Expr} {J : It} {fp : List Addr} {it : Addr} {tn : Nat → Heap → Prop} {g : TG} (hc : Y.calm = true) (T : Turn Y.prog Y.w Y.K tg J fp it tn) (hg : PG Y tg g) : Walk Y tg fp it tn (advOf J g) J.stop where
  obj := T.obj
  keep := T.keep
  item := by
    intro i pins s σ H N I hf st ⟨go, step⟩
    refine thn (T.item Y rfl rfl rfl hc i pins s σ H Y.xe I hf st go) fun r s4 ⟨u, hr, h4⟩ => ⟨u, hr, ?_⟩
    refine thn h4 fun _ s5 ⟨x, H5, I5, r5, y5, st5, fr5⟩ => ?_
    have I5' := I5.pinned (fp := fp) (fun b hb => ⟨fr5 b hb, (hf b hb).2⟩) (T.obj _ _ st5)
    refine thn (hg _ s5 σ H5 x u _ I5' r5 (step x H5 y5)) fun _ s6 ⟨σ6, H6, I6, q6⟩ => ?_
    obtain ⟨J1, J2, J3⟩ := stores_keep (tg := tg) (tn := tn) (i := i + 1) (T.obj _ _ st5) (fun h' k => T.keep _ _ _ st5 k) I6
    exact ⟨σ6, H6, J1, q6, J2, J3⟩
  done := fun i pins s σ H I hf st hs => T.done Y rfl rfl rfl hc i pins s σ H Y.xe I hf st hs
  self := T.self
structure It2 where
  go : Nat → Hp → Prop
  yld : Nat → Hp → List V → Hp → Prop
  stop : Nat → Hp → Prop
structure Turn2 (P : Program) (w : World) (K : PySem.W.Frag) (tg : Expr) (J : It2) (fp : List Addr) (it : Addr) (tn : Nat → Heap → Prop) : Prop where
  obj : ∀ i h, tn i h → ∀ b ∈ fp, ∃ o, h.get? b = some o ∧ ∀ v, o.data ≠ .cell v
  keep : ∀ i h h', tn i h → (∀ b ∈ fp, ∀ o, h.get? b = some o → h'.get? b = some o) → tn i h'
  item : ∀ (X : Cx), X.prog = P → X.w = w → X.K = K → X.calm = true → ∀ (i : Nat) (pins : List (Addr × Obj)) (s : Shared) (σ : St) (H : Hp) (E : Value → Shared → Prop), Inv X pins σ H s → (∀ b ∈ fp, FpOk X pins H b) → tn i s.heap → J.go i H →
    wpAny (model P w) X.A (pyNext (.ref it)) (fun r s1 => ∃ p, r = some (.ref p) ∧
      wpAny (model P w) X.A (letOwnedTupleGo tg (.ref it) (.ref p)) (fun _ s2 => ∃ xs us H', Inv X pins σ H' s2 ∧ IsTup s2.heap p us.toArray ∧ Vals xs us ∧ J.yld i H xs H' ∧ tn (i + 1) s2.heap ∧ ∀ b ∈ fp, H' b = none) E s1) E s
  done : ∀ (X : Cx), X.prog = P → X.w = w → X.K = K → X.calm = true → ∀ (i : Nat) (pins : List (Addr × Obj)) (s : Shared) (σ : St) (H : Hp) (E : Value → Shared → Prop), Inv X pins σ H s → (∀ b ∈ fp, FpOk X pins H b) → tn i s.heap → J.stop i H →
    wpAny (model P w) X.A (pyNext (.ref it)) (fun r s1 => r = none ∧ Inv X pins σ H s1) E s
  self : ∀ (A : Around) (i : Nat) (s : Shared) (Q : Value → Shared → Prop) (E : Value → Shared → Prop), tn i s.heap → Q (.ref it) s → wpAny (model P w) A (pyIter (.ref it)) Q E s
def advOf2 (J : It2) (n : Nat) (t : TGs) : Adv := fun i σ H N => J.go i H ∧ ∀ xs H', J.yld i H xs H' → xs.length = n ∧ t xs σ H' N
theorem Turn2.walk {Y : Cx} {es : List Expr} {k : Nat} {pos : Pos} {J : It2} {fp : List Addr} {it : Addr} {tn : Nat → Heap → Prop} {t : TGs} {n : Nat} (hc : Y.calm = true) (T : Turn2 Y.prog Y.w Y.K (.Tuple es k pos) J fp it tn) (hg : PGs Y es t)
    (hn : (assignEach es Y.env).length = n := by rfl) (hst : (assignEach es Y.env).findIdx? (·.1) = none := by rfl) : Walk Y (.Tuple es k pos) fp it tn (advOf2 J n t) J.stop where
  obj := T.obj
  keep := T.keep
  item := by
    intro i pins s σ H N I hf st ⟨go, step⟩
    refine thn (T.item Y rfl rfl rfl hc i pins s σ H Y.xe I hf st go) fun r s4 ⟨p, hr, h4⟩ => ⟨.ref p, hr, ?_⟩
    refine thn h4 fun _ s5 ⟨xs, us, H5, I5, ht, r5, y5, st5, fr5⟩ => ?_
    have I5' := I5.pinned (fp := fp) (fun b hb => ⟨fr5 b hb, (hf b hb).2⟩) (T.obj _ _ st5)
    obtain ⟨hl, hw⟩ := step xs H5 y5
    refine assign_Tuple_tuple (I5.ok.hd hc) ht (by simp [hn, ← hl, r5.length]) hst fun h' hx => ?_
    have I6 : Inv Y (pins ++ pinsAt fp s5.heap) σ H5 { s5 with heap := h' } := I5'.kept (t' := s5.toks) fun b o e => hx b o (Nat.ne_of_lt (Heap.lt_size e)) e
    refine thn (hg _ _ σ H5 xs _ N I6 (by simpa using r5) hw) fun _ s6 ⟨σ6, H6, I7, q6⟩ => ?_
    obtain ⟨J1, J2, J3⟩ := stores_keep (tg := .Tuple es k pos) (tn := tn) (i := i + 1) (T.obj _ _ st5) (fun h' k => T.keep _ _ _ st5 k) I7
    exact ⟨σ6, H6, J1, q6, J2, J3⟩
  done := fun i pins s σ H I hf st hs => T.done Y rfl rfl rfl hc i pins s σ H Y.xe I hf st hs
  self := T.self
abbrev TI2 := St → Hp → (It2 → Hp → Prop) → Prop
def PI2 (X : Cx) (tg iter : Expr) (wi : TI2) : Prop :=
  ∀ (pins : List (Addr × Obj)) (s : Shared) (σ : St) (H : Hp) (R : It2 → Hp → Prop), Inv X pins σ H s → wi σ H R →
    wpAny (model X.prog X.w) X.A (eval iter X.env) (fun v s1 => wpAny (model X.prog X.w) X.A (pyIter v) (fun itv s2 =>
      ∃ (it : Addr) (fp : List Addr) (tn : Nat → Heap → Prop) (J : It2) (H' : Hp), itv = .ref it ∧ Inv X pins σ H' s2 ∧ Turn2 X.prog X.w X.K tg J fp it tn ∧ tn 0 s2.heap ∧ (∀ b ∈ fp, FpOk X pins H' b) ∧ R J H') X.xe s1) X.xe s
def PTs (X : Cx) (ifs : List Expr) (tt : TT) : Prop := ∀ (pins : List (Addr × Obj)) (s : Shared) (σ : St) (H : Hp) (Q : Bool → Hp → Prop), Inv X pins σ H s → tt σ H Q →
  wpAny (model X.prog X.w) X.A (forIn ifs true fun c r => if r = true then do let ok ← isTrue c X.env (eval c X.env); pure (ForInStep.yield ok) else pure (ForInStep.yield r)) (TP X pins σ Q) X.xe s
def tYes : TT := fun _ H Q => Q true H
theorem pts_nil {X : Cx} : PTs X [] tYes := fun _ _ _ H _ I h => wpAny_tests_nil ⟨H, I, h⟩
section
variable {prog : Program} {w : World} {A : Around} {R : Result → Shared → Prop} {s : Shared}
theorem compLoop_own {elt target iter : Expr} {ifs : List Expr} {scope : Scope} {pos : Pos} {it acc : Value} {env : Env} (I : Nat → Shared → Prop)
    (turn : ∀ n s, I n s → wpAny (model prog w) A (pyNext it) (fun r s₁ => match r with
      | none => R (.ok .next) s₁
      | some v => wpAny (model prog w) A (letOwnedTupleGo target it v) (fun _ s₁' => wpAny (model prog w) A (assign target env v) (fun _ s₂ =>
          wpAny (model prog w) A (forIn ifs true fun c r => if r = true then do let ok ← isTrue c env (eval c env); pure (ForInStep.yield ok) else pure (ForInStep.yield r)) (fun ok s₃ =>
            if ok = true then wpAny (model prog w) A (eval elt env) (fun x s₄ =>
              wpAny (model prog w) A (call (.builtin "list.append") [acc, x]) (fun _ s₅ => ∃ m, m < n ∧ I m s₅) (fun _ _ => False) s₄) (fun _ _ => False) s₃
            else ∃ m, m < n ∧ I m s₃) (fun _ _ => False) s₂) (fun _ _ => False) s₁') (fun _ _ => False) s₁) (fun _ _ => False) s)
    (n : Nat) (h : I n s) :
    codeAny (model prog w) A (.compLoop (.ListComp elt [⟨target, iter, ifs, 0⟩] scope pos) 0 it acc env) R s := by
  refine codeAny_loop rfl I (fun n s hI => ?_) n h
  show wpAny _ A ((compTurn (.ListComp elt [⟨target, iter, ifs, 0⟩] scope pos) 0 it acc env).onRaise (fun x => do noteFrame x env; theTreesLotGoes x)) _ _ s
  refine wpAny_noted ?_
  rw [compTurn_list]
  have no : ∀ {E : Value → Shared → Prop} (x : Value) (s' : Shared), False → E x s' := fun _ _ f => f.elim
  refine wpAny_bind (wpAny_standAt (wpAny_bind (wpAny_mono (turn n s hI) (fun r s₁ h₁ => ?_) no)))
  cases r with
  | none => exact wpAny_pure h₁
  | some v =>
    refine wpAny_bind (wpAny_mono h₁ (fun _ s₁' h₁' => ?_) no)
    refine wpAny_bind (wpAny_mono h₁' (fun _ s₂ h₂ => wpAny_bind (wpAny_mono h₂ (fun ok s₃ h₃ => ?_) no)) no)
    cases ok with
    | false => exact wpAny_pure ⟨rfl, h₃⟩
    | true =>
      exact wpAny_bind (wpAny_bind (wpAny_mono h₃ (fun x s₄ h₄ => wpAny_bind (wpAny_mono h₄ (fun _ s₅ h₅ => wpAny_pure (wpAny_pure ⟨rfl, h₅⟩)) no)) no))
end
def Kp (o : Nat) (σ0 σ : St) : Prop := σ.drop o = σ0.drop o ∧ σ.length = σ0.length
theorem Kp.get {o : Nat} {caps : List Nat} {σ σ2 : St} (k : Kp o (stY o caps σ) σ2) : ∀ (j : Nat) (v : V), (stY o caps σ)[j]? = some (some v) → σ2[j]? = some (some v) := by
  intro j v e
  by_cases hj : j < o
  · unfold stY at e
    rw [List.getElem?_append_left (by simpa using hj), List.getElem?_replicate, if_pos hj] at e
    cases e
  · have e1 : (σ2.drop o)[j - o]? = ((stY o caps σ).drop o)[j - o]? := by rw [k.1]
    rw [List.getElem?_drop, List.getElem?_drop, show o + (j - o) = j by omega] at e1
    rw [e1]; exact e
theorem stY_at {o : Nat} {caps : List Nat} {σ : St} {j : Nat} {v : V} (e : (stY o caps σ)[j]? = some (some v)) : ∃ j' i, j = o + j' ∧ caps[j']? = some i ∧ σ[i]? = some (some v) := by
  unfold stY at e
  by_cases hj : j < o
  · rw [List.getElem?_append_left (by simpa using hj), List.getElem?_replicate, if_pos hj] at e
    cases e
  · rw [List.getElem?_append_right (by simpa using hj), List.length_replicate, List.getElem?_map] at e
    cases q : caps[j - o]? with
    | none => rw [q] at e; cases e
    | some i =>
      rw [q] at e
      refine ⟨j - o, i, by omega, q, ?_⟩
      cases q2 : σ[i]? with
      | none => rw [Option.map_some, q2] at e; cases e
      | some z =>
        rw [Option.map_some, q2] at e
        have e' : z = some v := Option.some.inj e
        rw [e']
def tCompW (o : Nat) (caps : List Nat) (adv : Adv) (stop : Nat → Hp → Prop) (tt : TT) (te : TE) (σ : St) (H1 : Hp) (Q : VK) : Prop :=
  ∀ D, H1 D = none → ∃ W : Nat → Nat → List V → Hp → Prop, (∃ m, W 0 m [] (upd H1 D (.lst []))) ∧ ∀ i m ys H, W i m ys H →
    (stop i H ∧ Q (.ref D) H) ∨ adv i (stY o caps σ) H fun σ2 H2 => Kp o (stY o caps σ) σ2 ∧ tt σ2 H2 fun b H3 => if b = true then te σ2 H3 fun y H4 => H4 D = some (.lst ys) ∧ ys.length < sizeLine ∧ ∃ m', m' < m ∧ W (i + 1) m' (ys ++ [y]) (upd H4 D (.lst (ys ++ [y])))
      else ∃ m', m' < m ∧ W (i + 1) m' ys H3
section
variable {X : Cx}
theorem comp_inv {pins : List (Addr × Obj)} {σ : St} {H2 : Hp} {s2 : Shared} {NY : List Str} {o : Nat} {caps : List Nat} {scope : Scope} {fp : List Addr} {h₁ : Heap} (S : CompScope X NY o caps scope) (I2 : Inv X pins σ H2 s2)
    (hfp : ∀ b ∈ fp, FpOk X pins H2 b) (hob : ∀ b ∈ fp, ∃ ob, s2.heap.get? b = some ob)
    (hns : h₁.Ns (s2.heap.objs.size + 1) fun _ => none) (hkeep : ∀ b ob, s2.heap.get? b = some ob → h₁.get? b = some ob)
    (hD : ∃ n, h₁.get? s2.heap.objs.size = some { cls := .type "list", data := .seq ([] : List Value).toArray n }) (t' : Nat) :
    Inv (cxComp X NY scope (s2.heap.objs.size + 1) s2 H2 fp pins) [] (stY o caps σ) (upd H2 s2.heap.objs.size (.lst [])) { s2 with heap := h₁, toks := t' } := by
  have frees : ∀ y ∈ scope.names, y.2 = .free → ∃ c, X.env.cells.lookup y.1 = some c := fun y hy e => I2.ok.has _ (S.frees y hy e)
  have sound : ∀ x c, (clos X.env scope.names []).lookup x = some c → X.env.cells.lookup x = some c := clos_sound X.env scope.names [] frees (fun x c e => by simp at e)
  have hfr : H2 s2.heap.objs.size = none := I2.hok.fresh (Nat.le_refl _)
  have hfr1 : H2 (s2.heap.objs.size + 1) = none := I2.hok.fresh (Nat.le_succ _)
  have ltC : ∀ b ob, s2.heap.get? b = some ob → b ≠ s2.heap.objs.size + 1 := fun b ob e => Nat.ne_of_lt (Nat.lt_succ_of_lt (Heap.lt_size e))
  have ltD : ∀ b ob, s2.heap.get? b = some ob → b ≠ s2.heap.objs.size := fun b ob e => Nat.ne_of_lt (Heap.lt_size e)
  have hok1 : HOk X.prog X.w (upd H2 s2.heap.objs.size (.lst [])) h₁ := by
    obtain ⟨n, hD⟩ := hD
    exact I2.hok.laid hkeep (Nat.le_refl _) ⟨Nat.zero_le _, [], n, .nil, hD⟩
  refine ⟨?_, rfl, I2.bare, ?_, ?_, ?_, ?_, ?_, ?_, hok1, ?_⟩
  · refine ⟨I2.ok.mod, S.kind, I2.ok.glob, I2.ok.blt, Nat.le_succ _, fun x y c h1 h2 => I2.ok.inj x y c (sound x c h1) (sound y c h2), fun x hx => ?_, fun x c e => absurd e Bool.false_ne_true, I2.ok.hd, I2.ok.frames, .inl rfl, fun b hb => ?_,
      I2.bs, Nat.le_trans I2.ok.bsz I2.sz, fun b ob e hb => ?_, fun b hb z => ?_, I2.stack, I2.stkFree⟩
    · have hx' : scope.names.lookup x = some .free := by
        rcases hx with q | q
        · exact of_relabel (env := X.env) S.nocell q (.inl rfl)
        · exact of_relabel (env := X.env) S.nocell q (.inr rfl)
      exact Option.isSome_iff_exists.mp (clos_has X.env scope.names [] x (PySem.mem_of_lookup hx'))
    · obtain ⟨ob, e⟩ := hob b hb
      exact ⟨ltC b ob e, fun x c q => (hfp b hb).2.2.2.2.1 x c (sound x c q)⟩
    · rcases (hfp b hb).2.2.2.1 with q | q
      · exact I2.ok.noex b ob e q
      · exact absurd (Nat.lt_of_lt_of_le (Heap.lt_size e) (Nat.le_trans I2.ok.bsz q)) (Nat.lt_irrefl _)
    · rcases List.mem_cons.mp (I2.stkSub b z) with q | q
      · exact (hfp b hb).2.1 q
      · exact (hfp b hb).2.2.1 q
  · exact Un.laid hkeep (Nat.le_refl _) hfr
  · refine ⟨_, hns, fun j x v e1 e2 e3 => ?_⟩
    obtain ⟨j', i, ej, ec, es⟩ := stY_at e2
    obtain ⟨x', n1, n2, n3⟩ := S.capOk j' i ec
    rw [← ej] at n1
    have ex : x = x' := Option.some.inj ((show NY[j]? = some x from e1).symm.trans n1)
    subst ex
    have hk := S.frees (x, .free) (PySem.mem_of_lookup n3) rfl
    obtain ⟨m, _, hl⟩ := I2.loc
    have hv : Vis X.env.scope x := hk.elim (fun q => .inr (.inl q)) fun q => .inr (.inr q)
    obtain ⟨u, ru, lk⟩ := hl i x v n2 es hv
    refine ⟨u, ru, .inr ⟨relabel_free (env := X.env) n3, ?_⟩⟩
    rcases lk with ⟨q, _⟩ | ⟨_, c, ec, cell⟩
    · rcases hk with z | z
      · rw [show X.env.kindOf x = some .cell from z] at q; cases q
      · rw [show X.env.kindOf x = some .free from z] at q; cases q
    · obtain ⟨c', hc'⟩ := Option.isSome_iff_exists.mp (clos_has X.env scope.names [] x (PySem.mem_of_lookup n3))
      have := sound x c' hc'
      rw [ec] at this
      cases this
      obtain ⟨ob, e, d⟩ := cell
      exact ⟨c, hc', ob, hkeep c ob e, d⟩
  · intro x c e
    obtain ⟨v, ob, q, d⟩ := I2.cell x c (sound x c e)
    exact ⟨v, ob, hkeep c ob q, d⟩
  · show upd H2 s2.heap.objs.size (.lst []) (s2.heap.objs.size + 1) = none
    rw [upd_ne (Nat.succ_ne_self _)]; exact hfr1
  · intro x c e
    obtain ⟨v, ob, q, d⟩ := I2.cell x c (sound x c e)
    rw [upd_ne (ltD c ob q)]
    exact I2.freeC x c (sound x c e)
  · intro p hp
    have hp' : p ∈ X.pn ++ pins := by
      have : p ∈ (X.pn ++ pins) ++ [] := hp
      simpa using this
    obtain ⟨e, n, ne, nf, d⟩ := I2.pin p hp'
    refine ⟨hkeep _ _ e, by rw [upd_ne (ltD _ _ e)]; exact n, ltC _ _ e, fun z => ?_, d⟩
    rcases List.mem_cons.mp (I2.stkSub p.1 z) with q | q
    · exact ne q
    · exact nf q
  · show (stY o caps σ).length = NY.length
    unfold stY
    rw [List.length_append, List.length_replicate, List.length_map, S.len]
theorem comp_block {pins : List (Addr × Obj)} {σ : St} {H2 : Hp} {s2 : Shared} {NY : List Str} {o : Nat} {caps : List Nat} {scope : Scope} {fp : List Addr} {it : Addr} {tn : Nat → Heap → Prop} {adv : Adv} {stop : Nat → Hp → Prop}
    {elt tg iter : Expr} {ifs : List Expr} {pos : Pos} {tt : TT} {te : TE} {Q : VK}
    (S : CompScope X NY o caps scope) (I2 : Inv X pins σ H2 s2) (hfp : ∀ b ∈ fp, FpOk X pins H2 b) (st2 : tn 0 s2.heap)
    (Wk : ∀ C, Walk (cxComp X NY scope C s2 H2 fp pins) tg fp it tn adv stop) (ht : ∀ C, PTs (cxComp X NY scope C s2 H2 fp pins) ifs tt) (he : ∀ C, PE (cxComp X NY scope C s2 H2 fp pins) elt te)
    (h : tCompW o caps adv stop tt te σ H2 Q) :
    wpAny (model X.prog X.w) X.A (newList []) (fun acc s₃ => wpAny (model X.prog X.w) X.A (newFunctionEnv scope X.env.globals (clos X.env scope.names []) [] X.env.qual none .none (some X.env)) (fun cenv s₄ =>
      codeAny (model X.prog X.w) X.A (.compStart (.ListComp elt [⟨tg, iter, ifs, 0⟩] scope pos) 0 (.ref it) acc { cenv with scope := relabel scope X.env }) (compPost (model X.prog X.w) X.A X.xe none (EP X pins σ Q) acc cenv.locals) s₄) X.xe s₃) X.xe s2 := by
  refine wpAny_newObj_type (wpAny_newFunctionEnv S.nocell (by intro y hy; simp at hy) (fun h₁ hns₁ hsb₁ => ?_) S.kind)
  dsimp only at hns₁ hsb₁ ⊢
  have hC : (s2.heap.push { cls := .type "list", dict := none, data := .seq ([] : List Value).toArray }).objs.size = s2.heap.objs.size + 1 := Heap.size_push _ _
  rw [hC] at hns₁ hsb₁ ⊢
  have hkeep : ∀ b ob, s2.heap.get? b = some ob → h₁.get? b = some ob := fun b ob e =>
    (hsb₁.2 b (Nat.ne_of_lt (Nat.lt_succ_of_lt (Heap.lt_size e)))).trans (Heap.get?_push_of_some _ (Heap.get?_push_of_some _ e))
  have hD : ∃ n, h₁.get? s2.heap.objs.size = some { cls := .type "list", data := .seq ([] : List Value).toArray n } :=
    ⟨_, (hsb₁.2 _ (Nat.ne_of_lt (Nat.lt_succ_self _))).trans (Heap.get?_push_of_some _ (Heap.get?_push_size _ rfl))⟩
  have hfr : H2 s2.heap.objs.size = none := I2.hok.fresh (Nat.le_refl _)
  obtain ⟨W, ⟨m0, w0⟩, turn⟩ := h _ hfr
  have ob0 := (Wk 0).obj 0 s2.heap st2
  have I4 := comp_inv S I2 hfp (fun b hb => (ob0 b hb).imp fun _ q => q.1) (hns := hns₁) hkeep hD (s2.toks + ([] : List (Str × Value)).length)
  have st4 : tn 0 h₁ := (Wk 0).keep _ _ _ st2 fun b _ ob e => hkeep b ob e
  have fr4 : ∀ b ∈ fp, upd H2 s2.heap.objs.size (.lst []) b = none := fun b hb => by
    obtain ⟨ob, e, _⟩ := ob0 b hb
    rw [upd_ne (Nat.ne_of_lt (Heap.lt_size e))]
    exact (hfp b hb).1
  have loop : codeAny (model X.prog X.w) X.A (.compLoop (.ListComp elt [⟨tg, iter, ifs, 0⟩] scope pos) 0 (.ref it) (.ref s2.heap.objs.size) (compEnvC scope (clos X.env scope.names []) (s2.heap.objs.size + 1) X.env))
      (compPost (model X.prog X.w) X.A X.xe none (EP X pins σ Q) (.ref s2.heap.objs.size) (s2.heap.objs.size + 1)) { s2 with heap := h₁, toks := s2.toks + ([] : List (Str × Value)).length } := by
    have Wk := Wk (s2.heap.objs.size + 1)
    have ht := ht (s2.heap.objs.size + 1)
    have he := he (s2.heap.objs.size + 1)
    generalize hY : cxComp X NY scope (s2.heap.objs.size + 1) s2 H2 fp pins = Y at Wk ht he I4
    have fpY : ∀ {H' : Hp}, (∀ b ∈ fp, H' b = none) → ∀ b ∈ fp, FpOk Y [] H' b := fun {H'} hn b hb => by
      subst hY
      obtain ⟨ob, e, _⟩ := ob0 b hb
      have k := I4.ok.exf b hb
      refine ⟨hn b hb, k.1, I4.ok.exfs b hb, .inl hb, k.2, fun p hp => ?_⟩
      have hp' : p ∈ X.pn ++ pins := by
        have : p ∈ (X.pn ++ pins) ++ [] := hp
        simpa using this
      exact (hfp b hb).2.2.2.2.2 p hp'
    refine compLoop_own (fun n s' => ∃ i ys H', Inv Y [] (stY o caps σ) H' s' ∧ tn i s'.heap ∧ (∀ b ∈ fp, H' b = none) ∧ W i n ys H') ?_ m0 ⟨0, [], _, I4, st4, fr4, w0⟩
    rintro n s3 ⟨i, ys, H3, I3, st3, fr3, w3⟩
    have eE : Y.xe = fun _ _ => False := by subst hY; rfl
    have ePw : Y.prog = X.prog ∧ Y.w = X.w ∧ Y.A = X.A ∧ Y.env = compEnvC scope (clos X.env scope.names []) (s2.heap.objs.size + 1) X.env := by subst hY; exact ⟨rfl, rfl, rfl, rfl⟩
    obtain ⟨eP, ew, eA, ee⟩ := ePw
    rw [← eP, ← ew, ← eA, ← ee, ← eE]
    rcases turn i n ys H3 w3 with ⟨stp, qn⟩ | av
    · refine thn (Wk.done i [] s3 _ H3 I3 (fpY fr3) st3 stp) fun r s4 ⟨hr, I5⟩ => ?_
      subst hr
      obtain ⟨m, hn, _⟩ := id I5.loc
      have eC : Y.env.locals = s2.heap.objs.size + 1 := by rw [ee]; rfl
      rw [eC] at hn
      refine ⟨m, hn, fun h' hs => ?_⟩
      have u := I5.base
      have hokY := I5.hok
      have hfree := I5.free
      rw [eC] at hfree
      have hbare := I5.bare
      have hos := I5.os
      subst hY
      have u2 : Un (frs X.stack) fp H2 H3 s2.heap h' := Un.but u hs (Nat.le_succ _)
      have hok2 : HOk X.prog X.w H3 h' := HOk.but hokY hs hfree
      refine ⟨.ref s2.heap.objs.size, H3, ?_, rfl, qn⟩
      obtain ⟨hh, g, d, t, os'⟩ := s4
      obtain rfl : os' = s2.os := hos
      exact Inv.call (s := s2) (h' := h') (g' := g) (d' := d) (t' := t) (ch := fp) I2 u2 hok2 hbare fun b hb => ⟨(hfp b hb).2.2.2.1, (hfp b hb).2.1, (hfp b hb).2.2.2.2.1, (hfp b hb).2.2.2.2.2⟩
    · refine thn (Wk.item i [] s3 _ H3 _ I3 (fpY fr3) st3 av) fun r s4 ⟨u, hr, h4⟩ => ?_
      subst hr
      refine thn h4 fun _ s5 h5 => thn h5 fun _ s6 ⟨σ6, H6, I6, ⟨kp, q6⟩, st6, fr6⟩ => ?_
      have I6' := I6.pinned (fp := fp) (fpY fr6) (Wk.obj _ _ st6)
      refine thn (ht _ s6 σ6 H6 _ I6' q6) fun b s7 ⟨H7, I7, q7⟩ => ?_
      cases b with
      | false =>
        obtain ⟨m', hm, w7⟩ := q7
        obtain ⟨J1, J2, J3⟩ := stores_keep (tg := tg) (tn := tn) (i := i + 1) (Wk.obj _ _ st6) (fun h' k => Wk.keep _ _ _ st6 k) I7
        exact ⟨m', hm, i + 1, ys, H7, J1.weak kp.2.symm kp.get, J2, J3, w7⟩
      | true =>
        refine thn (he _ s7 σ6 H7 _ I7 q7) fun y s8 ⟨yv, H8, I8, r8, hD8, hz8, m', hm, w8⟩ => ?_
        refine thn (mt_append (X := Y) _ s8 σ6 H8 (.ref s2.heap.objs.size) [yv] _ _ (fun v H' => v = .non ∧ H' = upd H8 s2.heap.objs.size (.lst (ys ++ [yv]))) I8 rfl (.cons r8 .nil) ⟨_, ys, yv, rfl, rfl, hD8, hz8, rfl, rfl⟩) fun v s9 ⟨_, H9, I9, _, _, e9⟩ => ?_
        subst e9
        obtain ⟨J1, J2, J3⟩ := stores_keep (tg := tg) (tn := tn) (i := i + 1) (Wk.obj _ _ st6) (fun h' k => Wk.keep _ _ _ st6 k) I9
        exact ⟨m', hm, i + 1, ys ++ [yv], _, J1.weak kp.2.symm kp.get, J2, J3, w8⟩
  exact codeAny_compStart_list loop ((Wk 0).self _ 0 _ _ _ st4 loop)
def tComp (o : Nat) (caps : List Nat) (wi : TI) (g : TG) (tt : TT) (te : TE) : TE := fun σ H Q => wi σ H fun J H1 => tCompW o caps (advOf J g) J.stop tt te σ H1 Q
theorem pe_comp {elt iter tg : Expr} {ifs : List Expr} {scope : Scope} {pos : Pos} {NY : List Str} {o : Nat} {caps : List Nat} {wi : TI} {g : TG} {tt : TT} {te : TE}
    (S : CompScope X NY o caps scope) (hc : X.calm = true) (hi : PI X tg iter wi)
    (hg : ∀ C s H fp pins, PG (cxComp X NY scope C s H fp pins) tg g) (ht : ∀ C s H fp pins, PTs (cxComp X NY scope C s H fp pins) ifs tt) (he : ∀ C s H fp pins, PE (cxComp X NY scope C s H fp pins) elt te)
    (hs : ∀ x, foldedSetIterable iter X.env x = pure x := by intro _; rfl) : PE X (.ListComp elt [⟨tg, iter, ifs, 0⟩] scope pos) (tComp o caps wi g tt te) := by
  intro pins s σ H Q I h
  rw [eval_ListComp]
  refine wpAny_comprehension_free (use := none) (g := ⟨tg, iter, ifs, 0⟩) (gs := []) rfl hs (closureFor_ok fun y hy e => I.ok.has _ (S.frees y hy e)) S.kind S.locs ?_
  show wpAny _ _ (eval iter X.env) _ _ s
  refine thn (hi pins s σ H _ I h) fun v s1 h1 => thn h1 fun itv s2 h2 => ?_
  obtain ⟨it, fp, tn, J, H2, e, I2, T, st2, f2, hr⟩ := h2
  subst e
  exact comp_block S I2 f2 st2 (fun C => Turn.walk (Y := cxComp X NY scope C s2 H2 fp pins) hc T (hg _ _ _ _ _)) (fun C => ht _ _ _ _ _) (fun C => he _ _ _ _ _) hr
end
end L2
set_option Elab.async false
set_option linter.all false
set_option maxRecDepth 100000
namespace L2
open PySem PySem.Spec PyProof.Rows
def ItV (n : Nat) (val : Nat → V) : It := ⟨fun i _ => i < n, fun i H x H' => H' = H ∧ x = val i, fun i _ => i = n⟩
theorem turn_walks {P : Program} {w : World} {K : PySem.W.Frag} {tg : Expr} {it : Addr} {n : Nat} {Pv : Nat → Value → Prop} {St : Nat → Heap → Prop} (val : Nat → V)
    (W : ∀ A : Around, A.handled = none → Walks P w A it [it] [it] n Pv St) (hv : ∀ i v, Pv i v → RelV (val i) v)
    (ob : ∀ i h, St i h → ∃ o nm vs, h.get? it = some o ∧ o.cls = .type nm ∧ o.data = .fields vs ∧ ["enumerate", "zip", "dict_itemiterator", "dict_reverseitemiterator", "odict_iterator", "itertools.zip_longest", "itertools.pairwise"].contains nm = false)
    (self : ∀ (A : Around) (i : Nat) (s : Shared) (Q : Value → Shared → Prop) (E : Value → Shared → Prop), St i s.heap → Q (.ref it) s → wpAny (model P w) A (pyIter (.ref it)) Q E s) :
    Turn P w K tg (ItV n val) [it] it St where
  mem := by simp
  obj := fun i h st b hb => by
    have e : b = it := by simpa using hb
    subst e
    obtain ⟨o, nm, vs, e, _, d, _⟩ := ob i h st
    exact ⟨o, e, fun v z => by rw [d] at z; cases z⟩
  keep := fun i h h' st k => by
    have ha : callerA.handled = none := rfl
    exact (W callerA ha).frame i h h' st k
  item := by
    intro X hP hw hK hc i pins s σ H E I hf st hg
    subst hP hw hK
    obtain ⟨f0, f1, f2, f3, f4, f5⟩ := hf it (by simp)
    refine (W X.A (I.ok.hd hc)).item i s _ _ hg st fun v h' tk hv' st' kk => ?_
    have I1 : Inv X pins σ H { s with heap := h', toks := tk } := I.turned (fun b o hb e => kk b o (by simpa using hb) e) f0 f1 f3 f4 f5
    obtain ⟨o, nm, vs, e, c, d, nn⟩ := ob _ _ st'
    exact ⟨_, rfl, go_of (s := { s with heap := h', toks := tk }) e c d nn ⟨val i, H, I1, hv i v hv', ⟨rfl, rfl⟩, st', fun b hb => (hf b hb).1⟩⟩
  done := by
    intro X hP hw hK hc i pins s σ H E I hf st hg
    subst hP hw hK
    obtain ⟨f0, f1, f2, f3, f4, f5⟩ := hf it (by simp)
    have hg : i = n := hg
    subst hg
    exact (W X.A (I.ok.hd hc)).done s _ _ st fun h' tk kk => ⟨rfl, I.turned (fun b o hb e => kk b o (by simpa using hb) e) f0 f1 f3 f4 f5⟩
  self := self
theorem for_val {n : Nat} {val : Nat → V} {g : TG} {tb : TS} {D : Ends} {σ : St} {H : Hp} (Pv : Nat → St → Hp → Prop) (h0 : Pv 0 σ H)
    (hs : ∀ i σ H, i < n → Pv i σ H → g (val i) σ H fun σ2 H2 => tb { D with nx := Pv (i + 1), ct := Pv (i + 1), bk := D.nx } σ2 H2) (hd : ∀ σ H, Pv n σ H → D.nx σ H) :
    ∃ W : Nat → Nat → St → Hp → Prop, (∃ m, W 0 m σ H) ∧ ∀ i m σ H, W i m σ H →
      ((ItV n val).stop i H ∧ D.nx σ H) ∨ ((ItV n val).go i H ∧ ∃ N : St → Hp → Prop, (∀ σ' H', N σ' H' → ∃ m', m' < m ∧ W (i + 1) m' σ' H') ∧ ∀ x H', (ItV n val).yld i H x H' → g x σ H' fun σ2 H2 => tb { D with nx := N, ct := N, bk := D.nx } σ2 H2) := by
  refine ⟨fun i m σ H => m = n - i ∧ i ≤ n ∧ Pv i σ H, ⟨n, by simp, Nat.zero_le _, h0⟩, ?_⟩
  rintro i m σ H ⟨rfl, hi, p⟩
  by_cases hlt : i < n
  · refine .inr ⟨hlt, Pv (i + 1), fun σ' H' p' => ⟨n - (i + 1), by omega, rfl, hlt, p'⟩, fun x H' y => ?_⟩
    obtain ⟨e, y⟩ := y
    subst e y
    exact hs i σ _ hlt p
  · have e : i = n := by omega
    subst e
    exact .inl ⟨rfl, hd σ H p⟩
def sgn (z : Str) (i : Nat) : V := .str ⟨#[z.cps.getD i 0]⟩
theorem sgn_of {z : Str} {i : Nat} {v : Value} (h : SignAt z i v) : RelV (sgn z i) v := by
  obtain ⟨c, u, e, rfl⟩ := h
  refine ⟨u, ?_⟩
  have : z.cps.getD i 0 = c := by rw [Array.getD_eq_getD_getElem?, e]; rfl
  rw [this]
def iStr (te : TE) : TI := fun σ H R => te σ H fun x H1 => ∃ z, x = .str z ∧ R (ItV z.cps.size (sgn z)) H1
theorem pi_str {X : Cx} {tg e : Expr} {te : TE} (he : PE X e te) : PI X tg e (iStr te) := by
  intro pins s σ H R I h
  refine thn (he pins s σ H _ I h) fun v s1 ⟨x, H1, I1, r1, z, ez, q⟩ => ?_
  subst ez
  obtain ⟨t, rfl⟩ := r1
  cases ha : z.cps.all (· < 128) with
  | false =>
    refine wpAny_pyIter_wide ha ⟨s1.heap.objs.size, [s1.heap.objs.size], _, _, H1, rfl, I1.kept (t' := s1.toks) fun b o e => Heap.get?_push_of_some _ e,
      turn_walks (sgn z) (fun A hA => Walks.strWide hA _ z t) (fun i v => sgn_of) (fun i h st => ?_) (fun _ _ _ _ _ st h => wpAny_pyIter_striter_wide st h), ⟨_, Heap.get?_push_size _ rfl, rfl, rfl⟩, fun b hb => ?_, q⟩
    · obtain ⟨o, e, c, d⟩ := st
      exact ⟨o, _, _, e, c, d, by decide⟩
    · have e : b = s1.heap.objs.size := by simpa using hb
      subst e
      exact I1.fpOk (Nat.le_refl _) (I1.hok.fresh (Nat.le_refl _))
  | true =>
    refine wpAny_pyIter_ascii ha ⟨s1.heap.objs.size, [s1.heap.objs.size], _, _, H1, rfl, I1.kept (t' := s1.toks) fun b o e => Heap.get?_push_of_some _ e,
      turn_walks (sgn z) (fun A hA => Walks.strAscii hA _ z t) (fun i v => sgn_of) (fun i h st => ?_) (fun _ _ _ _ _ st h => wpAny_pyIter_striter_ascii st h), ⟨_, Heap.get?_push_size _ rfl, rfl, rfl⟩, fun b hb => ?_, q⟩
    · obtain ⟨o, e, c, d⟩ := st
      exact ⟨o, _, _, e, c, d, by decide⟩
    · have e : b = s1.heap.objs.size := by simpa using hb
      subst e
      exact I1.fpOk (Nat.le_refl _) (I1.hok.fresh (Nat.le_refl _))
theorem call_ty1 {X : Cx} {T : String} {x : Str} {a : Expr} {ta : TA} {p pos : Pos} {pins : List (Addr × Obj)} {s : Shared} {σ : St} {H : Hp} {Q : Value → Shared → Prop} {R : List V → Hp → Prop} (hg : Gl X x) (hm : X.mg x = none) (hv : bootBuiltins x = some (.type T))
    (ha : PA X [a] ta) (I : Inv X pins σ H s) (h : ta σ H R) (hk : ∀ us s1 vs H1, Inv X pins σ H1 s1 → Vals vs us → R vs H1 → wpAny (model X.prog X.w) X.A (call (.type T) us) Q X.xe s1)
    (hn : x ≠ "__name__" := by decide) (hd : (x == ("__debug__" : Str)) = false := by decide) (hs : starEach [a] X.env = [(false, eval a X.env)] := by rfl) : wpAny (model X.prog X.w) X.A (eval (.Call (.Name x p) [a] [] pos) X.env) Q X.xe s := by
  refine Call_ (ld_blt I hg hm hv (PyProof.Rows.callWith_type1 (thn (ha pos pins s σ H _ I h) fun us s1 ⟨vs, H1, I1, r1, q1⟩ => hk us s1 vs H1 I1 r1 q1) hs rfl) hn hd)
def IteL (K : PySem.W.Frag) (a : Addr) : It2 :=
  ⟨fun i H => ∃ xs x, SqL K H a xs ∧ xs[i]? = some x, fun i H ys H' => H' = H ∧ ∃ x, ys = [.int i, x] ∧ ∀ xs, SqL K H a xs → xs[i]? = some x, fun i H => ∃ xs, SqL K H a xs ∧ xs.length ≤ i⟩
def enumTn (e it a : Addr) (i : Nat) (h : Heap) : Prop := (∃ old, IsEnum h e it i old) ∧ h.IsListIter it a i
theorem turn_enum {P : Program} {w : World} {K : PySem.W.Frag} {es : List Expr} {k : Nat} {pos : Pos} (a e it : Addr) (hne : e ≠ it) : Turn2 P w K (.Tuple es k pos) (IteL K a) [e, it] e (enumTn e it a) where
  obj := fun i h st b hb => by
    obtain ⟨⟨old, he⟩, o, ho, c, d⟩ := st
    have hb : b = e ∨ b = it := by simpa using hb
    rcases hb with z | z
    · subst z; exact ⟨_, he, fun v q => by cases q⟩
    · subst z; exact ⟨o, ho, fun v q => by rw [d] at q; cases q⟩
  keep := fun i h h' st k => by
    obtain ⟨⟨old, he⟩, hit⟩ := st
    exact ⟨⟨old, k e (by simp) _ he⟩, hit.at fun o q => k it (by simp) o q⟩
  item := by
    intro X hP hw hK hc i pins s σ H E I hf st hg
    subst hP hw hK
    obtain ⟨xs, x, hq, hx⟩ := hg
    obtain ⟨its, rv, p, hz⟩ := I.list hq
    obtain ⟨u, hu, ru⟩ := rv.get hx
    obtain ⟨⟨old, he⟩, hit⟩ := st
    have fe := hf e (by simp)
    have fi := hf it (by simp)
    refine wpAny_pyNext_enum_item he hit p.isList (x := u) (by simpa using hu) hne fun h' heo hit' ht hsz hk => ?_
    refine ⟨s.heap.objs.size, rfl, wpAny_letOwnedTupleGo_enum heo fun h2 he2 hs2 => ?_⟩
    replace hs2 : Heap.SameBut e h' h2 := hs2
    have hel : e < s.heap.objs.size := Heap.lt_size he
    have k2 : ∀ b o, b ≠ e → b ≠ it → s.heap.get? b = some o → h2.get? b = some o := fun b o h1 h3 q => hs2.extBut b o h1 (hk b o h1 h3 q)
    have I1 : Inv X pins σ H { s with heap := h2, toks := s.toks + 1 } := by
      refine I.step (g' := s.gens) (d' := s.drawn) (ch := [e, it]) (fun b hb => ?_) (fun b o _ _ hcc q _ => k2 b o (fun z => hcc (by simp [z])) (fun z => hcc (by simp [z])) q)
        (fun b o _ _ hcc q _ => ⟨o.slots, k2 b o (fun z => hcc (by simp [z])) (fun z => hcc (by simp [z])) q⟩) (fun _ _ _ _ n => n) (fun b o hcc q => ⟨o, k2 b o (fun z => hcc (by simp [z])) (fun z => hcc (by simp [z])) q⟩)
        (fun _ _ q => q) (fun _ _ _ q => q) (fun b ps q => ⟨#[], by rw [q]; simp⟩) (fun m hm => ?_) (fun b u q => ?_) I.bare
      · have hb : b = e ∨ b = it := by simpa using hb
        rcases hb with z | z
        · subst z; exact ⟨fe.2.2.2.1, fe.2.1, fe.2.2.2.2.1, fe.2.2.2.2.2⟩
        · subst z; exact ⟨fi.2.2.2.1, fi.2.1, fi.2.2.2.2.1, fi.2.2.2.2.2⟩
      · obtain ⟨o, es', ep, ho, r⟩ := hm
        exact ⟨o, es', ep, k2 _ o (Ne.symm fe.2.1) (Ne.symm fi.2.1) ho, r⟩
      · refine (I.hok b u q).stay (fun c v hcc z => k2 c v (fun y => ?_) (fun y => ?_) z) (fun _ z => z) fun _ _ z => z
        · rcases hcc with y' | y'
          · rw [← y', y, fe.1] at q; cases q
          · rw [y, fe.1] at y'; cases y'
        · rcases hcc with y' | y'
          · rw [← y', y, fi.1] at q; cases q
          · rw [y, fi.1] at y'; cases y'
    refine ⟨[.int i, x], [.int i s.toks, u], H, I1, ⟨_, (hs2.extBut _ _ (Nat.ne_of_gt hel) ht), rfl, _, rfl⟩, .cons ⟨_, rfl⟩ (.cons ru .nil), ⟨rfl, x, rfl, fun ys hy => by rw [I.list_inj hy hq]; exact hx⟩, ⟨⟨u, ?_⟩, hit'.extBut hs2.extBut (Ne.symm hne)⟩, fun b hb => (hf b hb).1⟩
    · have : ((i : Int) + 1) = ((i + 1 : Nat) : Int) := by omega
      rw [← this]; exact he2
  done := by
    intro X hP hw hK hc i pins s σ H E I hf st hg
    subst hP hw hK
    obtain ⟨xs, hq, hx⟩ := hg
    obtain ⟨its, rv, p, hz⟩ := I.list hq
    obtain ⟨⟨old, he⟩, hit⟩ := st
    obtain ⟨f0, f1, f2, f3, f4, f5⟩ := hf it (by simp)
    have hl := rv.length
    exact wpAny_pyNext_enum_end (I.ok.hd hc) he hit p.isList (by simp; omega) fun h' eb => ⟨rfl, I.turned (t' := s.toks) (fun b o hb e => eb b o hb e) f0 f1 f3 f4 f5⟩
  self := fun A i s Q E st h => by
    obtain ⟨⟨old, he⟩, hit⟩ := st
    exact wpAny_pyIter_enum he h
def iEnum (K : PySem.W.Frag) (ta : TA) : TI2 := fun σ H R => ta σ H fun vs H1 => ∃ a, vs = [.ref a] ∧ (∃ xs, SqL K H1 a xs) ∧ R (IteL K a) H1
theorem pi_enum {X : Cx} {es : List Expr} {k : Nat} {tpos : Pos} {l : Expr} {ta : TA} {p pos : Pos} (hg : Gl X "enumerate") (hm : X.mg "enumerate" = none) (ha : PA X [l] ta) (hs : starEach [l] X.env = [(false, eval l X.env)] := by rfl) :
    PI2 X (.Tuple es k tpos) (.Call (.Name "enumerate" p) [l] [] pos) (iEnum X.K ta) := by
  intro pins s σ H R I h
  refine call_ty1 (R := fun vs H1 => ∃ a, vs = [.ref a] ∧ (∃ xs, SqL X.K H1 a xs) ∧ R (IteL X.K a) H1) hg hm boot_enumerate ha I h (fun us s1 vs H1 I1 r1 q1 => ?_) (hs := hs)
  obtain ⟨a, e, ⟨xs, hq⟩, q⟩ := q1
  subst e
  obtain ⟨u, rfl, ru⟩ := vals1 r1
  cases ru
  obtain ⟨its, rv, pl, hz⟩ := I1.list hq
  refine call_enumerate_list pl.isList fun h' he hit hsz hk => wpAny_pyIter_enum he ?_
  refine ⟨s1.heap.objs.size + 1, [s1.heap.objs.size + 1, s1.heap.objs.size], _, _, H1, rfl, I1.kept (t' := s1.toks) hk, turn_enum a _ _ (Nat.succ_ne_self _), ⟨⟨_, he⟩, hit⟩, fun b hb => ?_, q⟩
  have hb : b = s1.heap.objs.size + 1 ∨ b = s1.heap.objs.size := by simpa using hb
  rcases hb with z | z
  · subst z; exact I1.fpOk (Nat.le_succ _) (I1.hok.fresh (Nat.le_succ _))
  · subst z; exact I1.fpOk (Nat.le_refl _) (I1.hok.fresh (Nat.le_refl _))
end L2
set_option Elab.async false
set_option linter.all false
set_option maxRecDepth 100000
namespace L2
open PySem PySem.Spec PyProof.Rows
abbrev cs (z : Str) : List Nat := z.cps.toList
def ofCs (l : List Nat) : Str := ⟨l.toArray⟩
theorem of_cs (z : Str) : ofCs (cs z) = z := rfl
theorem cs_inj {a b : Str} (h : cs a = cs b) : a = b := by rw [← of_cs a, ← of_cs b, h]
abbrev vS (l : List Nat) : V := .str (ofCs l)
theorem vS_inj {a b : List Nat} (h : vS a = vS b) : a = b := by
  injection h with h
  have := congrArg cs h
  exact this
theorem of_strsAre : ∀ {ss : List Str} {us : List Value}, StrsAre us ss → Vals (ss.map V.str) us
  | _, _, .nil => .nil
  | _, _, .cons x t h => .cons ⟨t, rfl⟩ (of_strsAre h)
section
variable {X : Cx}
def srtS (ss : List Str) : List Str := (Fs.srt (ss.map cs)).map ofCs
theorem ltCps_iff (a b : List Nat) : ltCps a b = decide (a < b) := ltCps_eq a b
theorem srtS_of {ss ss' : List Str} (hp : ss'.Perm ss) (hs : sortedS ss' = true) : ss' = srtS ss := by
  have key : ∀ (p : Str) (l : List Str), risingS p l = true → (∀ x ∈ l, ¬ cs x < cs p) ∧ (l.map cs).Pairwise (fun x y => ¬ y < x) := by
    intro p l
    induction l generalizing p with
    | nil => intro _; exact ⟨by simp, by simp⟩
    | cons a l ih =>
      intro h
      simp only [risingS, Bool.and_eq_true, Bool.not_eq_true'] at h
      obtain ⟨h1, h2⟩ := h
      have ha : ¬ cs a < cs p := by
        have := h1
        rw [ltCps_iff] at this
        exact of_decide_eq_false this
      obtain ⟨i1, i2⟩ := ih a h2
      refine ⟨fun x hx => ?_, ?_⟩
      · rcases List.mem_cons.mp hx with e | e
        · rw [e]; exact ha
        · intro hlt
          have := i1 x e
          by_cases hpa : cs p < cs a
          · exact this (List.lt_trans hlt hpa)
          · have e' := Fs.plt_total hpa ha
            rw [e'] at hlt
            exact this hlt
      · rw [List.map_cons]
        exact List.pairwise_cons.mpr ⟨fun y hy => by
          obtain ⟨x, hx, rfl⟩ := List.mem_map.mp hy
          exact i1 x hx, i2⟩
  have hpw : (ss'.map cs).Pairwise (fun x y => ¬ y < x) := by
    cases ss' with
    | nil => simp
    | cons a l =>
      have h : risingS a l = true := hs
      obtain ⟨i1, i2⟩ := key a l h
      rw [List.map_cons]
      exact List.pairwise_cons.mpr ⟨fun y hy => by
        obtain ⟨x, hx, rfl⟩ := List.mem_map.mp hy
        exact i1 x hx, i2⟩
  have e := Fs.srt_of (hp.map cs) hpw
  unfold srtS
  rw [← e, List.map_map]
  have : ofCs ∘ cs = id := funext fun z => of_cs z
  rw [this, List.map_id]
theorem same_upd {H : Hp} {p : Addr} (h : H p = none) (o : HO) : Same H (upd H p o) := fun b u q => by rw [upd_ne (ne_of_none q h)]; exact q
end
end L2
set_option Elab.async false
set_option linter.all false
set_option maxRecDepth 100000
namespace L2
open PySem PySem.Spec PyProof.Rows
theorem erase_perm {α : Type} : ∀ (l : List α) (i : Nat) (h : i < l.length), (l[i] :: l.eraseIdx i).Perm l
  | x :: l, 0, _ => List.Perm.refl _
  | x :: l, i + 1, h => by
    have := erase_perm l i (by simpa using h)
    rw [List.getElem_cons_succ, List.eraseIdx_cons_succ]
    exact (List.Perm.swap _ _ _).trans (this.cons x)
section
variable {prog : Program} {w : World} {A : Around} {E : Value → Shared → Prop} {s : Shared}
theorem wpAny_choose {M : Model} {src : Source} {n : Nat} {Q : Nat → Shared → Prop} (hn : n ≠ 0) (h : ∀ i d, i < n → Q i { s with drawn := d }) : wpAny M A (choose src n) Q E s := fun Γ p hΓ => by
  show Sem.wp M Γ (Sem.choose src n Sem.pure) _ _ p s
  rw [Sem.wp]
  refine ⟨hn, ?_⟩
  rw [Sem.wp]
  exact h _ _ (Nat.mod_lt _ (Nat.pos_of_ne_zero hn))
theorem wpAny_drawOrder {M : Model} {α : Type} : ∀ (n : Nat) (xs : List α) (s : Shared) (Q : List α → Shared → Prop), xs.length = n → (∀ ys d, ys.Perm xs → Q ys { s with drawn := d }) → wpAny M A (drawOrder n xs) Q E s
  | 0, xs, s, Q, hl, h => by
    have : xs = [] := List.eq_nil_of_length_eq_zero hl
    subst this
    unfold drawOrder
    have e := h [] s.drawn (List.Perm.refl _)
    cases s
    exact wpAny_pure e
  | n + 1, [], s, Q, hl, h => by simp at hl
  | n + 1, x :: xs, s, Q, hl, h => by
    unfold drawOrder
    refine wpAny_bind (wpAny_choose (by simp) fun i d hi => ?_)
    have e : (x :: xs)[i]? = some (x :: xs)[i] := List.getElem?_eq_getElem hi
    rw [e]
    dsimp only
    refine wpAny_bind (wpAny_drawOrder n ((x :: xs).eraseIdx i) _ _ ?_ fun ys d' hp => wpAny_pure ?_)
    · rw [List.length_eraseIdx_of_lt hi]; omega
    · refine h _ d' ((hp.cons _).trans ?_)
      exact erase_perm (x :: xs) i hi
def byT (w : World) : Prop := w.params.followText "set-order" = true
def entS (P : Program) (w : World) (x : Str) (e : Int × Value) : Prop := e.1 = (mixKind P w).hash (.inr x) ∧ ∃ t, e.2 = .str x t
def SetAt (P : Program) (w : World) (h : Heap) (a : Addr) (ys : List Str) : Prop :=
  ∃ o es ep t, h.get? a = some o ∧ o.ExactSet ∧ o.data = .set es ep t ∧ Paired (entS P w) ys es.toList ∧ ys.Nodup ∧ ys.length < scanBound ∧ t.fits es.size = true ∧ (t.led = true ∨ byT w) ∧ (ys = [] ∨ t.plain = false)
theorem ents_elems {P : Program} {w : World} {ys : List Str} {l : List (Int × Value)} (h : Paired (entS P w) ys l) : ElemsOf (mixKind P w) l := by
  induction h with
  | nil => intro e he; cases he
  | cons h _ ih =>
    intro e he
    rcases List.mem_cons.mp he with z | z
    · subst z
      obtain ⟨h1, t, h2⟩ := h
      exact ⟨⟨.inr _, by rw [h2]; exact mixKind_str _ _ _ _, h1⟩, by rw [h2]; rfl⟩
    · exact ih e z
theorem ents_mem {P : Program} {w : World} {ys : List Str} {l : List (Int × Value)} (h : Paired (entS P w) ys l) (k : Key) : (∃ e ∈ l, (mixKind P w).is k e.2 = true) ↔ ∃ y ∈ ys, k = .inr y := by
  induction h with
  | nil => simp
  | @cons y e ys l h _ ih =>
    obtain ⟨h1, t, h2⟩ := h
    have hk : (mixKind P w).is k e.2 = true ↔ k = .inr y := by
      rw [h2]
      constructor
      · intro q
        exact (mixKind P w).inj _ _ _ q (mixKind_str P w y t)
      · rintro rfl; exact mixKind_str P w y t
    simp only [List.mem_cons, exists_eq_or_imp, ih, hk]
theorem paired_perm {α β : Type} {F : α → β → Prop} {xs : List α} {l l' : List β} (h : Paired F xs l) (p : l'.Perm l) : ∃ xs', xs'.Perm xs ∧ Paired F xs' l' := by
  induction p generalizing xs with
  | nil => cases h; exact ⟨[], List.Perm.refl _, .nil⟩
  | cons b p ih =>
    cases h with
    | cons h t =>
      obtain ⟨xs', h1, h2⟩ := ih t
      exact ⟨_ :: xs', h1.cons _, .cons h h2⟩
  | swap a b l =>
    cases h with
    | cons h t =>
      cases t with
      | cons h' t => exact ⟨_, List.Perm.swap _ _ _, .cons h' (.cons h t)⟩
  | trans _ _ i1 i2 =>
    obtain ⟨xs', h1, h2⟩ := i2 h
    obtain ⟨xs'', h3, h4⟩ := i1 h2
    exact ⟨xs'', h3.trans h1, h4⟩
theorem paired_append {α β : Type} {F : α → β → Prop} : ∀ {xs ys : List α} {us vs : List β}, Paired F xs us → Paired F ys vs → Paired F (xs ++ ys) (us ++ vs)
  | _, _, _, _, .nil, s => s
  | _, _, _, _, .cons r t, s => .cons r (paired_append t s)
theorem lay_flags (t : SetTable) (es : Array (Int × Value)) (h : Int) (x : Value) : (layNew t es h x).2.1.led = t.led ∧ (t.plain = false → (layNew t es h x).2.1.plain = false) := by
  unfold layNew
  split
  · rename_i slot wd e
    dsimp only
    unfold SetTable.orStandIn
    split
    · exact ⟨rfl, fun h => h⟩
    · exact ⟨rfl, fun _ => rfl⟩
  · exact ⟨rfl, fun _ => rfl⟩
theorem laid_flags {mask finger moves : Nat} {led plain : Bool} {hs : Array Int} {r : SetTable × Array Nat} (h : SetTable.laid mask finger moves led plain hs = some r) : r.1.led = led ∧ r.1.plain = plain := by
  unfold SetTable.laid at h
  cases e : SetTable.layClean mask hs with
  | none => rw [e] at h; cases h
  | some o => rw [e] at h; cases h; exact ⟨rfl, rfl⟩
theorem relay_flags (t : SetTable) (es : Array (Int × Value)) (n : Nat) : (relayAll t es n).2.1.led = t.led ∧ (t.plain = false → (relayAll t es n).2.1.plain = false) := by
  unfold relayAll
  split
  · rename_i t' order e
    have f := laid_flags (show SetTable.laid _ _ _ _ _ _ = some (t', order) from e)
    dsimp only
    split
    · exact ⟨f.1, fun h => f.2.trans h⟩
    · exact ⟨rfl, fun _ => rfl⟩
  · exact ⟨rfl, fun _ => rfl⟩
theorem setAt_put {P : Program} {w : World} {h : Heap} {a : Addr} {o : Obj} {es : Array (Int × Value)} {ep : Nat} {t : SetTable} (ho : h.get? a = some o) (hex : o.ExactSet) (hd : o.data = .set es ep t)
    {es' : Array (Int × Value)} {t' : SetTable} {ys : List Str} (hp : Paired (entS P w) ys es'.toList) (nd : ys.Nodup) (hb : ys.length < scanBound) (hf : t'.fits es'.size = true) (hl : t'.led = true ∨ byT w) (hpl : ys = [] ∨ t'.plain = false) :
    (h.update a (Obj.putSet es' t')).get? a = some { o with data := .set es' (ep + 1) t' } ∧ SetAt P w (h.update a (Obj.putSet es' t')) a ys := by
  have hg : (h.update a (Obj.putSet es' t')).get? a = some { o with data := .set es' (ep + 1) t' } := by
    have := Heap.get?_update_self (Obj.putSet es' t') ho (by rw [putSet_of es' t' hd]; rfl)
    rw [putSet_of es' t' hd] at this; exact this
  exact ⟨hg, _, es', ep + 1, t', hg, hex, rfl, hp, nd, hb, hf, hl, hpl⟩
theorem add_tail {g : Bool → Sem Unit} (hg : ∀ (b : Bool) (s₁ : Shared) (Q' : Unit → Shared → Prop), Q' () s₁ → wpAny (model prog w) A (g b) Q' E s₁)
    {a : Addr} {o : Obj} {es : Array (Int × Value)} {ep : Nat} {t : SetTable} (ho : s.heap.get? a = some o) (hex : o.ExactSet) (hd : o.data = .set es ep t)
    {es1 : Array (Int × Value)} {t2 : SetTable} {ys : List Str} (hp1 : Paired (entS prog w) ys es1.toList) (nd : ys.Nodup) (hb1 : ys.length < scanBound) (hf2 : t2.fits es1.size = true) (hl : t2.led = true ∨ byT w) (hpl : t2.plain = false)
    {wasDummy : Bool} {R : Option Bool → Shared → Prop}
    (h : ∀ h' ys', Heap.SameBut a s.heap h' → ys'.Perm ys → SetAt prog w h' a ys' → R (some true) { s with heap := h' }) :
    wpAny (model prog w) A (do
        storeSet a es1 t2
        if (!wasDummy && t2.tooFull) = true then do
            g (relayAll t2 es1 (SetTable.grown es1.size)).2.2
            storeSet a (relayAll t2 es1 (SetTable.grown es1.size)).1 (relayAll t2 es1 (SetTable.grown es1.size)).2.1
            pure (some true)
          else pure (some true)) R E s := by
  have hlen : es1.size < scanBound := by rw [← Array.length_toList, ← hp1.length]; exact hb1
  refine wpAny_bind (wpAny_storeSet_of ho hd ?_ (fits_of_scanBound hlen))
  obtain ⟨ho1, hS1⟩ := setAt_put (P := prog) (w := w) ho hex hd hp1 nd hb1 hf2 hl (.inr hpl)
  have hsb1 := Heap.SameBut.update s.heap a (Obj.putSet es1 t2)
  split
  · have hp := relayAll_perm t2 es1 (SetTable.grown es1.size)
    have hfr := relayAll_fits t2 es1 (SetTable.grown es1.size)
    have hfl := relay_flags t2 es1 (SetTable.grown es1.size)
    generalize hRl : relayAll t2 es1 (SetTable.grown es1.size) = Rl at hp hfr hfl ⊢
    obtain ⟨es2, t3, gave2⟩ := Rl
    dsimp only at hp hfr hfl ⊢
    obtain ⟨ys', hy, hp2⟩ := paired_perm hp1 hp
    have hlen2 : es2.size < scanBound := by rw [← Array.length_toList, hp.length_eq, Array.length_toList]; exact hlen
    refine wpAny_bind (hg _ _ _ ?_)
    refine wpAny_bind (wpAny_storeSet_of ho1 rfl ?_ (fits_of_scanBound hlen2))
    obtain ⟨_, hS2⟩ := setAt_put (P := prog) (w := w) ho1 hex rfl hp2 (hy.nodup_iff.mpr nd) (by rw [hy.length_eq]; exact hb1) hfr (by rw [hfl.1]; exact hl) (.inr (hfl.2 hpl))
    exact wpAny_pure (h _ ys' (hsb1.trans (Heap.SameBut.update _ a _)) hy hS2)
  · exact wpAny_pure (h _ ys hsb1 (List.Perm.refl _) hS1)
theorem setAdd_S {a : Addr} {ys : List Str} {x : Str} {t0 : Tok} {Q : Bool → Shared → Prop} (hS : SetAt prog w s.heap a ys) (hroom : ys.length + 1 < scanBound)
    (h0 : x ∈ ys → Q false s) (h1 : x ∉ ys → ∀ h' ys', Heap.SameBut a s.heap h' → ys'.Perm (ys ++ [x]) → SetAt prog w h' a ys' → Q true { s with heap := h' }) :
    wpAny (model prog w) A (setAddHashed a (.str x t0) ((mixKind prog w).hash (.inr x))) Q E s := by
  obtain ⟨o, es, ep, t, ho, hex, hd, hp, nd, hb, hf, hl, hpl⟩ := hS
  have hel := ents_elems hp
  have hkey : (mixKind prog w).is (.inr x) (.str x t0) = true := mixKind_str _ _ _ _
  have hsc : (Value.str x t0).scannable = true := rfl
  have hlen : es.size < scanBound := by rw [← Array.length_toList, ← hp.length]; exact hb
  unfold setAddHashed setAddHashedIn
  refine wpAny_holding (wpAny_bind (wpAny_setState_of ho hd hf ?_))
  dsimp only
  rw [byScan_of hsc hlen hel]
  simp only [↓reduceIte]
  unfold setAddByScan
  refine wpAny_bind ?_
  refine wpAny_bind (wpAny_rule ?_)
  refine wpAny_bind (wpAny_setScan_of hkey ho hd hf hel ?_)
  cases hr : List.findIdx? (fun e => (mixKind prog w).is (.inr x) e.2) es.toList with
  | some j =>
    dsimp only
    obtain ⟨hj, hpj, _⟩ := List.findIdx?_eq_some_iff_getElem.mp hr
    obtain ⟨y, hy, e⟩ := (ents_mem hp (.inr x)).mp ⟨es.toList[j], List.getElem_mem hj, hpj⟩
    cases e
    exact wpAny_pure (wpAny_pure (h0 hy))
  | none =>
    dsimp only
    have hx : x ∉ ys := fun hx => by
      obtain ⟨e, he, q⟩ := (ents_mem hp (.inr x)).mpr ⟨x, hx, rfl⟩
      have := List.findIdx?_eq_none_iff.mp hr e he
      rw [q] at this; exact Bool.noConfusion this
    have hgw : ∀ (b : Bool) {s₁ : Shared} {Q' : Unit → Shared → Prop}, Q' () s₁ → wpAny (model prog w) A (match b with | true => rule "set.scan.the-table-gave-way" | false => pure ()) Q' E s₁ :=
      fun b s₁ Q' hq => by cases b <;> first | exact wpAny_pure hq | exact wpAny_rule hq
    have hperm := layNew_perm t es ((mixKind prog w).hash (.inr x)) (.str x t0)
    have hfits := layNew_fits t es ((mixKind prog w).hash (.inr x)) (.str x t0)
    have hfl := lay_flags t es ((mixKind prog w).hash (.inr x)) (.str x t0)
    generalize hL : layNew t es ((mixKind prog w).hash (.inr x)) (.str x t0) = L at hperm hfits hfl ⊢
    obtain ⟨es1, t1, wasDummy, gave⟩ := L
    dsimp only at hperm hfits hfl ⊢
    rw [Array.toList_push] at hperm
    obtain ⟨ys1, hy1, hp1⟩ := paired_perm (paired_append hp (.cons (F := entS prog w) (a := x) (b := ((mixKind prog w).hash (.inr x), .str x t0)) ⟨rfl, t0, rfl⟩ .nil)) hperm
    have nd1 : ys1.Nodup := by
      rw [hy1.nodup_iff]
      exact List.nodup_append.mpr ⟨nd, by simp, fun a ha b hb e => by simp at hb; subst hb; subst e; exact hx ha⟩
    have hb1 : ys1.length < scanBound := by rw [hy1.length_eq, List.length_append]; exact hroom
    refine wpAny_bind (hgw _ ?_)
    have hend : ∀ h' ys', Heap.SameBut a s.heap h' → ys'.Perm ys1 → SetAt prog w h' a ys' → Q true { s with heap := h' } := fun h' ys' hsb hq hS' => h1 hx h' ys' hsb (hq.trans hy1) hS'
    split
    · refine wpAny_bind ?_
      rw [hashByValue_scannable 8 hsc]
      refine wpAny_pure ?_
      refine add_tail (t2 := _) ?_ ho hex hd hp1 nd1 hb1 (SetTable.fits_plain_off hfits) (by show t1.led = true ∨ _; rw [hfl.1]; exact hl) rfl ?_
      · intro b s₁ Q' hq; cases b <;> first | exact wpAny_pure hq | exact wpAny_rule hq
      · intro h' ys' hsb hq hS'; dsimp only; exact wpAny_pure (hend h' ys' hsb hq hS')
    · rename_i hnp
      refine wpAny_bind (wpAny_pure ?_)
      simp only [↓reduceIte]
      refine add_tail ?_ ho hex hd hp1 nd1 hb1 hfits (by rw [hfl.1]; exact hl) (by simpa using hnp) ?_
      · intro b s₁ Q' hq; cases b <;> first | exact wpAny_pure hq | exact wpAny_rule hq
      · intro h' ys' hsb hq hS'; dsimp only; exact wpAny_pure (hend h' ys' hsb hq hS')
end
end L2
set_option Elab.async false
set_option linter.all false
set_option maxRecDepth 100000
namespace L2
open PySem PySem.Spec PyProof.Rows
section
variable {prog : Program} {w : World} {A : Around} {E : Value → Shared → Prop} {s : Shared}
abbrev freshSet (w : World) : Obj := { cls := .type "set", dict := none, data := .set #[] 0 (.fresh 0 0 (!(w.params.followText "set-order"))) }
theorem freshSet_at {h : Heap} {a : Addr} (e : h.get? a = some (freshSet w)) : SetAt prog w h a [] :=
  ⟨_, #[], 0, _, e, ⟨rfl, rfl, rfl⟩, rfl, .nil, List.nodup_nil, by decide, rfl, by
    unfold byT
    cases w.params.followText "set-order"
    · exact .inl rfl
    · exact .inr rfl, .inl rfl⟩
theorem set_new_1 (a : Value) {Q₁ : Value → Shared → Prop} (h : Q₁ (.ref s.heap.objs.size) { s with heap := s.heap.push (freshSet w) }) :
    codeAny (model prog w) A (.call (.builtin "set.__new__") ⟨[.type "set", a], []⟩) (wants Q₁ E) s := by
  refine codeAny_of_tree ?_
  show wpAny _ A.in1 (do checkBuiltinCall "set.__new__" ⟨[.type "set", a], []⟩; again (.builtin "set.__new__" ⟨[.type "set", a], []⟩)) _ _ s
  refine wpAny_bind (wpAny_of_eq (F.newCall_set_1 a) (wpAny_pure ⟨plainId_quiet F.plain_set_new _, codeAny_builtin F.entry_set_new ?_⟩))
  rw [Around.under_plainId F.plain_set_new _]
  unfold Builtin.«set.__new__» Builtin.Frozenset.newClass
  have hsub := sub_set_self
  obtain ⟨hp, g, d, tk, os⟩ := s
  dsimp only
  wp_walk
  refine wpAny_askSetting (wpAny_pure ?_)
  dsimp only
  simp only [newObj]
  refine wpAny_bind (wpAny_alloc (wpAny_pure ?_))
  exact wpAny_pure h
set_option maxHeartbeats 3200000 in
theorem call_set_by (a : Value) {Q : Value → Shared → Prop}
    (h : wpAny (model prog w) A.in1.in1 (Builtin.Frozenset.updateFrom "set.__init__" s.heap.objs.size a) (fun _ s2 => s2.TypeIs (.ref s.heap.objs.size) "set" ∧ Q (.ref s.heap.objs.size) s2) E { s with heap := s.heap.push (freshSet w) }) :
    wpAny (model prog w) A (call (.type "set") [a]) Q E s := by
  obtain ⟨c, tl, hmro⟩ := F.called_set.mro
  have hmade := F.called_set.made
  have hsub := F.called_set.sub
  refine wpAny_call (codeAny_of_tree ?_)
  show wpAny _ _ (callAny (.type "set") _) _ _ _
  refine wpAny_pure ⟨Code.quiet_builtin _ (by decide +kernel), codeAny_builtin F.entry_type_call ?_⟩
  rw [Around.under_plain (weight_type_call_type "set" [a] []) rfl]
  have h1 := F.called_set.notType
  have h2 := F.called_set.canCreate
  have hct := F.typeCall_set_1 a
  repeat (any_goals (first | assumption | wp_step))
  refine codeAny_mono (set_new_1 a (E := E) (Q₁ := fun obj s₁ => obj = .ref s.heap.objs.size ∧ s₁ = { s with heap := s.heap.push (freshSet w) }) ⟨rfl, rfl⟩) fun r s₁ hr => ?_
  cases r with
  | error e => exact hr
  | ok fl =>
    cases fl with
    | ret obj =>
      obtain ⟨rfl, rfl⟩ := hr
      have hS : (s.heap.push (freshSet w)).get? s.heap.objs.size = some (freshSet w) := Heap.get?_push_size _ rfl
      have hT : Shared.TypeIs { s with heap := s.heap.push (freshSet w) } (.ref s.heap.objs.size) "set" := ⟨_, hS, rfl⟩
      have hli := F.called_set.init.lookup
      have hbi := F.called_set.init.bind (.ref s.heap.objs.size)
      repeat (any_goals (first | assumption | wp_step))
      refine codeAny_mono (codeAny_call_builtin (R := wants (fun r s₂ => r = .none ∧ s₂.TypeIs (.ref s.heap.objs.size) "set" ∧ Q (.ref s.heap.objs.size) s₂) E) F.called_set.init.plain F.entry_set_init (check_set_init_1 hT ?_)) fun r₂ s₂ hr₂ => ?_
      · unfold Builtin.«set.__init__» noKeywords
        generalize hUF : Builtin.Frozenset.updateFrom = UF at h ⊢
        wp_walk
        refine wpAny_mono h (fun _ s2 h2 => ?_) (fun _ _ x => x)
        show wpAny _ _ (ret Value.none) _ _ _
        exact wpAny_pure ⟨rfl, h2⟩
      · cases r₂ with
        | error e => exact hr₂
        | ok fl₂ =>
          cases fl₂ with
          | ret r =>
            obtain ⟨rfl, hT2, hq⟩ := hr₂
            repeat (any_goals (first | assumption | wp_step))
          | _ => exact hr₂.elim
    | _ => exact hr.elim
end
end L2
set_option Elab.async false
set_option linter.all false
set_option maxRecDepth 100000
namespace L2
open PySem PySem.Spec PyProof.Rows
section
variable {prog : Program} {w : World} {A : Around} {E : Value → Shared → Prop} {s : Shared}
theorem isAny_no {x : Value} {T : String} {Q : Bool → Shared → Prop} (hT : s.TypeIs x T) (h1 : isSubtype (.type T) (.type "set") = pure false) (h2 : isSubtype (.type T) (.type "frozenset") = pure false) (h : Q false s) :
    wpAny (model prog w) A (Builtin.Frozenset.isAnySet x) Q E s := by
  unfold Builtin.Frozenset.isAnySet
  refine wpAny_bind (wpAny_isInstance hT h1 ?_)
  show wpAny _ _ (isInstance x (.type "frozenset")) _ _ s
  exact wpAny_isInstance hT h2 h
theorem updateFrom_iter {id : String} {S : Addr} {x : Value} {T : String} {Q : Unit → Shared → Prop} (hT : s.TypeIs x T) (h1 : isSubtype (.type T) (.type "set") = pure false) (h2 : isSubtype (.type T) (.type "frozenset") = pure false)
    (h3 : (Value.type T == Value.type "dict") = false)
    (h : wpAny (model prog w) A (pyIter x) (fun it s2 => codeAny (model prog w) A (.builtin "set.update.loop" ⟨[.ref S, it], []⟩) (fun r s3 => r = .ok (.ret .none) ∧ Q () s3) s2) E s) :
    wpAny (model prog w) A (Builtin.Frozenset.updateFrom id S x) Q E s := by
  unfold Builtin.Frozenset.updateFrom
  refine wpAny_bind (isAny_no hT h1 h2 ?_)
  simp only [Bool.false_eq_true, if_false]
  refine wpAny_bind (wpAny_typeOf hT ?_)
  simp only [h3, Bool.false_eq_true, if_false]
  refine wpAny_bind (wpAny_mono h (fun it s2 h2 => ?_) fun _ _ e => e)
  refine wpAny_bind (wpAny_runValue (codeAny_mono h2 fun r s3 hr => ?_))
  obtain ⟨rfl, hq⟩ := hr
  exact wpAny_pure hq
theorem update_loop {I : Addr} {fp wr : List Addr} {n : Nat} {P : Nat → Value → Prop} {St : Nat → Heap → Prop} {R : Result → Shared → Prop} (W : Walks prog w A.in1 I fp wr n P St) (S : Addr) (hSf : S ∉ fp) (val : Nat → Str)
    (hval : ∀ i v, P i v → ∃ t, v = .str (val i) t) (hb : n + 1 < scanBound) :
    ∀ (k i : Nat) (s : Shared) (ys : List Str), n - i = k → i ≤ n → St i s.heap → SetAt prog w s.heap S ys → ys.length ≤ i → (∀ x, x ∈ ys ↔ ∃ j, j < i ∧ val j = x) →
      (∀ h' tk ys', (∀ b o, b ∉ S :: wr → s.heap.get? b = some o → h'.get? b = some o) → SetAt prog w h' S ys' → (∀ x, x ∈ ys' ↔ ∃ j, j < n ∧ val j = x) → R (.ok (.ret .none)) { s with heap := h', toks := tk }) →
      codeAny (model prog w) A (.builtin "set.update.loop" ⟨[.ref S, .ref I], []⟩) R s := by
  have hSw : S ∉ wr := fun h => hSf (W.sub _ h)
  have stay : ∀ {h h' : Heap} {ys : List Str}, SetAt prog w h S ys → (∀ o, h.get? S = some o → h'.get? S = some o) → SetAt prog w h' S ys := fun hS k => by
    obtain ⟨o, es, ep, t, ho, rest⟩ := hS
    exact ⟨o, es, ep, t, k o ho, rest⟩
  intro k
  induction k with
  | zero =>
    intro i s ys hk hi hst hS hl hm hR
    have hin : i = n := by omega
    subst hin
    refine codeAny_builtin F.entry_set_update_loop ?_
    rw [Around.under_plainId F.plain_set_update_loop _]
    show wpAny _ A.in1 (pyNext (.ref I) >>= _) _ _ s
    refine wpAny_bind (W.done s _ _ hst fun h' tk hkk => ?_)
    show wpAny _ A.in1 (ret Value.none) _ _ _
    exact wpAny_pure (hR h' tk ys (fun b o hb e => hkk b o (fun z => hb (List.mem_cons_of_mem _ z)) e) (stay hS fun o e => hkk S o hSw e) hm)
  | succ k ih =>
    intro i s ys hk hi hst hS hl hm hR
    have hlt : i < n := by omega
    refine codeAny_builtin F.entry_set_update_loop ?_
    rw [Around.under_plainId F.plain_set_update_loop _]
    show wpAny _ A.in1 (pyNext (.ref I) >>= _) _ _ s
    refine wpAny_bind (W.item i s _ _ hlt hst fun v h1 tk hP hst' hkk => ?_)
    obtain ⟨t, rfl⟩ := hval i v hP
    have hS1 : SetAt prog w h1 S ys := stay hS fun o e => hkk S o hSw e
    refine wpAny_bind (wpAny_holding ?_)
    unfold setAdd
    refine wpAny_holding ?_
    refine wpAny_bind ((mixKind prog w).pyHash (k := .inr (val i)) (mixKind_str _ _ _ _) ?_)
    have mem1 : ∀ x, (x ∈ ys ∨ x = val i) ↔ ∃ j, j < i + 1 ∧ val j = x := fun x => by
      rw [hm x]
      constructor
      · rintro (⟨j, hj, e⟩ | e)
        · exact ⟨j, by omega, e⟩
        · exact ⟨i, by omega, e.symm⟩
      · rintro ⟨j, hj, e⟩
        by_cases hji : j = i
        · subst hji; exact .inr e.symm
        · exact .inl ⟨j, by omega, e⟩
    refine setAdd_S (s := { s with heap := h1, toks := tk + 1 }) hS1 (by omega) (fun hx => ?_) (fun hx h2 ys2 hsb hp hS2 => ?_)
    · refine wpAny_pure ⟨plainId_quiet F.plain_set_update_loop _, ih (i + 1) _ ys (by omega) hlt hst' hS1 (by omega) (fun x => ?_) fun h3 tk3 ys3 hk3 hS3 hm3 => ?_⟩
      · rw [← mem1 x]
        exact ⟨.inl, fun z => z.elim id fun e => e ▸ hx⟩
      · exact hR h3 tk3 ys3 (fun b o hb e => hk3 b o hb (hkk b o (fun z => hb (List.mem_cons_of_mem _ z)) e)) hS3 hm3
    · refine wpAny_pure ⟨plainId_quiet F.plain_set_update_loop _, ih (i + 1) _ ys2 (by omega) hlt (W.frame _ _ _ hst' fun b hb o e => ?_) hS2 (by rw [hp.length_eq, List.length_append]; simp; omega) (fun x => ?_) fun h3 tk3 ys3 hk3 hS3 hm3 => ?_⟩
      · exact (hsb.2 b (fun z => hSf (z ▸ hb))).trans e
      · rw [← mem1 x, hp.mem_iff, List.mem_append, List.mem_singleton]
      · refine hR h3 tk3 ys3 (fun b o hb e => hk3 b o hb ((hsb.2 b (fun z => hb (z ▸ List.mem_cons_self))).trans (hkk b o (fun z => hb (List.mem_cons_of_mem _ z)) e))) hS3 hm3
end
def setO (P : Program) (w : World) (a : Addr) (xs : List Str) : HO := .ext fun h => ∃ ys, ys.Perm xs ∧ SetAt P w h a ys
theorem setO_ok {P : Program} {w : World} {H : Hp} {h : Heap} {a : Addr} {xs ys : List Str} (hp : ys.Perm xs) (hS : SetAt P w h a ys) : ObjOk P w H h a (setO P w a xs) := by
  refine ⟨⟨ys, hp, hS⟩, ?_, ?_⟩
  · obtain ⟨o, _, _, _, e, _⟩ := hS
    exact ⟨o, e⟩
  · rintro h1 h2 ⟨zs, hz, o, es, ep, t, e, rest⟩ k
    exact ⟨zs, hz, o, es, ep, t, k o e, rest⟩
theorem Inv.set {X : Cx} {pins : List (Addr × Obj)} {σ : St} {H : Hp} {s : Shared} {a : Addr} {xs : List Str} (I : Inv X pins σ H s) (h : H a = some (setO X.prog X.w a xs)) : ∃ ys, ys.Perm xs ∧ SetAt X.prog X.w s.heap a ys :=
  (I.hok a _ h).1
theorem SetAt.typeIs {P : Program} {w : World} {s : Shared} {a : Addr} {ys : List Str} (h : SetAt P w s.heap a ys) : s.TypeIs (.ref a) "set" := by
  obtain ⟨o, es, ep, t, e, hx, _⟩ := h
  exact ⟨o, e, hx.1⟩
namespace F
theorem sub_tuple_set : isSubtype (.type "tuple") (.type "set") = pure false := by rw [isSubtype_type]; kernel_rfl
theorem sub_tuple_frozenset : isSubtype (.type "tuple") (.type "frozenset") = pure false := by rw [isSubtype_type]; kernel_rfl
theorem sub_str_set : isSubtype (.type "str") (.type "set") = pure false := by rw [isSubtype_type]; kernel_rfl
theorem sub_str_frozenset : isSubtype (.type "str") (.type "frozenset") = pure false := by rw [isSubtype_type]; kernel_rfl
end F
section
variable {X : Cx}
def rSet (K : PySem.W.Frag) (P : Program) (w : World) : List V → Hp → VK → Prop := fun xs H Q => ∃ ss : List Str, (((∃ p, xs = [.ref p] ∧ (SqL K H p (ss.map V.str) ∨ SqT K H p (ss.map V.str))) ∨ ∃ z, xs = [.str z] ∧ ss = (cs z).map fun c => ofCs [c])) ∧ ss.length + 1 < scanBound ∧
  ∀ l ys, H l = none → ys.Nodup → (∀ x, x ∈ ys ↔ x ∈ ss) → Q (.ref l) (upd H l (setO P w l ys))
theorem call_set (hc : X.calm = true) : CallR X (.type "set") (rSet X.K X.prog X.w) := by
  intro pins s σ H xs us Q I r h
  obtain ⟨ss, src, hb, q⟩ := h
  have hf : H s.heap.objs.size = none := I.hok.fresh (Nat.le_refl _)
  have hh : X.A.in1.in1.in1.handled = none := by simp [I.ok.hd hc]
  have hnew : (s.heap.push (freshSet X.w)).get? s.heap.objs.size = some (freshSet X.w) := Heap.get?_push_size _ rfl
  have fin : ∀ (h' : Heap) (tk : Nat) (ys' : List Str), (∀ b o, b < s.heap.objs.size → s.heap.get? b = some o → h'.get? b = some o) → SetAt X.prog X.w h' s.heap.objs.size ys' → (∀ x, x ∈ ys' ↔ x ∈ ss) →
      Shared.TypeIs { s with heap := h', toks := tk } (.ref s.heap.objs.size) "set" ∧ EP X pins σ Q (.ref s.heap.objs.size) { s with heap := h', toks := tk } := by
    intro h' tk ys' hk hS hm
    refine ⟨hS.typeIs (s := { s with heap := h', toks := tk }), .ref s.heap.objs.size, _, I.laid (a := s.heap.objs.size) (o := setO X.prog X.w s.heap.objs.size ys') (t' := tk) (fun b o e => hk b o (Heap.lt_size e) e) (Nat.le_refl _) (setO_ok (List.Perm.refl _) hS), rfl, q _ ys' hf ?_ hm⟩
    obtain ⟨_, _, _, _, _, _, _, _, nd, _⟩ := hS
    exact nd
  have member : ∀ (ys' : List Str), (∀ x, x ∈ ys' ↔ ∃ j, j < ss.length ∧ ss.getD j default = x) → ∀ x, x ∈ ys' ↔ x ∈ ss := fun ys' hm x => by
    rw [hm x]
    constructor
    · rintro ⟨j, hj, e⟩
      rw [List.getD_eq_getElem?_getD, List.getElem?_eq_getElem hj] at e
      rw [← e]; exact List.getElem_mem hj
    · intro hx
      obtain ⟨j, hj, e⟩ := List.getElem_of_mem hx
      exact ⟨j, hj, by rw [List.getD_eq_getElem?_getD, List.getElem?_eq_getElem hj]; exact e⟩
  have getv : ∀ {its : List Value}, Vals (ss.map V.str) its → ∀ (i : Nat) (v : Value), its.toArray[i]? = some v → ∃ t, v = .str (ss.getD i default) t := fun {its} rv i v hv => by
    have e : its[i]? = some v := by simpa using hv
    have hl := rv.length
    rw [List.length_map] at hl
    have hi : i < ss.length := by rw [hl]; exact (List.getElem?_eq_some_iff.mp e).1
    obtain ⟨u, hu, ru⟩ := rv.get (i := i) (x := .str ss[i]) (by rw [List.getElem?_map, List.getElem?_eq_getElem hi]; rfl)
    rw [e] at hu
    cases hu
    obtain ⟨t, rfl⟩ := ru
    exact ⟨t, by rw [List.getD_eq_getElem?_getD, List.getElem?_eq_getElem hi]; rfl⟩
  rcases src with ⟨p, rfl, hq⟩ | ⟨z, rfl, ez⟩
  · obtain ⟨u, rfl, ru⟩ := vals1 r
    cases ru
    rcases hq with hq | hq
    · obtain ⟨its, rv, pl, hz⟩ := I.list hq
      have hl := rv.length
      rw [List.length_map] at hl
      have plt : p < s.heap.objs.size := by obtain ⟨_, e, _⟩ := pl.isList; exact Heap.lt_size e
      have hl1 : (s.heap.push (freshSet X.w)).IsList p its.toArray := pl.isList.push _
      have sz : (s.heap.push (freshSet X.w)).objs.size = s.heap.objs.size + 1 := Heap.size_push _ _
      refine call_set_by (.ref p) (updateFrom_iter (s := { s with heap := s.heap.push (freshSet X.w) }) hl1.typeIs F.sub_list_set F.sub_list_frozenset (by decide) (wpAny_pyIter_list hl1 ?_))
      refine update_loop (Walks.list hh _ p (by rw [sz]; exact Nat.ne_of_lt (Nat.lt_succ_of_lt plt)) its.toArray) s.heap.objs.size (by rw [sz]; simp; exact Nat.ne_of_gt plt) (fun i => ss.getD i default) (getv rv) (by rw [List.size_toArray, ← hl]; exact hb)
        (its.toArray.size - 0) 0 _ [] rfl (Nat.zero_le _) ⟨⟨_, Heap.get?_push_size _ rfl, rfl, rfl⟩, hl1.push _⟩ (freshSet_at (Heap.get?_push_of_some _ hnew)) (Nat.le_refl _) (by simp) fun h' tk ys' hk hS hm => ⟨rfl, ?_⟩
      refine fin h' tk ys' (fun b o hb e => hk b o (by simp [sz]; exact ⟨Nat.ne_of_lt hb, Nat.ne_of_lt (Nat.lt_succ_of_lt hb)⟩) (Heap.get?_push_of_some _ (Heap.get?_push_of_some _ e))) hS (member ys' fun x => ?_)
      rw [hm x, List.size_toArray, ← hl]
    · obtain ⟨its, rv, pl, hz⟩ := I.tuple hq
      have hl := rv.length
      rw [List.length_map] at hl
      have plt : p < s.heap.objs.size := by obtain ⟨_, e, _⟩ := pl; exact Heap.lt_size e
      have hl1 : (s.heap.push (freshSet X.w)).IsTuple p its.toArray := by
        obtain ⟨o, e, rest⟩ := pl
        exact ⟨o, Heap.get?_push_of_some _ e, rest⟩
      have sz : (s.heap.push (freshSet X.w)).objs.size = s.heap.objs.size + 1 := Heap.size_push _ _
      have hT : Shared.TypeIs { s with heap := s.heap.push (freshSet X.w) } (.ref p) "tuple" := by
        obtain ⟨o, e, c, rest⟩ := hl1
        exact ⟨o, e, c⟩
      refine call_set_by (.ref p) (updateFrom_iter (s := { s with heap := s.heap.push (freshSet X.w) }) hT F.sub_tuple_set F.sub_tuple_frozenset (by decide) (wpAny_pyIter_tuple hl1 ?_))
      have hl2 : ((s.heap.push (freshSet X.w)).push { cls := .type "tuple_iterator", data := .fields #[.ref p, .int 0 0] }).IsTuple p its.toArray := by
        obtain ⟨o, e, rest⟩ := hl1
        exact ⟨o, Heap.get?_push_of_some _ e, rest⟩
      refine update_loop (Walks.tuple hh _ p (by rw [sz]; exact Nat.ne_of_lt (Nat.lt_succ_of_lt plt)) its.toArray) s.heap.objs.size (by rw [sz]; simp; exact Nat.ne_of_gt plt) (fun i => ss.getD i default) (getv rv) (by rw [List.size_toArray, ← hl]; exact hb)
        (its.toArray.size - 0) 0 _ [] rfl (Nat.zero_le _) ⟨⟨_, Heap.get?_push_size _ rfl, rfl, rfl⟩, hl2⟩ (freshSet_at (Heap.get?_push_of_some _ hnew)) (Nat.le_refl _) (by simp) fun h' tk ys' hk hS hm => ⟨rfl, ?_⟩
      refine fin h' tk ys' (fun b o hb e => hk b o (by simp [sz]; exact ⟨Nat.ne_of_lt hb, Nat.ne_of_lt (Nat.lt_succ_of_lt hb)⟩) (Heap.get?_push_of_some _ (Heap.get?_push_of_some _ e))) hS (member ys' fun x => ?_)
      rw [hm x, List.size_toArray, ← hl]
  · obtain ⟨u, rfl, ru⟩ := vals1 r
    obtain ⟨t, rfl⟩ := ru
    have hl : ss.length = z.cps.size := by rw [ez, List.length_map]; simp
    have sz : (s.heap.push (freshSet X.w)).objs.size = s.heap.objs.size + 1 := Heap.size_push _ _
    refine call_set_by (.str z t) (updateFrom_iter (s := { s with heap := s.heap.push (freshSet X.w) }) (typeIs_str _ z t) F.sub_str_set F.sub_str_frozenset (by decide) (wpAny_pyIter_str fun o St W hst => ?_))
    refine update_loop (W _ hh) s.heap.objs.size (by rw [sz]; simp) (fun i => ss.getD i default) (fun i v hv => ?_) (by rw [← hl]; exact hb)
      (z.cps.size - 0) 0 _ [] rfl (Nat.zero_le _) hst (freshSet_at (Heap.get?_push_of_some _ hnew)) (Nat.le_refl _) (by simp) fun h' tk ys' hk hS hm => ⟨rfl, ?_⟩
    · obtain ⟨c, u, e, rfl⟩ := hv
      refine ⟨u, ?_⟩
      have e' : (cs z)[i]? = some c := by rw [Array.getElem?_toList]; exact e
      rw [List.getD_eq_getElem?_getD, ez, List.getElem?_map, e']
      rfl
    · refine fin h' tk ys' (fun b o hb e => hk b o (by simp [sz]; exact ⟨Nat.ne_of_lt hb, Nat.ne_of_lt (Nat.lt_succ_of_lt hb)⟩) (Heap.get?_push_of_some _ (Heap.get?_push_of_some _ e))) hS (member ys' fun x => ?_)
      rw [hm x, ← hl]
end
end L2
set_option Elab.async false
set_option linter.all false
set_option maxRecDepth 100000
namespace L2
open PySem PySem.Spec PyProof.Rows
def lstep (mask i : Nat) : Nat := (i * 5 + 1) % (mask + 1)
def lit (mask : Nat) : Nat → Nat → Nat
  | 0, i => i
  | k + 1, i => lit mask k (lstep mask i)
def pos (mask : Nat) : Nat → Nat → Nat → Nat
  | 0, i, _ => i
  | t + 1, i, p => pos mask t (SetTable.leap mask i p).1 (SetTable.leap mask i p).2
end L2
set_option Elab.async false
set_option linter.all false
set_option maxRecDepth 100000
namespace L2
open PySem PySem.Spec PyProof.Rows
namespace F
theorem slot_set_iterator_next : Slot "set_iterator" "__next__" "set_iterator.__next__" :=
  .of (owner := "set_iterator") (n := "__next__") (by rw [typeLookup_type, builtinLookup_eq_fast]; kernel_rfl) (by decide +kernel) (by decide +kernel) (by decide +kernel)
    (by first | exact .inl (by decide +kernel) | exact .inr (by decide +kernel)) (by rw [isSubtype_type]; kernel_rfl)
theorem entry_set_iterator_next : entryFor table "set_iterator.__next__" = some Builtin.«set_iterator.__next__» := entryFor_of_fast (by kernel_rfl)
theorem args_set_iterator_next_1 (a : Value) : argsOk "set_iterator.__next__" ⟨[a], []⟩ := by unfold argsOk; kernel_rfl
theorem slot_set_iterator_iter : Slot "set_iterator" "__iter__" "set_iterator.__iter__" :=
  .of (owner := "set_iterator") (n := "__iter__") (by rw [typeLookup_type, builtinLookup_eq_fast]; kernel_rfl) (by decide +kernel) (by decide +kernel) (by decide +kernel)
    (by first | exact .inl (by decide +kernel) | exact .inr (by decide +kernel)) (by rw [isSubtype_type]; kernel_rfl)
theorem entry_set_iterator_iter : entryFor table "set_iterator.__iter__" = some Builtin.«dict_keyiterator.__iter__» :=
  entryFor_alias (id' := "dict_keyiterator.__iter__") (by kernel_rfl) rfl (by decide +kernel) (by kernel_rfl)
theorem args_set_iterator_iter_1 (a : Value) : argsOk "set_iterator.__iter__" ⟨[a], []⟩ := by unfold argsOk; kernel_rfl
theorem entry_set_iter : entryFor table "set.__iter__" = some Builtin.«frozenset.__iter__» :=
  entryFor_alias (id' := "frozenset.__iter__") (by kernel_rfl) rfl (by decide +kernel) (by kernel_rfl)
theorem args_set_iter_1 (a : Value) : argsOk "set.__iter__" ⟨[a], []⟩ := by unfold argsOk; kernel_rfl
end F
theorem pick_go_perm {α : Type} (next : Nat → Nat) : ∀ (fuel k : Nat) (left : List α) (out : Array α), fuel = left.length → (pickOrder.go next fuel k left out).toList.Perm (out.toList ++ left)
  | 0, k, left, out, h => by
    have : left = [] := List.eq_nil_of_length_eq_zero h.symm
    subst this
    unfold pickOrder.go
    rw [List.append_nil]
  | fuel + 1, k, left, out, h => by
    unfold pickOrder.go
    have hlt : next k % left.length < left.length := Nat.mod_lt _ (by omega)
    rw [List.getElem?_eq_getElem hlt]
    dsimp only
    refine (pick_go_perm next fuel (k + 1) _ _ (by rw [List.length_eraseIdx_of_lt hlt]; omega)).trans ?_
    rw [Array.toList_push, List.append_assoc]
    exact List.Perm.append_left _ (erase_perm left _ hlt)
theorem pick_perm {α : Type} (next : Nat → Nat) (xs : Array α) : (pickOrder next xs).toList.Perm xs.toList := by
  unfold pickOrder
  have := pick_go_perm next xs.size 0 xs.toList #[] (by simp)
  simpa using this
section
variable {prog : Program} {w : World} {A : Around} {E : Value → Shared → Prop} {s : Shared}
abbrev itO (first : Value) (i : Nat) (S : Addr) (n ep : Nat) : Obj := { cls := .type "set_iterator", data := .fields #[first, .int i 0, .ref S, .int n 0, .int ep 0] }
theorem next_int {I S : Addr} {sl i n ep nx : Nat} {x : Value} {o : Obj} {es : Array (Int × Value)} {t : SetTable} {Q : Option Value → Shared → Prop} (hit : s.heap.get? I = some (itO (.int sl 0) i S n ep)) (ho : s.heap.get? S = some o) (hd : o.data = .set es ep t)
    (hf : t.fits es.size = true) (hn : es.size = n) (hN : ∀ (Q : Option (Value × Nat) → Shared → Prop) (E : Value → Shared → Prop), Q (some (x, nx)) s → wpAny (model prog w) A.in1 (setNext S sl i ep) Q E s)
    (hQ : ∀ h', h'.get? I = some (itO (.int nx 0) (i + 1) S n ep) → Heap.SameBut I s.heap h' → Q (some x) { s with heap := h' }) : wpAny (model prog w) A (pyNext (.ref I)) Q E s := by
  have hT : s.TypeIs (.ref I) "set_iterator" := ⟨_, hit, rfl⟩
  unfold pyNext
  refine wpAny_bind (wpAny_attempt (wpAny_callSpecial?_slot (name := Str.ofString "__next__") hT F.slot_set_iterator_next
    (wpAny_call_entry F.slot_set_iterator_next hT F.entry_set_iterator_next ?_ (F.args_set_iterator_next_1 _))))
  unfold Builtin.«set_iterator.__next__»
  show wpAny _ _ (fieldsOf (.ref I) >>= _) _ _ s
  refine wpAny_bind (wpAny_fieldsOf hit rfl ?_)
  show wpAny _ _ (setEntries S >>= _) _ _ s
  refine wpAny_bind (wpAny_setEntries_of ho hd hf ?_)
  rw [hn]
  simp only [bne_self_eq_false, Bool.false_eq_true, if_false]
  show wpAny _ _ (setNext S (sl : Int).toNat (i : Int).toNat (ep : Int).toNat >>= _) _ _ s
  simp only [Int.toNat_natCast]
  refine wpAny_bind (hN _ _ ?_)
  dsimp only
  refine wpAny_bind (wpAny_setField_rec hit (by simp) fun h1 hit1 hs1 => ?_)
  refine wpAny_bind (wpAny_setField_rec hit1 (by simp) fun h2 hit2 hs2 => ?_)
  refine wpAny_pure ⟨x, rfl, wpAny_pure (hQ h2 ?_ (hs1.trans hs2))⟩
  rw [hit2]
  rfl
theorem done_int {I S : Addr} {sl i n ep : Nat} {o : Obj} {es : Array (Int × Value)} {t : SetTable} {Q : Option Value → Shared → Prop} (hh : A.handled = none) (hit : s.heap.get? I = some (itO (.int sl 0) i S n ep)) (ho : s.heap.get? S = some o) (hd : o.data = .set es ep t)
    (hf : t.fits es.size = true) (hn : es.size = n) (hN : ∀ (Q : Option (Value × Nat) → Shared → Prop) (E : Value → Shared → Prop), Q none s → wpAny (model prog w) A.in1 (setNext S sl i ep) Q E s)
    (hQ : ∀ h', Heap.ExtBut I s.heap h' → Q none { s with heap := h' }) : wpAny (model prog w) A (pyNext (.ref I)) Q E s := by
  have hT : s.TypeIs (.ref I) "set_iterator" := ⟨_, hit, rfl⟩
  unfold pyNext
  refine wpAny_bind (wpAny_attempt (wpAny_callSpecial?_slot (name := Str.ofString "__next__") hT F.slot_set_iterator_next
    (wpAny_call_entry F.slot_set_iterator_next hT F.entry_set_iterator_next ?_ (F.args_set_iterator_next_1 _))))
  unfold Builtin.«set_iterator.__next__»
  show wpAny _ _ (fieldsOf (.ref I) >>= _) _ _ s
  refine wpAny_bind (wpAny_fieldsOf hit rfl ?_)
  show wpAny _ _ (setEntries S >>= _) _ _ s
  refine wpAny_bind (wpAny_setEntries_of ho hd hf ?_)
  rw [hn]
  simp only [bne_self_eq_false, Bool.false_eq_true, if_false]
  show wpAny _ _ (setNext S (sl : Int).toNat (i : Int).toNat (ep : Int).toNat >>= _) _ _ s
  simp only [Int.toNat_natCast]
  refine wpAny_bind (hN _ _ ?_)
  dsimp only
  refine wpAny_bind (wpAny_setField hit rfl (by simp) ?_)
  show wpAny _ _ (newExc (.type "StopIteration") [] >>= _) _ _ _
  refine wpAny_bind ?_
  simp only [newExc, newTuple]
  refine wpAny_bind (wpAny_newObj_type ?_ (by size_fits))
  refine wpAny_bind (m := firstArgMember _ _) (wpAny_of_eq (a := Value.none) (by first | rfl | (simp only [firstArgMember]; rfl)) ?_)
  refine wpAny_newObj_type ?_ (by size_fits)
  simp only [raiseNew]
  refine wpAny_bind (wpAny_handled ?_)
  first | rw [show A.in1.handled = none from hh] | rw [hh]
  refine wpAny_bind (wpAny_pure (wpAny_throw ?_))
  refine wpAny_bind (wpAny_isInstance (T := "StopIteration") (b := true) ⟨_, Heap.get?_push_size _ rfl, rfl⟩ isSubtype_stop ?_)
  exact wpAny_pure (hQ _ (((Heap.SameBut.update ..).extBut.push _).push _))
theorem next_ref {I S T : Addr} {i n ep k : Nat} {pl : Array Value} {x : Value} {hx : Int} {o : Obj} {es : Array (Int × Value)} {t : SetTable} {Q : Option Value → Shared → Prop} (hit : s.heap.get? I = some (itO (.ref T) i S n ep)) (hp : s.heap.IsTuple T pl) (ho : s.heap.get? S = some o) (hd : o.data = .set es ep t)
    (hf : t.fits es.size = true) (hn : es.size = n) (hk : pl[i]? = some (.int k 0)) (hx : es[k]? = some (hx, x))
    (hQ : ∀ h', h'.get? I = some (itO (.ref T) (i + 1) S n ep) → Heap.SameBut I s.heap h' → Q (some x) { s with heap := h' }) : wpAny (model prog w) A (pyNext (.ref I)) Q E s := by
  have hT : s.TypeIs (.ref I) "set_iterator" := ⟨_, hit, rfl⟩
  obtain ⟨ot, hot, _, nt, hdt⟩ := hp
  unfold pyNext
  refine wpAny_bind (wpAny_attempt (wpAny_callSpecial?_slot (name := Str.ofString "__next__") hT F.slot_set_iterator_next
    (wpAny_call_entry F.slot_set_iterator_next hT F.entry_set_iterator_next ?_ (F.args_set_iterator_next_1 _))))
  unfold Builtin.«set_iterator.__next__»
  show wpAny _ _ (fieldsOf (.ref I) >>= _) _ _ s
  refine wpAny_bind (wpAny_fieldsOf hit rfl ?_)
  show wpAny _ _ (setEntries S >>= _) _ _ s
  refine wpAny_bind (wpAny_setEntries_of ho hd hf ?_)
  rw [hn]
  simp only [bne_self_eq_false, Bool.false_eq_true, if_false]
  show wpAny _ _ (seqItems? (.ref T) >>= _) _ _ s
  refine wpAny_bind (wpAny_seqItems hot hdt ?_)
  simp only [Int.toNat_natCast, hk]
  show wpAny _ _ (setNextDrawn S (k : Int).toNat (ep : Int).toNat >>= _) _ _ s
  simp only [Int.toNat_natCast]
  unfold setNextDrawn
  refine wpAny_bind (wpAny_bind (wpAny_setState_of ho hd hf ?_))
  simp only [bne_self_eq_false, Bool.false_eq_true, if_false, hx]
  refine wpAny_pure ?_
  refine wpAny_bind (wpAny_setField_rec hit (by simp) fun h1 hit1 hs1 => ?_)
  refine wpAny_pure ⟨x, rfl, wpAny_pure (hQ h1 ?_ hs1)⟩
  rw [hit1]
  rfl
theorem done_ref {I S T : Addr} {i n ep : Nat} {pl : Array Value} {o : Obj} {es : Array (Int × Value)} {t : SetTable} {Q : Option Value → Shared → Prop} (hh : A.handled = none) (hit : s.heap.get? I = some (itO (.ref T) i S n ep)) (hp : s.heap.IsTuple T pl) (ho : s.heap.get? S = some o) (hd : o.data = .set es ep t)
    (hf : t.fits es.size = true) (hn : es.size = n) (hk : pl[i]? = none)
    (hQ : ∀ h', Heap.ExtBut I s.heap h' → Q none { s with heap := h' }) : wpAny (model prog w) A (pyNext (.ref I)) Q E s := by
  have hT : s.TypeIs (.ref I) "set_iterator" := ⟨_, hit, rfl⟩
  obtain ⟨ot, hot, _, nt, hdt⟩ := hp
  unfold pyNext
  refine wpAny_bind (wpAny_attempt (wpAny_callSpecial?_slot (name := Str.ofString "__next__") hT F.slot_set_iterator_next
    (wpAny_call_entry F.slot_set_iterator_next hT F.entry_set_iterator_next ?_ (F.args_set_iterator_next_1 _))))
  unfold Builtin.«set_iterator.__next__»
  show wpAny _ _ (fieldsOf (.ref I) >>= _) _ _ s
  refine wpAny_bind (wpAny_fieldsOf hit rfl ?_)
  show wpAny _ _ (setEntries S >>= _) _ _ s
  refine wpAny_bind (wpAny_setEntries_of ho hd hf ?_)
  rw [hn]
  simp only [bne_self_eq_false, Bool.false_eq_true, if_false]
  show wpAny _ _ (seqItems? (.ref T) >>= _) _ _ s
  refine wpAny_bind (wpAny_seqItems hot hdt ?_)
  simp only [Int.toNat_natCast, hk]
  refine wpAny_bind (wpAny_setField_rec hit (by simp) fun h1 hit1 hs1 => ?_)
  refine wpAny_bind (wpAny_setField hit1 rfl (by simp) ?_)
  show wpAny _ _ (newExc (.type "StopIteration") [] >>= _) _ _ _
  refine wpAny_bind ?_
  simp only [newExc, newTuple]
  refine wpAny_bind (wpAny_newObj_type ?_ (by size_fits))
  refine wpAny_bind (m := firstArgMember _ _) (wpAny_of_eq (a := Value.none) (by first | rfl | (simp only [firstArgMember]; rfl)) ?_)
  refine wpAny_newObj_type ?_ (by size_fits)
  simp only [raiseNew]
  refine wpAny_bind (wpAny_handled ?_)
  first | rw [show A.in1.handled = none from hh] | rw [hh]
  refine wpAny_bind (wpAny_pure (wpAny_throw ?_))
  refine wpAny_bind (wpAny_isInstance (T := "StopIteration") (b := true) ⟨_, Heap.get?_push_size _ rfl, rfl⟩ isSubtype_stop ?_)
  exact wpAny_pure (hQ _ ((((hs1.trans (Heap.SameBut.update ..))).extBut.push _).push _))
theorem self_it {I S : Addr} {i n ep : Nat} {first : Value} {Q : Value → Shared → Prop} (hit : s.heap.get? I = some (itO first i S n ep)) (h : Q (.ref I) s) : wpAny (model prog w) A (pyIter (.ref I)) Q E s := by
  have hT : s.TypeIs (.ref I) "set_iterator" := ⟨_, hit, rfl⟩
  refine wpAny_pyIter_slot hT F.slot_set_iterator_iter (wpAny_call_entry F.slot_set_iterator_iter hT F.entry_set_iterator_iter ?_ (F.args_set_iterator_iter_1 _))
  show wpAny _ _ (ret (.ref I)) _ _ s
  exact wpAny_pure ⟨_, rfl, "set_iterator", _, hT, F.slot_set_iterator_next.lookup, h⟩
end
end L2
set_option Elab.async false
set_option linter.all false
set_option maxRecDepth 100000
namespace L2
open PySem PySem.Spec PyProof.Rows
section
variable {prog : Program} {w : World} {A : Around} {E : Value → Shared → Prop} {s : Shared}
theorem paired_getl {α β : Type} {F : α → β → Prop} : ∀ {xs : List α} {l : List β}, Paired F xs l → ∀ (k : Nat) (a : α), xs[k]? = some a → ∃ b, l[k]? = some b ∧ F a b
  | _, _, .nil, k, b, h => by simp at h
  | _, _, .cons r t, 0, b, h => by simp at h; subst h; exact ⟨_, rfl, r⟩
  | _, _, .cons r t, k + 1, b, h => by
    obtain ⟨a, h1, h2⟩ := paired_getl t k b (by simpa using h)
    exact ⟨a, by simpa using h1, h2⟩
abbrev strAt (zs : List Str) (i : Nat) (v : Value) : Prop := ∃ t, v = .str (zs.getD i default) t
theorem getD_some {α : Type} [Inhabited α] {l : List α} {i : Nat} {x : α} (h : l[i]? = some x) : l.getD i default = x := by rw [List.getD_eq_getElem?_getD, h]; rfl
theorem map_perm_range {ys : List Str} {p : List Nat} (hp : p.Perm (List.range ys.length)) : (p.map fun k => ys.getD k default).Perm ys := by
  refine (hp.map _).trans ?_
  have : ∀ (l : List Str), (List.range l.length).map (fun k => l.getD k default) = l := by
    intro l
    refine List.ext_getElem (by simp) fun i h1 h2 => ?_
    simp at h1
    simp [h1]
  rw [this]
theorem Walks.setDrawn (hh : A.handled = none) {I S T : Addr} (hIT : T ≠ I) (hIS : S ≠ I) {ys : List Str} {p : List Nat} (hp : p.Perm (List.range ys.length)) {o : Obj} {es : Array (Int × Value)} {ep : Nat} {t : SetTable} (hd : o.data = .set es ep t) (hf : t.fits es.size = true) (hpr : Paired (entS prog w) ys es.toList) :
    Walks prog w A I [I, T, S] [I] ys.length (strAt (p.map fun k => ys.getD k default)) (fun i h => h.get? I = some (itO (.ref T) i S ys.length ep) ∧ h.IsTuple T ((p.map fun k => (.int (k : Nat) 0 : Value)).toArray) ∧ h.get? S = some o) where
  sub := fun b hb => by simp at hb; simp [hb]
  frame := fun i h h' st k => ⟨k I (by simp) _ st.1, let ⟨o, ho, r⟩ := st.2.1; ⟨o, k T (by simp) _ ho, r⟩, k S (by simp) _ st.2.2⟩
  item := fun i s Q E hi st hQ => by
    have hn : es.size = ys.length := by rw [← Array.length_toList, ← hpr.length]
    have hip : i < p.length := by rw [hp.length_eq, List.length_range]; exact hi
    have hk : p[i] < ys.length := List.mem_range.mp (hp.mem_iff.mp (List.getElem_mem hip))
    obtain ⟨e, he, h1, t', h2⟩ := paired_getl hpr p[i] ys[p[i]] (List.getElem?_eq_getElem hk)
    have hee : es[p[i]]? = some (e.1, e.2) := by rw [← Array.getElem?_toList]; exact he
    refine next_ref (k := p[i]) (x := e.2) (hx := e.1) st.1 st.2.1 st.2.2 hd hf hn ?_ hee fun h' hit' hs' => ?_
    · simp [hip]
    · refine hQ _ h' s.toks ⟨t', ?_⟩ ⟨hit', ?_, ?_⟩ fun b o hb e => hs'.extBut b o (fun h => hb (by simp [h])) e
      · rw [h2]
        congr 1
        rw [List.getD_eq_getElem?_getD, List.getElem?_map, List.getElem?_eq_getElem hip]
        show _ = ys.getD p[i] default
        rw [List.getD_eq_getElem?_getD, List.getElem?_eq_getElem hk]; rfl
      · obtain ⟨o, ho, r⟩ := st.2.1
        exact ⟨o, (hs'.2 T hIT).trans ho, r⟩
      · exact (hs'.2 S hIS).trans st.2.2
  done := fun s Q E st hQ => by
    have hn : es.size = ys.length := by rw [← Array.length_toList, ← hpr.length]
    refine done_ref hh st.1 st.2.1 st.2.2 hd hf hn ?_ fun h' he' => hQ h' s.toks fun b o hb e => he' b o (fun h => hb (by simp [h])) e
    have : p.length = ys.length := by rw [hp.length_eq, List.length_range]
    simp [this]
  self := fun i s Q E st hQ => self_it st.1 hQ
theorem Walks.setText (hb : byT w) (hh : A.handled = none) {I S : Addr} (hIS : S ≠ I) {ys zs : List Str} {o : Obj} {es es' : Array (Int × Value)} {ep : Nat} {t : SetTable} (hd : o.data = .set es ep t) (hf : t.fits es.size = true) (hn : es.size = ys.length) (he : es' = pickOrder (w.params.setOrder S ep) es) (hpr : Paired (entS prog w) zs es'.toList) (hz : zs.length = ys.length) :
    Walks prog w A I [I, S] [I] ys.length (strAt zs) (fun i h => h.get? I = some (itO (.int (0 : Nat) 0) i S ys.length ep) ∧ h.get? S = some o) where
  sub := fun b hb => by simp at hb; simp [hb]
  frame := fun i h h' st k => ⟨k I (by simp) _ st.1, k S (by simp) _ st.2⟩
  item := fun i s Q E hi st hQ => by
    obtain ⟨e, hee, h1, t', h2⟩ := paired_getl hpr i (zs[i]'(by omega)) (List.getElem?_eq_getElem (by omega))
    refine next_int (nx := 0) (x := e.2) st.1 st.2 hd hf hn ?_ fun h' hit' hs' => ?_
    · intro Q E h
      unfold setNext
      refine wpAny_bind (wpAny_setState_of st.2 hd hf ?_)
      dsimp only
      unfold setsByText
      refine wpAny_bind (wpAny_bind (wpAny_askSetting (wpAny_pure ?_)))
      dsimp only
      refine wpAny_ite_split (fun _ => ?_) (fun hnb => absurd hb hnb)
      simp only [bne_self_eq_false, Bool.false_eq_true, if_false]
      unfold setWalk
      refine wpAny_bind (wpAny_bind (wpAny_setState_of st.2 hd hf ?_))
      dsimp only
      unfold setsByText
      refine wpAny_bind (wpAny_bind (wpAny_askSetting (wpAny_pure ?_)))
      dsimp only
      refine wpAny_ite_split (fun _ => ?_) (fun hnb => absurd hb hnb)
      refine wpAny_bind (wpAny_askSetting (wpAny_pure (wpAny_pure ?_)))
      have e1 : (pickOrder (w.params.setOrder S ep) es)[i]? = some e := by rw [← he, ← Array.getElem?_toList]; exact hee
      show Q (((pickOrder (w.params.setOrder S ep) es)[i]?).map fun e => (e.2, 0)) s
      rw [e1]; exact h
    · refine hQ _ h' s.toks ⟨t', ?_⟩ ⟨hit', (hs'.2 S hIS).trans st.2⟩ fun b o hb e => hs'.extBut b o (fun h => hb (by simp [h])) e
      rw [h2, getD_some (List.getElem?_eq_getElem (by omega))]
  done := fun s Q E st hQ => by
    refine done_int hh st.1 st.2 hd hf hn ?_ fun h' he' => hQ h' s.toks fun b o hb e => he' b o (fun h => hb (by simp [h])) e
    intro Q E h
    unfold setNext
    refine wpAny_bind (wpAny_setState_of st.2 hd hf ?_)
    dsimp only
    unfold setsByText
    refine wpAny_bind (wpAny_bind (wpAny_askSetting (wpAny_pure ?_)))
    dsimp only
    refine wpAny_ite_split (fun _ => ?_) (fun hnb => absurd hb hnb)
    simp only [bne_self_eq_false, Bool.false_eq_true, if_false]
    unfold setWalk
    refine wpAny_bind (wpAny_bind (wpAny_setState_of st.2 hd hf ?_))
    dsimp only
    unfold setsByText
    refine wpAny_bind (wpAny_bind (wpAny_askSetting (wpAny_pure ?_)))
    dsimp only
    refine wpAny_ite_split (fun _ => ?_) (fun hnb => absurd hb hnb)
    refine wpAny_bind (wpAny_askSetting (wpAny_pure (wpAny_pure ?_)))
    have e1 : (pickOrder (w.params.setOrder S ep) es)[ys.length]? = none := by
      rw [← he, ← Array.getElem?_toList, List.getElem?_eq_none]
      rw [← hpr.length]; omega
    show Q (((pickOrder (w.params.setOrder S ep) es)[ys.length]?).map fun e => (e.2, 0)) s
    rw [e1]; exact h
  self := fun i s Q E st hQ => self_it st.1 hQ
theorem Walks.setOne (hb : ¬ byT w) (hh : A.handled = none) {I S : Addr} (hIS : S ≠ I) {ys : List Str} {o : Obj} {es : Array (Int × Value)} {ep : Nat} {t : SetTable} (hd : o.data = .set es ep t) (hf : t.fits es.size = true) (hl : t.led = true) (hpr : Paired (entS prog w) ys es.toList) (h1 : ys.length ≤ 1) :
    Walks prog w A I [I, S] [I] ys.length (strAt ys) (fun i h => h.get? I = some (itO (.int (if i = 0 then 0 else t.place.getD 0 0 + 1 : Nat) 0) i S ys.length ep) ∧ h.get? S = some o) where
  sub := fun b hb => by simp at hb; simp [hb]
  frame := fun i h h' st k => ⟨k I (by simp) _ st.1, k S (by simp) _ st.2⟩
  item := fun i s Q E hi st hQ => by
    have hi0 : i = 0 := by omega
    subst hi0
    have hn : es.size = ys.length := by rw [← Array.length_toList, ← hpr.length]
    obtain ⟨e, hee, q1, t', q2⟩ := paired_getl hpr 0 (ys[0]'hi) (List.getElem?_eq_getElem hi)
    have hps : t.place.size = 1 := by
      simp only [SetTable.fits, Bool.and_eq_true, beq_iff_eq] at hf
      omega
    have hpl : t.place[0]? = some (t.place.getD 0 0) := by
      rw [Array.getD_eq_getD_getElem?, Array.getElem?_eq_getElem (by omega)]; rfl
    refine next_int (nx := t.place.getD 0 0 + 1) (x := e.2) st.1 st.2 hd hf hn ?_ fun h' hit' hs' => ?_
    · intro Q E h
      unfold setNext
      refine wpAny_bind (wpAny_setState_of st.2 hd hf ?_)
      dsimp only
      unfold setsByText
      refine wpAny_bind (wpAny_bind (wpAny_askSetting (wpAny_pure ?_)))
      dsimp only
      refine wpAny_ite_split (fun hbb => absurd hbb hb) (fun _ => ?_)
      refine wpAny_ite_split (fun hbb => absurd hbb ?_) (fun _ => ?_)
      · show ¬ ((!t.plain && decide (es.size > 1)) = true)
        rw [show decide (es.size > 1) = false from decide_eq_false (by omega), Bool.and_false]
        exact Bool.false_ne_true
      refine wpAny_bind ?_
      show wpAny _ _ (if (!t.led && !es.isEmpty) = true then _ else _) _ _ s
      rw [hl]
      simp only [Bool.not_true, Bool.false_and, Bool.false_eq_true, if_false]
      refine wpAny_pure ?_
      have eb : SetTable.below t.place 0 = 0 := by
        unfold SetTable.below
        rw [hps]
        unfold SetTable.below.go
        simp
        unfold SetTable.below.go
        rfl
      refine wpAny_pure ?_
      simp only [if_true, eb]
      have ee : es[0]? = some (e.1, e.2) := by rw [← Array.getElem?_toList]; exact hee
      rw [ee, hpl]
      exact h
    · refine hQ _ h' s.toks ⟨t', ?_⟩ ⟨?_, (hs'.2 S hIS).trans st.2⟩ fun b o hb e => hs'.extBut b o (fun h => hb (by simp [h])) e
      · rw [q2, getD_some (List.getElem?_eq_getElem hi)]
      · rw [hit', if_neg (by omega)]
  done := fun s Q E st hQ => by
    have hn : es.size = ys.length := by rw [← Array.length_toList, ← hpr.length]
    refine done_int hh st.1 st.2 hd hf hn ?_ fun h' he' => hQ h' s.toks fun b o hb e => he' b o (fun h => hb (by simp [h])) e
    intro Q E h
    unfold setNext
    refine wpAny_bind (wpAny_setState_of st.2 hd hf ?_)
    dsimp only
    unfold setsByText
    refine wpAny_bind (wpAny_bind (wpAny_askSetting (wpAny_pure ?_)))
    dsimp only
    refine wpAny_ite_split (fun hbb => absurd hbb hb) (fun _ => ?_)
    refine wpAny_ite_split (fun hbb => absurd hbb ?_) (fun _ => ?_)
    · show ¬ ((!t.plain && decide (es.size > 1)) = true)
      rw [show decide (es.size > 1) = false from decide_eq_false (by omega), Bool.and_false]
      exact Bool.false_ne_true
    refine wpAny_bind ?_
    show wpAny _ _ (if (!t.led && !es.isEmpty) = true then _ else _) _ _ s
    rw [hl]
    simp only [Bool.not_true, Bool.false_and, Bool.false_eq_true, if_false]
    refine wpAny_pure (wpAny_pure ?_)
    have hps : t.place.size = ys.length := by
      simp only [SetTable.fits, Bool.and_eq_true, beq_iff_eq] at hf
      omega
    have key : es[SetTable.below t.place (if ys.length = 0 then 0 else t.place.getD 0 0 + 1)]? = none := by
      by_cases h0 : ys.length = 0
      · rw [Array.getElem?_eq_none (by omega)]
      · rw [if_neg h0]
        have hy1 : ys.length = 1 := by omega
        have eb : SetTable.below t.place (t.place.getD 0 0 + 1) = 1 := by
          unfold SetTable.below
          rw [hps, hy1]
          unfold SetTable.below.go
          have : t.place.getD 0 (t.place.getD 0 0 + 1) < t.place.getD 0 0 + 1 := by
            have e : t.place.getD 0 (t.place.getD 0 0 + 1) = t.place.getD 0 0 := by
              rw [Array.getD_eq_getD_getElem?, Array.getD_eq_getD_getElem?, Array.getElem?_eq_getElem (by omega)]; rfl
            rw [e]; exact Nat.lt_succ_self _
          simp only [Nat.zero_lt_one, if_true, Nat.reduceAdd, Nat.reduceDiv, this]
          unfold SetTable.below.go
          rfl
        rw [eb, Array.getElem?_eq_none (by omega)]
    rw [key]
    exact h
  self := fun i s Q E st hQ => self_it st.1 hQ
end
end L2
set_option Elab.async false
set_option linter.all false
set_option maxRecDepth 100000
namespace L2
open PySem PySem.Spec PyProof.Rows
section
variable {prog : Program} {w : World} {A : Around} {E : Value → Shared → Prop} {s : Shared}
theorem pyIter_S {S : Addr} {ys : List Str} {Q : Value → Shared → Prop} (hS : SetAt prog w s.heap S ys)
    (h : ∀ (I : Addr) (h' : Heap) (d : Drawn) (zs : List Str) (fp : List Addr) (St : Nat → Heap → Prop), zs.Perm ys → (∀ b o, s.heap.get? b = some o → h'.get? b = some o) → s.heap.objs.size ≤ I → I ∈ fp → (∀ b ∈ fp, b < h'.objs.size ∧ (b = S ∨ s.heap.objs.size ≤ b)) →
      (∀ A : Around, A.handled = none → Walks prog w A I fp [I] ys.length (strAt zs) St) → St 0 h' → Q (.ref I) { s with heap := h', drawn := d }) : wpAny (model prog w) A (pyIter (.ref S)) Q E s := by
  have hTy := hS.typeIs (s := s)
  obtain ⟨o, es, ep, t, ho, hex, hd, hpr, nd, hb, hf, hl, hpl⟩ := hS
  have hn : es.size = ys.length := by rw [← Array.length_toList, ← hpr.length]
  have hlt : S < s.heap.objs.size := Heap.lt_size ho
  have hsz : ys.length ≤ sizeLine := Nat.le_of_lt (Nat.lt_of_lt_of_le hb (by decide))
  refine wpAny_pyIter_slot hTy PySem.F.slot_set_iter (wpAny_call_entry PySem.F.slot_set_iter hTy F.entry_set_iter ?_ (F.args_set_iter_1 _))
  unfold Builtin.«frozenset.__iter__»
  show wpAny _ _ (Builtin.Frozenset.sizeOf S >>= _) _ _ s
  unfold Builtin.Frozenset.sizeOf
  refine wpAny_bind (wpAny_bind (wpAny_setEntries_of ho hd hf (wpAny_pure ?_)))
  unfold setDrawn
  refine wpAny_bind (wpAny_bind (wpAny_setState_of ho hd hf ?_))
  dsimp only
  unfold setsByText
  refine wpAny_bind (wpAny_bind (wpAny_askSetting (wpAny_pure (wpAny_pure ?_))))
  show wpAny _ _ (if (!w.params.followText "set-order" && (!t.plain && decide (es.size > 1))) = true then _ else _) _ _ s
  refine wpAny_ite_split (fun hc => ?_) (fun hc => ?_)
  · refine wpAny_bind (wpAny_drawOrder es.size (List.range es.size) _ _ (by simp) fun p d hp => ?_)
    rw [hn] at hp
    have hpl' : p.length = ys.length := by rw [hp.length_eq, List.length_range]
    refine wpAny_bind (wpAny_newTuple (items := p.map fun (i : Nat) => rawInt i) ?_ (by rw [List.length_map, hpl']; exact hsz))
    refine wpAny_bind (wpAny_setEpoch_of (Heap.get?_push_of_some _ ho) hd hf ?_)
    rw [hn]
    refine wpAny_bind (wpAny_newObj_type (wpAny_pure ⟨_, rfl, "set_iterator", _, ⟨_, Heap.get?_push_size _ rfl, rfl⟩, F.slot_set_iterator_next.lookup, ?_⟩))
    have sz1 : (s.heap.push { cls := Value.type "tuple", data := Data.seq (p.map fun (i : Nat) => rawInt i).toArray }).objs.size = s.heap.objs.size + 1 := Heap.size_push _ _
    refine h _ _ d (p.map fun k => ys.getD k default) [_, s.heap.objs.size, S] _ (map_perm_range hp) (fun b o e => Heap.get?_push_of_some _ (Heap.get?_push_of_some _ e)) ?_ (by simp) ?_ (fun A hA => Walks.setDrawn hA (I := (s.heap.push { cls := Value.type "tuple", data := Data.seq (p.map fun (i : Nat) => rawInt i).toArray }).objs.size) (T := s.heap.objs.size) (by rw [sz1]; exact Nat.ne_of_lt (Nat.lt_succ_self _)) (by rw [sz1]; exact Nat.ne_of_lt (Nat.lt_succ_of_lt hlt)) hp hd hf hpr) ⟨?_, ?_, ?_⟩
    · show _ ≤ (s.heap.push _).objs.size
      rw [sz1]; omega
    · intro b hb
      rw [Heap.size_push, sz1]
      simp only [sz1, List.mem_cons, List.not_mem_nil, or_false] at hb
      rcases hb with e | e | e <;> rw [e]
      · exact ⟨Nat.lt_succ_self _, .inr (Nat.le_succ _)⟩
      · exact ⟨Nat.lt_succ_of_lt (Nat.lt_succ_self _), .inr (Nat.le_refl _)⟩
      · exact ⟨Nat.lt_succ_of_lt (Nat.lt_succ_of_lt hlt), .inl rfl⟩
    · exact Heap.get?_push_size _ rfl
    · exact ⟨_, Heap.get?_push_of_some _ (Heap.get?_push_size _ rfl), rfl, _, rfl⟩
    · exact Heap.get?_push_of_some _ (Heap.get?_push_of_some _ ho)
  · refine wpAny_bind (wpAny_pure ?_)
    refine wpAny_bind (wpAny_setEpoch_of ho hd hf ?_)
    rw [hn]
    refine wpAny_bind (wpAny_newObj_type (wpAny_pure ⟨_, rfl, "set_iterator", _, ⟨_, Heap.get?_push_size _ rfl, rfl⟩, F.slot_set_iterator_next.lookup, ?_⟩))
    have szb : ∀ b ∈ [s.heap.objs.size, S], b < (s.heap.push (itO (.int (0 : Nat) 0) 0 S ys.length ep)).objs.size ∧ (b = S ∨ s.heap.objs.size ≤ b) := by
      intro b hb
      rw [Heap.size_push]
      simp only [List.mem_cons, List.not_mem_nil, or_false] at hb
      rcases hb with e | e <;> rw [e]
      · exact ⟨Nat.lt_succ_self _, .inr (Nat.le_refl _)⟩
      · exact ⟨Nat.lt_succ_of_lt hlt, .inl rfl⟩
    by_cases hbt : byT w
    · obtain ⟨zs, hz, hpz⟩ := paired_perm hpr (pick_perm (w.params.setOrder S ep) es)
      exact h s.heap.objs.size _ s.drawn zs [s.heap.objs.size, S] _ hz (fun b o e => Heap.get?_push_of_some _ e) (Nat.le_refl _) (by simp) szb (fun A hA => Walks.setText hbt hA (Nat.ne_of_lt hlt) hd hf hn rfl hpz hz.length_eq) ⟨Heap.get?_push_size _ rfl, Heap.get?_push_of_some _ ho⟩
    · have hlen : ys.length ≤ 1 := by
        have hft : w.params.followText "set-order" = false := Bool.eq_false_iff.mpr hbt
        rw [hft] at hc
        rcases hpl with e | e
        · rw [e]; simp
        · rw [e] at hc
          simp only [Bool.not_false, Bool.true_and, decide_eq_true_eq] at hc
          omega
      exact h s.heap.objs.size _ s.drawn ys [s.heap.objs.size, S] _ (List.Perm.refl _) (fun b o e => Heap.get?_push_of_some _ e) (Nat.le_refl _) (by simp) szb (fun A hA => Walks.setOne hbt hA (Nat.ne_of_lt hlt) hd hf (hl.resolve_right hbt) hpr hlen) ⟨Heap.get?_push_size _ rfl, Heap.get?_push_of_some _ ho⟩
theorem hint_set {r : Addr} {Q : Bool → Shared → Prop} (hT : s.TypeIs (.ref r) "set") (h : Q false s) : wpAny (model prog w) A (Builtin.List.listLengthHint (.ref r)) Q E s := by
  unfold Builtin.List.listLengthHint
  refine wpAny_bind (wpAny_specialOf hT PySem.F.slot_set_len.lookup ?_)
  generalize hid : ("set.__len__" : String) = id0
  wp_delta
  rw [show splitId id0 = some ("set", "__len__") from by subst hid; decide +kernel]
  subst hid
  refine wpAny_bind (wpAny_isInstance (T := "set") (b := true) hT (by rw [isSubtype_type]; kernel_rfl) ?_)
  refine wpAny_ite_split (fun hab => absurd hab (by decide)) (fun _ => ?_)
  refine wpAny_ite_split (fun _ => ?_) (fun hab => absurd (by decide +kernel) hab)
  refine wpAny_bind (wpAny_typeOf hT ?_)
  exact wpAny_pure h
theorem collect_S {S : Addr} {ys : List Str} {R : List Value → Shared → Prop} (hh : A.handled = none) (hS : SetAt prog w s.heap S ys)
    (h : ∀ (h' : Heap) (tk : Nat) (d : Drawn) (acc : List Value) (zs : List Str), (∀ b o, s.heap.get? b = some o → h'.get? b = some o) → s.heap.objs.size < h'.objs.size → zs.Perm ys → StrsAre acc zs → R acc { s with heap := h', toks := tk, drawn := d }) :
    wpAny (model prog w) A (collect (.ref S)) R E s := by
  have hlt : S < s.heap.objs.size := by obtain ⟨o, _, _, _, ho, _⟩ := hS; exact Heap.lt_size ho
  have hsz : ys.length ≤ sizeLine := by
    obtain ⟨_, _, _, _, _, _, _, _, _, hb, _⟩ := hS
    exact Nat.le_of_lt (Nat.lt_of_lt_of_le hb (by decide))
  unfold collect
  refine wpAny_bind (wpAny_runValue (codeAny_builtin entry_proto_collect' ?_))
  rw [Around.under_plainId PySem.F.plain_proto_collect _]
  show wpAny _ A.in1 (newList [] >>= fun l => again (.builtin "list.__iadd__" ⟨[l, .ref S], []⟩)) _ _ s
  refine wpAny_bind (wpAny_newObj_type ?_)
  refine wpAny_pure ⟨plainId_quiet PySem.F.plain_list_iadd _, codeAny_builtin entry_list_iadd' ?_⟩
  rw [Around.under_plainId PySem.F.plain_list_iadd _]
  have hL : (s.heap.push { cls := .type "list", data := .seq ([] : List Value).toArray }).get? s.heap.objs.size = some { cls := .type "list", data := .seq #[] } := Heap.get?_push_size _ rfl
  show wpAny _ A.in1 (Builtin.List.listExtendWith (.ref s.heap.objs.size) (.ref S) (.ref s.heap.objs.size)) _ _ _
  have hS1 : SetAt prog w (s.heap.push { cls := .type "list", data := .seq ([] : List Value).toArray }) S ys := by
    obtain ⟨o, es, ep, t, ho, rest⟩ := hS
    exact ⟨o, es, ep, t, Heap.get?_push_of_some _ ho, rest⟩
  unfold Builtin.List.listExtendWith
  refine wpAny_bind (wpAny_typeOf (T := "set") (hS1.typeIs (s := { s with heap := s.heap.push { cls := .type "list", data := .seq ([] : List Value).toArray } })) ?_)
  have h1 : Builtin.List.listSameRef (.ref s.heap.objs.size) (.ref S) = false := by simp [Builtin.List.listSameRef]; exact Nat.ne_of_gt hlt
  simp only [h1, show (Value.type "set" == Value.type "list") = false by decide, show (Value.type "set" == Value.type "tuple") = false by decide, Bool.or_false, Bool.false_eq_true, if_false]
  refine wpAny_bind (pyIter_S (s := { s with heap := s.heap.push { cls := .type "list", data := .seq ([] : List Value).toArray } }) hS1 fun I h2 d zs fp St hz hk2 hI hIfp hfp W st => ?_)
  have sz1 : (s.heap.push { cls := .type "list", data := .seq ([] : List Value).toArray }).objs.size = s.heap.objs.size + 1 := Heap.size_push _ _
  have hI' : s.heap.objs.size + 1 ≤ I := by have : (s.heap.push { cls := .type "list", data := .seq ([] : List Value).toArray }).objs.size ≤ I := hI; omega
  have hL2 := hk2 _ _ hL
  have hS2 : SetAt prog w h2 S ys := by
    obtain ⟨o, es, ep, t, ho, rest⟩ := hS1
    exact ⟨o, es, ep, t, hk2 _ _ ho, rest⟩
  refine wpAny_bind (wpAny_holding (hint_set (hS2.typeIs (s := { s with heap := h2, drawn := d })) ?_))
  have hkk : ∀ b o, s.heap.get? b = some o → h2.get? b = some o := fun b o e => hk2 b o (Heap.get?_push_of_some _ e)
  have hnf : s.heap.objs.size ∉ fp := fun hm => by
    rcases (hfp _ hm).2 with e | e
    · exact absurd hlt (by rw [← e]; exact Nat.lt_irrefl _)
    · have e : (s.heap.push { cls := .type "list", data := .seq ([] : List Value).toArray }).objs.size ≤ s.heap.objs.size := e
      rw [sz1] at e
      exact absurd e (Nat.not_succ_le_self _)
  have key : ∀ (h : Heap) (c₁ : Nat), St 0 h → (∀ b o, b ≠ s.heap.objs.size → h2.get? b = some o → h.get? b = some o) →
      h.get? s.heap.objs.size = some { cls := .type "list", data := .seq #[] c₁ } →
      codeAny (model prog w) A (.builtin "list.extend.loop" ⟨[.ref s.heap.objs.size, .ref I, .ref s.heap.objs.size], []⟩) (fun r s' => ∃ h' tk acc' c', r = .ok (.ret (.ref s.heap.objs.size)) ∧ s' = { s with heap := h', toks := tk, drawn := d } ∧
        (∀ b o, s.heap.get? b = some o → h'.get? b = some o) ∧ h'.get? s.heap.objs.size = some { cls := .type "list", dict := none, data := .seq acc' c', slots := #[] } ∧ ItemsOf (strAt zs) acc' ys.length) { s with heap := h, drawn := d } := by
    intro h c₁ hst hk hS₁
    refine codeAny_extend_loopS (W _ (by simpa using hh)).toS hsz s.heap.objs.size hnf _ ys.length 0 _ #[] c₁ rfl (Nat.zero_le _) hst hS₁ (ItemsOf.nil _) fun s' acc' c' hm hS' hacc => ?_
    rw [Moved.eq_with hm]
    refine ⟨s'.heap, s'.toks, acc', c', rfl, rfl, fun b o e => hm.heap b o (fun hmem => ?_) (hk b o (Nat.ne_of_lt (Heap.lt_size e)) (hkk b o e)), hS', hacc⟩
    have hlt := Heap.lt_size e
    rcases List.mem_cons.mp hmem with e' | hmem
    · rw [e'] at hlt; exact Nat.lt_irrefl _ hlt
    · rw [List.mem_singleton.mp hmem] at hlt
      exact absurd (Nat.lt_of_lt_of_le hlt (Nat.le_of_succ_le hI')) (Nat.lt_irrefl _)
  have fin : ∀ r s', (∃ h' tk acc' c', r = (.ok (.ret (.ref s.heap.objs.size)) : Result) ∧ s' = { s with heap := h', toks := tk, drawn := d } ∧
        (∀ b o, s.heap.get? b = some o → h'.get? b = some o) ∧ h'.get? s.heap.objs.size = some { cls := .type "list", dict := none, data := .seq acc' c', slots := #[] } ∧ ItemsOf (strAt zs) acc' ys.length) →
      match r with | .ok (.ret v) => wpAny (model prog w) A (do
        let .ref a := v | unsupported "internal:collect"
        let o ← load a
        match o.data with
        | .seq xs _ => pure xs.toList
        | _ => unsupported "internal:collect") R E s' | _ => True := by
    rintro r s' ⟨h', tk, acc', c', rfl, rfl, hk, hS', hacc⟩
    show wpAny _ A (load s.heap.objs.size >>= _) _ _ _
    refine wpAny_bind (wpAny_load hS' (wpAny_pure (h h' tk d acc'.toList zs hk (Heap.lt_size hS') hz ?_)))
    have hzl : zs.length = ys.length := hz.length_eq
    have : ∀ (as : List Value) (zs : List Str), as.length = zs.length → (∀ (j : Nat) v, as[j]? = some v → strAt zs j v) → StrsAre as zs := by
      intro as
      induction as with
      | nil => intro zs hl _; cases zs with
        | nil => exact .nil
        | cons _ _ => simp at hl
      | cons a as ih =>
        intro zs hl hh
        cases zs with
        | nil => simp at hl
        | cons z zs =>
          obtain ⟨t, e⟩ := hh 0 a rfl
          have e : a = .str z t := e
          subst e
          exact .cons _ _ (ih zs (by simpa using hl) fun j v e => by
            obtain ⟨t, e2⟩ := hh (j + 1) v (by simpa using e)
            exact ⟨t, by simpa using e2⟩)
    exact this _ _ (by rw [Array.length_toList, hacc.1, hzl]) fun j v e => hacc.2 j v (by rw [← Array.getElem?_toList]; exact e)
  refine wpAny_ite_split (fun _ => ?_) (fun _ => wpAny_pure ⟨plainId_quiet PySem.F.plain_extend_loop _, codeAny_mono (key _ _ st (fun b o _ e => e) hL2) fun r s' hr => ?_⟩)
  · refine wpAny_bind (wpAny_rule ?_)
    refine wpAny_bind ?_
    show wpAny _ _ (updateSeq s.heap.objs.size (·.push .none) >>= fun _ => updateSeq s.heap.objs.size (·.pop)) _ _ _
    refine wpAny_bind (wpAny_updateSeq hL2 rfl ?_)
    have hS₂ := Heap.get?_update_self (Obj.mapSeq (·.push Value.none)) hL2 rfl
    refine wpAny_updateSeq (hz := by seq_fits) hS₂ rfl ?_
    have hS₃ := Heap.get?_update_self (Obj.mapSeq (·.pop)) hS₂ rfl
    refine wpAny_pure ⟨plainId_quiet PySem.F.plain_extend_loop _, codeAny_mono (key _ _ ?_ (fun b o hb e => ?_) hS₃) fun r s' hr => ?_⟩
    · refine (W A hh).frame 0 _ _ st fun b hb o e => ?_
      have hbS : b ≠ s.heap.objs.size := fun h => hnf (h ▸ hb)
      exact (Heap.get?_update_other _ _ (Ne.symm hbS)).trans ((Heap.get?_update_other _ _ (Ne.symm hbS)).trans e)
    · exact (Heap.get?_update_other _ _ (Ne.symm hb)).trans ((Heap.get?_update_other _ _ (Ne.symm hb)).trans e)
    · have := fin r s' hr
      obtain ⟨_, _, _, _, rfl, _⟩ := hr
      exact this
  · have := fin r s' hr
    obtain ⟨_, _, _, _, rfl, _⟩ := hr
    exact this
end
end L2
set_option Elab.async false
set_option linter.all false
set_option maxRecDepth 100000
namespace L2
open PySem PySem.Spec PyProof.Rows
section
variable {prog : Program} {w : World} {A : Around} {E : Value → Shared → Prop} {s : Shared}
theorem sorted_S {S : Addr} {ys : List Str} {Q : Value → Shared → Prop} (hh : A.handled = none) (hS : SetAt prog w s.heap S ys) (h64 : ys.length < 64)
    (h : ∀ (l : Addr) (h' : Heap) (tk e : Nat) (d : Drawn) (out : Array Value) (ss' : List Str), (∀ b o, s.heap.get? b = some o → h'.get? b = some o) → s.heap.objs.size ≤ l → h'.get? l = some (seqObj "list" out e) → StrsAre out.toList ss' → ss'.Perm ys → sortedS ss' = true →
      Q (.ref l) { s with heap := h', toks := tk, drawn := d }) : wpAny (model prog w) A (call (.builtin "sorted") [.ref S]) Q E s := by
  refine Calls.call_function_entry kind_sorted plain_sorted entry_sorted (args_sorted1 _) ?_
  unfold Builtin.«sorted»
  refine wpAny_bind (m := checkCount "sorted" 1 1 _) (wpAny_pure ?_)
  refine wpAny_bind (collect_S (by simpa using hh) hS fun h1 tk d vs zs hk hle hz hA => ?_)
  have hl : vs.length < 64 := by
    have : vs.length = zs.length := hA.length
    rw [this, hz.length_eq]; exact h64
  refine wpAny_bind (wpAny_newList ?_)
  have hoL : (h1.push (seqObj "list" vs.toArray 0)).get? h1.objs.size = some (seqObj "list" vs.toArray 0) := Heap.get?_push_size _ rfl
  refine wpAny_bind (wpAny_holding (wpAny_call_entry slot_list_sort ⟨_, hoL, rfl⟩ entry_list_sort (list_sort_treeK strKind_oneLt hoL hA.keysOf (fun v₁ v₂ rest e => keyKind_strs (by rw [← e]; exact hA)) hl fun st' a1 a2 => ⟨_, rfl, ?_⟩) (args_list_sort _)))
  obtain ⟨ss', b1, b2, b3⟩ := sorted_out_str hA a1 a2
  obtain ⟨e, he⟩ := sortedHeap_at (out := (arrOf st').map (·.2)) hoL
  refine wpAny_pure ⟨_, rfl, h h1.objs.size _ tk e d _ ss' (fun b o q => ?_) (Nat.le_of_lt hle) he b1 (b2.trans hz) b3⟩
  have q1 := hk b o q
  have hb := Heap.lt_size q1
  rw [sortedHeap_old (Nat.ne_of_lt hb) (by rw [Heap.size_push]; exact Nat.lt_succ_of_lt hb)]
  exact Heap.get?_push_of_some _ q1
end
section
variable {X : Cx}
theorem call_sorted_S (hc : X.calm = true) : CallR X (.builtin "sorted") (fun xs H Q => ∃ p ys, xs = [.ref p] ∧ H p = some (setO X.prog X.w p ys) ∧ ys.length < 64 ∧ ∀ l, H l = none → Q (.ref l) (upd H l (.lst ((srtS ys).map V.str)))) := by
  intro pins s σ H xs us Q I r h
  obtain ⟨p, ys, rfl, hp, h64, q⟩ := h
  obtain ⟨u, rfl, ru⟩ := vals1 r
  cases ru
  obtain ⟨ys', hp', hS⟩ := I.set hp
  refine sorted_S (I.ok.hd hc) hS (by rw [hp'.length_eq]; exact h64) fun l h' tk e d out ss' hk hle he h1 h2 h3 => ?_
  have es := srtS_of (h2.trans hp') h3
  subst es
  have hf := I.hok.fresh hle
  refine ⟨.ref l, upd H l (.lst ((srtS ys).map V.str)), I.call' (s' := { s with heap := h', toks := tk, drawn := d }) (ch := []) rfl (Un.laid hk hle hf) (I.hok.laid hk hle ⟨?_, out.toList, e, of_strsAre h1, he⟩) I.bare (fun _ z => nomatch z), rfl, q _ hf⟩
  have : (srtS ys).length = ys.length := (h2.trans hp').length_eq
  rw [List.length_map, this]
  exact Nat.le_of_lt (Nat.lt_of_lt_of_le h64 (by decide))
end
end L2
set_option Elab.async false
set_option linter.all false
set_option maxRecDepth 100000
namespace L2
open PySem PySem.Spec PyProof.Rows
end L2
set_option Elab.async false
set_option linter.all false
set_option maxRecDepth 100000
namespace L2
open PySem PySem.Spec PyProof.Rows
end L2
set_option Elab.async false
set_option linter.all false
set_option maxRecDepth 100000
namespace L2
open PySem PySem.Spec PyProof.Rows
namespace F
theorem lk_list_keys : typeLookup (.type "list") "keys" = pure none := by rw [typeLookup_type, builtinLookup_eq_fast]; kernel_rfl
theorem entry_dict_update_loop : entryFor table "dict.update.loop" = some Builtin.«dict.update.loop» := entryFor_of_fast (by kernel_rfl)
theorem plain_dict_update_loop : plainId "dict.update.loop" = true := by decide +kernel
end F
section
variable {prog : Program} {w : World} {A : Around} {E : Value → Shared → Prop} {s : Shared}
theorem keys_none {a : Addr} {o : Obj} {xs : Array Value} {k : Nat} {Q : Option Value → Shared → Prop} (hx : s.heap.get? a = some o) (hc : o.cls = .type "list") (hdat : o.data = .seq xs k) (hd : o.dict = none) (hA : A.handled = none)
    (h : ∀ h' tk, (∀ b o, s.heap.get? b = some o → h'.get? b = some o) → Q none { s with heap := h', toks := tk }) : wpAny (model prog w) A (getAttr? (.ref a) "keys") Q E s := by
  obtain ⟨c, dct, dat, sl⟩ := o
  simp only at hc hdat hd
  subst hc hdat hd
  obtain ⟨hp, g, d, tk, os⟩ := s
  have hT : ∀ tk', (⟨hp, g, d, tk', os⟩ : Shared).TypeIs (.ref a) "list" := fun _ => ⟨_, hx, rfl⟩
  have f1 := sub_AttributeError
  have f3 := PySem.F.slot_list_getattribute.lookup
  have f4 := PySem.F.slot_list_getattribute.bind (.ref a)
  have f5 := am_list_getattr_none
  have hsz : ("keys" : Str).length + 100 ≤ sizeLine := by decide
  unfold getAttr? getAttrBy? getAttrBy
  repeat (any_goals (first | assumption | exact hT _ | ((with_reducible show wpAny _ _ (call (Value.builtin "list.__getattribute__") _ _) _ _ _); refine call_meets PySem.F.slot_list_getattribute (hT _) am_entry_list_getattribute (PySem.F.args_list_getattribute_2 _ _) (meets_getattribute_miss_list a xs k sl "keys" _ F.lk_list_keys (by decide +kernel) hsz) ⟨hx, hA, fun h' tk' e hx' => ?_⟩) | wp_step))
  obtain ⟨t', u', he⟩ := hx'.there
  show wpAny _ _ (getattributeRaised _ _ _ _ _ _ _) _ _ _
  unfold getattributeRaised
  repeat (any_goals (first | assumption | wp_step))
  exact h _ _ hx'.keeps
def kvK (l : List (Str × V)) : List (Key × V) := l.map fun x => (.inr x.1, x.2)
theorem mergeK_snoc (a b : List (Key × V)) (x : Key × V) : mergeK a (b ++ [x]) = putK (mergeK a b) x.1 x.2 := by
  unfold mergeK
  rw [List.foldl_append]
  rfl
theorem dict_loop {I l D : Addr} {items : Array Value} {pairs : List (Str × V)} {s0 : Shared} {R : Result → Shared → Prop} (hh : A.handled = none) (hlI : l ≠ I) (hDI : D ≠ I) (hDl : D ≠ l) (hn : items.size = pairs.length) (hsz : pairs.length ≤ sizeLine)
    (hp : ∀ (j : Nat) kv, pairs[j]? = some kv → ∃ p its tk u, items[j]? = some (.ref p) ∧ s0.heap.IsTuple p its ∧ its = #[.str kv.1 tk, u] ∧ RelV kv.2 u ∧ p ≠ D ∧ p ≠ I)
    (hR : ∀ s' cur, s'.os = s0.os → s'.gens = s0.gens → s'.drawn = s0.drawn → (∀ b o, b ≠ D → b ≠ I → s0.heap.get? b = some o → s'.heap.get? b = some o) → s'.heap.DictOf (mixKind prog w) D cur → KV (mergeK [] (kvK pairs)) cur → R (.ok (.ret .none)) s') :
    ∀ (k i : Nat) (s : Shared) (cur : List (Key × Value)) (ti : Tok), pairs.length - i = k → i ≤ pairs.length → s.os = s0.os → s.gens = s0.gens → s.drawn = s0.drawn → (∀ b o, b ≠ D → b ≠ I → s0.heap.get? b = some o → s.heap.get? b = some o) → s.heap.IsListIter I l i → s.heap.IsList l items →
      s.heap.DictOf (mixKind prog w) D cur → KV (mergeK [] (kvK (pairs.take i))) cur → cur.length ≤ i → codeAny (model prog w) A (.builtin "dict.update.loop" ⟨[.ref D, .ref I, .int i ti, .none], []⟩) R s := by
  intro k
  induction k with
  | zero =>
    intro i s cur ti hk hi e1 e2 e3 hkp hit hl hD hKV hcl
    have hin : i = pairs.length := by omega
    subst hin
    refine codeAny_builtin F.entry_dict_update_loop ?_
    rw [Around.under_plainId F.plain_dict_update_loop _]
    unfold Builtin.«dict.update.loop»
    refine wpAny_bind ((Walks.list (A := A.in1) (by simpa using hh) I l hlI items).done s _ _ (by rw [hn]; exact ⟨hit, hl⟩) fun h' tk hkk => ?_)
    show wpAny _ _ (Builtin.Dict.addKeywords D [] >>= _) _ _ _
    refine wpAny_bind (wpAny_pure (wpAny_pure ?_))
    refine hR _ cur e1 e2 e3 (fun b o hb1 hb2 e => hkk b o (by simpa using hb2) (hkp b o hb1 hb2 e)) ?_ (by rw [List.take_length] at hKV; exact hKV)
    obtain ⟨o, es, ep, ho, rest⟩ := hD
    exact ⟨o, es, ep, hkk D o (by simpa using hDI) ho, rest⟩
  | succ k ih =>
    intro i s cur ti hk hi e1 e2 e3 hkp hit hl hD hKV hcl
    have hlt : i < pairs.length := by omega
    refine codeAny_builtin F.entry_dict_update_loop ?_
    rw [Around.under_plainId F.plain_dict_update_loop _]
    unfold Builtin.«dict.update.loop»
    refine wpAny_bind ((Walks.list (A := A.in1) (by simpa using hh) I l hlI items).item i s _ _ (by omega) ⟨hit, hl⟩ fun v h1 tk hP hst hkk => ?_)
    obtain ⟨p, its, tk', u, ei, hT, rfl, ru, hpD, hpI⟩ := hp i pairs[i] (List.getElem?_eq_getElem hlt)
    have ev : v = .ref p := by rw [ei] at hP; exact (Option.some.inj hP).symm
    subst ev
    obtain ⟨ot, hot, hct, nt, hdt⟩ := hT
    have hot1 : h1.get? p = some ot := hkk p ot (by simpa using hpI) (hkp p ot hpD hpI hot)
    have hD1 : h1.DictOf (mixKind prog w) D cur := by
      obtain ⟨o, es, ep, ho, rest⟩ := hD
      exact ⟨o, es, ep, hkk D o (by simpa using hDI) ho, rest⟩
    refine wpAny_bind (wpAny_holding ?_)
    refine wpAny_bind (wpAny_tryCatch ?_)
    unfold Builtin.Dict.pairItems
    refine wpAny_bind (wpAny_typeOf (T := "tuple") ⟨ot, hot1, hct⟩ ?_)
    simp only [show (Value.type "tuple" == Value.type "list") = false by decide, show (Value.type "tuple" == Value.type "tuple") = true by decide, Bool.or_true, Bool.false_or, if_true]
    refine wpAny_bind (wpAny_seqItems hot1 hdt ?_)
    refine wpAny_pure ?_
    show wpAny _ _ (holding _ (dictSet D (.str pairs[i].1 tk') u)) _ _ _
    refine wpAny_holding (wpAny_dictSet_pairs (hsz := by omega) (k := .inr pairs[i].1) (mixKind_str prog w _ tk') hD1 fun h2 hD2 hs2 => ?_)
    refine wpAny_pure ⟨plainId_quiet F.plain_dict_update_loop _, ?_⟩
    refine ih (i + 1) { s with heap := h2, toks := tk + 1 } (stored cur (.inr pairs[i].1) u) 0 (by omega) hlt e1 e2 e3 (fun b o hb1 hb2 e => (hs2.2 b hb1).trans (hkk b o (by simpa using hb2) (hkp b o hb1 hb2 e))) ?_ ?_ hD2 ?_ ?_
    · exact hst.1.at fun o e => (hs2.2 I (Ne.symm hDI)).trans e
    · exact hst.2.at fun o e => (hs2.2 l (Ne.symm hDl)).trans e
    · have et : pairs.take (i + 1) = pairs.take i ++ [pairs[i]] := by rw [List.take_succ, List.getElem?_eq_getElem hlt]; rfl
      rw [et]
      unfold kvK
      rw [List.map_append, List.map_cons, List.map_nil, mergeK_snoc]
      exact hKV.put _ ru
    · have := hKV.length
      have h2 := (hKV.put (.inr pairs[i].1) ru).length
      rw [← h2]
      have h3 := length_putK (mergeK [] (kvK (pairs.take i))) (.inr pairs[i].1) pairs[i].2
      omega
end
section
variable {X : Cx}
theorem paired_getR {α β : Type} {F : α → β → Prop} : ∀ {xs : List α} {l : List β}, Paired F xs l → ∀ (k : Nat) (b : β), l[k]? = some b → ∃ a, xs[k]? = some a ∧ F a b
  | _, _, .nil, k, b, h => by simp at h
  | _, _, .cons r t, 0, b, h => by simp at h; subst h; exact ⟨_, rfl, r⟩
  | _, _, .cons r t, k + 1, b, h => by
    obtain ⟨a, h1, h2⟩ := paired_getR t k b (by simpa using h)
    exact ⟨a, by simpa using h1, h2⟩
def rDictP (K : PySem.W.Frag) : List V → Hp → VK → Prop := fun xs H Q => ∃ (p : Addr) (ps : List Addr) (pairs : List (Str × V)), xs = [.ref p] ∧ SqL K H p (ps.map V.ref) ∧ Paired (fun a kv => SqT K H a [.str kv.1, kv.2]) ps pairs ∧
  ∀ d, H d = none → Q (.ref d) (upd H d (.dK (mergeK [] (kvK pairs))))
theorem call_dict_P (hc : X.calm = true) : CallR X (.type "dict") (rDictP X.K) := by
  intro pins s σ H xs us Q I r h
  obtain ⟨l, ps, pairs, rfl, hq, hpp, q⟩ := h
  obtain ⟨u, rfl, ru⟩ := vals1 r
  cases ru
  obtain ⟨its, rv, ⟨ol, nl, hol, hcl, hdl, hsl⟩, hz⟩ := I.list hq
  have hA := I.ok.hd hc
  have hll : l < s.heap.objs.size := Heap.lt_size hol
  have hlen : ps.length = pairs.length := hpp.length
  have hits : its.length = pairs.length := by rw [← rv.length, List.length_map]; exact hlen
  have hsz : pairs.length ≤ sizeLine := by rw [List.length_map] at hz; omega
  refine callType_codes (Q₁ := fun obj s₁ => obj = .ref s.heap.objs.size ∧ s₁ = { s with heap := s.heap.push { cls := .type "dict", data := .dict #[] } }) PySem.F.kt_called_dict (PySem.F.kt_typeCall_dict_1 _) PySem.F.entry_dict_init (kt_code_dict_new _ ⟨rfl, rfl⟩) ?_
  rintro obj s₁ ⟨rfl, rfl⟩
  have hnew : (s.heap.push { cls := .type "dict", data := .dict #[] }).DictOf (mixKind X.prog X.w) s.heap.objs.size [] := Heap.DictOf.new s.heap
  refine ⟨hnew.typeIs, PySem.F.args_dict_init_2 _ _, ?_⟩
  unfold Builtin.«dict.__init__»
  refine wpAny_bind ?_
  unfold Builtin.Dict.selfAndRest
  refine wpAny_bind (wpAny_notOrdered_dict hnew.typeIs ?_)
  show wpAny _ _ (pure (s.heap.objs.size, [Value.ref l])) _ _ _
  refine wpAny_pure ?_
  show wpAny _ _ (Builtin.Dict.updateFrom "dict.__init__" s.heap.objs.size (.ref l) [] .none) _ _ _
  unfold Builtin.Dict.updateFrom
  have hol1 : (s.heap.push { cls := .type "dict", data := .dict #[] }).get? l = some ol := Heap.get?_push_of_some _ hol
  refine wpAny_bind (wpAny_typeOf (T := "list") ⟨ol, hol1, hcl⟩ ?_)
  rw [if_pos (by decide)]
  refine wpAny_bind (keys_none (s := { s with heap := s.heap.push { cls := .type "dict", data := .dict #[] } }) hol1 hcl hsl hdl (by simpa using hA) fun h2 tk2 hk2 => ?_)
  simp only [Option.isNone_none, if_true]
  refine wpAny_bind (wpAny_rule ?_)
  have hol2 : h2.get? l = some ol := hk2 l ol hol1
  have hl2 : h2.IsList l its.toArray := ⟨ol, hol2, hcl, nl, hsl⟩
  have hD2 : h2.DictOf (mixKind X.prog X.w) s.heap.objs.size [] := by
    obtain ⟨o, es, ep, ho, rest⟩ := hnew
    exact ⟨o, es, ep, hk2 _ o ho, rest⟩
  have hDlt : s.heap.objs.size < h2.objs.size := by
    obtain ⟨o, es, ep, ho, rest⟩ := hD2
    exact Heap.lt_size ho
  have hllt : l < h2.objs.size := Heap.lt_size hol2
  refine wpAny_bind (wpAny_pyIter_list (s := { s with heap := h2, toks := tk2 }) hl2 ?_)
  refine wpAny_pure ⟨plainId_quiet F.plain_dict_update_loop _, ?_⟩
  have hk3 : ∀ b o, s.heap.get? b = some o → (h2.push { cls := .type "list_iterator", data := .fields #[.ref l, .int 0 0] }).get? b = some o := fun b o e => Heap.get?_push_of_some _ (hk2 b o (Heap.get?_push_of_some _ e))
  refine dict_loop (A := X.A.in1) (I := h2.objs.size) (l := l) (D := s.heap.objs.size) (items := its.toArray) (pairs := pairs) (s0 := { s with heap := h2.push { cls := .type "list_iterator", data := .fields #[.ref l, .int 0 0] }, toks := tk2 })
    (by simpa using hA) (Nat.ne_of_lt hllt) (Nat.ne_of_lt hDlt) (Nat.ne_of_gt hll) (by rw [List.size_toArray]; exact hits) hsz ?_ ?_ pairs.length 0 _ [] 0 (by omega) (Nat.zero_le _) rfl rfl rfl (fun b o _ _ e => e) ?_ ?_ ?_ (by rw [List.take_zero]; exact .nil) (Nat.le_refl _)
  · intro j kv hkv
    obtain ⟨p, hpj, hT⟩ := paired_getR hpp j kv hkv
    obtain ⟨tis, rt, pt, _⟩ := I.tuple hT
    obtain ⟨u1, u2, e2, r1, r2⟩ := vals2 rt
    obtain ⟨t1, rfl⟩ := r1
    subst e2
    obtain ⟨ot, hot, hct, nt, hdt⟩ := pt
    have hplt : p < s.heap.objs.size := Heap.lt_size hot
    obtain ⟨v, hv, rvv⟩ := rv.get (i := j) (x := .ref p) (by rw [List.getElem?_map, hpj]; rfl)
    cases rvv
    refine ⟨p, _, t1, u2, by simpa using hv, ⟨ot, hk3 p ot hot, hct, nt, hdt⟩, rfl, r2, Nat.ne_of_lt hplt, Nat.ne_of_lt (Nat.lt_trans hplt hDlt)⟩
  · intro s' cur e1 e2 e3 hkp hD hKV
    refine ⟨rfl, ?_⟩
    have hf := I.hok.fresh (Nat.le_refl s.heap.objs.size)
    have hk4 : ∀ b o, s.heap.get? b = some o → s'.heap.get? b = some o := fun b o e => hkp b o (Nat.ne_of_lt (Heap.lt_size e)) (Nat.ne_of_lt (Nat.lt_trans (Heap.lt_size e) hDlt)) (hk3 b o e)
    have hmz : (mergeK [] (kvK pairs)).length ≤ sizeLine := by
      have gen : ∀ (ls acc : List (Key × V)), (mergeK acc ls).length ≤ acc.length + ls.length := by
        intro ls
        induction ls with
        | nil => intro acc; exact Nat.le_refl _
        | cons x ls ih =>
          intro acc
          show (mergeK (putK acc x.1 x.2) ls).length ≤ _
          have := ih (putK acc x.1 x.2)
          have h3 := length_putK acc x.1 x.2
          rw [List.length_cons]
          omega
      have := gen (kvK pairs) []
      have e : (kvK pairs).length = pairs.length := by unfold kvK; rw [List.length_map]
      simp at this
      omega
    refine ⟨.ref s.heap.objs.size, _, I.call' (s' := s') (ch := []) e1 (Un.laid hk4 (Nat.le_refl _) hf) (I.hok.laid hk4 (Nat.le_refl _) (dk_new hmz (beq_eq_false_iff_ne.mpr (Ne.symm (Nat.ne_of_lt I.big))) hKV hD)) (by rw [e2]; exact I.bare) (fun _ z => nomatch z), rfl, q _ hf⟩
  · exact ⟨_, Heap.get?_push_size _ rfl, rfl, rfl⟩
  · exact hl2.push _
  · obtain ⟨o, es, ep, ho, rest⟩ := hD2
    exact ⟨o, es, ep, Heap.get?_push_of_some _ ho, rest⟩
end
end L2
set_option Elab.async false
set_option linter.all false
set_option maxRecDepth 100000
namespace L2
open PySem PySem.Spec PyProof.Rows
end L2
set_option Elab.async false
set_option linter.all false
set_option maxRecDepth 100000
namespace L2
open PySem PySem.Spec PyProof.Rows
theorem Same.seqT {K : PySem.W.Frag} {H H' : Hp} {a : Addr} {xs : List V} (e : Same H H') (h : SqT K H a xs) : SqT K H' a xs := by
  rcases h with (h | ⟨o, h⟩) | h
  · exact .inl (.inl (e _ _ h))
  · exact .inl (.inr ⟨o, e _ _ h⟩)
  · exact .inr h
theorem Same.up {H : Hp} {p : Addr} (h : H p = none) {o : HO} : Same H (upd H p o) := same_upd h o
theorem Same.to {H H1 : Hp} {p : Addr} (s : Same H H1) (h : H1 p = none) {o : HO} : Same H (upd H1 p o) := s.trans (same_upd h o)
theorem Same.at {H H1 : Hp} {p : Addr} (s : Same H H1) (h : H p = none) {o : HO} : Same H (upd H1 p o) := fun b u q => by rw [upd_ne (ne_of_none q h)]; exact s b u q
theorem comp_scope {X : Cx} {NY : List Str} {o : Nat} {caps : List Nat} {scope : Scope} (frees : List Str) (k : scope.kind = .function) (nd : NY.Nodup) (nc : scope.names.all (fun y => y.2 != .cell) = true)
    (lc : scope.names.all (fun y => y.2 != .local || scope.names.lookup y.1 == some .local) = true) (fr : scope.names.all (fun y => y.2 != .free || frees.contains y.1) = true)
    (fk : ∀ x ∈ frees, X.env.kindOf x = some .cell ∨ X.env.kindOf x = some .free) (cap : ∀ (j i : Nat), caps[j]? = some i → ∃ x, NY[o + j]? = some x ∧ X.N[i]? = some x ∧ scope.names.lookup x = some .free) (len : NY.length = o + caps.length) : CompScope X NY o caps scope where
  kind := k
  nd := nd
  nocell := fun y hy e => by have := List.all_eq_true.mp nc y hy; rw [e] at this; cases this
  frees := fun y hy e => by
    have := List.all_eq_true.mp fr y hy
    rw [e] at this
    exact fk _ (List.contains_iff_mem.mp this)
  locs := fun y hy e => by
    have := List.all_eq_true.mp lc y hy
    rw [e] at this
    simpa using this
  capOk := cap
  len := len
theorem cap0 {X : Cx} {NY : List Str} {o : Nat} {scope : Scope} : ∀ (j i : Nat), ([] : List Nat)[j]? = some i → ∃ x, NY[o + j]? = some x ∧ X.N[i]? = some x ∧ scope.names.lookup x = some .free := fun j i h => by simp at h
theorem comp_rel {o : Nat} {caps : List Nat} {adv : Adv} {stop : Nat → Hp → Prop} {tt : TT} {te : TE} {σ : St} {H1 : Hp} {Q : VK} (n : Nat) (R : Nat → List V → Hp → Prop) (h0 : ∀ D, H1 D = none → R 0 [] (upd H1 D (.lst []))) (hlen : ∀ i ys H, i < n → R i ys H → ys.length < sizeLine)
    (turn : ∀ (i : Nat) (ys : List V) (H : Hp) (D : Addr) (Y : V → Hp → Prop) (Z : Hp → Prop), i < n → H1 D = none → H D = some (.lst ys) → Same H1 H → R i ys H →
      (∀ y H4, H4 D = some (.lst ys) → Same H1 H4 → R (i + 1) (ys ++ [y]) (upd H4 D (.lst (ys ++ [y]))) → Y y H4) → (∀ H3, H3 D = some (.lst ys) → Same H1 H3 → R (i + 1) ys H3 → Z H3) →
      adv i (stY o caps σ) H fun σ2 H2 => Kp o (stY o caps σ) σ2 ∧ tt σ2 H2 fun b H3 => if b = true then te σ2 H3 Y else Z H3)
    (stp : ∀ H, Same H1 H → stop n H) (fin : ∀ (D : Addr) (H : Hp) (ys : List V), H1 D = none → Same H1 H → H D = some (.lst ys) → R n ys H → Q (.ref D) H) : tCompW o caps adv stop tt te σ H1 Q := by
  intro D hD
  refine ⟨fun i m ys H => m = n - i ∧ i ≤ n ∧ H D = some (.lst ys) ∧ Same H1 H ∧ R i ys H, ⟨n, by simp, Nat.zero_le _, upd_same, Same.up hD, h0 D hD⟩, ?_⟩
  rintro i m ys H ⟨rfl, hi, hH, sm, r⟩
  by_cases hlt : i < n
  · refine .inr (turn i ys H D _ _ hlt hD hH sm r (fun y H4 e1 e2 e3 => ⟨e1, hlen i ys H hlt r, n - (i + 1), by omega, rfl, hlt, upd_same, e2.at hD, e3⟩) (fun H3 e1 e2 e3 => ⟨n - (i + 1), by omega, rfl, hlt, e1, e2, e3⟩))
  · have e : i = n := by omega
    subst e
    exact .inl ⟨stp H sm, fin D H ys hD sm hH r⟩
theorem small {n : Nat} (h : n ≤ 100000) : n < sizeLine := Nat.lt_of_le_of_lt h (by decide)
theorem smallE {n : Nat} (h : n ≤ 100000) : n ≤ sizeLine := Nat.le_of_lt (small h)
theorem getElem?_map_some {α β : Type} {f : α → β} {l : List α} {i : Nat} {y : β} (h : (l.map f)[i]? = some y) : ∃ x, l[i]? = some x ∧ y = f x := by
  rw [List.getElem?_map] at h
  cases e : l[i]? with
  | none => rw [e] at h; cases h
  | some x => rw [e] at h; exact ⟨x, rfl, (Option.some.inj h).symm⟩
theorem take_snoc {α : Type} {l : List α} {i : Nat} {x : α} (h : l[i]? = some x) : l.take (i + 1) = l.take i ++ [x] := by rw [List.take_succ, h]; rfl
theorem lt_of_some {α : Type} {l : List α} {i : Nat} {x : α} (h : l[i]? = some x) : i < l.length := (List.getElem?_eq_some_iff.mp h).1
theorem bool_ne (a b : Bool) : (!decide (V.bl a = V.bl b)) = (a != b) := by cases a <;> cases b <;> rfl
theorem ofCs_len (a : List Nat) : (ofCs a).length = a.length := by
  show a.toArray.size = a.length
  simp
theorem vS_map (F : List (List Nat)) : F.map vS = (F.map ofCs).map V.str := by rw [List.map_map]; rfl
theorem ofCs_inj {a b : List Nat} (h : ofCs a = ofCs b) : a = b := congrArg cs h
theorem srtS_eq {us : List Str} {F : List (List Nat)} (h1 : us.Nodup) (h2 : F.Nodup) (h : ∀ x, x ∈ us ↔ cs x ∈ F) : (srtS us).map V.str = (Fs.srt F).map vS := by
  unfold srtS
  rw [vS_map]
  have hp : (us.map cs).Perm F := by
    refine (List.perm_ext_iff_of_nodup ?_ h2).mpr fun p => ?_
    · exact List.pairwise_map.mpr (h1.imp fun {a b} hab e => hab (cs_inj e))
    · rw [List.mem_map]
      constructor
      · rintro ⟨x, hx, rfl⟩; exact (h x).mp hx
      · intro hp; exact ⟨ofCs p, (h _).mpr hp, rfl⟩
  rw [Fs.srt_perm_eq hp]
theorem perm_len {us : List Str} {F : List (List Nat)} (h1 : us.Nodup) (h2 : F.Nodup) (h : ∀ x, x ∈ us ↔ cs x ∈ F) : us.length = F.length := by
  have hp : (us.map cs).Perm F := by
    refine (List.perm_ext_iff_of_nodup ?_ h2).mpr fun p => ?_
    · exact List.pairwise_map.mpr (h1.imp fun {a b} hab e => hab (cs_inj e))
    · rw [List.mem_map]
      constructor
      · rintro ⟨x, hx, rfl⟩; exact (h x).mp hx
      · intro hp; exact ⟨ofCs p, (h _).mpr hp, rfl⟩
  rw [← hp.length_eq, List.length_map]
end L2
namespace Fs
structure On (ls : List Nat) (F : List Pr) : Prop where
  vf : Vf F
  mem : ∀ p ∈ F, ∀ c ∈ p, c ∈ ls
theorem On.sub {ls : List Nat} {F : List Pr} (h : On ls F) (hl : ls.Pairwise (· < ·)) : ∀ p ∈ F, p.Sublist ls := fun p hp => rise_sub hl (h.vf.prod p hp) (h.mem p hp)
theorem On.len {ls : List Nat} {F : List Pr} (h : On ls F) (hl : ls.Pairwise (· < ·)) : F.length ≤ 2 ^ ls.length := by
  rw [← prods_length]
  exact nodup_len h.vf.nodup fun p hp => mem_prods.mpr (h.sub hl p hp)
theorem flat_le {n : Nat} : ∀ {F : List Pr}, (∀ p ∈ F, p.length ≤ n) → F.flatten.length ≤ F.length * n
  | [], _ => by simp
  | p :: F, h => by
    rw [List.flatten_cons, List.length_append, List.length_cons, Nat.succ_mul]
    have h1 := h p List.mem_cons_self
    have h2 := flat_le fun q hq => h q (List.mem_cons_of_mem _ hq)
    omega
theorem On.flat {ls : List Nat} {F : List Pr} (h : On ls F) (hl : ls.Pairwise (· < ·)) : F.flatten.length ≤ F.length * ls.length := flat_le fun p hp => (h.sub hl p hp).length_le
theorem On.one (ls : List Nat) : On ls [[]] := ⟨one_vf, by simp⟩
theorem On.nil (ls : List Nat) : On ls [] := ⟨nil_vf, by simp⟩
structure Ok5 (ls : List Nat) : Prop where
  rise : ls.Pairwise (· < ·)
  len : ls.length ≤ 5
theorem Ok5.le {ls : List Nat} {F : List Pr} (o : Ok5 ls) (h : On ls F) : F.length ≤ 32 := by
  have h1 := h.len o.rise
  have h2 : 2 ^ ls.length ≤ 2 ^ 5 := Nat.pow_le_pow_right (by decide) o.len
  omega
end Fs
set_option Elab.async false
set_option linter.all false
set_option maxRecDepth 100000
namespace L2
open PySem PySem.Spec PyProof.Rows
section
variable {X : Cx}
def rIsT (K : PySem.W.Frag) : List V → Hp → VK → Prop := fun xs H Q => ∃ (x : V) (T : String), xs = [x, .ty T] ∧ TyOf K H x (.type T) ∧ Q (.bl true) H
theorem call_isT : CallR X (.builtin "isinstance") (rIsT X.K) := by
  intro pins s σ H xs us Q I r h
  obtain ⟨x, T, rfl, ty, q⟩ := h
  obtain ⟨u1, u2, rfl, r1, r2⟩ := vals2 r
  cases r2
  refine isinst_ok (c := .type T) I r1 ty (b := true) ?_ fun tk => ⟨.bl true, H, I.tok tk, rfl, q⟩
  unfold PySem.W.kitOne
  rw [if_pos (by simp)]
def rDictD : List V → Hp → VK → Prop := fun xs H Q => ∃ (p : Addr) (kvs : List (Key × V)), xs = [.ref p] ∧ H p = some (.dK kvs) ∧ ∀ d, H d = none → Q (.ref d) (upd H d (.dK kvs))
theorem call_dict_D : CallR X (.type "dict") rDictD := by
  intro pins s σ H xs us Q I r h
  obtain ⟨p, kvs, rfl, hp, q⟩ := h
  obtain ⟨u, rfl, ru⟩ := vals1 r
  cases ru
  obtain ⟨hz, hS, vs, rel, dd⟩ := dk_of I.hok hp
  refine kt_call_dict hS dd (by rw [← rel.length]; exact hz) fun h' hd' hs => ?_
  have hf := I.hok.fresh (Nat.le_refl s.heap.objs.size)
  have hk : ∀ b o, s.heap.get? b = some o → h'.get? b = some o := fun b o e => (hs.2 b (Nat.ne_of_lt (Heap.lt_size e))).trans (Heap.get?_push_of_some _ e)
  exact ⟨.ref s.heap.objs.size, _, I.laid (a := s.heap.objs.size) (o := .dK kvs) (t' := s.toks) hk (Nat.le_refl _) (dk_new hz (beq_eq_false_iff_ne.mpr (Ne.symm (Nat.ne_of_lt I.big))) rel hd'), rfl, q _ hf⟩
theorem Vals.erase : ∀ {xs : List V} {us : List Value} (i : Nat), Vals xs us → Vals (xs.eraseIdx i) (us.eraseIdx i)
  | _, _, _, .nil => .nil
  | _, _, 0, .cons _ t => t
  | _, _, i + 1, .cons r t => .cons r (Vals.erase i t)
end
end L2
set_option Elab.async false
set_option linter.all false
set_option maxRecDepth 100000
namespace L2
open PySem PySem.Spec PyProof.Rows
theorem Inv.lays {X : Cx} {pins : List (Addr × Obj)} {σ : St} {H H' : Hp} {s : Shared} {h' : Heap} {t' : Nat} (I : Inv X pins σ H s) (k : ∀ b u, s.heap.get? b = some u → h'.get? b = some u) (sm : Same H H') (old : ∀ b, b < s.heap.objs.size → H b = none → H' b = none)
    (new : ∀ a o, H' a = some o → H a = some o ∨ ObjOk X.prog X.w H' h' a o) : Inv X pins σ H' { s with heap := h', toks := t' } := by
  refine I.un ⟨fun b ob q _ _ _ => k b ob q, fun b ob q _ _ _ => ⟨ob.slots, k b ob q⟩, fun b ob q n _ => old b (Heap.lt_size q) n, fun b ob q _ => ⟨ob, k b ob q⟩, fun b xs q => sm _ _ q, fun b o u q => sm _ _ q, fun b ps q => ⟨#[], by rw [sm _ _ q]; simp⟩⟩ ?_
  intro a o e
  rcases new a o e with q | q
  · exact (I.hok a o q).stay (fun b u _ q => k b u q) (fun b q => sm _ _ q) fun b xs q => sm _ _ q
  · exact q
def layT (H : Hp) : List (Addr × V × V) → Hp
  | [] => H
  | (a, x, y) :: ps => upd (layT H ps) a (.tup [x, y])
theorem layT_out {H : Hp} : ∀ {ps : List (Addr × V × V)} {b : Addr}, b ∉ ps.map (·.1) → layT H ps b = H b
  | [], b, _ => rfl
  | (a, x, y) :: ps, b, h => by
    rw [List.map_cons, List.mem_cons] at h
    show upd (layT H ps) a _ b = _
    rw [upd_ne (fun e => h (.inl e)), layT_out fun e => h (.inr e)]
theorem layT_in {H : Hp} : ∀ {ps : List (Addr × V × V)} {a : Addr} {x y : V}, (ps.map (·.1)).Nodup → (a, x, y) ∈ ps → layT H ps a = some (.tup [x, y])
  | [], _, _, _, _, h => by cases h
  | (b, u, v) :: ps, a, x, y, nd, h => by
    rw [List.map_cons, List.nodup_cons] at nd
    show upd (layT H ps) b _ a = _
    rcases List.mem_cons.mp h with e | e
    · cases e; exact upd_same
    · have : a ≠ b := fun q => nd.1 (by rw [← q]; exact List.mem_map.mpr ⟨_, e, rfl⟩)
      rw [upd_ne this]; exact layT_in nd.2 e
theorem layT_inv {H : Hp} : ∀ {ps : List (Addr × V × V)} {b : Addr} {o : HO}, layT H ps b = some o → H b = some o ∨ ∃ x y, (b, x, y) ∈ ps ∧ o = .tup [x, y]
  | [], _, _, h => .inl h
  | (a, x, y) :: ps, b, o, h => by
    have h : upd (layT H ps) a (.tup [x, y]) b = some o := h
    by_cases e : b = a
    · subst e; rw [upd_same] at h; cases h; exact .inr ⟨x, y, List.mem_cons_self .., rfl⟩
    · rw [upd_ne e] at h
      rcases layT_inv h with q | ⟨u, v, q, r⟩
      · exact .inl q
      · exact .inr ⟨u, v, List.mem_cons_of_mem _ q, r⟩
theorem paired_of {α β : Type} {F : α → β → Prop} : ∀ {l : List α} {m : List β}, l.length = m.length → (∀ (j : Nat) a b, l[j]? = some a → m[j]? = some b → F a b) → Paired F l m
  | [], [], _, _ => .nil
  | [], _ :: _, h, _ => by simp at h
  | _ :: _, [], h, _ => by simp at h
  | a :: l, b :: m, h, f => .cons (f 0 a b rfl rfl) (paired_of (by simpa using h) fun j c d e1 e2 => f (j + 1) c d (by simpa using e1) (by simpa using e2))
theorem bt_list_ : bootBuiltins "list" = some (.type "list") := by decide +kernel
end L2
set_option Elab.async false
set_option linter.all false
set_option maxRecDepth 100000
namespace L2
open PySem PySem.Spec PyProof.Rows
structure Mk0 (K : PySem.W.Frag) (C : Addr) : Prop where
  makes : PySem.W.makesIn K C = true
  init : PySem.W.findIn K (.ref C) "__init__" = some (some (.builtin "object.__init__"))
  kp : PySem.W.keepIn K (.ref C) = true
def tMakeN (C : Addr) : TE := fun σ H Q => ∀ x dx, H x = none → H dx = none → dx ≠ x → Q (.ref x) (upd (upd H dx (.own x)) x (.ins C dx []))
theorem pe_makeN {X : Cx} {C : Addr} {x : Str} {p pos : Pos} (M : Mk0 X.K C) (hg : Gl X x) (hm : X.mg x = some (.ref C)) (hdb : (x == ("__debug__" : Str)) = false := by decide) : PE X (.Call (.Name x p) [] [] pos) (tMakeN C) := by
  intro pins s σ H Q I h
  refine wpAny_Call_Name_kw (ld_glob I hg hm ?_ hdb)
  refine PySem.W.callWith_K0 I.kIn M.kp (wpAny_call (make_map0 I.kIn M.makes M.init (fun self => PySem.W.Looks.of_pure (PySem.W.oi_bind self)) ?_))
  have Y := PySem.W.makes_of (M := model X.prog X.w) I.kIn M.makes
  have hx : ((s.heap.push PySem.W.emptyDict).push (PySem.W.instObj C s.heap.objs.size)).get? (s.heap.objs.size + 1) = some (PySem.W.instObj C s.heap.objs.size) := by
    rw [← Heap.size_push s.heap PySem.W.emptyDict]
    exact Heap.get?_push_size _ rfl
  have t1 : PySem.W.Looks (model X.prog X.w) ((s.heap.push PySem.W.emptyDict).push (PySem.W.instObj C s.heap.objs.size)) (typeOf (.ref (s.heap.objs.size + 1))) (.ref C) := (PySem.W.Looks.ld hx).andThen .now
  have t2 : PySem.W.Looks (model X.prog X.w) ((s.heap.push PySem.W.emptyDict).push (PySem.W.instObj C s.heap.objs.size)) (isInstance (.ref (s.heap.objs.size + 1)) (.type "object")) true := t1.andThen (Y.top.keeps fun b o e => Heap.get?_push_of_some _ (Heap.get?_push_of_some _ e))
  refine codeAny_call_builtin PySem.W.oi_plain PySem.W.entry_oi (@PySem.W.check_slot (model X.prog X.w) _ _ _ "object.__init__" "object" "__init__" (.ref (s.heap.objs.size + 1)) [] [] _ PySem.W.oi_kind PySem.W.oi_split t2 (PySem.W.oi_args _) ?_)
  rw [PySem.W.oi_run]
  have hq := h (s.heap.objs.size + 1) s.heap.objs.size (I.hok.fresh (Nat.le_succ _)) (I.hok.fresh (Nat.le_refl _)) (Nat.ne_of_lt (Nat.lt_succ_self _))
  exact wpAny_pure (And.intro rfl ⟨.ref (s.heap.objs.size + 1), _, Inv.made (C := C) I, rfl, hq⟩)
theorem PE.or {X : Cx} {e : Expr} {t u : TE} (h : PE X e t) (h' : PE X e u) : PE X e (fun σ H Q => t σ H Q ∨ u σ H Q) := fun pins s σ H Q I hw => hw.elim (h pins s σ H Q I) (h' pins s σ H Q I)
end L2
set_option Elab.async false
set_option linter.all false
set_option maxRecDepth 100000
namespace L2
open PySem PySem.Spec PyProof.Rows
theorem key_rel {k : Key} {v : Value} (h : keyIs k v = true) : RelV (kV k) v := by
  rcases keyIs_shape h with ⟨i, t, rfl, rfl⟩ | ⟨x, t, rfl, rfl⟩
  · exact ⟨t, rfl⟩
  · exact ⟨t, rfl⟩
theorem paired_getLx {α β : Type} {F : α → β → Prop} : ∀ {xs : List α} {l : List β}, Paired F xs l → ∀ (k : Nat) (a : α), xs[k]? = some a → ∃ b, l[k]? = some b ∧ F a b
  | _, _, .nil, k, a, h => by simp at h
  | _, _, .cons r t, 0, a, h => by simp at h; subst h; exact ⟨_, rfl, r⟩
  | _, _, .cons r t, k + 1, a, h => paired_getLx t k a (by simpa using h)
def tListItems (to : TE) : TE := fun σ H Q => to σ H fun x H1 => ∃ (d : Addr) (kvs : List (Key × V)), x = .ref d ∧ H1 d = some (.dK kvs) ∧
  ∀ (l : Addr) (as : List Addr) (H2 : Hp), Same H1 H2 → H2 l = some (.lst (as.map V.ref)) → Paired (fun c (p : Key × V) => H2 c = some (.tup [kV p.1, p.2])) as kvs → Q (.ref l) H2
theorem pe_listitems {X : Cx} {o : Expr} {to : TE} {p pos apos cpos : Pos} (hc : X.calm = true) (hgl : Gl X "list") (hml : X.mg "list" = none) (ho : PE X o to)
    (hbase : attributeBase o "items" X.env (eval o X.env) = eval o X.env := by rfl) (hline : (apos.endLine == cpos.line) = true := by rfl)
    (hs0 : starEach [.Call (.Attribute o "items" apos) [] [] cpos] X.env = [(false, eval (.Call (.Attribute o "items" apos) [] [] cpos) X.env)] := by rfl) :
    PE X (.Call (.Name "list" p) [.Call (.Attribute o "items" apos) [] [] cpos] [] pos) (tListItems to) := by
  intro pins s σ H Q I h
  refine wpAny_Call_Name_kw (ld_blt I hgl hml bt_list_ ?_)
  refine PyProof.Rows.callWith_type1 ?_ (by rw [hs0]; rfl) (by rfl)
  rw [hs0]
  show wpAny _ _ (spliced [(false, eval (.Call (.Attribute o "items" apos) [] [] cpos) X.env)]) _ _ s
  refine Calls.spliced_cons ?_
  refine wpAny_Call_method0_late hbase hline (thn (ho pins s σ H _ I h) fun v s1 ⟨x, H1, I1, r1, q1⟩ => ?_)
  obtain ⟨d, kvs, rfl, hd, q⟩ := q1
  cases r1
  obtain ⟨hz, hS, vs, rel, dd⟩ := dk_of I1.hok hd
  obtain ⟨h1, h2⟩ := tyV_is (T := "dict") I1 (x := .ref d) (v := .ref d) rfl (.inr (.inr (.inl ⟨rfl, .inl ⟨kvs, hd⟩⟩)))
  refine ⟨"dict", "dict.items", PySem.F.plainAttrs_dict, PySem.F.slot_dict_items, PySem.F.type_dict_items, h1, h2, Calls.callWith_builtin rfl (PySem.evalArgs_none ?_)⟩
  refine call_meetsIn PySem.F.slot_dict_items dd.typeIs PySem.F.entry_dict_items (PySem.F.args_dict_items_1 _) (meets_dict_items (mixKind X.prog X.w) d hS) ⟨⟨vs, dd⟩, ?_⟩
  refine Calls.spliced_nil ?_
  obtain ⟨od, es, ep, d1, d2, d3, d4, d5, d6⟩ := dd
  have lv : vs.length = kvs.length := (PySem.Paired.length rel).symm
  refine PySem.W.kdx_call (knd := mixKind X.prog X.w) (kvs := vs) (ep := ep) (d := d) (s := { s1 with heap := s1.heap.push { cls := .type "dict_items", data := .fields #[.ref d] } }) (I1.ok.hd hc) ⟨_, Heap.get?_push_size _ rfl, rfl, rfl⟩ ⟨od, es, Heap.get?_push_of_some _ d1, d2, d3, d4, d5, d6⟩ (by rw [lv]; exact hz) fun h' tk acc c as hk hS' hl hG hacc => ?_
  dsimp only at hk hS' hG ⊢
  rw [Heap.size_push] at hS' hG ⊢
  have kept : ∀ b u, s1.heap.get? b = some u → h'.get? b = some u := fun b u e => hk b u (Heap.get?_push_of_some _ e)
  have lk : as.length = kvs.length := hl.trans lv
  have fst : (as.zip (kvs.map fun p => (kV p.1, p.2))).map (·.1) = as := by rw [← List.unzip_fst, List.unzip_zip (by rw [List.length_map]; exact lk)]
  have big : ∀ c ∈ as, s1.heap.objs.size + 1 < c := fun c hc => hG.above c hc
  have nd : as.Nodup := hG.rise.imp fun {a b} hab e => by subst e; exact Nat.lt_irrefl _ hab
  let H2 : Hp := upd (layT H1 (as.zip (kvs.map fun p => (kV p.1, p.2)))) (s1.heap.objs.size + 1) (.lst (as.map V.ref))
  have hin : ∀ c x y, (c, x, y) ∈ as.zip (kvs.map fun p => (kV p.1, p.2)) → H2 c = some (.tup [x, y]) := fun c x y hm => by
    have hca : c ∈ as := by rw [← fst]; exact List.mem_map.mpr ⟨_, hm, rfl⟩
    show upd _ _ _ c = _
    rw [upd_ne (Nat.ne_of_gt (big c hca))]
    exact layT_in (by rw [fst]; exact nd) hm
  have low : ∀ c, c < s1.heap.objs.size → H2 c = H1 c := fun c hc => by
    show upd _ _ _ c = _
    rw [upd_ne (Nat.ne_of_lt (Nat.lt_of_lt_of_le hc (Nat.le_add_right _ _)))]
    refine layT_out ?_
    rw [fst]
    exact fun hm => Nat.lt_irrefl _ (Nat.lt_trans hc (Nat.lt_trans (Nat.lt_add_of_pos_right (by decide)) (big c hm)))
  have sm : Same H1 H2 := fun c o e => by rw [low c (I1.hok.lt e)]; exact e
  refine ⟨.ref (s1.heap.objs.size + 1), H2, I1.lays kept sm (fun c hc e => by rw [low c hc]; exact e) ?_, rfl, q _ as H2 sm upd_same ?_⟩
  · intro c o e
    by_cases hcl : c = s1.heap.objs.size + 1
    · subst hcl
      rw [show H2 (s1.heap.objs.size + 1) = some (.lst (as.map V.ref)) from upd_same] at e
      cases e
      refine .inr ⟨by rw [List.length_map, lk]; exact hz, acc.toList, _, ?_, hS'⟩
      rw [hacc]
      have gen : ∀ l : List Addr, Vals (l.map V.ref) (l.map Value.ref) := fun l => by
        induction l with
        | nil => exact .nil
        | cons a l ih => exact .cons rfl ih
      exact gen as
    · rw [show H2 c = layT H1 (as.zip (kvs.map fun p => (kV p.1, p.2))) c from upd_ne hcl] at e
      rcases layT_inv e with q | ⟨x, y, hm, rfl⟩
      · exact .inl q
      · obtain ⟨j, hj⟩ := List.mem_iff_getElem?.mp hm
        rw [List.getElem?_zip_eq_some] at hj
        obtain ⟨hj1, hj2⟩ := hj
        obtain ⟨⟨k, w⟩, hkw, ekw⟩ := getElem?_map_some hj2
        injection ekw with e1 e2
        obtain ⟨key, k', x', w1, w2, w3⟩ := hG.pairs j c hj1
        obtain ⟨b, hb, hbk, hbv⟩ := paired_getLx rel j (k, w) hkw
        rw [hb] at w1
        cases w1
        dsimp only at e1 e2 hbk hbv
        subst e1 e2 hbk
        exact .inr ⟨smallE (by show 2 ≤ _; decide), [_, _], .cons (key_rel w2) (.cons hbv .nil), ⟨_, w3, rfl, _, rfl⟩⟩
  · refine paired_of lk fun j c pr e1 e2 => ?_
    exact hin c (kV pr.1) pr.2 (List.mem_iff_getElem?.mpr ⟨j, List.getElem?_zip_eq_some.mpr ⟨e1, by rw [List.getElem?_map, e2]; rfl⟩⟩)
end L2
set_option Elab.async false
set_option linter.all false
set_option maxRecDepth 100000
namespace L2
open PySem PySem.Spec PyProof.Rows
theorem eqV_self {x : V} (h : flatV x = true) : eqV x x = true := by
  cases x <;> first | rfl | (simp [eqV]; done) | cases h
theorem valV_mem {k : Key} {v : V} : ∀ {kvs : List (Key × V)}, (kvs.map (·.1)).Nodup → (k, v) ∈ kvs → valV kvs k = some v
  | [], _, h => by cases h
  | p :: r, nd, h => by
    rw [List.map_cons, List.nodup_cons] at nd
    unfold valV
    rw [List.find?_cons]
    rcases List.mem_cons.mp h with e | e
    · subst e; simp
    · have : p.1 ≠ k := fun q => nd.1 (by rw [q]; exact List.mem_map.mpr ⟨_, e, rfl⟩)
      rw [show decide (p.1 = k) = false from decide_eq_false this]
      exact valV_mem nd.2 e
theorem op_neDD {X : Cx} (hu : X.A.units < cLine) : OpR X (compareOp .NotEq) (fun x y H Q => ∃ (a b : Addr) (kvs : List (Key × V)), x = .ref a ∧ y = .ref b ∧ H a = some (.dK kvs) ∧ H b = some (.dK kvs) ∧ (kvs.map (·.1)).Nodup ∧ (∀ p ∈ kvs, flatV p.2 = true) ∧ Q (.bl false) H) := by
  intro pins s σ H x y v u Q I rx ry h
  obtain ⟨a, b, kvs, rfl, rfl, ha, hb, nd, fl, q⟩ := h
  cases rx
  cases ry
  obtain ⟨z1, s1, va, ra, da⟩ := dk_of I.hok ha
  obtain ⟨z2, s2, vb, rb, db⟩ := dk_of I.hok hb
  have l1 := PySem.Paired.length ra
  have l2 := PySem.Paired.length rb
  have hits : ∀ (l : List (Key × V)) (m : List (Key × Value)), KV l m → (∀ p ∈ l, p ∈ kvs) → PySem.W.KeqHits X.A.in1 s vb m true := by
    intro l
    induction l with
    | nil => intro m r _; cases r; exact .nil
    | cons p l ih =>
      intro m r sub
      cases r with
      | cons h t =>
        rename_i qv m'
        obtain ⟨k, w⟩ := qv
        obtain ⟨e1, e2⟩ := h
        have hp := sub p (List.mem_cons_self ..)
        have hv := valV_mem (k := p.1) (v := p.2) nd hp
        have hr := rb.val p.1
        rw [hv] at hr
        dsimp only at e1 e2
        subst e1
        cases e : valueAt vb p.1 with
        | none => rw [e] at hr; cases hr
        | some y =>
          rw [e] at hr
          have hy : RelV p.2 y := by simpa [RelO] using hr
          have hq := eqAt_V (A := X.A.in1) (s := s) e2 hy (fl p hp) (fl p hp)
          rw [eqV_self (fl p hp)] at hq
          exact PySem.W.KeqHits.hit (e := true) (b := true) e hq (ih m' t fun x hx => sub x (List.mem_cons_of_mem _ hx))
  refine PySem.W.keq_ne (knd := mixKind X.prog X.w) (r := true) s1 s2 da db hu (fun _ => hits kvs va ra fun p hp => hp) ?_
  rw [show (va.length == vb.length) = true by rw [beq_iff_eq, ← l1, ← l2]]
  exact ⟨.bl false, H, I, rfl, q⟩
end L2
set_option Elab.async false
set_option linter.all false
set_option maxRecDepth 100000
namespace L2
open PySem PySem.Spec PyProof.Rows
def tFor2 (wi : TI2) (n : Nat) (t : TGs) (tb : TS) : TS := fun D σ H => wi σ H fun J H1 => ∃ W : Nat → Nat → St → Hp → Prop, (∃ m, W 0 m σ H1) ∧ ∀ i m σ H, W i m σ H →
  (J.stop i H ∧ D.nx σ H) ∨ (J.go i H ∧ ∃ N : St → Hp → Prop, (∀ σ' H', N σ' H' → ∃ m', m' < m ∧ W (i + 1) m' σ' H') ∧ ∀ xs H', J.yld i H xs H' → xs.length = n ∧ t xs σ H' fun σ2 H2 => tb { D with nx := N, ct := N, bk := D.nx } σ2 H2)
theorem ps_for2 {X : Cx} {es : List Expr} {k n : Nat} {tpos : Pos} {iter : Expr} {body : List Stmt} {wi : TI2} {t : TGs} {tb : TS} {pos : Pos} (hp : PassesOwn (model X.prog X.w) X.A X.env X.xe) (hc : X.calm = true) (hi : PI2 X (.Tuple es k tpos) iter wi) (hg : PGs X es t) (hb : PSs X body tb)
    (hn : (assignEach es X.env).length = n := by rfl) (hst : (assignEach es X.env).findIdx? (·.1) = none := by rfl) (hs : ∀ x, foldedSetIterable iter X.env x = pure x := by intro _; rfl) : PS X (.For (.Tuple es k tpos) iter body [] pos) (tFor2 wi n t tb) := by
  intro pins s σ H D I h
  refine wpAny_For (thn (hi pins s σ H _ I h) fun v s1 h1 => thn h1 fun itv s2 h2 => ?_) hs
  obtain ⟨it, fp, tn, J, H2, e, I2, T, st2, f2, W, ⟨m0, w0⟩, turn⟩ := h2
  subst e
  have stat : ∀ {H' : Hp}, (∀ b ∈ fp, H' b = none) → ∀ b ∈ fp, FpOk X pins H' b := fun hn b hb => ⟨hn b hb, (f2 b hb).2⟩
  refine codeAny_forLoop_any (fun n s' => ∃ i σ' H', Inv X pins σ' H' s' ∧ tn i s'.heap ∧ (∀ b ∈ fp, H' b = none) ∧ W i n σ' H') ?_ m0 ⟨0, σ, H2, I2, st2, fun b hb => (f2 b hb).1, w0⟩
  rintro n' s3 ⟨i, σ3, H3, I3, st3, fr3, w3⟩
  rcases turn i n' σ3 H3 w3 with ⟨stop, qn⟩ | ⟨go, N, hN, step⟩
  · refine wpAny_passesOwn hp (thn (T.done X rfl rfl rfl hc i pins s3 σ3 H3 X.xe I3 (stat fr3) st3 stop) fun r s4 ⟨hr, I4⟩ => ?_)
    subst hr
    exact wpAny_execs_nil ⟨σ3, H3, I4, qn⟩
  · refine wpAny_passesOwn hp (thn (T.item X rfl rfl rfl hc i pins s3 σ3 H3 X.xe I3 (stat fr3) st3 go) fun r s4 ⟨p, hr, h4⟩ => ?_)
    subst hr
    refine wpAny_passesOwn hp (thn h4 fun _ s5 ⟨xs, us, H5, I5, ht, r5, y5, st5, fr5⟩ => ?_)
    have I5' := I5.pinned (stat fr5) (T.obj _ _ st5)
    obtain ⟨hl, hw⟩ := step xs H5 y5
    refine wpAny_passesOwn hp (assign_Tuple_tuple (I5.ok.hd hc) ht (by simp [hn, ← hl, r5.length]) hst fun h' hx => ?_)
    have I6 : Inv X (pins ++ pinsAt fp s5.heap) σ3 H5 { s5 with heap := h' } := I5'.kept (t' := s5.toks) fun b o e => hx b o (Nat.ne_of_lt (Heap.lt_size e)) e
    refine thn (hg _ _ σ3 H5 xs _ _ I6 (by simpa using r5) hw) fun _ s6 ⟨σ6, H6, I7, q6⟩ => ?_
    refine wpAny_passesOwn hp (thn (hb _ s6 σ6 H6 _ I7 q6) fun f s7 q7 => ?_)
    have again : ∀ {σ7 : St} {H7 : Hp}, Inv X (pins ++ pinsAt fp s5.heap) σ7 H7 s7 → N σ7 H7 → ∃ m, m < n' ∧ ∃ i σ' H', Inv X pins σ' H' s7 ∧ tn i s7.heap ∧ (∀ b ∈ fp, H' b = none) ∧ W i m σ' H' := fun {σ7 H7} I7 n7 => by
      obtain ⟨m', hm, w7⟩ := hN σ7 H7 n7
      refine ⟨m', hm, i + 1, σ7, H7, I7.unpinned, T.keep _ _ _ st5 fun b hb o e => (I7.pin (b, o) (List.mem_append_right _ (List.mem_append_right _ (mem_pinsAt hb e)))).1, fun b hb => ?_, w7⟩
      obtain ⟨o, e, d⟩ := T.obj _ _ st5 b hb
      exact (I7.pin (b, o) (List.mem_append_right _ (List.mem_append_right _ (mem_pinsAt hb e)))).2.1
    cases f with
    | next => obtain ⟨σ7, H7, I7, n7⟩ := q7; exact again I7 n7
    | cont => obtain ⟨σ7, H7, I7, n7⟩ := q7; exact again I7 n7
    | brk => obtain ⟨σ7, H7, I7, q7⟩ := q7; exact ⟨σ7, H7, I7.unpinned, q7⟩
    | ret v => obtain ⟨x7, σ7, H7, I7, r7, q7⟩ := q7; exact ⟨x7, σ7, H7, I7.unpinned, r7, q7⟩
theorem for_enum {K : PySem.W.Frag} {a : Addr} {xs : List V} {t : TGs} {tb : TS} {D : Ends} {σ : St} {H : Hp} (Pv : Nat → St → Hp → Prop) (h0 : Pv 0 σ H) (hl : ∀ i σ H, i ≤ xs.length → Pv i σ H → SqL K H a xs)
    (hs : ∀ i x σ H, xs[i]? = some x → Pv i σ H → t [.int i, x] σ H fun σ2 H2 => tb { D with nx := Pv (i + 1), ct := Pv (i + 1), bk := D.nx } σ2 H2) (hd : ∀ σ H, Pv xs.length σ H → D.nx σ H) :
    ∃ W : Nat → Nat → St → Hp → Prop, (∃ m, W 0 m σ H) ∧ ∀ i m σ H, W i m σ H →
      ((IteL K a).stop i H ∧ D.nx σ H) ∨ ((IteL K a).go i H ∧ ∃ N : St → Hp → Prop, (∀ σ' H', N σ' H' → ∃ m', m' < m ∧ W (i + 1) m' σ' H') ∧ ∀ zs H', (IteL K a).yld i H zs H' → zs.length = 2 ∧ t zs σ H' fun σ2 H2 => tb { D with nx := N, ct := N, bk := D.nx } σ2 H2) := by
  refine ⟨fun i m σ H => m = xs.length - i ∧ i ≤ xs.length ∧ Pv i σ H, ⟨xs.length, by simp, Nat.zero_le _, h0⟩, ?_⟩
  rintro i m σ H ⟨rfl, hi, p⟩
  have q := hl i σ H hi p
  by_cases hlt : i < xs.length
  · refine .inr ⟨⟨xs, xs[i], q, List.getElem?_eq_getElem hlt⟩, Pv (i + 1), fun σ' H' p' => ⟨xs.length - (i + 1), by omega, rfl, hlt, p'⟩, fun zs H' y => ?_⟩
    obtain ⟨e, x, ez, hx⟩ := y
    subst e ez
    exact ⟨rfl, hs i x σ _ (hx xs q) p⟩
  · have e : i = xs.length := by omega
    subst e
    exact .inl ⟨⟨xs, q, Nat.le_refl _⟩, hd σ H p⟩
end L2
set_option Elab.async false
set_option linter.all false
set_option maxRecDepth 100000
set_option maxHeartbeats 4000000
namespace Law
open PySem L2 Fs
def top (i : Nat) : Stmt := PySem.Challenge.pw_fillsay_k02_truths.main.body.getD i (.Pass ⟨0, 0, 0, 0⟩)
abbrev s_Always_truth : Stmt := inClass (top 3) 3
abbrev s_Never_truth : Stmt := inClass (top 4) 3
abbrev s_Letter_init : Stmt := inClass (top 5) 0
abbrev s_Letter_truth : Stmt := inClass (top 5) 4
abbrev s_Not_init : Stmt := inClass (top 6) 0
abbrev s_Not_truth : Stmt := inClass (top 6) 4
abbrev s_Pair_init : Stmt := inClass (top 7) 0
abbrev s_And_truth : Stmt := inClass (top 8) 1
abbrev s_Or_truth : Stmt := inClass (top 9) 1
abbrev s_Either_truth : Stmt := inClass (top 10) 1
abbrev s_law_mixed : Stmt := top 12
abbrev s_law_leaf : Stmt := top 13
abbrev s_law_saying : Stmt := top 14
abbrev s_law_true : Stmt := top 15
abbrev s_law_used : Stmt := top 16
abbrev s_law_object : Stmt := top 17
abbrev s_law_rows : Stmt := top 18
abbrev s_law : Stmt := top 19
structure Txt (mg : Str → Option Value) : Prop where
  len : mg "len" = none
  list : mg "list" = none
  sorted : mg "sorted" = none
  set : mg "set" = none
  tuple : mg "tuple" = none
  dict : mg "dict" = none
  zip : mg "zip" = none
  reversed : mg "reversed" = none
  range : mg "range" = none
  enumerate : mg "enumerate" = none
  all : mg "all" = none
  min : mg "min" = none
  max : mg "max" = none
  isinstance : mg "isinstance" = none
  tup : mg "str" = none
  bool : mg "bool" = none
theorem bt_set : bootBuiltins "set" = some (.type "set") := by decide +kernel
theorem bt_dict : bootBuiltins "dict" = some (.type "dict") := by decide +kernel
theorem bt_sorted : bootBuiltins "sorted" = some (.builtin "sorted") := by decide +kernel
theorem bt_min : bootBuiltins "min" = some (.builtin "min") := by decide +kernel
section
variable {P : Program} {w : World} {K : PySem.W.Frag} {mg : Str → Option Value} {base : Heap}
def Scr (K : PySem.W.Frag) (H : Hp) (a : Addr) (ns : List Int) : Prop := SqL K H a (ns.map V.int) ∧ ns.length ≤ 63
theorem Scr.mono {K : PySem.W.Frag} {H H' : Hp} {a : Addr} {ns : List Int} (h : Scr K H a ns) (g : Same H H') : Scr K H' a ns := ⟨g.seq h.1, h.2⟩
def spMixed2 (K : PySem.W.Frag) : Sp := fun vs H Q _ => ∃ (a : Addr) (ns : List Int) (k : Int), vs = [.ref a, .int k] ∧ Scr K H a ns ∧ 0 ≤ k ∧ k ≤ 100000 ∧ ∀ z H', Same H H' → 0 ≤ z → z < 1000000007 → Q (.int z) H'
theorem sc_mixed : FnScope ["_law_script", "_law_k", "_law_cell", "_law_step", "_law_mix"] ["_law_script", "_law_k"] (defScope s_law_mixed) := ⟨rfl, rfl, rfl, by decide +kernel, rfl, by decide +kernel, by decide +kernel⟩
theorem item_at {ns : List Int} {k : Int} (h0 : 0 ≤ k) (h : k < (ns.length : Int)) : ∃ v : Int, atI (ns.map V.int) k = some (.int v) := by
  have hk : k.toNat < ns.length := by omega
  have ek : k = ((k.toNat : Nat) : Int) := by omega
  have := atI_nat (xs := ns.map V.int) (j := k.toNat) (v := .int ns[k.toNat]) (by rw [List.getElem?_map, List.getElem?_eq_getElem hk]; rfl)
  rw [← ek] at this
  exact ⟨_, this⟩
theorem ite_joinI {c : Prop} [Decidable c] {A B : Prop} (R : Int → Prop) (hA : c → (∀ z, R z) → A) (hB : ¬ c → (∀ z, R z) → B) (hC : ∀ z, R z) : if c then A else B := by
  by_cases h : c
  · rw [if_pos h]; exact hA h hC
  · rw [if_neg h]; exact hB h hC
theorem bt_max : bootBuiltins "max" = some (.builtin "max") := by decide +kernel
theorem ok_mixed {k : Nat} {f : Addr} {fd : FuncData} (F : Fun K "_law_mixed" "_law_mixed" s_law_mixed f fd) (T : Txt mg) : FnOk P w K mg base CX0 (k + 1) f fd ["_law_script", "_law_k"] (spMixed2 K) := by
  refine F.ok sc_mixed (fun vs H Q E h => ?_) (fun cdv A outer s H vs Q E hr h => ?_)
  · obtain ⟨a, ns, k, rfl, _⟩ := h
    rfl
  obtain ⟨a, ns, k, rfl, ⟨hS, h63⟩, k0, k1, q⟩ := h
  refine ⟨_, pss_cons (ps_set (i := 2) sc_mixed.nd rfl (Or.inl rfl) pe_int)
    (pss_cons (ps_if (pt_cmpR op_gt (pe_callB call_len_seq (by rfl) T.len PySem.boot_len (pa_cons (pv 0) pa_nil)) pe_int (nomark _))
      (pss_one (ps_set (i := 2) sc_mixed.nd rfl (Or.inl rfl) (pe_ix ix_list (pv 0) (pe_op op_mod (pv 1) (pe_callB call_len_seq (by rfl) T.len PySem.boot_len (pa_cons (pv 0) pa_nil))) (fun _ _ => rfl)))) pss_nil)
    (pss_cons (ps_if (pt_cmpR op_eq (pe_op op_mod (pe_callB call_len_seq (by rfl) T.len PySem.boot_len (pa_cons (pv 0) pa_nil)) pe_int) pe_int (nomark _))
      (pss_cons (ps_for PassesOwn.never rfl (pi_range1 (by rfl) T.range (pa_cons (pe_callB (call_min2 rfl) (by rfl) T.min bt_min (pa_cons pe_int (pa_cons (pe_op op_fdiv (pv 1) (pe_callB (call_max2 rfl) (by rfl) T.max bt_max (pa_cons pe_int (pa_cons (pe_callB call_len_seq (by rfl) T.len PySem.boot_len (pa_cons (pv 0) pa_nil)) pa_nil)))) pa_nil))) pa_nil)) (pg_name (i := 3) sc_mixed.nd rfl (Or.inl rfl))
        (pss_one (ps_set (i := 2) sc_mixed.nd rfl (Or.inl rfl) (pe_op op_fdiv (pv 2) pe_int))))
      (pss_one (ps_ret (pe_op op_mod (pv 2) pe_int)))) pss_nil)
    (pss_cons (ps_set (i := 4) sc_mixed.nd rfl (Or.inl rfl) (pe_op op_mod (pe_op op_add (pe_op op_add (pe_op op_add (pe_op op_mul (pe_op op_mod (pv 2) pe_int) pe_int) (pe_op op_mul (pe_op op_mul pe_int (pv 1)) (pv 1))) (pe_op op_mul pe_int (pv 1))) pe_int) pe_int))
    (pss_one (ps_ret (pe_op op_mod (pe_op op_mul (pv 4) pe_int) pe_int)))))), ?_⟩
  have hl : (ns.map V.int).length = ns.length := List.length_map _
  have q' : ∀ z : Int, 0 ≤ z → z < 1000000007 → Q (.int z) H := fun z h1 h2 => q z H (Same.refl H) h1 h2
  refine ⟨_, rfl, a, _, rfl, .inl hS, _, _, rfl, rfl, _, rfl, ?_⟩
  rw [hl]
  refine ite_joinI ?R (fun c1 C => ?hA) (fun c1 C => ?hB) ?hC
  case hA =>
    have c1' : (0 : Int) < (ns.length : Int) := of_decide_eq_true c1
    obtain ⟨v, hv⟩ := item_at (ns := ns) (k := k % (ns.length : Int)) (Int.emod_nonneg k (by omega)) (Int.emod_lt_of_pos k c1')
    refine ⟨_, rfl, _, rfl, _, rfl, a, _, rfl, .inl hS, ?_⟩
    rw [hl]
    refine ⟨_, _, rfl, rfl, c1', a, _, _, _, rfl, rfl, hS, hv, ?_⟩
    exact C v
  case hB => exact C 0
  intro c
  refine ⟨_, rfl, a, _, rfl, .inl hS, _, _, rfl, rfl, (show (0 : Int) < 2 by decide), rfl, _, rfl, ?_⟩
  rw [hl]
  refine ite2 (fun c2 => ?_) (fun c2 => ?_)
  · refine ⟨_, rfl, _, rfl, a, _, rfl, .inl hS, _, _, rfl, ?_⟩
    rw [hl]
    have m1 : (1 : Int) ≤ (if (ns.length : Int) > 1 then (ns.length : Int) else 1) := by split <;> omega
    have m2 : (if (ns.length : Int) > 1 then (ns.length : Int) else 1) ≤ 63 := by split <;> omega
    generalize (if (ns.length : Int) > 1 then (ns.length : Int) else 1) = m at m1 m2
    refine ⟨_, _, rfl, rfl, ⟨by omega, by omega⟩, _, _, rfl, ?_⟩
    have d0 : 0 ≤ k / m := Int.ediv_nonneg k0 (by omega)
    refine ⟨_, rfl, ?_, ?_, ?_⟩
    · show -(2 ^ 62) ≤ (if k / m < (60 : Int) then k / m else (60 : Int))
      split <;> omega
    · show (if k / m < (60 : Int) then k / m else (60 : Int)) < 2 ^ 62
      split <;> omega
    refine for_range (fun i σ H1 => ∃ (c : Int) (v : Option V), σ = [some (.ref a), some (.int k), some (.int c), v, none] ∧ H1 = H) ⟨_, none, rfl, rfl⟩ ?_ ?_
    · rintro i σ H1 hi ⟨c, v, rfl, rfl⟩
      refine ⟨_, rfl, _, _, rfl, rfl, ⟨by decide, by decide⟩, ?_⟩
      exact ⟨_, _, rfl, rfl⟩
    · rintro σ H1 ⟨c, v, rfl, rfl⟩
      refine ⟨_, rfl, _, _, rfl, rfl, (show (0 : Int) < 1000000007 by decide), ?_⟩
      exact q' _ (Int.emod_nonneg _ (by decide)) (Int.emod_lt_of_pos _ (by decide))
  · have kb : -(2 ^ 64) < k ∧ k < 2 ^ 64 := ⟨by omega, by omega⟩
    refine ⟨_, rfl, _, _, rfl, rfl, (show (0 : Int) < 1000003 by decide), _, _, rfl, rfl, .inr ⟨by decide, by decide⟩, _, rfl, _, _, rfl, rfl, .inr kb, _, rfl, _, _, rfl, rfl, .inr kb, _, _, rfl, rfl, _, rfl, _, _, rfl, rfl, .inr kb, _, _, rfl, rfl, _, _, rfl, rfl, _, _, rfl, rfl, (show (0 : Int) < 2147483647 by decide), ?_⟩
    refine ⟨_, rfl, _, _, rfl, rfl, .inr ⟨by decide, by decide⟩, _, _, rfl, rfl, (show (0 : Int) < 1000000007 by decide), ?_⟩
    exact q' _ (Int.emod_nonneg _ (by decide)) (Int.emod_lt_of_pos _ (by decide))
theorem sgn_vS {ls : List Nat} {i : Nat} (h : i < ls.length) : sgn (ofCs ls) i = vS [ls[i]] := by
  unfold sgn
  show V.str ⟨#[ls.toArray.getD i 0]⟩ = V.str ⟨#[ls[i]]⟩
  rw [Array.getD_eq_getD_getElem?]
  simp [h]
inductive Tr where
  | letter (c : Nat)
  | one
  | zero
  | neg (t : Tr)
  | bin (op : Nat) (t u : Tr)
def wLetter : List Nat := [108, 101, 116, 116, 101, 114]
theorem letter_txt : ("letter" : Str) = ofCs wLetter := by decide +kernel
def TrAt (H : Hp) : Tr → V → Prop
  | .letter c, v => ∃ a, v = .ref a ∧ H a = some (.tup [vS wLetter, vS [c]])
  | .one, v => ∃ a, v = .ref a ∧ H a = some (.tup [vS [49]])
  | .zero, v => ∃ a, v = .ref a ∧ H a = some (.tup [vS [48]])
  | .neg t, v => ∃ a x, v = .ref a ∧ H a = some (.tup [vS [126], x]) ∧ TrAt H t x
  | .bin op t u, v => ∃ a x y, v = .ref a ∧ H a = some (.tup [vS [op], x, y]) ∧ TrAt H t x ∧ TrAt H u y
def SameT (H H' : Hp) : Prop := ∀ b xs, H b = some (.tup xs) → H' b = some (.tup xs)
theorem sameT {H H' : Hp} (g : Same H H') : SameT H H' := fun _ _ e => g _ _ e
theorem SameT.updL {H : Hp} {l : Addr} {xs : List V} {o : HO} (h : H l = some (.lst xs)) : SameT H (upd H l o) := fun b ys e => by
  have : b ≠ l := fun q => by rw [q, h] at e; cases e
  rw [upd_ne this]; exact e
theorem SameT.trans {H H1 H2 : Hp} (a : SameT H H1) (b : SameT H1 H2) : SameT H H2 := fun c xs e => b _ _ (a _ _ e)
theorem TrAt.mono {H H' : Hp} (g : SameT H H') : ∀ {t : Tr} {v : V}, TrAt H t v → TrAt H' t v
  | .letter c, _, ⟨a, e, h⟩ => ⟨a, e, g _ _ h⟩
  | .one, _, ⟨a, e, h⟩ => ⟨a, e, g _ _ h⟩
  | .zero, _, ⟨a, e, h⟩ => ⟨a, e, g _ _ h⟩
  | .neg t, _, ⟨a, x, e, h, r⟩ => ⟨a, x, e, g _ _ h, TrAt.mono g r⟩
  | .bin op t u, _, ⟨a, x, y, e, h, r, r'⟩ => ⟨a, x, y, e, g _ _ h, TrAt.mono g r, TrAt.mono g r'⟩
def Tr.ht : Tr → Nat
  | .neg t => t.ht + 1
  | .bin _ t u => max t.ht u.ht + 1
  | _ => 1
def Tr.Of (ls : List Nat) : Tr → Prop
  | .letter c => c ∈ ls
  | .neg t => t.Of ls
  | .bin op t u => (op = 38 ∨ op = 124 ∨ op = 43) ∧ t.Of ls ∧ u.Of ls
  | _ => True
def spLeaf : Sp := fun vs H Q _ => ∃ (m : Int) (ls : List Nat), vs = [.int m, vS ls] ∧ 0 ≤ m ∧ ls.length ≤ 9 ∧ ∀ t v H', Same H H' → TrAt H' t v → t.Of ls → t.ht = 1 → Q v H'
theorem sc_leaf : FnScope ["_law_mix", "_law_letters", "_law_some"] ["_law_mix", "_law_letters"] (defScope s_law_leaf) := ⟨rfl, rfl, rfl, by decide +kernel, rfl, by decide +kernel, by decide +kernel⟩
theorem nd_leaf : (["_law_one"] : List Str).Nodup := by decide +kernel
theorem ok_leaf {k : Nat} {f : Addr} {fd : FuncData} (F : Fun K "_law_leaf" "_law_leaf" s_law_leaf f fd) (T : Txt mg) : FnOk P w K mg base CX0 (k + 1) f fd ["_law_mix", "_law_letters"] spLeaf := by
  refine F.ok sc_leaf (fun vs H Q E h => ?_) (fun cdv A outer s H vs Q E hr h => ?_)
  · obtain ⟨m, ls, rfl, _⟩ := h
    rfl
  obtain ⟨m, ls, rfl, m0, l9, q⟩ := h
  refine ⟨_, pss_cons (ps_set (i := 2) sc_leaf.nd rfl (Or.inl rfl) (pe_op op_cat (pe_op op_rep (pe_comp (comp_scope (NY := ["_law_one"]) (o := 1) (caps := []) [] rfl (by decide +kernel) (by decide +kernel) (by decide +kernel) (by decide +kernel) (by simp) cap0 rfl) rfl
        (pi_str (pv 1)) (fun C s H fp pins => pg_name (i := 0) nd_leaf rfl (Or.inl rfl)) (fun C s H fp pins => pts_nil) (fun C s H fp pins => pe_tup (pa_cons pe_str (pa_cons (pv 0) pa_nil)))) pe_int)
        (pe_lst (pa_cons (pe_tup (pa_cons pe_str pa_nil)) (pa_cons (pe_tup (pa_cons pe_str pa_nil)) pa_nil)))))
    (pss_one (ps_ret (pe_ix ix_list (pv 2) (pe_op op_mod (pv 0) (pe_callB call_len_seq (by rfl) T.len PySem.boot_len (pa_cons (pv 2) pa_nil))) (fun _ _ => rfl)))), ?_⟩
  have hs : (ofCs ls).cps.size = ls.length := ofCs_len ls
  have z1 : ("1" : Str) = ofCs [49] := by decide +kernel
  have z0 : ("0" : Str) = ofCs [48] := by decide +kernel
  rw [letter_txt, z1, z0]
  refine ⟨_, rfl, _, rfl, ?_⟩
  refine comp_rel (ofCs ls).cps.size (fun i ys H2 => ys.length = i ∧ ∀ v ∈ ys, ∃ c ∈ ls, TrAt H2 (.letter c) v) (fun D hD => ⟨rfl, by simp⟩) (fun i ys H2 hi ⟨e, _⟩ => by rw [hs] at hi; rw [e]; exact small (by omega)) ?_ (fun H2 sm => rfl) ?_
  · rintro i ys H2 D Y Z hi hD hH2 sm ⟨le, al⟩ hY hZ
    refine ⟨hi, ?_⟩
    rintro x H' ⟨rfl, rfl⟩
    rw [hs] at hi
    rw [sgn_vS hi]
    refine ⟨⟨rfl, rfl⟩, ?_⟩
    refine ⟨_, rfl, smallE (by show 2 ≤ _; decide), fun p hp => ?_⟩
    have hD' : upd H' p (.tup [vS wLetter, vS [ls[i]]]) D = some (.lst ys) := (Same.up hp) _ _ hH2
    refine hY _ _ hD' (sm.to hp) ⟨by rw [List.length_append, le]; rfl, fun v hv => ?_⟩
    rcases List.mem_append.mp hv with hv | hv
    · obtain ⟨c, hc, hr'⟩ := al v hv
      exact ⟨c, hc, hr'.mono ((sameT (Same.up hp)).trans (SameT.updL hD'))⟩
    · rw [List.mem_singleton.mp hv]
      exact ⟨ls[i], List.getElem_mem hi, p, rfl, (SameT.updL hD') _ _ upd_same⟩
  rintro D H2 ys hD sm hH2 ⟨le, al⟩
  rw [hs] at le
  refine ⟨D, 2, ys, rfl, rfl, hH2, by decide, by decide, by show ys.length * 2 ≤ _; exact smallE (by omega), fun p1 hp1 => ?_⟩
  have e2 : (List.replicate (2 : Int).toNat ys).flatten = ys ++ ys := by show (List.replicate 2 ys).flatten = _; simp [List.replicate]
  rw [e2]
  refine ⟨smallE (by show 1 ≤ _; decide), fun a1 ha1 => ⟨smallE (by show 1 ≤ _; decide), fun a0 ha0 => ⟨smallE (by show 2 ≤ _; decide), fun p2 hp2 => ?_⟩⟩⟩
  have g1 := ((Same.up hp1 (o := .lst (ys ++ ys))).to ha1 (o := .tup [vS [49]])).to ha0 (o := .tup [vS [48]])
  have g2 := g1.to hp2 (o := .lst [.ref a1, .ref a0])
  have e1 := (((Same.up ha1 (o := .tup [vS [49]])).to ha0 (o := .tup [vS [48]])).to hp2 (o := .lst [.ref a1, .ref a0])) p1 _ upd_same
  refine ⟨p1, p2, _, _, rfl, rfl, e1, upd_same, by rw [List.length_append]; exact smallE (by show ys.length + ys.length + 2 ≤ _; omega), fun p3 hp3 => ?_⟩
  have g3 := g2.to hp3 (o := .lst (ys ++ ys ++ [.ref a1, .ref a0]))
  have good : ∀ v ∈ ys ++ ys ++ [V.ref a1, V.ref a0], ∃ t : Tr, TrAt (upd (upd (upd (upd (upd H2 p1 (.lst (ys ++ ys))) a1 (.tup [vS [49]])) a0 (.tup [vS [48]])) p2 (.lst [.ref a1, .ref a0])) p3 (.lst (ys ++ ys ++ [.ref a1, .ref a0]))) t v ∧ t.Of ls ∧ t.ht = 1 := fun v hv => by
    rcases List.mem_append.mp hv with hv | hv
    · have hv : v ∈ ys := by rcases List.mem_append.mp hv with h | h <;> exact h
      obtain ⟨c, hc, h⟩ := al v hv
      exact ⟨.letter c, h.mono (sameT g3), hc, rfl⟩
    · have hv : v = .ref a1 ∨ v = .ref a0 := by simpa using hv
      rcases hv with e | e
      · exact ⟨.one, ⟨a1, e, ((Same.up ha0 (o := .tup [vS [48]])).to hp2 (o := .lst [.ref a1, .ref a0])).to hp3 (o := .lst (ys ++ ys ++ [.ref a1, .ref a0])) _ _ upd_same⟩, trivial, rfl⟩
      · exact ⟨.zero, ⟨a0, e, ((Same.up hp2 (o := .lst [.ref a1, .ref a0])).to hp3 (o := .lst (ys ++ ys ++ [.ref a1, .ref a0]))) _ _ upd_same⟩, trivial, rfl⟩
  have hS : SqL K (upd (upd (upd (upd (upd H2 p1 (.lst (ys ++ ys))) a1 (.tup [vS [49]])) a0 (.tup [vS [48]])) p2 (.lst [.ref a1, .ref a0])) p3 (.lst (ys ++ ys ++ [.ref a1, .ref a0]))) p3 (ys ++ ys ++ [.ref a1, .ref a0]) := SqL.of upd_same
  have gF := sm.trans g3
  generalize upd (upd (upd (upd (upd H2 p1 (.lst (ys ++ ys))) a1 (.tup [vS [49]])) a0 (.tup [vS [48]])) p2 (.lst [.ref a1, .ref a0])) p3 (.lst (ys ++ ys ++ [.ref a1, .ref a0])) = H3 at good hS gF
  have len : 0 < ((ys ++ ys ++ [V.ref a1, V.ref a0]).length : Int) := by rw [List.length_append]; show 0 < (((ys ++ ys).length + 2 : Nat) : Int); omega
  generalize ys ++ ys ++ [V.ref a1, V.ref a0] = zs at good hS len
  have i0 := Int.emod_nonneg m (b := (zs.length : Int)) (by omega)
  have i1 := Int.emod_lt_of_pos m len
  have hk : (m % (zs.length : Int)).toNat < zs.length := by omega
  have hat : atI zs (m % (zs.length : Int)) = some zs[(m % (zs.length : Int)).toNat] := by
    have := atI_nat (xs := zs) (j := (m % (zs.length : Int)).toNat) (List.getElem?_eq_getElem hk)
    rw [show (((m % (zs.length : Int)).toNat : Nat) : Int) = m % (zs.length : Int) by omega] at this
    exact this
  obtain ⟨t, h1, h2, h3⟩ := good _ (List.getElem_mem hk)
  refine ⟨_, rfl, _, rfl, _, rfl, p3, _, rfl, .inl hS, _, _, rfl, rfl, len, p3, _, _, _, rfl, rfl, hS, hat, ?_⟩
  exact q t _ H3 gF h1 h2 h3
def HasF (K : PySem.W.Frag) (i : Nat) (F : List Pr) (σ : St) (H : Hp) : Prop := ∃ r, σ[i]? = some (some (.ref r)) ∧ SqT K H r (F.map vS)
theorem HasF.mono {K : PySem.W.Frag} {i : Nat} {F : List Pr} {σ : St} {H H' : Hp} (h : HasF K i F σ H) (g : Same H H') : HasF K i F σ H' := let ⟨r, e, s⟩ := h; ⟨r, e, g.seqT s⟩
theorem HasF.set {K : PySem.W.Frag} {i j : Nat} {F : List Pr} {σ : St} {H : Hp} {v : Option V} (h : HasF K i F σ H) (hij : j ≠ i) : HasF K i F (σ.set j v) H := let ⟨r, e, s⟩ := h; ⟨r, by rw [List.getElem?_set_ne hij]; exact e, s⟩
theorem HasF.new {K : PySem.W.Frag} {i : Nat} {F : List Pr} {σ : St} {H : Hp} {r : Addr} (hi : i < σ.length) (h : SqT K H r (F.map vS)) : HasF K i F (σ.set i (some (.ref r))) H := ⟨r, List.getElem?_set_self hi, h⟩
def Dv (Γ : St → Hp → Prop) (te : TE) (v : V) : Prop := ∀ σ H Q, Γ σ H → (∀ H', Same H H' → Q v H') → te σ H Q
def Dt (Γ : St → Hp → Prop) (tt : TT) (b : Bool) : Prop := ∀ σ H Q, Γ σ H → (∀ H', Same H H' → Q b H') → tt σ H Q
def Stb (Γ : St → Hp → Prop) : Prop := ∀ σ H H', Γ σ H → Same H H' → Γ σ H'
section
variable {Γ : St → Hp → Prop} {t1 t2 t3 : TE} {F G : List Pr} {ls : List Nat} {g : List Pr → List Pr → List Pr} {g1 : List Pr → List Pr}
theorem dbne (st : Stb Γ) {a b : Bool} (h1 : Dv Γ t1 (.bl a)) (h2 : Dv Γ t2 (.bl b)) : Dv Γ (tOp rNe t1 t2) (.bl (a != b)) := fun σ H Q hΓ q =>
  h1 σ H _ hΓ fun H1 g1 => h2 σ H1 _ (st _ _ _ hΓ g1) fun H2 g2 => ⟨rfl, by rw [bool_ne]; exact q H2 (g1.trans g2)⟩
theorem dtest {b : Bool} (h : Dv Γ t1 (.bl b)) : Dt Γ (tTest t1) b := fun σ H Q hΓ q => h σ H _ hΓ fun H1 g1 => ⟨b, rfl, q H1 g1⟩
end
def At (σ0 : St) (H0 : Hp) : St → Hp → Prop := fun σ H => σ = σ0 ∧ Same H0 H
theorem st_at {σ0 : St} {H0 : Hp} : Stb (At σ0 H0) := fun _ _ _ h g => ⟨h.1, h.2.trans g⟩
theorem at0 {σ0 : St} {H0 : Hp} : At σ0 H0 σ0 H0 := ⟨rfl, Same.refl _⟩
section
variable {Γ : St → Hp → Prop} {t1 t2 t3 : TE}
theorem dorB (st : Stb Γ) {a b : Bool} (h1 : Dv Γ t1 (.bl a)) (h2 : Dv Γ t2 (.bl b)) : Dv Γ (tOrV t1 t2) (.bl (a || b)) := fun σ H Q hΓ q => h1 σ H _ hΓ fun H1 g1 => ⟨a, rfl, by
  cases a with
  | true => exact iteT (q H1 g1)
  | false => exact iteF (h2 σ H1 _ (st _ _ _ hΓ g1) fun H2 g2 => q H2 (g1.trans g2))⟩
theorem dandB (st : Stb Γ) {a b : Bool} (h1 : Dv Γ t1 (.bl a)) (h2 : Dv Γ t2 (.bl b)) : Dv Γ (tAndV t1 t2) (.bl (a && b)) := fun σ H Q hΓ q => h1 σ H _ hΓ fun H1 g1 => ⟨a, rfl, by
  cases a with
  | true => exact iteT (h2 σ H1 _ (st _ _ _ hΓ g1) fun H2 g2 => q H2 (g1.trans g2))
  | false => exact iteF (q H1 g1)⟩
theorem dnotB {a : Bool} (h1 : Dv Γ t1 (.bl a)) : Dv Γ (tNotV t1) (.bl (!a)) := fun σ H Q hΓ q => h1 σ H _ hΓ fun H1 g1 => ⟨a, rfl, q H1 g1⟩
theorem dixT {K : PySem.W.Frag} {σ0 : St} {H0 : Hp} {i : Nat} {p : Addr} {xs : List V} {n : Int} {v : V} (e : σ0[i]? = some (some (.ref p))) (h : SqT K H0 p xs) (ha : atI xs n = some v) : Dv (At σ0 H0) (tOp (rIxT K) (tVar i) (tC (.int n))) v := fun σ H Q g q =>
  ⟨_, by rw [g.1]; exact e, p, xs, n, v, rfl, rfl, g.2.seqT h, ha, q H (Same.refl H)⟩
end
section
variable {Γ : St → Hp → Prop} {t1 t2 : TE} {u1 u2 : TT}
theorem dorT (st : Stb Γ) {a b : Bool} (h1 : Dt Γ u1 a) (h2 : Dt Γ u2 b) : Dt Γ (tOr u1 u2) (a || b) := fun σ H Q hΓ q => h1 σ H _ hΓ fun H1 g1 => by
  cases a with
  | true => exact iteT (q H1 g1)
  | false => exact iteF (h2 σ H1 _ (st _ _ _ hΓ g1) fun H2 g2 => q H2 (g1.trans g2))
theorem dandT (st : Stb Γ) {a b : Bool} (h1 : Dt Γ u1 a) (h2 : Dt Γ u2 b) : Dt Γ (tAnd u1 u2) (a && b) := fun σ H Q hΓ q => h1 σ H _ hΓ fun H1 g1 => by
  cases a with
  | true => exact iteT (h2 σ H1 _ (st _ _ _ hΓ g1) fun H2 g2 => q H2 (g1.trans g2))
  | false => exact iteF (q H1 g1)
theorem dI0 (st : Stb Γ) {g : Int → Int → V} {i j : Int} (h1 : Dv Γ t1 (.int i)) (h2 : Dv Γ t2 (.int j)) : Dv Γ (tOp (rI0 g) t1 t2) (g i j) := fun σ H Q hΓ q =>
  h1 σ H _ hΓ fun H1 g1 => h2 σ H1 _ (st _ _ _ hΓ g1) fun H2 g2 => ⟨i, j, rfl, rfl, q H2 (g1.trans g2)⟩
theorem dIE (st : Stb Γ) {i j : Int} (h1 : Dv Γ t1 (.int i)) (h2 : Dv Γ t2 (.int j)) : Dv Γ (tOp rEq t1 t2) (.bl (decide (i = j))) := fun σ H Q hΓ q =>
  h1 σ H _ hΓ fun H1 g1 => h2 σ H1 _ (st _ _ _ hΓ g1) fun H2 g2 => ⟨rfl, by rw [show decide (V.int i = V.int j) = decide (i = j) by simp]; exact q H2 (g1.trans g2)⟩
theorem dmodC (st : Stb Γ) {i j : Int} (h1 : Dv Γ t1 (.int i)) (hj : 0 < j) : Dv Γ (tOp (rI (fun _ j => 0 < j) fun i j => .int (i % j)) t1 (tC (.int j))) (.int (i % j)) := fun σ H Q hΓ q =>
  h1 σ H _ hΓ fun H1 g1 => ⟨i, j, rfl, rfl, hj, q H1 g1⟩
theorem dltT (st : Stb Γ) {i j : Int} (h1 : Dv Γ t1 (.int i)) (h2 : Dv Γ t2 (.int j)) : Dt Γ (tTest (tOp (rI0 fun i j => .bl (decide (i < j))) t1 t2)) (decide (i < j)) := dtest (dI0 st h1 h2)
theorem dC {v : V} : Dv Γ (tC v) v := fun σ H Q hΓ q => q H (Same.refl H)
theorem dvA {σ0 : St} {H0 : Hp} {i : Nat} {v : V} (e : σ0[i]? = some (some v)) : Dv (At σ0 H0) (tVar i) v := fun σ H Q g q => ⟨v, by rw [g.1]; exact e, q H (Same.refl H)⟩
theorem dlen {σ0 : St} {H0 : Hp} {i : Nat} {p : Addr} {xs : List V} (e : σ0[i]? = some (some (.ref p))) (h : SqL K H0 p xs) : Dv (At σ0 H0) (tCB (fun xs H Q => ∃ p ys, xs = [.ref p] ∧ (SqL K H p ys ∨ SqT K H p ys) ∧ Q (.int ys.length) H) (tCons (tVar i) tNil)) (.int xs.length) := fun σ H Q g q =>
  ⟨.ref p, by rw [g.1]; exact e, p, xs, rfl, .inl (g.2.seq h), q H (Same.refl H)⟩
theorem difT {tc : TT} {A B : TS} {D : Ends} {σ : St} {H : Hp} {b : Bool} (h : Dt Γ tc b) (hΓ : Γ σ H) (kA : b = true → ∀ H', Same H H' → A D σ H') (kB : b = false → ∀ H', Same H H' → B D σ H') : tIfS tc A B D σ H := h σ H _ hΓ fun H' g => by
  cases b with
  | true => exact iteT (kA rfl H' g)
  | false => exact iteF (kB rfl H' g)
end
def Stk (ls : List Nat) (B : Nat) (H : Hp) (vs : List V) : Prop := ∀ v ∈ vs, ∃ t : Tr, TrAt H t v ∧ t.Of ls ∧ t.ht + vs.length ≤ B
theorem Stk.mono {ls : List Nat} {B : Nat} {H H' : Hp} {vs : List V} (h : Stk ls B H vs) (g : SameT H H') : Stk ls B H' vs := fun v hv => let ⟨t, a, b, c⟩ := h v hv; ⟨t, a.mono g, b, c⟩
theorem Stk.up {ls : List Nat} {B B' : Nat} {H : Hp} {vs : List V} (h : Stk ls B H vs) (hB : B ≤ B') : Stk ls B' H vs := fun v hv => let ⟨t, a, b, c⟩ := h v hv; ⟨t, a, b, by omega⟩
theorem snoc_last {α : Type} (l : List α) (x : α) : (l ++ [x])[(l ++ [x]).length - 1]? = some x := by simp
theorem of_snoc {α : Type} {l : List α} (h : 0 < l.length) : ∃ m x, l = m ++ [x] := by
  have hne : l ≠ [] := fun e => by rw [e] at h; cases h
  exact ⟨l.dropLast, l.getLast hne, (List.dropLast_concat_getLast hne).symm⟩
def spSay (K : PySem.W.Frag) : Sp := fun vs H Q _ => ∃ (a : Addr) (ns : List Int) (at' m : Int) (ls : List Nat), vs = [.ref a, .int at', .int m, vS ls] ∧ Scr K H a ns ∧ 0 ≤ at' ∧ at' ≤ 1000 ∧ 0 ≤ m ∧ m ≤ 100 ∧ ls.length ≤ 9 ∧
  ∀ t v H', Same H H' → TrAt H' t v → t.Of ls → (t.ht : Int) ≤ 1 + m → Q v H'
theorem sc_say : FnScope ["_law_script", "_law_at", "_law_many", "_law_letters", "_law_stack", "_law_k", "_law_mix", "_law_other"] ["_law_script", "_law_at", "_law_many", "_law_letters"] (defScope s_law_saying) := ⟨rfl, rfl, rfl, by decide +kernel, rfl, by decide +kernel, by decide +kernel⟩
theorem ops1 : ("&|+" : Str) = ofCs [38, 124, 43] := by decide +kernel
theorem ops2 : ("|+&" : Str) = ofCs [124, 43, 38] := by decide +kernel
theorem wave : ("~" : Str) = ofCs [126] := by decide +kernel
theorem op_at {l : List Nat} {i : Int} (h0 : 0 ≤ i) (h : i < (l.length : Int)) : ∃ c ∈ l, atI l i = some c := by
  have hk : i.toNat < l.length := by omega
  have := atI_nat (xs := l) (j := i.toNat) (List.getElem?_eq_getElem hk)
  rw [show ((i.toNat : Nat) : Int) = i by omega] at this
  exact ⟨_, List.getElem_mem hk, this⟩
theorem ok_say {fm fl f : Addr} {fdm fdl fd : FuncData} (F : Fun K "_law_saying" "_law_saying" s_law_saying f fd) (T : Txt mg)
    (Gm : FnOk P w K mg base CX0 1 fm fdm ["_law_script", "_law_k"] (spMixed2 K)) (bm : Binds K fdm ["_law_script", "_law_k"] []) (km : PySem.W.keepIn K (.ref fm) = true) (mm : mg "_law_mixed" = some (.ref fm))
    (Gl : FnOk P w K mg base CX0 1 fl fdl ["_law_mix", "_law_letters"] spLeaf) (bl : Binds K fdl ["_law_mix", "_law_letters"] []) (kl : PySem.W.keepIn K (.ref fl) = true) (ml : mg "_law_leaf" = some (.ref fl)) : FnOk P w K mg base CX0 2 f fd ["_law_script", "_law_at", "_law_many", "_law_letters"] (spSay K) := by
  refine F.ok sc_say (fun vs H Q E h => ?_) (fun cdv A outer s H vs Q E hr h => ?_)
  · obtain ⟨a, ns, at', m, ls, rfl, _⟩ := h
    rfl
  obtain ⟨a, ns, at', m, ls, rfl, hS, a0, a1, m0, m1, l9, q⟩ := h
  refine ⟨_, (pss_cons (ps_set (i := 4) sc_say.nd rfl (Or.inl rfl) (pe_lst (pa_cons (pe_call Gl hr (by rfl) ml kl bl .nil pass0 (pa_cons (pe_op op_fdiv (pe_call Gm hr (by rfl) mm km bm .nil pass0 (pa_cons (pv 0) (pa_cons (pv 1) pa_nil))) pe_int) (pa_cons (pv 3) pa_nil))) pa_nil)))
    (pss_cons (ps_for PassesOwn.never rfl (pi_range1 (by rfl) T.range (pa_cons (pv 2) pa_nil)) (pg_name (i := 5) sc_say.nd rfl (Or.inl rfl))
    (pss_cons (ps_set (i := 6) sc_say.nd rfl (Or.inl rfl) (pe_call Gm hr (by rfl) mm km bm .nil pass0 (pa_cons (pv 0) (pa_cons (pe_op op_add (pe_op op_add (pv 1) pe_int) (pv 5)) pa_nil))))
    (pss_one (ps_if (PW.pt (pw_or (pt_cmpR op_lt (pe_op op_mod (pv 6) pe_int) pe_int (nomark _)) (pw_or1 (PW.pt (pw_and (pt_cmpR op_lt (pe_op op_mod (pv 6) pe_int) pe_int (nomark _)) (pw_and1 (pt_cmpR op_lt (pe_callB call_len_seq (by rfl) T.len PySem.boot_len (pa_cons (pv 4) pa_nil)) pe_int (nomark _)))))))) (pss_one (ps_expr (pe_bm PySem.F.plainAttrs_list PySem.F.slot_list_append PySem.F.type_list_append mt_append (pv 4) (pa_cons (pe_call Gl hr (by rfl) ml kl bl .nil pass0 (pa_cons (pe_op op_fdiv (pv 6) pe_int) (pa_cons (pv 3) pa_nil))) pa_nil)))) (pss_one (ps_if (pt_cmpR op_eq (pe_op op_mod (pv 6) pe_int) pe_int (nomark _)) (pss_one (ps_expr (pe_bm PySem.F.plainAttrs_list PySem.F.slot_list_append PySem.F.type_list_append mt_append (pv 4) (pa_cons (pe_tup (pa_cons pe_str (pa_cons (pe_bm0 PySem.F.plainAttrs_list PySem.F.slot_list_pop PySem.F.type_list_pop mt_pop (pv 4)) pa_nil))) pa_nil)))) (pss_cons (ps_set (i := 7) sc_say.nd rfl (Or.inl rfl) (pe_bm0 PySem.F.plainAttrs_list PySem.F.slot_list_pop PySem.F.type_list_pop mt_pop (pv 4)))
    (pss_one (ps_expr (pe_bm PySem.F.plainAttrs_list PySem.F.slot_list_append PySem.F.type_list_append mt_append (pv 4) (pa_cons (pe_tup (pa_cons (pe_ix ix_str pe_str (pe_op op_mod (pe_op op_fdiv (pv 6) pe_int) pe_int) (fun _ _ => rfl)) (pa_cons (pe_bm0 PySem.F.plainAttrs_list PySem.F.slot_list_pop PySem.F.type_list_pop mt_pop (pv 4)) (pa_cons (pv 7) pa_nil)))) pa_nil)))))))))))
    (pss_cons (ps_while PassesOwn.never (pt_cmpR op_gt (pe_callB call_len_seq (by rfl) T.len PySem.boot_len (pa_cons (pv 4) pa_nil)) pe_int (nomark _)) (pss_cons (ps_set (i := 7) sc_say.nd rfl (Or.inl rfl) (pe_bm0 PySem.F.plainAttrs_list PySem.F.slot_list_pop PySem.F.type_list_pop mt_pop (pv 4)))
    (pss_one (ps_expr (pe_bm PySem.F.plainAttrs_list PySem.F.slot_list_append PySem.F.type_list_append mt_append (pv 4) (pa_cons (pe_tup (pa_cons (pe_ix ix_str pe_str (pe_op op_mod (pe_callB call_len_seq (by rfl) T.len PySem.boot_len (pa_cons (pv 4) pa_nil)) pe_int) (fun _ _ => rfl)) (pa_cons (pe_bm0 PySem.F.plainAttrs_list PySem.F.slot_list_pop PySem.F.type_list_pop mt_pop (pv 4)) (pa_cons (pv 7) pa_nil)))) pa_nil))))))
    (pss_one (ps_ret (pe_ix ix_list (pv 4) pe_int (fun _ _ => rfl))))))), ?_⟩
  rw [ops1, ops2, wave]
  have two : (0 : Int) < 7 := by decide
  refine ⟨_, rfl, _, rfl, a, ns, at', rfl, hS, a0, by omega, fun z H1 g1 z0 z1 => ?_⟩
  refine ⟨_, _, rfl, rfl, ⟨by decide, by decide⟩, _, rfl, z / 3, ls, rfl, Int.ediv_nonneg z0 (by decide), l9, fun t v H2 g2 tr tof tht => ⟨smallE (by show 1 ≤ _; decide), fun tb htb => ?_⟩⟩
  have fT : H tb = none := by
    cases e : H tb with
    | none => rfl
    | some o => rw [(g1.trans g2) _ _ e] at htb; cases htb
  -- one of them taken off the end, and put on
  have top : ∀ {B : Nat} {H' : Hp} {vs : List V}, Stk ls B H' vs → 0 < vs.length → ∃ ws x t, vs = ws ++ [x] ∧ TrAt H' t x ∧ t.Of ls ∧ t.ht + vs.length ≤ B ∧ Stk ls (B - 1) H' ws := fun {B H' vs} hst hl => by
    obtain ⟨ws, x, rfl⟩ := of_snoc hl
    obtain ⟨t, h1, h2, h3⟩ := hst x (List.mem_append_right _ (List.mem_singleton.mpr rfl))
    refine ⟨ws, x, t, rfl, h1, h2, h3, fun v hv => ?_⟩
    obtain ⟨t', k1, k2, k3⟩ := hst v (List.mem_append_left _ hv)
    rw [List.length_append, List.length_singleton] at k3
    exact ⟨t', k1, k2, by omega⟩
  have put : ∀ {B : Nat} {H' : Hp} {ws : List V} {x : V} {t : Tr}, Stk ls (B - 1) H' ws → TrAt H' t x → t.Of ls → t.ht + (ws.length + 1) ≤ B → Stk ls B H' (ws ++ [x]) := fun {B H' ws x t} hst h1 h2 h3 v hv => by
    rcases List.mem_append.mp hv with hv | hv
    · obtain ⟨t', k1, k2, k3⟩ := hst v hv
      have : 1 ≤ t'.ht := by cases t' <;> simp [Tr.ht]
      exact ⟨t', k1, k2, by rw [List.length_append, List.length_singleton]; omega⟩
    · rw [List.mem_singleton.mp hv]
      exact ⟨t, h1, h2, by rw [List.length_append, List.length_singleton]; omega⟩
  refine ⟨_, rfl, m, rfl, by omega, by omega, ?_⟩
  refine for_range (fun i σ H' => ∃ (vs : List V) (v5 v6 v7 : Option V), σ = [some (.ref a), some (.int at'), some (.int m), some (vS ls), some (.ref tb), v5, v6, v7] ∧ Same H H' ∧ H' tb = some (.lst vs) ∧ 0 < vs.length ∧ Stk ls (2 + i) H' vs)
    ⟨[v], none, none, none, rfl, ((g1.trans g2).to htb), upd_same, Nat.one_pos, fun v' hv' => by rw [List.mem_singleton.mp hv']; exact ⟨t, tr.mono (sameT (Same.up htb)), tof, by rw [tht]; exact Nat.le_refl _⟩⟩ ?_ ?_
  · rintro i σ H3 hi ⟨vs, v5, v6, v7, rfl, g3, e3, lv, sk⟩
    have hi' : (i : Int) < m := by omega
    have len100 : vs.length ≤ 200 := by
      obtain ⟨ws, x, t, rfl, _, _, h, _⟩ := top sk lv
      omega
    refine ⟨_, rfl, _, rfl, _, _, rfl, rfl, _, rfl, _, _, rfl, rfl, a, ns, _, rfl, hS.mono g3, ?_, ?_, fun z H4 g4 z0 z1 => ?_⟩
    · show (0 : Int) ≤ at' + 1 + (0 + (i : Int)); omega
    · show at' + 1 + (0 + (i : Int)) ≤ 100000; omega
    have e4 := g4 _ _ e3
    have g34 := g3.trans g4
    have sk4 := sk.mono (sameT g4)
    dsimp only [gName]
    refine difT (dorT st_at (dltT st_at (dmodC st_at (dvA rfl) two) dC) (dandT st_at (dltT st_at (dmodC st_at (dvA rfl) two) dC) (dltT st_at (dlen (K := K) (by rfl) (SqL.of e4)) dC))) at0 (fun hb H5 g5 => ?_) (fun hb H5 g5 => ?_)
    · -- a leaf
      have e5 := g5 _ _ e4
      refine ⟨_, rfl, .inl ⟨rfl, _, SqL.of e5⟩, _, rfl, _, _, rfl, rfl, ⟨by decide, by decide⟩, _, rfl, z / 7, ls, rfl, Int.ediv_nonneg z0 (by decide), l9, fun t' v' H6 g6 tr' tof' tht' => ⟨tb, vs, v', rfl, rfl, g6 _ _ e5, small (by omega), ?_⟩⟩
      have e6 := g6 _ _ e5
      refine ⟨vs ++ [v'], _, _, _, rfl, ((g34.trans g5).trans g6).at fT, upd_same, by simp, ?_⟩
      have sk6 := ((sk4.mono (sameT g5)).mono (sameT g6)).mono (SameT.updL e6 (o := .lst (vs ++ [v'])))
      have : vs.length ≤ 1 + i := by
        obtain ⟨ws, x, t, rfl, _, _, h, _⟩ := top sk lv
        have : 1 ≤ t.ht := by cases t <;> simp [Tr.ht]
        omega
      exact put (B := 2 + (i + 1)) (sk6.up (by omega)) (tr'.mono (SameT.updL e6)) tof' (by omega)
    · have e5 := g5 _ _ e4
      have g35 := g34.trans g5
      have sk5 := sk4.mono (sameT g5)
      have hlen : z % 7 ≠ 6 → 2 ≤ vs.length := fun hne => by
        have := Int.emod_nonneg z (b := 7) (by decide)
        have := Int.emod_lt_of_pos z (b := 7) (by decide)
        rw [Bool.or_eq_false_iff, Bool.and_eq_false_iff] at hb
        obtain ⟨h1, h2⟩ := hb
        have h1 : ¬ z % 7 < 3 := of_decide_eq_false h1
        rcases h2 with h2 | h2
        · have h2 : ¬ z % 7 < 6 := of_decide_eq_false h2
          omega
        · have h2 : ¬ ((vs.length : Nat) : Int) < 2 := of_decide_eq_false h2
          omega
      obtain ⟨ws, x, t, rfl, tx, ox, hx, skw⟩ := top sk5 lv
      rw [List.length_append, List.length_singleton] at hx
      refine difT (dtest (dIE st_at (dmodC st_at (dvA rfl) two) dC)) at0 (fun hb2 H6 g6 => ?_) (fun hb2 H6 g6 => ?_)
      · -- not
        have e6 := g6 _ _ e5
        refine ⟨_, rfl, .inl ⟨rfl, _, SqL.of e6⟩, _, rfl, .inl ⟨rfl, _, SqL.of e6⟩, tb, _, x, rfl, rfl, e6, snoc_last ws x, ?_⟩
        rw [List.dropLast_concat]
        refine ⟨smallE (by show 2 ≤ _; decide), fun p hp => ⟨tb, ws, .ref p, rfl, rfl, (Same.up hp) _ _ upd_same, small (by rw [List.length_append] at len100; simp at len100; omega), ?_⟩⟩
        have c1 : SameT H5 (upd H6 tb (.lst ws)) := (sameT g6).trans (SameT.updL e6)
        have c2 : SameT (upd H6 tb (.lst ws)) (upd (upd H6 tb (.lst ws)) p (.tup [vS [126], x])) := sameT (Same.up hp)
        have e7 : upd (upd H6 tb (.lst ws)) p (.tup [vS [126], x]) tb = some (.lst ws) := (Same.up hp) _ _ upd_same
        have c3 := SameT.updL e7 (o := .lst (ws ++ [.ref p]))
        have cc := (c1.trans c2).trans c3
        refine ⟨ws ++ [.ref p], _, _, _, rfl, (((g35.trans g6).at fT).to hp).at fT, upd_same, by simp, ?_⟩
        exact put (B := 2 + (i + 1)) (t := .neg t) ((skw.mono cc).up (by omega)) ⟨p, x, rfl, c3 _ _ upd_same, tx.mono cc⟩ ox (by show t.ht + 1 + (ws.length + 1) ≤ _; omega)
      · -- a pair
        have e6 := g6 _ _ e5
        have hne : z % 7 ≠ 6 := of_decide_eq_false hb2
        have l2 := hlen hne
        rw [List.length_append, List.length_singleton] at l2
        obtain ⟨us, y, t', rfl, ty, oy, hy, sku⟩ := top skw (by omega)
        rw [List.length_append, List.length_singleton] at hy
        refine ⟨_, rfl, .inl ⟨rfl, _, SqL.of e6⟩, tb, _, x, rfl, rfl, e6, snoc_last _ x, ?_⟩
        rw [List.dropLast_concat]
        have e7 : upd H6 tb (.lst (us ++ [y])) tb = some (.lst (us ++ [y])) := upd_same
        have n0 := Int.emod_nonneg (z / 7) (b := 3) (by decide)
        have n1 := Int.emod_lt_of_pos (z / 7) (b := 3) (by decide)
        obtain ⟨c, hc, hat⟩ := op_at (l := [38, 124, 43]) n0 n1
        refine ⟨_, rfl, .inl ⟨rfl, _, SqL.of e7⟩, _, rfl, _, _, rfl, rfl, ⟨by decide, by decide⟩, _, _, rfl, rfl, (show (0 : Int) < 3 by decide), _, _, _, rfl, rfl, smallE (by show 3 ≤ _; decide), hat, _, rfl, .inl ⟨rfl, _, SqL.of e7⟩, tb, _, y, rfl, rfl, e7, snoc_last us y, ?_⟩
        rw [List.dropLast_concat]
        refine ⟨_, rfl, smallE (by show 3 ≤ _; decide), fun p hp => ⟨tb, us, .ref p, rfl, rfl, (Same.up hp) _ _ upd_same, small (by simp at len100; omega), ?_⟩⟩
        have c1 : SameT H5 (upd (upd H6 tb (.lst (us ++ [y]))) tb (.lst us)) := ((sameT g6).trans (SameT.updL e6)).trans (SameT.updL e7)
        have c2 := sameT (Same.up hp (o := .tup [vS [c], y, x]))
        have e8 := (Same.up hp (o := .tup [vS [c], y, x])) tb _ upd_same
        have c3 := SameT.updL e8 (o := .lst (us ++ [.ref p]))
        have cc := (c1.trans c2).trans c3
        have hop : c = 38 ∨ c = 124 ∨ c = 43 := by simpa using hc
        refine ⟨us ++ [.ref p], _, _, _, rfl, ((((g35.trans g6).at fT).at fT).to hp).at fT, upd_same, by simp, ?_⟩
        exact put (B := 2 + (i + 1)) (t := .bin c t' t) ((sku.mono cc).up (by omega)) ⟨p, y, x, rfl, c3 _ _ upd_same, ty.mono cc, tx.mono cc⟩ ⟨hop, oy, ox⟩ (by show max t'.ht t.ht + 1 + (us.length + 1) ≤ _; rw [List.length_append, List.length_singleton] at hx; omega)
  · rintro σ H3 ⟨vs, v5, v6, v7, rfl, g3, e3, lv, sk⟩
    refine ⟨fun μ σ H' => ∃ (vs : List V) (v7 : Option V), σ = [some (.ref a), some (.int at'), some (.int m), some (vS ls), some (.ref tb), v5, v6, v7] ∧ Same H H' ∧ H' tb = some (.lst vs) ∧ 0 < vs.length ∧ Stk ls (2 + m.toNat) H' vs ∧ μ = vs.length, ⟨_, vs, v7, rfl, g3, e3, lv, sk, rfl⟩, ?_⟩
    rintro μ σ H4 ⟨vs, v7, rfl, g4, e4, lv, sk, rfl⟩
    refine ⟨_, rfl, tb, _, rfl, .inl (SqL.of e4), _, _, rfl, rfl, _, rfl, ?_⟩
    refine ite2 (fun c => ?_) (fun c => ?_)
    · have c' : (1 : Int) < ((vs.length : Nat) : Int) := of_decide_eq_true c
      obtain ⟨ws, x, t, rfl, tx, ox, hx, skw⟩ := top sk lv
      rw [List.length_append, List.length_singleton] at c' hx
      obtain ⟨us, y, t', rfl, ty, oy, hy, sku⟩ := top skw (by omega)
      rw [List.length_append, List.length_singleton] at hy hx
      refine ⟨fun σ' H' => ∃ (vs' : List V) (v7 : Option V), σ' = [some (.ref a), some (.int at'), some (.int m), some (vS ls), some (.ref tb), v5, v6, v7] ∧ Same H H' ∧ H' tb = some (.lst vs') ∧ 0 < vs'.length ∧ Stk ls (2 + m.toNat) H' vs' ∧ vs'.length < (us ++ [y] ++ [x]).length, ?_, ?_⟩
      · rintro σ' H' ⟨vs', v7, e, b1, b2, b3, b4, b5⟩
        exact ⟨vs'.length, b5, vs', v7, e, b1, b2, b3, b4, rfl⟩
      refine ⟨_, rfl, .inl ⟨rfl, _, SqL.of e4⟩, tb, _, x, rfl, rfl, e4, snoc_last _ x, ?_⟩
      rw [List.dropLast_concat]
      have e7 : upd H4 tb (.lst (us ++ [y])) tb = some (.lst (us ++ [y])) := upd_same
      have n0 := Int.emod_nonneg (((us ++ [y]).length : Nat) : Int) (b := 3) (by decide)
      have n1 := Int.emod_lt_of_pos (((us ++ [y]).length : Nat) : Int) (b := 3) (by decide)
      obtain ⟨c, hc, hat⟩ := op_at (l := [124, 43, 38]) n0 n1
      refine ⟨_, rfl, .inl ⟨rfl, _, SqL.of e7⟩, _, rfl, tb, _, rfl, .inl (SqL.of e7), _, _, rfl, rfl, (show (0 : Int) < 3 by decide), _, _, _, rfl, rfl, smallE (by show 3 ≤ _; decide), hat, _, rfl, .inl ⟨rfl, _, SqL.of e7⟩, tb, _, y, rfl, rfl, e7, snoc_last us y, ?_⟩
      rw [List.dropLast_concat]
      have us200 : us.length ≤ 200 := by omega
      refine ⟨_, rfl, smallE (by show 3 ≤ _; decide), fun p hp => ⟨tb, us, .ref p, rfl, rfl, (Same.up hp) _ _ upd_same, small (by omega), ?_⟩⟩
      have c1 : SameT H4 (upd (upd H4 tb (.lst (us ++ [y]))) tb (.lst us)) := (SameT.updL e4).trans (SameT.updL e7)
      have c2 := sameT (Same.up hp (o := .tup [vS [c], y, x]))
      have e8 := (Same.up hp (o := .tup [vS [c], y, x])) tb _ upd_same
      have c3 := SameT.updL e8 (o := .lst (us ++ [.ref p]))
      have cc := (c1.trans c2).trans c3
      have hop : c = 38 ∨ c = 124 ∨ c = 43 := by
        have : c = 124 ∨ c = 43 ∨ c = 38 := by simpa using hc
        rcases this with e | e | e <;> simp [e]
      refine ⟨us ++ [.ref p], _, rfl, (((g4.at fT).at fT).to hp).at fT, upd_same, by simp, ?_, by simp⟩
      exact put (B := 2 + m.toNat) (t := .bin c t' t) ((sku.mono cc).up (by omega)) ⟨p, y, x, rfl, c3 _ _ upd_same, ty.mono cc, tx.mono cc⟩ ⟨hop, oy, ox⟩ (by show max t'.ht t.ht + 1 + (us.length + 1) ≤ _; omega)
    · have c' : ¬ (1 : Int) < ((vs.length : Nat) : Int) := of_decide_eq_false (Bool.eq_false_iff.mpr c)
      obtain ⟨v, rfl⟩ : ∃ v, vs = [v] := by
        match vs, lv, c' with
        | [v], _, _ => exact ⟨v, rfl⟩
        | _ :: _ :: _, _, h => simp at h; omega
      obtain ⟨t, h1, h2, h3⟩ := sk v (List.mem_singleton.mpr rfl)
      have h3 : t.ht + 1 ≤ 2 + m.toNat := h3
      exact ⟨_, rfl, tb, _, _, v, rfl, rfl, SqL.of e4, rfl, q t v H4 g4 h1 h2 (by omega)⟩
def Tr.val (ρ : Nat → Bool) : Tr → Bool
  | .letter c => ρ c
  | .one => true
  | .zero => false
  | .neg t => !t.val ρ
  | .bin op t u => if op = 38 then t.val ρ && u.val ρ else if op = 124 then t.val ρ || u.val ρ else t.val ρ != u.val ρ
def spTrue (n : Nat) : Sp := fun vs H Q _ => ∃ (v : V) (d : Addr) (t : Tr) (kvs : List (Key × V)) (ρ : Nat → Bool) (ls : List Nat), vs = [v, .ref d] ∧ TrAt H t v ∧ t.ht ≤ n ∧ t.Of ls ∧ H d = some (.dK kvs) ∧ (∀ c ∈ ls, valV kvs (.inr (ofCs [c])) = some (.bl (ρ c))) ∧ ∀ H', Same H H' → Q (.bl (t.val ρ)) H'
theorem sc_true : FnScope ["_law_tree", "_law_row", "_law_one", "_law_other"] ["_law_tree", "_law_row"] (defScope s_law_true) := ⟨rfl, rfl, rfl, by decide +kernel, rfl, by decide +kernel, by decide +kernel⟩
theorem s_one : ("1" : Str) = ofCs [49] := by decide +kernel
theorem s_zero : ("0" : Str) = ofCs [48] := by decide +kernel
theorem s_amp : ("&" : Str) = ofCs [38] := by decide +kernel
theorem s_bar : ("|" : Str) = ofCs [124] := by decide +kernel
theorem Tr.ht_pos (t : Tr) : 1 ≤ t.ht := by cases t <;> simp [Tr.ht]
section
variable {Γ : St → Hp → Prop} {t1 t2 : TE}
theorem dEqV (st : Stb Γ) {p q : List Nat} (h1 : Dv Γ t1 (vS p)) (h2 : Dv Γ t2 (vS q)) : Dv Γ (tOp rEq t1 t2) (.bl (decide (p = q))) := fun σ H Q hΓ k =>
  h1 σ H _ hΓ fun H1 g1 => h2 σ H1 _ (st _ _ _ hΓ g1) fun H2 g2 => ⟨rfl, by
    have e : decide (vS p = vS q) = decide (p = q) := by
      by_cases h : p = q
      · rw [h]; simp
      · rw [decide_eq_false h, decide_eq_false fun e => h (vS_inj e)]
    rw [e]; exact k H2 (g1.trans g2)⟩
theorem dlenT {σ0 : St} {H0 : Hp} {i : Nat} {p : Addr} {xs : List V} (e : σ0[i]? = some (some (.ref p))) (h : SqT K H0 p xs) : Dv (At σ0 H0) (tCB (fun xs H Q => ∃ p ys, xs = [.ref p] ∧ (SqL K H p ys ∨ SqT K H p ys) ∧ Q (.int ys.length) H) (tCons (tVar i) tNil)) (.int xs.length) := fun σ H Q g q =>
  ⟨.ref p, by rw [g.1]; exact e, p, xs, rfl, .inr (g.2.seqT h), q H (Same.refl H)⟩
theorem dret {D : Ends} {σ : St} {H : Hp} {v : V} (h : Dv Γ t1 v) (hΓ : Γ σ H) (k : ∀ H', Same H H' → D.rt v H') : tRet t1 D σ H := h σ H _ hΓ k
theorem dsetW {i : Nat} {D : Ends} {σ : St} {H : Hp} {v : V} (h : Dv Γ t1 v) (hΓ : Γ σ H) (k : ∀ H', Same H H' → D.nx (σ.set i (some v)) H') : tAsg t1 (gName i) D σ H := h σ H _ hΓ k
theorem dtrue {n : Nat} {σ0 : St} {H0 : Hp} {x : V} {d : Addr} {t : Tr} {kvs : List (Key × V)} {ρ : Nat → Bool} {ls : List Nat} (h1 : Dv (At σ0 H0) t1 x) (e1 : σ0[1]? = some (some (.ref d))) (tr : TrAt H0 t x) (ht : t.ht ≤ n) (of : t.Of ls) (hd : H0 d = some (.dK kvs)) (hv : ∀ c ∈ ls, valV kvs (.inr (ofCs [c])) = some (.bl (ρ c))) :
    Dv (At σ0 H0) (tCall (spTrue n) [] E0 (tCons t1 (tCons (tVar 1) tNil))) (.bl (t.val ρ)) := fun σ H Q hΓ q =>
  h1 σ H _ hΓ fun H1 g1 => ⟨.ref d, by rw [hΓ.1]; exact e1, x, d, t, kvs, ρ, ls, rfl, tr.mono (sameT (hΓ.2.trans g1)), ht, of, (hΓ.2.trans g1) _ _ hd, hv, fun H' g => q H' (g1.trans g)⟩
end
theorem true_step {n : Nat} {f : Addr} {fd : FuncData} (F : Fun K "_law_true" "_law_true" s_law_true f fd) (T : Txt mg) (bG : Binds K fd ["_law_tree", "_law_row"] []) (mG : mg "_law_true" = some (.ref f))
    (GG : FnOk P w K mg base CX0 n f fd ["_law_tree", "_law_row"] (spTrue n)) : FnOk P w K mg base CX0 (n + 1) f fd ["_law_tree", "_law_row"] (spTrue (n + 1)) := by
  refine F.ok sc_true (fun vs H Q E h => ?_) (fun cdv A outer s H vs Q E hr h => ?_)
  · obtain ⟨v, d, t, kvs, ρ, ls, rfl, _⟩ := h
    rfl
  obtain ⟨v, d, t, kvs, ρ, ls, rfl, tr, ht, of, hd, hv, q⟩ := h
  have hu := hu_of hr
  have kG := F.kp
  refine ⟨_, (pss_cons (ps_if (pt_cmpR op_eq (pe_ix ix_tup (pv 0) pe_int (fun _ _ => rfl)) pe_str (nomark _)) (pss_one (ps_ret (pe_dget hu (pv 1) (pe_ix ix_tup (pv 0) pe_int (fun _ _ => rfl)) (fun _ _ => rfl)))) pss_nil)
    (pss_cons (ps_if (pt_cmpR op_eq (pe_callB call_len_seq (by rfl) T.len PySem.boot_len (pa_cons (pv 0) pa_nil)) pe_int (nomark _)) (pss_one (ps_ret (pe_cmpR op_eq (pe_ix ix_tup (pv 0) pe_int (fun _ _ => rfl)) pe_str (nomark _)))) pss_nil)
    (pss_cons (ps_set (i := 2) sc_true.nd rfl (Or.inl rfl) (pe_call GG hr (by rfl) mG kG bG .nil pass0 (pa_cons (pe_ix ix_tup (pv 0) pe_int (fun _ _ => rfl)) (pa_cons (pv 1) pa_nil))))
    (pss_cons (ps_if (pt_cmpR op_eq (pe_ix ix_tup (pv 0) pe_int (fun _ _ => rfl)) pe_str (nomark _)) (pss_one (ps_ret (pe_not (pv 2)))) pss_nil)
    (pss_cons (ps_set (i := 3) sc_true.nd rfl (Or.inl rfl) (pe_call GG hr (by rfl) mG kG bG .nil pass0 (pa_cons (pe_ix ix_tup (pv 0) pe_int (fun _ _ => rfl)) (pa_cons (pv 1) pa_nil))))
    (pss_cons (ps_if (pt_cmpR op_eq (pe_ix ix_tup (pv 0) pe_int (fun _ _ => rfl)) pe_str (nomark _)) (pss_one (ps_ret (pe_and (pv 2) (pe_one (pv 3))))) pss_nil)
    (pss_cons (ps_if (pt_cmpR op_eq (pe_ix ix_tup (pv 0) pe_int (fun _ _ => rfl)) pe_str (nomark _)) (pss_one (ps_ret (pe_or (pv 2) (pe_one (pv 3))))) pss_nil)
    (pss_one (ps_ret (pe_cmpR op_ne (pv 2) (pv 3) (nomark _))))))))))), ?_⟩
  rw [letter_txt, s_one, wave, s_amp, s_bar]
  cases t with
  | letter c =>
    obtain ⟨a, rfl, h⟩ := tr
    have hT : SqT K H a _ := SqT.of h
    refine difT (dtest (dEqV st_at (dixT rfl hT rfl) dC)) at0 (fun _ H1 g1 => ?_) (fun hb => absurd hb (by simp))
    have gd := DGet.k (k := Sum.inr (ofCs [c])) (g1 _ _ hd)
    rw [hv c of] at gd
    exact ⟨_, rfl, _, rfl, a, _, _, _, rfl, rfl, g1.seqT hT, rfl, d, _, rfl, gd, q H1 g1⟩
  | one =>
    obtain ⟨a, rfl, h⟩ := tr
    have hT : SqT K H a _ := SqT.of h
    refine difT (dtest (dEqV st_at (dixT rfl hT rfl) dC)) at0 (fun hb => absurd hb (by decide)) (fun _ H1 g1 => ?_)
    refine difT (dtest (dIE st_at (dlenT rfl (g1.seqT hT)) dC)) at0 (fun _ H2 g2 => ?_) (fun hb => absurd hb (by decide))
    refine dret (dEqV st_at (dixT rfl ((g1.trans g2).seqT hT) rfl) dC) at0 fun H3 g3 => q H3 ((g1.trans g2).trans g3)
  | zero =>
    obtain ⟨a, rfl, h⟩ := tr
    have hT : SqT K H a _ := SqT.of h
    refine difT (dtest (dEqV st_at (dixT rfl hT rfl) dC)) at0 (fun hb => absurd hb (by decide)) (fun _ H1 g1 => ?_)
    refine difT (dtest (dIE st_at (dlenT rfl (g1.seqT hT)) dC)) at0 (fun _ H2 g2 => ?_) (fun hb => absurd hb (by decide))
    refine dret (dEqV st_at (dixT rfl ((g1.trans g2).seqT hT) rfl) dC) at0 fun H3 g3 => q H3 ((g1.trans g2).trans g3)
  | neg t =>
    obtain ⟨a, x, rfl, h, tx⟩ := tr
    have hT : SqT K H a _ := SqT.of h
    have ht' : t.ht ≤ n := Nat.le_of_succ_le_succ ht
    refine difT (dtest (dEqV st_at (dixT rfl hT rfl) dC)) at0 (fun hb => absurd hb (by decide)) (fun _ H1 g1 => ?_)
    refine difT (dtest (dIE st_at (dlenT rfl (g1.seqT hT)) dC)) at0 (fun hb => absurd hb (by simp)) (fun _ H2 g2 => ?_)
    have g12 := g1.trans g2
    refine dsetW (i := 2) (dtrue (dixT rfl (g12.seqT hT) rfl) rfl (tx.mono (sameT g12)) ht' of (g12 _ _ hd) hv) at0 fun H3 g3 => ?_
    have g13 := g12.trans g3
    refine difT (dtest (dEqV st_at (dixT rfl (g13.seqT hT) rfl) dC)) at0 (fun _ H4 g4 => ?_) (fun hb => absurd hb (by decide))
    exact dret (dnotB (dvA rfl)) at0 fun H5 g5 => q H5 ((g13.trans g4).trans g5)
  | bin op t u =>
    obtain ⟨a, x, y, rfl, h, tx, uy⟩ := tr
    have hT : SqT K H a _ := SqT.of h
    have hm : max t.ht u.ht ≤ n := Nat.le_of_succ_le_succ ht
    have ht' : t.ht ≤ n := by omega
    have hu' : u.ht ≤ n := by omega
    obtain ⟨hop, ot, ou⟩ := of
    have nl : decide ([op] = wLetter) = false := decide_eq_false (by simp [wLetter])
    have nw : decide ([op] = [126]) = false := decide_eq_false (by rcases hop with e | e | e <;> simp [e])
    refine difT (dtest (dEqV st_at (dixT rfl hT rfl) dC)) at0 (fun hb => absurd (nl.symm.trans hb) (by decide)) (fun _ H1 g1 => ?_)
    refine difT (dtest (dIE st_at (dlenT rfl (g1.seqT hT)) dC)) at0 (fun hb => absurd hb (by simp)) (fun _ H2 g2 => ?_)
    have g12 := g1.trans g2
    refine dsetW (i := 2) (dtrue (dixT rfl (g12.seqT hT) rfl) rfl (tx.mono (sameT g12)) ht' ot (g12 _ _ hd) hv) at0 fun H3 g3 => ?_
    have g13 := g12.trans g3
    refine difT (dtest (dEqV st_at (dixT rfl (g13.seqT hT) rfl) dC)) at0 (fun hb => absurd (nw.symm.trans hb) (by decide)) (fun _ H4 g4 => ?_)
    have g14 := g13.trans g4
    refine dsetW (i := 3) (dtrue (dixT rfl (g14.seqT hT) rfl) rfl (uy.mono (sameT g14)) hu' ou (g14 _ _ hd) hv) at0 fun H5 g5 => ?_
    have g15 := g14.trans g5
    refine difT (dtest (dEqV st_at (dixT rfl (g15.seqT hT) rfl) dC)) at0 (fun hb H6 g6 => ?_) (fun hb H6 g6 => ?_)
    · have e : op = 38 := by simpa using of_decide_eq_true hb
      refine dret (dandB st_at (dvA rfl) (dvA rfl)) at0 fun H7 g7 => ?_
      have := q H7 ((g15.trans g6).trans g7)
      rw [Tr.val, if_pos e] at this
      exact this
    have n38 : ¬ op = 38 := fun e => by simpa [e] using of_decide_eq_false hb
    have g16 := g15.trans g6
    refine difT (dtest (dEqV st_at (dixT rfl (g16.seqT hT) rfl) dC)) at0 (fun hb H7 g7 => ?_) (fun hb H7 g7 => ?_)
    · have e : op = 124 := by simpa using of_decide_eq_true hb
      refine dret (dorB st_at (dvA rfl) (dvA rfl)) at0 fun H8 g8 => ?_
      have := q H8 ((g16.trans g7).trans g8)
      rw [Tr.val, if_neg n38, if_pos e] at this
      exact this
    have n124 : ¬ op = 124 := fun e => by simpa [e] using of_decide_eq_false hb
    refine dret (dbne st_at (dvA rfl) (dvA rfl)) at0 fun H8 g8 => ?_
    have := q H8 ((g16.trans g7).trans g8)
    rw [Tr.val, if_neg n38, if_neg n124] at this
    exact this
theorem ok_true {f : Addr} {fd : FuncData} (F : Fun K "_law_true" "_law_true" s_law_true f fd) (T : Txt mg) (bG : Binds K fd ["_law_tree", "_law_row"] []) (mG : mg "_law_true" = some (.ref f)) : ∀ n, FnOk P w K mg base CX0 n f fd ["_law_tree", "_law_row"] (spTrue n)
  | 0 => ⟨fun vs H Q E h => by obtain ⟨_, _, t, _, _, _, _, _, h, _⟩ := h; have := t.ht_pos; omega, fun A outer s H args us vs Q E _ _ _ _ h => by obtain ⟨_, _, t, _, _, _, _, _, h, _⟩ := h; have := t.ht_pos; omega⟩
  | n + 1 => true_step F T bG mG (ok_true F T bG mG n)
structure CA where
  always : Addr
  never : Addr
  letter : Addr
  not : Addr
  and : Addr
  or : Addr
  either : Addr
def CA.bin (c : CA) (op : Nat) : Addr := if op = 38 then c.and else if op = 124 then c.or else c.either
structure CTxt (K : PySem.W.Frag) (c : CA) (iL iN iP : Addr) : Prop where
  always : Cls K c.always
  never : Cls K c.never
  letter : Cls K c.letter
  not : Cls K c.not
  and : Cls K c.and
  or : Cls K c.or
  either : Cls K c.either
  mAlways : Mk0 K c.always
  mNever : Mk0 K c.never
  mLetter : Mk K c.letter iL
  mNot : Mk K c.not iN
  mAnd : Mk K c.and iP
  mOr : Mk K c.or iP
  mEither : Mk K c.either iP
  aLetter : NoAttr K c.letter "letter"
  aNot : NoAttr K c.not "one"
  aAnd : NoAttr K c.and "one" ∧ NoAttr K c.and "other"
  aOr : NoAttr K c.or "one" ∧ NoAttr K c.or "other"
  aEither : NoAttr K c.either "one" ∧ NoAttr K c.either "other"
theorem CTxt.bin {K : PySem.W.Frag} {c : CA} {iL iN iP : Addr} (h : CTxt K c iL iN iP) (op : Nat) : Cls K (c.bin op) ∧ NoAttr K (c.bin op) "one" ∧ NoAttr K (c.bin op) "other" := by
  unfold CA.bin
  split
  · exact ⟨h.and, h.aAnd⟩
  · split
    · exact ⟨h.or, h.aOr⟩
    · exact ⟨h.either, h.aEither⟩
def ObjAt (c : CA) (H : Hp) : Tr → V → Prop
  | .letter l, v => ∃ a dx, v = .ref a ∧ H a = some (.ins c.letter dx [("letter", vS [l])])
  | .one, v => ∃ a dx, v = .ref a ∧ H a = some (.ins c.always dx [])
  | .zero, v => ∃ a dx, v = .ref a ∧ H a = some (.ins c.never dx [])
  | .neg t, v => ∃ a dx x, v = .ref a ∧ H a = some (.ins c.not dx [("one", x)]) ∧ ObjAt c H t x
  | .bin op t u, v => ∃ a dx x y, v = .ref a ∧ H a = some (.ins (c.bin op) dx [("one", x), ("other", y)]) ∧ ObjAt c H t x ∧ ObjAt c H u y
theorem ObjAt.mono {c : CA} {H H' : Hp} (g : Same H H') : ∀ {t : Tr} {v : V}, ObjAt c H t v → ObjAt c H' t v
  | .letter _, _, ⟨a, dx, e, h⟩ => ⟨a, dx, e, g _ _ h⟩
  | .one, _, ⟨a, dx, e, h⟩ => ⟨a, dx, e, g _ _ h⟩
  | .zero, _, ⟨a, dx, e, h⟩ => ⟨a, dx, e, g _ _ h⟩
  | .neg t, _, ⟨a, dx, x, e, h, r⟩ => ⟨a, dx, x, e, g _ _ h, ObjAt.mono g r⟩
  | .bin op t u, _, ⟨a, dx, x, y, e, h, r, r'⟩ => ⟨a, dx, x, y, e, g _ _ h, ObjAt.mono g r, ObjAt.mono g r'⟩
def spInit1 (K : PySem.W.Frag) (f : Str) : Sp := fun vs H Q _ => ∃ (C x dx : Addr) (y : V), vs = [.ref x, y] ∧ H x = some (.ins C dx []) ∧ Cls K C ∧ NoAttr K C f ∧ Q .non (upd H x (.ins C dx [(f, y)]))
def spInit2 (K : PySem.W.Frag) (f g : Str) : Sp := fun vs H Q _ => ∃ (C x dx : Addr) (y z : V), vs = [.ref x, y, z] ∧ H x = some (.ins C dx []) ∧ Cls K C ∧ NoAttr K C f ∧ NoAttr K C g ∧ Q .non (upd (upd H x (.ins C dx [(f, y)])) x (.ins C dx [(f, y), (g, z)]))
theorem sc_initL : FnScope ["self", "letter"] ["self", "letter"] (defScope s_Letter_init) := ⟨rfl, rfl, rfl, by decide +kernel, rfl, by decide +kernel, by decide +kernel⟩
theorem sc_initN : FnScope ["self", "one"] ["self", "one"] (defScope s_Not_init) := ⟨rfl, rfl, rfl, by decide +kernel, rfl, by decide +kernel, by decide +kernel⟩
theorem sc_initP : FnScope ["self", "one", "other"] ["self", "one", "other"] (defScope s_Pair_init) := ⟨rfl, rfl, rfl, by decide +kernel, rfl, by decide +kernel, by decide +kernel⟩
theorem ok_initL {k : Nat} {f : Addr} {fd : FuncData} (F : Fun K "__init__" "Letter.__init__" s_Letter_init f fd) : FnOk P w K mg base CX0 (k + 1) f fd ["self", "letter"] (spInit1 K "letter") := by
  refine F.ok sc_initL (fun vs H Q E h => ?_) (fun cdv A outer s H vs Q E hr h => ?_)
  · obtain ⟨C, x, dx, y, rfl, _⟩ := h
    rfl
  obtain ⟨C, x, dx, y, rfl, hx, c, n, q⟩ := h
  refine ⟨_, pss_one (ps_fld (pv 0) (pv 1) rfl), ?_⟩
  exact ⟨_, rfl, _, rfl, x, C, dx, [], rfl, hx, c, n, by decide, q⟩
theorem ok_initN {k : Nat} {f : Addr} {fd : FuncData} (F : Fun K "__init__" "Not.__init__" s_Not_init f fd) : FnOk P w K mg base CX0 (k + 1) f fd ["self", "one"] (spInit1 K "one") := by
  refine F.ok sc_initN (fun vs H Q E h => ?_) (fun cdv A outer s H vs Q E hr h => ?_)
  · obtain ⟨C, x, dx, y, rfl, _⟩ := h
    rfl
  obtain ⟨C, x, dx, y, rfl, hx, c, n, q⟩ := h
  refine ⟨_, pss_one (ps_fld (pv 0) (pv 1) rfl), ?_⟩
  exact ⟨_, rfl, _, rfl, x, C, dx, [], rfl, hx, c, n, by decide, q⟩
theorem ok_initP {k : Nat} {f : Addr} {fd : FuncData} (F : Fun K "__init__" "Pair.__init__" s_Pair_init f fd) : FnOk P w K mg base CX0 (k + 1) f fd ["self", "one", "other"] (spInit2 K "one" "other") := by
  refine F.ok sc_initP (fun vs H Q E h => ?_) (fun cdv A outer s H vs Q E hr h => ?_)
  · obtain ⟨C, x, dx, y, z, rfl, _⟩ := h
    rfl
  obtain ⟨C, x, dx, y, z, rfl, hx, c, n, n2, q⟩ := h
  refine ⟨_, pss_cons (ps_fld (pv 0) (pv 1) rfl) (pss_one (ps_fld (pv 0) (pv 2) rfl)), ?_⟩
  exact ⟨_, rfl, _, rfl, x, C, dx, [], rfl, hx, c, n, by decide, _, rfl, _, rfl, x, C, dx, _, rfl, upd_same, c, n2, by show 1 < 1000; decide, q⟩
def spObj (c : CA) (n : Nat) : Sp := fun vs H Q _ => ∃ (v : V) (t : Tr) (ls : List Nat), vs = [v] ∧ TrAt H t v ∧ t.ht + 1 < n ∧ t.Of ls ∧ ∀ o H', Same H H' → ObjAt c H' t o → Q o H'
theorem sc_obj : FnScope ["_law_tree", "_law_one", "_law_other"] ["_law_tree"] (defScope s_law_object) := ⟨rfl, rfl, rfl, by decide +kernel, rfl, by decide +kernel, by decide +kernel⟩
theorem obj_step {n : Nat} {c : CA} {iL iN iP f : Addr} {fdL fdN fdP fd : FuncData} (F : Fun K "_law_object" "_law_object" s_law_object f fd) (C : CTxt K c iL iN iP)
    (mA : mg "Always" = some (.ref c.always)) (mN : mg "Never" = some (.ref c.never)) (mL : mg "Letter" = some (.ref c.letter)) (mO : mg "Not" = some (.ref c.not)) (mD : mg "And" = some (.ref c.and)) (mR : mg "Or" = some (.ref c.or)) (mE : mg "Either" = some (.ref c.either))
    (GL : FnOk P w K mg base CX0 1 iL fdL ["self", "letter"] (spInit1 K "letter")) (bL : Binds K fdL ["self", "letter"] [])
    (GN : FnOk P w K mg base CX0 1 iN fdN ["self", "one"] (spInit1 K "one")) (bN : Binds K fdN ["self", "one"] [])
    (GP : FnOk P w K mg base CX0 1 iP fdP ["self", "one", "other"] (spInit2 K "one" "other")) (bP : Binds K fdP ["self", "one", "other"] [])
    (bG : Binds K fd ["_law_tree"] []) (mG : mg "_law_object" = some (.ref f)) (GG : FnOk P w K mg base CX0 n f fd ["_law_tree"] (spObj c n)) : FnOk P w K mg base CX0 (n + 1) f fd ["_law_tree"] (spObj c (n + 1)) := by
  refine F.ok sc_obj (fun vs H Q E h => ?_) (fun cdv A outer s H vs Q E hr h => ?_)
  · obtain ⟨v, t, ls, rfl, _⟩ := h
    rfl
  obtain ⟨v, t, ls, rfl, tr, ht, of, q⟩ := h
  have kG := F.kp
  have hr2 : Room 2 _ := hr.mono (by have := t.ht_pos; omega)
  refine ⟨_, (pss_cons (ps_if (pt_cmpR op_eq (pe_ix ix_tup (pv 0) pe_int (fun _ _ => rfl)) pe_str (nomark _)) (pss_one (ps_ret (pe_make C.mLetter GL hr2 (by rfl) mL bL .nil pass0 (pa_cons (pe_ix ix_tup (pv 0) pe_int (fun _ _ => rfl)) pa_nil)))) pss_nil)
    (pss_cons (ps_if (pt_cmpR op_eq (pe_ix ix_tup (pv 0) pe_int (fun _ _ => rfl)) pe_str (nomark _)) (pss_one (ps_ret (pe_makeN C.mAlways (by rfl) mA))) pss_nil)
    (pss_cons (ps_if (pt_cmpR op_eq (pe_ix ix_tup (pv 0) pe_int (fun _ _ => rfl)) pe_str (nomark _)) (pss_one (ps_ret (pe_makeN C.mNever (by rfl) mN))) pss_nil)
    (pss_cons (ps_set (i := 1) sc_obj.nd rfl (Or.inl rfl) (pe_call GG hr (by rfl) mG kG bG .nil pass0 (pa_cons (pe_ix ix_tup (pv 0) pe_int (fun _ _ => rfl)) pa_nil)))
    (pss_cons (ps_if (pt_cmpR op_eq (pe_ix ix_tup (pv 0) pe_int (fun _ _ => rfl)) pe_str (nomark _)) (pss_one (ps_ret (pe_make C.mNot GN hr2 (by rfl) mO bN .nil pass0 (pa_cons (pv 1) pa_nil)))) pss_nil)
    (pss_cons (ps_set (i := 2) sc_obj.nd rfl (Or.inl rfl) (pe_call GG hr (by rfl) mG kG bG .nil pass0 (pa_cons (pe_ix ix_tup (pv 0) pe_int (fun _ _ => rfl)) pa_nil)))
    (pss_cons (ps_if (pt_cmpR op_eq (pe_ix ix_tup (pv 0) pe_int (fun _ _ => rfl)) pe_str (nomark _)) (pss_one (ps_ret (pe_make C.mAnd GP hr2 (by rfl) mD bP .nil pass0 (pa_cons (pv 1) (pa_cons (pv 2) pa_nil))))) pss_nil)
    (pss_cons (ps_if (pt_cmpR op_eq (pe_ix ix_tup (pv 0) pe_int (fun _ _ => rfl)) pe_str (nomark _)) (pss_one (ps_ret (pe_make C.mOr GP hr2 (by rfl) mR bP .nil pass0 (pa_cons (pv 1) (pa_cons (pv 2) pa_nil))))) pss_nil)
    (pss_one (ps_ret (pe_make C.mEither GP hr2 (by rfl) mE bP .nil pass0 (pa_cons (pv 1) (pa_cons (pv 2) pa_nil))))))))))))), ?_⟩
  rw [letter_txt, s_one, s_zero, wave, s_amp, s_bar]
  cases t with
  | letter l =>
    obtain ⟨a, rfl, h⟩ := tr
    have hT : SqT K H a _ := SqT.of h
    refine difT (dtest (dEqV st_at (dixT rfl hT rfl) dC)) at0 (fun _ H1 g1 => ?_) (fun hb => absurd hb (by simp))
    refine ⟨_, rfl, a, _, _, _, rfl, rfl, g1.seqT hT, rfl, fun x dx hx hdx ne => ⟨c.letter, x, dx, _, rfl, upd_same, C.letter, C.aLetter, rfl, ?_⟩⟩
    exact q _ _ (((g1.at (g1.free hdx)).at (g1.free hx)).at (g1.free hx)) ⟨x, dx, rfl, upd_same⟩
  | one =>
    obtain ⟨a, rfl, h⟩ := tr
    have hT : SqT K H a _ := SqT.of h
    refine difT (dtest (dEqV st_at (dixT rfl hT rfl) dC)) at0 (fun hb => absurd hb (by decide)) (fun _ H1 g1 => ?_)
    refine difT (dtest (dEqV st_at (dixT rfl (g1.seqT hT) rfl) dC)) at0 (fun _ H2 g2 => ?_) (fun hb => absurd hb (by decide))
    have g := g1.trans g2
    exact fun x dx hx hdx ne => q _ _ ((g.at (g.free hdx)).at (g.free hx)) ⟨x, dx, rfl, upd_same⟩
  | zero =>
    obtain ⟨a, rfl, h⟩ := tr
    have hT : SqT K H a _ := SqT.of h
    refine difT (dtest (dEqV st_at (dixT rfl hT rfl) dC)) at0 (fun hb => absurd hb (by decide)) (fun _ H1 g1 => ?_)
    refine difT (dtest (dEqV st_at (dixT rfl (g1.seqT hT) rfl) dC)) at0 (fun hb => absurd hb (by decide)) (fun _ H2 g2 => ?_)
    have g12 := g1.trans g2
    refine difT (dtest (dEqV st_at (dixT rfl (g12.seqT hT) rfl) dC)) at0 (fun _ H3 g3 => ?_) (fun hb => absurd hb (by decide))
    have g := g12.trans g3
    exact fun x dx hx hdx ne => q _ _ ((g.at (g.free hdx)).at (g.free hx)) ⟨x, dx, rfl, upd_same⟩
  | neg t =>
    obtain ⟨a, tx, rfl, h, trx⟩ := tr
    have hT : SqT K H a _ := SqT.of h
    have ht' : t.ht + 1 < n := by have : t.ht + 1 + 1 < n + 1 := ht; omega
    refine difT (dtest (dEqV st_at (dixT rfl hT rfl) dC)) at0 (fun hb => absurd hb (by decide)) (fun _ H1 g1 => ?_)
    refine difT (dtest (dEqV st_at (dixT rfl (g1.seqT hT) rfl) dC)) at0 (fun hb => absurd hb (by decide)) (fun _ H2 g2 => ?_)
    have g12 := g1.trans g2
    refine difT (dtest (dEqV st_at (dixT rfl (g12.seqT hT) rfl) dC)) at0 (fun hb => absurd hb (by decide)) (fun _ H3 g3 => ?_)
    have g13 := g12.trans g3
    refine ⟨_, rfl, a, _, _, _, rfl, rfl, g13.seqT hT, rfl, tx, t, ls, rfl, trx.mono (sameT g13), ht', of, fun o H4 g4 ob => ?_⟩
    have g14 := g13.trans g4
    refine difT (dtest (dEqV st_at (dixT rfl (g14.seqT hT) rfl) dC)) at0 (fun _ H5 g5 => ?_) (fun hb => absurd hb (by decide))
    have g := g14.trans g5
    refine ⟨_, rfl, fun x dx hx hdx ne => ⟨c.not, x, dx, _, rfl, upd_same, C.not, C.aNot, rfl, ?_⟩⟩
    have g5' := ((g5.at (g5.free hdx) (o := .own x)).at (g5.free hx) (o := .ins c.not dx [])).at (g5.free hx) (o := .ins c.not dx [("one", o)])
    exact q _ _ (((g.at (g.free hdx)).at (g.free hx)).at (g.free hx)) ⟨x, dx, o, rfl, upd_same, ob.mono g5'⟩
  | bin op t u =>
    obtain ⟨a, tx, ty, rfl, h, trx, try_⟩ := tr
    have hT : SqT K H a _ := SqT.of h
    have hm : max t.ht u.ht + 1 + 1 < n + 1 := ht
    have ht' : t.ht + 1 < n := by omega
    have hu' : u.ht + 1 < n := by omega
    obtain ⟨hop, ot, ou⟩ := of
    have nl : decide ([op] = wLetter) = false := decide_eq_false (by simp [wLetter])
    have n1 : decide ([op] = [49]) = false := decide_eq_false (by rcases hop with e | e | e <;> simp [e])
    have n0 : decide ([op] = [48]) = false := decide_eq_false (by rcases hop with e | e | e <;> simp [e])
    have nw : decide ([op] = [126]) = false := decide_eq_false (by rcases hop with e | e | e <;> simp [e])
    refine difT (dtest (dEqV st_at (dixT rfl hT rfl) dC)) at0 (fun hb => absurd (nl.symm.trans hb) (by decide)) (fun _ H1 g1 => ?_)
    refine difT (dtest (dEqV st_at (dixT rfl (g1.seqT hT) rfl) dC)) at0 (fun hb => absurd (n1.symm.trans hb) (by decide)) (fun _ H2 g2 => ?_)
    have g12 := g1.trans g2
    refine difT (dtest (dEqV st_at (dixT rfl (g12.seqT hT) rfl) dC)) at0 (fun hb => absurd (n0.symm.trans hb) (by decide)) (fun _ H3 g3 => ?_)
    have g13 := g12.trans g3
    refine ⟨_, rfl, a, _, _, _, rfl, rfl, g13.seqT hT, rfl, tx, t, ls, rfl, trx.mono (sameT g13), ht', ot, fun o H4 g4 ob => ?_⟩
    have g14 := g13.trans g4
    refine difT (dtest (dEqV st_at (dixT rfl (g14.seqT hT) rfl) dC)) at0 (fun hb => absurd (nw.symm.trans hb) (by decide)) (fun _ H5 g5 => ?_)
    have g15 := g14.trans g5
    refine ⟨_, rfl, a, _, _, _, rfl, rfl, g15.seqT hT, rfl, ty, u, ls, rfl, try_.mono (sameT g15), hu', ou, fun p H6 g6 pb => ?_⟩
    have g16 := g15.trans g6
    have ob6 := ob.mono (g5.trans g6)
    -- the three ends
    have fin : ∀ (Cl x dx : Addr) (H7 : Hp), Same H6 H7 → Cl = c.bin op → H7 x = none → H7 dx = none → Q (.ref x) (upd (upd (upd (upd H7 dx (.own x)) x (.ins Cl dx [])) x (.ins Cl dx [("one", o)])) x (.ins Cl dx [("one", o), ("other", p)])) := fun Cl x dx H7 g7 e hx hdx => by
      subst e
      have k := (((g7.at (g7.free hdx) (o := .own x)).at (g7.free hx) (o := .ins (c.bin op) dx [])).at (g7.free hx) (o := .ins (c.bin op) dx [("one", o)])).at (g7.free hx) (o := .ins (c.bin op) dx [("one", o), ("other", p)])
      exact q _ _ (g16.trans k) ⟨x, dx, o, p, rfl, upd_same, ob6.mono k, pb.mono k⟩
    refine difT (dtest (dEqV st_at (dixT rfl (g16.seqT hT) rfl) dC)) at0 (fun hb H7 g7 => ?_) (fun hb H7 g7 => ?_)
    · have e : op = 38 := by simpa using of_decide_eq_true hb
      refine ⟨_, rfl, _, rfl, fun x dx hx hdx ne => ⟨c.and, x, dx, _, _, rfl, upd_same, C.and, C.aAnd.1, C.aAnd.2, rfl, ?_⟩⟩
      exact fin c.and x dx H7 g7 (by rw [CA.bin, if_pos e]) hx hdx
    have n38 : ¬ op = 38 := fun e => by simpa [e] using of_decide_eq_false hb
    refine difT (dtest (dEqV st_at (dixT rfl ((g16.trans g7).seqT hT) rfl) dC)) at0 (fun hb H8 g8 => ?_) (fun hb H8 g8 => ?_)
    · have e : op = 124 := by simpa using of_decide_eq_true hb
      refine ⟨_, rfl, _, rfl, fun x dx hx hdx ne => ⟨c.or, x, dx, _, _, rfl, upd_same, C.or, C.aOr.1, C.aOr.2, rfl, ?_⟩⟩
      exact fin c.or x dx H8 (g7.trans g8) (by rw [CA.bin, if_neg n38, if_pos e]) hx hdx
    have n124 : ¬ op = 124 := fun e => by simpa [e] using of_decide_eq_false hb
    refine ⟨_, rfl, _, rfl, fun x dx hx hdx ne => ⟨c.either, x, dx, _, _, rfl, upd_same, C.either, C.aEither.1, C.aEither.2, rfl, ?_⟩⟩
    exact fin c.either x dx H8 (g7.trans g8) (by rw [CA.bin, if_neg n38, if_neg n124]) hx hdx
def kA (t : Tr) : Prop := t = .one
def kN (t : Tr) : Prop := t = .zero
def kL (t : Tr) : Prop := ∃ l, t = .letter l
def kO (t : Tr) : Prop := ∃ u, t = .neg u
def kD (t : Tr) : Prop := ∃ u v, t = .bin 38 u v
def kR (t : Tr) : Prop := ∃ u v, t = .bin 124 u v
def kE (t : Tr) : Prop := ∃ op u v, t = .bin op u v ∧ ¬ op = 38 ∧ ¬ op = 124
def spTruth (c : CA) (n : Nat) (κ : Tr → Prop) : Sp := fun vs H Q _ => ∃ (o : V) (d : Addr) (t : Tr) (kvs : List (Key × V)) (ρ : Nat → Bool) (ls : List Nat), vs = [o, .ref d] ∧ ObjAt c H t o ∧ t.ht ≤ n ∧ t.Of ls ∧ H d = some (.dK kvs) ∧ (∀ c ∈ ls, valV kvs (.inr (ofCs [c])) = some (.bl (ρ c))) ∧ κ t ∧ ∀ H', Same H H' → Q (.bl (t.val ρ)) H'
abbrev tDisp (c : CA) (n : Nat) (te : TE) : TE := fun σ H Q => tMeth c.always "truth" (spTruth c n kA) [] E0 te (tCons (tVar 1) tNil) σ H Q ∨ (fun σ H Q => tMeth c.never "truth" (spTruth c n kN) [] E0 te (tCons (tVar 1) tNil) σ H Q ∨ (fun σ H Q => tMeth c.letter "truth" (spTruth c n kL) [] E0 te (tCons (tVar 1) tNil) σ H Q ∨
  (fun σ H Q => tMeth c.not "truth" (spTruth c n kO) [] E0 te (tCons (tVar 1) tNil) σ H Q ∨ (fun σ H Q => tMeth c.and "truth" (spTruth c n kD) [] E0 te (tCons (tVar 1) tNil) σ H Q ∨ (fun σ H Q => tMeth c.or "truth" (spTruth c n kR) [] E0 te (tCons (tVar 1) tNil) σ H Q ∨ tMeth c.either "truth" (spTruth c n kE) [] E0 te (tCons (tVar 1) tNil) σ H Q) σ H Q) σ H Q) σ H Q) σ H Q) σ H Q
theorem ddisp {n : Nat} {c : CA} {σ0 : St} {H0 : Hp} {te : TE} {o : V} {d : Addr} {t : Tr} {kvs : List (Key × V)} {ρ : Nat → Bool} {ls : List Nat} (h1 : Dv (At σ0 H0) te o) (e1 : σ0[1]? = some (some (.ref d))) (ob : ObjAt c H0 t o) (ht : t.ht ≤ n) (of : t.Of ls) (hd : H0 d = some (.dK kvs)) (hv : ∀ c ∈ ls, valV kvs (.inr (ofCs [c])) = some (.bl (ρ c))) :
    Dv (At σ0 H0) (tDisp c n te) (.bl (t.val ρ)) := by
  intro σ H Q hΓ q
  have e1' : σ[1]? = some (some (.ref d)) := by rw [hΓ.1]; exact e1
  have go : ∀ (κ : Tr → Prop) (C : Addr) (a dx : Addr) (fs : List (Str × V)), κ t → o = .ref a → H0 a = some (.ins C dx fs) → fs.lookup ("truth" : Str) = none → tMeth C "truth" (spTruth c n κ) [] E0 te (tCons (tVar 1) tNil) σ H Q := fun κ C a dx fs hκ eo ha hl =>
    h1 σ H _ hΓ fun H1 g1 => ⟨a, dx, fs, eo, (hΓ.2.trans g1) _ _ ha, hl, .ref d, e1', o, d, t, kvs, ρ, ls, rfl, ob.mono (hΓ.2.trans g1), ht, of, (hΓ.2.trans g1) _ _ hd, hv, hκ, fun H' g => q H' (g1.trans g)⟩
  cases t with
  | one => obtain ⟨a, dx, e, h⟩ := ob; exact .inl (go kA _ a dx _ rfl e h rfl)
  | zero => obtain ⟨a, dx, e, h⟩ := ob; exact .inr (.inl (go kN _ a dx _ rfl e h rfl))
  | letter l => obtain ⟨a, dx, e, h⟩ := ob; exact .inr (.inr (.inl (go kL _ a dx _ ⟨l, rfl⟩ e h rfl)))
  | neg u => obtain ⟨a, dx, x, e, h, _⟩ := ob; exact .inr (.inr (.inr (.inl (go kO _ a dx _ ⟨u, rfl⟩ e h rfl))))
  | bin op u v =>
    obtain ⟨a, dx, x, y, e, h, _⟩ := ob
    by_cases e38 : op = 38
    · rw [CA.bin, if_pos e38] at h
      exact .inr (.inr (.inr (.inr (.inl (go kD _ a dx _ ⟨u, v, by rw [e38]⟩ e h rfl)))))
    · by_cases e124 : op = 124
      · rw [CA.bin, if_neg e38, if_pos e124] at h
        exact .inr (.inr (.inr (.inr (.inr (.inl (go kR _ a dx _ ⟨u, v, by rw [e124]⟩ e h rfl))))))
      · rw [CA.bin, if_neg e38, if_neg e124] at h
        exact .inr (.inr (.inr (.inr (.inr (.inr (go kE _ a dx _ ⟨op, u, v, rfl, e38, e124⟩ e h rfl))))))
structure TTxt (K : PySem.W.Frag) (c : CA) (fA fN fL fO fD fR fE : Addr) : Prop where
  always : Meth K c.always "truth" fA
  never : Meth K c.never "truth" fN
  letter : Meth K c.letter "truth" fL
  not : Meth K c.not "truth" fO
  and : Meth K c.and "truth" fD
  or : Meth K c.or "truth" fR
  either : Meth K c.either "truth" fE
structure TOk (P : Program) (w : World) (K : PySem.W.Frag) (mg : Str → Option Value) (base : Heap) (c : CA) (n : Nat) (fA fN fL fO fD fR fE : Addr) (dA dN dL dO dD dR dE : FuncData) : Prop where
  always : FnOk P w K mg base CX0 n fA dA ["self", "row"] (spTruth c n kA)
  never : FnOk P w K mg base CX0 n fN dN ["self", "row"] (spTruth c n kN)
  letter : FnOk P w K mg base CX0 n fL dL ["self", "row"] (spTruth c n kL)
  not : FnOk P w K mg base CX0 n fO dO ["self", "row"] (spTruth c n kO)
  and : FnOk P w K mg base CX0 n fD dD ["self", "row"] (spTruth c n kD)
  or : FnOk P w K mg base CX0 n fR dR ["self", "row"] (spTruth c n kR)
  either : FnOk P w K mg base CX0 n fE dE ["self", "row"] (spTruth c n kE)
theorem dfld {σ0 : St} {H0 : Hp} {a C dx : Addr} {fs : List (Str × V)} {f : Str} {v : V} (e : σ0[0]? = some (some (.ref a))) (h : H0 a = some (.ins C dx fs)) (c : Cls K C) (n : NoAttr K C f) (l : fs.lookup f = some v) : Dv (At σ0 H0) (tFld K (tVar 0) f) v := fun σ H Q g q =>
  ⟨.ref a, by rw [g.1]; exact e, a, C, dx, fs, v, rfl, g.2 _ _ h, c, n, l, q H (Same.refl H)⟩
theorem sc_tAlways : FnScope ["self", "row"] ["self", "row"] (defScope s_Always_truth) := ⟨rfl, rfl, rfl, by decide +kernel, rfl, by decide +kernel, by decide +kernel⟩
theorem sc_tNever : FnScope ["self", "row"] ["self", "row"] (defScope s_Never_truth) := ⟨rfl, rfl, rfl, by decide +kernel, rfl, by decide +kernel, by decide +kernel⟩
theorem sc_tLetter : FnScope ["self", "row"] ["self", "row"] (defScope s_Letter_truth) := ⟨rfl, rfl, rfl, by decide +kernel, rfl, by decide +kernel, by decide +kernel⟩
theorem sc_tNot : FnScope ["self", "row"] ["self", "row"] (defScope s_Not_truth) := ⟨rfl, rfl, rfl, by decide +kernel, rfl, by decide +kernel, by decide +kernel⟩
theorem sc_tAnd : FnScope ["self", "row"] ["self", "row"] (defScope s_And_truth) := ⟨rfl, rfl, rfl, by decide +kernel, rfl, by decide +kernel, by decide +kernel⟩
theorem sc_tOr : FnScope ["self", "row"] ["self", "row"] (defScope s_Or_truth) := ⟨rfl, rfl, rfl, by decide +kernel, rfl, by decide +kernel, by decide +kernel⟩
theorem sc_tEither : FnScope ["self", "row"] ["self", "row"] (defScope s_Either_truth) := ⟨rfl, rfl, rfl, by decide +kernel, rfl, by decide +kernel, by decide +kernel⟩
section
variable {c : CA} {iL iN iP fA fN fL fO fD fR fE : Addr} {dA dN dL dO dD dR dE : FuncData} {n : Nat}
theorem t_always (F : Fun K "truth" "Always.truth" s_Always_truth fA dA) : FnOk P w K mg base CX0 (n + 1) fA dA ["self", "row"] (spTruth c (n + 1) kA) := by
  refine F.ok sc_tAlways (fun vs H Q E h => ?_) (fun cdv A outer s H vs Q E hr h => ?_)
  · obtain ⟨o, d, t, kvs, ρ, ls, rfl, _⟩ := h; rfl
  obtain ⟨o, d, t, kvs, ρ, ls, rfl, ob, ht, of, hd, hv, rfl, q⟩ := h
  exact ⟨_, pss_one (ps_ret pe_bl), q H (Same.refl H)⟩
theorem t_never (F : Fun K "truth" "Never.truth" s_Never_truth fN dN) : FnOk P w K mg base CX0 (n + 1) fN dN ["self", "row"] (spTruth c (n + 1) kN) := by
  refine F.ok sc_tNever (fun vs H Q E h => ?_) (fun cdv A outer s H vs Q E hr h => ?_)
  · obtain ⟨o, d, t, kvs, ρ, ls, rfl, _⟩ := h; rfl
  obtain ⟨o, d, t, kvs, ρ, ls, rfl, ob, ht, of, hd, hv, rfl, q⟩ := h
  exact ⟨_, pss_one (ps_ret pe_bl), q H (Same.refl H)⟩
theorem t_letter (C : CTxt K c iL iN iP) (F : Fun K "truth" "Letter.truth" s_Letter_truth fL dL) : FnOk P w K mg base CX0 (n + 1) fL dL ["self", "row"] (spTruth c (n + 1) kL) := by
  refine F.ok sc_tLetter (fun vs H Q E h => ?_) (fun cdv A outer s H vs Q E hr h => ?_)
  · obtain ⟨o, d, t, kvs, ρ, ls, rfl, _⟩ := h; rfl
  obtain ⟨o, d, t, kvs, ρ, ls, rfl, ob, ht, of, hd, hv, ⟨l, rfl⟩, q⟩ := h
  have hu := hu_of hr
  refine ⟨_, pss_one (ps_ret (pe_dget hu (pv 1) (pe_fld (pv 0) rfl) (fun _ _ => rfl))), ?_⟩
  obtain ⟨a, dx, rfl, h⟩ := ob
  have gd := DGet.k (k := Sum.inr (ofCs [l])) hd
  rw [hv l of] at gd
  exact ⟨_, rfl, _, rfl, a, _, dx, _, _, rfl, h, C.letter, C.aLetter, rfl, d, _, rfl, gd, q H (Same.refl H)⟩
theorem t_not (C : CTxt K c iL iN iP) (M : TTxt K c fA fN fL fO fD fR fE) (G : TOk P w K mg base c n fA fN fL fO fD fR fE dA dN dL dO dD dR dE) (bA : Binds K dA ["self", "row"] []) (bN : Binds K dN ["self", "row"] []) (bL : Binds K dL ["self", "row"] []) (bO : Binds K dO ["self", "row"] []) (bD : Binds K dD ["self", "row"] []) (bR : Binds K dR ["self", "row"] []) (bE : Binds K dE ["self", "row"] []) (F : Fun K "truth" "Not.truth" s_Not_truth fO dO) : FnOk P w K mg base CX0 (n + 1) fO dO ["self", "row"] (spTruth c (n + 1) kO) := by
  refine F.ok sc_tNot (fun vs H Q E h => ?_) (fun cdv A outer s H vs Q E hr h => ?_)
  · obtain ⟨o, d, t, kvs, ρ, ls, rfl, _⟩ := h; rfl
  obtain ⟨o, d, t, kvs, ρ, ls, rfl, ob, ht, of, hd, hv, ⟨u, rfl⟩, q⟩ := h
  refine ⟨_, pss_one (ps_ret (pe_not (PE.or (pe_meth (pe_fld (pv 0) rfl) C.always M.always G.always hr bA .nil pass0 (pa_cons (pv 1) pa_nil))
      (PE.or (pe_meth (pe_fld (pv 0) rfl) C.never M.never G.never hr bN .nil pass0 (pa_cons (pv 1) pa_nil))
      (PE.or (pe_meth (pe_fld (pv 0) rfl) C.letter M.letter G.letter hr bL .nil pass0 (pa_cons (pv 1) pa_nil))
      (PE.or (pe_meth (pe_fld (pv 0) rfl) C.not M.not G.not hr bO .nil pass0 (pa_cons (pv 1) pa_nil))
      (PE.or (pe_meth (pe_fld (pv 0) rfl) C.and M.and G.and hr bD .nil pass0 (pa_cons (pv 1) pa_nil))
      (PE.or (pe_meth (pe_fld (pv 0) rfl) C.or M.or G.or hr bR .nil pass0 (pa_cons (pv 1) pa_nil))
      (pe_meth (pe_fld (pv 0) rfl) C.either M.either G.either hr bE .nil pass0 (pa_cons (pv 1) pa_nil)))))))))), ?_⟩
  obtain ⟨a, dx, x, rfl, h, ou⟩ := ob
  exact dret (dnotB (ddisp (n := n) (dfld rfl h C.not C.aNot rfl) rfl ou (Nat.le_of_succ_le_succ ht) of hd hv)) at0 q
theorem t_and (C : CTxt K c iL iN iP) (M : TTxt K c fA fN fL fO fD fR fE) (G : TOk P w K mg base c n fA fN fL fO fD fR fE dA dN dL dO dD dR dE) (bA : Binds K dA ["self", "row"] []) (bN : Binds K dN ["self", "row"] []) (bL : Binds K dL ["self", "row"] []) (bO : Binds K dO ["self", "row"] []) (bD : Binds K dD ["self", "row"] []) (bR : Binds K dR ["self", "row"] []) (bE : Binds K dE ["self", "row"] []) (F : Fun K "truth" "And.truth" s_And_truth fD dD) : FnOk P w K mg base CX0 (n + 1) fD dD ["self", "row"] (spTruth c (n + 1) kD) := by
  refine F.ok sc_tAnd (fun vs H Q E h => ?_) (fun cdv A outer s H vs Q E hr h => ?_)
  · obtain ⟨o, d, t, kvs, ρ, ls, rfl, _⟩ := h; rfl
  obtain ⟨o, d, t, kvs, ρ, ls, rfl, ob, ht, of, hd, hv, ⟨u, v, rfl⟩, q⟩ := h
  refine ⟨_, pss_one (ps_ret (pe_and (PE.or (pe_meth (pe_fld (pv 0) rfl) C.always M.always G.always hr bA .nil pass0 (pa_cons (pv 1) pa_nil))
      (PE.or (pe_meth (pe_fld (pv 0) rfl) C.never M.never G.never hr bN .nil pass0 (pa_cons (pv 1) pa_nil))
      (PE.or (pe_meth (pe_fld (pv 0) rfl) C.letter M.letter G.letter hr bL .nil pass0 (pa_cons (pv 1) pa_nil))
      (PE.or (pe_meth (pe_fld (pv 0) rfl) C.not M.not G.not hr bO .nil pass0 (pa_cons (pv 1) pa_nil))
      (PE.or (pe_meth (pe_fld (pv 0) rfl) C.and M.and G.and hr bD .nil pass0 (pa_cons (pv 1) pa_nil))
      (PE.or (pe_meth (pe_fld (pv 0) rfl) C.or M.or G.or hr bR .nil pass0 (pa_cons (pv 1) pa_nil))
      (pe_meth (pe_fld (pv 0) rfl) C.either M.either G.either hr bE .nil pass0 (pa_cons (pv 1) pa_nil)))))))) (pe_one (PE.or (pe_meth (pe_fld (pv 0) rfl) C.always M.always G.always hr bA .nil pass0 (pa_cons (pv 1) pa_nil))
      (PE.or (pe_meth (pe_fld (pv 0) rfl) C.never M.never G.never hr bN .nil pass0 (pa_cons (pv 1) pa_nil))
      (PE.or (pe_meth (pe_fld (pv 0) rfl) C.letter M.letter G.letter hr bL .nil pass0 (pa_cons (pv 1) pa_nil))
      (PE.or (pe_meth (pe_fld (pv 0) rfl) C.not M.not G.not hr bO .nil pass0 (pa_cons (pv 1) pa_nil))
      (PE.or (pe_meth (pe_fld (pv 0) rfl) C.and M.and G.and hr bD .nil pass0 (pa_cons (pv 1) pa_nil))
      (PE.or (pe_meth (pe_fld (pv 0) rfl) C.or M.or G.or hr bR .nil pass0 (pa_cons (pv 1) pa_nil))
      (pe_meth (pe_fld (pv 0) rfl) C.either M.either G.either hr bE .nil pass0 (pa_cons (pv 1) pa_nil))))))))))), ?_⟩
  obtain ⟨a, dx, x, y, rfl, h, ou, ov⟩ := ob
  have hb : c.bin 38 = c.and := by rw [CA.bin, if_pos rfl]
  rw [hb] at h
  obtain ⟨_, fu, fv⟩ := of
  have hm : max u.ht v.ht ≤ n := Nat.le_of_succ_le_succ ht
  rw [Tr.val, if_pos rfl] at q
  exact dret (dandB st_at (ddisp (n := n) (dfld rfl h C.and C.aAnd.1 rfl) rfl ou (by omega) fu hd hv) (ddisp (n := n) (dfld rfl h C.and C.aAnd.2 rfl) rfl ov (by omega) fv hd hv)) at0 q
theorem t_or (C : CTxt K c iL iN iP) (M : TTxt K c fA fN fL fO fD fR fE) (G : TOk P w K mg base c n fA fN fL fO fD fR fE dA dN dL dO dD dR dE) (bA : Binds K dA ["self", "row"] []) (bN : Binds K dN ["self", "row"] []) (bL : Binds K dL ["self", "row"] []) (bO : Binds K dO ["self", "row"] []) (bD : Binds K dD ["self", "row"] []) (bR : Binds K dR ["self", "row"] []) (bE : Binds K dE ["self", "row"] []) (F : Fun K "truth" "Or.truth" s_Or_truth fR dR) : FnOk P w K mg base CX0 (n + 1) fR dR ["self", "row"] (spTruth c (n + 1) kR) := by
  refine F.ok sc_tOr (fun vs H Q E h => ?_) (fun cdv A outer s H vs Q E hr h => ?_)
  · obtain ⟨o, d, t, kvs, ρ, ls, rfl, _⟩ := h; rfl
  obtain ⟨o, d, t, kvs, ρ, ls, rfl, ob, ht, of, hd, hv, ⟨u, v, rfl⟩, q⟩ := h
  refine ⟨_, pss_one (ps_ret (pe_or (PE.or (pe_meth (pe_fld (pv 0) rfl) C.always M.always G.always hr bA .nil pass0 (pa_cons (pv 1) pa_nil))
      (PE.or (pe_meth (pe_fld (pv 0) rfl) C.never M.never G.never hr bN .nil pass0 (pa_cons (pv 1) pa_nil))
      (PE.or (pe_meth (pe_fld (pv 0) rfl) C.letter M.letter G.letter hr bL .nil pass0 (pa_cons (pv 1) pa_nil))
      (PE.or (pe_meth (pe_fld (pv 0) rfl) C.not M.not G.not hr bO .nil pass0 (pa_cons (pv 1) pa_nil))
      (PE.or (pe_meth (pe_fld (pv 0) rfl) C.and M.and G.and hr bD .nil pass0 (pa_cons (pv 1) pa_nil))
      (PE.or (pe_meth (pe_fld (pv 0) rfl) C.or M.or G.or hr bR .nil pass0 (pa_cons (pv 1) pa_nil))
      (pe_meth (pe_fld (pv 0) rfl) C.either M.either G.either hr bE .nil pass0 (pa_cons (pv 1) pa_nil)))))))) (pe_one (PE.or (pe_meth (pe_fld (pv 0) rfl) C.always M.always G.always hr bA .nil pass0 (pa_cons (pv 1) pa_nil))
      (PE.or (pe_meth (pe_fld (pv 0) rfl) C.never M.never G.never hr bN .nil pass0 (pa_cons (pv 1) pa_nil))
      (PE.or (pe_meth (pe_fld (pv 0) rfl) C.letter M.letter G.letter hr bL .nil pass0 (pa_cons (pv 1) pa_nil))
      (PE.or (pe_meth (pe_fld (pv 0) rfl) C.not M.not G.not hr bO .nil pass0 (pa_cons (pv 1) pa_nil))
      (PE.or (pe_meth (pe_fld (pv 0) rfl) C.and M.and G.and hr bD .nil pass0 (pa_cons (pv 1) pa_nil))
      (PE.or (pe_meth (pe_fld (pv 0) rfl) C.or M.or G.or hr bR .nil pass0 (pa_cons (pv 1) pa_nil))
      (pe_meth (pe_fld (pv 0) rfl) C.either M.either G.either hr bE .nil pass0 (pa_cons (pv 1) pa_nil))))))))))), ?_⟩
  obtain ⟨a, dx, x, y, rfl, h, ou, ov⟩ := ob
  have hb : c.bin 124 = c.or := by rw [CA.bin, if_neg (by decide), if_pos rfl]
  rw [hb] at h
  obtain ⟨_, fu, fv⟩ := of
  have hm : max u.ht v.ht ≤ n := Nat.le_of_succ_le_succ ht
  rw [Tr.val, if_neg (by decide), if_pos rfl] at q
  exact dret (dorB st_at (ddisp (n := n) (dfld rfl h C.or C.aOr.1 rfl) rfl ou (by omega) fu hd hv) (ddisp (n := n) (dfld rfl h C.or C.aOr.2 rfl) rfl ov (by omega) fv hd hv)) at0 q
theorem t_either (C : CTxt K c iL iN iP) (M : TTxt K c fA fN fL fO fD fR fE) (G : TOk P w K mg base c n fA fN fL fO fD fR fE dA dN dL dO dD dR dE) (bA : Binds K dA ["self", "row"] []) (bN : Binds K dN ["self", "row"] []) (bL : Binds K dL ["self", "row"] []) (bO : Binds K dO ["self", "row"] []) (bD : Binds K dD ["self", "row"] []) (bR : Binds K dR ["self", "row"] []) (bE : Binds K dE ["self", "row"] []) (F : Fun K "truth" "Either.truth" s_Either_truth fE dE) : FnOk P w K mg base CX0 (n + 1) fE dE ["self", "row"] (spTruth c (n + 1) kE) := by
  refine F.ok sc_tEither (fun vs H Q E h => ?_) (fun cdv A outer s H vs Q E hr h => ?_)
  · obtain ⟨o, d, t, kvs, ρ, ls, rfl, _⟩ := h; rfl
  obtain ⟨o, d, t, kvs, ρ, ls, rfl, ob, ht, of, hd, hv, ⟨op, u, v, rfl, n38, n124⟩, q⟩ := h
  refine ⟨_, pss_one (ps_ret (pe_cmpR op_ne (PE.or (pe_meth (pe_fld (pv 0) rfl) C.always M.always G.always hr bA .nil pass0 (pa_cons (pv 1) pa_nil))
      (PE.or (pe_meth (pe_fld (pv 0) rfl) C.never M.never G.never hr bN .nil pass0 (pa_cons (pv 1) pa_nil))
      (PE.or (pe_meth (pe_fld (pv 0) rfl) C.letter M.letter G.letter hr bL .nil pass0 (pa_cons (pv 1) pa_nil))
      (PE.or (pe_meth (pe_fld (pv 0) rfl) C.not M.not G.not hr bO .nil pass0 (pa_cons (pv 1) pa_nil))
      (PE.or (pe_meth (pe_fld (pv 0) rfl) C.and M.and G.and hr bD .nil pass0 (pa_cons (pv 1) pa_nil))
      (PE.or (pe_meth (pe_fld (pv 0) rfl) C.or M.or G.or hr bR .nil pass0 (pa_cons (pv 1) pa_nil))
      (pe_meth (pe_fld (pv 0) rfl) C.either M.either G.either hr bE .nil pass0 (pa_cons (pv 1) pa_nil)))))))) (PE.or (pe_meth (pe_fld (pv 0) rfl) C.always M.always G.always hr bA .nil pass0 (pa_cons (pv 1) pa_nil))
      (PE.or (pe_meth (pe_fld (pv 0) rfl) C.never M.never G.never hr bN .nil pass0 (pa_cons (pv 1) pa_nil))
      (PE.or (pe_meth (pe_fld (pv 0) rfl) C.letter M.letter G.letter hr bL .nil pass0 (pa_cons (pv 1) pa_nil))
      (PE.or (pe_meth (pe_fld (pv 0) rfl) C.not M.not G.not hr bO .nil pass0 (pa_cons (pv 1) pa_nil))
      (PE.or (pe_meth (pe_fld (pv 0) rfl) C.and M.and G.and hr bD .nil pass0 (pa_cons (pv 1) pa_nil))
      (PE.or (pe_meth (pe_fld (pv 0) rfl) C.or M.or G.or hr bR .nil pass0 (pa_cons (pv 1) pa_nil))
      (pe_meth (pe_fld (pv 0) rfl) C.either M.either G.either hr bE .nil pass0 (pa_cons (pv 1) pa_nil)))))))) (nomark _))), ?_⟩
  obtain ⟨a, dx, x, y, rfl, h, ou, ov⟩ := ob
  have hb : c.bin op = c.either := by rw [CA.bin, if_neg n38, if_neg n124]
  rw [hb] at h
  obtain ⟨_, fu, fv⟩ := of
  have hm : max u.ht v.ht ≤ n := Nat.le_of_succ_le_succ ht
  rw [Tr.val, if_neg n38, if_neg n124] at q
  exact dret (dbne st_at (ddisp (n := n) (dfld rfl h C.either C.aEither.1 rfl) rfl ou (by omega) fu hd hv) (ddisp (n := n) (dfld rfl h C.either C.aEither.2 rfl) rfl ov (by omega) fv hd hv)) at0 q
end
def Tr.Has (c : Nat) : Tr → Prop
  | .letter l => c = l
  | .neg t => t.Has c
  | .bin _ t u => t.Has c ∨ u.Has c
  | _ => False
theorem Tr.Of.has {ls : List Nat} {c : Nat} : ∀ {t : Tr}, t.Of ls → t.Has c → c ∈ ls
  | .letter l, h, e => by rw [show c = l from e]; exact h
  | .neg t, h, e => Tr.Of.has (t := t) h e
  | .bin _ t u, h, e => e.elim (Tr.Of.has (t := t) h.2.1) (Tr.Of.has (t := u) h.2.2)
  | .one, _, e => e.elim
  | .zero, _, e => e.elim
def spUsed (n : Nat) : Sp := fun vs H Q _ => ∃ (v : V) (t : Tr) (ls : List Nat), vs = [v] ∧ TrAt H t v ∧ t.ht ≤ n ∧ t.Of ls ∧ ls.length ≤ 9 ∧ ∀ r (us : List Nat) H', Same H H' → us.Pairwise (· < ·) → (∀ c, c ∈ us ↔ t.Has c) → H' r = some (.lst (us.map fun c => vS [c])) → Q (.ref r) H'
theorem sc_used : FnScope ["_law_tree", "_law_found", "_law_part"] ["_law_tree"] (defScope s_law_used) := ⟨rfl, rfl, rfl, by decide +kernel, rfl, by decide +kernel, by decide +kernel⟩
theorem used_step {n : Nat} {f : Addr} {fd : FuncData} (F : Fun K "_law_used" "_law_used" s_law_used f fd) (T : Txt mg) (bG : Binds K fd ["_law_tree"] []) (mG : mg "_law_used" = some (.ref f))
    (GG : FnOk P w K mg base CX0 n f fd ["_law_tree"] (spUsed n)) : FnOk P w K mg base CX0 (n + 1) f fd ["_law_tree"] (spUsed (n + 1)) := by
  refine F.ok sc_used (fun vs H Q E h => ?_) (fun cdv A outer s H vs Q E hr h => ?_)
  · obtain ⟨v, t, ls, rfl, _⟩ := h
    rfl
  obtain ⟨v, t, ls, rfl, tr, ht, of, l9, q⟩ := h
  have kG := F.kp
  refine ⟨_, (pss_cons (ps_if (pt_cmpR op_eq (pe_ix ix_tup (pv 0) pe_int (fun _ _ => rfl)) pe_str (nomark _)) (pss_one (ps_ret (pe_lst (pa_cons (pe_ix ix_tup (pv 0) pe_int (fun _ _ => rfl)) pa_nil)))) pss_nil)
    (pss_cons (ps_set (i := 1) sc_used.nd rfl (Or.inl rfl) (pe_lst pa_nil))
    (pss_cons (ps_for PassesOwn.never rfl (pi_tup (pe_slice sl_tup (pv 0) (po_some pe_int) po_none)) (pg_name (i := 2) sc_used.nd rfl (Or.inl rfl))
   (pss_one (ps_set (i := 1) sc_used.nd rfl (Or.inl rfl) (pe_op op_cat (pv 1) (pe_call GG hr (by rfl) mG kG bG .nil pass0 (pa_cons (pv 2) pa_nil))))))
    (pss_one (ps_ret (pe_callB (call_sorted_S rfl) (by rfl) T.sorted bt_sorted (pa_cons (pe_callTy (call_set rfl) (by rfl) T.set bt_set (pa_cons (pv 1) pa_nil)) pa_nil))))))), ?_⟩
  rw [letter_txt]
  have cases_ : (∃ l, t = .letter l) ∨ ∃ (a : Addr) (p : List Nat) (kids : List (V × Tr)), v = .ref a ∧ H a = some (.tup (vS p :: kids.map (·.1))) ∧ ¬ p = wLetter ∧ kids.length ≤ 2 ∧ (∀ k ∈ kids, TrAt H k.2 k.1 ∧ k.2.ht ≤ n ∧ k.2.Of ls) ∧ (∀ c, t.Has c ↔ ∃ k ∈ kids, k.2.Has c) := by
    cases t with
    | letter l => exact .inl ⟨l, rfl⟩
    | one => obtain ⟨a, e, h⟩ := tr; exact .inr ⟨a, [49], [], e, h, by decide, by decide, by simp, fun c => ⟨fun x => x.elim, fun ⟨k, hk, _⟩ => by cases hk⟩⟩
    | zero => obtain ⟨a, e, h⟩ := tr; exact .inr ⟨a, [48], [], e, h, by decide, by decide, by simp, fun c => ⟨fun x => x.elim, fun ⟨k, hk, _⟩ => by cases hk⟩⟩
    | neg u => obtain ⟨a, x, e, h, r⟩ := tr; exact .inr ⟨a, [126], [(x, u)], e, h, by decide, by show 1 ≤ 2; decide, fun k hk => by rw [List.mem_singleton.mp hk]; exact ⟨r, Nat.le_of_succ_le_succ ht, of⟩, fun c => ⟨fun x => ⟨_, List.mem_singleton.mpr rfl, x⟩, fun ⟨k, hk, hx⟩ => by rw [List.mem_singleton.mp hk] at hx; exact hx⟩⟩
    | bin op u w =>
      obtain ⟨a, x, y, e, h, r, r'⟩ := tr
      have hm : max u.ht w.ht ≤ n := Nat.le_of_succ_le_succ ht
      refine .inr ⟨a, [op], [(x, u), (y, w)], e, h, by simp [wLetter], by show 2 ≤ 2; exact Nat.le_refl _, fun k hk => ?_, fun c => ⟨fun hx => ?_, fun ⟨k, hk, hx⟩ => ?_⟩⟩
      · have hk : k = (x, u) ∨ k = (y, w) := by simpa using hk
        rcases hk with e | e
        · rw [e]; exact ⟨r, by show u.ht ≤ n; omega, of.2.1⟩
        · rw [e]; exact ⟨r', by show w.ht ≤ n; omega, of.2.2⟩
      · rcases hx with hx | hx
        · exact ⟨(x, u), by simp, hx⟩
        · exact ⟨(y, w), by simp, hx⟩
      · have hk : k = (x, u) ∨ k = (y, w) := by simpa using hk
        rcases hk with e | e
        · rw [e] at hx; exact .inl hx
        · rw [e] at hx; exact .inr hx
  rcases cases_ with ⟨l, rfl⟩ | ⟨a, p, kids, rfl, ha, np, k2, hk, hh⟩
  · obtain ⟨a, rfl, h⟩ := tr
    have hT : SqT K H a _ := SqT.of h
    refine difT (dtest (dEqV st_at (dixT rfl hT rfl) dC)) at0 (fun _ H1 g1 => ?_) (fun hb => absurd hb (by simp))
    refine ⟨_, rfl, a, _, _, _, rfl, rfl, g1.seqT hT, rfl, smallE (by show 1 ≤ _; decide), fun r hr' => ?_⟩
    exact q r [l] _ (g1.to hr') (by simp) (fun c => ⟨fun h => List.mem_singleton.mp h, fun h => List.mem_singleton.mpr h⟩) upd_same
  have hT : SqT K H a _ := SqT.of ha
  have nb : decide (p = wLetter) = false := decide_eq_false np
  have at_ : atI (vS p :: kids.map (·.1)) 0 = some (vS p) := atI_nat (j := 0) rfl
  refine difT (dtest (dEqV st_at (dixT rfl hT at_) dC)) at0 (fun hb => absurd (nb.symm.trans hb) (by decide)) (fun _ H1 g1 => ?_)
  refine ⟨Nat.zero_le _, fun f0 hf0 => ?_⟩
  have g2 := g1.to hf0 (o := .lst [])
  have cut : cutV (vS p :: kids.map (·.1)) (some 1) none = kids.map (·.1) := by
    match kids, k2 with
    | [], _ => rfl
    | [_], _ => rfl
    | [_, _], _ => rfl
    | _ :: _ :: _ :: _, h => simp at h
  have ncut : ¬ (HT.sIx (vS p :: kids.map (·.1)).length 0 (some 1) = 0 ∧ HT.sIx (vS p :: kids.map (·.1)).length (vS p :: kids.map (·.1)).length none = (vS p :: kids.map (·.1)).length) := by
    match kids, k2 with
    | [], _ => exact fun h => absurd h.1 (by show ¬ HT.sIx 1 0 (some 1) = 0; decide)
    | [_], _ => exact fun h => absurd h.1 (by show ¬ HT.sIx 2 0 (some 1) = 0; decide)
    | [_, _], _ => exact fun h => absurd h.1 (by show ¬ HT.sIx 3 0 (some 1) = 0; decide)
    | _ :: _ :: _ :: _, h => simp at h
  refine ⟨_, rfl, 1, rfl, a, _, rfl, g2.seqT hT, ncut, fun sl hsl => ?_⟩
  rw [cut]
  refine ⟨sl, rfl, ⟨_, SqT.of upd_same⟩, ?_⟩
  have g3 := g2.to hsl (o := .tup (kids.map (·.1)))
  have nf : f0 ≠ sl := ne_of_none upd_same hsl
  refine for_tup (K := K) (xs := kids.map (·.1)) (fun i σ H' => ∃ (fr : Addr) (cs : List Nat) (v2 : Option V), σ = [some (.ref a), some (.ref fr), v2] ∧ Same H H' ∧ H' sl = some (.tup (kids.map (·.1))) ∧ H' fr = some (.lst (cs.map fun c => vS [c])) ∧ cs.length ≤ 9 * i ∧ ∀ c, c ∈ cs ↔ ∃ k ∈ kids.take i, k.2.Has c)
    ⟨f0, [], none, rfl, g3, upd_same, by rw [upd_ne nf, upd_same]; rfl, Nat.zero_le _, fun c => ⟨fun h => (by cases h), fun ⟨k, hk, _⟩ => (by cases hk)⟩⟩ (fun i σ H' hi ⟨_, _, _, _, _, h, _⟩ => SqT.of h) ?_ ?_
  · rintro i x σ H' hx ⟨fr, cs, v2, rfl, g4, e4s, e4f, lc, hc⟩
    obtain ⟨kk, hkk, rfl⟩ := getElem?_map_some hx
    obtain ⟨kx, kt⟩ := kk
    have hi2 : i < kids.length := lt_of_some hkk
    obtain ⟨h1, h2, h3⟩ := hk (kx, kt) (List.mem_of_getElem? hkk)
    refine ⟨_, rfl, _, rfl, kx, kt, ls, rfl, h1.mono (sameT g4), h2, h3, l9, fun r us H5 g5 ri hu er => ?_⟩
    have lu : us.length ≤ 9 := Nat.le_trans (nodup_len (rise_nodup Nat.lt_irrefl ri) fun c hc' => Tr.Of.has h3 ((hu c).mp hc')) l9
    refine ⟨fr, r, _, _, rfl, rfl, g5 _ _ e4f, er, by rw [List.length_map, List.length_map]; exact smallE (by omega), fun r3 hr3 => ?_⟩
    refine ⟨r3, cs ++ us, _, rfl, (g4.trans g5).to hr3, (Same.up hr3) _ _ (g5 _ _ e4s), by rw [upd_same, List.map_append], by rw [List.length_append]; omega, fun c => ?_⟩
    rw [List.mem_append, hc, hu, take_snoc hkk]
    constructor
    · rintro (⟨k, hk', hx'⟩ | hx')
      · exact ⟨k, List.mem_append_left _ hk', hx'⟩
      · exact ⟨(kx, kt), List.mem_append_right _ (List.mem_singleton.mpr rfl), hx'⟩
    · rintro ⟨k, hk', hx'⟩
      rcases List.mem_append.mp hk' with hk' | hk'
      · exact .inl ⟨k, hk', hx'⟩
      · rw [List.mem_singleton.mp hk'] at hx'; exact .inr hx'
  · rintro σ H' ⟨fr, cs, v2, rfl, g4, e4s, e4f, lc, hc⟩
    rw [List.length_map, List.take_length] at hc
    rw [List.length_map] at lc
    have hfl : ([cs] : List Pr).flatten = cs := by simp
    refine ⟨_, rfl, cs.map fun c => ofCs [c], .inl ⟨fr, rfl, .inl (SqL.of (by rw [e4f, List.map_map]; rfl))⟩, by rw [List.length_map]; show _ < 4096; omega, fun l1 ys hl1 nd hm => ?_⟩
    have nd2 := dedup_nodup (([cs] : List Pr).flatten.map fun c => [c])
    have hm2 : ∀ x, x ∈ ys ↔ L2.cs x ∈ dedup (([cs] : List Pr).flatten.map fun c => [c]) := fun x => by
      rw [hm x, mem_dedup, hfl, List.mem_map, List.mem_map]
      constructor
      · rintro ⟨c, hc, rfl⟩; exact ⟨c, hc, rfl⟩
      · rintro ⟨c, hc, e⟩; exact ⟨c, hc, cs_inj e⟩
    have mem : ∀ c, c ∈ lettersOf [cs] ↔ t.Has c := fun c => by
      rw [mem_letters, hh c, ← hc c]
      exact ⟨fun ⟨p, hp, h⟩ => by rw [List.mem_singleton.mp hp] at h; exact h, fun h => ⟨cs, List.mem_singleton.mpr rfl, h⟩⟩
    have ri := letters_rise [cs]
    have lu : (lettersOf [cs]).length ≤ 9 := Nat.le_trans (nodup_len (rise_nodup Nat.lt_irrefl ri) fun c hc' => Tr.Of.has of ((mem c).mp hc')) l9
    have hlen : ys.length = (lettersOf [cs]).length := by
      rw [perm_len nd nd2 hm2, ← (srt_perm _).length_eq, letters_ones, List.length_map]
    refine ⟨l1, ys, rfl, upd_same, by omega, fun l2 hl2 => ?_⟩
    rw [srtS_eq nd nd2 hm2, letters_ones, List.map_map]
    exact q l2 (lettersOf [cs]) _ ((g4.to hl1).to hl2) ri mem upd_same
theorem ok_used {f : Addr} {fd : FuncData} (F : Fun K "_law_used" "_law_used" s_law_used f fd) (T : Txt mg) (bG : Binds K fd ["_law_tree"] []) (mG : mg "_law_used" = some (.ref f)) : ∀ n, FnOk P w K mg base CX0 n f fd ["_law_tree"] (spUsed n)
  | 0 => ⟨fun vs H Q E h => by obtain ⟨_, t, _, _, _, h, _⟩ := h; have := t.ht_pos; omega, fun A outer s H args us vs Q E _ _ _ _ h => by obtain ⟨_, t, _, _, _, h, _⟩ := h; have := t.ht_pos; omega⟩
  | n + 1 => used_step F T bG mG (ok_used F T bG mG n)
def rowsN : Nat → List (List Bool)
  | 0 => [[]]
  | n + 1 => (rowsN n).flatMap fun r => [r ++ [false], r ++ [true]]
theorem rowsN_len : ∀ {n : Nat} {r : List Bool}, r ∈ rowsN n → r.length = n
  | 0, r, h => by simp [rowsN] at h; rw [h]; rfl
  | n + 1, r, h => by
    rw [rowsN, List.mem_flatMap] at h
    obtain ⟨q, hq, h⟩ := h
    have := rowsN_len hq
    simp at h
    rcases h with e | e <;> rw [e, List.length_append, this] <;> rfl
theorem rowsN_size : ∀ n : Nat, (rowsN n).length = 2 ^ n
  | 0 => rfl
  | n + 1 => by
    have gen : ∀ l : List (List Bool), (l.flatMap fun r => [r ++ [false], r ++ [true]]).length = l.length * 2 := by
      intro l
      induction l with
      | nil => rfl
      | cons a l ih => rw [List.flatMap_cons, List.length_append, ih, List.length_cons]; simp; omega
    rw [rowsN, gen, rowsN_size n, Nat.pow_succ]
def rowK (ls : List Nat) (r : List Bool) : List (Key × V) := (ls.zip r).map fun x => (Sum.inr (ofCs [x.1]), V.bl x.2)
def asg (ls : List Nat) (r : List Bool) (c : Nat) : Bool := (((ls.zip r).find? fun x => decide (x.1 = c)).map (·.2)).getD false
theorem rowK_val {ls : List Nat} {r : List Bool} (hl : ls.length = r.length) {c : Nat} : valV (rowK ls r) (.inr (ofCs [c])) = if c ∈ ls then some (.bl (asg ls r c)) else none := by
  have key : ∀ (l : List (Nat × Bool)), valV (l.map fun x => ((Sum.inr (ofCs [x.1]) : Key), V.bl x.2)) (.inr (ofCs [c])) = ((l.find? fun x => decide (x.1 = c)).map fun x => V.bl x.2) := by
    intro l
    induction l with
    | nil => rfl
    | cons x l ih =>
      unfold valV at ih ⊢
      rw [List.map_cons, List.find?_cons, List.find?_cons]
      have e : decide (((Sum.inr (ofCs [x.1]) : Key)) = .inr (ofCs [c])) = decide (x.1 = c) := by
        by_cases h : x.1 = c
        · rw [h]; simp
        · rw [decide_eq_false h, decide_eq_false]
          intro e
          have := ofCs_inj (Sum.inr.inj e)
          exact h (by simpa using this)
      dsimp only
      rw [e]
      cases decide (x.1 = c) with
      | true => rfl
      | false => exact ih
  unfold rowK
  rw [key]
  have mem : ∀ (ls : List Nat) (r : List Bool), ls.length = r.length → (((ls.zip r).find? fun x => decide (x.1 = c)).map fun x => V.bl x.2) = if c ∈ ls then some (.bl (asg ls r c)) else none := by
    intro ls
    induction ls with
    | nil => intro r h; simp
    | cons a ls ih =>
      intro r h
      cases r with
      | nil => simp at h
      | cons b r =>
        unfold asg
        rw [List.zip_cons_cons, List.find?_cons]
        by_cases e : a = c
        · subst e; simp
        · have := ih r (by simpa using h)
          rw [show decide ((a, b).1 = c) = false from decide_eq_false e]
          dsimp only
          rw [this]
          unfold asg
          simp [Ne.symm e]
  exact mem ls r hl
theorem not_in_take {ls : List Nat} (hl : ls.Nodup) {i : Nat} (hi : i < ls.length) : ls[i] ∉ ls.take i := fun h => by
  obtain ⟨j, hj, e⟩ := List.getElem_of_mem h
  rw [List.length_take] at hj
  rw [List.getElem_take] at e
  exact absurd ((List.getElem_inj hl).mp e) (by omega)
def RowsAt (H : Hp) (ls : List Nat) (ds : List Addr) (rs : List (List Bool)) : Prop := Paired (fun d r => H d = some (.dK (rowK ls r))) ds rs
theorem RowsAt.mono {H H' : Hp} {ls : List Nat} {ds : List Addr} {rs : List (List Bool)} (h : RowsAt H ls ds rs) (g : Same H H') : RowsAt H' ls ds rs := L2.Paired.mapP h fun d r e => g _ _ e
theorem RowsAt.upd {H : Hp} {ls : List Nat} {ds : List Addr} {rs : List (List Bool)} (h : RowsAt H ls ds rs) {m : Addr} {xs : List V} (hm : H m = some (.lst xs)) {o : HO} : RowsAt (upd H m o) ls ds rs := L2.Paired.mapP h fun d r e => by
  have ne : d ≠ m := fun q => by rw [q, hm] at e; cases e
  rw [upd_ne ne]; exact e
def ext2 (r : List Bool) : List (List Bool) := [r ++ [false], r ++ [true]]
theorem ext2_len (l : List (List Bool)) : (l.flatMap ext2).length = l.length * 2 := by
  induction l with
  | nil => rfl
  | cons a l ih => rw [List.flatMap_cons, List.length_append, ih, List.length_cons]; show 2 + _ = _; omega
theorem paired_getL {α β : Type} {F : α → β → Prop} : ∀ {xs : List α} {l : List β}, Paired F xs l → ∀ (k : Nat) (a : α), xs[k]? = some a → ∃ b, l[k]? = some b ∧ F a b
  | _, _, .nil, k, a, h => by simp at h
  | _, _, .cons r t, 0, a, h => by simp at h; subst h; exact ⟨_, rfl, r⟩
  | _, _, .cons r t, k + 1, a, h => paired_getL t k a (by simpa using h)
theorem ne_of_none' {H : Hp} {p q : Addr} {o : HO} (h : H p = none) (e : H q = some o) : p ≠ q := fun x => by rw [x, e] at h; cases h
theorem valV_no {kvs : List (Key × V)} {k : Key} (h : k ∉ kvs.map (·.1)) : valV kvs k = none := by
  unfold valV
  rw [List.find?_eq_none.mpr fun p hp => by
    intro e
    exact h (List.mem_map.mpr ⟨p, hp, of_decide_eq_true e⟩)]
  rfl
theorem merge_all : ∀ (l acc : List (Key × V)), ((acc ++ l).map (·.1)).Nodup → mergeK acc l = acc ++ l
  | [], acc, _ => by rw [List.append_nil]; rfl
  | x :: l, acc, h => by
    have e : acc ++ x :: l = (acc ++ [x]) ++ l := by simp
    have hx : x.1 ∉ acc.map (·.1) := fun hm => by
      rw [List.map_append, List.map_cons, List.nodup_append] at h
      exact h.2.2 _ hm _ (List.mem_cons_self ..) rfl
    show mergeK (putK acc x.1 x.2) l = _
    rw [putK_new _ (valV_no hx), e]
    exact merge_all l (acc ++ [x]) (by rw [← e]; exact h)
theorem rowK_keys {ls : List Nat} {r : List Bool} (h : ls.length = r.length) : (rowK ls r).map (·.1) = ls.map fun c => (Sum.inr (ofCs [c]) : Key) := by
  unfold rowK
  rw [List.map_map]
  have : (ls.zip r).map (·.1) = ls := by rw [← List.unzip_fst, List.unzip_zip h]
  conv => rhs; rw [← this]
  rw [List.map_map]
  rfl
theorem merge_row {ls : List Nat} {r : List Bool} (nd : ls.Nodup) (h : ls.length = r.length) : mergeK [] (rowK ls r) = rowK ls r := by
  rw [merge_all _ [] (by
    rw [List.nil_append, rowK_keys h]
    exact List.pairwise_map.mpr (nd.imp fun {a b} hab e => hab (by have := ofCs_inj (Sum.inr.inj e); simpa using this)))]
  rfl
def rowS (ls : List Nat) (r : List Bool) : List (Str × V) := (ls.zip r).map fun x => (ofCs [x.1], V.bl x.2)
theorem kv_rowS (ls : List Nat) (r : List Bool) : kvK (rowS ls r) = rowK ls r := by unfold kvK rowS rowK; rw [List.map_map]; rfl
theorem rowS_snoc {ls : List Nat} {r : List Bool} {c : Nat} {b : Bool} (h : ls.length = r.length) : rowS (ls ++ [c]) (r ++ [b]) = rowS ls r ++ [(ofCs [c], V.bl b)] := by
  unfold rowS
  rw [List.zip_append h, List.map_append]
  rfl
theorem paired_map2 {α β γ δ : Type} {F : α → β → Prop} {G : α → δ → Prop} {f : γ → β} {g : γ → δ} (h : ∀ a c, F a (f c) → G a (g c)) : ∀ {l : List α} {m : List γ}, Paired F l (m.map f) → Paired G l (m.map g)
  | [], [], _ => .nil
  | [], _ :: _, p => by cases p
  | _ :: _, [], p => by cases p
  | a :: l, c :: m, p => by
    cases p with
    | cons r t => exact .cons (h _ _ r) (paired_map2 h t)
def spRows2 (K : PySem.W.Frag) : Sp := fun vs H Q _ => ∃ (a : Addr) (ls : List Nat), vs = [.ref a] ∧ SqL K H a (ls.map fun c => vS [c]) ∧ ls.Nodup ∧ ls.length ≤ 9 ∧ ∀ r ds H', Same H H' → H' r = some (.lst (ds.map V.ref)) → RowsAt H' ls ds (rowsN ls.length) → Q (.ref r) H'
theorem sc_rows : FnScope ["_law_letters", "_law_rows_here", "_law_one", "_law_more", "_law_row", "_law_bit"] ["_law_letters"] (defScope s_law_rows) := ⟨rfl, rfl, rfl, by decide +kernel, rfl, by decide +kernel, by decide +kernel⟩
theorem ok_rows {k : Nat} {f : Addr} {fd : FuncData} (F : Fun K "_law_rows" "_law_rows" s_law_rows f fd) (T : Txt mg) : FnOk P w K mg base CX0 (k + 1) f fd ["_law_letters"] (spRows2 K) := by
  refine F.ok sc_rows (fun vs H Q E h => ?_) (fun cdv A outer s H vs Q E hr h => ?_)
  · obtain ⟨a, ls, rfl, _⟩ := h
    rfl
  obtain ⟨a, ls, rfl, ha, nd, l9, q⟩ := h
  refine ⟨_, pss_cons (ps_set (i := 1) sc_rows.nd rfl (Or.inl rfl) (pe_lst (pa_cons pe_dnewK pa_nil)))
    (pss_cons (ps_for PassesOwn.never rfl (pi_list (pv 0)) (pg_name (i := 2) sc_rows.nd rfl (Or.inl rfl))
      (pss_cons (ps_set (i := 3) sc_rows.nd rfl (Or.inl rfl) (pe_lst pa_nil))
      (pss_cons (ps_for PassesOwn.never rfl (pi_list (pv 1)) (pg_name (i := 4) sc_rows.nd rfl (Or.inl rfl))
        (pss_one (ps_for PassesOwn.never rfl (pi_tup (pe_tup (pa_cons pe_bl (pa_cons pe_bl pa_nil)))) (pg_name (i := 5) sc_rows.nd rfl (Or.inl rfl))
          (pss_one (ps_expr (pe_bm PySem.F.plainAttrs_list PySem.F.slot_list_append PySem.F.type_list_append mt_append (pv 3) (pa_cons (pe_callTy (call_dict_P rfl) (by rfl) T.dict bt_dict (pa_cons (pe_op op_cat (pe_listitems (by rfl) (by rfl) T.list (pv 4)) (pe_lst (pa_cons (pe_tup (pa_cons (pv 2) (pa_cons (pv 5) pa_nil))) pa_nil))) pa_nil)) pa_nil)))))))
      (pss_one (ps_set (i := 1) sc_rows.nd rfl (Or.inl rfl) (pv 3))))))
    (pss_one (ps_ret (pv 1)))), ?_⟩
  have la : (ls.map fun c => vS [c]).length = ls.length := List.length_map _
  refine fun p0 hp0 => ⟨smallE (by show 1 ≤ _; decide), fun r0 hr0 => ?_⟩
  have n0 : r0 ≠ p0 := ne_of_none' hr0 upd_same
  refine ⟨_, rfl, a, rfl, ⟨_, ((Same.up hp0).to hr0).seq ha⟩, ?_⟩
  refine for_list (K := K) (xs := ls.map fun c => vS [c]) (fun i σ H1 => ∃ (r : Addr) (ds : List Addr) (v2 v3 v4 v5 : Option V), σ = [some (.ref a), some (.ref r), v2, v3, v4, v5] ∧ Same H H1 ∧ H1 r = some (.lst (ds.map V.ref)) ∧ RowsAt H1 (ls.take i) ds (rowsN i)) ⟨r0, [p0], none, none, none, none, rfl, (Same.up hp0).to hr0, upd_same, .cons (by rw [upd_ne (Ne.symm n0), upd_same]; rfl) .nil⟩ (fun i σ H1 hi ⟨_, _, _, _, _, _, _, g, _⟩ => g.seq ha) ?_ ?_
  · rintro i x σ H1 hx ⟨r, ds, v2, v3, v4, v5, rfl, g1, e1, ra⟩
    obtain ⟨cc, hcc, rfl⟩ := getElem?_map_some hx
    have hi : i < ls.length := lt_of_some hcc
    have ecc : cc = ls[i] := by rw [List.getElem?_eq_getElem hi] at hcc; exact (Option.some.inj hcc).symm
    subst ecc
    have dl : ds.length = 2 ^ i := (PySem.Paired.length ra).trans (rowsN_size i)
    have d9 : 2 ^ i ≤ 512 := Nat.le_trans (Nat.pow_le_pow_right (by decide) (by omega : i ≤ 9)) (by decide)
    refine ⟨Nat.zero_le _, fun m hm => ?_⟩
    have nmr : r ≠ m := ne_of_none e1 hm
    refine ⟨_, rfl, r, rfl, ⟨_, SqL.of (by rw [upd_ne nmr]; exact e1)⟩, ?_⟩
    refine for_list (K := K) (xs := ds.map V.ref) (fun j σ H2 => ∃ (ds2 : List Addr) (v4 v5 : Option V), σ = [some (.ref a), some (.ref r), some (vS [ls[i]]), some (.ref m), v4, v5] ∧ Same H1 H2 ∧ H2 m = some (.lst (ds2.map V.ref)) ∧ RowsAt H2 (ls.take (i + 1)) ds2 (((rowsN i).take j).flatMap ext2)) ⟨[], v4, v5, rfl, Same.up hm, upd_same, .nil⟩ (fun j σ H2 hj ⟨_, _, _, _, g2, _⟩ => g2.seq (SqL.of e1)) ?_ ?_
    · rintro j x σ H2 hj ⟨ds2, v4, v5, rfl, g2, e2, rb⟩
      obtain ⟨d, hd, rfl⟩ := getElem?_map_some hj
      obtain ⟨rw_, hrw, hdr⟩ := paired_getL ra j d hd
      refine ⟨smallE (by show 2 ≤ _; decide), fun t ht => ?_⟩
      refine ⟨t, rfl, ⟨_, SqT.of upd_same⟩, ?_⟩
      refine for_tup (K := K) (xs := [V.bl false, V.bl true]) (fun k σ H3 => ∃ (ds3 : List Addr) (v5 : Option V), σ = [some (.ref a), some (.ref r), some (vS [ls[i]]), some (.ref m), some (.ref d), v5] ∧ Same H1 H3 ∧ H3 t = some (.tup [V.bl false, V.bl true]) ∧ H3 m = some (.lst (ds3.map V.ref)) ∧ RowsAt H3 (ls.take (i + 1)) ds3 (((rowsN i).take j).flatMap ext2 ++ (ext2 rw_).take k)) ⟨ds2, v5, rfl, g2.to ht, upd_same, by rw [upd_ne (ne_of_none e2 ht)]; exact e2, by rw [List.take_zero, List.append_nil]; exact rb.mono (Same.up ht)⟩ (fun k σ H3 hk ⟨_, _, _, _, h, _⟩ => SqT.of h) ?_ ?_
      · rintro k x σ H3 hk ⟨ds3, v5, rfl, g3, e3t, e3m, rc⟩
        have hb : ∃ b, x = V.bl b ∧ (ext2 rw_)[k]? = some (rw_ ++ [b]) := by
          match k, hk with
          | 0, h => exact ⟨false, (Option.some.inj h).symm, rfl⟩
          | 1, h => exact ⟨true, (Option.some.inj h).symm, rfl⟩
          | n + 2, h => cases h
        obtain ⟨b, rfl, hb⟩ := hb
        have l3 : ds3.length ≤ 1026 := by
          rw [PySem.Paired.length rc, List.length_append, ext2_len, List.length_take, List.length_take, rowsN_size]
          show min j _ * 2 + min k 2 ≤ 1026
          omega
        have lr : (ls.take i).length = rw_.length := by rw [List.length_take, rowsN_len (List.mem_of_getElem? hrw)]; omega
        refine ⟨_, rfl, .inl ⟨rfl, _, SqL.of e3m⟩, _, rfl, d, _, rfl, g3 _ _ hdr, fun l as H4 g4 el pr => ?_⟩
        refine ⟨_, rfl, _, rfl, smallE (by show 2 ≤ _; decide), fun p hp => ⟨smallE (by show 1 ≤ _; decide), fun l2 hl2 => ?_⟩⟩
        have las : as.length ≤ 9 := by rw [PySem.Paired.length pr, rowK, List.length_map, List.length_zip, List.length_take]; omega
        have s1 := (Same.up hp (o := .tup [vS [ls[i]], .bl b])).to hl2 (o := .lst [.ref p])
        have ep : upd (upd H4 p (.tup [vS [ls[i]], .bl b])) l2 (.lst [.ref p]) p = some (.tup [vS [ls[i]], .bl b]) := (Same.up hl2) _ _ upd_same
        refine ⟨l, l2, _, _, rfl, rfl, s1 _ _ el, upd_same, by rw [List.length_map]; exact smallE (by show as.length + 1 ≤ _; omega), fun l3' hl3 => ?_⟩
        have s2 := s1.to hl3 (o := .lst (as.map V.ref ++ [.ref p]))
        refine ⟨l3', as ++ [p], rowS (ls.take i ++ [ls[i]]) (rw_ ++ [b]), rfl, SqL.of (by rw [upd_same, List.map_append]; rfl), ?_, fun o1 ho => ?_⟩
        · rw [rowS_snoc lr]
          refine Paired.snoc ?_ (SqT.of ((Same.up hl3) _ _ ep))
          have pr' : Paired (fun c (x : Nat × Bool) => H4 c = some (.tup [vS [x.1], .bl x.2])) as ((ls.take i).zip rw_) := by
            have := paired_map2 (G := fun c (x : Nat × Bool) => H4 c = some (.tup [vS [x.1], .bl x.2])) (f := fun x : Nat × Bool => ((Sum.inr (ofCs [x.1]) : Key), V.bl x.2)) (g := fun x => x) (fun a c h => h) pr
            rwa [List.map_id'] at this
          have := paired_map2 (G := fun c (kv : Str × V) => SqT K (upd (upd (upd H4 p (.tup [vS [ls[i]], .bl b])) l2 (.lst [.ref p])) l3' (.lst (as.map V.ref ++ [.ref p]))) c [.str kv.1, kv.2]) (f := fun x : Nat × Bool => x) (g := fun x => (ofCs [x.1], V.bl x.2)) (fun a c h => SqT.of (s2 _ _ h)) (by rw [List.map_id']; exact pr')
          exact this
        rw [kv_rowS, ← List.take_succ_eq_append_getElem hi]
        have lr1 : (ls.take (i + 1)).length = (rw_ ++ [b]).length := by rw [List.length_append, ← lr, List.length_take, List.length_take]; simp; omega
        rw [merge_row (nd.sublist (List.take_sublist _ _)) lr1]
        have s3 := (g4.trans s2).to ho (o := .dK (rowK (ls.take (i + 1)) (rw_ ++ [b])))
        have e5m := s3 _ _ e3m
        have nmo : m ≠ o1 := ne_of_none ((g4.trans s2) _ _ e3m) ho
        refine ⟨m, _, .ref o1, rfl, rfl, e5m, by rw [List.length_map]; exact small (by omega), ?_⟩
        have rc' := (rc.mono s3).upd e5m (o := .lst (ds3.map V.ref ++ [V.ref o1]))
        refine ⟨ds3 ++ [o1], _, rfl, (g3.trans s3).at hm, ?_, by rw [upd_same, List.map_append]; rfl, ?_⟩
        · rw [upd_ne]; exact s3 _ _ e3t
          exact fun q => by rw [q, e3m] at e3t; cases e3t
        · rw [show (ext2 rw_).take (k + 1) = (ext2 rw_).take k ++ [rw_ ++ [b]] by rw [List.take_succ, hb]; rfl, ← List.append_assoc]
          exact Paired.snoc rc' (by rw [upd_ne (Ne.symm nmo), upd_same])
      · rintro σ H3 ⟨ds3, v5, rfl, g3, e3t, e3m, rc⟩
        refine ⟨ds3, _, _, rfl, g3, e3m, ?_⟩
        rw [show (rowsN i).take (j + 1) = (rowsN i).take j ++ [rw_] by rw [List.take_succ, hrw]; rfl, List.flatMap_append]
        exact rc
    · rintro σ H2 ⟨ds2, v4, v5, rfl, g2, e2, rb⟩
      refine ⟨_, rfl, m, ds2, _, _, _, _, rfl, g1.trans g2, e2, ?_⟩
      rw [List.length_map, dl, show (rowsN i).take (2 ^ i) = rowsN i from List.take_of_length_le (by rw [rowsN_size]; exact Nat.le_refl _)] at rb
      exact rb
  · rintro σ H1 ⟨r, ds, v2, v3, v4, v5, rfl, g1, e1, ra⟩
    rw [la, List.take_length] at ra
    exact ⟨_, rfl, q r ds H1 g1 e1 ra⟩
end
end Law
set_option Elab.async false
set_option linter.all false
set_option maxRecDepth 100000
set_option maxHeartbeats 4000000
namespace Law
open PySem L2 Fs
section
variable {P : Program} {w : World} {K : PySem.W.Frag} {mg : Str → Option Value} {base : Heap}
def spLaw (K : PySem.W.Frag) : Sp := fun vs H Q _ => ∃ (a : Addr) (ns : List Int), vs = [.ref a] ∧ SqL K H a (ns.map V.int) ∧ ns.length ≤ 63 ∧ ∀ H', Q (.bl true) H'
theorem bt_bool : bootBuiltins "bool" = some (.type "bool") := by decide +kernel
theorem bt_isinst : bootBuiltins "isinstance" = some (.builtin "isinstance") := by decide +kernel
def nine : List Nat := [97, 98, 99, 112, 113, 114, 120, 121, 122]
theorem nine_txt : ("abcpqrxyz" : Str) = ofCs nine := by decide +kernel
def six : List (List Nat) := [[97, 98, 99, 120, 121, 122], [97, 120], [112, 113, 122], [97, 98, 112, 113, 121, 122], [98, 99, 114, 121], [97]]
theorem six_txt : [V.str "abcxyz", V.str "ax", V.str "pqz", V.str "abpqyz", V.str "bcry", V.str "a"] = six.map vS := by
  have e1 : ("abcxyz" : Str) = ofCs [97, 98, 99, 120, 121, 122] := by decide +kernel
  have e2 : ("ax" : Str) = ofCs [97, 120] := by decide +kernel
  have e3 : ("pqz" : Str) = ofCs [112, 113, 122] := by decide +kernel
  have e4 : ("abpqyz" : Str) = ofCs [97, 98, 112, 113, 121, 122] := by decide +kernel
  have e5 : ("bcry" : Str) = ofCs [98, 99, 114, 121] := by decide +kernel
  have e6 : ("a" : Str) = ofCs [97] := by decide +kernel
  rw [e1, e2, e3, e4, e5, e6]; rfl
theorem Tr.Of.sub {ls us : List Nat} : ∀ {t : Tr}, t.Of ls → (∀ c, t.Has c → c ∈ us) → t.Of us
  | .letter l, _, h => h l rfl
  | .neg t, o, h => Tr.Of.sub (t := t) o h
  | .bin _ t u, o, h => ⟨o.1, Tr.Of.sub (t := t) o.2.1 fun c hc => h c (.inl hc), Tr.Of.sub (t := u) o.2.2 fun c hc => h c (.inr hc)⟩
  | .one, _, _ => trivial
  | .zero, _, _ => trivial
abbrev tDispG (c : CA) (n : Nat) (te ta : TE) : TE := fun σ H Q => tMeth c.always "truth" (spTruth c n kA) [] E0 te (tCons ta tNil) σ H Q ∨ (fun σ H Q => tMeth c.never "truth" (spTruth c n kN) [] E0 te (tCons ta tNil) σ H Q ∨ (fun σ H Q => tMeth c.letter "truth" (spTruth c n kL) [] E0 te (tCons ta tNil) σ H Q ∨
  (fun σ H Q => tMeth c.not "truth" (spTruth c n kO) [] E0 te (tCons ta tNil) σ H Q ∨ (fun σ H Q => tMeth c.and "truth" (spTruth c n kD) [] E0 te (tCons ta tNil) σ H Q ∨ (fun σ H Q => tMeth c.or "truth" (spTruth c n kR) [] E0 te (tCons ta tNil) σ H Q ∨ tMeth c.either "truth" (spTruth c n kE) [] E0 te (tCons ta tNil) σ H Q) σ H Q) σ H Q) σ H Q) σ H Q) σ H Q
theorem ddispG {n : Nat} {c : CA} {σ0 : St} {H0 : Hp} {te : TE} {o : V} {d : Addr} {i : Nat} {t : Tr} {kvs : List (Key × V)} {ρ : Nat → Bool} {ls : List Nat} (h1 : Dv (At σ0 H0) te o) (e1 : σ0[i]? = some (some (.ref d))) (ob : ObjAt c H0 t o) (ht : t.ht ≤ n) (of : t.Of ls) (hd : H0 d = some (.dK kvs)) (hv : ∀ c ∈ ls, valV kvs (.inr (ofCs [c])) = some (.bl (ρ c))) :
    Dv (At σ0 H0) (tDispG c n te (tVar i)) (.bl (t.val ρ)) := by
  intro σ H Q hΓ q
  have e1' : σ[i]? = some (some (.ref d)) := by rw [hΓ.1]; exact e1
  have go : ∀ (κ : Tr → Prop) (C : Addr) (a dx : Addr) (fs : List (Str × V)), κ t → o = .ref a → H0 a = some (.ins C dx fs) → fs.lookup ("truth" : Str) = none → tMeth C "truth" (spTruth c n κ) [] E0 te (tCons (tVar i) tNil) σ H Q := fun κ C a dx fs hκ eo ha hl =>
    h1 σ H _ hΓ fun H1 g1 => ⟨a, dx, fs, eo, (hΓ.2.trans g1) _ _ ha, hl, .ref d, e1', o, d, t, kvs, ρ, ls, rfl, ob.mono (hΓ.2.trans g1), ht, of, (hΓ.2.trans g1) _ _ hd, hv, hκ, fun H' g => q H' (g1.trans g)⟩
  cases t with
  | one => obtain ⟨a, dx, e, h⟩ := ob; exact .inl (go kA _ a dx _ rfl e h rfl)
  | zero => obtain ⟨a, dx, e, h⟩ := ob; exact .inr (.inl (go kN _ a dx _ rfl e h rfl))
  | letter l => obtain ⟨a, dx, e, h⟩ := ob; exact .inr (.inr (.inl (go kL _ a dx _ ⟨l, rfl⟩ e h rfl)))
  | neg u => obtain ⟨a, dx, x, e, h, _⟩ := ob; exact .inr (.inr (.inr (.inl (go kO _ a dx _ ⟨u, rfl⟩ e h rfl))))
  | bin op u v =>
    obtain ⟨a, dx, x, y, e, h, _⟩ := ob
    by_cases e38 : op = 38
    · rw [CA.bin, if_pos e38] at h
      exact .inr (.inr (.inr (.inr (.inl (go kD _ a dx _ ⟨u, v, by rw [e38]⟩ e h rfl)))))
    · by_cases e124 : op = 124
      · rw [CA.bin, if_neg e38, if_pos e124] at h
        exact .inr (.inr (.inr (.inr (.inr (.inl (go kR _ a dx _ ⟨u, v, by rw [e124]⟩ e h rfl))))))
      · rw [CA.bin, if_neg e38, if_neg e124] at h
        exact .inr (.inr (.inr (.inr (.inr (.inr (go kE _ a dx _ ⟨op, u, v, rfl, e38, e124⟩ e h rfl))))))
theorem sc_law : FnScope ["_law_script", "_law_mix", "_law_letters", "_law_tree", "_law_found", "_law_k", "_law_row", "_law_due", "_law_more", "_law_one", "_law_kept", "_law_each_row", "_law_told"] ["_law_script"] (defScope s_law) := ⟨rfl, rfl, rfl, by decide +kernel, rfl, by decide +kernel, by decide +kernel⟩
structure More (us : List Nat) (r : List Bool) (seen : List Nat) (kvs : List (Key × V)) : Prop where
  nd : (kvs.map (·.1)).Nodup
  flat : ∀ p ∈ kvs, flatV p.2 = true
  val : ∀ c ∈ us, valV kvs (.inr (ofCs [c])) = some (.bl (asg us r c))
  keys : ∀ k ∈ kvs.map (·.1), ∃ c, k = .inr (ofCs [c]) ∧ (c ∈ us ∨ c ∈ seen)
  len : kvs.length ≤ 9 + seen.length
theorem More.start {us : List Nat} {r : List Bool} (nd : us.Nodup) (hl : us.length = r.length) (l9 : us.length ≤ 9) : More us r [] (rowK us r) where
  nd := by rw [rowK_keys hl]; exact List.pairwise_map.mpr (nd.imp fun {a b} hab e => hab (by have := ofCs_inj (Sum.inr.inj e); simpa using this))
  flat := fun p hp => by obtain ⟨x, _, rfl⟩ := List.mem_map.mp hp; rfl
  val := fun c hc => by rw [rowK_val hl, if_pos hc]
  keys := fun k hk => by rw [rowK_keys hl] at hk; obtain ⟨c, hc, rfl⟩ := List.mem_map.mp hk; exact ⟨c, rfl, .inl hc⟩
  len := by rw [rowK, List.length_map, List.length_zip]; simp; omega
theorem More.skip {us : List Nat} {r : List Bool} {seen : List Nat} {kvs : List (Key × V)} {x : Nat} (h : More us r seen kvs) : More us r (seen ++ [x]) kvs where
  nd := h.nd
  flat := h.flat
  val := h.val
  keys := fun k hk => let ⟨c, e, o⟩ := h.keys k hk; ⟨c, e, o.imp id fun q => List.mem_append_left _ q⟩
  len := by have := h.len; rw [List.length_append, List.length_singleton]; omega
theorem More.put {us : List Nat} {r : List Bool} {seen : List Nat} {kvs : List (Key × V)} {x : Nat} {b : Bool} (h : More us r seen kvs) (hu : x ∉ us) (hs : x ∉ seen) : valV kvs (.inr (ofCs [x])) = none ∧ More us r (seen ++ [x]) (kvs ++ [(.inr (ofCs [x]), .bl b)]) := by
  have hk : (Sum.inr (ofCs [x]) : Key) ∉ kvs.map (·.1) := fun hm => by
    obtain ⟨c, e, o⟩ := h.keys _ hm
    have : x = c := by have := ofCs_inj (Sum.inr.inj e); simpa using this
    rw [← this] at o
    exact o.elim hu hs
  refine ⟨valV_no hk, ⟨?_, ?_, ?_, ?_, ?_⟩⟩
  · rw [List.map_append, List.nodup_append]
    exact ⟨h.nd, by simp, fun a ha b' hb e => by
      have e' : a = Sum.inr (ofCs [x]) := e.trans (List.mem_singleton.mp hb)
      rw [e'] at ha
      exact hk ha⟩
  · intro p hp
    rcases List.mem_append.mp hp with hp | hp
    · exact h.flat p hp
    · rw [List.mem_singleton.mp hp]; rfl
  · intro c hc
    have := h.val c hc
    unfold valV at this ⊢
    rw [List.find?_append]
    cases e : kvs.find? fun p => decide (p.1 = Sum.inr (ofCs [c])) with
    | none => rw [e] at this; cases this
    | some p => rw [e] at this; exact this
  · intro k hk'
    rw [List.map_append] at hk'
    rcases List.mem_append.mp hk' with hk' | hk'
    · obtain ⟨c, e, o⟩ := h.keys k hk'; exact ⟨c, e, o.imp id fun q => List.mem_append_left _ q⟩
    · rw [List.mem_singleton.mp hk']; exact ⟨x, rfl, .inr (List.mem_append_right _ (List.mem_singleton.mpr rfl))⟩
  · have := h.len; rw [List.length_append, List.length_append, List.length_singleton, List.length_singleton]; omega
theorem op_atV {l : List (List Nat)} {i : Int} (h0 : 0 ≤ i) (h : i < (l.length : Int)) : ∃ c ∈ l, atI (l.map vS) i = some (vS c) := by
  have hk : i.toNat < l.length := by omega
  have := atI_nat (xs := l.map vS) (j := i.toNat) (v := vS l[i.toNat]) (by rw [List.getElem?_map, List.getElem?_eq_getElem hk]; rfl)
  rw [show ((i.toNat : Nat) : Int) = i by omega] at this
  exact ⟨_, List.getElem_mem hk, this⟩
theorem ok_law {c : CA} {iL iN iP fA fN fL fO fD fR fE f fm fS fU fT fB fRw : Addr} {dA dN dL dO dD dR dE fd fdm fdS fdU fdT fdB fdR : FuncData} (F : Fun K "law" "law" s_law f fd) (T : Txt mg) (C : CTxt K c iL iN iP) (M : TTxt K c fA fN fL fO fD fR fE) (G : TOk P w K mg base c 25 fA fN fL fO fD fR fE dA dN dL dO dD dR dE)
    (btA : Binds K dA ["self", "row"] []) (btN : Binds K dN ["self", "row"] []) (btL : Binds K dL ["self", "row"] []) (btO : Binds K dO ["self", "row"] []) (btD : Binds K dD ["self", "row"] []) (btR_ : Binds K dR ["self", "row"] []) (btE : Binds K dE ["self", "row"] [])
    (Gm : FnOk P w K mg base CX0 1 fm fdm ["_law_script", "_law_k"] (spMixed2 K)) (bm : Binds K fdm ["_law_script", "_law_k"] []) (km : PySem.W.keepIn K (.ref fm) = true) (mm : mg "_law_mixed" = some (.ref fm))
    (GS : FnOk P w K mg base CX0 2 fS fdS ["_law_script", "_law_at", "_law_many", "_law_letters"] (spSay K)) (bS : Binds K fdS ["_law_script", "_law_at", "_law_many", "_law_letters"] []) (kS : PySem.W.keepIn K (.ref fS) = true) (mS : mg "_law_saying" = some (.ref fS))
    (GU : FnOk P w K mg base CX0 25 fU fdU ["_law_tree"] (spUsed 25)) (bU : Binds K fdU ["_law_tree"] []) (kU : PySem.W.keepIn K (.ref fU) = true) (mU : mg "_law_used" = some (.ref fU))
    (GT : FnOk P w K mg base CX0 25 fT fdT ["_law_tree", "_law_row"] (spTrue 25)) (bT : Binds K fdT ["_law_tree", "_law_row"] []) (kT : PySem.W.keepIn K (.ref fT) = true) (mT : mg "_law_true" = some (.ref fT))
    (GB : FnOk P w K mg base CX0 27 fB fdB ["_law_tree"] (spObj c 27)) (bB : Binds K fdB ["_law_tree"] []) (kB : PySem.W.keepIn K (.ref fB) = true) (mB : mg "_law_object" = some (.ref fB))
    (GR : FnOk P w K mg base CX0 1 fRw fdR ["_law_letters"] (spRows2 K)) (bR : Binds K fdR ["_law_letters"] []) (kR : PySem.W.keepIn K (.ref fRw) = true) (mR : mg "_law_rows" = some (.ref fRw)) : FnOk P w K mg base CX0 30 f fd ["_law_script"] (spLaw K) := by
  refine F.ok sc_law (fun vs H Q E h => ?_) (fun cdv A outer s H vs Q E hr h => ?_)
  · obtain ⟨a, ns, rfl, _⟩ := h
    rfl
  obtain ⟨a, ns, rfl, hS, h63, q⟩ := h
  have hu := hu_of hr
  have hu0 := Nat.lt_of_succ_lt hu
  have hr1 : Room 1 _ := hr.mono (by decide)
  have hr2 : Room 2 _ := hr.mono (by decide)
  have hr25 : Room 25 _ := hr.mono (by decide)
  have hr27 : Room 27 _ := hr.mono (by decide)
  refine ⟨_, (pss_cons (ps_set (i := 1) sc_law.nd rfl (Or.inl rfl) (pe_call Gm hr1 (by rfl) mm km bm .nil pass0 (pa_cons (pv 0) (pa_cons pe_int pa_nil))))
    (pss_cons (ps_set (i := 2) sc_law.nd rfl (Or.inl rfl) (pe_ix ix_list (pe_lst (pa_cons pe_str (pa_cons pe_str (pa_cons pe_str (pa_cons pe_str (pa_cons pe_str (pa_cons pe_str pa_nil))))))) (pe_op op_mod (pv 1) pe_int) (fun _ _ => rfl)))
    (pss_cons (ps_set (i := 3) sc_law.nd rfl (Or.inl rfl) (pe_call GS hr2 (by rfl) mS kS bS .nil pass0 (pa_cons (pv 0) (pa_cons pe_int (pa_cons (pe_op op_mod (pe_call Gm hr1 (by rfl) mm km bm .nil pass0 (pa_cons (pv 0) (pa_cons pe_int pa_nil))) pe_int) (pa_cons (pv 2) pa_nil))))))
    (pss_cons (ps_set (i := 4) sc_law.nd rfl (Or.inl rfl) (pe_call GB hr27 (by rfl) mB kB bB .nil pass0 (pa_cons (pv 3) pa_nil)))
    (pss_cons (ps_for2 PassesOwn.never rfl (pi_enum (by rfl) T.enumerate (pa_cons (pe_call GR hr1 (by rfl) mR kR bR .nil pass0 (pa_cons (pe_call GU hr25 (by rfl) mU kU bU .nil pass0 (pa_cons (pv 3) pa_nil)) pa_nil)) pa_nil)) (pgs_cons (pg_name (i := 5) sc_law.nd rfl (Or.inl rfl)) (pgs_cons (pg_name (i := 6) sc_law.nd rfl (Or.inl rfl)) pgs_nil))
   (pss_cons (ps_set (i := 7) sc_law.nd rfl (Or.inl rfl) (pe_call GT hr25 (by rfl) mT kT bT .nil pass0 (pa_cons (pv 3) (pa_cons (pv 6) pa_nil))))
    (pss_cons (ps_set (i := 8) sc_law.nd rfl (Or.inl rfl) (pe_callTy call_dict_D (by rfl) T.dict bt_dict (pa_cons (pv 6) pa_nil)))
    (pss_cons (ps_for PassesOwn.never rfl (pi_str pe_str) (pg_name (i := 9) sc_law.nd rfl (Or.inl rfl))
    (pss_one (ps_if (PW.pt (pw_and (pt_cmp (pc_dnotin hu (pv 9) (pv 6))) (pw_and1 (pt_cmpR op_eq (pe_op op_mod (pe_op op_fdiv (pe_call Gm hr1 (by rfl) mm km bm .nil pass0 (pa_cons (pv 0) (pa_cons (pe_op op_add pe_int (pv 5)) pa_nil))) (pe_op op_add pe_int (pe_callB call_lenD (by rfl) T.len PySem.boot_len (pa_cons (pv 8) pa_nil)))) pe_int) pe_int (nomark _))))) (pss_one (ps_dput hu (pv 8) (pv 9) (pe_cmpR op_eq (pe_op op_mod (pe_op op_fdiv (pe_call Gm hr1 (by rfl) mm km bm .nil pass0 (pa_cons (pv 0) (pa_cons (pe_op op_add pe_int (pv 5)) pa_nil))) pe_int) pe_int) pe_int (nomark _)) rfl)) pss_nil)))
    (pss_cons (ps_set (i := 10) sc_law.nd rfl (Or.inl rfl) (pe_callTy call_dict_D (by rfl) T.dict bt_dict (pa_cons (pv 8) pa_nil)))
    (pss_cons (ps_for PassesOwn.never rfl (pi_tup (pe_tup (pa_cons (pv 6) (pa_cons (pv 8) pa_nil)))) (pg_name (i := 11) sc_law.nd rfl (Or.inl rfl))
    (pss_cons (ps_set (i := 12) sc_law.nd rfl (Or.inl rfl) (PE.or (pe_meth (pv 4) C.always M.always G.always hr25 btA .nil pass0 (pa_cons (pv 11) pa_nil))
      (PE.or (pe_meth (pv 4) C.never M.never G.never hr25 btN .nil pass0 (pa_cons (pv 11) pa_nil))
      (PE.or (pe_meth (pv 4) C.letter M.letter G.letter hr25 btL .nil pass0 (pa_cons (pv 11) pa_nil))
      (PE.or (pe_meth (pv 4) C.not M.not G.not hr25 btO .nil pass0 (pa_cons (pv 11) pa_nil))
      (PE.or (pe_meth (pv 4) C.and M.and G.and hr25 btD .nil pass0 (pa_cons (pv 11) pa_nil))
      (PE.or (pe_meth (pv 4) C.or M.or G.or hr25 btR_ .nil pass0 (pa_cons (pv 11) pa_nil))
      (pe_meth (pv 4) C.either M.either G.either hr25 btE .nil pass0 (pa_cons (pv 11) pa_nil)))))))))
    (pss_one (ps_if (PW.pt (pw_or (pt_not (pt_val (pe_callB call_isT (by rfl) T.isinstance bt_isinst (pa_cons (pv 12) (pa_cons (pe_bltn (v := .ty "bool") (by rfl) T.bool bt_bool rfl) pa_nil)))))
      (pw_or1 (pt_cmpR op_ne (pv 12) (pv 7) (nomark _))))) (pss_one (ps_ret pe_bl)) pss_nil))))
    (pss_one (ps_if (pt_cmpR (op_neDD hu0) (pv 8) (pv 10) (nomark _)) (pss_one (ps_ret pe_bl)) pss_nil))))))))
    (pss_one (ps_ret pe_bl))))))), ?_⟩
  rw [nine_txt]
  refine ⟨_, rfl, a, ns, 60, rfl, ⟨hS, h63⟩, by decide, by decide, fun z H1 g1 z0 z1 => ?_⟩
  refine ⟨smallE (by show 6 ≤ _; decide), fun p hp => ?_⟩
  have n0 := Int.emod_nonneg z (b := 6) (by decide)
  have n1 := Int.emod_lt_of_pos z (b := 6) (by decide)
  obtain ⟨l, hl, hat⟩ := op_atV (l := six) n0 n1
  rw [← six_txt] at hat
  have l9 : l.length ≤ 9 := (by decide : ∀ l ∈ six, l.length ≤ 9) l hl
  refine ⟨_, rfl, _, _, rfl, rfl, (show (0 : Int) < 6 by decide), p, _, _, _, rfl, rfl, SqL.of upd_same, hat, ?_⟩
  have g2 := g1.to hp (o := .lst [V.str "abcxyz", V.str "ax", V.str "pqz", V.str "abpqyz", V.str "bcry", V.str "a"])
  refine ⟨_, rfl, _, rfl, a, ns, 62, rfl, ⟨g2.seq hS, h63⟩, by decide, by decide, fun z2 H3 g3 y0 y1 => ?_⟩
  have m0 := Int.emod_nonneg z2 (b := 25) (by decide)
  have m1 := Int.emod_lt_of_pos z2 (b := 25) (by decide)
  have g13 := g2.trans g3
  refine ⟨_, _, rfl, rfl, (show (0 : Int) < 25 by decide), _, rfl, a, ns, 0, z2 % 25, l, rfl, ⟨g13.seq hS, h63⟩, by decide, by decide, m0, by omega, l9, fun t v H4 g4 tr of ht => ?_⟩
  have ht25 : t.ht ≤ 25 := by omega
  have g14 := g13.trans g4
  refine ⟨_, rfl, v, t, l, rfl, tr, by omega, of, fun o H5 g5 ob => ?_⟩
  have g15 := g14.trans g5
  refine ⟨_, rfl, v, t, l, rfl, tr.mono (sameT g5), ht25, of, l9, fun ru us H6 g6 ri mem eu => ?_⟩
  have ndu := rise_nodup Nat.lt_irrefl ri
  have lu : us.length ≤ 9 := Nat.le_trans (nodup_len ndu fun c hc => Tr.Of.has of ((mem c).mp hc)) l9
  have ofu : t.Of us := Tr.Of.sub of fun c hc => (mem c).mpr hc
  have g16 := g15.trans g6
  refine ⟨ru, us, rfl, SqL.of eu, ndu, lu, fun rr ds H7 g7 er rA => ?_⟩
  have g17 := g16.trans g7
  have tr7 := ((tr.mono (sameT g5)).mono (sameT g6)).mono (sameT g7)
  have ob7 := (ob.mono g6).mono g7
  have dl : ds.length = 2 ^ us.length := (PySem.Paired.length rA).trans (rowsN_size _)
  have d9 : 2 ^ us.length ≤ 512 := Nat.le_trans (Nat.pow_le_pow_right (by decide) lu) (by decide)
  refine ⟨rr, rfl, ⟨_, SqL.of er⟩, ?_⟩
  refine for_enum (K := K) (xs := ds.map V.ref) (fun i σ H' => ∃ v5 v6 v7 v8 v9 v10 v11 v12 : Option V, σ = [some (.ref a), some (.int z), some (vS l), some v, some o, v5, v6, v7, v8, v9, v10, v11, v12] ∧ Same H7 H') ⟨none, none, none, none, none, none, none, none, rfl, Same.refl _⟩ (fun i σ H' hi ⟨_, _, _, _, _, _, _, _, _, g⟩ => g.seq (SqL.of er)) ?_ ?_
  · rintro i x σ H8 hx ⟨v5, v6, v7, v8, v9, v10, v11, v12, rfl, g8⟩
    obtain ⟨d, hd, rfl⟩ := getElem?_map_some hx
    obtain ⟨r, hr', hdr⟩ := paired_getL rA i d hd
    have hi : i < ds.length := lt_of_some hd
    have hl : us.length = r.length := (rowsN_len (List.mem_of_getElem? hr')).symm
    have scr8 : Scr K H8 a ns := ⟨(g17.trans g8).seq hS, h63⟩
    have mst := More.start ndu hl lu
    refine ⟨_, _, rfl, _, _, rfl, rfl, ?_⟩
    refine ⟨_, rfl, _, rfl, v, d, t, _, asg us r, us, rfl, tr7.mono (sameT g8), ht25, ofu, g8 _ _ hdr, mst.val, fun H9 g9 => ?_⟩
    have hd9 := g9 _ _ (g8 _ _ hdr)
    refine ⟨_, rfl, d, _, rfl, hd9, fun mo hmo => ?_⟩
    have nmo : d ≠ mo := ne_of_none hd9 hmo
    have hs : (ofCs nine).cps.size = 9 := rfl
    refine ⟨_, rfl, ?_⟩
    refine for_val (fun j σ H' => ∃ (kvs : List (Key × V)) (w9 : Option V), σ = [some (.ref a), some (.int z), some (vS l), some v, some o, some (.int i), some (.ref d), some (.bl (t.val (asg us r))), some (.ref mo), w9, v10, v11, v12] ∧ Same H9 H' ∧ H' mo = some (.dK kvs) ∧ More us r (nine.take j) kvs) ⟨_, v9, rfl, Same.up hmo, upd_same, mst⟩ ?_ ?_
    · rintro j σ HA hj ⟨kvs, w9, rfl, gA, eA, mo_⟩
      rw [hs] at hj
      have hj9 : j < nine.length := hj
      rw [sgn_vS hj9]
      have tk : nine.take (j + 1) = nine.take j ++ [nine[j]] := List.take_succ_eq_append_getElem hj9
      have scrA := (scr8.mono g9).mono gA
      have gd := DGet.k (k := Sum.inr (ofCs [nine[j]])) (gA _ _ hd9)
      rw [rowK_val hl] at gd
      refine ⟨_, rfl, _, rfl, d, _, rfl, gd, _, rfl, ?_⟩
      by_cases hc : nine[j] ∈ us
      · rw [if_pos hc]
        refine iteF (iteF ?_)
        exact ⟨kvs, _, rfl, gA, eA, by rw [tk]; exact mo_.skip⟩
      · rw [if_neg hc]
        refine iteT ?_
        have klen : kvs.length ≤ 18 := by have := mo_.len; rw [List.length_take] at this; have : nine.length = 9 := rfl; omega
        refine ⟨_, rfl, _, rfl, _, _, rfl, rfl, a, ns, _, rfl, scrA, ?_, ?_, fun z3 HB gB w0 w1 => ?_⟩
        · show (0 : Int) ≤ 40 + (i : Int); omega
        · show 40 + (i : Int) ≤ 100000; omega
        have eB := gB _ _ eA
        refine ⟨_, rfl, mo, kvs, rfl, eB, _, _, rfl, rfl, _, _, rfl, rfl, ⟨by omega, by omega⟩, _, _, rfl, rfl, (show (0 : Int) < 2 by decide), rfl, _, rfl, ?_⟩
        refine ite2 (fun _ => ?_) (fun _ => ?_)
        · refine ⟨_, rfl, _, rfl, _, _, rfl, rfl, a, ns, _, rfl, scrA.mono gB, ?_, ?_, fun z4 HC gC u0 u1 => ?_⟩
          · show (0 : Int) ≤ 57 + (i : Int); omega
          · show 57 + (i : Int) ≤ 100000; omega
          have eC := gC _ _ eB
          have ns_ : nine[j] ∉ nine.take j := not_in_take (by decide) hj9
          obtain ⟨vn, mp⟩ := mo_.put (b := decide (V.int (z4 / 5 % 2) = V.int 1)) hc ns_
          refine ⟨_, _, rfl, rfl, ⟨by decide, by decide⟩, _, _, rfl, rfl, (show (0 : Int) < 2 by decide), rfl, _, rfl, _, rfl, mo, _, rfl, .inl ⟨kvs, .inr (ofCs [nine[j]]), eC, rfl, small (by omega), rfl⟩, ?_⟩
          refine ⟨_, _, rfl, ((gA.trans gB).trans gC).at hmo, upd_same, ?_⟩
          rw [putK_new _ vn, tk]
          exact mp
        · exact ⟨kvs, _, rfl, gA.trans gB, eB, by rw [tk]; exact mo_.skip⟩
    · rintro σ HA ⟨kvs, w9, rfl, gA, eA, mo_⟩
      refine ⟨_, rfl, mo, _, rfl, eA, fun ke hke => ?_⟩
      have nke : mo ≠ ke := ne_of_none eA hke
      refine ⟨_, rfl, _, rfl, smallE (by show 2 ≤ _; decide), fun tp htp => ?_⟩
      have gU := (Same.up hke (o := .dK kvs)).to htp (o := .tup [V.ref d, V.ref mo])
      have eM := gU _ _ eA
      have eK : upd (upd HA ke (.dK kvs)) tp (.tup [V.ref d, V.ref mo]) ke = some (.dK kvs) := (Same.up htp) _ _ upd_same
      have eP : upd (upd HA ke (.dK kvs)) tp (.tup [V.ref d, V.ref mo]) tp = some (.tup [V.ref d, V.ref mo]) := upd_same
      have eD := gU _ _ (gA _ _ hd9)
      have g9U := (gA.trans gU)
      have obU := (((ob7.mono g8).mono g9).mono g9U)
      have gG := ((g8.trans g9).trans g9U)
      generalize upd (upd HA ke (.dK kvs)) tp (.tup [V.ref d, V.ref mo]) = HD at gU eM eK eP eD g9U obU gG
      refine ⟨tp, rfl, ⟨_, SqT.of eP⟩, ?_⟩
      refine for_tup (K := K) (xs := [V.ref d, V.ref mo]) (fun j σ H' => ∃ w11 w12 : Option V, σ = [some (.ref a), some (.int z), some (vS l), some v, some o, some (.int i), some (.ref d), some (.bl (t.val (asg us r))), some (.ref mo), w9, some (.ref ke), w11, w12] ∧ Same HD H') ⟨v11, v12, rfl, Same.refl _⟩ (fun j σ H' hj ⟨_, _, _, g⟩ => g.seqT (SqT.of eP)) ?_ ?_
      · rintro j x σ HE hx ⟨w11, w12, rfl, gE⟩
        have hx' : ∃ (q : Addr) (kq : List (Key × V)), x = .ref q ∧ HE q = some (.dK kq) ∧ ∀ c ∈ us, valV kq (.inr (ofCs [c])) = some (.bl (asg us r c)) := by
          match j, hx with
          | 0, h => exact ⟨d, _, (Option.some.inj h).symm, gE _ _ eD, mst.val⟩
          | 1, h => exact ⟨mo, _, (Option.some.inj h).symm, gE _ _ eM, mo_.val⟩
          | n + 2, h => cases h
        obtain ⟨q', kq, rfl, eq, vq⟩ := hx'
        dsimp only [gName]
        refine dsetW (i := 12) (ddispG (n := 25) (i := 11) (dvA rfl) rfl (obU.mono gE) ht25 ofu eq vq) at0 fun HF gF => ?_
        refine ⟨_, rfl, _, _, rfl, TyOf.bl _, true, rfl, iteF ?_⟩
        refine ⟨_, rfl, _, rfl, rfl, _, rfl, ?_⟩
        rw [bool_ne, show (t.val (asg us r) != t.val (asg us r)) = false by simp]
        exact iteF ⟨_, _, rfl, gE.trans gF⟩
      · rintro σ HE ⟨w11, w12, rfl, gE⟩
        refine ⟨_, rfl, _, rfl, mo, ke, kvs, rfl, rfl, gE _ _ eM, gE _ _ eK, mo_.nd, mo_.flat, _, rfl, iteF ?_⟩
        exact ⟨_, _, _, _, _, _, _, _, rfl, gG.trans gE⟩
  · rintro σ H8 ⟨v5, v6, v7, v8, v9, v10, v11, v12, rfl, g8⟩
    exact q H8
end
end Law
set_option Elab.async false
set_option linter.all false
set_option maxRecDepth 100000
set_option maxHeartbeats 4000000
namespace Law
open PySem L2 Fs
section
variable {P : Program} {w : World} {K : PySem.W.Frag} {mg : Str → Option Value} {base : Heap}
theorem ok_obj {c : CA} {iL iN iP f : Addr} {fdL fdN fdP fd : FuncData} (F : Fun K "_law_object" "_law_object" s_law_object f fd) (C : CTxt K c iL iN iP)
    (mA : mg "Always" = some (.ref c.always)) (mN : mg "Never" = some (.ref c.never)) (mL : mg "Letter" = some (.ref c.letter)) (mO : mg "Not" = some (.ref c.not)) (mD : mg "And" = some (.ref c.and)) (mR : mg "Or" = some (.ref c.or)) (mE : mg "Either" = some (.ref c.either))
    (GL : FnOk P w K mg base CX0 1 iL fdL ["self", "letter"] (spInit1 K "letter")) (bL : Binds K fdL ["self", "letter"] [])
    (GN : FnOk P w K mg base CX0 1 iN fdN ["self", "one"] (spInit1 K "one")) (bN : Binds K fdN ["self", "one"] [])
    (GP : FnOk P w K mg base CX0 1 iP fdP ["self", "one", "other"] (spInit2 K "one" "other")) (bP : Binds K fdP ["self", "one", "other"] [])
    (bG : Binds K fd ["_law_tree"] []) (mG : mg "_law_object" = some (.ref f)) : ∀ n, FnOk P w K mg base CX0 n f fd ["_law_tree"] (spObj c n)
  | 0 => ⟨fun vs H Q E h => by obtain ⟨_, t, _, _, _, h, _⟩ := h; omega, fun A outer s H args us vs Q E _ _ _ _ h => by obtain ⟨_, t, _, _, _, h, _⟩ := h; omega⟩
  | n + 1 => obj_step F C mA mN mL mO mD mR mE GL bL GN bN GP bP bG mG (ok_obj F C mA mN mL mO mD mR mE GL bL GN bN GP bP bG mG n)
theorem t_zero {c : CA} {κ : Tr → Prop} {f : Addr} {fd : FuncData} : FnOk P w K mg base CX0 0 f fd ["self", "row"] (spTruth c 0 κ) :=
  ⟨fun vs H Q E h => by obtain ⟨_, _, t, _, _, _, _, _, h, _⟩ := h; have := t.ht_pos; omega, fun A outer s H args us vs Q E _ _ _ _ h => by obtain ⟨_, _, t, _, _, _, _, _, h, _⟩ := h; have := t.ht_pos; omega⟩
theorem ok_tok {c : CA} {iL iN iP fA fN fL fO fD fR fE : Addr} {dA dN dL dO dD dR dE : FuncData} (C : CTxt K c iL iN iP) (M : TTxt K c fA fN fL fO fD fR fE)
    (bA : Binds K dA ["self", "row"] []) (bN : Binds K dN ["self", "row"] []) (bL : Binds K dL ["self", "row"] []) (bO : Binds K dO ["self", "row"] []) (bD : Binds K dD ["self", "row"] []) (bR : Binds K dR ["self", "row"] []) (bE : Binds K dE ["self", "row"] [])
    (FA : Fun K "truth" "Always.truth" s_Always_truth fA dA) (FN : Fun K "truth" "Never.truth" s_Never_truth fN dN) (FL : Fun K "truth" "Letter.truth" s_Letter_truth fL dL) (FO : Fun K "truth" "Not.truth" s_Not_truth fO dO) (FD : Fun K "truth" "And.truth" s_And_truth fD dD) (FR : Fun K "truth" "Or.truth" s_Or_truth fR dR) (FE : Fun K "truth" "Either.truth" s_Either_truth fE dE) :
    ∀ n, TOk P w K mg base c n fA fN fL fO fD fR fE dA dN dL dO dD dR dE
  | 0 => ⟨t_zero, t_zero, t_zero, t_zero, t_zero, t_zero, t_zero⟩
  | n + 1 =>
    have G := ok_tok C M bA bN bL bO bD bR bE FA FN FL FO FD FR FE n
    ⟨t_always FA, t_never FN, t_letter C FL, t_not C M G bA bN bL bO bD bR bE FO, t_and C M G bA bN bL bO bD bR bE FD, t_or C M G bA bN bL bO bD bR bE FR, t_either C M G bA bN bL bO bD bR bE FE⟩
end
theorem all_mk {l : PySem.W.OpenLaw} {w : World} {K : PySem.W.Frag} {h : Heap} {mg : Str → Option Value} {fa f1 f2 f3 f4 f5 f6 f7 f8 ftAlways ftNever ftLetter ftNot ftAnd ftOr ftEither fiLetter fiNot fiPair CAlways CNever CLetter CNot CAnd COr CEither : Addr} (X : K.In h) (G : h.Ns mainGlobals mg) (hfa : mg "law" = some (.ref fa))
    {od1 an1 od2 an2 od3 an3 od4 an4 od5 an5 od6 an6 od7 an7 od8 an8 odtAlways antAlways odtNever antNever odtLetter antLetter odtNot antNot odtAnd antAnd odtOr antOr odtEither antEither odiLetter aniLetter odiNot aniNot odiPair aniPair : Option Addr} {sl1 sl2 sl3 sl4 sl5 sl6 sl7 sl8 sltAlways sltNever sltLetter sltNot sltAnd sltOr sltEither sliLetter sliNot sliPair : Array (Option Value)} {oc1 kV1 dc1 pm1 cd1 ct1 oc2 kV2 dc2 pm2 cd2 ct2 oc3 kV3 dc3 pm3 cd3 ct3 oc4 kV4 dc4 pm4 cd4 ct4 oc5 kV5 dc5 pm5 cd5 ct5 oc6 kV6 dc6 pm6 cd6 ct6 oc7 kV7 dc7 pm7 cd7 ct7 oc8 kV8 dc8 pm8 cd8 ct8 octAlways kVtAlways dctAlways pmtAlways cdtAlways cttAlways octNever kVtNever dctNever pmtNever cdtNever cttNever octLetter kVtLetter dctLetter pmtLetter cdtLetter cttLetter octNot kVtNot dctNot pmtNot cdtNot cttNot octAnd kVtAnd dctAnd pmtAnd cdtAnd cttAnd octOr kVtOr dctOr pmtOr cdtOr cttOr octEither kVtEither dctEither pmtEither cdtEither cttEither ociLetter kViLetter dciLetter pmiLetter cdiLetter ctiLetter ociNot kViNot dciNot pmiNot cdiNot ctiNot ociPair kViPair dciPair pmiPair cdiPair ctiPair : Value}
    (a1 : PySem.W.nsIn K mainGlobals "_law_mixed" = some (some (.ref f1)))
    (a2 : PySem.W.nsIn K mainGlobals "_law_leaf" = some (some (.ref f2)))
    (a3 : PySem.W.nsIn K mainGlobals "_law_saying" = some (some (.ref f3)))
    (a4 : PySem.W.nsIn K mainGlobals "_law_true" = some (some (.ref f4)))
    (a5 : PySem.W.nsIn K mainGlobals "_law_used" = some (some (.ref f5)))
    (a6 : PySem.W.nsIn K mainGlobals "_law_object" = some (some (.ref f6)))
    (a7 : PySem.W.nsIn K mainGlobals "_law_rows" = some (some (.ref f7)))
    (a8 : PySem.W.nsIn K mainGlobals "law" = some (some (.ref f8)))
    (l1 : K.lookup f1 = some ⟨oc1, od1, .func (PySem.W.fnOf "_law_mixed" "_law_mixed" (defArgs s_law_mixed) (defBody s_law_mixed) (defScope s_law_mixed) .none kV1 dc1 pm1 an1 cd1 ct1), sl1⟩)
    (c1 : PySem.W.codeIn K cd1 "_law_mixed" = true)
    (k1 : PySem.W.keepIn K (.ref f1) = true)
    (l2 : K.lookup f2 = some ⟨oc2, od2, .func (PySem.W.fnOf "_law_leaf" "_law_leaf" (defArgs s_law_leaf) (defBody s_law_leaf) (defScope s_law_leaf) .none kV2 dc2 pm2 an2 cd2 ct2), sl2⟩)
    (c2 : PySem.W.codeIn K cd2 "_law_leaf" = true)
    (k2 : PySem.W.keepIn K (.ref f2) = true)
    (l3 : K.lookup f3 = some ⟨oc3, od3, .func (PySem.W.fnOf "_law_saying" "_law_saying" (defArgs s_law_saying) (defBody s_law_saying) (defScope s_law_saying) .none kV3 dc3 pm3 an3 cd3 ct3), sl3⟩)
    (c3 : PySem.W.codeIn K cd3 "_law_saying" = true)
    (k3 : PySem.W.keepIn K (.ref f3) = true)
    (l4 : K.lookup f4 = some ⟨oc4, od4, .func (PySem.W.fnOf "_law_true" "_law_true" (defArgs s_law_true) (defBody s_law_true) (defScope s_law_true) .none kV4 dc4 pm4 an4 cd4 ct4), sl4⟩)
    (c4 : PySem.W.codeIn K cd4 "_law_true" = true)
    (k4 : PySem.W.keepIn K (.ref f4) = true)
    (l5 : K.lookup f5 = some ⟨oc5, od5, .func (PySem.W.fnOf "_law_used" "_law_used" (defArgs s_law_used) (defBody s_law_used) (defScope s_law_used) .none kV5 dc5 pm5 an5 cd5 ct5), sl5⟩)
    (c5 : PySem.W.codeIn K cd5 "_law_used" = true)
    (k5 : PySem.W.keepIn K (.ref f5) = true)
    (l6 : K.lookup f6 = some ⟨oc6, od6, .func (PySem.W.fnOf "_law_object" "_law_object" (defArgs s_law_object) (defBody s_law_object) (defScope s_law_object) .none kV6 dc6 pm6 an6 cd6 ct6), sl6⟩)
    (c6 : PySem.W.codeIn K cd6 "_law_object" = true)
    (k6 : PySem.W.keepIn K (.ref f6) = true)
    (l7 : K.lookup f7 = some ⟨oc7, od7, .func (PySem.W.fnOf "_law_rows" "_law_rows" (defArgs s_law_rows) (defBody s_law_rows) (defScope s_law_rows) .none kV7 dc7 pm7 an7 cd7 ct7), sl7⟩)
    (c7 : PySem.W.codeIn K cd7 "_law_rows" = true)
    (k7 : PySem.W.keepIn K (.ref f7) = true)
    (l8 : K.lookup f8 = some ⟨oc8, od8, .func (PySem.W.fnOf "law" "law" (defArgs s_law) (defBody s_law) (defScope s_law) .none kV8 dc8 pm8 an8 cd8 ct8), sl8⟩)
    (c8 : PySem.W.codeIn K cd8 "law" = true)
    (k8 : PySem.W.keepIn K (.ref f8) = true)
    (nAlways : PySem.W.nsIn K mainGlobals "Always" = some (some (.ref CAlways)))
    (pgAlways : PySem.W.plainGet K CAlways Str.empty = true)
    (hdAlways : PySem.W.hasDictIn K CAlways = true)
    (poAlways : PySem.W.plainOver K CAlways = true)
    (saAlways : PySem.W.findIn K (.ref CAlways) "__setattr__" = some (some (.builtin "object.__setattr__")))
    (mkAlways : PySem.W.makesIn K CAlways = true)
    (kpAlways : PySem.W.keepIn K (.ref CAlways) = true)
    (mtAlways : PySem.W.findIn K (.ref CAlways) "truth" = some (some (.ref ftAlways)))
    (mfAlways : PySem.W.isFn K (.ref ftAlways) = true)
    (nNever : PySem.W.nsIn K mainGlobals "Never" = some (some (.ref CNever)))
    (pgNever : PySem.W.plainGet K CNever Str.empty = true)
    (hdNever : PySem.W.hasDictIn K CNever = true)
    (poNever : PySem.W.plainOver K CNever = true)
    (saNever : PySem.W.findIn K (.ref CNever) "__setattr__" = some (some (.builtin "object.__setattr__")))
    (mkNever : PySem.W.makesIn K CNever = true)
    (kpNever : PySem.W.keepIn K (.ref CNever) = true)
    (mtNever : PySem.W.findIn K (.ref CNever) "truth" = some (some (.ref ftNever)))
    (mfNever : PySem.W.isFn K (.ref ftNever) = true)
    (nLetter : PySem.W.nsIn K mainGlobals "Letter" = some (some (.ref CLetter)))
    (pgLetter : PySem.W.plainGet K CLetter Str.empty = true)
    (hdLetter : PySem.W.hasDictIn K CLetter = true)
    (poLetter : PySem.W.plainOver K CLetter = true)
    (saLetter : PySem.W.findIn K (.ref CLetter) "__setattr__" = some (some (.builtin "object.__setattr__")))
    (mkLetter : PySem.W.makesIn K CLetter = true)
    (kpLetter : PySem.W.keepIn K (.ref CLetter) = true)
    (mtLetter : PySem.W.findIn K (.ref CLetter) "truth" = some (some (.ref ftLetter)))
    (mfLetter : PySem.W.isFn K (.ref ftLetter) = true)
    (nNot : PySem.W.nsIn K mainGlobals "Not" = some (some (.ref CNot)))
    (pgNot : PySem.W.plainGet K CNot Str.empty = true)
    (hdNot : PySem.W.hasDictIn K CNot = true)
    (poNot : PySem.W.plainOver K CNot = true)
    (saNot : PySem.W.findIn K (.ref CNot) "__setattr__" = some (some (.builtin "object.__setattr__")))
    (mkNot : PySem.W.makesIn K CNot = true)
    (kpNot : PySem.W.keepIn K (.ref CNot) = true)
    (mtNot : PySem.W.findIn K (.ref CNot) "truth" = some (some (.ref ftNot)))
    (mfNot : PySem.W.isFn K (.ref ftNot) = true)
    (nAnd : PySem.W.nsIn K mainGlobals "And" = some (some (.ref CAnd)))
    (pgAnd : PySem.W.plainGet K CAnd Str.empty = true)
    (hdAnd : PySem.W.hasDictIn K CAnd = true)
    (poAnd : PySem.W.plainOver K CAnd = true)
    (saAnd : PySem.W.findIn K (.ref CAnd) "__setattr__" = some (some (.builtin "object.__setattr__")))
    (mkAnd : PySem.W.makesIn K CAnd = true)
    (kpAnd : PySem.W.keepIn K (.ref CAnd) = true)
    (mtAnd : PySem.W.findIn K (.ref CAnd) "truth" = some (some (.ref ftAnd)))
    (mfAnd : PySem.W.isFn K (.ref ftAnd) = true)
    (nOr : PySem.W.nsIn K mainGlobals "Or" = some (some (.ref COr)))
    (pgOr : PySem.W.plainGet K COr Str.empty = true)
    (hdOr : PySem.W.hasDictIn K COr = true)
    (poOr : PySem.W.plainOver K COr = true)
    (saOr : PySem.W.findIn K (.ref COr) "__setattr__" = some (some (.builtin "object.__setattr__")))
    (mkOr : PySem.W.makesIn K COr = true)
    (kpOr : PySem.W.keepIn K (.ref COr) = true)
    (mtOr : PySem.W.findIn K (.ref COr) "truth" = some (some (.ref ftOr)))
    (mfOr : PySem.W.isFn K (.ref ftOr) = true)
    (nEither : PySem.W.nsIn K mainGlobals "Either" = some (some (.ref CEither)))
    (pgEither : PySem.W.plainGet K CEither Str.empty = true)
    (hdEither : PySem.W.hasDictIn K CEither = true)
    (poEither : PySem.W.plainOver K CEither = true)
    (saEither : PySem.W.findIn K (.ref CEither) "__setattr__" = some (some (.builtin "object.__setattr__")))
    (mkEither : PySem.W.makesIn K CEither = true)
    (kpEither : PySem.W.keepIn K (.ref CEither) = true)
    (mtEither : PySem.W.findIn K (.ref CEither) "truth" = some (some (.ref ftEither)))
    (mfEither : PySem.W.isFn K (.ref ftEither) = true)
    (inAlways : PySem.W.findIn K (.ref CAlways) "__init__" = some (some (.builtin "object.__init__")))
    (inNever : PySem.W.findIn K (.ref CNever) "__init__" = some (some (.builtin "object.__init__")))
    (inLetter : PySem.W.findIn K (.ref CLetter) "__init__" = some (some (.ref fiLetter)))
    (inNot : PySem.W.findIn K (.ref CNot) "__init__" = some (some (.ref fiNot)))
    (inAnd : PySem.W.findIn K (.ref CAnd) "__init__" = some (some (.ref fiPair)))
    (inOr : PySem.W.findIn K (.ref COr) "__init__" = some (some (.ref fiPair)))
    (inEither : PySem.W.findIn K (.ref CEither) "__init__" = some (some (.ref fiPair)))
    (ifiLetter : PySem.W.isFn K (.ref fiLetter) = true)
    (ifiNot : PySem.W.isFn K (.ref fiNot) = true)
    (ifiPair : PySem.W.isFn K (.ref fiPair) = true)
    (naLetterletter : PySem.W.findIn K (.ref CLetter) "letter" = some none)
    (naNotone : PySem.W.findIn K (.ref CNot) "one" = some none)
    (naAndone : PySem.W.findIn K (.ref CAnd) "one" = some none)
    (naAndother : PySem.W.findIn K (.ref CAnd) "other" = some none)
    (naOrone : PySem.W.findIn K (.ref COr) "one" = some none)
    (naOrother : PySem.W.findIn K (.ref COr) "other" = some none)
    (naEitherone : PySem.W.findIn K (.ref CEither) "one" = some none)
    (naEitherother : PySem.W.findIn K (.ref CEither) "other" = some none)
    (ltAlways : K.lookup ftAlways = some ⟨octAlways, odtAlways, .func (PySem.W.fnOf "truth" "Always.truth" (defArgs s_Always_truth) (defBody s_Always_truth) (defScope s_Always_truth) .none kVtAlways dctAlways pmtAlways antAlways cdtAlways cttAlways), sltAlways⟩)
    (ctAlways : PySem.W.codeIn K cdtAlways "Always.truth" = true)
    (ktAlways : PySem.W.keepIn K (.ref ftAlways) = true)
    (ltNever : K.lookup ftNever = some ⟨octNever, odtNever, .func (PySem.W.fnOf "truth" "Never.truth" (defArgs s_Never_truth) (defBody s_Never_truth) (defScope s_Never_truth) .none kVtNever dctNever pmtNever antNever cdtNever cttNever), sltNever⟩)
    (ctNever : PySem.W.codeIn K cdtNever "Never.truth" = true)
    (ktNever : PySem.W.keepIn K (.ref ftNever) = true)
    (ltLetter : K.lookup ftLetter = some ⟨octLetter, odtLetter, .func (PySem.W.fnOf "truth" "Letter.truth" (defArgs s_Letter_truth) (defBody s_Letter_truth) (defScope s_Letter_truth) .none kVtLetter dctLetter pmtLetter antLetter cdtLetter cttLetter), sltLetter⟩)
    (ctLetter : PySem.W.codeIn K cdtLetter "Letter.truth" = true)
    (ktLetter : PySem.W.keepIn K (.ref ftLetter) = true)
    (ltNot : K.lookup ftNot = some ⟨octNot, odtNot, .func (PySem.W.fnOf "truth" "Not.truth" (defArgs s_Not_truth) (defBody s_Not_truth) (defScope s_Not_truth) .none kVtNot dctNot pmtNot antNot cdtNot cttNot), sltNot⟩)
    (ctNot : PySem.W.codeIn K cdtNot "Not.truth" = true)
    (ktNot : PySem.W.keepIn K (.ref ftNot) = true)
    (ltAnd : K.lookup ftAnd = some ⟨octAnd, odtAnd, .func (PySem.W.fnOf "truth" "And.truth" (defArgs s_And_truth) (defBody s_And_truth) (defScope s_And_truth) .none kVtAnd dctAnd pmtAnd antAnd cdtAnd cttAnd), sltAnd⟩)
    (ctAnd : PySem.W.codeIn K cdtAnd "And.truth" = true)
    (ktAnd : PySem.W.keepIn K (.ref ftAnd) = true)
    (ltOr : K.lookup ftOr = some ⟨octOr, odtOr, .func (PySem.W.fnOf "truth" "Or.truth" (defArgs s_Or_truth) (defBody s_Or_truth) (defScope s_Or_truth) .none kVtOr dctOr pmtOr antOr cdtOr cttOr), sltOr⟩)
    (ctOr : PySem.W.codeIn K cdtOr "Or.truth" = true)
    (ktOr : PySem.W.keepIn K (.ref ftOr) = true)
    (ltEither : K.lookup ftEither = some ⟨octEither, odtEither, .func (PySem.W.fnOf "truth" "Either.truth" (defArgs s_Either_truth) (defBody s_Either_truth) (defScope s_Either_truth) .none kVtEither dctEither pmtEither antEither cdtEither cttEither), sltEither⟩)
    (ctEither : PySem.W.codeIn K cdtEither "Either.truth" = true)
    (ktEither : PySem.W.keepIn K (.ref ftEither) = true)
    (liLetter : K.lookup fiLetter = some ⟨ociLetter, odiLetter, .func (PySem.W.fnOf "__init__" "Letter.__init__" (defArgs s_Letter_init) (defBody s_Letter_init) (defScope s_Letter_init) .none kViLetter dciLetter pmiLetter aniLetter cdiLetter ctiLetter), sliLetter⟩)
    (ciLetter : PySem.W.codeIn K cdiLetter "Letter.__init__" = true)
    (kiLetter : PySem.W.keepIn K (.ref fiLetter) = true)
    (liNot : K.lookup fiNot = some ⟨ociNot, odiNot, .func (PySem.W.fnOf "__init__" "Not.__init__" (defArgs s_Not_init) (defBody s_Not_init) (defScope s_Not_init) .none kViNot dciNot pmiNot aniNot cdiNot ctiNot), sliNot⟩)
    (ciNot : PySem.W.codeIn K cdiNot "Not.__init__" = true)
    (kiNot : PySem.W.keepIn K (.ref fiNot) = true)
    (liPair : K.lookup fiPair = some ⟨ociPair, odiPair, .func (PySem.W.fnOf "__init__" "Pair.__init__" (defArgs s_Pair_init) (defBody s_Pair_init) (defScope s_Pair_init) .none kViPair dciPair pmiPair aniPair cdiPair ctiPair), sliPair⟩)
    (ciPair : PySem.W.codeIn K cdiPair "Pair.__init__" = true)
    (kiPair : PySem.W.keepIn K (.ref fiPair) = true)
    (z1 : PySem.W.nsIn K mainGlobals "len" = some none)
    (z2 : PySem.W.nsIn K mainGlobals "list" = some none)
    (z3 : PySem.W.nsIn K mainGlobals "sorted" = some none)
    (z4 : PySem.W.nsIn K mainGlobals "set" = some none)
    (z5 : PySem.W.nsIn K mainGlobals "tuple" = some none)
    (z6 : PySem.W.nsIn K mainGlobals "dict" = some none)
    (z7 : PySem.W.nsIn K mainGlobals "zip" = some none)
    (z8 : PySem.W.nsIn K mainGlobals "reversed" = some none)
    (z9 : PySem.W.nsIn K mainGlobals "range" = some none)
    (z10 : PySem.W.nsIn K mainGlobals "enumerate" = some none)
    (z11 : PySem.W.nsIn K mainGlobals "all" = some none)
    (z12 : PySem.W.nsIn K mainGlobals "min" = some none)
    (z13 : PySem.W.nsIn K mainGlobals "max" = some none)
    (z14 : PySem.W.nsIn K mainGlobals "isinstance" = some none)
    (z15 : PySem.W.nsIn K mainGlobals "str" = some none)
    (z16 : PySem.W.nsIn K mainGlobals "bool" = some none)
    : ∃ fd : FuncData, (∀ (s : Shared) (v : Value), BindsTo s fd ⟨[v], []⟩ [("_law_script", v)]) ∧ ∀ base : Heap, K.In base → base.Ns mainGlobals mg → FnOk l.prog w K mg base CX0 30 fa fd ["_law_script"] (spLaw K) := by
  have e := hfa.symm.trans (PySem.W.mg_of X G a8)
  cases e
  have T : Txt mg := ⟨PySem.W.mg_none_of X G z1, PySem.W.mg_none_of X G z2, PySem.W.mg_none_of X G z3, PySem.W.mg_none_of X G z4, PySem.W.mg_none_of X G z5, PySem.W.mg_none_of X G z6, PySem.W.mg_none_of X G z7, PySem.W.mg_none_of X G z8, PySem.W.mg_none_of X G z9, PySem.W.mg_none_of X G z10, PySem.W.mg_none_of X G z11, PySem.W.mg_none_of X G z12, PySem.W.mg_none_of X G z13, PySem.W.mg_none_of X G z14, PySem.W.mg_none_of X G z15, PySem.W.mg_none_of X G z16⟩
  have F1 := fun_mk (st := s_law_mixed) l1 c1 k1
  have b1 := F1.binds (ps := ["_law_script", "_law_k"]) fun _ _ _ _ _ _ us hl => match us, hl with | [_, _], _ => rfl
  have F2 := fun_mk (st := s_law_leaf) l2 c2 k2
  have b2 := F2.binds (ps := ["_law_mix", "_law_letters"]) fun _ _ _ _ _ _ us hl => match us, hl with | [_, _], _ => rfl
  have F3 := fun_mk (st := s_law_saying) l3 c3 k3
  have b3 := F3.binds (ps := ["_law_script", "_law_at", "_law_many", "_law_letters"]) fun _ _ _ _ _ _ us hl => match us, hl with | [_, _, _, _], _ => rfl
  have F4 := fun_mk (st := s_law_true) l4 c4 k4
  have b4 := F4.binds (ps := ["_law_tree", "_law_row"]) fun _ _ _ _ _ _ us hl => match us, hl with | [_, _], _ => rfl
  have F5 := fun_mk (st := s_law_used) l5 c5 k5
  have b5 := F5.binds (ps := ["_law_tree"]) fun _ _ _ _ _ _ us hl => match us, hl with | [_], _ => rfl
  have F6 := fun_mk (st := s_law_object) l6 c6 k6
  have b6 := F6.binds (ps := ["_law_tree"]) fun _ _ _ _ _ _ us hl => match us, hl with | [_], _ => rfl
  have F7 := fun_mk (st := s_law_rows) l7 c7 k7
  have b7 := F7.binds (ps := ["_law_letters"]) fun _ _ _ _ _ _ us hl => match us, hl with | [_], _ => rfl
  have F8 := fun_mk (st := s_law) l8 c8 k8
  have FtAlways := fun_mk (st := s_Always_truth) ltAlways ctAlways ktAlways
  have btAlways := FtAlways.binds (ps := ["self", "row"]) fun _ _ _ _ _ _ us hl => match us, hl with | [_, _], _ => rfl
  have FtNever := fun_mk (st := s_Never_truth) ltNever ctNever ktNever
  have btNever := FtNever.binds (ps := ["self", "row"]) fun _ _ _ _ _ _ us hl => match us, hl with | [_, _], _ => rfl
  have FtLetter := fun_mk (st := s_Letter_truth) ltLetter ctLetter ktLetter
  have btLetter := FtLetter.binds (ps := ["self", "row"]) fun _ _ _ _ _ _ us hl => match us, hl with | [_, _], _ => rfl
  have FtNot := fun_mk (st := s_Not_truth) ltNot ctNot ktNot
  have btNot := FtNot.binds (ps := ["self", "row"]) fun _ _ _ _ _ _ us hl => match us, hl with | [_, _], _ => rfl
  have FtAnd := fun_mk (st := s_And_truth) ltAnd ctAnd ktAnd
  have btAnd := FtAnd.binds (ps := ["self", "row"]) fun _ _ _ _ _ _ us hl => match us, hl with | [_, _], _ => rfl
  have FtOr := fun_mk (st := s_Or_truth) ltOr ctOr ktOr
  have btOr := FtOr.binds (ps := ["self", "row"]) fun _ _ _ _ _ _ us hl => match us, hl with | [_, _], _ => rfl
  have FtEither := fun_mk (st := s_Either_truth) ltEither ctEither ktEither
  have btEither := FtEither.binds (ps := ["self", "row"]) fun _ _ _ _ _ _ us hl => match us, hl with | [_, _], _ => rfl
  have FiLetter := fun_mk (st := s_Letter_init) liLetter ciLetter kiLetter
  have biLetter := FiLetter.binds (ps := ["self", "letter"]) fun _ _ _ _ _ _ us hl => match us, hl with | [_, _], _ => rfl
  have FiNot := fun_mk (st := s_Not_init) liNot ciNot kiNot
  have biNot := FiNot.binds (ps := ["self", "one"]) fun _ _ _ _ _ _ us hl => match us, hl with | [_, _], _ => rfl
  have FiPair := fun_mk (st := s_Pair_init) liPair ciPair kiPair
  have biPair := FiPair.binds (ps := ["self", "one", "other"]) fun _ _ _ _ _ _ us hl => match us, hl with | [_, _, _], _ => rfl
  have m1 := PySem.W.mg_of X G a1
  have m2 := PySem.W.mg_of X G a2
  have m3 := PySem.W.mg_of X G a3
  have m4 := PySem.W.mg_of X G a4
  have m5 := PySem.W.mg_of X G a5
  have m6 := PySem.W.mg_of X G a6
  have m7 := PySem.W.mg_of X G a7
  have m8 := PySem.W.mg_of X G a8
  have mCAlways := PySem.W.mg_of X G nAlways
  have clAlways : Cls K CAlways := ⟨pgAlways, hdAlways, poAlways, saAlways⟩
  have mCNever := PySem.W.mg_of X G nNever
  have clNever : Cls K CNever := ⟨pgNever, hdNever, poNever, saNever⟩
  have mCLetter := PySem.W.mg_of X G nLetter
  have clLetter : Cls K CLetter := ⟨pgLetter, hdLetter, poLetter, saLetter⟩
  have mCNot := PySem.W.mg_of X G nNot
  have clNot : Cls K CNot := ⟨pgNot, hdNot, poNot, saNot⟩
  have mCAnd := PySem.W.mg_of X G nAnd
  have clAnd : Cls K CAnd := ⟨pgAnd, hdAnd, poAnd, saAnd⟩
  have mCOr := PySem.W.mg_of X G nOr
  have clOr : Cls K COr := ⟨pgOr, hdOr, poOr, saOr⟩
  have mCEither := PySem.W.mg_of X G nEither
  have clEither : Cls K CEither := ⟨pgEither, hdEither, poEither, saEither⟩
  let ca : CA := ⟨CAlways, CNever, CLetter, CNot, CAnd, COr, CEither⟩
  have C : CTxt K ca fiLetter fiNot fiPair := ⟨clAlways, clNever, clLetter, clNot, clAnd, clOr, clEither, ⟨mkAlways, inAlways, kpAlways⟩, ⟨mkNever, inNever, kpNever⟩, ⟨mkLetter, inLetter, ifiLetter, kpLetter⟩, ⟨mkNot, inNot, ifiNot, kpNot⟩, ⟨mkAnd, inAnd, ifiPair, kpAnd⟩, ⟨mkOr, inOr, ifiPair, kpOr⟩, ⟨mkEither, inEither, ifiPair, kpEither⟩, naLetterletter, naNotone, ⟨naAndone, naAndother⟩, ⟨naOrone, naOrother⟩, ⟨naEitherone, naEitherother⟩⟩
  have M : TTxt K ca ftAlways ftNever ftLetter ftNot ftAnd ftOr ftEither := ⟨⟨mtAlways, mfAlways, ktAlways⟩, ⟨mtNever, mfNever, ktNever⟩, ⟨mtLetter, mfLetter, ktLetter⟩, ⟨mtNot, mfNot, ktNot⟩, ⟨mtAnd, mfAnd, ktAnd⟩, ⟨mtOr, mfOr, ktOr⟩, ⟨mtEither, mfEither, ktEither⟩⟩
  refine ⟨PySem.W.fnOf "law" "law" (defArgs s_law) (defBody s_law) (defScope s_law) .none kV8 dc8 pm8 an8 cd8 ct8, fun s v => .of_eq rfl, fun base _ _ => ?_⟩
  have Gm : FnOk l.prog w K mg base CX0 1 f1 _ ["_law_script", "_law_k"] (spMixed2 K) := ok_mixed F1 T
  have Gl : FnOk l.prog w K mg base CX0 1 f2 _ ["_law_mix", "_law_letters"] spLeaf := ok_leaf F2 T
  have GS := ok_say F3 T Gm b1 k1 m1 Gl b2 k2 m2
  have GT := ok_true (P := l.prog) (w := w) (base := base) F4 T b4 m4 25
  have GU := ok_used (P := l.prog) (w := w) (base := base) F5 T b5 m5 25
  have GiL : FnOk l.prog w K mg base CX0 1 fiLetter _ ["self", "letter"] (spInit1 K "letter") := ok_initL FiLetter
  have GiN : FnOk l.prog w K mg base CX0 1 fiNot _ ["self", "one"] (spInit1 K "one") := ok_initN FiNot
  have GiP : FnOk l.prog w K mg base CX0 1 fiPair _ ["self", "one", "other"] (spInit2 K "one" "other") := ok_initP FiPair
  have GB := ok_obj (P := l.prog) (w := w) (base := base) F6 C mCAlways mCNever mCLetter mCNot mCAnd mCOr mCEither GiL biLetter GiN biNot GiP biPair b6 m6 27
  have GR : FnOk l.prog w K mg base CX0 1 f7 _ ["_law_letters"] (spRows2 K) := ok_rows F7 T
  have GO := ok_tok (P := l.prog) (w := w) (mg := mg) (base := base) C M btAlways btNever btLetter btNot btAnd btOr btEither FtAlways FtNever FtLetter FtNot FtAnd FtOr FtEither 25
  exact ok_law F8 T C M GO btAlways btNever btLetter btNot btAnd btOr btEither Gm b1 k1 m1 GS b3 k3 m3 GU b5 k5 m5 GT b4 k4 m4 GB b6 k6 m6 GR b7 k7 m7
end Law
set_option Elab.async false
set_option linter.all false
set_option maxRecDepth 100000
set_option maxHeartbeats 4000000
namespace Law
open PySem L2 Fs
theorem walk {l : PySem.W.OpenLaw} {q : Program} {loose : List Str} {XP : (Str → Option Value) → Heap → Prop} {YP : World → Heap → Prop} {d : DefRec} {K : Params → PySem.W.Frag} (hn : l.most = some 63) (hdf : d.params.defaults = [])
    (hY : ∀ (w : World) (h : Heap), YP w h → (K w.params).In h)
    (F : ∀ (w : World) (mg : Str → Option Value) (fa : Addr) (h : Heap), (K w.params).In h → h.Ns mainGlobals mg → mg d.name = some (.ref fa) →
      ∃ fd : FuncData, (∀ (s : Shared) (u : Value), BindsTo s fd ⟨[u], []⟩ [("_law_script", u)]) ∧ ∀ base : Heap, (K w.params).In base → base.Ns mainGlobals mg → FnOk l.prog w (K w.params) mg base CX0 30 fa fd ["_law_script"] (spLaw (K w.params))) :
    PySem.W.WalkO q loose XP YP l.row.toRowW d [] (fun f vs => PySem.call f vs) :=
  L2.walk_of (n := 63) (k := 30) (x := "_law_script") (CX := fun _ => CX0) (sp := fun w => spLaw (K w.params)) hn (by decide) hdf ⟨rfl, by decide, by decide⟩ hY F (fun _ _ a ns hl _ hS => ⟨a, ns, rfl, hS, hl, fun _ => rfl⟩) fun _ _ _ _ _ z => z
end Law
/- These names are taken here so that the head writes no twin of the top's nine largest heaps (their equations would take 38 MB of the compiled file); it then goes on with the heaps themselves. Nothing else hangs on them. -/
theorem PySem.W.Fast.tw18125808179843078667 : True := trivial
theorem PySem.W.Fast.tw15872890323504333610 : True := trivial
theorem PySem.W.Fast.tw10339771939660930515 : True := trivial
theorem PySem.W.Fast.tw5698452191953508805 : True := trivial
theorem PySem.W.Fast.tw745467450888163111 : True := trivial
theorem PySem.W.Fast.tw9376330904264749161 : True := trivial
theorem PySem.W.Fast.tw8462168705567200423 : True := trivial
theorem PySem.W.Fast.tw1687218686731441822 : True := trivial
theorem PySem.W.Fast.tw13046768008333376299 : True := trivial
open PySem PySem.W PyProof.Rows
set_option maxRecDepth 100000 in
set_option maxHeartbeats 0 in
theorem PySem.Challenge.cw_fillsay_k02_truths_holds : PySem.Challenge.rw_fillsay_k02_truths.Holds := by
  w_on; o_law; k_head; (case hw => w_witness2)
  k_fill
  refine Law.walk (l := PySem.Challenge.rw_fillsay_k02_truths) rfl rfl (fun w h Y => PySem.W.kIn_of Y) ?F
  case F =>
    intro w mg fa h KX G hmg
    refine' Law.all_mk KX G hmg ?a1 ?a2 ?a3 ?a4 ?a5 ?a6 ?a7 ?a8 ?l1 ?c1 ?k1 ?l2 ?c2 ?k2 ?l3 ?c3 ?k3 ?l4 ?c4 ?k4 ?l5 ?c5 ?k5 ?l6 ?c6 ?k6 ?l7 ?c7 ?k7 ?l8 ?c8 ?k8 ?nAlways ?pgAlways ?hdAlways ?poAlways ?saAlways ?mkAlways ?kpAlways ?mtAlways ?mfAlways ?nNever ?pgNever ?hdNever ?poNever ?saNever ?mkNever ?kpNever ?mtNever ?mfNever ?nLetter ?pgLetter ?hdLetter ?poLetter ?saLetter ?mkLetter ?kpLetter ?mtLetter ?mfLetter ?nNot ?pgNot ?hdNot ?poNot ?saNot ?mkNot ?kpNot ?mtNot ?mfNot ?nAnd ?pgAnd ?hdAnd ?poAnd ?saAnd ?mkAnd ?kpAnd ?mtAnd ?mfAnd ?nOr ?pgOr ?hdOr ?poOr ?saOr ?mkOr ?kpOr ?mtOr ?mfOr ?nEither ?pgEither ?hdEither ?poEither ?saEither ?mkEither ?kpEither ?mtEither ?mfEither ?inAlways ?inNever ?inLetter ?inNot ?inAnd ?inOr ?inEither ?ifiLetter ?ifiNot ?ifiPair ?naLetterletter ?naNotone ?naAndone ?naAndother ?naOrone ?naOrother ?naEitherone ?naEitherother ?ltAlways ?ctAlways ?ktAlways ?ltNever ?ctNever ?ktNever ?ltLetter ?ctLetter ?ktLetter ?ltNot ?ctNot ?ktNot ?ltAnd ?ctAnd ?ktAnd ?ltOr ?ctOr ?ktOr ?ltEither ?ctEither ?ktEither ?liLetter ?ciLetter ?kiLetter ?liNot ?ciNot ?kiNot ?liPair ?ciPair ?kiPair ?z1 ?z2 ?z3 ?z4 ?z5 ?z6 ?z7 ?z8 ?z9 ?z10 ?z11 ?z12 ?z13 ?z14 ?z15 ?z16
    (case a1 => k_is)
    (case a2 => k_is)
    (case a3 => k_is)
    (case a4 => k_is)
    (case a5 => k_is)
    (case a6 => k_is)
    (case a7 => k_is)
    (case a8 => k_is)
    (case l1 => k_is)
    (case c1 => k_is)
    (case k1 => k_is)
    (case l2 => k_is)
    (case c2 => k_is)
    (case k2 => k_is)
    (case l3 => k_is)
    (case c3 => k_is)
    (case k3 => k_is)
    (case l4 => k_is)
    (case c4 => k_is)
    (case k4 => k_is)
    (case l5 => k_is)
    (case c5 => k_is)
    (case k5 => k_is)
    (case l6 => k_is)
    (case c6 => k_is)
    (case k6 => k_is)
    (case l7 => k_is)
    (case c7 => k_is)
    (case k7 => k_is)
    (case l8 => k_is)
    (case c8 => k_is)
    (case k8 => k_is)
    (case nAlways => k_is)
    (case pgAlways => k_is)
    (case hdAlways => k_is)
    (case poAlways => k_is)
    (case saAlways => k_is)
    (case mkAlways => k_is)
    (case kpAlways => k_is)
    (case mtAlways => k_is)
    (case mfAlways => k_is)
    (case nNever => k_is)
    (case pgNever => k_is)
    (case hdNever => k_is)
    (case poNever => k_is)
    (case saNever => k_is)
    (case mkNever => k_is)
    (case kpNever => k_is)
    (case mtNever => k_is)
    (case mfNever => k_is)
    (case nLetter => k_is)
    (case pgLetter => k_is)
    (case hdLetter => k_is)
    (case poLetter => k_is)
    (case saLetter => k_is)
    (case mkLetter => k_is)
    (case kpLetter => k_is)
    (case mtLetter => k_is)
    (case mfLetter => k_is)
    (case nNot => k_is)
    (case pgNot => k_is)
    (case hdNot => k_is)
    (case poNot => k_is)
    (case saNot => k_is)
    (case mkNot => k_is)
    (case kpNot => k_is)
    (case mtNot => k_is)
    (case mfNot => k_is)
    (case nAnd => k_is)
    (case pgAnd => k_is)
    (case hdAnd => k_is)
    (case poAnd => k_is)
    (case saAnd => k_is)
    (case mkAnd => k_is)
    (case kpAnd => k_is)
    (case mtAnd => k_is)
    (case mfAnd => k_is)
    (case nOr => k_is)
    (case pgOr => k_is)
    (case hdOr => k_is)
    (case poOr => k_is)
    (case saOr => k_is)
    (case mkOr => k_is)
    (case kpOr => k_is)
    (case mtOr => k_is)
    (case mfOr => k_is)
    (case nEither => k_is)
    (case pgEither => k_is)
    (case hdEither => k_is)
    (case poEither => k_is)
    (case saEither => k_is)
    (case mkEither => k_is)
    (case kpEither => k_is)
    (case mtEither => k_is)
    (case mfEither => k_is)
    (case inAlways => k_is)
    (case inNever => k_is)
    (case inLetter => k_is)
    (case inNot => k_is)
    (case inAnd => k_is)
    (case inOr => k_is)
    (case inEither => k_is)
    (case ifiLetter => k_is)
    (case ifiNot => k_is)
    (case ifiPair => k_is)
    (case naLetterletter => k_is)
    (case naNotone => k_is)
    (case naAndone => k_is)
    (case naAndother => k_is)
    (case naOrone => k_is)
    (case naOrother => k_is)
    (case naEitherone => k_is)
    (case naEitherother => k_is)
    (case ltAlways => k_is)
    (case ctAlways => k_is)
    (case ktAlways => k_is)
    (case ltNever => k_is)
    (case ctNever => k_is)
    (case ktNever => k_is)
    (case ltLetter => k_is)
    (case ctLetter => k_is)
    (case ktLetter => k_is)
    (case ltNot => k_is)
    (case ctNot => k_is)
    (case ktNot => k_is)
    (case ltAnd => k_is)
    (case ctAnd => k_is)
    (case ktAnd => k_is)
    (case ltOr => k_is)
    (case ctOr => k_is)
    (case ktOr => k_is)
    (case ltEither => k_is)
    (case ctEither => k_is)
    (case ktEither => k_is)
    (case liLetter => k_is)
    (case ciLetter => k_is)
    (case kiLetter => k_is)
    (case liNot => k_is)
    (case ciNot => k_is)
    (case kiNot => k_is)
    (case liPair => k_is)
    (case ciPair => k_is)
    (case kiPair => k_is)
    (case z1 => k_is)
    (case z2 => k_is)
    (case z3 => k_is)
    (case z4 => k_is)
    (case z5 => k_is)
    (case z6 => k_is)
    (case z7 => k_is)
    (case z8 => k_is)
    (case z9 => k_is)
    (case z10 => k_is)
    (case z11 => k_is)
    (case z12 => k_is)
    (case z13 => k_is)
    (case z14 => k_is)
    (case z15 => k_is)
    (case z16 => k_is)

